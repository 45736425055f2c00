/- Texts of mine, one behind the other, of each what is wanted. -/
import Derived.Test.YtjhdhfokhkcamaaGreatQ00
import Derived.Test.YtjhdhfokhkcamaaGreatShelf
import Derived.Test.YtjhdhfokhkcamaaGreatRows
import Derived.Test.YtjhdhfokhkcamaaGreatQ01
import Derived.Test.YtjhdhfokhkcamaaGreatQ02
import Derived.Test.YtjhdhfokhkcamaaGreatQ06
import Derived.Test.YtjhdhfokhkcamaaGreatQ09
import Derived.Test.YtjhdhfokhkcamaaGreatQ11
import Derived.Test.YtjhdhfokhkcamaaGreatQ13
import Derived.Test.YtjhdhfokhkcamaaGreatQ14
import Derived.Test.YtjhdhfokhkcamaaGreatQ21
import Derived.Test.YtjhdhfokhkcamaaGreatQ28
import Derived.Test.YtjhdhfokhkcamaaGreatQ29
import Derived.Test.YtjhdhfokhkcamaaGreatQ33
import Derived.Test.YtjhdhfokhkcamaaGreatQ34
import Derived.Test.YtjhdhfokhkcamaaGreatQ36
import Derived.Test.YtjhdhfokhkcamaaGreatQ39
import Derived.Test.YtjhdhfokhkcamaaGreatQ40
import Derived.Test.YtjhdhfokhkcamaaGreatQ42
import Derived.Test.YtjhdhfokhkcamaaGreatQ44
import Derived.Test.YtjhdhfokhkcamaaGreatQ45
namespace Go.Proofs.YtjhdhfokhkcamaaGreat
open Go.RowKit Go.Proofs
set_option linter.unusedVariables false
set_option maxRecDepth 100000
theorem name_sz {s : ByteArray} (h : nameB s = true) : s.size ≤ maxLen := by
 unfold nameB isName at h
 simp only [Bool.and_eq_true, decide_eq_true_eq] at h
 have h1 := h.1.2
 have h2 : s.data.toList.length = s.size := rfl
 unfold maxLen
 omega
theorem sz_right {s : SaM} (h : RightS s) : SzS s := by
 refine ⟨fun e he => ?_, fun e he => name_sz (h.us e he).1, fun e he => ?_, fun e he => name_sz (h.tb e he).1⟩
 ·exact name_sz ((riseO_iff.1 h.op).2.1 e he).1
 ·obtain ⟨k, hk, rfl⟩ := List.getElem_of_mem he
  have := (h.su.rise k hk).1
  exact ⟨name_sz this.2.1, name_sz this.2.2⟩
theorem cntU_le : ∀ {l : List UsM}, ∀ x ∈ l, x.l.length ≤ cntU l
 | y :: l, x, hx => by
  rw [cntU_cons]
  rcases List.mem_cons.1 hx with rfl | hx
  ·omega
  ·have := cntU_le x hx
   omega
theorem few_cnt {x : SaL} {n : Nat} (h : stCnt x.m + x.us.length ≤ n) : Few x.m n := by
 have h0 : stCnt x.m = x.op.length + x.su.length + x.tb.length + cntU (umS x.us) := rfl
 have h1 : x.m.us.length = x.us.length := umS_len _
 refine ⟨?_, by omega, ?_, ?_, fun u hu => ?_⟩
 ·show x.op.length ≤ n; omega
 ·show x.su.length ≤ n; omega
 ·show x.tb.length ≤ n; omega
 ·have := cntU_le u hu
  show u.l.length ≤ n
  have h2 : cntU x.m.us = cntU (umS x.us) := rfl
  omega
theorem in_event {w : World} {x : SaL} (h : SaAt w x) (e : EvM) (t te : TypeId) : SB w w.heap.size t x ((w.alloc (.cells (saC x) t)).alloc (.cells #[.int .i64 e.kind, .int .i64 e.at_, .string e.user, .string e.other, .int .i64 e.n, .int .i64 e.status] te))
  ∧ EB w (w.heap.size + 1) te e ((w.alloc (.cells (saC x) t)).alloc (.cells #[.int .i64 e.kind, .int .i64 e.at_, .string e.user, .string e.other, .int .i64 e.n, .int .i64 e.status] te)) := by
 have S0 := SB.new (Below.refl w.heap.size w) h t
 refine ⟨S0.alloc _, ?_, by omega⟩
 have := heap_alloc_new (w.alloc (.cells (saC x) t)) (.cells #[.int .i64 e.kind, .int .i64 e.at_, .string e.user, .string e.other, .int .i64 e.n, .int .i64 e.status] te)
 rwa [size1] at this
theorem EB.cells {w W : World} {g : Nat} {t : TypeId} {e : EvM} (h : EB w g t e W) : W.cell? ⟨g, 0, none⟩ = some (.int .i64 e.kind) ∧ W.cell? ⟨g, 1, none⟩ = some (.int .i64 e.at_) ∧ W.cell? ⟨g, 2, none⟩ = some (.string e.user) ∧ W.cell? ⟨g, 3, none⟩ = some (.string e.other) ∧ W.cell? ⟨g, 4, none⟩ = some (.int .i64 e.n) ∧ W.cell? ⟨g, 5, none⟩ = some (.int .i64 e.status) :=
 ⟨cell_of_row _ _ _ _ _ _ h.blk, cell_of_row _ _ _ _ _ _ h.blk, cell_of_row _ _ _ _ _ _ h.blk, cell_of_row _ _ _ _ _ _ h.blk, cell_of_row _ _ _ _ _ _ h.blk, cell_of_row _ _ _ _ _ _ h.blk⟩
section
variable {M : SaM} (x y : SaL) (V : World) (h : SaAt V x) (k : SaAt V y) (hm : x.m = M) (km : y.m = M)
include h hm
theorem g_new (hf : Few M 900) : Calls Tryz.prog 15 #[saV x] V (Is V M) := by subst hm; exact lnew_any x V h hf
theorem g_old (hf : Few M 900) : Calls Tryz.prog 19 #[saV x] V (Is V M) := by subst hm; exact lold_any x V h hf
theorem g_right (hz : SzS M) (hf : Few M 900) (hr : RightS M) : Calls Tryz.prog 20 #[saV x] V fun r w' => r = .returned (.bool true) ∧ Below V.heap.size V w' := by
 subst hm
 have := right_any11 x V h hz (Nat.le_trans hf.op (by decide)) (Nat.le_trans (few_us hf) (by decide)) (Nat.le_trans hf.su (by decide)) (Nat.le_trans hf.tb (by decide)) (fun z hz => Nat.le_trans (umS_st hf.st z hz) (by decide))
 rwa [(rightB_iff _).2 hr] at this
theorem g_rrightB (hz : SzS M) (hf : Few M 900) : Calls Tryz.prog 13 #[saV x] V fun r w' => r = .returned (.bool (rightB M)) ∧ Below V.heap.size V w' := by
 subst hm
 have := rright_any11 x V h hz (Nat.le_trans hf.op (by decide)) (Nat.le_trans (few_us hf) (by decide)) (Nat.le_trans hf.su (by decide)) (Nat.le_trans hf.tb (by decide)) (fun z hz => Nat.le_trans (umS_st hf.st z hz) (by decide))
 refine this.mono fun r w' q => ?_
 cases hb : rightB x.m
 ·exact q.no (fun hr => by rw [(rightB_iff _).2 hr] at hb; cases hb)
 ·exact q.yes ((rightB_iff _).1 hb)
theorem g_rright (hz : SzS M) (hf : Few M 900) (hr : RightS M) : Calls Tryz.prog 13 #[saV x] V fun r w' => r = .returned (.bool true) ∧ Below V.heap.size V w' := by
 have := g_rrightB x V h hm hz hf
 rwa [(rightB_iff _).2 hr] at this
theorem g_rwrong (hz : SzS M) (hf : Few M 900) (hr : ¬ RightS M) : Calls Tryz.prog 13 #[saV x] V fun r w' => r = .returned (.bool false) ∧ Below V.heap.size V w' := by
 have := g_rrightB x V h hm hz hf
 rwa [Bool.eq_false_iff.2 fun hb => hr ((rightB_iff _).1 hb)] at this
include k km
theorem g_rsame (hf : Few M 900) : Calls Tryz.prog 18 #[saV x, saV y] V fun r w' => r = .returned (.bool true) ∧ Below V.heap.size V w' := by
 subst hm
 exact (rsame_any11 x y V h k hf (by rw [km]; exact hf)).mono fun r w' q => q.yes km.symm
end
def erV (s : SaM) (e : EvM) : Int := errS s e.kind e.at_ e.n e.status e.user e.other
def teV (s : SaM) (e : EvM) : SaM := tellS s e.kind e.at_ e.n e.status e.user e.other
theorem te_ok {s : SaM} {e : EvM} (h : RightS s) (he : erV s e = 0) : RightS (teV s e) ∧ stCnt (teV s e) ≤ stCnt s + 1 ∧ teV s e = goS s e.kind e.at_ e.n e.status e.user e.other := by
 have h1 : teV s e = goS s e.kind e.at_ e.n e.status e.user e.other := by unfold teV tellS; exact if_pos he
 rw [h1]
 exact ⟨right_go h he, cnt_go _ _ _ _ _ _ _, rfl⟩
theorem te_no {s : SaM} {e : EvM} (he : erV s e ≠ 0) : teV s e = saZ := by unfold teV tellS; exact if_neg he
theorem te_right {s : SaM} (h : RightS s) (e : EvM) : RightS (teV s e) := by
 by_cases he : erV s e = 0
 ·exact (te_ok h he).1
 ·rw [te_no he]; exact RightS.zero
theorem te_cnt {s : SaM} (h : RightS s) (e : EvM) : stCnt (teV s e) ≤ stCnt s + 1 := by
 by_cases he : erV s e = 0
 ·exact (te_ok h he).2.1
 ·rw [te_no he]; exact Nat.zero_le _
theorem g_apply {M : SaM} (x : SaL) (e : EvM) (V : World) (h : SaAt V x) (hm : x.m = M) (hr : RightS M) (hc : stCnt M ≤ 200) (hw : EFits e) : Calls Tryz.prog 16 #[saV x, evV e] V (Tells V (teV M e) (erV M e)) := by
 subst hm
 exact apply_any x e.kind e.at_ e.n e.status e.user e.other V h hr hc hw.1 hw.2
theorem g_rapply {M : SaM} (x : SaL) (e : EvM) (V : World) (h : SaAt V x) (hm : x.m = M) (hr : RightS M) (hc : stCnt M ≤ 200) (hw : EFits e) : Calls Tryz.prog 17 #[saV x, evV e] V (Tells V (teV M e) (erV M e)) := by
 subst hm
 exact rapply_any x e.kind e.at_ e.n e.status e.user e.other V h hr hc (sz_right hr) hw.1 hw.2
end Go.Proofs.YtjhdhfokhkcamaaGreat
