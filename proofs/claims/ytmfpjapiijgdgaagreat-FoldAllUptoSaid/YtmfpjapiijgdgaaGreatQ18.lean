/- Texts of mine, one behind the other, of each what is wanted. -/
import Derived.Test.YtmfpjapiijgdgaaGreatQ00
import Derived.Test.YtmfpjapiijgdgaaGreatShelf
import Derived.Test.YtmfpjapiijgdgaaGreatRows
import Derived.Test.YtmfpjapiijgdgaaGreatQ01
import Derived.Test.YtmfpjapiijgdgaaGreatQ12
import Derived.Test.YtmfpjapiijgdgaaGreatQ17
namespace Go.Proofs.YtmfpjapiijgdgaaGreat
set_option linter.unusedVariables false
set_option maxRecDepth 100000
instance riseDec (l : List StM) : Decidable (RiseS l) := by unfold RiseS; infer_instance
instance okODec (e : OpM) : Decidable (OkO e) := by unfold OkO; infer_instance
instance riseODec (l : List OpM) : Decidable (RiseO l) := by unfold RiseO; infer_instance
instance okDec (e : EnM) : Decidable (OkE e) := by unfold OkE; infer_instance
instance folDec (a b : EnM) : Decidable (FolE a b) := by unfold FolE; infer_instance
instance riseEDec (l : List EnM) : Decidable (RiseE l) := by unfold RiseE; infer_instance
theorem riseK_at {α : Type} {key : α → ByteArray} {l : List α} : RiseK key l ↔ ∀ k (h : k < l.length), 0 < k → cmpS (key (l[k - 1]'(by omega))) (key l[k]) < 0 := by
 constructor
 ·intro h k hk h0
  exact List.pairwise_iff_getElem.1 h (k - 1) k (by omega) hk (by omega)
 ·intro h
  unfold RiseK
  rw [List.pairwise_iff_getElem]
  intro i j hi hj hij
  induction j with
  | zero => omega
  | succ j ih =>
   have h1 := h (j + 1) hj (by omega)
   rcases Nat.lt_or_ge i j with h2 | h2
   ·exact cmpS_trans (ih (by omega) h2) h1
   ·obtain rfl : i = j := by omega
    exact h1
theorem cntU_take (l : List UsM) (j : Nat) (h : j < l.length) : cntU (l.take (j + 1)) = cntU (l.take j) + l[j].l.length := by
 rw [List.take_succ_eq_append_getElem h, cntU_append]
 simp [cntU]
end Go.Proofs.YtmfpjapiijgdgaaGreat
namespace Go.Proofs.YtmfpjapiijgdgaaGreat
open Go.RowKit
set_option linter.unusedVariables false
set_option maxRecDepth 100000
set_option maxRecDepth 100000
def I64 (n : Int) : Prop := -9223372036854775808 ≤ n ∧ n ≤ 9223372036854775807
theorem oes_take (l : List OpM) (j : Nat) (h : j < l.length) : oes (l.take (j + 1)) = oes (l.take j) ++ [.int .i64 l[j].n, .string l[j].u, .int .i64 l[j].s, .int .i64 l[j].f] := by
 rw [List.take_succ_eq_append_getElem h]; exact oes_snoc _ _
theorem ens_take (l : List EnM) (j : Nat) (h : j < l.length) : ens (l.take (j + 1)) = ens (l.take j) ++ [.string l[j].w, .string l[j].u, .int .i64 l[j].f, .int .i64 l[j].t] := by
 rw [List.take_succ_eq_append_getElem h]; exact ens_snoc _ _
theorem within_any (n a b : Int) (w : World) : Calls Tryz.prog 214 #[.int .i64 n, .int .i64 a, .int .i64 b] w fun e w' => e = .returned (.bool (decide (a ≤ n) && decide (n ≤ b))) ∧ w' = w := by
 by_cases h1 : a ≤ n
 ·have d1 := decide_eq_true h1
  rw [d1]
  clear h1
  go_enter Tryz.func214, Tryz.ntmps214
  go_wp2
  go_ret
  exact ⟨by simp, rfl⟩
 ·have d1 := decide_eq_false h1
  rw [d1]
  clear h1
  go_enter Tryz.func214, Tryz.ntmps214
  go_wp2
  go_ret
  exact ⟨by simp, rfl⟩
end Go.Proofs.YtmfpjapiijgdgaaGreat
namespace Go.Proofs.YtmfpjapiijgdgaaGreat
open Go.RowKit Go.Proofs
set_option linter.unusedVariables false
set_option maxRecDepth 100000
set_option maxRecDepth 100000
theorem RsO.at_ {w W : World} {g : Nat} {x : OpM} {b off : Nat} {l : List OpM} (h : RsO w g x (some ⟨b, off, none⟩) l W) {k : Nat} (hk : k < l.length) :
  W.cell? ⟨g, 0, none⟩ = some (.int .i64 x.n) ∧ W.cell? ⟨g, 1, none⟩ = some (.string x.u) ∧ W.cell? ⟨g, 2, none⟩ = some (.int .i64 x.s) ∧ W.cell? ⟨g, 3, none⟩ = some (.int .i64 x.f) ∧ W.cell? ⟨b, off + k * 4, none⟩ = some (.int .i64 l[k].n) ∧ W.cell? ⟨b, off + k * 4 + 1, none⟩ = some (.string l[k].u) ∧ W.cell? ⟨b, off + k * 4 + 2, none⟩ = some (.int .i64 l[k].s) ∧ W.cell? ⟨b, off + k * 4 + 3, none⟩ = some (.int .i64 l[k].f) := by
 obtain ⟨_, _, e, _, h0, h1, h2, h3⟩ := h.row.at_ hk
 cases e
 exact ⟨h.box.1, h.box.2.1, h.box.2.2.1, h.box.2.2.2, h0, h1, h2, h3⟩
end Go.Proofs.YtmfpjapiijgdgaaGreat
namespace Go.Proofs.YtmfpjapiijgdgaaGreat
open Go.RowKit Go.Sort Go.Proofs
set_option linter.unusedVariables false
set_option maxRecDepth 100000
set_option maxRecDepth 100000
def RiseTo (l : List StM) (j : Nat) : Prop := ∀ k (h : k < l.length), k < j → l[k].f < l[k].t ∧ (0 < k → ltSt (l[k - 1]'(by omega)) l[k])
theorem RiseTo.all {l : List StM} (h : RiseTo l l.length) : RiseS l := fun k hk => h k hk hk
theorem RiseTo.next {l : List StM} {j : Nat} (h : RiseTo l j) (hj : j < l.length) (h1 : l[j].f < l[j].t) (h2 : 0 < j → ltSt (l[j - 1]'(by omega)) l[j]) : RiseTo l (j + 1) := fun k hk hkj => by
 rcases Nat.lt_or_ge k j with h3 | h3
 ·exact h k hk h3
 ·obtain rfl : k = j := by omega
  exact ⟨h1, h2⟩
end Go.Proofs.YtmfpjapiijgdgaaGreat
namespace Go.Proofs.YtmfpjapiijgdgaaGreat
open Go.RowKit
set_option linter.unusedVariables false
set_option maxRecDepth 100000
set_option maxRecDepth 100000
set_option maxHeartbeats 2000000 in
theorem onews_any (a : Option Addr) (c : Nat) (l : List OpM) (w : World) (hr : OpSl w a l) (hl : l.length ≤ 1000000) :
  Calls Tryz.prog 71 #[.slice a l.length c] w fun e w' => ∃ (v : Value), e = .returned v ∧ w'.ownsRow w.heap.size 184 4 v l.length (oes l) ∧ Below w.heap.size w w' := by
 obtain ⟨i0, hi, hz0, hz1, hz2⟩ := info_parts infoOp
 have HR := Lib.hid hr
 clear hr
 go_enter Tryz.func71, Tryz.ntmps71
 go_wp2
 go_loopw [3, 8] (fun v i wr => ∃ (j : Nat), j ≤ l.length ∧ i = .int .i64 j ∧ Hid (wr.ownsRow w.heap.size 184 4 v j (oes (l.take j))) ∧ Hid (Below w.heap.size w wr)) (fun _ i _ => l.length - (intOf i).toNat)
 case atStart => exact ⟨0, by omega, rfl, ⟨rfl, .inl ⟨rfl, rfl⟩⟩, Below.refl _ _⟩
 case round =>
  obtain ⟨j, hj, rfl, HO, HB⟩ := hrel
  by_cases hjl : j < l.length
  ·obtain ⟨b, off, rfl, hbl, hc0, hc1, hc2, hc3⟩ := (HR.out.below HB.out).at_ hjl
   have HC := Lib.hid (oes_take l j hjl)
   generalize l[j] = x at *
   have hbt := below_two wr (.cells #[.int .i64 x.n, .string x.u, .int .i64 x.s, .int .i64 x.f] 129) (.cells #[.int .i64 x.n, .string x.u, .int .i64 x.s, .int .i64 x.f] 184)
   have HO2 := Lib.hid (own_below HO.out hbt)
   have HB2 : Hid (Below w.heap.size w ((wr.alloc (.cells #[.int .i64 x.n, .string x.u, .int .i64 x.s, .int .i64 x.f] 129)).alloc (.cells #[.int .i64 x.n, .string x.u, .int .i64 x.s, .int .i64 x.f] 184))) := HB.out.trans (hbt.mono HB.out.size)
   have HS2 := Lib.hid HB2.out.size
   clear hbt
   go_wp2_with (at_builtin; refine wpList_append_own _ rfl (.tmp 12) (.tmp 14) 34 rfl w.heap.size 184 i0 _ 4 40 Tryz.underlying34 hi hz0 hz1 hz2 rfl (by decide) _ _ _ rfl HO2.out ⟨wr.heap.size + 1, 0, none⟩ 1 1 [.int .i64 x.n, .string x.u, .int .i64 x.s, .int .i64 x.f] rfl rfl (news_at _ _ _ _ (size1 _ _).symm) (four_o _ _ _ _) (by unfold maxLen; omega) (by omega) HS2.out ?_; intro v' w3 hown' hgrow hiff)
   have HB3 := Lib.hid (app_below HB2.out HS2.out HO2.out hgrow)
   have HO3 := Lib.hid hown'
   clear hown' hgrow hiff HB2 HS2 HO2
   go_wp2
   go_roundw
   case rel => exact ⟨j + 1, by omega, by go_num, (by unfold Hid; rw [HC.out]; exact HO3.out), HB3⟩
   case measure => simp [intOf]; omega
  ·obtain rfl : j = l.length := by omega
   rw [List.take_of_length_le (Nat.le_refl _)] at HO
   go_wp2
   go_ret
   exact ⟨_, rfl, HO.out, HB.out⟩
end Go.Proofs.YtmfpjapiijgdgaaGreat
namespace Go.Proofs.YtmfpjapiijgdgaaGreat
open Go.RowKit Go.Sort Go.Proofs
set_option linter.unusedVariables false
set_option maxRecDepth 100000
set_option maxRecDepth 100000
def SzO (l : List OpM) : Prop := ∀ e ∈ l, e.u.size ≤ maxLen
end Go.Proofs.YtmfpjapiijgdgaaGreat
namespace Go.Proofs.YtmfpjapiijgdgaaGreat
open Go.RowKit
set_option linter.unusedVariables false
set_option maxRecDepth 100000
set_option maxRecDepth 100000
def eRiseTo (l : List EnM) (j : Nat) : Prop := ∀ k (h : k < l.length), k < j → OkE l[k] ∧ (0 < k → FolE (l[k - 1]'(by omega)) l[k])
theorem eRiseTo.all {l : List EnM} (h : eRiseTo l l.length) : RiseE l := fun k hk => h k hk hk
theorem eRiseTo.next {l : List EnM} {j : Nat} (h : eRiseTo l j) (hj : j < l.length) (h1 : OkE l[j]) (h2 : 0 < j → FolE (l[j - 1]'(by omega)) l[j]) : eRiseTo l (j + 1) := fun k hk hkj => by
 rcases Nat.lt_or_ge k j with h3 | h3
 ·exact h k hk h3
 ·obtain rfl : k = j := by omega
  exact ⟨h1, h2⟩
end Go.Proofs.YtmfpjapiijgdgaaGreat
namespace Go.Proofs.YtmfpjapiijgdgaaGreat
open Go.ChangeShapes Go.WideShapes Go.ChangeAt Go.RowKit
set_option linter.unusedVariables false
set_option maxRecDepth 100000
set_option maxRecDepth 100000
theorem wf64 {n : Int} (h : (Lit.int .i64 n).wf = true) : I64 n := by
 have e1 : IntKind.i64.min = -9223372036854775808 := by decide
 have e2 : IntKind.i64.max = 9223372036854775807 := by decide
 have h' : (decide (IntKind.i64.min ≤ n) && decide (n ≤ IntKind.i64.max)) = true := h
 rw [e1, e2, Bool.and_eq_true, decide_eq_true_eq, decide_eq_true_eq] at h'
 exact h'
end Go.Proofs.YtmfpjapiijgdgaaGreat
namespace Go.Proofs.YtmfpjapiijgdgaaGreat
open Go.RowKit Go.Proofs
set_option linter.unusedVariables false
set_option maxRecDepth 100000
set_option maxRecDepth 100000
theorem own_grown {w w' : World} {B B2 : Nat} {e e2 : TypeId} {k k2 n n2 : Nat} {v v2 : Value} {xs xs2 : List Value} (hv : w.ownsRow B e k v n xs) (h2 : w.ownsRow B2 e2 k2 v2 n2 xs2) (hne : e ≠ e2) (hg : w.grownBy w' v.ownBlock) : w'.ownsRow B2 e2 k2 v2 n2 xs2 := by
 refine ⟨h2.1, ?_⟩
 rcases h2.2 with ⟨h3, h4⟩ | ⟨g, cap, cur, h3, h4, h5, h6⟩
 ·exact .inl ⟨h3, h4⟩
 ·refine .inr ⟨g, cap, cur, h3, h4, ?_, h6⟩
  rw [hg.block g (heap_lt h5) ?_, h5]
  rcases hv.2 with ⟨h7, _⟩ | ⟨g', cap', cur', h7, _, h8, _⟩
  ·rw [h7]; simp [Value.ownBlock]
  ·rw [h7]
   intro e1
   simp only [Value.ownBlock] at e1
   injection e1 with e1
   subst e1
   rw [h5] at h8
   injection h8 with h8
   injection h8 with _ h8
   exact hne h8.symm
def OwnSt (W : World) (B : Nat) (y : UsL) : Prop := W.ownsRow B 111 4 (.slice y.a y.l.length y.c) y.l.length (sts y.l)
theorem OwnSt.at_ {W : World} {B : Nat} {y : UsL} (h : OwnSt W B y) : UsAt W y := by
 obtain ⟨x, q, h1, h2, h3, h4, h5⟩ := own_st h
 injection h1 with k1 k2 k3
 subst k1 k3
 exact ⟨h4, h2, h3, h5⟩
def clampN (n l m : Nat → Int) (i : Nat) : Int := min (max (n i) (l i)) (m i)
def wiB (n l m : Nat → Int) : Bool := (clampN n l m 0 == n 0) && ((clampN n l m 1 == n 1) && ((clampN n l m 2 == n 2) && (clampN n l m 3 == n 3)))
def latS (op : List OpM) (now n : Int) : Int := if h : op.findIdx (hasN n) < op.length then op[op.findIdx (hasN n)].f else now
def stayB (s : SaM) (x : StM) : Bool := wiB (v4 x.f x.t x.n x.s) (v4 0 0 1 1) (v4 s.now (latS s.op s.now x.n) 999 4)
def staysB (s : SaM) (l : List StM) : Bool := decide (0 < l.length) && (decide (RiseS l) && l.all (stayB s))
def timesB (s : SaM) (e : EnM) : Bool := decide (0 ≤ e.f) && (decide (e.f ≤ s.now) && (decide (e.t ≤ s.now) || (e.t == 1099511627776)))
def tombB (s : SaM) (x : TbM) : Bool := decide (0 ≤ x.a) && decide (x.a ≤ s.now)
def fromB (s : SaM) (e : OpM) : Bool := decide (e.f ≤ s.now)
end Go.Proofs.YtmfpjapiijgdgaaGreat
