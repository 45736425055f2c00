/- Texts of mine, one behind the other, of each what is wanted. -/
import Derived.Test.YtmfpjapiijgdgaaGreatQ00
import Derived.Test.YtmfpjapiijgdgaaGreatShelf
import Derived.Test.YtmfpjapiijgdgaaGreatRows
import Derived.Test.YtmfpjapiijgdgaaGreatQ01
import Derived.Test.YtmfpjapiijgdgaaGreatQ17
import Derived.Test.YtmfpjapiijgdgaaGreatQ21
import Derived.Test.YtmfpjapiijgdgaaGreatQ31
namespace Go.Proofs.YtmfpjapiijgdgaaGreat
set_option linter.unusedVariables false
set_option maxRecDepth 100000
theorem find_ins_other {α : Type} {key : α → ByteArray} {l m : List α} (h : RiseK key l) {u v : ByteArray} (hm : ∀ x ∈ m, key x = u) (h1 : m.length ≤ 1) (hv : v ≠ u) : (insK key u m l).find? (isKy key v) = l.find? (isKy key v) := by
 have hr := insK_rise h hm h1
 cases hf : l.find? (isKy key v) with
 | none =>
  rw [List.find?_eq_none] at hf ⊢
  intro x hx hk
  rcases insK_mem.1 hx with h2 | h2
  ·exact hv ((isKy_iff.1 hk).symm.trans (hm x h2))
  ·exact hf x h2.1 hk
 | some x =>
  obtain ⟨h2, h3⟩ := (find_key h).1 hf
  exact (find_key hr).2 ⟨insK_mem.2 (.inr ⟨h2, fun e => hv (h3.symm.trans e)⟩), h3⟩
theorem ofU_other {l : List UsM} {u v : ByteArray} {r : List StM} (h : RiseK UsM.u l) (hv : v ≠ u) : ofU (putU l u r) v = ofU l v := by
 unfold ofU putU
 rw [find_ins_other h rowU_u rowU_len hv]
theorem ofU_add_other {l : List UsM} {u v : ByteArray} {x : StM} (h : RiseK UsM.u l) (hv : v ≠ u) : ofU (addU l u x) v = ofU l v := by
 unfold addU
 split
 ·rw [ofU_other h hv]
 ·rfl
end Go.Proofs.YtmfpjapiijgdgaaGreat
namespace Go.Proofs.YtmfpjapiijgdgaaGreat
open Go.RowKit Go.Proofs
set_option linter.unusedVariables false
set_option maxRecDepth 100000
set_option maxRecDepth 100000
theorem stays_few {s : SaM} (h : Few s 400) (u : ByteArray) (t : Int) : (staysS s u t).length ≤ 1000 := by
 have h1 := addsS_len (staysO s.op u t) (ofU s.us u)
 have h2 := staysO_few s.op u t h.op
 have h3 := ofU_few h u
 unfold staysS
 omega
theorem g_olds (a : Option Addr) (c : Nat) (l : List StM) (W : World) (h : StSl W a l) (hl : l.length ≤ 1000) : Calls Tryz.prog 38 #[.slice a l.length c] W fun e w' => ∃ x q, e = .returned (.slice x l.length q) ∧ StSl w' x l ∧ Below W.heap.size W w' := by
 refine (solds_any a c l W h (by omega)).mono ?_
 rintro e w' ⟨v, rfl, ho, hb⟩
 obtain ⟨x, q, rfl, h1, h2, h3, h4⟩ := own_st ho
 exact ⟨x, q, rfl, h3, hb⟩
theorem g_ssame (a b : Option Addr) (c q : Nat) (l : List StM) (W : World) (ha : StSl W a l) (hb : StSl W b l) (hl : l.length ≤ 1000) : Calls Tryz.prog 37 #[.slice a l.length c, .slice b l.length q] W fun e w' => e = .returned (.bool true) ∧ Below W.heap.size W w' := by
 have h := srefSame_any a b c q l l W ha hb (by unfold maxLen; omega) (by unfold maxLen; omega)
 rwa [decide_eq_true rfl] at h
section
variable {M : SaM} (x y : SaL) (V : World) (h : SaAt V x) (k : SaAt V y) (hm : x.m = M) (km : y.m = M)
include h hm
theorem g_stays (u : ByteArray) (t : Int) (hf : Few M 400) : Calls Tryz.prog 39 #[saV x, .string u, .int .i64 t] V fun r w' => ∃ a q, r = .returned (.slice a (staysS M u t).length q) ∧ StSl w' a (staysS M u t) ∧ Below V.heap.size V w' := by subst hm; exact stays_any11 x u t V h hf
include k km
end
end Go.Proofs.YtmfpjapiijgdgaaGreat
