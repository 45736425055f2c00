/- Texts of mine, one behind the other, of each what is wanted. -/
import Derived.Test.YtmfpjapiijgdgaaGreatV00
import Derived.Test.YtmfpjapiijgdgaaGreatRows
import Derived.Test.YtmfpjapiijgdgaaGreatShelf
import Derived.Test.YtmfpjapiijgdgaaGreatV01
import Derived.Test.YtmfpjapiijgdgaaGreatV03
import Derived.Test.YtmfpjapiijgdgaaGreatV06
import Derived.Test.YtmfpjapiijgdgaaGreatV07
import Derived.Test.YtmfpjapiijgdgaaGreatV20
import Derived.Test.YtmfpjapiijgdgaaGreatV28
import Derived.Test.YtmfpjapiijgdgaaGreatV29
import Derived.Test.YtmfpjapiijgdgaaGreatV46
import Derived.Test.YtmfpjapiijgdgaaGreatV52
namespace Go.Proofs.YtmfpjapiijgdgaaGreat
set_option linter.unusedVariables false
set_option maxRecDepth 100000
theorem without_of {l : List EnM} {s w u : ByteArray} (h : w = s ∨ u = s) : (withoutS l s).filter (ofE w u) = [] := by
 rw [List.filter_eq_nil_iff]
 intro e he hc
 obtain ⟨h1, h2⟩ := ofE_iff.1 hc
 have h3 := (List.mem_filter.1 he).2
 rw [Bool.and_eq_true, decide_eq_true_iff, decide_eq_true_iff, h1, h2] at h3
 rcases h with h | h
 ·exact h3.1 h
 ·exact h3.2 h
theorem find_ins_self {α : Type} {key : α → ByteArray} {l : List α} (h : RiseK key l) {u : ByteArray} {x : α} (hx : key x = u) : (insK key u [x] l).find? (isKy key u) = some x :=
 (find_key (insK_rise h (fun y hy => by rw [List.mem_singleton.1 hy]; exact hx) (by simp))).2 ⟨insK_mem.2 (.inl (by simp)), hx⟩
theorem find_ins_none {α : Type} {key : α → ByteArray} {l : List α} {u : ByteArray} : (insK key u [] l).find? (isKy key u) = none := by
 rw [List.find?_eq_none]
 intro x hx hk
 rcases insK_mem.1 hx with h2 | h2
 ·cases h2
 ·exact h2.2 (isKy_iff.1 hk)
theorem ofU_put {l : List UsM} {u : ByteArray} {r : List StM} (h : RiseK UsM.u l) : ofU (putU l u r) u = r := by
 unfold ofU putU rowU
 cases r with
 | nil =>
  have h1 := find_ins_none (key := UsM.u) (l := l) (u := u)
  have e : (if ([] : List StM).isEmpty = true then [] else [(⟨u, []⟩ : UsM)]) = [] := rfl
  rw [e, h1]
 | cons a r =>
  have e : (if (a :: r).isEmpty = true then [] else [(⟨u, a :: r⟩ : UsM)]) = [⟨u, a :: r⟩] := rfl
  have h1 := find_ins_self (key := UsM.u) h (x := ⟨u, a :: r⟩) rfl
  rw [e, h1]
theorem stU_other {v : ByteArray} {w : Int} {e : OpM} (h : e.u ≠ v) : stU v w e = false := by
 unfold stU
 rw [decide_eq_false h, Bool.false_and]
theorem raw_gone {l : List OpM} {u : ByteArray} {w : Int} : rawO (l.filter (notU u)) u w = [] := by
 unfold rawO
 rw [List.filter_filter]
 have : l.filter (fun a => stU u w a && notU u a) = [] := by
  rw [List.filter_eq_nil_iff]
  intro e _
  by_cases h : e.u = u
  ·have h2 : notU u e = false := decide_eq_false fun h3 => h3 h
   rw [h2, Bool.and_false]; exact Bool.false_ne_true
  ·rw [stU_other h, Bool.false_and]; exact Bool.false_ne_true
 rw [this]
 rfl
theorem stays_gone {l : List OpM} {u : ByteArray} {w : Int} : staysO (l.filter (notU u)) u w = [] := by
 have h1 := (stays_is (l.filter (notU u)) u w _ (Nat.le_refl _)).1
 rw [List.take_of_length_le (Nat.le_refl _), raw_gone] at h1
 exact h1.eq_nil
theorem erase_stays {s : SaM} (h : RiseK UsM.u s.us) {a st n w : Int} {u o : ByteArray} : staysS (goS s 7 a n st u o) u w = [] := by
 show addsS (staysO (s.op.filter (notU u)) u w) (ofU (putU s.us u []) u) = []
 rw [stays_gone, ofU_put h]
 rfl
end Go.Proofs.YtmfpjapiijgdgaaGreat
namespace Go.Proofs.YtmfpjapiijgdgaaGreat
set_option linter.unusedVariables false
theorem erase_none {s : SaM} (h : RiseK UsM.u s.us) {a st n now f t : Int} {u w v o : ByteArray} (hv : w = u ∨ v = u) {m : List StM} (hm : IsRange (goS s 7 a n st u o) w v f t now m) : m = [] := by
 refine range_none ?_ hm
 rcases hv with hv | hv
 ·right
  intro x hx
  have e : perS (withoutS s.su u) w v = [] := by unfold perS; rw [without_of (Or.inl hv)]; rfl
  obtain ⟨y, hy, _⟩ := (show HasL (perS (withoutS s.su u) w v) x from hx)
  rw [e] at hy
  cases hy
 ·left
  rw [hv]
  exact erase_stays h
end Go.Proofs.YtmfpjapiijgdgaaGreat
namespace Go.Proofs.YtmfpjapiijgdgaaGreat
set_option maxRecDepth 100000
theorem closedGateErased : joinedFacts Tryz.pinned.checked.prog 15 Tryz.f15 (Rows.OpenSpec.upto Rows.gateErasedSpec).bare Rows.gateErasedUptoRow = true := by
 unfold joinedFacts
 rw [pf_heard, pf_maps, pf_laid, pf_keys, pf_lift, pf_enter]
 kernel_rfl
end Go.Proofs.YtmfpjapiijgdgaaGreat
namespace Go.Proofs.YtmfpjapiijgdgaaGreat
open Go.RowKit Go.Proofs
set_option linter.unusedVariables false
set_option maxRecDepth 100000
theorem qb_set {w W : World} {g k : Nat} {T : TypeId} {q : AskM} (h : QB w k T q W) (hg : w.heap.size ≤ g) (hne : k ≠ g) (i : Nat) (v : Value) : QB w k T q (W.setCell ⟨g, i, none⟩ v) := ⟨(block_far hne).trans h.blk, h.ge, h.frame.setCell (p := ⟨g, i, none⟩) hg _⟩
theorem qb_setS {w W : World} {g k : Nat} {T : TypeId} {q : AskM} (h : QB w k T q W) (hg : w.heap.size ≤ g) (hne : k ≠ g) (y : SaL) : QB w k T q (setS W g y) := by
 unfold setS
 exact qb_set (qb_set (qb_set (qb_set (qb_set (qb_set h hg hne 0 _) hg hne 1 _) hg hne 2 _) hg hne 3 _) hg hne 4 _) hg hne 5 _
theorem SQ.over {w W : World} {g k r : Nat} {T U R : TypeId} {x z y : SaL} {q : AskM} (h : SQ w g k T U x q W) (hZ : SB w r R z W) (hy : SaAt W y) (n1 : g ≠ r) (n2 : k ≠ r) : SQ w g k T U x q (setS W r y) ∧ SB w r R y (setS W r y) :=
 ⟨⟨(hZ.over hy h.s n1).2, qb_setS h.q hZ.ge n2 y⟩, hZ.set hy⟩
theorem S5.drew {w W : World} {x : SaL} {q : AskM} {g : Nat} {y : SaL} (h : S5 w x q g y W) : S5 w x q g y W.drew := h.below (Below.refl _ _).drew
end Go.Proofs.YtmfpjapiijgdgaaGreat
