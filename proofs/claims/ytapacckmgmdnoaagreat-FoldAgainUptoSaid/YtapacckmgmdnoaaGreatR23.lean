/- Texts of mine, one behind the other, of each what is wanted. -/
import Derived.Test.YtapacckmgmdnoaaGreatR00
import Derived.Test.YtapacckmgmdnoaaGreatShelf
import Derived.Test.YtapacckmgmdnoaaGreatRows
import Derived.Test.YtapacckmgmdnoaaGreatR01
import Derived.Test.YtapacckmgmdnoaaGreatR03
import Derived.Test.YtapacckmgmdnoaaGreatR04
import Derived.Test.YtapacckmgmdnoaaGreatR12
import Derived.Test.YtapacckmgmdnoaaGreatR18
import Derived.Test.YtapacckmgmdnoaaGreatR22
namespace Go.Proofs.YtapacckmgmdnoaaGreat
set_option linter.unusedVariables false
set_option maxRecDepth 100000
instance okDec (e : EnM) : Decidable (OkE e) := by unfold OkE; infer_instance
instance folDec (a b : EnM) : Decidable (FolE a b) := by unfold FolE; infer_instance
instance riseEDec (l : List EnM) : Decidable (RiseE l) := by unfold RiseE; infer_instance
theorem riseK_at {α : Type} {key : α → ByteArray} {l : List α} : RiseK key l ↔ ∀ k (h : k < l.length), 0 < k → cmpS (key (l[k - 1]'(by omega))) (key l[k]) < 0 := by
 constructor
 ·intro h k hk h0
  exact List.pairwise_iff_getElem.1 h (k - 1) k (by omega) hk (by omega)
 ·intro h
  unfold RiseK
  rw [List.pairwise_iff_getElem]
  intro i j hi hj hij
  induction j with
  | zero => omega
  | succ j ih =>
   have h1 := h (j + 1) hj (by omega)
   rcases Nat.lt_or_ge i j with h2 | h2
   ·exact cmpS_trans (ih (by omega) h2) h1
   ·obtain rfl : i = j := by omega
    exact h1
theorem cntU_take (l : List UsM) (j : Nat) (h : j < l.length) : cntU (l.take (j + 1)) = cntU (l.take j) + l[j].l.length := by
 rw [List.take_succ_eq_append_getElem h, cntU_append]
 simp [cntU]
end Go.Proofs.YtapacckmgmdnoaaGreat
namespace Go.Proofs.YtapacckmgmdnoaaGreat
open Go.RowKit
set_option linter.unusedVariables false
set_option maxRecDepth 100000
set_option maxRecDepth 100000
def I64 (n : Int) : Prop := -9223372036854775808 ≤ n ∧ n ≤ 9223372036854775807
theorem sts_take (l : List StM) (j : Nat) (h : j < l.length) : sts (l.take (j + 1)) = sts (l.take j) ++ [.int .i64 l[j].f, .int .i64 l[j].t, .int .i64 l[j].n, .int .i64 l[j].s] := by
 rw [List.take_succ_eq_append_getElem h]; exact sts_snoc _ _
theorem oes_take (l : List OpM) (j : Nat) (h : j < l.length) : oes (l.take (j + 1)) = oes (l.take j) ++ [.int .i64 l[j].n, .string l[j].u, .int .i64 l[j].s, .int .i64 l[j].f] := by
 rw [List.take_succ_eq_append_getElem h]; exact oes_snoc _ _
theorem ens_take (l : List EnM) (j : Nat) (h : j < l.length) : ens (l.take (j + 1)) = ens (l.take j) ++ [.string l[j].w, .string l[j].u, .int .i64 l[j].f, .int .i64 l[j].t] := by
 rw [List.take_succ_eq_append_getElem h]; exact ens_snoc _ _
theorem pps_snoc (l : List (Value × Value)) (x : Value × Value) : pps (l ++ [x]) = pps l ++ [x.1, x.2] := by simp [pps]
structure SzS (x : SaM) : Prop where
 op : ∀ e ∈ x.op, e.u.size ≤ maxLen
 us : ∀ e ∈ x.us, e.u.size ≤ maxLen
 su : ∀ e ∈ x.su, e.w.size ≤ maxLen ∧ e.u.size ≤ maxLen
 tb : ∀ e ∈ x.tb, e.u.size ≤ maxLen
end Go.Proofs.YtapacckmgmdnoaaGreat
namespace Go.Proofs.YtapacckmgmdnoaaGreat
open Go.RowKit Go.Sort Go.Proofs
set_option linter.unusedVariables false
set_option maxRecDepth 100000
set_option maxRecDepth 100000
def RiseTo (l : List StM) (j : Nat) : Prop := ∀ k (h : k < l.length), k < j → l[k].f < l[k].t ∧ (0 < k → ltSt (l[k - 1]'(by omega)) l[k])
theorem RiseTo.all {l : List StM} (h : RiseTo l l.length) : RiseS l := fun k hk => h k hk hk
theorem RiseTo.next {l : List StM} {j : Nat} (h : RiseTo l j) (hj : j < l.length) (h1 : l[j].f < l[j].t) (h2 : 0 < j → ltSt (l[j - 1]'(by omega)) l[j]) : RiseTo l (j + 1) := fun k hk hkj => by
 rcases Nat.lt_or_ge k j with h3 | h3
 ·exact h k hk h3
 ·obtain rfl : k = j := by omega
  exact ⟨h1, h2⟩
end Go.Proofs.YtapacckmgmdnoaaGreat
namespace Go.Proofs.YtapacckmgmdnoaaGreat
open Go.RowKit
set_option linter.unusedVariables false
set_option maxRecDepth 100000
set_option maxRecDepth 100000
set_option maxHeartbeats 2000000 in
theorem eahead_any (a b : EnM) (w : World) (h1 : a.w.size ≤ maxLen) (h2 : a.u.size ≤ maxLen) (h3 : b.w.size ≤ maxLen) (h4 : b.u.size ≤ maxLen) :
  Calls Tryz.prog 137 #[enV a, enV b] w fun e w' => e = .returned (.bool (decide (aheadE a b))) ∧ Below w.heap.size w w' := by
 have K0 := Lib.hid (TwE.new w a b 135 135)
 have HC1 := Lib.hid (fun W => refCmp_any a.w b.w W h1 h3)
 have HC2 := Lib.hid (fun W => refCmp_any a.u b.u W h2 h4)
 have HP : aheadE a b ↔ (pc a b < 0 ∨ (pc a b = 0 ∧ a.f < b.f)) := Iff.rfl
 have hpc : pc a b = if cmpS a.w b.w = 0 then cmpS a.u b.u else cmpS a.w b.w := rfl
 rw [hpc] at HP
 have e1 : Lib.compareBytes a.w.data.toList b.w.data.toList = cmpS a.w b.w := rfl
 have e2 : Lib.compareBytes a.u.data.toList b.u.data.toList = cmpS a.u b.u := rfl
 rw [e1] at HC1
 rw [e2] at HC2
 clear hpc e1 e2 h1 h2 h3 h4
 unfold enV
 generalize cmpS a.w b.w = c at *
 generalize cmpS a.u b.u = d at *
 have HF : Hid (∀ x : Bool, (x = true ↔ aheadE a b) → x = decide (aheadE a b)) := fun x h => by
  cases x with
  | true => exact (decide_eq_true (h.1 rfl)).symm
  | false => exact (decide_eq_false (fun k => by cases h.2 k)).symm
 by_cases h1 : c = 0
 ·subst h1
  rw [if_pos rfl] at HP
  have k1 : ((0 : Int) != 0) = false := rfl
  by_cases h2 : d = 0
  ·subst h2
   have HE := Lib.hid (HF.out (decide (a.f < b.f)) (by rw [HP, decide_eq_true_iff]; omega))
   clear HF HP
   go_enter Tryz.func137, Tryz.ntmps137
   go_wp2_with fail
   refine (HC1.out _).mono ?_
   rintro e w2 ⟨rfl, hB⟩
   have K1 := Lib.hid (K0.out.below (Drew.below hB _))
   obtain ⟨a0, a1, a2, a3⟩ := K1.out.a
   obtain ⟨b0, b1, b2, b3⟩ := K1.out.b
   clear K0 HC1 hB
   go_wp2_with fail
   refine (HC2.out _).mono ?_
   rintro e w3 ⟨rfl, hB⟩
   have K2 := Lib.hid (K1.out.below (Drew.below hB _))
   clear a0 a1 a2 a3 b0 b1 b2 b3 K1
   obtain ⟨a0, a1, a2, a3⟩ := K2.out.a
   obtain ⟨b0, b1, b2, b3⟩ := K2.out.b
   clear HC2 hB
   go_wp2
   go_ret
   exact ⟨by rw [← HE.out]; rfl, K2.out.frame⟩
  ·have HE := Lib.hid (HF.out (decide (d < 0)) (by rw [HP, decide_eq_true_iff]; omega))
   have k2 : (d != 0) = true := bne_iff_ne.2 h2
   clear HF HP
   go_enter Tryz.func137, Tryz.ntmps137
   go_wp2_with fail
   refine (HC1.out _).mono ?_
   rintro e w2 ⟨rfl, hB⟩
   have K1 := Lib.hid (K0.out.below (Drew.below hB _))
   obtain ⟨a0, a1, a2, a3⟩ := K1.out.a
   obtain ⟨b0, b1, b2, b3⟩ := K1.out.b
   clear K0 HC1 hB
   go_wp2_with fail
   refine (HC2.out _).mono ?_
   rintro e w3 ⟨rfl, hB⟩
   have K2 := Lib.hid (K1.out.below (Drew.below hB _))
   clear a0 a1 a2 a3 b0 b1 b2 b3 K1 HC2 hB
   go_wp2
   go_ret
   exact ⟨by rw [← HE.out]; rfl, K2.out.frame⟩
 ·rw [if_neg h1] at HP
  have HE := Lib.hid (HF.out (decide (c < 0)) (by rw [HP, decide_eq_true_iff]; omega))
  have k1 : (c != 0) = true := bne_iff_ne.2 h1
  clear HF HP
  go_enter Tryz.func137, Tryz.ntmps137
  go_wp2_with fail
  refine (HC1.out _).mono ?_
  rintro e w2 ⟨rfl, hB⟩
  have K1 := Lib.hid (K0.out.below (Drew.below hB _))
  clear K0 HC1 hB
  go_wp2
  go_ret
  exact ⟨by rw [← HE.out]; rfl, K1.out.frame⟩
def eRiseTo (l : List EnM) (j : Nat) : Prop := ∀ k (h : k < l.length), k < j → OkE l[k] ∧ (0 < k → FolE (l[k - 1]'(by omega)) l[k])
theorem eRiseTo.all {l : List EnM} (h : eRiseTo l l.length) : RiseE l := fun k hk => h k hk hk
theorem eRiseTo.next {l : List EnM} {j : Nat} (h : eRiseTo l j) (hj : j < l.length) (h1 : OkE l[j]) (h2 : 0 < j → FolE (l[j - 1]'(by omega)) l[j]) : eRiseTo l (j + 1) := fun k hk hkj => by
 rcases Nat.lt_or_ge k j with h3 | h3
 ·exact h k hk h3
 ·obtain rfl : k = j := by omega
  exact ⟨h1, h2⟩
def SzE (l : List EnM) : Prop := ∀ e ∈ l, e.w.size ≤ maxLen ∧ e.u.size ≤ maxLen
end Go.Proofs.YtapacckmgmdnoaaGreat
namespace Go.Proofs.YtapacckmgmdnoaaGreat
open Go.RowKit Go.Proofs
set_option linter.unusedVariables false
set_option maxRecDepth 100000
set_option maxRecDepth 100000
def Is (w : World) (s : SaM) (r : Ending) (w' : World) : Prop := ∃ y, r = .returned (saV y) ∧ SaAt w' y ∧ y.m = s ∧ Below w.heap.size w w'
end Go.Proofs.YtapacckmgmdnoaaGreat
