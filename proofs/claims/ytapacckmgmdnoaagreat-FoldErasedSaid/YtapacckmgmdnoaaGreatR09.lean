/- Texts of mine, one behind the other, of each what is wanted. -/
import Derived.Test.YtapacckmgmdnoaaGreatR00
import Derived.Test.YtapacckmgmdnoaaGreatR01
import Derived.Test.YtapacckmgmdnoaaGreatR02
import Derived.Test.YtapacckmgmdnoaaGreatR03
import Derived.Test.YtapacckmgmdnoaaGreatR04
namespace Go.Proofs.YtapacckmgmdnoaaGreat
open Go.RowKit
set_option linter.unusedVariables false
set_option maxRecDepth 100000
set_option maxHeartbeats 400000 in
theorem rightByte_any (c : UInt8) (w : World) :
  Calls Tryz.prog 216 #[.int .u8 (c.toNat : Int)] w fun e w' => e = .returned (.bool (isB c)) ∧ w = w' := by
 have hb : 0 ≤ (c.toNat : Int) ∧ (c.toNat : Int) ≤ 255 := ⟨by omega, by have := c.toNat_lt; omega⟩
 have HE := Lib.hid (isB_eq c)
 generalize (c.toNat : Int) = n at *
 go_enter Tryz.func216, Tryz.ntmps216
 go_wp2
 all_goals go_ret
 all_goals refine ⟨retB ?_, rfl⟩
 all_goals rw [HE.out, Bool.eq_iff_iff]
 all_goals simp only [Bool.or_eq_true, Bool.and_eq_true, decide_eq_true_eq, Bool.false_eq_true, false_iff, true_iff]
 all_goals omega
set_option maxHeartbeats 400000 in
theorem right_any (s : ByteArray) (w : World) (hs : s.size ≤ maxLen) :
  Calls Tryz.prog 173 #[.string s] w fun e w' => e = .returned (.bool (isName s.data.toList)) ∧ w = w' := by
 unfold maxLen at hs
 by_cases h1 : s.size < 1 ∨ 12 < s.size
 ·have H := Lib.hid (isName_short s h1)
  by_cases h0 : s.size < 1
  all_goals
   go_enter Tryz.func173, Tryz.ntmps173
   go_wp2
   all_goals first | omega | (go_ret; exact ⟨retB H.out.symm, rfl⟩)
 ·have h2 : 1 ≤ s.size := by omega
  have h3 : s.size ≤ 12 := by omega
  clear h1
  go_enter Tryz.func173, Tryz.ntmps173
  go_wp2
  go_loop [14] (fun i => ∃ k : Nat, k ≤ s.size ∧ i = .int .i64 k ∧ Hid ((s.data.toList.take k).all isB = true)) (fun i => s.size - (intOf i).toNat)
  case atStart => exact ⟨0, by omega, rfl, by simp [Hid]⟩
  case round =>
   obtain ⟨k, hk, rfl, H⟩ := hrel
   by_cases hlt : k < s.size
   ·cases hB : isB s[k]
    ·have HB := Lib.hid (isName_not s k hlt hB)
     go_wp2_with (go_at_call 216; refine (rightByte_any _ _).mono ?_; rintro e w' ⟨rfl, rfl⟩)
     go_ret
     exact ⟨retB HB.out.symm, rfl⟩
    ·have HB := Lib.hid (all_take_succ isB s k hlt H.out hB)
     go_wp2_with (go_at_call 216; refine (rightByte_any _ _).mono ?_; rintro e w' ⟨rfl, rfl⟩)
     go_round
     case rel => exact ⟨k + 1, by omega, by go_num, HB⟩
     case measure => simp [intOf]; omega
   ·have HB := Lib.hid (isName_all s h2 h3 k (by omega) H.out)
    go_wp2
    go_ret
    exact ⟨retB HB.out.symm, rfl⟩
set_option maxHeartbeats 400000 in
theorem refRight_any (s : ByteArray) (w : World) (hs : s.size ≤ maxLen) :
  Calls Tryz.prog 36 #[.string s] w fun e w' => e = .returned (.bool (isName s.data.toList)) ∧ w = w' := by
 unfold maxLen at hs
 by_cases h1 : s.size < 1 ∨ 12 < s.size
 ·have H := Lib.hid (isName_short s h1)
  by_cases h0 : s.size < 1
  all_goals
   go_enter Tryz.func36, Tryz.ntmps36
   go_wp2
   all_goals first | omega | (go_ret; exact ⟨retB H.out.symm, rfl⟩)
 ·have h2 : 1 ≤ s.size := by omega
  have h3 : s.size ≤ 12 := by omega
  clear h1
  go_enter Tryz.func36, Tryz.ntmps36
  go_wp2
  go_loop [3] (fun i => ∃ k : Nat, k ≤ s.size ∧ i = .int .i64 k ∧ Hid ((s.data.toList.take k).all isB = true)) (fun i => s.size - (intOf i).toNat)
  case atStart => exact ⟨0, by omega, rfl, by simp [Hid]⟩
  case round =>
   obtain ⟨k, hk, rfl, H⟩ := hrel
   by_cases hlt : k < s.size
   ·have hE := isB_eq s[k]
    have hb : 0 ≤ (s[k].toNat : Int) ∧ (s[k].toNat : Int) ≤ 255 := ⟨by omega, by have := s[k].toNat_lt; omega⟩
    cases d1 : decide (97 ≤ (s[k].toNat : Int)) <;> cases d2 : decide ((s[k].toNat : Int) ≤ 122) <;> cases d3 : decide (48 ≤ (s[k].toNat : Int)) <;> cases d4 : decide ((s[k].toNat : Int) ≤ 57)
    all_goals
     first
      | (exfalso; simp only [decide_eq_true_eq, decide_eq_false_iff_not] at d1 d2 d3 d4; omega)
      | (have hB : isB s[k] = false := by rw [hE, d1, d2, d3, d4]; rfl
         have HB := Lib.hid (isName_not s k hlt hB)
         clear hE hB
         go_wp2
         go_ret
         exact ⟨retB HB.out.symm, rfl⟩)
      | (have hB : isB s[k] = true := by rw [hE, d1, d2, d3, d4]; rfl
         have HB := Lib.hid (all_take_succ isB s k hlt H.out hB)
         clear hE hB
         go_wp2
         go_round
         case rel => exact ⟨k + 1, by omega, by go_num, HB⟩
         case measure => simp [intOf]; omega)
   ·have HB := Lib.hid (isName_all s h2 h3 k (by omega) H.out)
    go_wp2
    go_ret
    exact ⟨retB HB.out.symm, rfl⟩
set_option maxHeartbeats 1000000 in
set_option maxRecDepth 100000 in
theorem compareString_any (a b : ByteArray) (w : World) :
  Calls Tryz.prog 253 #[.string a, .string b] w fun e w' => e = .returned (.int .i64 (Lib.compareBytes a.data.toList b.data.toList)) ∧ w = w' := by
 go_enter Tryz.func253, Tryz.ntmps253
 go_wp2
 rw [run_callFunc_extern Tryz.func281 (by kernel_rfl) (by kernel_rfl) (by kernel_rfl) (e := Extern.BytealgCompare.compare) (by kernel_rfl), Lib.run_compareString]
 simp only [Result.andThen]
 rw [Oper.upon_value]
 go_wp2
 go_ret
 exact ⟨rfl, rfl⟩
set_option maxHeartbeats 400000 in
theorem compare_any (a b : ByteArray) (w : World) :
  Calls Tryz.prog 217 #[.string a, .string b] w fun e w' => e = .returned (.int .i64 (Lib.compareBytes a.data.toList b.data.toList)) ∧ w = w' := by
 go_enter Tryz.func217, Tryz.ntmps217
 go_wp2_with (go_at_call 253; refine (compareString_any _ _ _).mono ?_; rintro e w' ⟨rfl, rfl⟩)
 go_ret
 exact ⟨rfl, rfl⟩
set_option maxHeartbeats 400000 in
theorem cmp_any (a b : ByteArray) (w : World) :
  Calls Tryz.prog 174 #[.string a, .string b] w fun e w' => e = .returned (.int .i64 (Lib.compareBytes a.data.toList b.data.toList)) ∧ w = w' := by
 go_enter Tryz.func174, Tryz.ntmps174
 go_wp2_with (go_at_call 217; refine (compare_any _ _ _).mono ?_; rintro e w' ⟨rfl, rfl⟩)
 go_ret
 exact ⟨rfl, rfl⟩
end Go.Proofs.YtapacckmgmdnoaaGreat
namespace Go.Proofs.YtapacckmgmdnoaaGreat
open Go.RowKit Go.Sort Go.Proofs
set_option linter.unusedVariables false
set_option maxRecDepth 100000
set_option maxRecDepth 100000
def Grew (w w' : World) : Prop := ∃ q os, w' = grow (w.drewN q) os
theorem Grew.refl (w : World) : Grew w w := ⟨0, #[], by rw [grow_empty]; rfl⟩
theorem Grew.drew {w w' : World} (h : Grew w w') : Grew w w'.drew := by
 obtain ⟨q, os, rfl⟩ := h
 exact ⟨q + 1, os, rfl⟩
theorem Grew.alloc {w w' : World} (h : Grew w w') (o : Obj) : Grew w (w'.alloc o) := by
 obtain ⟨q, os, rfl⟩ := h
 exact ⟨q, os ++ #[o], by rw [alloc_eq_grow, grow_grow]⟩
theorem Grew.trans {a b c : World} (h : Grew a b) (k : Grew b c) : Grew a c := by
 obtain ⟨q, os, rfl⟩ := h
 obtain ⟨q', os', rfl⟩ := k
 exact ⟨q + q', os ++ os', by show grow (grow ((a.drewN q).drewN q') os) os' = _; rw [grow_grow, World.drewN_drewN]⟩
theorem Grew.below {w w' : World} (h : Grew w w') {B : Nat} (hB : B ≤ w.heap.size) : Below B w w' := by
 obtain ⟨q, os, rfl⟩ := h
 exact below_grown_sl B w q os hB
theorem infoStay4 : (Tryz.prog.info? 111).map (·.size) = some 4 := by kernel_rfl
theorem loadSt {W : World} {g : Nat} {a b c d : Value} {t : TypeId} (h : W.heap[g]? = some (.cells #[a, b, c, d] t (0, 0))) :
  (loadVar 111 ⟨g, 0, none⟩).run Tryz.prog W = .ok (.agg #[a, b, c, d]) W :=
 run_loadVar_mid (P := Tryz.prog) W g 0 111 [a, b, c, d] _ (fun j v hv => by
  rw [Nat.zero_add, cell_of_row _ _ _ _ _ (0, 0) h]
  simpa using hv) Tryz.underlying111 rfl infoStay4
def orL : List Int → Int
 | [] => 0
 | x :: l => if x = 0 then orL l else x
theorem orL_drop {l : List Int} {j : Nat} (h : j < l.length) : orL (l.drop j) = if l[j] = 0 then orL (l.drop (j + 1)) else l[j] := by
 rw [List.drop_eq_getElem_cons h]; rfl
theorem or_any (a : Option Addr) (c : Nat) (l : List Int) (w : World) (hr : Sl w a (ints l)) (hl : l.length ≤ 1000) :
  Calls Tryz.prog 167 #[.slice a l.length c] w fun e w' => e = .returned (.int .i64 (orL l)) ∧ w' = w := by
 have HR := Lib.hid hr
 clear hr
 go_enter Tryz.func167, Tryz.ntmps167
 go_wp2
 go_loopw [8] (fun i wr => ∃ (j : Nat), j ≤ l.length ∧ i = .int .i64 j ∧ Hid (orL l = orL (l.drop j)) ∧ wr = w) (fun i _ => l.length - (intOf i).toNat)
 case atStart => exact ⟨0, by omega, rfl, rfl, rfl⟩
 case round =>
  obtain ⟨j, hj, rfl, HF, rfl⟩ := hrel
  by_cases hjl : j < l.length
  ·obtain ⟨b, off, rfl, hbl, hc0⟩ := ints_at HR.out hjl
   have HN := Lib.hid (HF.out.trans (orL_drop hjl))
   generalize l[j] = x at *
   by_cases h : x = 0
   ·subst h
    clear HF
    go_wp2
    go_roundw
    case rel => exact ⟨j + 1, by omega, by go_num, HN.out, trivial⟩
    case measure => simp [intOf]; omega
   ·have he : (x == 0) = false := beq_eq_false_iff_ne.2 h
    have HN2 : Hid (orL l = x) := by
     have := HN.out
     rw [if_neg h] at this
     exact this
    clear HN HF
    go_wp2
    go_ret
    exact ⟨by rw [HN2.out]; rfl, rfl⟩
  ·obtain rfl : j = l.length := by omega
   have HN2 : Hid (orL l = 0) := by
    have := HF.out
    rw [List.drop_eq_nil_of_le (Nat.le_refl _)] at this
    exact this
   go_wp2
   go_ret
   exact ⟨by rw [HN2.out]; rfl, rfl⟩
end Go.Proofs.YtapacckmgmdnoaaGreat
namespace Go.Proofs.YtapacckmgmdnoaaGreat
open Go.RowKit
set_option linter.unusedVariables false
set_option maxRecDepth 100000
def pr (a b : ByteArray) : Value := .agg #[.string a, .string b]
set_option maxHeartbeats 400000 in
theorem pairCmp_any (a b c d : ByteArray) (w : World) :
  Calls Tryz.prog 255 #[pr a b, pr c d] w fun e w' => e = .returned (.int .i64 (cmpP a b c d)) ∧ Below w.heap.size w w' := by
 unfold pr
 have HB : Hid (∀ o o', Below w.heap.size w ((w.alloc o).alloc o')) := fun o o' => ((Below.refl _ _).alloc (Nat.le_refl _) _).alloc (by simp) _
 have hcm : ∀ x y W, Calls Tryz.prog 174 #[.string x, .string y] W fun e w' => e = .returned (.int .i64 (cmpS x y)) ∧ W = w' := fun x y W => cmp_any x y W
 have HC := Lib.hid hcm
 clear hcm
 cases h : (cmpS a c != 0)
 ·have HE : Hid (cmpP a b c d = cmpS b d) := if_pos (by simpa using h)
  go_enter Tryz.func255, Tryz.ntmps255
  go_wp2_with (go_at_call 174; refine (HC.out _ _ _).mono ?_; rintro e w' ⟨rfl, rfl⟩)
  go_ret
  exact ⟨retI HE.out.symm, HB.out _ _⟩
 ·have HE : Hid (cmpP a b c d = cmpS a c) := if_neg (by simpa using h)
  go_enter Tryz.func255, Tryz.ntmps255
  go_wp2_with (go_at_call 174; refine (HC.out _ _ _).mono ?_; rintro e w' ⟨rfl, rfl⟩)
  go_ret
  exact ⟨retI HE.out.symm, HB.out _ _⟩
def eqS (a b : ByteArray) : Bool := a.toList == b.toList
theorem eqS_iff (a b : ByteArray) : eqS a b = true ↔ a = b := by
 unfold eqS
 rw [beq_iff_eq, ByteArray.toList_eq, ByteArray.toList_eq]
 constructor
 ·intro h
  cases a; cases b
  simp at h
  rw [h]
 ·intro h; rw [h]
set_option maxHeartbeats 400000 in
theorem pairHas_any (a b s : ByteArray) (w : World) :
  Calls Tryz.prog 265 #[pr a b, .string s] w fun e w' => e = .returned (.bool (eqS s a || eqS s b)) ∧ Below w.heap.size w w' := by
 unfold pr
 have HB : Hid (∀ o, Below w.heap.size w (w.alloc o)) := fun o => (Below.refl _ _).alloc (Nat.le_refl _) _
 cases h : (s.toList == a.toList)
 ·have HE : Hid ((s.toList == b.toList) = (eqS s a || eqS s b)) := by unfold Hid eqS; rw [h]; rfl
  go_enter Tryz.func265, Tryz.ntmps265
  go_wp2
  go_ret
  exact ⟨retB HE.out, HB.out _⟩
 ·have HE : Hid (true = (eqS s a || eqS s b)) := by unfold Hid eqS; rw [h]; rfl
  go_enter Tryz.func265, Tryz.ntmps265
  go_wp2
  go_ret
  exact ⟨retB HE.out, HB.out _⟩
end Go.Proofs.YtapacckmgmdnoaaGreat
