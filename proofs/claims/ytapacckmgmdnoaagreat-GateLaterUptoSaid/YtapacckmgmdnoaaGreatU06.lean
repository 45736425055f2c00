/- Texts of mine, one behind the other, of each what is wanted. -/
import Derived.Test.YtapacckmgmdnoaaGreatU00
import Derived.Test.YtapacckmgmdnoaaGreatU01
namespace Go.Proofs.YtapacckmgmdnoaaGreat
open Go.RowKit
set_option linter.unusedVariables false
set_option maxRecDepth 100000
set_option maxHeartbeats 400000 in
theorem rightByte_any (c : UInt8) (w : World) :
  Calls Tryz.prog 216 #[.int .u8 (c.toNat : Int)] w fun e w' => e = .returned (.bool (isB c)) ∧ w = w' := by
 have hb : 0 ≤ (c.toNat : Int) ∧ (c.toNat : Int) ≤ 255 := ⟨by omega, by have := c.toNat_lt; omega⟩
 have HE := Lib.hid (isB_eq c)
 generalize (c.toNat : Int) = n at *
 go_enter Tryz.func216, Tryz.ntmps216
 go_wp2
 all_goals go_ret
 all_goals refine ⟨retB ?_, rfl⟩
 all_goals rw [HE.out, Bool.eq_iff_iff]
 all_goals simp only [Bool.or_eq_true, Bool.and_eq_true, decide_eq_true_eq, Bool.false_eq_true, false_iff, true_iff]
 all_goals omega
set_option maxHeartbeats 400000 in
theorem right_any (s : ByteArray) (w : World) (hs : s.size ≤ maxLen) :
  Calls Tryz.prog 173 #[.string s] w fun e w' => e = .returned (.bool (isName s.data.toList)) ∧ w = w' := by
 unfold maxLen at hs
 by_cases h1 : s.size < 1 ∨ 12 < s.size
 ·have H := Lib.hid (isName_short s h1)
  by_cases h0 : s.size < 1
  all_goals
   go_enter Tryz.func173, Tryz.ntmps173
   go_wp2
   all_goals first | omega | (go_ret; exact ⟨retB H.out.symm, rfl⟩)
 ·have h2 : 1 ≤ s.size := by omega
  have h3 : s.size ≤ 12 := by omega
  clear h1
  go_enter Tryz.func173, Tryz.ntmps173
  go_wp2
  go_loop [14] (fun i => ∃ k : Nat, k ≤ s.size ∧ i = .int .i64 k ∧ Hid ((s.data.toList.take k).all isB = true)) (fun i => s.size - (intOf i).toNat)
  case atStart => exact ⟨0, by omega, rfl, by simp [Hid]⟩
  case round =>
   obtain ⟨k, hk, rfl, H⟩ := hrel
   by_cases hlt : k < s.size
   ·cases hB : isB s[k]
    ·have HB := Lib.hid (isName_not s k hlt hB)
     go_wp2_with (go_at_call 216; refine (rightByte_any _ _).mono ?_; rintro e w' ⟨rfl, rfl⟩)
     go_ret
     exact ⟨retB HB.out.symm, rfl⟩
    ·have HB := Lib.hid (all_take_succ isB s k hlt H.out hB)
     go_wp2_with (go_at_call 216; refine (rightByte_any _ _).mono ?_; rintro e w' ⟨rfl, rfl⟩)
     go_round
     case rel => exact ⟨k + 1, by omega, by go_num, HB⟩
     case measure => simp [intOf]; omega
   ·have HB := Lib.hid (isName_all s h2 h3 k (by omega) H.out)
    go_wp2
    go_ret
    exact ⟨retB HB.out.symm, rfl⟩
set_option maxHeartbeats 400000 in
theorem refRight_any (s : ByteArray) (w : World) (hs : s.size ≤ maxLen) :
  Calls Tryz.prog 36 #[.string s] w fun e w' => e = .returned (.bool (isName s.data.toList)) ∧ w = w' := by
 unfold maxLen at hs
 by_cases h1 : s.size < 1 ∨ 12 < s.size
 ·have H := Lib.hid (isName_short s h1)
  by_cases h0 : s.size < 1
  all_goals
   go_enter Tryz.func36, Tryz.ntmps36
   go_wp2
   all_goals first | omega | (go_ret; exact ⟨retB H.out.symm, rfl⟩)
 ·have h2 : 1 ≤ s.size := by omega
  have h3 : s.size ≤ 12 := by omega
  clear h1
  go_enter Tryz.func36, Tryz.ntmps36
  go_wp2
  go_loop [3] (fun i => ∃ k : Nat, k ≤ s.size ∧ i = .int .i64 k ∧ Hid ((s.data.toList.take k).all isB = true)) (fun i => s.size - (intOf i).toNat)
  case atStart => exact ⟨0, by omega, rfl, by simp [Hid]⟩
  case round =>
   obtain ⟨k, hk, rfl, H⟩ := hrel
   by_cases hlt : k < s.size
   ·have hE := isB_eq s[k]
    have hb : 0 ≤ (s[k].toNat : Int) ∧ (s[k].toNat : Int) ≤ 255 := ⟨by omega, by have := s[k].toNat_lt; omega⟩
    cases d1 : decide (97 ≤ (s[k].toNat : Int)) <;> cases d2 : decide ((s[k].toNat : Int) ≤ 122) <;> cases d3 : decide (48 ≤ (s[k].toNat : Int)) <;> cases d4 : decide ((s[k].toNat : Int) ≤ 57)
    all_goals
     first
      | (exfalso; simp only [decide_eq_true_eq, decide_eq_false_iff_not] at d1 d2 d3 d4; omega)
      | (have hB : isB s[k] = false := by rw [hE, d1, d2, d3, d4]; rfl
         have HB := Lib.hid (isName_not s k hlt hB)
         clear hE hB
         go_wp2
         go_ret
         exact ⟨retB HB.out.symm, rfl⟩)
      | (have hB : isB s[k] = true := by rw [hE, d1, d2, d3, d4]; rfl
         have HB := Lib.hid (all_take_succ isB s k hlt H.out hB)
         clear hE hB
         go_wp2
         go_round
         case rel => exact ⟨k + 1, by omega, by go_num, HB⟩
         case measure => simp [intOf]; omega)
   ·have HB := Lib.hid (isName_all s h2 h3 k (by omega) H.out)
    go_wp2
    go_ret
    exact ⟨retB HB.out.symm, rfl⟩
theorem cb_drop_both (a b : ByteArray) (k : Nat) (ha : k < a.size) (hb : k < b.size) :
  Lib.compareBytes (a.data.toList.drop k) (b.data.toList.drop k) = if a[k] < b[k] then -1 else if b[k] < a[k] then 1 else Lib.compareBytes (a.data.toList.drop (k + 1)) (b.data.toList.drop (k + 1)) := by
 rw [List.drop_eq_getElem_cons (by simpa using ha), List.drop_eq_getElem_cons (l := b.data.toList) (by simpa using hb)]
 rfl
theorem cb_drop_end (a b : ByteArray) (k : Nat) (h : a.size ≤ k ∨ b.size ≤ k) (ha : k ≤ a.size) (hb : k ≤ b.size) :
  Lib.compareBytes (a.data.toList.drop k) (b.data.toList.drop k) = if a.size < b.size then -1 else if b.size < a.size then 1 else 0 := by
 by_cases h1 : k < a.size
 ·have h2 : b.size ≤ k := by omega
  rw [List.drop_eq_getElem_cons (by simpa using h1), List.drop_eq_nil_of_le (show b.data.toList.length ≤ k by simp; omega), if_neg (by omega), if_pos (by omega)]
  rfl
 ·rw [List.drop_eq_nil_of_le (show a.data.toList.length ≤ k by simp; omega)]
  by_cases h2 : k < b.size
  ·rw [List.drop_eq_getElem_cons (l := b.data.toList) (by simpa using h2), if_pos (by omega)]
   rfl
  ·rw [List.drop_eq_nil_of_le (show b.data.toList.length ≤ k by simp; omega), if_neg (by omega), if_neg (by omega)]
   rfl
set_option maxHeartbeats 1000000 in
theorem refCmp_any (a b : ByteArray) (w : World) (ha : a.size ≤ maxLen) (hb : b.size ≤ maxLen) :
  Calls Tryz.prog 69 #[.string a, .string b] w fun e w' => e = .returned (.int .i64 (Lib.compareBytes a.data.toList b.data.toList)) ∧ ∃ n, w' = w.drewN n := by
 unfold maxLen at ha hb
 go_enter Tryz.func69, Tryz.ntmps69
 go_wp2
 go_loopw [5] (fun i wr => ∃ k : Nat, k ≤ a.size ∧ k ≤ b.size ∧ i = .int .i64 k ∧ Hid (Lib.compareBytes a.data.toList b.data.toList = Lib.compareBytes (a.data.toList.drop k) (b.data.toList.drop k)) ∧ Hid (∃ n, wr = w.drewN n)) (fun i _ => a.size - (intOf i).toNat)
 case atStart => exact ⟨0, by omega, by omega, rfl, by simp [Hid], ⟨0, rfl⟩⟩
 case round =>
  obtain ⟨k, hka, hkb, rfl, H, HW⟩ := hrel
  by_cases hlt : k < a.size ∧ k < b.size
  ·obtain ⟨h1, h2⟩ := hlt
   have HB := Lib.hid (H.out.trans (cb_drop_both a b k h1 h2))
   by_cases hab : a[k].toNat < b[k].toNat
   ·have HF : Hid (Lib.compareBytes a.data.toList b.data.toList = -1) := by rw [HB.out, if_pos (by simpa [UInt8.lt_iff_toNat_lt] using hab)]; rfl
    obtain ⟨n0, rfl⟩ := HW.out
    go_wp2
    go_quiet (fail)
    go_wp2
    go_ret
    exact ⟨retI HF.out.symm, by first | exact ⟨_, rfl⟩ | (simp only [World.drewN_drewN]; exact ⟨_, rfl⟩)⟩
   ·by_cases hba : b[k].toNat < a[k].toNat
    ·have HF : Hid (Lib.compareBytes a.data.toList b.data.toList = 1) := by
      rw [HB.out, if_neg (by simpa [UInt8.lt_iff_toNat_lt] using hab), if_pos (by simpa [UInt8.lt_iff_toNat_lt] using hba)]; rfl
     obtain ⟨n0, rfl⟩ := HW.out
     go_wp2
     go_quiet (fail)
     go_wp2
     go_quiet (fail)
     go_wp2
     go_ret
     exact ⟨retI HF.out.symm, by first | exact ⟨_, rfl⟩ | (simp only [World.drewN_drewN]; exact ⟨_, rfl⟩)⟩
    ·have HF := Lib.hid (HB.out.trans ((if_neg (by simpa [UInt8.lt_iff_toNat_lt] using hab)).trans (if_neg (by simpa [UInt8.lt_iff_toNat_lt] using hba))))
     obtain ⟨n0, rfl⟩ := HW.out
     go_wp2
     go_quiet (fail)
     go_wp2
     go_quiet (fail)
     go_wp2
     go_roundw
     case rel => exact ⟨k + 1, by omega, by omega, by go_num, HF, ⟨_, rfl⟩⟩
     case measure => simp [intOf]; omega
  ·have HB := Lib.hid (H.out.trans (cb_drop_end a b k (by omega) hka hkb))
   obtain ⟨n0, rfl⟩ := HW.out
   have hcase : (k < a.size ∧ b.size < a.size ∧ b.size ≤ k) ∨ (a.size ≤ k ∧ a.size < b.size) ∨ (a.size ≤ k ∧ a.size = b.size) := by omega
   rcases hcase with ⟨c1, c2, c3⟩ | ⟨c1, c2⟩ | ⟨c1, c2⟩
   ·have HF : Hid (Lib.compareBytes a.data.toList b.data.toList = 1) := by rw [HB.out, if_neg (by omega), if_pos (by omega)]; rfl
    go_wp2
    go_ret
    exact ⟨retI HF.out.symm, by first | exact ⟨_, rfl⟩ | (simp only [World.drewN_drewN]; exact ⟨_, rfl⟩)⟩
   ·have HF : Hid (Lib.compareBytes a.data.toList b.data.toList = -1) := by rw [HB.out, if_pos (by omega)]; rfl
    go_wp2
    go_ret
    exact ⟨retI HF.out.symm, by first | exact ⟨_, rfl⟩ | (simp only [World.drewN_drewN]; exact ⟨_, rfl⟩)⟩
   ·have HF : Hid (Lib.compareBytes a.data.toList b.data.toList = 0) := by rw [HB.out, if_neg (by omega), if_neg (by omega)]; rfl
    have c3 : a.size ≤ b.size := by omega
    have c4 : b.size ≤ a.size := by omega
    clear c2 hlt
    go_wp2
    go_ret
    exact ⟨retI HF.out.symm, by first | exact ⟨_, rfl⟩ | (simp only [World.drewN_drewN]; exact ⟨_, rfl⟩)⟩
set_option maxHeartbeats 1000000 in
set_option maxRecDepth 100000 in
theorem compareString_any (a b : ByteArray) (w : World) :
  Calls Tryz.prog 253 #[.string a, .string b] w fun e w' => e = .returned (.int .i64 (Lib.compareBytes a.data.toList b.data.toList)) ∧ w = w' := by
 go_enter Tryz.func253, Tryz.ntmps253
 go_wp2
 rw [run_callFunc_extern Tryz.func281 (by kernel_rfl) (by kernel_rfl) (by kernel_rfl) (e := Extern.BytealgCompare.compare) (by kernel_rfl), Lib.run_compareString]
 simp only [Result.andThen]
 rw [Oper.upon_value]
 go_wp2
 go_ret
 exact ⟨rfl, rfl⟩
set_option maxHeartbeats 400000 in
theorem compare_any (a b : ByteArray) (w : World) :
  Calls Tryz.prog 217 #[.string a, .string b] w fun e w' => e = .returned (.int .i64 (Lib.compareBytes a.data.toList b.data.toList)) ∧ w = w' := by
 go_enter Tryz.func217, Tryz.ntmps217
 go_wp2_with (go_at_call 253; refine (compareString_any _ _ _).mono ?_; rintro e w' ⟨rfl, rfl⟩)
 go_ret
 exact ⟨rfl, rfl⟩
set_option maxHeartbeats 400000 in
theorem cmp_any (a b : ByteArray) (w : World) :
  Calls Tryz.prog 174 #[.string a, .string b] w fun e w' => e = .returned (.int .i64 (Lib.compareBytes a.data.toList b.data.toList)) ∧ w = w' := by
 go_enter Tryz.func174, Tryz.ntmps174
 go_wp2_with (go_at_call 217; refine (compare_any _ _ _).mono ?_; rintro e w' ⟨rfl, rfl⟩)
 go_ret
 exact ⟨rfl, rfl⟩
end Go.Proofs.YtapacckmgmdnoaaGreat
