/- Texts of mine, one behind the other, of each what is wanted. -/
import Derived.Test.YtmfpjapiijgdgaaGreatV00
import Derived.Test.YtmfpjapiijgdgaaGreatV01
namespace Go.Proofs.YtmfpjapiijgdgaaGreat
open Go.RowKit
set_option linter.unusedVariables false
set_option maxRecDepth 100000
set_option maxHeartbeats 400000 in
theorem rightByte_any (c : UInt8) (w : World) :
  Calls Tryz.prog 216 #[.int .u8 (c.toNat : Int)] w fun e w' => e = .returned (.bool (isB c)) ∧ w = w' := by
 have hb : 0 ≤ (c.toNat : Int) ∧ (c.toNat : Int) ≤ 255 := ⟨by omega, by have := c.toNat_lt; omega⟩
 have HE := Lib.hid (isB_eq c)
 generalize (c.toNat : Int) = n at *
 go_enter Tryz.func216, Tryz.ntmps216
 go_wp2
 all_goals go_ret
 all_goals refine ⟨retB ?_, rfl⟩
 all_goals rw [HE.out, Bool.eq_iff_iff]
 all_goals simp only [Bool.or_eq_true, Bool.and_eq_true, decide_eq_true_eq, Bool.false_eq_true, false_iff, true_iff]
 all_goals omega
set_option maxHeartbeats 400000 in
theorem right_any (s : ByteArray) (w : World) (hs : s.size ≤ maxLen) :
  Calls Tryz.prog 173 #[.string s] w fun e w' => e = .returned (.bool (isName s.data.toList)) ∧ w = w' := by
 unfold maxLen at hs
 by_cases h1 : s.size < 1 ∨ 12 < s.size
 ·have H := Lib.hid (isName_short s h1)
  by_cases h0 : s.size < 1
  all_goals
   go_enter Tryz.func173, Tryz.ntmps173
   go_wp2
   all_goals first | omega | (go_ret; exact ⟨retB H.out.symm, rfl⟩)
 ·have h2 : 1 ≤ s.size := by omega
  have h3 : s.size ≤ 12 := by omega
  clear h1
  go_enter Tryz.func173, Tryz.ntmps173
  go_wp2
  go_loop [14] (fun i => ∃ k : Nat, k ≤ s.size ∧ i = .int .i64 k ∧ Hid ((s.data.toList.take k).all isB = true)) (fun i => s.size - (intOf i).toNat)
  case atStart => exact ⟨0, by omega, rfl, by simp [Hid]⟩
  case round =>
   obtain ⟨k, hk, rfl, H⟩ := hrel
   by_cases hlt : k < s.size
   ·cases hB : isB s[k]
    ·have HB := Lib.hid (isName_not s k hlt hB)
     go_wp2_with (go_at_call 216; refine (rightByte_any _ _).mono ?_; rintro e w' ⟨rfl, rfl⟩)
     go_ret
     exact ⟨retB HB.out.symm, rfl⟩
    ·have HB := Lib.hid (all_take_succ isB s k hlt H.out hB)
     go_wp2_with (go_at_call 216; refine (rightByte_any _ _).mono ?_; rintro e w' ⟨rfl, rfl⟩)
     go_round
     case rel => exact ⟨k + 1, by omega, by go_num, HB⟩
     case measure => simp [intOf]; omega
   ·have HB := Lib.hid (isName_all s h2 h3 k (by omega) H.out)
    go_wp2
    go_ret
    exact ⟨retB HB.out.symm, rfl⟩
set_option maxHeartbeats 400000 in
theorem refRight_any (s : ByteArray) (w : World) (hs : s.size ≤ maxLen) :
  Calls Tryz.prog 36 #[.string s] w fun e w' => e = .returned (.bool (isName s.data.toList)) ∧ w = w' := by
 unfold maxLen at hs
 by_cases h1 : s.size < 1 ∨ 12 < s.size
 ·have H := Lib.hid (isName_short s h1)
  by_cases h0 : s.size < 1
  all_goals
   go_enter Tryz.func36, Tryz.ntmps36
   go_wp2
   all_goals first | omega | (go_ret; exact ⟨retB H.out.symm, rfl⟩)
 ·have h2 : 1 ≤ s.size := by omega
  have h3 : s.size ≤ 12 := by omega
  clear h1
  go_enter Tryz.func36, Tryz.ntmps36
  go_wp2
  go_loop [3] (fun i => ∃ k : Nat, k ≤ s.size ∧ i = .int .i64 k ∧ Hid ((s.data.toList.take k).all isB = true)) (fun i => s.size - (intOf i).toNat)
  case atStart => exact ⟨0, by omega, rfl, by simp [Hid]⟩
  case round =>
   obtain ⟨k, hk, rfl, H⟩ := hrel
   by_cases hlt : k < s.size
   ·have hE := isB_eq s[k]
    have hb : 0 ≤ (s[k].toNat : Int) ∧ (s[k].toNat : Int) ≤ 255 := ⟨by omega, by have := s[k].toNat_lt; omega⟩
    cases d1 : decide (97 ≤ (s[k].toNat : Int)) <;> cases d2 : decide ((s[k].toNat : Int) ≤ 122) <;> cases d3 : decide (48 ≤ (s[k].toNat : Int)) <;> cases d4 : decide ((s[k].toNat : Int) ≤ 57)
    all_goals
     first
      | (exfalso; simp only [decide_eq_true_eq, decide_eq_false_iff_not] at d1 d2 d3 d4; omega)
      | (have hB : isB s[k] = false := by rw [hE, d1, d2, d3, d4]; rfl
         have HB := Lib.hid (isName_not s k hlt hB)
         clear hE hB
         go_wp2
         go_ret
         exact ⟨retB HB.out.symm, rfl⟩)
      | (have hB : isB s[k] = true := by rw [hE, d1, d2, d3, d4]; rfl
         have HB := Lib.hid (all_take_succ isB s k hlt H.out hB)
         clear hE hB
         go_wp2
         go_round
         case rel => exact ⟨k + 1, by omega, by go_num, HB⟩
         case measure => simp [intOf]; omega)
   ·have HB := Lib.hid (isName_all s h2 h3 k (by omega) H.out)
    go_wp2
    go_ret
    exact ⟨retB HB.out.symm, rfl⟩
theorem cb_drop_both (a b : ByteArray) (k : Nat) (ha : k < a.size) (hb : k < b.size) :
  Lib.compareBytes (a.data.toList.drop k) (b.data.toList.drop k) = if a[k] < b[k] then -1 else if b[k] < a[k] then 1 else Lib.compareBytes (a.data.toList.drop (k + 1)) (b.data.toList.drop (k + 1)) := by
 rw [List.drop_eq_getElem_cons (by simpa using ha), List.drop_eq_getElem_cons (l := b.data.toList) (by simpa using hb)]
 rfl
theorem cb_drop_end (a b : ByteArray) (k : Nat) (h : a.size ≤ k ∨ b.size ≤ k) (ha : k ≤ a.size) (hb : k ≤ b.size) :
  Lib.compareBytes (a.data.toList.drop k) (b.data.toList.drop k) = if a.size < b.size then -1 else if b.size < a.size then 1 else 0 := by
 by_cases h1 : k < a.size
 ·have h2 : b.size ≤ k := by omega
  rw [List.drop_eq_getElem_cons (by simpa using h1), List.drop_eq_nil_of_le (show b.data.toList.length ≤ k by simp; omega), if_neg (by omega), if_pos (by omega)]
  rfl
 ·rw [List.drop_eq_nil_of_le (show a.data.toList.length ≤ k by simp; omega)]
  by_cases h2 : k < b.size
  ·rw [List.drop_eq_getElem_cons (l := b.data.toList) (by simpa using h2), if_pos (by omega)]
   rfl
  ·rw [List.drop_eq_nil_of_le (show b.data.toList.length ≤ k by simp; omega), if_neg (by omega), if_neg (by omega)]
   rfl
set_option maxHeartbeats 1000000 in
theorem refCmp_any (a b : ByteArray) (w : World) (ha : a.size ≤ maxLen) (hb : b.size ≤ maxLen) :
  Calls Tryz.prog 69 #[.string a, .string b] w fun e w' => e = .returned (.int .i64 (Lib.compareBytes a.data.toList b.data.toList)) ∧ ∃ n, w' = w.drewN n := by
 unfold maxLen at ha hb
 go_enter Tryz.func69, Tryz.ntmps69
 go_wp2
 go_loopw [5] (fun i wr => ∃ k : Nat, k ≤ a.size ∧ k ≤ b.size ∧ i = .int .i64 k ∧ Hid (Lib.compareBytes a.data.toList b.data.toList = Lib.compareBytes (a.data.toList.drop k) (b.data.toList.drop k)) ∧ Hid (∃ n, wr = w.drewN n)) (fun i _ => a.size - (intOf i).toNat)
 case atStart => exact ⟨0, by omega, by omega, rfl, by simp [Hid], ⟨0, rfl⟩⟩
 case round =>
  obtain ⟨k, hka, hkb, rfl, H, HW⟩ := hrel
  by_cases hlt : k < a.size ∧ k < b.size
  ·obtain ⟨h1, h2⟩ := hlt
   have HB := Lib.hid (H.out.trans (cb_drop_both a b k h1 h2))
   by_cases hab : a[k].toNat < b[k].toNat
   ·have HF : Hid (Lib.compareBytes a.data.toList b.data.toList = -1) := by rw [HB.out, if_pos (by simpa [UInt8.lt_iff_toNat_lt] using hab)]; rfl
    obtain ⟨n0, rfl⟩ := HW.out
    go_wp2
    go_quiet (fail)
    go_wp2
    go_ret
    exact ⟨retI HF.out.symm, by first | exact ⟨_, rfl⟩ | (simp only [World.drewN_drewN]; exact ⟨_, rfl⟩)⟩
   ·by_cases hba : b[k].toNat < a[k].toNat
    ·have HF : Hid (Lib.compareBytes a.data.toList b.data.toList = 1) := by
      rw [HB.out, if_neg (by simpa [UInt8.lt_iff_toNat_lt] using hab), if_pos (by simpa [UInt8.lt_iff_toNat_lt] using hba)]; rfl
     obtain ⟨n0, rfl⟩ := HW.out
     go_wp2
     go_quiet (fail)
     go_wp2
     go_quiet (fail)
     go_wp2
     go_ret
     exact ⟨retI HF.out.symm, by first | exact ⟨_, rfl⟩ | (simp only [World.drewN_drewN]; exact ⟨_, rfl⟩)⟩
    ·have HF := Lib.hid (HB.out.trans ((if_neg (by simpa [UInt8.lt_iff_toNat_lt] using hab)).trans (if_neg (by simpa [UInt8.lt_iff_toNat_lt] using hba))))
     obtain ⟨n0, rfl⟩ := HW.out
     go_wp2
     go_quiet (fail)
     go_wp2
     go_quiet (fail)
     go_wp2
     go_roundw
     case rel => exact ⟨k + 1, by omega, by omega, by go_num, HF, ⟨_, rfl⟩⟩
     case measure => simp [intOf]; omega
  ·have HB := Lib.hid (H.out.trans (cb_drop_end a b k (by omega) hka hkb))
   obtain ⟨n0, rfl⟩ := HW.out
   have hcase : (k < a.size ∧ b.size < a.size ∧ b.size ≤ k) ∨ (a.size ≤ k ∧ a.size < b.size) ∨ (a.size ≤ k ∧ a.size = b.size) := by omega
   rcases hcase with ⟨c1, c2, c3⟩ | ⟨c1, c2⟩ | ⟨c1, c2⟩
   ·have HF : Hid (Lib.compareBytes a.data.toList b.data.toList = 1) := by rw [HB.out, if_neg (by omega), if_pos (by omega)]; rfl
    go_wp2
    go_ret
    exact ⟨retI HF.out.symm, by first | exact ⟨_, rfl⟩ | (simp only [World.drewN_drewN]; exact ⟨_, rfl⟩)⟩
   ·have HF : Hid (Lib.compareBytes a.data.toList b.data.toList = -1) := by rw [HB.out, if_pos (by omega)]; rfl
    go_wp2
    go_ret
    exact ⟨retI HF.out.symm, by first | exact ⟨_, rfl⟩ | (simp only [World.drewN_drewN]; exact ⟨_, rfl⟩)⟩
   ·have HF : Hid (Lib.compareBytes a.data.toList b.data.toList = 0) := by rw [HB.out, if_neg (by omega), if_neg (by omega)]; rfl
    have c3 : a.size ≤ b.size := by omega
    have c4 : b.size ≤ a.size := by omega
    clear c2 hlt
    go_wp2
    go_ret
    exact ⟨retI HF.out.symm, by first | exact ⟨_, rfl⟩ | (simp only [World.drewN_drewN]; exact ⟨_, rfl⟩)⟩
set_option maxHeartbeats 1000000 in
set_option maxRecDepth 100000 in
theorem compareString_any (a b : ByteArray) (w : World) :
  Calls Tryz.prog 253 #[.string a, .string b] w fun e w' => e = .returned (.int .i64 (Lib.compareBytes a.data.toList b.data.toList)) ∧ w = w' := by
 go_enter Tryz.func253, Tryz.ntmps253
 go_wp2
 rw [run_callFunc_extern Tryz.func281 (by kernel_rfl) (by kernel_rfl) (by kernel_rfl) (e := Extern.BytealgCompare.compare) (by kernel_rfl), Lib.run_compareString]
 simp only [Result.andThen]
 rw [Oper.upon_value]
 go_wp2
 go_ret
 exact ⟨rfl, rfl⟩
set_option maxHeartbeats 400000 in
theorem compare_any (a b : ByteArray) (w : World) :
  Calls Tryz.prog 217 #[.string a, .string b] w fun e w' => e = .returned (.int .i64 (Lib.compareBytes a.data.toList b.data.toList)) ∧ w = w' := by
 go_enter Tryz.func217, Tryz.ntmps217
 go_wp2_with (go_at_call 253; refine (compareString_any _ _ _).mono ?_; rintro e w' ⟨rfl, rfl⟩)
 go_ret
 exact ⟨rfl, rfl⟩
set_option maxHeartbeats 400000 in
theorem cmp_any (a b : ByteArray) (w : World) :
  Calls Tryz.prog 174 #[.string a, .string b] w fun e w' => e = .returned (.int .i64 (Lib.compareBytes a.data.toList b.data.toList)) ∧ w = w' := by
 go_enter Tryz.func174, Tryz.ntmps174
 go_wp2_with (go_at_call 217; refine (compare_any _ _ _).mono ?_; rintro e w' ⟨rfl, rfl⟩)
 go_ret
 exact ⟨rfl, rfl⟩
end Go.Proofs.YtmfpjapiijgdgaaGreat
namespace Go.Proofs.YtmfpjapiijgdgaaGreat
open Go.RowKit
set_option linter.unusedVariables false
set_option maxRecDepth 100000
set_option maxRecDepth 100000
structure EvM where
 kind : Int
 at_ : Int
 user : ByteArray
 other : ByteArray
 n : Int
 status : Int
def evc (e : EvM) : List Value := [.int .i64 e.kind, .int .i64 e.at_, .string e.user, .string e.other, .int .i64 e.n, .int .i64 e.status]
def evV (e : EvM) : Value := .agg #[.int .i64 e.kind, .int .i64 e.at_, .string e.user, .string e.other, .int .i64 e.n, .int .i64 e.status]
def isN (s : ByteArray) : Bool := isName s.data.toList
def noT (s : ByteArray) : Bool := s.toList == (⟨#[]⟩ : ByteArray).toList
def inB (a b n : Int) : Bool := decide (a ≤ n) && decide (n ≤ b)
structure ShM where
 user : Bool
 other : Bool
 n0 : Int
 n1 : Int
 s0 : Int
 s1 : Int
def shK (k : Int) : ShM :=
 if k = 1 ∨ k = 2 then ⟨true, false, 1, 999, 1, 4⟩ else if k = 3 then ⟨true, false, 1, 999, 0, 0⟩ else if k = 7 then ⟨true, false, 0, 0, 0, 0⟩ else
 if k = 4 ∨ k = 5 then ⟨true, true, 0, 0, 0, 0⟩ else if k = 6 then ⟨false, false, 0, 1099511627775, 0, 0⟩ else ⟨false, false, 0, 0, 0, 0⟩
def isK (k : Int) : Bool := decide (1 ≤ k) && decide (k ≤ 7)
def rText (s : ByteArray) (named : Bool) : Bool := if named then isN s else noT s
def rightE (e : EvM) : Bool :=
 isK e.kind && (inB 0 1099511627775 e.at_ && (rText e.user (shK e.kind).user && (rText e.other (shK e.kind).other && (inB (shK e.kind).n0 (shK e.kind).n1 e.n && inB (shK e.kind).s0 (shK e.kind).s1 e.status))))
theorem results_cellT {fn : Func} {p u : Tmp} {ty : TypeId} (h : fn.results = #[.cell p ty, .tmp u]) (tmps : Array Value) (P : Program) (w : World) :
  (results fn tmps).run P w = ((asAddr (tmps.getD p undef)).run P w).andThen fun a w₁ => ((loadVar ty a).run P w₁).andThen fun x w₂ => .ok (.tuple #[x, tmps.getD u undef]) w₂ := by
 simp only [results, h]
 simp [Sem.run_bind, Result.andThen]
 try (split <;> simp)
 all_goals try (split <;> simp)
theorem infoNum : (Tryz.prog.info? 240).map (·.size) = some 2 := by kernel_rfl
theorem loadNum {W : World} {g : Nat} {a b : Value} {t : TypeId} (h : W.heap[g]? = some (.cells #[a, b] t (0, 0))) :
  (loadVar 240 ⟨g, 0, none⟩).run Tryz.prog W = .ok (.agg #[a, b]) W :=
 run_loadVar_mid (P := Tryz.prog) W g 0 240 [a, b] _ (fun j v hv => by
  rw [Nat.zero_add, cell_of_row _ _ _ _ _ (0, 0) h]
  simpa using hv) Tryz.underlying240 rfl infoNum
theorem times_any (w : World) : Calls Tryz.prog 189 #[] w fun e w' => e = .returned (.agg #[.int .i64 0, .int .i64 1099511627775]) ∧ Below w.heap.size w w' := by
 have HLD := Lib.hid (fun a b => loadNum (heap_alloc_new w (.cells #[a, b] 240)))
 have HBB := Lib.hid (fun o => (Below.refl w.heap.size w).alloc (Nat.le_refl _) o)
 go_enter Tryz.func189, Tryz.ntmps189
 go_wp2
 refine bodyPost_ret (v := .agg #[.int .i64 0, .int .i64 1099511627775]) ?_ rfl ?_
 ·rw [results_cell1 rfl]
  simp [asAddr, Result.andThen, HLD.out]
 ·exact ⟨rfl, HBB.out _⟩
theorem has_any (a b n : Int) (w : World) : Calls Tryz.prog 190 #[.agg #[.int .i64 a, .int .i64 b], .int .i64 n] w fun e w' => e = .returned (.bool (inB a b n)) ∧ Below w.heap.size w w' := by
 have HBB := Lib.hid (fun o => (Below.refl w.heap.size w).alloc (Nat.le_refl _) o)
 unfold inB
 by_cases h : a ≤ n
 ·go_enter Tryz.func190, Tryz.ntmps190
  go_wp2
  go_ret
  exact ⟨retB (by simp [h]), HBB.out _⟩
 ·go_enter Tryz.func190, Tryz.ntmps190
  go_wp2
  go_ret
  exact ⟨retB (by simp; omega), HBB.out _⟩
theorem rightText_any (s : ByteArray) (b : Bool) (w : World) (hs : s.size ≤ maxLen) : Calls Tryz.prog 191 #[.string s, .bool b] w fun e w' => e = .returned (.bool (rText s b)) ∧ w' = w := by
 have HR := Lib.hid (right_any s w hs)
 unfold rText isN noT
 cases b
 ·go_enter Tryz.func191, Tryz.ntmps191
  go_wp2
  go_ret
  exact ⟨retB (by simp), rfl⟩
 ·go_enter Tryz.func191, Tryz.ntmps191
  go_wp2_with fail
  refine (HR.out).mono ?_
  rintro e w1 ⟨rfl, rfl⟩
  go_wp2
  go_ret
  exact ⟨retB (by simp), rfl⟩
def shV (s : ShM) : Value := .agg #[.bool s.user, .bool s.other, .int .i64 s.n0, .int .i64 s.n1, .int .i64 s.s0, .int .i64 s.s1]
theorem heap_set_far {w : World} {b g i : Nat} {v : Value} (h : b ≠ g) : (w.setCell ⟨g, i, none⟩ v).heap[b]? = w.heap[b]? := Below.heap_setCell _ _ _ _ h
theorem infoShape : (Tryz.prog.info? 242).map (·.size) = some 6 := by kernel_rfl
theorem loadShape {W : World} {g : Nat} {a b c d e f : Value} {t : TypeId} (h : W.heap[g]? = some (.cells #[a, b, c, d, e, f] t (0, 0))) :
  (loadVar 242 ⟨g, 0, none⟩).run Tryz.prog W = .ok (.agg #[a, b, c, d, e, f]) W :=
 run_loadVar_mid (P := Tryz.prog) W g 0 242 [a, b, c, d, e, f] _ (fun j v hv => by
  rw [Nat.zero_add, cell_of_row _ _ _ _ _ (0, 0) h]
  simpa using hv) Tryz.underlying242 rfl infoShape
theorem cells6 {g : Nat} {a b c d e f : Value} {t : TypeId} {W : World} (h : W.heap[g]? = some (.cells #[a, b, c, d, e, f] t (0, 0))) : (W.cell? ⟨g, 0, none⟩ = some a ∧ W.cell? ⟨g, 1, none⟩ = some b ∧ W.cell? ⟨g, 2, none⟩ = some c ∧ W.cell? ⟨g, 3, none⟩ = some d ∧ W.cell? ⟨g, 4, none⟩ = some e ∧ W.cell? ⟨g, 5, none⟩ = some f) ∧
  (W.frozen? ⟨g, 0, none⟩ = false ∧ W.frozen? ⟨g, 1, none⟩ = false ∧ W.frozen? ⟨g, 2, none⟩ = false ∧ W.frozen? ⟨g, 3, none⟩ = false ∧ W.frozen? ⟨g, 4, none⟩ = false ∧ W.frozen? ⟨g, 5, none⟩ = false) :=
 ⟨⟨cell_of_row _ _ 0 _ _ _ h, cell_of_row _ _ 1 _ _ _ h, cell_of_row _ _ 2 _ _ _ h, cell_of_row _ _ 3 _ _ _ h, cell_of_row _ _ 4 _ _ _ h, cell_of_row _ _ 5 _ _ _ h⟩,
  frozen_of_row _ _ 0 _ _ h, frozen_of_row _ _ 1 _ _ h, frozen_of_row _ _ 2 _ _ h, frozen_of_row _ _ 3 _ _ h, frozen_of_row _ _ 4 _ _ h, frozen_of_row _ _ 5 _ _ h⟩
set_option maxHeartbeats 2000000 in
theorem shapeOf_any (k : Int) (w : World) : Calls Tryz.prog 188 #[.int .i64 k] w fun e w' => e = .returned (.tuple #[shV (shK k), .bool (isK k)]) ∧ Below w.heap.size w w' := by
 have HLD := Lib.hid (fun a b c d e f o => loadShape ((Below.heap_alloc (w.alloc (.cells #[a, b, c, d, e, f] 242)) o w.heap.size (by rw [size1]; omega)).trans (heap_alloc_new w (.cells #[a, b, c, d, e, f] 242))))
 have HBB := Lib.hid (fun o o' => ((Below.refl w.heap.size w).alloc (Nat.le_refl _) o).alloc (by rw [size1]; omega) o')
 have hcase : k = 1 ∨ k = 2 ∨ k = 3 ∨ k = 7 ∨ k = 4 ∨ k = 5 ∨ k = 6 ∨ (k < 1 ∨ 7 < k) := by omega
 rcases hcase with rfl | rfl | rfl | rfl | rfl | rfl | rfl | hk
 ·go_enter Tryz.func188, Tryz.ntmps188
  go_wp2
  refine bodyPost_ret (v := .tuple #[.agg #[.bool true, .bool false, .int .i64 1, .int .i64 999, .int .i64 1, .int .i64 4], .bool true]) ?_ rfl ?_
  ·rw [results_cellT rfl]
   simp [asAddr, Result.andThen, HLD.out]
  ·exact ⟨rfl, HBB.out _ _⟩
 ·go_enter Tryz.func188, Tryz.ntmps188
  go_wp2
  refine bodyPost_ret (v := .tuple #[.agg #[.bool true, .bool false, .int .i64 1, .int .i64 999, .int .i64 1, .int .i64 4], .bool true]) ?_ rfl ?_
  ·rw [results_cellT rfl]
   simp [asAddr, Result.andThen, HLD.out]
  ·exact ⟨rfl, HBB.out _ _⟩
 ·go_enter Tryz.func188, Tryz.ntmps188
  go_wp2
  refine bodyPost_ret (v := .tuple #[.agg #[.bool true, .bool false, .int .i64 1, .int .i64 999, .int .i64 0, .int .i64 0], .bool true]) ?_ rfl ?_
  ·rw [results_cellT rfl]
   simp [asAddr, Result.andThen, HLD.out]
  ·exact ⟨rfl, HBB.out _ _⟩
 ·go_enter Tryz.func188, Tryz.ntmps188
  go_wp2
  refine bodyPost_ret (v := .tuple #[.agg #[.bool true, .bool false, .int .i64 0, .int .i64 0, .int .i64 0, .int .i64 0], .bool true]) ?_ rfl ?_
  ·rw [results_cellT rfl]
   simp [asAddr, Result.andThen, HLD.out]
  ·exact ⟨rfl, HBB.out _ _⟩
 ·go_enter Tryz.func188, Tryz.ntmps188
  go_wp2
  refine bodyPost_ret (v := .tuple #[.agg #[.bool true, .bool true, .int .i64 0, .int .i64 0, .int .i64 0, .int .i64 0], .bool true]) ?_ rfl ?_
  ·rw [results_cellT rfl]
   simp [asAddr, Result.andThen, HLD.out]
  ·exact ⟨rfl, HBB.out _ _⟩
 ·go_enter Tryz.func188, Tryz.ntmps188
  go_wp2
  refine bodyPost_ret (v := .tuple #[.agg #[.bool true, .bool true, .int .i64 0, .int .i64 0, .int .i64 0, .int .i64 0], .bool true]) ?_ rfl ?_
  ·rw [results_cellT rfl]
   simp [asAddr, Result.andThen, HLD.out]
  ·exact ⟨rfl, HBB.out _ _⟩
 ·have HX : Hid (∀ W, Below ((w.alloc (.cells #[.bool false, .bool false, .int .i64 0, .int .i64 0, .int .i64 0, .int .i64 0] 242)).alloc (.cells #[.bool false, .bool false, .int .i64 0, .int .i64 0, .int .i64 0, .int .i64 0] 242)).heap.size ((w.alloc (.cells #[.bool false, .bool false, .int .i64 0, .int .i64 0, .int .i64 0, .int .i64 0] 242)).alloc (.cells #[.bool false, .bool false, .int .i64 0, .int .i64 0, .int .i64 0, .int .i64 0] 242)) W → W.heap[w.heap.size]? = some (.cells #[.bool false, .bool false, .int .i64 0, .int .i64 0, .int .i64 0, .int .i64 0] 242 (0, 0)) ∧ W.heap[w.heap.size + 1]? = some (.cells #[.bool false, .bool false, .int .i64 0, .int .i64 0, .int .i64 0, .int .i64 0] 242 (0, 0)) ∧ Below w.heap.size w W) := fun W hb => by
   have hz : ((w.alloc (.cells #[.bool false, .bool false, .int .i64 0, .int .i64 0, .int .i64 0, .int .i64 0] 242)).alloc (.cells #[.bool false, .bool false, .int .i64 0, .int .i64 0, .int .i64 0, .int .i64 0] 242)).heap.size = w.heap.size + 2 := by rw [size1, size1]
   refine ⟨(hb.block _ (by omega)).trans ((Below.heap_alloc _ _ w.heap.size (by rw [size1]; omega)).trans (heap_alloc_new w _)), (hb.block _ (by omega)).trans ?_, (HBB.out _ _).trans (hb.mono (by omega))⟩
   have := heap_alloc_new (w.alloc (.cells #[.bool false, .bool false, .int .i64 0, .int .i64 0, .int .i64 0, .int .i64 0] 242)) (.cells #[.bool false, .bool false, .int .i64 0, .int .i64 0, .int .i64 0, .int .i64 0] 242)
   rwa [size1] at this
  go_enter Tryz.func188, Tryz.ntmps188
  go_wp2_with fail
  refine (times_any _).mono ?_
  rintro e w1 ⟨rfl, h1⟩
  obtain ⟨q0, q1, q2⟩ := HX.out _ h1
  obtain ⟨⟨z0, z1, z2, z3, z4, z5⟩, g0, g1, g2, g3, g4, g5⟩ := cells6 q0
  obtain ⟨⟨x0, x1, x2, x3, x4, x5⟩, f0, f1, f2, f3, f4, f5⟩ := cells6 q1
  have r1 := heap_setCell_at (heap_setCell_at (heap_setCell_at (heap_setCell_at (heap_setCell_at (heap_setCell_at ((heap_set_far (b := w.heap.size) (g := w.heap.size + 1) (i := 3) (v := .int .i64 1099511627775) (by omega)).trans ((heap_set_far (b := w.heap.size) (g := w.heap.size + 1) (i := 2) (v := .int .i64 0) (by omega)).trans q0)) 0 (.bool false)) 1 (.bool false)) 2 (.int .i64 0)) 3 (.int .i64 1099511627775)) 4 (.int .i64 0)) 5 (.int .i64 0)
  have HL := Lib.hid (loadShape r1)
  have HB : Hid (Below w.heap.size w _) := (((((((q2.setCell (p := ⟨w.heap.size + 1, 2, none⟩) (by show w.heap.size ≤ w.heap.size + 1; omega) (.int .i64 0)).setCell (p := ⟨w.heap.size + 1, 3, none⟩) (by show w.heap.size ≤ w.heap.size + 1; omega) (.int .i64 1099511627775)).setCell (p := ⟨w.heap.size, 0, none⟩) (Nat.le_refl _) (.bool false)).setCell (p := ⟨w.heap.size, 1, none⟩) (Nat.le_refl _) (.bool false)).setCell (p := ⟨w.heap.size, 2, none⟩) (Nat.le_refl _) (.int .i64 0)).setCell (p := ⟨w.heap.size, 3, none⟩) (Nat.le_refl _) (.int .i64 1099511627775)).setCell (p := ⟨w.heap.size, 4, none⟩) (Nat.le_refl _) (.int .i64 0)).setCell (p := ⟨w.heap.size, 5, none⟩) (Nat.le_refl _) (.int .i64 0)
  clear h1 q0 q1 q2 r1
  go_wp2
  refine bodyPost_ret (v := .tuple #[.agg #[.bool false, .bool false, .int .i64 0, .int .i64 1099511627775, .int .i64 0, .int .i64 0], .bool true]) ?_ rfl ?_
  ·rw [results_cellT rfl]
   simp [asAddr, Result.andThen, HL.out]
  ·exact ⟨rfl, HB.out⟩
 ·have hx : shK k = ⟨false, false, 0, 0, 0, 0⟩ := by unfold shK; rw [if_neg (by omega), if_neg (by omega), if_neg (by omega), if_neg (by omega), if_neg (by omega)]
  have hi : isK k = false := by unfold isK; rcases hk with hk | hk <;> simp <;> omega
  rw [hx, hi]
  have k1 : (k == 1) = false := by simp; omega
  have k2 : (k == 2) = false := by simp; omega
  have k3 : (k == 3) = false := by simp; omega
  have k4 : (k == 4) = false := by simp; omega
  have k5 : (k == 5) = false := by simp; omega
  have k6 : (k == 6) = false := by simp; omega
  have k7 : (k == 7) = false := by simp; omega
  go_enter Tryz.func188, Tryz.ntmps188
  go_wp2
  refine bodyPost_ret (v := .tuple #[.agg #[.bool false, .bool false, .int .i64 0, .int .i64 0, .int .i64 0, .int .i64 0], .bool false]) ?_ rfl ?_
  ·rw [results_cellT rfl]
   simp [asAddr, Result.andThen, HLD.out]
  ·exact ⟨rfl, HBB.out _ _⟩
end Go.Proofs.YtmfpjapiijgdgaaGreat
