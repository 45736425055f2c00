/- Contracts of layer 4: which bytes may stand where; the parts of a frame, held against a text. -/
import Derived.Test.YtollhemkjnkalaaGreatDoorH1
import Derived.Test.YtollhemkjnkalaaGreatDoorG1
import Derived.Test.YtollhemkjnkalaaGreatDoorD6a
namespace Go.Proofs.YtollhemkjnkalaaGreatDoor
open Go.RowKit
set_option linter.unusedVariables false
set_option maxRecDepth 100000

/-- a function of one byte that only tells -/
def Tells (f : Nat) (p : UInt8 → Bool) : Prop := ∀ (c : UInt8) (W : World), Calls Tryz.prog f #[.int .u8 (c.toNat : Int)] W fun e w' => e = .returned (.bool (p c)) ∧ w' = W

/-- a function of the program is entered when it is called -/
def Enters (f : Nat) : Prop := ∀ (args : Array Value) (W : World), Sem.run Tryz.prog (callFunc f args) W = .ok (.enter f args) W
theorem isMark_enters : Enters 69 := fun args W => by rfl
theorem isKind_enters : Enters 38 := fun args W => by rfl
theorem inBody_enters : Enters 39 := fun args W => by rfl
theorem isDigit_enters : Enters 51 := fun args W => by rfl
set_option maxHeartbeats 400000 in
theorem isMark_any : Tells 69 isMarkB := fun c w => by
  have HE : Hid (isMarkB c = ((c.toNat : Int) == 254)) := by
    unfold Hid isMarkB
    rw [Bool.eq_iff_iff]; simp; omega
  generalize (c.toNat : Int) = n at *
  go_enter Tryz.func69, Tryz.ntmps69
  go_wp2
  all_goals go_ret
  exact ⟨retB HE.out.symm, rfl⟩
set_option maxHeartbeats 400000 in
theorem isKind_any : Tells 38 isKindB := fun c w => by
  have HE : Hid (isKindB c = (decide (97 ≤ (c.toNat : Int)) && decide ((c.toNat : Int) ≤ 122))) := by
    unfold Hid isKindB
    congr 1 <;> exact decide_eq_decide.2 (by omega)
  generalize (c.toNat : Int) = n at *
  by_cases h1 : 97 ≤ n
  · go_enter Tryz.func38, Tryz.ntmps38
    go_wp2
    all_goals go_ret
    exact ⟨retB (by rw [HE.out, decide_eq_true h1]; rfl), rfl⟩
  · go_enter Tryz.func38, Tryz.ntmps38
    go_wp2
    all_goals go_ret
    exact ⟨retB (by rw [HE.out, decide_eq_false (by omega)]; rfl), rfl⟩
set_option maxHeartbeats 400000 in
theorem inBody_any : Tells 39 inBodyB := fun c w => by
  have HE : Hid (inBodyB c = (decide (32 ≤ (c.toNat : Int)) && decide ((c.toNat : Int) ≤ 126))) := by
    unfold Hid inBodyB
    congr 1 <;> exact decide_eq_decide.2 (by omega)
  generalize (c.toNat : Int) = n at *
  by_cases h1 : 32 ≤ n
  · go_enter Tryz.func39, Tryz.ntmps39
    go_wp2
    all_goals go_ret
    exact ⟨retB (by rw [HE.out, decide_eq_true h1]; rfl), rfl⟩
  · go_enter Tryz.func39, Tryz.ntmps39
    go_wp2
    all_goals go_ret
    exact ⟨retB (by rw [HE.out, decide_eq_false (by omega)]; rfl), rfl⟩
theorem isDig_int (c : UInt8) : isDigB c = ((decide (48 ≤ (c.toNat : Int)) && decide ((c.toNat : Int) ≤ 57)) || (decide (97 ≤ (c.toNat : Int)) && decide ((c.toNat : Int) ≤ 102))) := by
  unfold isDigB
  congr 1 <;> congr 1 <;> exact decide_eq_decide.2 (by omega)
set_option maxHeartbeats 1000000 in
theorem isDigit_any : Tells 51 isDigB := fun c w => by
  have HE := Lib.hid (isDig_int c)
  generalize (c.toNat : Int) = n at *
  have hc : (48 ≤ n ∧ n ≤ 57) ∨ (48 ≤ n ∧ ¬ n ≤ 57 ∧ 97 ≤ n) ∨ (48 ≤ n ∧ ¬ n ≤ 57 ∧ ¬ 97 ≤ n) ∨ (¬ 48 ≤ n ∧ ¬ 97 ≤ n) := by omega
  rcases hc with ⟨a1, a2⟩ | ⟨a1, a2, a3⟩ | ⟨a1, a2, a3⟩ | ⟨a1, a3⟩
  all_goals
    go_enter Tryz.func51, Tryz.ntmps51
    go_wp2
    all_goals go_ret
    refine ⟨retB ?_, rfl⟩
    rw [HE.out, Bool.eq_iff_iff]
    simp
    try omega

theorem cell_new (W : World) (xs : Array Value) (t : TypeId) (i g : Nat) (v : Value) (hg : g = W.heap.size) (h : xs[i]? = some v) : (W.alloc (.cells xs t)).cell? ⟨g, i, none⟩ = some v := by
  subst hg
  rw [cell_of_row _ _ _ xs t (0, 0) (heap_alloc_new W _), h]
theorem cell_old {W : World} {o : Obj} {i g : Nat} {v : Value} (hg : g < W.heap.size) (h : W.cell? ⟨g, i, none⟩ = some v) : (W.alloc o).cell? ⟨g, i, none⟩ = some v := by
  rw [World.cell?_alloc_lt _ _ _ hg]; exact h
/-- a part, as the program has it -/
def partV (n f : Nat) : Value := .agg #[.int .i64 n, .func (.func f) #[] #[]]
theorem retN {a b : Nat} (h : a = b) : Ending.returned (.int .i64 (a : Int)) = .returned (.int .i64 (b : Int)) := by rw [h]
theorem take_all_next (p : UInt8 → Bool) (s : ByteArray) (j : Nat) (h : j < s.size) : ((toL s).take (j + 1)).all p = (((toL s).take j).all p && p s[j]) := by
  have : (toL s).take (j + 1) = (toL s).take j ++ [s[j]'h] := by
    rw [List.take_add_one]
    have h' : j < s.data.size := h
    have e : (toL s)[j]? = some (s[j]'h) := by
      unfold toL
      rw [Array.getElem?_toList, Array.getElem?_eq_getElem h']
      rfl
    rw [e]; rfl
  rw [this, List.all_append]; simp
theorem take_all_less (p : UInt8 → Bool) (l : List UInt8) (j n : Nat) (h : j ≤ n) (hf : (l.take j).all p = false) : (l.take n).all p = false := by
  obtain ⟨m, rfl⟩ : ∃ m, n = j + m := ⟨n - j, by omega⟩
  rw [take_add', List.all_append, hf]; rfl
theorem readC_bad (p : UInt8 → Bool) (s : ByteArray) (n j : Nat) (h : j < s.size) (hn : j < n) (hf : p s[j] = false) : readC n p (toL s) = 44 := by
  unfold readC
  rw [if_neg]
  rw [take_all_less p (toL s) (j + 1) n hn (by rw [take_all_next p s j h, hf, Bool.and_false])]
  simp
theorem readC_end (p : UInt8 → Bool) (s : ByteArray) (n : Nat) (hf : ((toL s).take (min n s.size)).all p = true) : readC n p (toL s) = if s.size < n then 43 else 0 := by
  have e : (toL s).take (min n s.size) = (toL s).take n := by
    rcases Nat.le_total n s.size with h | h
    · rw [Nat.min_eq_left h]
    · rw [Nat.min_eq_right h, List.take_of_length_le (by rw [toL_length]; exact Nat.le_refl _), List.take_of_length_le (by rw [toL_length]; exact h)]
  rw [e] at hf
  unfold readC
  rw [if_pos hf, toL_length]

set_option maxHeartbeats 1000000 in
theorem read_any (n f : Nat) (p : UInt8 → Bool) (hp : Tells f p) (hcf : Enters f) (s : ByteArray) (hs : s.size ≤ 1000000000000000000) (hn : n ≤ 10000) (w : World) :
    Calls Tryz.prog 40 #[partV n f, .string s] w fun e w' => e = .returned (.int .i64 (readC n p (toL s) : Int)) ∧ Below w.heap.size w w' := by
  have HP := Lib.hid hp
  have hcf' : ∀ (args : Array Value) (W : World), Sem.run Tryz.prog (callFunc f args) W = .ok (.enter f args) W := hcf
  clear hp hcf
  unfold partV
  obtain ⟨m, hm⟩ : ∃ m, m = min n s.size := ⟨_, rfl⟩
  have hm1 : m ≤ n := by omega
  have hm2 : m ≤ s.size := by omega
  have hmin : min (n : Int) (s.size : Int) = (m : Int) := by omega
  have HE : Hid (((toL s).take m).all p = true → readC n p (toL s) = if s.size < n then 43 else 0) := fun h => readC_end p s n (by rw [← hm]; exact h)
  have HBAD := Lib.hid (fun j h hn hf => readC_bad p s n j h hn hf)
  have HB := Lib.hid ((Below.refl w.heap.size w).alloc (Nat.le_refl _) (.cells #[.int .i64 n, .func (.func f) #[] #[]] 89))
  clear hm
  go_enter Tryz.func40, Tryz.ntmps40
  go_wp2
  clear hmin
  have hc0 := cell_new w #[.int .i64 n, .func (.func f) #[] #[]] 89 0 w.heap.size _ rfl rfl
  have hc1 := cell_new w #[.int .i64 n, .func (.func f) #[] #[]] 89 1 w.heap.size _ rfl rfl
  generalize w.alloc (.cells #[.int .i64 n, .func (.func f) #[] #[]] 89) = W at *
  go_loopw [11] (fun i wr => ∃ j : Nat, j ≤ m ∧ i = .int .i64 j ∧ Hid (((toL s).take j).all p = true) ∧ Hid (Drew W wr)) (fun i _ => m - (intOf i).toNat)
  case atStart => exact ⟨0, by omega, rfl, (by unfold Hid; rfl), Drew.refl _⟩
  case round =>
    obtain ⟨j, hj, rfl, HA, HD⟩ := hrel
    have hd0 := (HD.out.cell ⟨w.heap.size, 0, none⟩).trans hc0
    have hd1 := (HD.out.cell ⟨w.heap.size, 1, none⟩).trans hc1
    clear hc0 hc1
    by_cases hjm : j < m
    · have hjs : j < s.size := by omega
      have HN := Lib.hid (take_all_next p s j hjs)
      have HC := Lib.hid (HP.out s[j])
      have HF := Lib.hid (HBAD.out j hjs (by omega))
      have hbyte : 0 ≤ (s[j].toNat : Int) ∧ (s[j].toNat : Int) ≤ 255 := ⟨by omega, by have := s[j].toNat_lt; omega⟩
      obtain ⟨b, hb⟩ : ∃ b, p s[j] = b := ⟨_, rfl⟩
      rw [hb] at HN
      have HC2 : Hid (∀ W, Calls Tryz.prog f #[.int .u8 (s[j].toNat : Int)] W fun e w' => e = .returned (.bool b) ∧ w' = W) := by rw [← hb]; exact HC.out
      cases b
      · have HR := Lib.hid (HF.out hb)
        clear hb
        go_wp2
        go_quiet (first | (refine Calls.quiet_of_same (HC2.out _)))
        go_wp2
        go_ret
        exact ⟨by rw [HR.out]; rfl, HB.out.trans ((HD.out.trans ⟨_, rfl⟩).below _)⟩
      · clear hb
        go_wp2
        go_quiet (first | (refine Calls.quiet_of_same (HC2.out _)))
        go_wp2
        go_roundw
        case rel => exact ⟨j + 1, by omega, by go_num, (by unfold Hid; rw [HN.out, HA.out]; rfl), HD.out.trans ⟨_, rfl⟩⟩
        case measure => simp [intOf]; omega
    · obtain rfl : j = m := by omega
      have HR := Lib.hid (HE.out HA.out)
      by_cases hlt : s.size < n
      · go_wp2
        go_ret
        exact ⟨by rw [HR.out, if_pos hlt]; rfl, HB.out.trans (HD.out.below _)⟩
      · go_wp2
        go_ret
        exact ⟨by rw [HR.out, if_neg (by omega)]; rfl, HB.out.trans (HD.out.below _)⟩
end Go.Proofs.YtollhemkjnkalaaGreatDoor
