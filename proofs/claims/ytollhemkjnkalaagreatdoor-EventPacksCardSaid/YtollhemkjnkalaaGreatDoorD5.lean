/- Contracts: the number that digits count to, in the program and in the document's own way; hexadecimal and decimal texts read. -/
import Derived.Test.YtollhemkjnkalaaGreatDoorDA
import Derived.Test.YtollhemkjnkalaaGreatDoorShelf
namespace Go.Proofs.YtollhemkjnkalaaGreatDoor
open Go.RowKit Go.Shelf
set_option linter.unusedVariables false
set_option maxRecDepth 100000

/-- a number, and true; or 0, and false -/
def optV (o : Option Int) : Value := .tuple #[.int .i64 (o.getD 0), .bool o.isSome]
theorem retO {a : Int} {b : Bool} {o : Option Int} (h1 : a = o.getD 0) (h2 : b = o.isSome) : Ending.returned (.tuple #[.int .i64 a, .bool b]) = .returned (optV o) := by rw [h1, h2]; rfl

theorem u8_back (c : UInt8) : ((c.toNat : Int)).toNat.toUInt8 = c := by simp
theorem indexHex (c : UInt8) (W : World) : Calls Tryz.prog 32 #[.string ⟨#[48, 49, 50, 51, 52, 53, 54, 55, 56, 57, 97, 98, 99, 100, 101, 102]⟩, .int .u8 (c.toNat : Int)] W fun e w' => e = .returned (.int .i64 (hexV c)) ∧ w' = W := by
  have h := Any.strings_IndexByte Tryz.laysIndexByte ⟨#[48, 49, 50, 51, 52, 53, 54, 55, 56, 57, 97, 98, 99, 100, 101, 102]⟩ (c.toNat : Int) W
  rw [u8_back] at h
  refine Calls.mono h ?_
  rintro e w' ⟨rfl, rfl⟩
  exact ⟨retI (hexV_index c), rfl⟩
theorem indexDec (c : UInt8) (W : World) : Calls Tryz.prog 32 #[.string ⟨#[48, 49, 50, 51, 52, 53, 54, 55, 56, 57]⟩, .int .u8 (c.toNat : Int)] W fun e w' => e = .returned (.int .i64 (decV c)) ∧ w' = W := by
  have h := Any.strings_IndexByte Tryz.laysIndexByte ⟨#[48, 49, 50, 51, 52, 53, 54, 55, 56, 57]⟩ (c.toNat : Int) W
  rw [u8_back] at h
  refine Calls.mono h ?_
  rintro e w' ⟨rfl, rfl⟩
  exact ⟨retI (decV_index c), rfl⟩
theorem sliceHex (W : World) : (Instr.slice 9 (.string ⟨#[48, 49, 50, 51, 52, 53, 54, 55, 56, 57, 97, 98, 99, 100, 101, 102]⟩) none (some (.int .i64 16)) none).run Tryz.prog W = .ok (.string ⟨#[48, 49, 50, 51, 52, 53, 54, 55, 56, 57, 97, 98, 99, 100, 101, 102]⟩) W := by kernel_rfl
theorem sliceDec (W : World) : (Instr.slice 9 (.string ⟨#[48, 49, 50, 51, 52, 53, 54, 55, 56, 57, 97, 98, 99, 100, 101, 102]⟩) none (some (.int .i64 10)) none).run Tryz.prog W = .ok (.string ⟨#[48, 49, 50, 51, 52, 53, 54, 55, 56, 57]⟩) W := by kernel_rfl

theorem drop_at (s : ByteArray) (k : Nat) (h : k < s.size) : s.data.toList.drop k = s[k] :: s.data.toList.drop (k + 1) := by
  rw [List.drop_eq_getElem_cons (by simpa using h)]; rfl
theorem drop_all (s : ByteArray) (k : Nat) (h : s.size ≤ k) : s.data.toList.drop k = [] := List.drop_eq_nil_of_le (by simpa using h)

set_option maxHeartbeats 1000000 in
theorem numberHex (s : ByteArray) (most : Int) (hm0 : 0 ≤ most) (hm1 : most ≤ 281474976710655) (w : World) (hs : s.size ≤ maxLen) :
    Calls Tryz.prog 84 #[.string s, .int .i64 16, .int .i64 most] w fun e w' => e = .returned (optV (numF hexV 16 most s.data.toList 0)) ∧ Drew w w' := by
  unfold maxLen at hs
  have HI := Lib.hid indexHex
  have hsl := sliceHex
  go_enter Tryz.func84, Tryz.ntmps84
  go_wp2
  go_loopw [8, 13] (fun v i wr => ∃ (k : Nat) (n : Int), k ≤ s.size ∧ i = .int .i64 k ∧ v = .int .i64 n ∧ 0 ≤ n ∧ n ≤ most ∧ Hid (numF hexV 16 most s.data.toList 0 = numF hexV 16 most (s.data.toList.drop k) n) ∧ Hid (Drew w wr)) (fun _ i _ => s.size - (intOf i).toNat)
  case atStart => exact ⟨0, 0, by omega, rfl, rfl, by omega, by omega, rfl, Drew.refl _⟩
  case round =>
    obtain ⟨k, n, hk, rfl, rfl, hn0, hn1, H, HW⟩ := hrel
    by_cases hlt : k < s.size
    · have HB := Lib.hid (H.out.trans (congrArg (fun l => numF hexV 16 most l n) (drop_at s k hlt)))
      have hlo := hexV_ge s[k]
      have hhi := hexV_lt s[k]
      have HC := Lib.hid (fun W => HI.out s[k] W)
      have hbyte : 0 ≤ (s[k].toNat : Int) ∧ (s[k].toNat : Int) ≤ 255 := ⟨by omega, by have := s[k].toNat_lt; omega⟩
      by_cases hneg : hexV s[k] < 0
      · have HF := Lib.hid (HB.out.trans (numF_bad hexV 16 most s[k] _ n hneg))
        generalize hexV s[k] = v at *
        go_wp2
        go_quiet (first | (go_at_call 32; refine Calls.quiet_of_same (HC.out _)))
        go_wp2
        go_ret2
        exact ⟨retO (by rw [HF.out]; rfl) (by rw [HF.out]; rfl), HW.out.trans ⟨_, rfl⟩⟩
      · by_cases hbig : 16 * n + hexV s[k] > most
        · have HF := Lib.hid (HB.out.trans (numF_past hexV 16 most s[k] _ n hneg hbig))
          generalize hexV s[k] = v at *
          go_wp2
          go_quiet (first | (go_at_call 32; refine Calls.quiet_of_same (HC.out _)))
          go_wp2
          go_ret2
          exact ⟨retO (by rw [HF.out]; rfl) (by rw [HF.out]; rfl), HW.out.trans ⟨_, rfl⟩⟩
        · have HF := Lib.hid (HB.out.trans (numF_next hexV 16 most s[k] _ n hneg hbig))
          generalize hexV s[k] = v at *
          go_wp2
          go_quiet (first | (go_at_call 32; refine Calls.quiet_of_same (HC.out _)))
          go_wp2
          go_roundw
          case rel => exact ⟨k + 1, 16 * n + v, by omega, by go_num, rfl, by omega, by omega, HF, HW.out.trans ⟨_, rfl⟩⟩
          case measure => simp [intOf]; omega
    · have HB : Hid (numF hexV 16 most s.data.toList 0 = some n) := by unfold Hid; rw [H.out, drop_all s k (by omega)]; rfl
      go_wp2
      go_ret2
      exact ⟨retO (by rw [HB.out]; rfl) (by rw [HB.out]; rfl), HW.out⟩

set_option maxHeartbeats 1000000 in
theorem numberDec (s : ByteArray) (most : Int) (hm0 : 0 ≤ most) (hm1 : most ≤ 281474976710655) (w : World) (hs : s.size ≤ maxLen) :
    Calls Tryz.prog 84 #[.string s, .int .i64 10, .int .i64 most] w fun e w' => e = .returned (optV (numF decV 10 most s.data.toList 0)) ∧ Drew w w' := by
  unfold maxLen at hs
  have HI := Lib.hid indexDec
  have hsl := sliceDec
  go_enter Tryz.func84, Tryz.ntmps84
  go_wp2
  go_loopw [8, 13] (fun v i wr => ∃ (k : Nat) (n : Int), k ≤ s.size ∧ i = .int .i64 k ∧ v = .int .i64 n ∧ 0 ≤ n ∧ n ≤ most ∧ Hid (numF decV 10 most s.data.toList 0 = numF decV 10 most (s.data.toList.drop k) n) ∧ Hid (Drew w wr)) (fun _ i _ => s.size - (intOf i).toNat)
  case atStart => exact ⟨0, 0, by omega, rfl, rfl, by omega, by omega, rfl, Drew.refl _⟩
  case round =>
    obtain ⟨k, n, hk, rfl, rfl, hn0, hn1, H, HW⟩ := hrel
    by_cases hlt : k < s.size
    · have HB := Lib.hid (H.out.trans (congrArg (fun l => numF decV 10 most l n) (drop_at s k hlt)))
      have hlo := decV_ge s[k]
      have hhi := decV_lt s[k]
      have HC := Lib.hid (fun W => HI.out s[k] W)
      have hbyte : 0 ≤ (s[k].toNat : Int) ∧ (s[k].toNat : Int) ≤ 255 := ⟨by omega, by have := s[k].toNat_lt; omega⟩
      by_cases hneg : decV s[k] < 0
      · have HF := Lib.hid (HB.out.trans (numF_bad decV 10 most s[k] _ n hneg))
        generalize decV s[k] = v at *
        go_wp2
        go_quiet (first | (go_at_call 32; refine Calls.quiet_of_same (HC.out _)))
        go_wp2
        go_ret2
        exact ⟨retO (by rw [HF.out]; rfl) (by rw [HF.out]; rfl), HW.out.trans ⟨_, rfl⟩⟩
      · by_cases hbig : 10 * n + decV s[k] > most
        · have HF := Lib.hid (HB.out.trans (numF_past decV 10 most s[k] _ n hneg hbig))
          generalize decV s[k] = v at *
          go_wp2
          go_quiet (first | (go_at_call 32; refine Calls.quiet_of_same (HC.out _)))
          go_wp2
          go_ret2
          exact ⟨retO (by rw [HF.out]; rfl) (by rw [HF.out]; rfl), HW.out.trans ⟨_, rfl⟩⟩
        · have HF := Lib.hid (HB.out.trans (numF_next decV 10 most s[k] _ n hneg hbig))
          generalize decV s[k] = v at *
          go_wp2
          go_quiet (first | (go_at_call 32; refine Calls.quiet_of_same (HC.out _)))
          go_wp2
          go_roundw
          case rel => exact ⟨k + 1, 10 * n + v, by omega, by go_num, rfl, by omega, by omega, HF, HW.out.trans ⟨_, rfl⟩⟩
          case measure => simp [intOf]; omega
    · have HB : Hid (numF decV 10 most s.data.toList 0 = some n) := by unfold Hid; rw [H.out, drop_all s k (by omega)]; rfl
      go_wp2
      go_ret2
      exact ⟨retO (by rw [HB.out]; rfl) (by rw [HB.out]; rfl), HW.out⟩
end Go.Proofs.YtollhemkjnkalaaGreatDoor
