/- Contracts: texts read as hexadecimal numbers, in the program and in the document's own way. -/
import Derived.Test.YtollhemkjnkalaaDoorD5
namespace Go.Proofs.YtollhemkjnkalaaDoor
open Go.RowKit Go.Shelf
set_option linter.unusedVariables false
set_option maxRecDepth 100000

theorem optV_none : optV none = .tuple #[.int .i64 0, .bool false] := rfl
theorem unhex_short (s : ByteArray) (h : s.size < 1 ∨ 12 < s.size) : unhexL s.data.toList = none := by
  unfold unhexL
  have : s.data.toList.length = s.size := by simp
  rw [this, if_neg (by omega)]
theorem unhex_long (s : ByteArray) (h1 : 1 ≤ s.size) (h2 : s.size ≤ 12) : unhexL s.data.toList = numF hexV 16 281474976710655 s.data.toList 0 := by
  unfold unhexL
  have : s.data.toList.length = s.size := by simp
  rw [this, if_pos ⟨h1, h2⟩]; rfl

set_option maxHeartbeats 400000 in
theorem unhex_any (s : ByteArray) (w : World) (hs : s.size ≤ maxLen) :
    Calls Tryd.prog 71 #[.string s] w fun e w' => e = .returned (optV (unhexL s.data.toList)) ∧ Drew w w' := by
  have HC := Lib.hid (numberHex s 281474976710655 (by decide) (by decide) w hs)
  unfold maxLen at hs
  by_cases h1 : s.size < 1 ∨ 12 < s.size
  · have HE := Lib.hid (unhex_short s h1)
    by_cases h0 : s.size < 1
    all_goals
      go_enter Tryd.func71, Tryd.ntmps71
      go_wp2
      all_goals first | omega | (go_ret2; exact ⟨by rw [HE.out]; rfl, Drew.refl _⟩)
  · have h2 : 1 ≤ s.size := by omega
    have h3 : s.size ≤ 12 := by omega
    clear h1
    have HE := Lib.hid (unhex_long s h2 h3)
    rw [← HE.out] at HC
    unfold optV at HC
    generalize ho : unhexL s.data.toList = o at *
    clear ho
    go_enter Tryd.func71, Tryd.ntmps71
    go_wp2_with (go_at_call 74; refine HC.out.mono ?_; rintro e w' ⟨rfl, HD⟩)
    go_ret2
    exact ⟨rfl, HD⟩

theorem pow_next16 (n v : Int) (k : Nat) (h : n < ((16 ^ k : Nat) : Int)) (hv : v < 16) : 16 * n + v < ((16 ^ (k + 1) : Nat) : Int) := by
  rw [pow16]; omega

end Go.Proofs.YtollhemkjnkalaaDoor
