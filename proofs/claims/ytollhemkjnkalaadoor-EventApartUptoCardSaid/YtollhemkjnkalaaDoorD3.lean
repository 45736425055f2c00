/- Contracts: one digit, its value, and the document's own hexadecimal digits. -/
import Derived.Test.YtollhemkjnkalaaDoorG0
import Derived.Test.YtollhemkjnkalaaDoorD1
import Derived.Lib.SlBytesRow
namespace Go.Proofs.YtollhemkjnkalaaDoor
open Go.RowKit
set_option linter.unusedVariables false
set_option maxRecDepth 100000

theorem bytes_one (w : World) (x : Int) (c : UInt8) (hx : x = (c.toNat : Int)) (t : TypeId) : Lib.Bytes (w.alloc (.cells #[.int .u8 x] t)) w.heap.size 0 ⟨#[c]⟩ := fun i hi => by
  have : i = 0 := by simp [ByteArray.size] at hi; exact hi
  subst this
  subst hx
  simp
  rfl
theorem conv_one (w : World) (x : Int) (c : UInt8) (hx : x = (c.toNat : Int)) : (convert 72 9 (.slice (some ⟨w.heap.size, 0, none⟩) 1 1)).run Tryd.prog (w.alloc (.cells #[.int .u8 x] 5)) = .ok (.string ⟨#[c]⟩) (w.alloc (.cells #[.int .u8 x] 5)) :=
  Lib.run_convert_whole _ 72 5 9 Tryd.underlying72 Tryd.underlying5 Tryd.underlying9 w.heap.size 0 ⟨#[c]⟩ (bytes_one w x c hx _) 1

theorem dgB_low (d : Nat) (h : d < 10) : ((dgB d).toNat : Int) = 48 + d := by
  have := (by decide +kernel : ∀ d, d < 10 → (dgB d).toNat = 48 + d) d h
  omega
theorem dgB_high (d : Nat) (h : d < 16) (h2 : ¬ d < 10) : ((dgB d).toNat : Int) = 87 + d := by
  have := (by decide +kernel : ∀ d, d < 16 → ¬ d < 10 → (dgB d).toNat = 87 + d) d h h2
  omega

set_option maxHeartbeats 400000 in
theorem digit_any (d : Nat) (hd : d < 16) (w : World) :
    Calls Tryd.prog 45 #[.int .i64 d] w fun e w' => e = .returned (.string (tx [dgB d])) ∧ Below w.heap.size w w' := by
  have HB : Hid (∀ o, Below w.heap.size w (w.alloc o)) := fun o => (Below.refl _ _).alloc (Nat.le_refl _) _
  by_cases h : d < 10
  · have hcv := conv_one w (48 + (d : Int)) (dgB d) (dgB_low d h).symm
    go_enter Tryd.func45, Tryd.ntmps45
    go_wp2
    go_ret
    exact ⟨rfl, HB.out _⟩
  · have hcv := conv_one w (87 + (d : Int)) (dgB d) (dgB_high d hd h).symm
    go_enter Tryd.func45, Tryd.ntmps45
    go_wp2
    go_ret
    exact ⟨rfl, HB.out _⟩
end Go.Proofs.YtollhemkjnkalaaDoor
