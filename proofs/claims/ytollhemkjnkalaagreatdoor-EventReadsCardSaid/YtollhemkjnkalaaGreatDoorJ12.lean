/- Layer 6: the event of a frame. -/
import Derived.Test.YtollhemkjnkalaaGreatDoorJ11
import Derived.Deep.RegionHeld3
namespace Go.Proofs.YtollhemkjnkalaaGreatDoor
open Go.RowKit Go.Shelf
set_option linter.unusedVariables false
set_option maxRecDepth 100000

def fromW (k : Int) (L : List ByteArray) : EvM := fromS (shK k) k L
theorem fromWords_any (k : Int) (L : List ByteArray) (hf : ∀ s ∈ L, s.size ≤ maxLen) (a : Option Addr) (c : Nat) (w : World) (hs : Sl w a (strs L)) (hc : L.length ≤ c) (hm : c ≤ maxLen) :
    Calls Tryz.prog 31 #[.int .i64 k, .slice a L.length c] w fun r w' => r = .returned (evV (fromW k L)) ∧ Below w.heap.size w w' := by
  unfold fromW
  have hcase : shK k = ⟨true, false, 1, 999, 1, 4⟩ ∨ shK k = ⟨true, false, 1, 999, 0, 0⟩ ∨ shK k = ⟨true, false, 0, 0, 0, 0⟩ ∨ shK k = ⟨true, true, 0, 0, 0, 0⟩ ∨ shK k = ⟨false, false, 0, 1099511627775, 0, 0⟩ ∨ shK k = ⟨false, false, 0, 0, 0, 0⟩ := by
    unfold shK
    split
    · exact .inl rfl
    · split
      · exact .inr (.inl rfl)
      · split
        · exact .inr (.inr (.inl rfl))
        · split
          · exact .inr (.inr (.inr (.inl rfl)))
          · split
            · exact .inr (.inr (.inr (.inr (.inl rfl))))
            · exact .inr (.inr (.inr (.inr (.inr rfl))))
  rcases hcase with h | h | h | h | h | h
  · rw [h]; exact fw_1 k h L hf a c w hs hc hm
  · rw [h]; exact fw_3 k h L hf a c w hs hc hm
  · rw [h]; exact fw_7 k h L hf a c w hs hc hm
  · rw [h]; exact fw_4 k h L hf a c w hs hc hm
  · rw [h]; exact fw_6 k h L hf a c w hs hc hm
  · rw [h]; exact fw_0 k h L hf a c w hs hc hm
/-- where a letter stands among the kinds' -/
def letP (c : UInt8) : Int := if c = 111 then 0 else if c = 99 then 1 else if c = 120 then 2 else if c = 103 then 3 else if c = 114 then 4 else if c = 104 then 5 else if c = 101 then 6 else -1
theorem letP_index (c : UInt8) : Lib.indexByte [111, 99, 120, 103, 114, 104, 101] c = letP c :=
  byte_all (fun c => Lib.indexByte [111, 99, 120, 103, 114, 104, 101] c = letP c) (by decide +kernel) c
theorem indexLetter (c : UInt8) (W : World) : Calls Tryz.prog 32 #[.string ⟨#[111, 99, 120, 103, 114, 104, 101]⟩, .int .u8 (c.toNat : Int)] W fun e w' => e = .returned (.int .i64 (letP c)) ∧ w' = W := by
  have h := Any.strings_IndexByte Tryz.laysIndexByte ⟨#[111, 99, 120, 103, 114, 104, 101]⟩ (c.toNat : Int) W
  rw [u8_back] at h
  refine Calls.mono h ?_
  rintro e w' ⟨rfl, rfl⟩
  exact ⟨retI (letP_index c), rfl⟩
/-- the event that the words of a frame would make -/
def guessE (k : UInt8) (b : ByteArray) : EvM := fromW (letP k + 1) ((splitOf (toL b)).map tx)
def frW (k : UInt8) (b : ByteArray) : Value := .agg #[.int .u8 (k.toNat : Int), .string b]
/-- is it the frame of that event? -/
def isF (k : UInt8) (b : ByteArray) : Bool := rightE (guessE k b) && (decide (letterE (guessE k b).kind = k) && ((tx (lineE (guessE k b))).toList == b.toList))
def zeroE : EvM := ⟨0, 0, ⟨#[]⟩, ⟨#[]⟩, 0, 0⟩
def ofE (k : UInt8) (b : ByteArray) : EvM := if isF k b then guessE k b else zeroE

theorem undec_in (s : ByteArray) : 0 ≤ numW s ∧ numW s ≤ 1099511627776 := by
  unfold numW
  cases h : undecL s.data.toList with
  | none => simp
  | some m =>
    have := decOf_undec _ m h
    have hf : forever = 1099511627776 := rfl
    rw [hf] at this
    simp
    omega
theorem headW_size {L : List ByteArray} {B : Nat} (h : ∀ s ∈ L, s.size ≤ B) : (headW L).size ≤ B := by
  cases L with
  | nil => exact Nat.zero_le _
  | cons x l => exact h x (by simp)
theorem tailW_size {L : List ByteArray} {B : Nat} (h : ∀ s ∈ L, s.size ≤ B) : ∀ s ∈ tailW L, s.size ≤ B := by
  cases L with
  | nil => intro s hs; exact absurd hs (by simp [tailW])
  | cons x l => exact fun s hs => h s (List.mem_cons_of_mem _ hs)
theorem fromW_fits (k : Int) (hk : -9223372036854775808 ≤ k ∧ k ≤ 9223372036854775807) (L : List ByteArray) (h : ∀ s ∈ L, s.size ≤ maxLen) : EFits (fromW k L) ∧ EInts (fromW k L) := by
  have hz : (⟨#[]⟩ : ByteArray).size ≤ maxLen := Nat.zero_le _
  have hn : ∀ s, I64 (numW s) := fun s => by have := undec_in s; unfold I64; omega
  have h0 : I64 0 := by unfold I64; omega
  have h1 := tailW_size h
  unfold fromW fromS EFits
  refine ⟨⟨?_, ?_⟩, ⟨hn _, ?_, ?_⟩⟩
  · dsimp only
    split
    · exact headW_size h1
    · exact hz
  · dsimp only
    split
    · split
      · exact headW_size (tailW_size h1)
      · exact headW_size h1
    · exact hz
  · dsimp only
    split
    · exact hn _
    · exact h0
  · dsimp only
    split
    · exact hn _
    · exact h0
end Go.Proofs.YtollhemkjnkalaaGreatDoor
