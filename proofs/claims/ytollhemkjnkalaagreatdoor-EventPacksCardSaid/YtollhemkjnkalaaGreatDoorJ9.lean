/- Layer 6: the words of a body, taken one by one. -/
import Derived.Test.YtollhemkjnkalaaGreatDoorJ8
namespace Go.Proofs.YtollhemkjnkalaaGreatDoor
open Go.RowKit
set_option linter.unusedVariables false
set_option maxRecDepth 100000

def headW : List ByteArray → ByteArray | [] => ⟨#[]⟩ | x :: _ => x
def tailW : List ByteArray → List ByteArray | [] => [] | _ :: l => l
/-- only block g has changed; there may be new ones -/
structure OnlyG (g : Nat) (w w' : World) : Prop where
  os : w'.os = w.os
  tape : w'.tape = w.tape
  output : w'.output = w.output
  size : w.heap.size ≤ w'.heap.size
  block : ∀ i, i < w.heap.size → i ≠ g → w'.heap[i]? = w.heap[i]?
theorem OnlyG.refl (g : Nat) (w : World) : OnlyG g w w := ⟨rfl, rfl, rfl, Nat.le_refl _, fun _ _ _ => rfl⟩
theorem OnlyG.trans {g : Nat} {a b c : World} (h : OnlyG g a b) (k : OnlyG g b c) : OnlyG g a c :=
  ⟨k.os.trans h.os, k.tape.trans h.tape, k.output.trans h.output, Nat.le_trans h.size k.size, fun i hi hg => (k.block i (Nat.lt_of_lt_of_le hi h.size) hg).trans (h.block i hi hg)⟩
theorem OnlyG.of_below {g : Nat} {w w' : World} (h : Below w.heap.size w w') : OnlyG g w w' := ⟨h.os, h.tape, h.output, h.size, fun i hi _ => h.block i hi⟩
theorem OnlyG.set (w : World) (g i : Nat) (v : Value) : OnlyG g w (w.setCell ⟨g, i, none⟩ v) := ⟨rfl, rfl, rfl, by simp [World.setCell], fun k _ hk => Below.heap_setCell _ _ _ k hk⟩
theorem OnlyG.below {g B : Nat} {w w' : World} (h : OnlyG g w w') (hB : B ≤ w.heap.size) (hg : B ≤ g) : Below B w w' := ⟨h.os, h.tape, h.output, h.size, fun i hi => h.block i (Nat.lt_of_lt_of_le hi hB) (fun e => by omega)⟩
theorem OnlyG.of_drew {g : Nat} {w w' : World} (h : Drew w w') : OnlyG g w w' := by
  obtain ⟨n, rfl⟩ := h
  exact ⟨rfl, rfl, rfl, Nat.le_refl _, fun _ _ _ => rfl⟩
/-- the words that are left, in block g -/
def RowAt (B : Nat) (w : World) (g : Nat) (L : List ByteArray) : Prop := ∃ a c, w.heap[g]? = some (.cells #[.slice a L.length c] 106 (0, 0)) ∧ Sl w a (strs L) ∧ L.length ≤ c ∧ c ≤ maxLen ∧ ∀ b o, a = some ⟨b, o, none⟩ → L ≠ [] → b < B
theorem Sl.only {g : Nat} {w w' : World} {a : Option Addr} {xs : List Value} (h : Sl w a xs) (k : OnlyG g w w') (hg : ∀ b o, a = some ⟨b, o, none⟩ → xs ≠ [] → b ≠ g) : Sl w' a xs := fun j hj => by
  obtain ⟨b, off, e, q1, q2⟩ := h j hj
  refine ⟨b, off, e, Nat.lt_of_lt_of_le q1 k.size, ?_⟩
  rw [← q2]
  unfold World.cell?
  rw [k.block b q1 (hg b off e (fun hx => by rw [hx] at hj; exact absurd hj (by simp)))]
theorem RowAt.below {B : Nat} {w w' : World} {g : Nat} {L : List ByteArray} (h : RowAt B w g L) (k : Below w.heap.size w w') : RowAt B w' g L := by
  obtain ⟨a, c, h1, h2, h3, h4, h5⟩ := h
  exact ⟨a, c, (k.block g (Array.getElem?_eq_some_iff.1 h1).1).trans h1, Sl.below h2 k, h3, h4, h5⟩
theorem sizeRS (W : World) : (sizeOf (Tryz.prog.elem 73)).run Tryz.prog W = .ok 1 W := by kernel_rfl
theorem Sl.tail1 {w : World} {b off : Nat} {x : Value} {xs : List Value} (h : Sl w (some ⟨b, off, none⟩) (x :: xs)) : Sl w (some ⟨b, off + 1, none⟩) xs := fun j hj => by
  obtain ⟨b', off', e, q1, q2⟩ := h (j + 1) (by simpa using hj)
  cases e
  refine ⟨b, off + 1, rfl, q1, ?_⟩
  rw [show off + 1 + j = off + (j + 1) by omega, q2]
  simp
set_option maxHeartbeats 2000000 in
theorem text_any' {B : Nat} (g : Nat) (hBg : B ≤ g) (L : List ByteArray) (w : World) (h : RowAt B w g L) : Calls Tryz.prog 60 #[.pointer (some ⟨g, 0, none⟩)] w fun r w' => r = .returned (.string (headW L)) ∧ RowAt B w' g (tailW L) ∧ OnlyG g w w' := by
  obtain ⟨a, c, h1, h2, h3, h4, h5⟩ := h
  have hc0 : w.cell? ⟨g, 0, none⟩ = some (.slice a L.length c) := cell_of_row _ _ 0 _ _ _ h1
  have hf0 : w.frozen? ⟨g, 0, none⟩ = false := frozen_of_row _ _ 0 _ _ h1
  cases L with
  | nil =>
    have HQ : Hid (RowAt B w g []) := ⟨a, c, h1, h2, h3, h4, h5⟩
    clear h1 h2 h5
    go_enter Tryz.func60, Tryz.ntmps60
    go_wp2
    go_ret
    exact ⟨rfl, HQ.out, OnlyG.refl _ _⟩
  | cons x l =>
    obtain ⟨b, off, rfl, hb, hcx⟩ := Sl.str h2 (k := 0) (by simp)
    have hcx' : w.cell? ⟨b, off, none⟩ = some (.string x) := hcx
    have hsl : ∀ W : World, (Instr.slice 73 (.slice (some ⟨b, off, none⟩) (l.length + 1) c) (some (.int .i64 1)) none none).run Tryz.prog W = .ok (.slice (if c = 1 then some ⟨b, off, none⟩ else some ⟨b, off + 1, none⟩) l.length (c - 1)) W := fun W => by
      rw [run_slice_l W 73 (some ⟨b, off, none⟩) (l.length + 1) c (by kernel_rfl) .i64 1 (by omega) (by omega), sizeRS]
      show Result.ok (sliced (some ⟨b, off, none⟩) 1 (l.length + 1) c 1) W = _
      unfold sliced
      rw [Nat.add_sub_cancel]
      congr 2
    have h3' : l.length + 1 ≤ c := h3
    have HQ : Hid (RowAt B (w.setCell ⟨g, 0, none⟩ (.slice (if c = 1 then some ⟨b, off, none⟩ else some ⟨b, off + 1, none⟩) l.length (c - 1))) g l) := by
      refine ⟨_, _, heap_setCell_at h1 0 _, ?_, by omega, by omega, ?_⟩
      · refine Sl.only ?_ (OnlyG.set w g 0 _) ?_
        · split
          · have : l = [] := List.eq_nil_of_length_eq_zero (by omega)
            subst this
            exact Sl.nil _ _
          · exact Sl.tail1 h2
        · intro b' o' e _
          split at e <;> (injection e with e; injection e with e1 e2; subst e1; have := h5 _ _ rfl (by simp); omega)
      · intro b' o' e _
        split at e <;> (injection e with e; injection e with e1 e2; subst e1; exact h5 _ _ rfl (by simp))
    have HG := Lib.hid (OnlyG.set w g 0 (.slice (if c = 1 then some ⟨b, off, none⟩ else some ⟨b, off + 1, none⟩) l.length (c - 1)))
    have hlen : (x :: l).length = l.length + 1 := rfl
    rw [hlen] at hc0
    clear h1 h2 h3 h5 hcx hlen
    generalize (if c = 1 then some (⟨b, off, none⟩ : Addr) else some ⟨b, off + 1, none⟩) = a2 at *
    have hmx : c ≤ 9223372036854775807 := by unfold maxLen at h4; omega
    go_enter Tryz.func60, Tryz.ntmps60
    go_wp2
    go_ret
    exact ⟨rfl, HQ.out, HG.out⟩
/-- the number of the next word, and 0, if it has none -/
def numW (s : ByteArray) : Int := (undecL s.data.toList).getD 0
set_option maxHeartbeats 2000000 in
theorem number_any' {B : Nat} (g : Nat) (hBg : B ≤ g) (L : List ByteArray) (w : World) (h : RowAt B w g L) (hf : ∀ s ∈ L, s.size ≤ maxLen) : Calls Tryz.prog 59 #[.pointer (some ⟨g, 0, none⟩)] w fun r w' => r = .returned (.int .i64 (numW (headW L))) ∧ RowAt B w' g (tailW L) ∧ OnlyG g w w' := by
  have HT := Lib.hid (text_any' g hBg L w h)
  have hz : (headW L).size ≤ maxLen := by
    cases L with
    | nil => exact Nat.zero_le _
    | cons x l => exact hf x (by simp)
  have HU := Lib.hid (fun W => undec_any (headW L) W hz)
  have HN : Hid ((undecL (headW L).data.toList).getD 0 = numW (headW L)) := rfl
  clear h hf hz
  unfold optV at HU
  generalize numW (headW L) = N at *
  generalize undecL (headW L).data.toList = u at *
  generalize headW L = s0 at *
  generalize (tailW L) = L2 at *
  generalize u.getD 0 = ug at *
  generalize u.isSome = us at *
  go_enter Tryz.func59, Tryz.ntmps59
  go_wp2_with fail
  refine (HT.out).mono ?_
  rintro r w1 ⟨rfl, hr, ho⟩
  have HR := Lib.hid hr
  have HO := Lib.hid ho
  clear hr ho
  go_wp2_with fail
  refine (HU.out _).mono ?_
  rintro r w2 ⟨rfl, hd⟩
  have HD : Hid (Below w1.heap.size w1 w2) := Drew.below hd _
  go_wp2
  go_ret
  exact ⟨retI HN.out, HR.out.below HD.out, HO.out.trans (OnlyG.of_below HD.out)⟩
end Go.Proofs.YtollhemkjnkalaaGreatDoor
