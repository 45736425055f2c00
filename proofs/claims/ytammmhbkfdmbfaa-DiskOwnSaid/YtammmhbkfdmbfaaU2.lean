/- Layer 5's laws: alive. -/
import Derived.Test.YtammmhbkfdmbfaaU1
namespace Go.Proofs.Ytammmhbkfdmbfaa
open Go.RowKit
set_option linter.unusedVariables false

section
variable {K : Nat → Prop} {w0 w : World} {p : Nat} {d d' : DiskM}
def sA : ByteArray := ⟨#[97]⟩
def a0 : DiskM := newM 20
def a1 : DiskM := (doM a0 ⟨0, [97], [], 0⟩).1
def a2 : DiskM := (doM a1 ⟨1, [97], [97, 98], 0⟩).1
def a3 : DiskM := (doM a2 ⟨2, [97], [], 0⟩).1
def a4 : DiskM := (doM a3 ⟨1, [97], [99, 100], 0⟩).1
def longA : ByteArray := ⟨#[48, 49, 50, 51, 52, 53, 54, 55, 56, 57, 48, 49, 50, 51, 52, 53, 54, 55, 56]⟩
def a5 : DiskM := (doM a4 ⟨1, [97], toL longA, 0⟩).1
def a6 : DiskM := { a5 with fuse := max 0 (-1) }
def a7 : DiskM := (doM a6 ⟨2, [97], [], 0⟩).1
def a8 : DiskM := readD a7 [97] 0
def a9 : DiskM := crashM a8 [1]
def a10 : DiskM := readD a9 [97] 1
def a11 : DiskM := (doM a10 ⟨3, [97], [98], 0⟩).1
def a12 : DiskM := (doM a11 ⟨4, [97], [], 0⟩).1
def a13 : DiskM := (doM a12 ⟨4, [98], [], 0⟩).1
theorem al1 (h : Liv K w0 w p a0) : Calls Try.prog 33 #[pt p, .string ⟨#[97]⟩] w fun e w' => e = .returned (.int .i64 0) ∧ Liv K w0 w' p a1 := by
  have := liv_create ⟨#[97]⟩ (by decide) ⟨0, [97], [], 0⟩ rfl rfl h (by decide +kernel)
  rwa [show (doM a0 ⟨0, [97], [], 0⟩).2 = 0 by decide +kernel] at this
theorem al2 (h : Liv K w0 w p a1) : Calls Try.prog 38 #[pt p, .string ⟨#[97]⟩, .string ⟨#[97, 98]⟩] w fun e w' => e = .returned (.int .i64 0) ∧ Liv K w0 w' p a2 := by
  have := liv_append ⟨#[97]⟩ ⟨#[97, 98]⟩ (by decide) (by decide) ⟨1, [97], [97, 98], 0⟩ rfl rfl rfl h (by decide +kernel)
  rwa [show (doM a1 ⟨1, [97], [97, 98], 0⟩).2 = 0 by decide +kernel] at this
theorem al3 (h : Liv K w0 w p a2) : Calls Try.prog 39 #[pt p, .string ⟨#[97]⟩] w fun e w' => e = .returned (.int .i64 0) ∧ Liv K w0 w' p a3 := by
  have := liv_sync ⟨#[97]⟩ (by decide) ⟨2, [97], [], 0⟩ rfl rfl h (by decide +kernel)
  rwa [show (doM a2 ⟨2, [97], [], 0⟩).2 = 0 by decide +kernel] at this
theorem al4 (h : Liv K w0 w p a3) : Calls Try.prog 38 #[pt p, .string ⟨#[97]⟩, .string ⟨#[99, 100]⟩] w fun e w' => e = .returned (.int .i64 0) ∧ Liv K w0 w' p a4 := by
  have := liv_append ⟨#[97]⟩ ⟨#[99, 100]⟩ (by decide) (by decide) ⟨1, [97], [99, 100], 0⟩ rfl rfl rfl h (by decide +kernel)
  rwa [show (doM a3 ⟨1, [97], [99, 100], 0⟩).2 = 0 by decide +kernel] at this
theorem al5 (h : Liv K w0 w p a4) : Calls Try.prog 38 #[pt p, .string ⟨#[97]⟩, .string longA] w fun e w' => e = .returned (.int .i64 52) ∧ Liv K w0 w' p a5 := by
  have := liv_append ⟨#[97]⟩ longA (by decide) (by decide) ⟨1, [97], toL longA, 0⟩ rfl rfl rfl h (by decide +kernel)
  rwa [show (doM a4 ⟨1, [97], toL longA, 0⟩).2 = 52 by decide +kernel] at this
theorem al6 (h : Liv K w0 w p a5) : Calls Try.prog 34 #[pt p, .int .i64 0] w fun e w' => e = .returned (.tuple #[]) ∧ Liv K w0 w' p a6 := liv_setFuse 0 (by decide) h
theorem al7 (h : Liv K w0 w p a6) : Calls Try.prog 39 #[pt p, .string ⟨#[97]⟩] w fun e w' => e = .returned (.int .i64 50) ∧ Liv K w0 w' p a7 := by
  have := liv_sync ⟨#[97]⟩ (by decide) ⟨2, [97], [], 0⟩ rfl rfl h (by decide +kernel)
  rwa [show (doM a6 ⟨2, [97], [], 0⟩).2 = 50 by decide +kernel] at this
theorem al8 (h : Liv K w0 w p a7) : Calls Try.prog 20 #[pt p, .string ⟨#[97]⟩, .int .i64 0] w fun e w' => e = .returned (.tuple #[.string ⟨#[]⟩, .int .i64 50]) ∧ Liv K w0 w' p a8 := by
  have := liv_read ⟨#[97]⟩ (by decide) 0 h
  rwa [show toL ⟨#[97]⟩ = [97] from rfl, show tx (readT a7 [97] 0) = ⟨#[]⟩ by decide +kernel, show readE a7 [97] 0 = 50 by decide +kernel] at this
theorem al9 (h : Liv K w0 w p a8) (g n : Nat) (hg : g = w.heap.size) (hn : n = 1) (t : TypeId) : Calls Try.prog 28 #[pt p, .slice (some ⟨g, 0, none⟩) n n] (w.alloc (.cells #[.int .i64 1] t)) fun e w' => e = .returned (.tuple #[]) ∧ Liv K w0 w' p a9 :=
  liv_crash_lit [1] h (by decide +kernel) (by decide) #[.int .i64 1] rfl t g n hg hn
theorem al10 (h : Liv K w0 w p a9) : Calls Try.prog 20 #[pt p, .string ⟨#[97]⟩, .int .i64 1] w fun e w' => e = .returned (.tuple #[.string ⟨#[98, 99]⟩, .int .i64 0]) ∧ Liv K w0 w' p a10 := by
  have := liv_read ⟨#[97]⟩ (by decide) 1 h
  rwa [show toL ⟨#[97]⟩ = [97] from rfl, show tx (readT a9 [97] 1) = ⟨#[98, 99]⟩ by decide +kernel, show readE a9 [97] 1 = 0 by decide +kernel] at this
theorem al11 (h : Liv K w0 w p a10) : Calls Try.prog 22 #[pt p, .string ⟨#[97]⟩] w fun e w' => e = .returned (.tuple #[.int .i64 3, .bool true]) ∧ Liv K w0 w' p a10 := by
  have := liv_size ⟨#[97]⟩ (by decide) h
  rwa [show toL ⟨#[97]⟩ = [97] from rfl, show (sizeN a10.L [97] : Int) = 3 by decide +kernel, show hasL a10.L [97] = true by decide +kernel] at this
theorem al12 (h : Liv K w0 w p a10) : Calls Try.prog 32 #[pt p] w fun e w' => e = .returned (.int .i64 3) ∧ w' = w := by
  have := liv_used h
  rwa [show (usedL a10.L : Int) = 3 by decide +kernel] at this
theorem al13 (h : Liv K w0 w p a10) : Calls Try.prog 35 #[pt p] w fun e w' => e = .returned (.int .i64 4) ∧ w' = w := by
  have := liv_ops h
  rwa [show a10.ops = 4 by decide +kernel] at this
theorem al14 (h : Liv K w0 w p a10) : Calls Try.prog 18 #[pt p] w fun e w' => e = .returned (.int .i64 1) ∧ w' = w := by
  have := liv_reads h
  rwa [show a10.reads = 1 by decide +kernel] at this
theorem al15 (h : Liv K w0 w p a10) : Calls Try.prog 36 #[pt p] w fun e w' => e = .returned (.int .i64 20) ∧ w' = w := by
  have := liv_limit h
  rwa [show a10.limit = 20 by decide +kernel] at this
theorem al16 (h : Liv K w0 w p a10) : Calls Try.prog 30 #[pt p] w fun e w' => (∃ a c, e = .returned (.slice a 1 c)) ∧ Liv K w0 w' p a10 := by
  refine (liv_files h (by decide +kernel)).mono ?_
  rintro e w' ⟨v, h1, h2, h3⟩
  obtain ⟨a, c, h4, _⟩ := own_slice h2
  refine ⟨⟨a, c, ?_⟩, h.below h3⟩
  rw [h1, h4, show a10.L.length = 1 by decide +kernel]
theorem al17 (w : World) : Calls Try.prog 24 #[.string ⟨#[97]⟩] w fun e w' => e = .returned (.bool true) ∧ w' = w := by
  have := right_any ⟨#[97]⟩ w (by decide)
  rwa [show rightN (toL ⟨#[97]⟩) = true by decide +kernel] at this
theorem al18 (h : Liv K w0 w p a10) : Calls Try.prog 40 #[pt p, .string ⟨#[97]⟩, .string ⟨#[98]⟩] w fun e w' => e = .returned (.int .i64 0) ∧ Liv K w0 w' p a11 := by
  have := liv_rename ⟨#[97]⟩ ⟨#[98]⟩ (by decide) (by decide) ⟨3, [97], [98], 0⟩ rfl rfl rfl h (by decide +kernel)
  rwa [show (doM a10 ⟨3, [97], [98], 0⟩).2 = 0 by decide +kernel] at this
theorem al19 (h : Liv K w0 w p a11) : Calls Try.prog 41 #[pt p, .string ⟨#[97]⟩] w fun e w' => e = .returned (.int .i64 51) ∧ Liv K w0 w' p a12 := by
  have := liv_delete ⟨#[97]⟩ (by decide) ⟨4, [97], [], 0⟩ rfl rfl h
  rwa [show (doM a11 ⟨4, [97], [], 0⟩).2 = 51 by decide +kernel] at this
theorem al20 (h : Liv K w0 w p a12) : Calls Try.prog 41 #[pt p, .string ⟨#[98]⟩] w fun e w' => e = .returned (.int .i64 0) ∧ Liv K w0 w' p a13 := by
  have := liv_delete ⟨#[98]⟩ (by decide) ⟨4, [98], [], 0⟩ rfl rfl h
  rwa [show (doM a12 ⟨4, [98], [], 0⟩).2 = 0 by decide +kernel] at this
theorem al21 {q : Nat} {T : Nat → Prop} (h : DiskAt w q T a8) : Calls Try.prog 29 #[pt q] w fun e w' => e = .returned (.bool true) ∧ w' = w := by
  have := down_any w q T a8 h
  rwa [show a8.down = true by decide +kernel] at this
theorem al22 {q : Nat} {T : Nat → Prop} (h : DiskAt w q T a8) : Calls Try.prog 26 #[pt q, .string ⟨#[97]⟩] w fun e w' => e = .returned (.int .i64 2) ∧ Below w.heap.size w w' := by
  have := loose_any ⟨#[97]⟩ (by decide) w q T a8 h
  rwa [show toL ⟨#[97]⟩ = [97] from rfl, show (looseN a8.L [97] : Int) = 2 by decide +kernel] at this
end

set_option maxRecDepth 100000 in
set_option maxHeartbeats 4000000 in
theorem alive_any (w : World) : Calls Try.prog 12 #[] w fun e w' => e = .returned (.bool true) ∧ Below w.heap.size w w' := by
  go_enter Try.func12, Try.ntmps12
  go_wp2_with fail
  refine (liv_new 20 _).mono ?_
  rintro e w1 ⟨p, rfl, h⟩
  have H1 := Lib.hid h
  clear h
  go_wp2_with fail
  refine (al1 H1.out).mono ?_
  rintro e w2 ⟨rfl, h⟩
  have H2 := Lib.hid h
  clear h
  go_wp2_with fail
  refine (al2 H2.out).mono ?_
  rintro e w3 ⟨rfl, h⟩
  have H3 := Lib.hid h
  clear h
  go_wp2_with fail
  refine (al3 H3.out).mono ?_
  rintro e w4 ⟨rfl, h⟩
  have H4 := Lib.hid h
  clear h
  go_wp2_with fail
  refine (al4 H4.out).mono ?_
  rintro e w5 ⟨rfl, h⟩
  have H5 := Lib.hid h
  clear h
  go_wp2_with fail
  refine (al5 H5.out).mono ?_
  rintro e w6 ⟨rfl, h⟩
  have H6 := Lib.hid h
  clear h
  go_wp2_with fail
  refine (al6 H6.out).mono ?_
  rintro e w7 ⟨rfl, h⟩
  have H7 := Lib.hid h
  clear h
  go_wp2_with fail
  refine (al7 H7.out).mono ?_
  rintro e w8 ⟨rfl, h⟩
  have H8 := Lib.hid h
  clear h
  go_wp2_with fail
  refine (al8 H8.out).mono ?_
  rintro e w9 ⟨rfl, h⟩
  have H9 := Lib.hid h
  clear h
  go_wp2_with fail
  refine (liv_copy H9.out (by decide +kernel)).mono ?_
  rintro e w10 ⟨q, T, rfl, hx, hT, hb, h⟩
  have HX := Lib.hid hx
  have HB := Lib.hid (hb.frame (B := w.heap.size) (Nat.le_refl _) (fun i hi hk => by unfold NewK at hk; omega))
  have HSZ := Lib.hid hb.kept.size
  have H10 := Lib.hid h
  clear hx hT hb h
  go_wp2_with fail
  refine (al9 H10.out _ _ rfl rfl _).mono ?_
  rintro e w11 ⟨rfl, h⟩
  have H11 := Lib.hid h
  clear h
  go_wp2_with fail
  refine (al10 H11.out).mono ?_
  rintro e w12 ⟨rfl, h⟩
  have H12 := Lib.hid h
  clear h
  go_wp2_with fail
  refine (al11 H12.out).mono ?_
  rintro e w13 ⟨rfl, h⟩
  have H13 := Lib.hid h
  clear h
  go_wp2_with fail
  refine (al21 (H13.out.other HX.out (fun i hi hk => hk.2 hi))).mono ?_
  rintro e w13 ⟨rfl, rfl⟩
  go_wp2_with fail
  refine (al22 (H13.out.other HX.out (fun i hi hk => hk.2 hi))).mono ?_
  rintro e w14 ⟨rfl, h⟩
  have H14 := Lib.hid (H13.out.below h)
  clear h
  go_wp2_with fail
  refine (al12 H14.out).mono ?_
  rintro e w14 ⟨rfl, rfl⟩
  go_wp2_with fail
  refine (al13 H14.out).mono ?_
  rintro e w14 ⟨rfl, rfl⟩
  go_wp2_with fail
  refine (al14 H14.out).mono ?_
  rintro e w14 ⟨rfl, rfl⟩
  go_wp2_with fail
  refine (al15 H14.out).mono ?_
  rintro e w14 ⟨rfl, rfl⟩
  go_wp2_with fail
  refine (al16 H14.out).mono ?_
  rintro e w15 ⟨⟨a, c, rfl⟩, h⟩
  have H15 := Lib.hid h
  clear h
  go_wp2_with fail
  refine (al17 _).mono ?_
  rintro e w15 ⟨rfl, rfl⟩
  go_wp2_with fail
  refine (al18 H15.out).mono ?_
  rintro e w16 ⟨rfl, h⟩
  have H16 := Lib.hid h
  clear h
  go_wp2_with fail
  refine (al19 H16.out).mono ?_
  rintro e w17 ⟨rfl, h⟩
  have H17 := Lib.hid h
  clear h
  go_wp2_with fail
  refine (al20 H17.out).mono ?_
  rintro e w18 ⟨rfl, h⟩
  have H18 := Lib.hid h
  clear h
  go_wp2
  go_ret
  refine ⟨rfl, HB.out.trans (H18.out.frame HSZ.out (fun i hi hk => ?_))⟩
  have := hk.1
  unfold NewK at this
  omega
end Go.Proofs.Ytammmhbkfdmbfaa
