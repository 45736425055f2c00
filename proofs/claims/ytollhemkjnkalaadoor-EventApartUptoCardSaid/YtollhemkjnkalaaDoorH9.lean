/- Contract of layer 4: all frames that may be found in a text. -/
import Derived.Test.YtollhemkjnkalaaDoorH8
namespace Go.Proofs.YtollhemkjnkalaaDoor
open Go.RowKit
set_option linter.unusedVariables false
set_option maxRecDepth 100000

theorem nextL_code {s : List UInt8} {E : Nat} (h : nextL s = .err E) : E ≠ 0 := by
  rcases nextL_cases s with ⟨e, he, h2⟩ | ⟨_, _, _, h2⟩
  · rw [h] at h2; injection h2 with h3; omega
  · rw [h] at h2; cases h2
theorem findTo_err {s : List UInt8} {n E : Nat} (h : nextL (s.drop n) = .err E) : findTo s (n + 1) = findTo s n := by
  rw [findTo, h]; simp [NR.list]
theorem findTo_ok {s : List UInt8} {n : Nat} {k : UInt8} {b : List UInt8} (h : nextL (s.drop n) = .ok k b) : findTo s (n + 1) = findTo s n ++ [(k, b)] := by
  rw [findTo, h]; rfl

set_option maxHeartbeats 2000000 in
theorem find_any (s : ByteArray) (hs : s.size ≤ 1000000) (w : World) :
    Calls Tryd.prog 19 #[.string s] w fun e w' => ∃ (v : Value), e = .returned v ∧ w'.ownsRow w.heap.size 31 2 v (findTo (toL s) s.size).length (frC (findTo (toL s) s.size)) ∧ Below w.heap.size w w' := by
  obtain ⟨i0, hi, hz0, hz1, hz2⟩ := info_parts infoFrame
  have HN := Lib.hid (fun t (ht : t.size ≤ 1000000000000000000) W => next_any t ht W)
  go_enter Tryd.func19, Tryd.ntmps19
  go_wp2
  go_loopw [3, 10] (fun v i wr => ∃ (a : Nat), a ≤ s.size ∧ i = .int .i64 a ∧ Hid (wr.ownsRow w.heap.size 31 2 v (findTo (toL s) a).length (frC (findTo (toL s) a))) ∧ Hid (Below w.heap.size w wr)) (fun _ i _ => s.size - (intOf i).toNat)
  case atStart => exact ⟨0, by omega, rfl, ⟨rfl, .inl ⟨rfl, rfl⟩⟩, Below.refl _ _⟩
  case round =>
    obtain ⟨a, ha, rfl, HO, HB⟩ := hrel
    by_cases hlt : a < s.size
    · have HC := Lib.hid (fun W => HN.out (s.extract a s.size) (by rw [extract_size]; omega) W)
      rw [toL_from] at HC
      have hsl := slice_from s a ha
      generalize s.extract a s.size = T at *
      unfold NR.val frV at HC
      have hll := findTo_len (toL s) a
      go_wp2_with fail
      refine (HC.out _).mono ?_
      rintro e w1 ⟨rfl, hB1⟩
      have HO1 := Lib.hid (own_below HO.out hB1)
      have HB1 : Hid (Below w.heap.size w w1) := HB.out.trans (hB1.mono HB.out.size)
      clear hB1 HB HO HC hsl
      rcases hx : nextL ((toL s).drop a) with E | ⟨k, b⟩
      · have hE := nextL_code hx
        have hne : ((E : Int) == 0) = false := beq_eq_false_iff_ne.2 (by omega)
        have HF := Lib.hid (findTo_err hx)
        have HBA : Hid (Below w.heap.size w (w1.alloc (.cells #[.int .u8 0, .string ⟨#[]⟩] 31))) := HB1.out.alloc HB1.out.size _
        have HOA := Lib.hid (own_below HO1.out ((Below.refl w1.heap.size w1).alloc (Nat.le_refl _) (.cells #[.int .u8 0, .string ⟨#[]⟩] 31)))
        simp only [NR.kind, NR.body, NR.long, NR.code]
        clear hx
        go_wp2
        go_roundw
        case rel => exact ⟨a + 1, by omega, by go_num, (by unfold Hid; rw [HF.out]; exact HOA.out), HBA⟩
        case measure => simp [intOf]; omega
      · have HF := Lib.hid (findTo_ok hx)
        simp only [NR.kind, NR.body, NR.long, NR.code]
        have hlen := (nextL_inv hx).2.2
        rw [List.length_drop, toL_length] at hlen
        clear hx
        have hkb : 0 ≤ (k.toNat : Int) ∧ (k.toNat : Int) ≤ 255 := ⟨by omega, by have := k.toNat_lt; omega⟩
        have HO2 := Lib.hid (own_below HO1.out (below_two w1 (.cells #[.int .u8 (k.toNat : Int), .string (tx b)] 31) (.cells #[.int .u8 (k.toNat : Int), .string (tx b)] 31)))
        have HB2 : Hid (Below w.heap.size w ((w1.alloc (.cells #[.int .u8 (k.toNat : Int), .string (tx b)] 31)).alloc (.cells #[.int .u8 (k.toNat : Int), .string (tx b)] 31))) := HB1.out.trans ((below_two _ _ _).mono HB1.out.size)
        have HS2 : Hid (w.heap.size ≤ ((w1.alloc (.cells #[.int .u8 (k.toNat : Int), .string (tx b)] 31)).alloc (.cells #[.int .u8 (k.toNat : Int), .string (tx b)] 31)).heap.size) := HB2.out.size
        go_wp2_with (at_builtin; refine wpList_append_own _ rfl (.tmp 23) (.tmp 25) 47 rfl w.heap.size 31 i0 _ 2 24 Tryd.underlying47 hi hz0 hz1 hz2 rfl (by decide) _ _ _ rfl HO2.out ⟨w1.heap.size + 1, 0, none⟩ 1 1 [.int .u8 (k.toNat : Int), .string (tx b)] rfl rfl (news_at _ _ _ _ (size1 _ _).symm) (one_cells _ _ rfl rfl) (by unfold maxLen; omega) (by omega) HS2.out ?_; intro v' w2 hown' hgrow hiff)
        have HB3 := Lib.hid (app_below HB2.out HS2.out HO2.out hgrow)
        have HO3 := Lib.hid hown'
        clear hown' hgrow hiff HB2 HS2 HO2
        go_wp2
        go_roundw
        case rel => exact ⟨a + 1, by omega, by go_num, (by unfold Hid; rw [HF.out, List.length_append, frC_snoc]; exact HO3.out), HB3⟩
        case measure => simp [intOf]; omega
    · obtain rfl : a = s.size := by omega
      go_wp2
      go_ret
      exact ⟨_, rfl, HO.out, HB.out⟩
end Go.Proofs.YtollhemkjnkalaaDoor
