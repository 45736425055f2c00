/- Contracts of the document's own words of layer 4: all frames with which a text begins, and all that may be found in it. -/
import Derived.Test.YtkfddmbhokeofaaI4
namespace Go.Proofs.Ytkfddmbhokeofaa
open Go.RowKit
set_option linter.unusedVariables false

theorem infoFrameR : (Try.prog.info? 23).map (fun i => (i.zero, i.size, i.bytes)) = some (some (.agg #[.int .u8 0, .string ⟨#[]⟩]), 2, 24) := by kernel_rfl
set_option maxHeartbeats 2000000 in
theorem refScan_any (s : ByteArray) (hs : s.size ≤ 90000) (w : World) :
    Calls Try.prog 17 #[.string s] w fun e w' => ∃ (v : Value) (l : List Fr) (n : Nat), e = .returned (.tuple #[v, .int .i64 (n : Int)]) ∧ Scans (toL s) l n ∧ w'.ownsRow w.heap.size 23 2 v l.length (frC l) ∧ l.length ≤ s.size ∧ Below w.heap.size w w' := by
  obtain ⟨i0, hi, hz0, hz1, hz2⟩ := info_parts infoFrameR
  have HN := Lib.hid (fun t (ht : t.size ≤ 90000) W => refNext_any t ht W)
  go_enter Try.func17, Try.ntmps17
  go_wp2
  go_loopw [4, 5] (fun v i wr => ∃ (a : Nat) (l : List Fr), a ≤ s.size ∧ l.length * 14 ≤ a ∧ i = .int .i64 a ∧ Hid (Reads (toL s) l a) ∧ Hid (wr.ownsRow w.heap.size 23 2 v l.length (frC l)) ∧ Hid (Below w.heap.size w wr)) (fun _ i _ => s.size - (intOf i).toNat)
  case atStart => exact ⟨0, [], by omega, by simp, rfl, Reads.start _, ⟨rfl, .inl ⟨rfl, rfl⟩⟩, Below.refl _ _⟩
  case round =>
    obtain ⟨a, l, ha, hla, rfl, HR, HO, HB⟩ := hrel
    have HC := Lib.hid (fun W => HN.out (s.extract a s.size) (by rw [extract_size]; omega) W)
    rw [toL_from] at HC
    have hsl := slice_from s a ha
    generalize s.extract a s.size = T at *
    unfold NR.val frV at HC
    go_wp2_with fail
    refine (HC.out _).mono ?_
    rintro e w1 ⟨rfl, hB1⟩
    have HO1 := Lib.hid (own_below HO.out hB1)
    have HB1 : Hid (Below w.heap.size w w1) := HB.out.trans (hB1.mono HB.out.size)
    clear hB1 HB HO HC hsl
    rcases hx : nextL ((toL s).drop a) with E | ⟨k, b⟩
    · have hE : E ≠ 0 := by
        rcases nextL_cases ((toL s).drop a) with ⟨e, he, h2⟩ | ⟨_, _, _, h2⟩
        · rw [hx] at h2; injection h2 with h3; omega
        · rw [hx] at h2; cases h2
      have hne : ((E : Int) == 0) = false := beq_eq_false_iff_ne.2 (by omega)
      have HD := Lib.hid (HR.out.done hx)
      have HBA : Hid (Below w.heap.size w (w1.alloc (.cells #[.int .u8 0, .string ⟨#[]⟩] 23))) := HB1.out.alloc HB1.out.size _
      have HOA := Lib.hid (own_below HO1.out ((Below.refl w1.heap.size w1).alloc (Nat.le_refl _) (.cells #[.int .u8 0, .string ⟨#[]⟩] 23)))
      simp only [NR.kind, NR.body, NR.long, NR.code]
      clear hx HR
      go_wp2
      go_ret2
      exact ⟨_, l, a, rfl, HD.out, HOA.out, by omega, HBA.out⟩
    · have HX := Lib.hid hx
      simp only [NR.kind, NR.body, NR.long, NR.code]
      have HR2 := Lib.hid (HR.out.next hx)
      have hlen := (nextL_inv hx).2.2
      rw [List.length_drop, toL_length] at hlen
      clear hx HR
      have hkb : 0 ≤ (k.toNat : Int) ∧ (k.toNat : Int) ≤ 255 := ⟨by omega, by have := k.toNat_lt; omega⟩
      have HO2 := Lib.hid (own_below HO1.out (below_two w1 (.cells #[.int .u8 (k.toNat : Int), .string (tx b)] 23) (.cells #[.int .u8 (k.toNat : Int), .string (tx b)] 23)))
      have HB2 : Hid (Below w.heap.size w ((w1.alloc (.cells #[.int .u8 (k.toNat : Int), .string (tx b)] 23)).alloc (.cells #[.int .u8 (k.toNat : Int), .string (tx b)] 23))) := HB1.out.trans ((below_two _ _ _).mono HB1.out.size)
      have HS2 : Hid (w.heap.size ≤ ((w1.alloc (.cells #[.int .u8 (k.toNat : Int), .string (tx b)] 23)).alloc (.cells #[.int .u8 (k.toNat : Int), .string (tx b)] 23)).heap.size) := HB2.out.size
      go_wp2_with (at_builtin; refine wpList_append_own _ rfl (.tmp 21) (.tmp 23) 39 rfl w.heap.size 23 i0 _ 2 24 Try.underlying39 hi hz0 hz1 hz2 rfl (by decide) _ _ _ rfl HO2.out ⟨w1.heap.size + 1, 0, none⟩ 1 1 [.int .u8 (k.toNat : Int), .string (tx b)] rfl rfl (news_at _ _ _ _ (size1 _ _).symm) (one_cells _ _ rfl rfl) (by unfold maxLen; omega) (by omega) HS2.out ?_; intro v' w2 hown' hgrow hiff)
      have HB3 := Lib.hid (app_below HB2.out HS2.out HO2.out hgrow)
      have HO3 := Lib.hid hown'
      clear hown' hgrow hiff HB2 HS2 HO2
      go_wp2
      go_roundw
      case rel => exact ⟨a + (14 + b.length), l ++ [(k, b)], by omega, by rw [List.length_append]; simp; omega, by go_num, HR2, (by unfold Hid; rw [List.length_append, frC_snoc]; exact HO3.out), HB3⟩
      case measure => simp [intOf]; omega

set_option maxHeartbeats 2000000 in
theorem refFind_any (s : ByteArray) (hs : s.size ≤ 90000) (w : World) :
    Calls Try.prog 21 #[.string s] w fun e w' => ∃ (v : Value), e = .returned v ∧ w'.ownsRow w.heap.size 23 2 v (findTo (toL s) s.size).length (frC (findTo (toL s) s.size)) ∧ Below w.heap.size w w' := by
  obtain ⟨i0, hi, hz0, hz1, hz2⟩ := info_parts infoFrameR
  have HN := Lib.hid (fun t (ht : t.size ≤ 90000) W => refNext_any t ht W)
  go_enter Try.func21, Try.ntmps21
  go_wp2
  go_loopw [3, 4] (fun v i wr => ∃ (a : Nat), a ≤ s.size ∧ i = .int .i64 a ∧ Hid (wr.ownsRow w.heap.size 23 2 v (findTo (toL s) a).length (frC (findTo (toL s) a))) ∧ Hid (Below w.heap.size w wr)) (fun _ i _ => s.size - (intOf i).toNat)
  case atStart => exact ⟨0, by omega, rfl, ⟨rfl, .inl ⟨rfl, rfl⟩⟩, Below.refl _ _⟩
  case round =>
    obtain ⟨a, ha, rfl, HO, HB⟩ := hrel
    by_cases hlt : a < s.size
    · have HC := Lib.hid (fun W => HN.out (s.extract a s.size) (by rw [extract_size]; omega) W)
      rw [toL_from] at HC
      have hsl := slice_from s a ha
      generalize s.extract a s.size = T at *
      unfold NR.val frV at HC
      have hll := findTo_len (toL s) a
      go_wp2_with fail
      refine (HC.out _).mono ?_
      rintro e w1 ⟨rfl, hB1⟩
      have HO1 := Lib.hid (own_below HO.out hB1)
      have HB1 : Hid (Below w.heap.size w w1) := HB.out.trans (hB1.mono HB.out.size)
      clear hB1 HB HO HC hsl
      rcases hx : nextL ((toL s).drop a) with E | ⟨k, b⟩
      · have hE := nextL_code hx
        have hne : ((E : Int) == 0) = false := beq_eq_false_iff_ne.2 (by omega)
        have HF := Lib.hid (findTo_err hx)
        have HBA : Hid (Below w.heap.size w (w1.alloc (.cells #[.int .u8 0, .string ⟨#[]⟩] 23))) := HB1.out.alloc HB1.out.size _
        have HOA := Lib.hid (own_below HO1.out ((Below.refl w1.heap.size w1).alloc (Nat.le_refl _) (.cells #[.int .u8 0, .string ⟨#[]⟩] 23)))
        simp only [NR.kind, NR.body, NR.long, NR.code]
        clear hx
        go_wp2
        go_roundw
        case rel => exact ⟨a + 1, by omega, by go_num, (by unfold Hid; rw [HF.out]; exact HOA.out), HBA⟩
        case measure => simp [intOf]; omega
      · have HF := Lib.hid (findTo_ok hx)
        simp only [NR.kind, NR.body, NR.long, NR.code]
        have hlen := (nextL_inv hx).2.2
        rw [List.length_drop, toL_length] at hlen
        clear hx
        have hkb : 0 ≤ (k.toNat : Int) ∧ (k.toNat : Int) ≤ 255 := ⟨by omega, by have := k.toNat_lt; omega⟩
        have HO2 := Lib.hid (own_below HO1.out (below_two w1 (.cells #[.int .u8 (k.toNat : Int), .string (tx b)] 23) (.cells #[.int .u8 (k.toNat : Int), .string (tx b)] 23)))
        have HB2 : Hid (Below w.heap.size w ((w1.alloc (.cells #[.int .u8 (k.toNat : Int), .string (tx b)] 23)).alloc (.cells #[.int .u8 (k.toNat : Int), .string (tx b)] 23))) := HB1.out.trans ((below_two _ _ _).mono HB1.out.size)
        have HS2 : Hid (w.heap.size ≤ ((w1.alloc (.cells #[.int .u8 (k.toNat : Int), .string (tx b)] 23)).alloc (.cells #[.int .u8 (k.toNat : Int), .string (tx b)] 23)).heap.size) := HB2.out.size
        go_wp2_with (at_builtin; refine wpList_append_own _ rfl (.tmp 24) (.tmp 26) 39 rfl w.heap.size 23 i0 _ 2 24 Try.underlying39 hi hz0 hz1 hz2 rfl (by decide) _ _ _ rfl HO2.out ⟨w1.heap.size + 1, 0, none⟩ 1 1 [.int .u8 (k.toNat : Int), .string (tx b)] rfl rfl (news_at _ _ _ _ (size1 _ _).symm) (one_cells _ _ rfl rfl) (by unfold maxLen; omega) (by omega) HS2.out ?_; intro v' w2 hown' hgrow hiff)
        have HB3 := Lib.hid (app_below HB2.out HS2.out HO2.out hgrow)
        have HO3 := Lib.hid hown'
        clear hown' hgrow hiff HB2 HS2 HO2
        go_wp2
        go_roundw
        case rel => exact ⟨a + 1, by omega, by go_num, (by unfold Hid; rw [HF.out, List.length_append, frC_snoc]; exact HO3.out), HB3⟩
        case measure => simp [intOf]; omega
    · obtain rfl : a = s.size := by omega
      go_wp2
      go_ret
      exact ⟨_, rfl, HO.out, HB.out⟩
end Go.Proofs.Ytkfddmbhokeofaa
