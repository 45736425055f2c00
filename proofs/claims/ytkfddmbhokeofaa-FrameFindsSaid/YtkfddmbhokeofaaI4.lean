/- Contract of the document's own words of layer 4: the frame with which a text begins: the walk. -/
import Derived.Test.YtkfddmbhokeofaaI3
namespace Go.Proofs.Ytkfddmbhokeofaa
open Go.RowKit
set_option linter.unusedVariables false

theorem toL_at (s : ByteArray) (j : Nat) (h : j < s.size) : (toL s)[j]'(by rw [toL_length]; exact h) = s[j] := by
  unfold toL
  rw [Array.getElem_toList]; rfl

/-- what the function keeps beside its last calls: the result's block, the frame's, and all that was there -/
def TwoK (w : World) (g h : Nat) (x y : Value) (t : TypeId) (W : World) : Prop := PackK w g (.int .u8 0) (.string ⟨#[]⟩) t W ∧ FrAt W h x y t ∧ h < W.heap.size
theorem TwoK.below {w W W' : World} {g h : Nat} {x y : Value} {t : TypeId} (k : TwoK w g h x y t W) (hb : Below W.heap.size W W') : TwoK w g h x y t W' := ⟨k.1.below hb, k.2.1.below k.2.2 hb, Nat.lt_of_lt_of_le k.2.2 hb.size⟩
theorem TwoK.drew {w W : World} {g h : Nat} {x y : Value} {t : TypeId} (k : TwoK w g h x y t W) : TwoK w g h x y t W.drew := k.below ((Below.refl _ _).drew)
theorem TwoK.new {w W : World} {g : Nat} {t : TypeId} (h : PackK w g (.int .u8 0) (.string ⟨#[]⟩) t W) (x y : Value) : TwoK w g W.heap.size x y t (W.alloc (.cells #[x, y] t)).drew :=
  ⟨(h.alloc _).drew, heap_alloc_new W _, by show _ < (W.alloc _).heap.size; rw [size1]; omega⟩
theorem TwoK.cells {w W : World} {g h : Nat} {x y : Value} {t : TypeId} (k : TwoK w g h x y t W) : W.cell? ⟨h, 0, none⟩ = some x ∧ W.cell? ⟨h, 1, none⟩ = some y := ⟨cell_of_row _ _ 0 _ _ (0, 0) k.2.1, cell_of_row _ _ 1 _ _ (0, 0) k.2.1⟩
theorem TwoK.held {w W : World} {g h : Nat} {x y : Value} {t : TypeId} (k : TwoK w g h x y t W) : W.cell? ⟨h, 0, none⟩ = some x ∧ W.cell? ⟨h, 1, none⟩ = some y ∧ TwoK w g h x y t W := ⟨k.cells.1, k.cells.2, k⟩

set_option maxHeartbeats 2000000 in
theorem refNext_any (s : ByteArray) (hs : s.size ≤ 90000) (w : World) :
    Calls Try.prog 15 #[.string s] w fun e w' => e = .returned (nextL (toL s)).val ∧ Below w.heap.size w w' := by
  have HK := Lib.hid (PackK.new w (.int .u8 0) (.string ⟨#[]⟩) 23)
  have HM := Lib.hid (fun c i long h1 h2 => may_any c i long h1 h2)
  have HU := Lib.hid (fun W => refUnhex_any (s.extract 2 6) W (by rw [ByteArray.size_extract]; unfold maxLen; omega))
  have HL := Lib.hid (longI_slice s)
  unfold optV at HU
  change Hid (∀ W, Calls Try.prog 36 #[.string (s.extract 2 6)] W fun e w' => e = .returned (.tuple #[.int .i64 ((unhexL (toL (s.extract 2 6))).getD 0), .bool (unhexL (toL (s.extract 2 6))).isSome]) ∧ W = w') at HU
  rw [HL.out] at HU
  have HSL : Hid (6 ≤ s.size → ∀ W : World, (Instr.slice 9 (.string s) (some (.int .i64 2)) (some (.int .i64 6)) none).run Try.prog W = .ok (.string (s.extract 2 6)) W) := fun h => slice_int s 2 6 2 6 (by omega) (by omega) (by omega) (by omega)
  generalize (unhexL (toL (s.extract 2 6))).isSome = ub at *
  generalize s.extract 2 6 = S4 at *
  clear HL
  go_enter Try.func15, Try.ntmps15
  go_wp2
  generalize w.alloc (.cells #[.int .u8 0, .string ⟨#[]⟩] 23) = W at *
  go_loopw [5, 6] (fun v i wr => ∃ (j m : Nat), j ≤ s.size ∧ j ≤ 14 + m ∧ m ≤ 2000 ∧ v = .int .i64 m ∧ i = .int .i64 j ∧ Hid (Far (toL s) j m) ∧ W = wr) (fun _ i _ => 20000 - (intOf i).toNat)
  case atStart => exact ⟨0, 0, by omega, by omega, by omega, rfl, rfl, Far.start _, rfl⟩
  case round =>
    obtain ⟨j, m, hj, hjm, hm, rfl, rfl, HF, rfl⟩ := hrel
    obtain ⟨hc0, hc1⟩ := (⟨HK.out.cell0, HK.out.cell1⟩ : _ ∧ _)
    obtain ⟨hf0, hf1⟩ := HK.out.frozen
    by_cases hlt : j < 14 + m
    · by_cases hjs : j < s.size
      · have HM1 := Lib.hid (HM.out s[j] j m (by omega) (by omega))
        have HG := Lib.hid (HF.out.next (by rw [toL_length]; exact hjs) hlt)
        have HB := Lib.hid (HF.out.bad (by rw [toL_length]; exact hjs) hlt)
        rw [toL_at s j hjs] at HG HB
        have hbyte : 0 ≤ (s[j].toNat : Int) ∧ (s[j].toNat : Int) ≤ 255 := ⟨by omega, by have := s[j].toNat_lt; omega⟩
        by_cases hok : okAt m j s[j] = true
        · by_cases h5 : j = 5
          · subst h5
            have H5 := Lib.hid (HF.out.five (by rw [toL_length]; exact hjs) (by rw [toL_at s 5 hjs]; exact hok))
            have HO := Lib.hid (HF.out.over (by rw [toL_length]; exact hjs) (by rw [toL_at s 5 hjs]; exact hok))
            have hsl := HSL.out (by omega)
            rw [hok] at HM1
            clear HG HB hok HSL
            by_cases hov : 2000 < longOf (toL s)
            · have HE := Lib.hid (HO.out hov)
              generalize longOf (toL s) = n at *
              go_wp2_with fail
              refine (HM1.out _).mono ?_
              rintro e w2 ⟨rfl, rfl⟩
              go_wp2_with fail
              refine (HU.out _).mono ?_
              rintro e w3 ⟨rfl, rfl⟩
              go_wp2
              refine bodyPost_ret (v := (nextL (toL s)).val) ?_ rfl ⟨rfl, HK.out.set (Nat.le_refl _) _ _⟩
              rw [results_cell_two rfl]
              simp [asAddr, Result.andThen, HK.out.1.loadR, HE.out]
              rfl
            · have HF2 := Lib.hid (H5.out (by omega))
              generalize longOf (toL s) = n at *
              go_wp2_with fail
              refine (HM1.out _).mono ?_
              rintro e w2 ⟨rfl, rfl⟩
              go_wp2_with fail
              refine (HU.out _).mono ?_
              rintro e w3 ⟨rfl, rfl⟩
              go_wp2
              go_roundw
              case rel => exact ⟨6, n, by omega, by omega, by omega, rfl, rfl, HF2, by trivial⟩
              case measure => simp [intOf]
          · have HF2 := Lib.hid (HG.out h5 hok)
            rw [hok] at HM1
            have hne : ((j : Int) == 5) = false := beq_eq_false_iff_ne.2 (by omega)
            clear HG HB hok HF HSL HU
            go_wp2_with fail
            refine (HM1.out _).mono ?_
            rintro e w2 ⟨rfl, rfl⟩
            go_wp2
            go_roundw
            case rel => exact ⟨j + 1, m, by omega, by omega, by omega, rfl, by go_num, HF2, by trivial⟩
            case measure => simp [intOf]; omega
        · have hok' : okAt m j s[j] = false := by simpa using hok
          have HE := Lib.hid (HB.out hok')
          rw [hok'] at HM1
          clear HG HB hok hok' HF HSL HU
          go_wp2_with fail
          refine (HM1.out _).mono ?_
          rintro e w2 ⟨rfl, rfl⟩
          go_wp2
          refine bodyPost_ret (v := (nextL (toL s)).val) ?_ rfl ⟨rfl, HK.out.set (Nat.le_refl _) _ _⟩
          rw [results_cell_two rfl]
          simp [asAddr, Result.andThen, HK.out.1.loadR, HE.out]
          rfl
      · have HE := Lib.hid (HF.out.short (by rw [toL_length]; omega) hlt)
        clear HF HSL HU
        go_wp2
        refine bodyPost_ret (v := (nextL (toL s)).val) ?_ rfl ⟨rfl, HK.out.set (Nat.le_refl _) _ _⟩
        rw [results_cell_two rfl]
        simp [asAddr, Result.andThen, HK.out.1.loadR, HE.out]
        rfl
    · obtain rfl : j = 14 + m := by omega
      obtain ⟨h1, rfl, h2, hlen⟩ := HF.out.whole
      rw [toL_length] at hlen
      have HS := Lib.hid (nextL_sum (toL s) h1 h2)
      have HO := Lib.hid (nextL_ok (toL s) h1 h2)
      have HMID := Lib.hid (mid_of (toL s) h1 (by rw [toL_length]; omega))
      clear HF HSL HU h1 h2
      generalize hlg : longOf (toL s) = n at *
      clear hlg
      have hS2 := slice_int s (6 + n) (14 + n) (6 + n) (14 + n) (by omega) (by omega) (by omega) (by omega)
      have hS3 := slice_int s 6 (6 + n) 6 (6 + n) (by omega) (by omega) (by omega) (by omega)
      have HT2 := Lib.hid (toL_extract s (6 + n) (14 + n))
      have HT3 := Lib.hid (toL_extract s 6 (6 + n))
      have hi1 := index_at s 1 1 rfl (by omega)
      have hw1 : IntKind.i64.wrap (6 + (n : Int)) = 6 + n := IntWalk.i64_in _ (by omega)
      have hw2 : IntKind.i64.wrap (14 + (n : Int)) = 14 + n := IntWalk.i64_in _ (by omega)
      have hL3 : (s.extract 6 (6 + n)).size = n := by rw [ByteArray.size_extract]; omega
      rw [← HT3.out] at HO HMID
      rw [show 6 + n + 8 = 14 + n by omega, ← HT2.out] at HO HS
      have HTX := Lib.hid (fun W => refText_any ((toL s).getD 1 0) (s.extract 6 (6 + n)) (by omega) W)
      rw [HMID.out] at HTX
      generalize s.extract (6 + n) (14 + n) = T2 at *
      generalize s.extract 6 (6 + n) = T3 at *
      have hYl : (((toL s).take (6 + n)).drop 1).length = 5 + n := by rw [List.length_drop, List.length_take, toL_length]; omega
      generalize hY : ((toL s).take (6 + n)).drop 1 = Y at *
      have HU : Hid (∀ W, Calls Try.prog 31 #[.string (tx Y)] W fun e w' => e = .returned (.int .i64 (sumN Y : Int)) ∧ W = w') := fun W => by
        have h := refSum_any (tx Y) (by rw [tx_size]; omega) W
        rwa [toL_tx] at h
      have hlt2 := sumN_lt Y
      have HH : Hid (∀ W, Calls Try.prog 30 #[.int .i64 (sumN Y : Int), .int .i64 8] W fun e w' => e = .returned (.string (textN (sumN Y))) ∧ Below W.heap.size W w') := fun W =>
        refHex_any (sumN Y : Int) 8 (by omega) (by omega) W
      have HTS : Hid (textN (sumN Y) = tx (sumT Y)) := rfl
      generalize (toL s).getD 1 0 = c1 at *
      generalize textN (sumN Y) = X at *
      generalize sumN Y = N at *
      generalize sumT Y = Z at *
      have hbyte : 0 ≤ (c1.toNat : Int) ∧ (c1.toNat : Int) ≤ 255 := ⟨by omega, by have := c1.toNat_lt; omega⟩
      clear HT2 HT3 hY hYl HMID
      have HNK : Hid (∀ o : Obj, PackK w w.heap.size (.int .u8 0) (.string ⟨#[]⟩) 23 (W.alloc o)) := fun o => HK.out.alloc o
      by_cases h3 : Z = toL T2
      · have HV : Hid ((nextL (toL s)).val = .tuple #[.agg #[.int .u8 (c1.toNat : Int), .string T3], .int .i64 (14 + n), .int .i64 0]) := by
          unfold Hid
          rw [HO.out h3]
          simp only [NR.val, NR.kind, NR.body, NR.long, NR.code, frV, tx_toL, toL_length, hL3]
          have : ((14 + n : Nat) : Int) = 14 + n := by omega
          rw [this]; rfl
        have heq : (T2.toList == X.toList) = true := by rw [HTS.out, h3, tx_toL]; exact beq_self_eq_true _
        clear h3 HS HO HTS
        go_upto_region 14 with fail
        go_region
        have HT3 := Lib.hid (TwoK.new HK.out (.int .u8 (c1.toNat : Int)) (.string T3))
        clear hi1 HNK
        go_wp2_with fail
        go_region_held3 (fun w' => w'.cell? ⟨W.heap.size, 0, none⟩ = some (.int .u8 (c1.toNat : Int)) ∧ w'.cell? ⟨W.heap.size, 1, none⟩ = some (.string T3) ∧ TwoK w w.heap.size W.heap.size (.int .u8 (c1.toNat : Int)) (.string T3) 23 w')
          (first | exact (TwoK.drew HT3.out).held | exact (TwoK.below (And.right (And.right (by assumption))) (by assumption)).held | assumption)
          (first | (go_at_call 29; refine (HTX.out _).mono ?_; rintro e w3 ⟨rfl, hB3⟩) | (go_at_call 31; refine (HU.out _).mono ?_; rintro e w4 ⟨rfl, rfl⟩) | (go_at_call 30; refine (HH.out _).mono ?_; rintro e w5 ⟨rfl, hB5⟩))
        have HK5 : Hid (TwoK w w.heap.size W.heap.size (.int .u8 (c1.toNat : Int)) (.string T3) 23 w5) := And.right (And.right (by assumption))
        obtain ⟨hd0, hd1⟩ := HK5.out.cells
        obtain ⟨he0, he1⟩ := (⟨HK5.out.1.cell0, HK5.out.1.cell1⟩ : _ ∧ _)
        obtain ⟨hg0, hg1⟩ := HK5.out.1.frozen
        clear hB5
        go_wp2
        refine bodyPost_ret (v := (nextL (toL s)).val) ?_ rfl ⟨rfl, HK5.out.1.set (Nat.le_refl _) _ _⟩
        rw [results_cell_two rfl]
        simp [asAddr, Result.andThen, HK5.out.1.1.loadR, HV.out]
      · have HE := Lib.hid (HS.out h3)
        have heq : (T2.toList == X.toList) = false := by
          rw [HTS.out, ← tx_toL T2, eqT]; exact decide_eq_false (fun h => h3 h.symm)
        clear h3 HS HO HTS
        go_upto_region 14 with fail
        go_region
        have HT3 := Lib.hid (TwoK.new HK.out (.int .u8 (c1.toNat : Int)) (.string T3))
        clear hi1 HNK
        go_wp2_with fail
        go_region_held3 (fun w' => w'.cell? ⟨W.heap.size, 0, none⟩ = some (.int .u8 (c1.toNat : Int)) ∧ w'.cell? ⟨W.heap.size, 1, none⟩ = some (.string T3) ∧ TwoK w w.heap.size W.heap.size (.int .u8 (c1.toNat : Int)) (.string T3) 23 w')
          (first | exact (TwoK.drew HT3.out).held | exact (TwoK.below (And.right (And.right (by assumption))) (by assumption)).held | assumption)
          (first | (go_at_call 29; refine (HTX.out _).mono ?_; rintro e w3 ⟨rfl, hB3⟩) | (go_at_call 31; refine (HU.out _).mono ?_; rintro e w4 ⟨rfl, rfl⟩) | (go_at_call 30; refine (HH.out _).mono ?_; rintro e w5 ⟨rfl, hB5⟩))
        have HK5 : Hid (TwoK w w.heap.size W.heap.size (.int .u8 (c1.toNat : Int)) (.string T3) 23 w5) := And.right (And.right (by assumption))
        obtain ⟨hd0, hd1⟩ := HK5.out.cells
        obtain ⟨he0, he1⟩ := (⟨HK5.out.1.cell0, HK5.out.1.cell1⟩ : _ ∧ _)
        obtain ⟨hg0, hg1⟩ := HK5.out.1.frozen
        clear hB5
        go_wp2
        refine bodyPost_ret (v := (nextL (toL s)).val) ?_ rfl ⟨rfl, HK5.out.1.set (Nat.le_refl _) _ _⟩
        rw [results_cell_two rfl]
        simp [asAddr, Result.andThen, HK5.out.1.1.loadR, HE.out]
        rfl
end Go.Proofs.Ytkfddmbhokeofaa
