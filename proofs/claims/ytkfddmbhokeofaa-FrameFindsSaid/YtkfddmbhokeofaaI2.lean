/- Contracts of the document's own words of layer 4: what is summed of a frame; the text of a frame. -/
import Derived.Test.YtkfddmbhokeofaaI1
namespace Go.Proofs.Ytkfddmbhokeofaa
open Go.RowKit
set_option linter.unusedVariables false

theorem text_parts (k : UInt8) (b : ByteArray) : tx [k] ++ tx (hexL b.size 4) ++ b = tx (midT k (toL b)) := by
  have e2 : tx [k] ++ tx (hexL b.size 4) ++ b = tx ([k] ++ hexL b.size 4 ++ toL b) := by rw [← tx_append, ← tx_append, tx_toL]
  rw [e2]
  unfold midT
  rw [toL_length]; simp
set_option maxHeartbeats 2000000 in
theorem refText_any (k : UInt8) (b : ByteArray) (hb : b.size ≤ 2000) (w : World) :
    Calls Try.prog 29 #[.agg #[.int .u8 (k.toNat : Int), .string b]] w fun e w' => e = .returned (.string (tx (midT k (toL b)))) ∧ Below w.heap.size w w' := by
  have HK := Lib.hid (PackK.new w (.int .u8 (k.toNat : Int)) (.string b) 23)
  have hkb : 0 ≤ (k.toNat : Int) ∧ (k.toNat : Int) ≤ 255 := ⟨by omega, by have := k.toNat_lt; omega⟩
  have HH : Hid (∀ W, Calls Try.prog 30 #[.int .i64 (b.size : Int), .int .i64 4] W fun e w' => e = .returned (.string (tx (hexL b.size 4))) ∧ Below W.heap.size W w') := fun W => by
    have h := refHex_any (b.size : Int) 4 (by omega) (by omega) W
    rwa [show hexOf (b.size : Int) 4 = hexL b.size 4 from hexOf_nat b.size 4 (by decide) (by decide) (by omega)] at h
  have HH2 : Hid (∀ W : World, Calls Try.prog 30 #[.int .i64 (b.size : Int), .int .i64 4] (W.alloc (.cells #[.int .u8 (k.toNat : Int)] 5)).drew fun e w' => e = .returned (.string (tx (hexL b.size 4))) ∧ (convert 58 9 (.slice (some ⟨W.heap.size, 0, none⟩) 1 1)).run Try.prog w' = .ok (.string (tx [k])) w' ∧ Below (W.alloc (.cells #[.int .u8 (k.toNat : Int)] 5)).drew.heap.size (W.alloc (.cells #[.int .u8 (k.toNat : Int)] 5)).drew w') := after_row [k] HH.out
  have hv1 : ∀ W : World, (convert 58 9 (.slice (some ⟨W.heap.size, 0, none⟩) 1 1)).run Try.prog (W.alloc (.cells #[.int .u8 (k.toNat : Int)] 5)) = .ok (.string (tx [k])) (W.alloc (.cells #[.int .u8 (k.toNat : Int)] 5)) := conv_new [k]
  have hv2 : ∀ W : World, (convert 58 9 (.slice (some ⟨W.heap.size, 0, none⟩) 1 1)).run Try.prog (W.alloc (.cells #[.int .u8 (k.toNat : Int)] 5)).drew = .ok (.string (tx [k])) (W.alloc (.cells #[.int .u8 (k.toNat : Int)] 5)).drew := conv_drew [k]
  have HA := Lib.hid (text_parts k b)
  have hz1 : (tx [k]).size = 1 := rfl
  have hz2 : (tx (hexL b.size 4)).size = 4 := by rw [tx_size, hexL_length]
  have hc1 : ¬ (9223372036854775807 < 1 + 4 + b.size) := by omega
  generalize tx (midT k (toL b)) = M at *
  generalize tx [k] = T at *
  generalize tx (hexL b.size 4) = H at *
  have hz3 : (T ++ H).size = 5 := by rw [ByteArray.size_append, hz1, hz2]
  go_enter Try.func29, Try.ntmps29
  go_upto_region 1 with fail
  generalize w.alloc (.cells #[.int .u8 (k.toNat : Int), .string b] 23) = W0 at *
  refine wp_region_noPanic ?_
  refine wp_region_held_drew (S := (fun w' => w'.cell? ⟨w.heap.size, 0, none⟩ = some (.int .u8 (k.toNat : Int)) ∧ w'.cell? ⟨w.heap.size, 1, none⟩ = some (.string b) ∧ PackK w w.heap.size (.int .u8 (k.toNat : Int)) (.string b) 23 w')) (by kernel_rfl) ?_ (fun hH => ?_)
  · exact (PackK.drew HK.out).held
  refine wpAnyH_take (i := 0) (oi := ⟨some 3, _, _, _, _, _⟩) (v := ?_) rfl (by kernel_rfl) (by kernel_rfl) (by kernel_rfl) (fun _ _ _ h => h) (Or.inl ⟨by rfl, ?_⟩) (by assumption) ?_
  rotate_left
  · (intro wS hSw; (try dsimp only at hSw); (go_simp) <;> (with_reducible rfl))
  (try simp only [Act.put, List.setIfInBounds_toArray, List.set_cons_zero, List.set_cons_succ])
  refine wpAnyH_take (i := 1) (oi := ⟨some 4, _, _, _, _, _⟩) (v := ?_) rfl (by kernel_rfl) (by kernel_rfl) (by kernel_rfl) (fun _ _ _ h => h) (Or.inl ⟨by rfl, ?_⟩) (by assumption) ?_
  rotate_left
  · (intro wS hSw; (try dsimp only at hSw); (go_simp) <;> (with_reducible rfl))
  (try simp only [Act.put, List.setIfInBounds_toArray, List.set_cons_zero, List.set_cons_succ])
  refine wpAnyH_take (i := 4) (oi := ⟨some 7, _, _, _, _, _⟩) (v := ?_) rfl (by kernel_rfl) (by kernel_rfl) (by kernel_rfl) (fun _ _ _ h => h) (Or.inl ⟨by rfl, ?_⟩) (by assumption) ?_
  rotate_left
  · (intro wS hSw; (try dsimp only at hSw); (go_simp) <;> (with_reducible rfl))
  (try simp only [Act.put, List.setIfInBounds_toArray, List.set_cons_zero, List.set_cons_succ])
  refine wpAnyH_take (i := 5) (oi := ⟨some 8, _, _, _, _, _⟩) (v := ?_) rfl (by kernel_rfl) (by kernel_rfl) (by kernel_rfl) (fun _ _ _ h => h) (Or.inl ⟨by rfl, ?_⟩) (by assumption) ?_
  rotate_left
  · (intro wS hSw; (try dsimp only at hSw); (go_simp) <;> (with_reducible rfl))
  (try simp only [Act.put, List.setIfInBounds_toArray, List.set_cons_zero, List.set_cons_succ])
  refine wpAnyH_take (i := 6) (oi := ⟨some 9, _, _, _, _, _⟩) (v := ?_) rfl (by kernel_rfl) (by kernel_rfl) (by kernel_rfl) (fun _ _ _ h => h) (Or.inl ⟨by rfl, ?_⟩) (by assumption) ?_
  rotate_left
  · (intro wS hSw; (try dsimp only at hSw); (go_simp) <;> (with_reducible rfl))
  (try simp only [Act.put, List.setIfInBounds_toArray, List.set_cons_zero, List.set_cons_succ])
  refine wpAnyH_take (i := 9) (oi := ⟨some 12, _, _, _, _, _⟩) (v := ?_) rfl (by kernel_rfl) (by kernel_rfl) (by kernel_rfl) (fun _ _ _ h => h) (Or.inl ⟨by rfl, ?_⟩) (by assumption) ?_
  rotate_left
  · (intro wS hSw; (try dsimp only at hSw); (go_simp) <;> (with_reducible rfl))
  (try simp only [Act.put, List.setIfInBounds_toArray, List.set_cons_zero, List.set_cons_succ])
  refine wpAnyH_take (i := 10) (oi := ⟨some 13, _, _, _, _, _⟩) (v := ?_) rfl (by kernel_rfl) (by kernel_rfl) (by kernel_rfl) (fun _ _ _ h => h) (Or.inl ⟨by rfl, ?_⟩) (by assumption) ?_
  rotate_left
  · (intro wS hSw; (try dsimp only at hSw); (go_simp) <;> (with_reducible rfl))
  (try simp only [Act.put, List.setIfInBounds_toArray, List.set_cons_zero, List.set_cons_succ])
  refine wpAnyH_ready (rs := [2, 7]) (by kernel_rfl) (by simp) ?_
  refine AllReadyH.cons (o := ⟨some 5, _, _, _, _, _⟩) rfl (fun K hK => ?_) ?_
  · go_simp
    refine hK.out _ _ ?_ (fun hH => ?_)
    · first | exact (PackK.below hH.2.2 hB).held | exact (PackK.alloc hH.2.2 _).held | exact hH
    clear hK K
    (try simp only [Act.put, List.setIfInBounds_toArray, List.set_cons_zero, List.set_cons_succ])
    refine wpAnyH_ready (rs := [3, 7]) (by kernel_rfl) (by simp) ?_
    refine AllReadyH.cons (o := ⟨some 6, _, _, _, _, _⟩) rfl (fun K hK => ?_) ?_
    · go_simp
      refine hK.out _ _ ?_ (fun hH => ?_)
      · first | exact (PackK.below hH.2.2 hB).held | exact (PackK.alloc hH.2.2 _).held | exact hH
      clear hK K
      (try simp only [Act.put, List.setIfInBounds_toArray, List.set_cons_zero, List.set_cons_succ])
      refine wpAnyH_ready (rs := [7]) (by kernel_rfl) (by simp) ?_
      refine AllReadyH.cons (o := ⟨some 10, _, _, _, _, _⟩) rfl (fun K hK => ?_) AllReadyH.nil
      go_simp
      first | (refine (HH2.out _).mono ?_; rintro e w3 ⟨rfl, hcv, hB⟩) | (refine (HH.out _).mono ?_; rintro e w3 ⟨rfl, hB⟩)
      go_wp2_with fail
      refine hK.out _ _ ?_ (fun hH => ?_)
      · first | exact (PackK.below hH.2.2 hB).held | exact (PackK.alloc hH.2.2 _).held | exact hH
      clear hK K
      (try simp only [Act.put, List.setIfInBounds_toArray, List.set_cons_zero, List.set_cons_succ])
      refine wpAnyH_take (i := 8) (oi := ⟨some 11, _, _, _, _, _⟩) (v := ?_) rfl (by kernel_rfl) (by kernel_rfl) (by kernel_rfl) (fun _ _ _ h => h) (Or.inl ⟨by rfl, ?_⟩) (by assumption) ?_
      rotate_left
      · (intro wS hSw; (try dsimp only at hSw); (go_simp) <;> (with_reducible rfl))
      (try simp only [Act.put, List.setIfInBounds_toArray, List.set_cons_zero, List.set_cons_succ])
      refine wpAnyH_take (i := 11) (oi := ⟨some 14, _, _, _, _, _⟩) (v := ?_) rfl (by kernel_rfl) (by kernel_rfl) (by kernel_rfl) (fun _ _ _ h => h) (Or.inl ⟨by rfl, ?_⟩) (by assumption) ?_
      rotate_left
      · (intro wS hSw; (try dsimp only at hSw); (go_simp) <;> (with_reducible rfl))
      (try simp only [Act.put, List.setIfInBounds_toArray, List.set_cons_zero, List.set_cons_succ])
      refine wpAnyH_take (i := 12) (oi := ⟨some 2, _, _, _, _, _⟩) (v := ?_) rfl (by kernel_rfl) (by kernel_rfl) (by kernel_rfl) (fun _ _ _ h => h) (Or.inl ⟨by rfl, ?_⟩) (by assumption) ?_
      rotate_left
      · (intro wS hSw; (try dsimp only at hSw); (go_simp) <;> (with_reducible rfl))
      (try simp only [Act.put, List.setIfInBounds_toArray, List.set_cons_zero, List.set_cons_succ])
      refine wpAnyH_done (by kernel_rfl) ?_ _
      refine NoPanic.normal ?_
      go_wp2
      go_ret
      exact ⟨retS HA.out, hH.2.2.2.2⟩
    refine AllReadyH.cons (o := ⟨some 10, _, _, _, _, _⟩) rfl (fun K hK => ?_) AllReadyH.nil
    go_simp
    first | (refine (HH2.out _).mono ?_; rintro e w3 ⟨rfl, hcv, hB⟩) | (refine (HH.out _).mono ?_; rintro e w3 ⟨rfl, hB⟩)
    go_wp2_with fail
    refine hK.out _ _ ?_ (fun hH => ?_)
    · first | exact (PackK.below hH.2.2 hB).held | exact (PackK.alloc hH.2.2 _).held | exact hH
    clear hK K
    (try simp only [Act.put, List.setIfInBounds_toArray, List.set_cons_zero, List.set_cons_succ])
    refine wpAnyH_ready (rs := [3]) (by kernel_rfl) (by simp) ?_
    refine AllReadyH.cons (o := ⟨some 6, _, _, _, _, _⟩) rfl (fun K hK => ?_) AllReadyH.nil
    go_simp
    refine hK.out _ _ ?_ (fun hH => ?_)
    · first | exact (PackK.below hH.2.2 hB).held | exact (PackK.alloc hH.2.2 _).held | exact hH
    clear hK K
    (try simp only [Act.put, List.setIfInBounds_toArray, List.set_cons_zero, List.set_cons_succ])
    refine wpAnyH_take (i := 8) (oi := ⟨some 11, _, _, _, _, _⟩) (v := ?_) rfl (by kernel_rfl) (by kernel_rfl) (by kernel_rfl) (fun _ _ _ h => h) (Or.inl ⟨by rfl, ?_⟩) (by assumption) ?_
    rotate_left
    · (intro wS hSw; (try dsimp only at hSw); (go_simp) <;> (with_reducible rfl))
    (try simp only [Act.put, List.setIfInBounds_toArray, List.set_cons_zero, List.set_cons_succ])
    refine wpAnyH_take (i := 11) (oi := ⟨some 14, _, _, _, _, _⟩) (v := ?_) rfl (by kernel_rfl) (by kernel_rfl) (by kernel_rfl) (fun _ _ _ h => h) (Or.inl ⟨by rfl, ?_⟩) (by assumption) ?_
    rotate_left
    · (intro wS hSw; (try dsimp only at hSw); (go_simp) <;> (with_reducible rfl))
    (try simp only [Act.put, List.setIfInBounds_toArray, List.set_cons_zero, List.set_cons_succ])
    refine wpAnyH_take (i := 12) (oi := ⟨some 2, _, _, _, _, _⟩) (v := ?_) rfl (by kernel_rfl) (by kernel_rfl) (by kernel_rfl) (fun _ _ _ h => h) (Or.inl ⟨by rfl, ?_⟩) (by assumption) ?_
    rotate_left
    · (intro wS hSw; (try dsimp only at hSw); (go_simp) <;> (with_reducible rfl))
    (try simp only [Act.put, List.setIfInBounds_toArray, List.set_cons_zero, List.set_cons_succ])
    refine wpAnyH_done (by kernel_rfl) ?_ _
    refine NoPanic.normal ?_
    go_wp2
    go_ret
    exact ⟨retS HA.out, hH.2.2.2.2⟩
  refine AllReadyH.cons (o := ⟨some 10, _, _, _, _, _⟩) rfl (fun K hK => ?_) AllReadyH.nil
  go_simp
  first | (refine (HH2.out _).mono ?_; rintro e w3 ⟨rfl, hcv, hB⟩) | (refine (HH.out _).mono ?_; rintro e w3 ⟨rfl, hB⟩)
  go_wp2_with fail
  refine hK.out _ _ ?_ (fun hH => ?_)
  · first | exact (PackK.below hH.2.2 hB).held | exact (PackK.alloc hH.2.2 _).held | exact hH
  clear hK K
  (try simp only [Act.put, List.setIfInBounds_toArray, List.set_cons_zero, List.set_cons_succ])
  refine wpAnyH_ready (rs := [2]) (by kernel_rfl) (by simp) ?_
  refine AllReadyH.cons (o := ⟨some 5, _, _, _, _, _⟩) rfl (fun K hK => ?_) AllReadyH.nil
  go_simp
  refine hK.out _ _ ?_ (fun hH => ?_)
  · first | exact (PackK.below hH.2.2 hB).held | exact (PackK.alloc hH.2.2 _).held | exact hH
  clear hK K
  (try simp only [Act.put, List.setIfInBounds_toArray, List.set_cons_zero, List.set_cons_succ])
  refine wpAnyH_ready (rs := [3]) (by kernel_rfl) (by simp) ?_
  refine AllReadyH.cons (o := ⟨some 6, _, _, _, _, _⟩) rfl (fun K hK => ?_) AllReadyH.nil
  go_simp
  refine hK.out _ _ ?_ (fun hH => ?_)
  · first | exact (PackK.below hH.2.2 hB).held | exact (PackK.alloc hH.2.2 _).held | exact hH
  clear hK K
  (try simp only [Act.put, List.setIfInBounds_toArray, List.set_cons_zero, List.set_cons_succ])
  refine wpAnyH_take (i := 8) (oi := ⟨some 11, _, _, _, _, _⟩) (v := ?_) rfl (by kernel_rfl) (by kernel_rfl) (by kernel_rfl) (fun _ _ _ h => h) (Or.inl ⟨by rfl, ?_⟩) (by assumption) ?_
  rotate_left
  · (intro wS hSw; (try dsimp only at hSw); (go_simp) <;> (with_reducible rfl))
  (try simp only [Act.put, List.setIfInBounds_toArray, List.set_cons_zero, List.set_cons_succ])
  refine wpAnyH_take (i := 11) (oi := ⟨some 14, _, _, _, _, _⟩) (v := ?_) rfl (by kernel_rfl) (by kernel_rfl) (by kernel_rfl) (fun _ _ _ h => h) (Or.inl ⟨by rfl, ?_⟩) (by assumption) ?_
  rotate_left
  · (intro wS hSw; (try dsimp only at hSw); (go_simp) <;> (with_reducible rfl))
  (try simp only [Act.put, List.setIfInBounds_toArray, List.set_cons_zero, List.set_cons_succ])
  refine wpAnyH_take (i := 12) (oi := ⟨some 2, _, _, _, _, _⟩) (v := ?_) rfl (by kernel_rfl) (by kernel_rfl) (by kernel_rfl) (fun _ _ _ h => h) (Or.inl ⟨by rfl, ?_⟩) (by assumption) ?_
  rotate_left
  · (intro wS hSw; (try dsimp only at hSw); (go_simp) <;> (with_reducible rfl))
  (try simp only [Act.put, List.setIfInBounds_toArray, List.set_cons_zero, List.set_cons_succ])
  refine wpAnyH_done (by kernel_rfl) ?_ _
  refine NoPanic.normal ?_
  go_wp2
  go_ret
  exact ⟨retS HA.out, hH.2.2.2.2⟩

theorem pack_sum (k : UInt8) (b : ByteArray) : tx [254] ++ tx (midT k (toL b)) ++ textN (sumN (midT k (toL b))) = tx (packT k (toL b)) := by
  have e1 : textN (sumN (midT k (toL b))) = tx (sumT (midT k (toL b))) := rfl
  rw [e1, tx_append, tx_append]
  rfl
theorem all_snoc (p : UInt8 → Bool) (s : ByteArray) (j : Nat) (h : j < s.size) (hf : p s[j] = false) : (toL s).all p = false := by
  have h1 := take_all_next p s j h
  rw [hf, Bool.and_false] at h1
  have h2 := take_all_less p (toL s) (j + 1) s.size (by omega) h1
  rwa [take_size] at h2
theorem inBody_int (c : UInt8) : inBodyB c = (decide (32 ≤ (c.toNat : Int)) && decide ((c.toNat : Int) ≤ 126)) := by
  unfold inBodyB
  congr 1 <;> exact decide_eq_decide.2 (by omega)
theorem isKind_int (c : UInt8) : isKindB c = (decide (97 ≤ (c.toNat : Int)) && decide ((c.toNat : Int) ≤ 122)) := by
  unfold isKindB
  congr 1 <;> exact decide_eq_decide.2 (by omega)

set_option maxHeartbeats 2000000 in
theorem refPack_any (k : UInt8) (b : ByteArray) (hb : b.size ≤ maxLen) (w : World) :
    Calls Try.prog 13 #[.agg #[.int .u8 (k.toNat : Int), .string b]] w fun e w' => e = .returned (.tuple #[.string (tx (packS k (toL b))), .int .i64 (packE k (toL b) : Int)]) ∧ Below w.heap.size w w' := by
  have HK := Lib.hid (PackK.new w (.int .u8 (k.toNat : Int)) (.string b) 23)
  have HEE : Hid (packE k (toL b) = if isKindB k = false then 40 else if 2000 < b.size then 41 else if (toL b).all inBodyB = false then 42 else 0) := by
    unfold Hid packE
    rw [toL_length]
  have HSS : Hid (packS k (toL b) = if packE k (toL b) = 0 then packT k (toL b) else []) := rfl
  have HI := Lib.hid (isKind_int k)
  unfold maxLen at hb
  have hkb : 0 ≤ (k.toNat : Int) ∧ (k.toNat : Int) ≤ 255 := ⟨by omega, by have := k.toNat_lt; omega⟩
  cases hk : isKindB k
  · have HE : Hid (packE k (toL b) = 40) := by unfold Hid; rw [HEE.out, if_pos hk]
    have HS : Hid (packS k (toL b) = []) := by unfold Hid; rw [HSS.out, HE.out]; rfl
    have hn : (k.toNat : Int) < 97 ∨ (¬ (k.toNat : Int) < 97 ∧ 122 < (k.toNat : Int)) := by
      have := HI.out
      rw [hk] at this
      simp at this
      omega
    clear hk HI HEE HSS
    rcases hn with hn | ⟨hn, hn2⟩
    all_goals
      go_enter Try.func13, Try.ntmps13
      go_wp2
      go_ret2
      exact ⟨by rw [HE.out, HS.out]; rfl, HK.out.2.2⟩
  · have hn : 97 ≤ (k.toNat : Int) ∧ (k.toNat : Int) ≤ 122 := by
      have := HI.out
      rw [hk] at this
      simp at this
      omega
    obtain ⟨hn1, hn2⟩ := hn
    clear HI
    by_cases hl : 2000 < b.size
    · have HE : Hid (packE k (toL b) = 41) := by unfold Hid; rw [HEE.out, if_neg (by simp [hk]), if_pos hl]
      have HS : Hid (packS k (toL b) = []) := by unfold Hid; rw [HSS.out, HE.out]; rfl
      clear hk HEE HSS
      go_enter Try.func13, Try.ntmps13
      go_wp2
      go_ret2
      exact ⟨by rw [HE.out, HS.out]; rfl, HK.out.2.2⟩
    · have HBAD : Hid (∀ j (h : j < b.size), inBodyB b[j] = false → packE k (toL b) = 42) := fun j h hf => by
        rw [HEE.out, if_neg (by simp [hk]), if_neg hl, if_pos (all_snoc inBodyB b j h hf)]
      have HGOOD : Hid (((toL b).take b.size).all inBodyB = true → packE k (toL b) = 0) := fun h => by
        rw [take_size] at h
        rw [HEE.out, if_neg (by simp [hk]), if_neg hl, if_neg (by simp [h])]
      have HT := Lib.hid (fun W => refText_any k b (by omega) W)
      have hszm : (tx (midT k (toL b))).size = 5 + b.size := by rw [tx_size, midT_len, toL_length]
      have HU : Hid (∀ W, Calls Try.prog 31 #[.string (tx (midT k (toL b)))] W fun e w' => e = .returned (.int .i64 (sumN (midT k (toL b)) : Int)) ∧ W = w') := fun W => by
        have h := refSum_any (tx (midT k (toL b))) (by omega) W
        rwa [toL_tx] at h
      have hlt := sumN_lt (midT k (toL b))
      have HH : Hid (∀ W, Calls Try.prog 30 #[.int .i64 (sumN (midT k (toL b)) : Int), .int .i64 8] W fun e w' => e = .returned (.string (textN (sumN (midT k (toL b))))) ∧ Below W.heap.size W w') := fun W =>
        refHex_any (sumN (midT k (toL b)) : Int) 8 (by omega) (by omega) W
      have HH2 : Hid (∀ W : World, Calls Try.prog 30 #[.int .i64 (sumN (midT k (toL b)) : Int), .int .i64 8] (W.alloc (.cells #[.int .u8 254] 5)).drew fun e w' => e = .returned (.string (textN (sumN (midT k (toL b))))) ∧ (convert 58 9 (.slice (some ⟨W.heap.size, 0, none⟩) 1 1)).run Try.prog w' = .ok (.string (tx [254])) w' ∧ Below (W.alloc (.cells #[.int .u8 254] 5)).drew.heap.size (W.alloc (.cells #[.int .u8 254] 5)).drew w') := after_row [254] HH.out
      have hv1 : ∀ W : World, (convert 58 9 (.slice (some ⟨W.heap.size, 0, none⟩) 1 1)).run Try.prog (W.alloc (.cells #[.int .u8 254] 5)) = .ok (.string (tx [254])) (W.alloc (.cells #[.int .u8 254] 5)) := conv_new [254]
      have hv2 : ∀ W : World, (convert 58 9 (.slice (some ⟨W.heap.size, 0, none⟩) 1 1)).run Try.prog (W.alloc (.cells #[.int .u8 254] 5)).drew = .ok (.string (tx [254])) (W.alloc (.cells #[.int .u8 254] 5)).drew := conv_drew [254]
      have HZ := Lib.hid (pack_sum k b)
      have hz1 : (tx [254]).size = 1 := rfl
      have hz4 : (textN (sumN (midT k (toL b)))).size = 8 := by
        show (tx (sumT _)).size = 8
        rw [tx_size, sumT_len]
      generalize textN (sumN (midT k (toL b))) = X at *
      generalize sumN (midT k (toL b)) = N at *
      generalize tx (midT k (toL b)) = M at *
      generalize tx [254] = T at *
      have hz5 : (T ++ M).size = 6 + b.size := by rw [ByteArray.size_append, hz1, hszm]; omega
      have hc2 : ¬ (9223372036854775807 < 1 + (5 + b.size)) := by omega
      have hc3 : ¬ (9223372036854775807 < 6 + b.size + 8) := by omega
      have hc0 := HK.out.cell0
      have hc1 := HK.out.cell1
      have HK2 := Lib.hid (Below.refl (w.alloc (.cells #[.int .u8 (k.toNat : Int), .string b] 23)).heap.size (w.alloc (.cells #[.int .u8 (k.toNat : Int), .string b] 23)))
      clear hk HEE
      go_enter Try.func13, Try.ntmps13
      go_wp2
      generalize w.alloc (.cells #[.int .u8 (k.toNat : Int), .string b] 23) = W at *
      go_loopw [4] (fun i wr => ∃ j : Nat, j ≤ b.size ∧ i = .int .i64 j ∧ Hid (((toL b).take j).all inBodyB = true) ∧ W = wr) (fun i _ => b.size - (intOf i).toNat)
      case atStart => exact ⟨0, by omega, rfl, (by unfold Hid; rfl), rfl⟩
      case round =>
        obtain ⟨j, hj, rfl, HA, rfl⟩ := hrel
        by_cases hjs : j < b.size
        · have HN := Lib.hid (take_all_next inBodyB b j hjs)
          have HF := Lib.hid (HBAD.out j hjs)
          have hbyte : 0 ≤ (b[j].toNat : Int) ∧ (b[j].toNat : Int) ≤ 255 := ⟨by omega, by have := b[j].toNat_lt; omega⟩
          have hint := inBody_int b[j]
          cases hx : inBodyB b[j]
          · have HE := Lib.hid (HF.out hx)
            have HS : Hid (packS k (toL b) = []) := by unfold Hid; rw [HSS.out, HE.out]; rfl
            have hn : (b[j].toNat : Int) < 32 ∨ (¬ (b[j].toNat : Int) < 32 ∧ 126 < (b[j].toNat : Int)) := by
              rw [hx] at hint
              simp at hint
              omega
            clear hx hint HF HN HSS
            rcases hn with hn | ⟨hn, hn2⟩
            all_goals
              go_wp2
              go_ret2
              exact ⟨by rw [HE.out, HS.out]; rfl, HK.out.2.2⟩
          · have hn : ¬ (b[j].toNat : Int) < 32 ∧ ¬ 126 < (b[j].toNat : Int) := by
              rw [hx] at hint
              simp at hint
              omega
            obtain ⟨hn3, hn4⟩ := hn
            have HA2 : Hid (((toL b).take (j + 1)).all inBodyB = true) := by unfold Hid; rw [HN.out, HA.out, hx]; rfl
            clear hx hint HF HN HSS
            go_wp2
            go_roundw
            case rel => exact ⟨j + 1, by omega, by go_num, HA2, by trivial⟩
            case measure => simp [intOf]; omega
        · obtain rfl : j = b.size := by omega
          have HE := Lib.hid (HGOOD.out HA.out)
          have HS : Hid (packS k (toL b) = packT k (toL b)) := by unfold Hid; rw [HSS.out, HE.out]; rfl
          clear HSS HBAD HGOOD HA
          go_wp2_with fail
          go_at_call 29
          refine (HT.out _).mono ?_
          rintro e w2 ⟨rfl, hB2⟩
          have HK3 := Lib.hid (HK.out.below hB2)
          clear HK hB2 HT
          go_upto_region 11 with fail
          refine wp_region_noPanic ?_
          refine wp_region_held_drew (S := (fun w' => w'.cell? ⟨w.heap.size, 0, none⟩ = some (.int .u8 (k.toNat : Int)) ∧ w'.cell? ⟨w.heap.size, 1, none⟩ = some (.string b) ∧ PackK w w.heap.size (.int .u8 (k.toNat : Int)) (.string b) 23 w')) (by kernel_rfl) ?_ (fun hH => ?_)
          · exact (PackK.drew HK3.out).held
          refine wpAnyH_take (i := 2) (oi := ⟨some 41, _, _, _, _, _⟩) (v := ?_) rfl (by kernel_rfl) (by kernel_rfl) (by kernel_rfl) (fun _ _ _ h => h) (Or.inl ⟨by rfl, ?_⟩) (by assumption) ?_
          rotate_left
          · (intro wS hSw; (try dsimp only at hSw); (go_simp) <;> (with_reducible rfl))
          (try simp only [Act.put, List.setIfInBounds_toArray, List.set_cons_zero, List.set_cons_succ])
          refine wpAnyH_take (i := 4) (oi := ⟨some 43, _, _, _, _, _⟩) (v := ?_) rfl (by kernel_rfl) (by kernel_rfl) (by kernel_rfl) (fun _ _ _ h => h) (Or.inl ⟨by rfl, ?_⟩) (by assumption) ?_
          rotate_left
          · (intro wS hSw; (try dsimp only at hSw); (go_simp) <;> (with_reducible rfl))
          (try simp only [Act.put, List.setIfInBounds_toArray, List.set_cons_zero, List.set_cons_succ])
          refine wpAnyH_ready (rs := [0, 5]) (by kernel_rfl) (by simp) ?_
          refine AllReadyH.cons (o := ⟨some 39, _, _, _, _, _⟩) rfl (fun K hK => ?_) ?_
          · go_simp
            refine hK.out _ _ ?_ (fun hH => ?_)
            · first | exact (PackK.below hH.2.2 hB).held | exact (PackK.alloc hH.2.2 _).held | exact hH
            clear hK K
            (try simp only [Act.put, List.setIfInBounds_toArray, List.set_cons_zero, List.set_cons_succ])
            refine wpAnyH_ready (rs := [1, 5]) (by kernel_rfl) (by simp) ?_
            refine AllReadyH.cons (o := ⟨some 40, _, _, _, _, _⟩) rfl (fun K hK => ?_) ?_
            · go_simp
              refine hK.out _ _ ?_ (fun hH => ?_)
              · first | exact (PackK.below hH.2.2 hB).held | exact (PackK.alloc hH.2.2 _).held | exact hH
              clear hK K
              (try simp only [Act.put, List.setIfInBounds_toArray, List.set_cons_zero, List.set_cons_succ])
              refine wpAnyH_take (i := 3) (oi := ⟨some 42, _, _, _, _, _⟩) (v := ?_) rfl (by kernel_rfl) (by kernel_rfl) (by kernel_rfl) (fun _ _ _ h => h) (Or.inl ⟨by rfl, ?_⟩) (by assumption) ?_
              rotate_left
              · (intro wS hSw; (try dsimp only at hSw); (go_simp) <;> (with_reducible rfl))
              (try simp only [Act.put, List.setIfInBounds_toArray, List.set_cons_zero, List.set_cons_succ])
              refine wpAnyH_ready (rs := [5]) (by kernel_rfl) (by simp) ?_
              refine AllReadyH.cons (o := ⟨some 44, _, _, _, _, _⟩) rfl (fun K hK => ?_) AllReadyH.nil
              go_simp
              first | (refine (HH2.out _).mono ?_; rintro e w3 ⟨rfl, hcv, hB⟩) | (refine (HH.out _).mono ?_; rintro e w3 ⟨rfl, hB⟩) | (refine (HU.out _).mono ?_; rintro e w3 ⟨rfl, rfl⟩)
              go_wp2_with fail
              refine hK.out _ _ ?_ (fun hH => ?_)
              · first | exact (PackK.below hH.2.2 hB).held | exact (PackK.alloc hH.2.2 _).held | exact hH
              clear hK K
              (try simp only [Act.put, List.setIfInBounds_toArray, List.set_cons_zero, List.set_cons_succ])
              refine wpAnyH_ready (rs := [6]) (by kernel_rfl) (by simp) ?_
              refine AllReadyH.cons (o := ⟨some 45, _, _, _, _, _⟩) rfl (fun K hK => ?_) AllReadyH.nil
              go_simp
              first | (refine (HH2.out _).mono ?_; rintro e w3 ⟨rfl, hcv, hB⟩) | (refine (HH.out _).mono ?_; rintro e w3 ⟨rfl, hB⟩) | (refine (HU.out _).mono ?_; rintro e w3 ⟨rfl, rfl⟩)
              go_wp2_with fail
              refine hK.out _ _ ?_ (fun hH => ?_)
              · first | exact (PackK.below hH.2.2 hB).held | exact (PackK.alloc hH.2.2 _).held | exact hH
              clear hK K
              (try simp only [Act.put, List.setIfInBounds_toArray, List.set_cons_zero, List.set_cons_succ])
              refine wpAnyH_take (i := 7) (oi := ⟨some 46, _, _, _, _, _⟩) (v := ?_) rfl (by kernel_rfl) (by kernel_rfl) (by kernel_rfl) (fun _ _ _ h => h) (Or.inl ⟨by rfl, ?_⟩) (by assumption) ?_
              rotate_left
              · (intro wS hSw; (try dsimp only at hSw); (go_simp) <;> (with_reducible rfl))
              (try simp only [Act.put, List.setIfInBounds_toArray, List.set_cons_zero, List.set_cons_succ])
              refine wpAnyH_take (i := 8) (oi := ⟨some 2, _, _, _, _, _⟩) (v := ?_) rfl (by kernel_rfl) (by kernel_rfl) (by kernel_rfl) (fun _ _ _ h => h) (Or.inl ⟨by rfl, ?_⟩) (by assumption) ?_
              rotate_left
              · (intro wS hSw; (try dsimp only at hSw); (go_simp) <;> (with_reducible rfl))
              (try simp only [Act.put, List.setIfInBounds_toArray, List.set_cons_zero, List.set_cons_succ])
              refine wpAnyH_take (i := 9) (oi := ⟨some 3, _, _, _, _, _⟩) (v := ?_) rfl (by kernel_rfl) (by kernel_rfl) (by kernel_rfl) (fun _ _ _ h => h) (Or.inl ⟨by rfl, ?_⟩) (by assumption) ?_
              rotate_left
              · (intro wS hSw; (try dsimp only at hSw); (go_simp) <;> (with_reducible rfl))
              (try simp only [Act.put, List.setIfInBounds_toArray, List.set_cons_zero, List.set_cons_succ])
              refine wpAnyH_done (by kernel_rfl) ?_ _
              refine NoPanic.normal ?_
              go_wp2
              go_ret2
              exact ⟨by rw [HE.out, HS.out, ← HZ.out]; rfl, hH.2.2.2.2⟩
            refine AllReadyH.cons (o := ⟨some 44, _, _, _, _, _⟩) rfl (fun K hK => ?_) AllReadyH.nil
            go_simp
            first | (refine (HH2.out _).mono ?_; rintro e w3 ⟨rfl, hcv, hB⟩) | (refine (HH.out _).mono ?_; rintro e w3 ⟨rfl, hB⟩) | (refine (HU.out _).mono ?_; rintro e w3 ⟨rfl, rfl⟩)
            go_wp2_with fail
            refine hK.out _ _ ?_ (fun hH => ?_)
            · first | exact (PackK.below hH.2.2 hB).held | exact (PackK.alloc hH.2.2 _).held | exact hH
            clear hK K
            (try simp only [Act.put, List.setIfInBounds_toArray, List.set_cons_zero, List.set_cons_succ])
            refine wpAnyH_ready (rs := [1, 6]) (by kernel_rfl) (by simp) ?_
            refine AllReadyH.cons (o := ⟨some 40, _, _, _, _, _⟩) rfl (fun K hK => ?_) ?_
            · go_simp
              refine hK.out _ _ ?_ (fun hH => ?_)
              · first | exact (PackK.below hH.2.2 hB).held | exact (PackK.alloc hH.2.2 _).held | exact hH
              clear hK K
              (try simp only [Act.put, List.setIfInBounds_toArray, List.set_cons_zero, List.set_cons_succ])
              refine wpAnyH_take (i := 3) (oi := ⟨some 42, _, _, _, _, _⟩) (v := ?_) rfl (by kernel_rfl) (by kernel_rfl) (by kernel_rfl) (fun _ _ _ h => h) (Or.inl ⟨by rfl, ?_⟩) (by assumption) ?_
              rotate_left
              · (intro wS hSw; (try dsimp only at hSw); (go_simp) <;> (with_reducible rfl))
              (try simp only [Act.put, List.setIfInBounds_toArray, List.set_cons_zero, List.set_cons_succ])
              refine wpAnyH_ready (rs := [6]) (by kernel_rfl) (by simp) ?_
              refine AllReadyH.cons (o := ⟨some 45, _, _, _, _, _⟩) rfl (fun K hK => ?_) AllReadyH.nil
              go_simp
              first | (refine (HH2.out _).mono ?_; rintro e w3 ⟨rfl, hcv, hB⟩) | (refine (HH.out _).mono ?_; rintro e w3 ⟨rfl, hB⟩) | (refine (HU.out _).mono ?_; rintro e w3 ⟨rfl, rfl⟩)
              go_wp2_with fail
              refine hK.out _ _ ?_ (fun hH => ?_)
              · first | exact (PackK.below hH.2.2 hB).held | exact (PackK.alloc hH.2.2 _).held | exact hH
              clear hK K
              (try simp only [Act.put, List.setIfInBounds_toArray, List.set_cons_zero, List.set_cons_succ])
              refine wpAnyH_take (i := 7) (oi := ⟨some 46, _, _, _, _, _⟩) (v := ?_) rfl (by kernel_rfl) (by kernel_rfl) (by kernel_rfl) (fun _ _ _ h => h) (Or.inl ⟨by rfl, ?_⟩) (by assumption) ?_
              rotate_left
              · (intro wS hSw; (try dsimp only at hSw); (go_simp) <;> (with_reducible rfl))
              (try simp only [Act.put, List.setIfInBounds_toArray, List.set_cons_zero, List.set_cons_succ])
              refine wpAnyH_take (i := 8) (oi := ⟨some 2, _, _, _, _, _⟩) (v := ?_) rfl (by kernel_rfl) (by kernel_rfl) (by kernel_rfl) (fun _ _ _ h => h) (Or.inl ⟨by rfl, ?_⟩) (by assumption) ?_
              rotate_left
              · (intro wS hSw; (try dsimp only at hSw); (go_simp) <;> (with_reducible rfl))
              (try simp only [Act.put, List.setIfInBounds_toArray, List.set_cons_zero, List.set_cons_succ])
              refine wpAnyH_take (i := 9) (oi := ⟨some 3, _, _, _, _, _⟩) (v := ?_) rfl (by kernel_rfl) (by kernel_rfl) (by kernel_rfl) (fun _ _ _ h => h) (Or.inl ⟨by rfl, ?_⟩) (by assumption) ?_
              rotate_left
              · (intro wS hSw; (try dsimp only at hSw); (go_simp) <;> (with_reducible rfl))
              (try simp only [Act.put, List.setIfInBounds_toArray, List.set_cons_zero, List.set_cons_succ])
              refine wpAnyH_done (by kernel_rfl) ?_ _
              refine NoPanic.normal ?_
              go_wp2
              go_ret2
              exact ⟨by rw [HE.out, HS.out, ← HZ.out]; rfl, hH.2.2.2.2⟩
            refine AllReadyH.cons (o := ⟨some 45, _, _, _, _, _⟩) rfl (fun K hK => ?_) AllReadyH.nil
            go_simp
            first | (refine (HH2.out _).mono ?_; rintro e w3 ⟨rfl, hcv, hB⟩) | (refine (HH.out _).mono ?_; rintro e w3 ⟨rfl, hB⟩) | (refine (HU.out _).mono ?_; rintro e w3 ⟨rfl, rfl⟩)
            go_wp2_with fail
            refine hK.out _ _ ?_ (fun hH => ?_)
            · first | exact (PackK.below hH.2.2 hB).held | exact (PackK.alloc hH.2.2 _).held | exact hH
            clear hK K
            (try simp only [Act.put, List.setIfInBounds_toArray, List.set_cons_zero, List.set_cons_succ])
            refine wpAnyH_ready (rs := [1]) (by kernel_rfl) (by simp) ?_
            refine AllReadyH.cons (o := ⟨some 40, _, _, _, _, _⟩) rfl (fun K hK => ?_) AllReadyH.nil
            go_simp
            refine hK.out _ _ ?_ (fun hH => ?_)
            · first | exact (PackK.below hH.2.2 hB).held | exact (PackK.alloc hH.2.2 _).held | exact hH
            clear hK K
            (try simp only [Act.put, List.setIfInBounds_toArray, List.set_cons_zero, List.set_cons_succ])
            refine wpAnyH_take (i := 3) (oi := ⟨some 42, _, _, _, _, _⟩) (v := ?_) rfl (by kernel_rfl) (by kernel_rfl) (by kernel_rfl) (fun _ _ _ h => h) (Or.inl ⟨by rfl, ?_⟩) (by assumption) ?_
            rotate_left
            · (intro wS hSw; (try dsimp only at hSw); (go_simp) <;> (with_reducible rfl))
            (try simp only [Act.put, List.setIfInBounds_toArray, List.set_cons_zero, List.set_cons_succ])
            refine wpAnyH_take (i := 7) (oi := ⟨some 46, _, _, _, _, _⟩) (v := ?_) rfl (by kernel_rfl) (by kernel_rfl) (by kernel_rfl) (fun _ _ _ h => h) (Or.inl ⟨by rfl, ?_⟩) (by assumption) ?_
            rotate_left
            · (intro wS hSw; (try dsimp only at hSw); (go_simp) <;> (with_reducible rfl))
            (try simp only [Act.put, List.setIfInBounds_toArray, List.set_cons_zero, List.set_cons_succ])
            refine wpAnyH_take (i := 8) (oi := ⟨some 2, _, _, _, _, _⟩) (v := ?_) rfl (by kernel_rfl) (by kernel_rfl) (by kernel_rfl) (fun _ _ _ h => h) (Or.inl ⟨by rfl, ?_⟩) (by assumption) ?_
            rotate_left
            · (intro wS hSw; (try dsimp only at hSw); (go_simp) <;> (with_reducible rfl))
            (try simp only [Act.put, List.setIfInBounds_toArray, List.set_cons_zero, List.set_cons_succ])
            refine wpAnyH_take (i := 9) (oi := ⟨some 3, _, _, _, _, _⟩) (v := ?_) rfl (by kernel_rfl) (by kernel_rfl) (by kernel_rfl) (fun _ _ _ h => h) (Or.inl ⟨by rfl, ?_⟩) (by assumption) ?_
            rotate_left
            · (intro wS hSw; (try dsimp only at hSw); (go_simp) <;> (with_reducible rfl))
            (try simp only [Act.put, List.setIfInBounds_toArray, List.set_cons_zero, List.set_cons_succ])
            refine wpAnyH_done (by kernel_rfl) ?_ _
            refine NoPanic.normal ?_
            go_wp2
            go_ret2
            exact ⟨by rw [HE.out, HS.out, ← HZ.out]; rfl, hH.2.2.2.2⟩
          refine AllReadyH.cons (o := ⟨some 44, _, _, _, _, _⟩) rfl (fun K hK => ?_) AllReadyH.nil
          go_simp
          first | (refine (HH2.out _).mono ?_; rintro e w3 ⟨rfl, hcv, hB⟩) | (refine (HH.out _).mono ?_; rintro e w3 ⟨rfl, hB⟩) | (refine (HU.out _).mono ?_; rintro e w3 ⟨rfl, rfl⟩)
          go_wp2_with fail
          refine hK.out _ _ ?_ (fun hH => ?_)
          · first | exact (PackK.below hH.2.2 hB).held | exact (PackK.alloc hH.2.2 _).held | exact hH
          clear hK K
          (try simp only [Act.put, List.setIfInBounds_toArray, List.set_cons_zero, List.set_cons_succ])
          refine wpAnyH_ready (rs := [0, 6]) (by kernel_rfl) (by simp) ?_
          refine AllReadyH.cons (o := ⟨some 39, _, _, _, _, _⟩) rfl (fun K hK => ?_) ?_
          · go_simp
            refine hK.out _ _ ?_ (fun hH => ?_)
            · first | exact (PackK.below hH.2.2 hB).held | exact (PackK.alloc hH.2.2 _).held | exact hH
            clear hK K
            (try simp only [Act.put, List.setIfInBounds_toArray, List.set_cons_zero, List.set_cons_succ])
            refine wpAnyH_ready (rs := [1, 6]) (by kernel_rfl) (by simp) ?_
            refine AllReadyH.cons (o := ⟨some 40, _, _, _, _, _⟩) rfl (fun K hK => ?_) ?_
            · go_simp
              refine hK.out _ _ ?_ (fun hH => ?_)
              · first | exact (PackK.below hH.2.2 hB).held | exact (PackK.alloc hH.2.2 _).held | exact hH
              clear hK K
              (try simp only [Act.put, List.setIfInBounds_toArray, List.set_cons_zero, List.set_cons_succ])
              refine wpAnyH_take (i := 3) (oi := ⟨some 42, _, _, _, _, _⟩) (v := ?_) rfl (by kernel_rfl) (by kernel_rfl) (by kernel_rfl) (fun _ _ _ h => h) (Or.inl ⟨by rfl, ?_⟩) (by assumption) ?_
              rotate_left
              · (intro wS hSw; (try dsimp only at hSw); (go_simp) <;> (with_reducible rfl))
              (try simp only [Act.put, List.setIfInBounds_toArray, List.set_cons_zero, List.set_cons_succ])
              refine wpAnyH_ready (rs := [6]) (by kernel_rfl) (by simp) ?_
              refine AllReadyH.cons (o := ⟨some 45, _, _, _, _, _⟩) rfl (fun K hK => ?_) AllReadyH.nil
              go_simp
              first | (refine (HH2.out _).mono ?_; rintro e w3 ⟨rfl, hcv, hB⟩) | (refine (HH.out _).mono ?_; rintro e w3 ⟨rfl, hB⟩) | (refine (HU.out _).mono ?_; rintro e w3 ⟨rfl, rfl⟩)
              go_wp2_with fail
              refine hK.out _ _ ?_ (fun hH => ?_)
              · first | exact (PackK.below hH.2.2 hB).held | exact (PackK.alloc hH.2.2 _).held | exact hH
              clear hK K
              (try simp only [Act.put, List.setIfInBounds_toArray, List.set_cons_zero, List.set_cons_succ])
              refine wpAnyH_take (i := 7) (oi := ⟨some 46, _, _, _, _, _⟩) (v := ?_) rfl (by kernel_rfl) (by kernel_rfl) (by kernel_rfl) (fun _ _ _ h => h) (Or.inl ⟨by rfl, ?_⟩) (by assumption) ?_
              rotate_left
              · (intro wS hSw; (try dsimp only at hSw); (go_simp) <;> (with_reducible rfl))
              (try simp only [Act.put, List.setIfInBounds_toArray, List.set_cons_zero, List.set_cons_succ])
              refine wpAnyH_take (i := 8) (oi := ⟨some 2, _, _, _, _, _⟩) (v := ?_) rfl (by kernel_rfl) (by kernel_rfl) (by kernel_rfl) (fun _ _ _ h => h) (Or.inl ⟨by rfl, ?_⟩) (by assumption) ?_
              rotate_left
              · (intro wS hSw; (try dsimp only at hSw); (go_simp) <;> (with_reducible rfl))
              (try simp only [Act.put, List.setIfInBounds_toArray, List.set_cons_zero, List.set_cons_succ])
              refine wpAnyH_take (i := 9) (oi := ⟨some 3, _, _, _, _, _⟩) (v := ?_) rfl (by kernel_rfl) (by kernel_rfl) (by kernel_rfl) (fun _ _ _ h => h) (Or.inl ⟨by rfl, ?_⟩) (by assumption) ?_
              rotate_left
              · (intro wS hSw; (try dsimp only at hSw); (go_simp) <;> (with_reducible rfl))
              (try simp only [Act.put, List.setIfInBounds_toArray, List.set_cons_zero, List.set_cons_succ])
              refine wpAnyH_done (by kernel_rfl) ?_ _
              refine NoPanic.normal ?_
              go_wp2
              go_ret2
              exact ⟨by rw [HE.out, HS.out, ← HZ.out]; rfl, hH.2.2.2.2⟩
            refine AllReadyH.cons (o := ⟨some 45, _, _, _, _, _⟩) rfl (fun K hK => ?_) AllReadyH.nil
            go_simp
            first | (refine (HH2.out _).mono ?_; rintro e w3 ⟨rfl, hcv, hB⟩) | (refine (HH.out _).mono ?_; rintro e w3 ⟨rfl, hB⟩) | (refine (HU.out _).mono ?_; rintro e w3 ⟨rfl, rfl⟩)
            go_wp2_with fail
            refine hK.out _ _ ?_ (fun hH => ?_)
            · first | exact (PackK.below hH.2.2 hB).held | exact (PackK.alloc hH.2.2 _).held | exact hH
            clear hK K
            (try simp only [Act.put, List.setIfInBounds_toArray, List.set_cons_zero, List.set_cons_succ])
            refine wpAnyH_ready (rs := [1]) (by kernel_rfl) (by simp) ?_
            refine AllReadyH.cons (o := ⟨some 40, _, _, _, _, _⟩) rfl (fun K hK => ?_) AllReadyH.nil
            go_simp
            refine hK.out _ _ ?_ (fun hH => ?_)
            · first | exact (PackK.below hH.2.2 hB).held | exact (PackK.alloc hH.2.2 _).held | exact hH
            clear hK K
            (try simp only [Act.put, List.setIfInBounds_toArray, List.set_cons_zero, List.set_cons_succ])
            refine wpAnyH_take (i := 3) (oi := ⟨some 42, _, _, _, _, _⟩) (v := ?_) rfl (by kernel_rfl) (by kernel_rfl) (by kernel_rfl) (fun _ _ _ h => h) (Or.inl ⟨by rfl, ?_⟩) (by assumption) ?_
            rotate_left
            · (intro wS hSw; (try dsimp only at hSw); (go_simp) <;> (with_reducible rfl))
            (try simp only [Act.put, List.setIfInBounds_toArray, List.set_cons_zero, List.set_cons_succ])
            refine wpAnyH_take (i := 7) (oi := ⟨some 46, _, _, _, _, _⟩) (v := ?_) rfl (by kernel_rfl) (by kernel_rfl) (by kernel_rfl) (fun _ _ _ h => h) (Or.inl ⟨by rfl, ?_⟩) (by assumption) ?_
            rotate_left
            · (intro wS hSw; (try dsimp only at hSw); (go_simp) <;> (with_reducible rfl))
            (try simp only [Act.put, List.setIfInBounds_toArray, List.set_cons_zero, List.set_cons_succ])
            refine wpAnyH_take (i := 8) (oi := ⟨some 2, _, _, _, _, _⟩) (v := ?_) rfl (by kernel_rfl) (by kernel_rfl) (by kernel_rfl) (fun _ _ _ h => h) (Or.inl ⟨by rfl, ?_⟩) (by assumption) ?_
            rotate_left
            · (intro wS hSw; (try dsimp only at hSw); (go_simp) <;> (with_reducible rfl))
            (try simp only [Act.put, List.setIfInBounds_toArray, List.set_cons_zero, List.set_cons_succ])
            refine wpAnyH_take (i := 9) (oi := ⟨some 3, _, _, _, _, _⟩) (v := ?_) rfl (by kernel_rfl) (by kernel_rfl) (by kernel_rfl) (fun _ _ _ h => h) (Or.inl ⟨by rfl, ?_⟩) (by assumption) ?_
            rotate_left
            · (intro wS hSw; (try dsimp only at hSw); (go_simp) <;> (with_reducible rfl))
            (try simp only [Act.put, List.setIfInBounds_toArray, List.set_cons_zero, List.set_cons_succ])
            refine wpAnyH_done (by kernel_rfl) ?_ _
            refine NoPanic.normal ?_
            go_wp2
            go_ret2
            exact ⟨by rw [HE.out, HS.out, ← HZ.out]; rfl, hH.2.2.2.2⟩
          refine AllReadyH.cons (o := ⟨some 45, _, _, _, _, _⟩) rfl (fun K hK => ?_) AllReadyH.nil
          go_simp
          first | (refine (HH2.out _).mono ?_; rintro e w3 ⟨rfl, hcv, hB⟩) | (refine (HH.out _).mono ?_; rintro e w3 ⟨rfl, hB⟩) | (refine (HU.out _).mono ?_; rintro e w3 ⟨rfl, rfl⟩)
          go_wp2_with fail
          refine hK.out _ _ ?_ (fun hH => ?_)
          · first | exact (PackK.below hH.2.2 hB).held | exact (PackK.alloc hH.2.2 _).held | exact hH
          clear hK K
          (try simp only [Act.put, List.setIfInBounds_toArray, List.set_cons_zero, List.set_cons_succ])
          refine wpAnyH_ready (rs := [0]) (by kernel_rfl) (by simp) ?_
          refine AllReadyH.cons (o := ⟨some 39, _, _, _, _, _⟩) rfl (fun K hK => ?_) AllReadyH.nil
          go_simp
          refine hK.out _ _ ?_ (fun hH => ?_)
          · first | exact (PackK.below hH.2.2 hB).held | exact (PackK.alloc hH.2.2 _).held | exact hH
          clear hK K
          (try simp only [Act.put, List.setIfInBounds_toArray, List.set_cons_zero, List.set_cons_succ])
          refine wpAnyH_ready (rs := [1]) (by kernel_rfl) (by simp) ?_
          refine AllReadyH.cons (o := ⟨some 40, _, _, _, _, _⟩) rfl (fun K hK => ?_) AllReadyH.nil
          go_simp
          refine hK.out _ _ ?_ (fun hH => ?_)
          · first | exact (PackK.below hH.2.2 hB).held | exact (PackK.alloc hH.2.2 _).held | exact hH
          clear hK K
          (try simp only [Act.put, List.setIfInBounds_toArray, List.set_cons_zero, List.set_cons_succ])
          refine wpAnyH_take (i := 3) (oi := ⟨some 42, _, _, _, _, _⟩) (v := ?_) rfl (by kernel_rfl) (by kernel_rfl) (by kernel_rfl) (fun _ _ _ h => h) (Or.inl ⟨by rfl, ?_⟩) (by assumption) ?_
          rotate_left
          · (intro wS hSw; (try dsimp only at hSw); (go_simp) <;> (with_reducible rfl))
          (try simp only [Act.put, List.setIfInBounds_toArray, List.set_cons_zero, List.set_cons_succ])
          refine wpAnyH_take (i := 7) (oi := ⟨some 46, _, _, _, _, _⟩) (v := ?_) rfl (by kernel_rfl) (by kernel_rfl) (by kernel_rfl) (fun _ _ _ h => h) (Or.inl ⟨by rfl, ?_⟩) (by assumption) ?_
          rotate_left
          · (intro wS hSw; (try dsimp only at hSw); (go_simp) <;> (with_reducible rfl))
          (try simp only [Act.put, List.setIfInBounds_toArray, List.set_cons_zero, List.set_cons_succ])
          refine wpAnyH_take (i := 8) (oi := ⟨some 2, _, _, _, _, _⟩) (v := ?_) rfl (by kernel_rfl) (by kernel_rfl) (by kernel_rfl) (fun _ _ _ h => h) (Or.inl ⟨by rfl, ?_⟩) (by assumption) ?_
          rotate_left
          · (intro wS hSw; (try dsimp only at hSw); (go_simp) <;> (with_reducible rfl))
          (try simp only [Act.put, List.setIfInBounds_toArray, List.set_cons_zero, List.set_cons_succ])
          refine wpAnyH_take (i := 9) (oi := ⟨some 3, _, _, _, _, _⟩) (v := ?_) rfl (by kernel_rfl) (by kernel_rfl) (by kernel_rfl) (fun _ _ _ h => h) (Or.inl ⟨by rfl, ?_⟩) (by assumption) ?_
          rotate_left
          · (intro wS hSw; (try dsimp only at hSw); (go_simp) <;> (with_reducible rfl))
          (try simp only [Act.put, List.setIfInBounds_toArray, List.set_cons_zero, List.set_cons_succ])
          refine wpAnyH_done (by kernel_rfl) ?_ _
          refine NoPanic.normal ?_
          go_wp2
          go_ret2
          exact ⟨by rw [HE.out, HS.out, ← HZ.out]; rfl, hH.2.2.2.2⟩
end Go.Proofs.Ytkfddmbhokeofaa
