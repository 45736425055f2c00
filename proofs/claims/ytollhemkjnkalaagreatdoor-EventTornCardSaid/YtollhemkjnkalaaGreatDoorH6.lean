/- Contract of layer 4: the text of a frame. -/
import Derived.Test.YtollhemkjnkalaaGreatDoorH5
import Derived.Deep.DeepCutAuto
namespace Go.Proofs.YtollhemkjnkalaaGreatDoor
open Go.RowKit
set_option linter.unusedVariables false
set_option maxRecDepth 100000

/-- what the function keeps beside its calls: the frame's block, and all that was there -/
def PackK (w : World) (g : Nat) (x y : Value) (t : TypeId) (W : World) : Prop := FrAt W g x y t ∧ g < W.heap.size ∧ Below w.heap.size w W
theorem PackK.below {w W W' : World} {g : Nat} {x y : Value} {t : TypeId} (h : PackK w g x y t W) (hb : Below W.heap.size W W') : PackK w g x y t W' :=
  ⟨h.1.below h.2.1 hb, Nat.lt_of_lt_of_le h.2.1 hb.size, h.2.2.trans (hb.mono h.2.2.size)⟩
theorem PackK.alloc {w W : World} {g : Nat} {x y : Value} {t : TypeId} (h : PackK w g x y t W) (o : Obj) : PackK w g x y t (W.alloc o) := h.below ((Below.refl _ _).alloc (Nat.le_refl _) _)
theorem PackK.drew {w W : World} {g : Nat} {x y : Value} {t : TypeId} (h : PackK w g x y t W) : PackK w g x y t W.drew := h.below ((Below.refl _ _).drew)
theorem PackK.new (w : World) (x y : Value) (t : TypeId) : PackK w w.heap.size x y t (w.alloc (.cells #[x, y] t)) :=
  ⟨heap_alloc_new w _, by rw [size1]; omega, (Below.refl _ _).alloc (Nat.le_refl _) _⟩
theorem PackK.cell0 {w W : World} {g : Nat} {x y : Value} {t : TypeId} (h : PackK w g x y t W) : W.cell? ⟨g, 0, none⟩ = some x := cell_of_row _ _ 0 _ _ (0, 0) h.1
theorem PackK.cell1 {w W : World} {g : Nat} {x y : Value} {t : TypeId} (h : PackK w g x y t W) : W.cell? ⟨g, 1, none⟩ = some y := cell_of_row _ _ 1 _ _ (0, 0) h.1
/-- the same, with the cells that the loads read in front -/
theorem PackK.held {w W : World} {g : Nat} {x y : Value} {t : TypeId} (h : PackK w g x y t W) : W.cell? ⟨g, 0, none⟩ = some x ∧ W.cell? ⟨g, 1, none⟩ = some y ∧ PackK w g x y t W := ⟨h.cell0, h.cell1, h⟩

theorem bytes_row (W : World) (g : Nat) (l : List UInt8) (t : TypeId) (h : W.heap[g]? = some (.cells (l.map fun c => Value.int .u8 (c.toNat : Int)).toArray t (0, 0))) : Lib.Bytes W g 0 (tx l) := fun i hi => by
  rw [tx_size] at hi
  rw [cell_of_row _ _ _ _ _ (0, 0) h, Nat.zero_add]
  simp only [List.getElem?_toArray, List.getElem?_map, List.getElem?_eq_getElem hi]
  rfl
theorem conv_at (W : World) (g : Nat) (l : List UInt8) (h : W.heap[g]? = some (.cells (l.map fun c => Value.int .u8 (c.toNat : Int)).toArray 5 (0, 0))) :
    (convert 50 9 (.slice (some ⟨g, 0, none⟩) l.length l.length)).run Tryz.prog W = .ok (.string (tx l)) W := by
  have := Lib.run_convert_whole W 50 5 9 Tryz.underlying50 Tryz.underlying5 Tryz.underlying9 g 0 (tx l) (bytes_row W g l _ h) l.length
  rw [tx_size] at this
  exact this
/-- a row of bytes that has been laid, and is turned into a text: at once, or behind a draw, or behind a call -/
theorem conv_new (l : List UInt8) (W : World) : (convert 50 9 (.slice (some ⟨W.heap.size, 0, none⟩) l.length l.length)).run Tryz.prog (W.alloc (.cells (l.map fun c => Value.int .u8 (c.toNat : Int)).toArray 5)) = .ok (.string (tx l)) (W.alloc (.cells (l.map fun c => Value.int .u8 (c.toNat : Int)).toArray 5)) :=
  conv_at _ _ l (heap_alloc_new W _)
theorem conv_drew (l : List UInt8) (W : World) : (convert 50 9 (.slice (some ⟨W.heap.size, 0, none⟩) l.length l.length)).run Tryz.prog (W.alloc (.cells (l.map fun c => Value.int .u8 (c.toNat : Int)).toArray 5)).drew = .ok (.string (tx l)) (W.alloc (.cells (l.map fun c => Value.int .u8 (c.toNat : Int)).toArray 5)).drew :=
  conv_at _ _ l (heap_alloc_new W _)
theorem conv_later (l : List UInt8) (W W' : World) (hb : Below (W.alloc (.cells (l.map fun c => Value.int .u8 (c.toNat : Int)).toArray 5)).heap.size (W.alloc (.cells (l.map fun c => Value.int .u8 (c.toNat : Int)).toArray 5)) W') :
    (convert 50 9 (.slice (some ⟨W.heap.size, 0, none⟩) l.length l.length)).run Tryz.prog W' = .ok (.string (tx l)) W' :=
  conv_at _ _ l ((hb.block W.heap.size (by rw [size1]; omega)).trans (heap_alloc_new W _))
/-- a call that makes a text, behind a row of bytes that has been laid -/
theorem after_row {f : Nat} {args : Array Value} {v : Value} (l : List UInt8) (h : ∀ W, Calls Tryz.prog f args W fun e w' => e = .returned v ∧ Below W.heap.size W w') (W : World) :
    Calls Tryz.prog f args (W.alloc (.cells (l.map fun c => Value.int .u8 (c.toNat : Int)).toArray 5)).drew fun e w' =>
      e = .returned v ∧ (convert 50 9 (.slice (some ⟨W.heap.size, 0, none⟩) l.length l.length)).run Tryz.prog w' = .ok (.string (tx l)) w' ∧ Below (W.alloc (.cells (l.map fun c => Value.int .u8 (c.toNat : Int)).toArray 5)).drew.heap.size (W.alloc (.cells (l.map fun c => Value.int .u8 (c.toNat : Int)).toArray 5)).drew w' :=
  (h _).mono fun e w' ⟨h1, h2⟩ => ⟨h1, conv_later l W.drew w' h2, h2⟩

theorem text_two (s t : ByteArray) (hs : s.size ≤ maxLen) (ht : t.size ≤ maxLen) (W : World) (b : Nat) (h : Sl W (some ⟨b, 0, none⟩) (#[.string s, .string t] : Array Value).toList) :
    Calls Tryz.prog 42 #[.slice (some ⟨b, 0, none⟩) 2 2] W fun e w' => e = .returned (.string (textN (sumN (toL s ++ toL t)))) ∧ Below W.heap.size W w' := by
  have h := text_any (some ⟨b, 0, none⟩) 2 [s, t] W h ⟨(by simp [maxLen]), fun u hu => by
    rcases List.mem_cons.1 hu with h | h
    · rw [h]; exact hs
    · rw [List.mem_singleton.1 h]; exact ht⟩
  rw [flat_two] at h
  exact h

theorem pack_ahead (k : UInt8) (n : Nat) : tx [254, k] ++ tx (hexL n 4) = tx (254 :: k :: hexL n 4) := by rw [tx_append]; rfl
theorem pack_mid (k : UInt8) (n : Nat) : toL ((tx (254 :: k :: hexL n 4)).extract 1 (tx (254 :: k :: hexL n 4)).size) = k :: hexL n 4 := by
  rw [toL_extract, take_size, toL_tx]; rfl
theorem pack_all (k : UInt8) (b : ByteArray) : (tx (254 :: k :: hexL b.size 4) ++ b) ++ textN (sumN ((k :: hexL b.size 4) ++ toL b)) = tx (packT k (toL b)) := by
  have e1 : textN (sumN ((k :: hexL b.size 4) ++ toL b)) = tx (sumT (midT k (toL b))) := by
    unfold midT
    rw [toL_length]; rfl
  have e2 : tx (254 :: k :: hexL b.size 4) ++ b = tx ((254 :: k :: hexL b.size 4) ++ toL b) := by rw [← tx_append, tx_toL]
  rw [e1, e2, tx_append]
  unfold packT midT
  rw [toL_length]
  simp
theorem readC_len (p : UInt8 → Bool) (b : ByteArray) : readC b.size p (toL b) = if (toL b).all p = true then 0 else 44 := by
  unfold readC
  rw [take_size, toL_length, if_neg (Nat.lt_irrefl _)]

set_option maxHeartbeats 2000000 in
theorem pack_any (k : UInt8) (b : ByteArray) (hb : b.size ≤ maxLen) (w : World) :
    Calls Tryz.prog 19 #[.agg #[.int .u8 (k.toNat : Int), .string b]] w fun e w' => e = .returned (.tuple #[.string (tx (packS k (toL b))), .int .i64 (packE k (toL b) : Int)]) ∧ Below w.heap.size w w' := by
  have HK := Lib.hid (PackK.new w (.int .u8 (k.toNat : Int)) (.string b) 42)
  have HI := Lib.hid (fun W => isKind_any k W)
  have HEE : Hid (packE k (toL b) = if isKindB k = false then 40 else if 2000 < b.size then 41 else if (toL b).all inBodyB = false then 42 else 0) := by
    unfold Hid packE
    rw [toL_length]
  have HSS : Hid (packS k (toL b) = if packE k (toL b) = 0 then packT k (toL b) else []) := rfl
  unfold maxLen at hb
  have hkb : 0 ≤ (k.toNat : Int) ∧ (k.toNat : Int) ≤ 255 := ⟨by omega, by have := k.toNat_lt; omega⟩
  cases hk : isKindB k
  · have HE : Hid (packE k (toL b) = 40) := by unfold Hid; rw [HEE.out, if_pos hk]
    have HS : Hid (packS k (toL b) = []) := by unfold Hid; rw [HSS.out, HE.out]; rfl
    rw [hk] at HI
    clear hk
    go_enter Tryz.func19, Tryz.ntmps19
    go_wp2_with fail
    refine (HI.out _).mono ?_
    rintro e w1 ⟨rfl, rfl⟩
    go_wp2
    go_ret2
    exact ⟨by rw [HE.out, HS.out]; rfl, HK.out.2.2⟩
  · rw [hk] at HI
    by_cases hl : 2000 < b.size
    · have HE : Hid (packE k (toL b) = 41) := by unfold Hid; rw [HEE.out, if_neg (by simp [hk]), if_pos hl]
      have HS : Hid (packS k (toL b) = []) := by unfold Hid; rw [HSS.out, HE.out]; rfl
      clear hk
      go_enter Tryz.func19, Tryz.ntmps19
      go_wp2_with fail
      refine (HI.out _).mono ?_
      rintro e w1 ⟨rfl, rfl⟩
      go_wp2
      go_ret2
      exact ⟨by rw [HE.out, HS.out]; rfl, HK.out.2.2⟩
    · have HR := Lib.hid (fun W => read_any b.size 39 inBodyB inBody_any inBody_enters b (by omega) (by omega) W)
      rw [readC_len] at HR
      unfold partV at HR
      cases hbb : (toL b).all inBodyB
      · have HE : Hid (packE k (toL b) = 42) := by unfold Hid; rw [HEE.out, if_neg (by simp [hk]), if_neg hl, if_pos hbb]
        have HS : Hid (packS k (toL b) = []) := by unfold Hid; rw [HSS.out, HE.out]; rfl
        rw [hbb, if_neg (by simp)] at HR
        clear hk hbb
        go_enter Tryz.func19, Tryz.ntmps19
        go_wp2_with fail
        refine (HI.out _).mono ?_
        rintro e w1 ⟨rfl, rfl⟩
        go_wp2_with fail
        refine (HR.out _).mono ?_
        rintro e w2 ⟨rfl, hB2⟩
        go_wp2
        go_ret2
        exact ⟨by rw [HE.out, HS.out]; rfl, (HK.out.below hB2).2.2⟩
      · have HE : Hid (packE k (toL b) = 0) := by unfold Hid; rw [HEE.out, if_neg (by simp [hk]), if_neg hl, if_neg (by simp [hbb])]
        have HS : Hid (packS k (toL b) = packT k (toL b)) := by unfold Hid; rw [HSS.out, HE.out]; rfl
        rw [hbb, if_pos rfl] at HR
        have HH : Hid (∀ W, Calls Tryz.prog 41 #[.int .i64 (b.size : Int), .int .i64 4] W fun e w' => e = .returned (.string (tx (hexL b.size 4))) ∧ Below W.heap.size W w') := fun W => by
          have h := hex_any (b.size : Int) 4 (by omega) (by omega) W
          rwa [show hexOf (b.size : Int) 4 = hexL b.size 4 from hexOf_nat b.size 4 (by decide) (by decide) (by omega)] at h
        have HH2 : Hid (∀ W : World, Calls Tryz.prog 41 #[.int .i64 (b.size : Int), .int .i64 4] (W.alloc (.cells #[.int .u8 254, .int .u8 (k.toNat : Int)] 5)).drew fun e w' => e = .returned (.string (tx (hexL b.size 4))) ∧ (convert 50 9 (.slice (some ⟨W.heap.size, 0, none⟩) 2 2)).run Tryz.prog w' = .ok (.string (tx [254, k])) w' ∧ Below (W.alloc (.cells #[.int .u8 254, .int .u8 (k.toNat : Int)] 5)).drew.heap.size (W.alloc (.cells #[.int .u8 254, .int .u8 (k.toNat : Int)] 5)).drew w') := after_row [254, k] HH.out
        have hv1 : ∀ W : World, (convert 50 9 (.slice (some ⟨W.heap.size, 0, none⟩) 2 2)).run Tryz.prog (W.alloc (.cells #[.int .u8 254, .int .u8 (k.toNat : Int)] 5)) = .ok (.string (tx [254, k])) (W.alloc (.cells #[.int .u8 254, .int .u8 (k.toNat : Int)] 5)) := conv_new [254, k]
        have hv2 : ∀ W : World, (convert 50 9 (.slice (some ⟨W.heap.size, 0, none⟩) 2 2)).run Tryz.prog (W.alloc (.cells #[.int .u8 254, .int .u8 (k.toNat : Int)] 5)).drew = .ok (.string (tx [254, k])) (W.alloc (.cells #[.int .u8 254, .int .u8 (k.toNat : Int)] 5)).drew := conv_drew [254, k]
        have HA := Lib.hid (pack_ahead k b.size)
        have hz1 : (tx [254, k]).size = 2 := rfl
        have hz2 : (tx (hexL b.size 4)).size = 4 := by rw [tx_size, hexL_length]
        have hz3 : (tx (254 :: k :: hexL b.size 4)).size = 6 := by rw [tx_size, List.length_cons, List.length_cons, hexL_length]
        have HM := Lib.hid (pack_mid k b.size)
        have HZ := Lib.hid (pack_all k b)
        have HT := Lib.hid (text_two ((tx (254 :: k :: hexL b.size 4)).extract 1 (tx (254 :: k :: hexL b.size 4)).size) b (by rw [ByteArray.size_extract, hz3]; unfold maxLen; omega) (by unfold maxLen; omega))
        rw [HM.out] at HT
        have hz4 : (textN (sumN ((k :: hexL b.size 4) ++ toL b))).size = 8 := by
          show (tx (sumT _)).size = 8
          rw [tx_size, sumT_len]
        generalize textN (sumN ((k :: hexL b.size 4) ++ toL b)) = X at *
        rw [hz3] at HT
        have hc1 : ¬ (9223372036854775807 < 6 + b.size) := by omega
        have hc2 : ¬ (9223372036854775807 < 6 + b.size + 8) := by omega
        clear hk hbb HM HEE HSS
        generalize tx [254, k] = T at *
        generalize tx (hexL b.size 4) = H at *
        generalize tx (254 :: k :: hexL b.size 4) = A at *
        go_enter Tryz.func19, Tryz.ntmps19
        go_wp2_with fail
        refine (HI.out _).mono ?_
        rintro e w1 ⟨rfl, rfl⟩
        go_wp2_with fail
        refine (HR.out _).mono ?_
        rintro e w2 ⟨rfl, hB2⟩
        have HK2 := Lib.hid (HK.out.below hB2)
        clear HK hB2 HI HR
        go_upto_region 7 with fail
        go_cut [4] (fun v wx => v = .string A ∧ PackK w w.heap.size (.int .u8 (k.toNat : Int)) (.string b) 42 wx)
        case first =>
          clear HT HZ HE HS hc1 hc2 hz4 hz3
          refine wp_region_noPanic ?_
          refine wp_region_held_drew (S := (fun w' => w'.cell? ⟨w.heap.size, 0, none⟩ = some (.int .u8 (k.toNat : Int)) ∧ w'.cell? ⟨w.heap.size, 1, none⟩ = some (.string b) ∧ PackK w w.heap.size (.int .u8 (k.toNat : Int)) (.string b) 42 w')) (by kernel_rfl) ?_ (fun hH => ?_)
          · exact (PackK.drew HK2.out).held
          refine wpAnyH_take (i := 0) (oi := ⟨some 24, _, _, _, _, _⟩) (v := ?_) rfl (by kernel_rfl) (by kernel_rfl) (by kernel_rfl) (fun _ _ _ h => h) (Or.inl ⟨by rfl, ?_⟩) (by assumption) ?_
          rotate_left
          · (intro wS hSw; (try dsimp only at hSw); (go_simp) <;> (with_reducible rfl))
          (try simp only [Act.put, List.setIfInBounds_toArray, List.set_cons_zero, List.set_cons_succ])
          refine wpAnyH_take (i := 1) (oi := ⟨some 25, _, _, _, _, _⟩) (v := ?_) rfl (by kernel_rfl) (by kernel_rfl) (by kernel_rfl) (fun _ _ _ h => h) (Or.inl ⟨by rfl, ?_⟩) (by assumption) ?_
          rotate_left
          · (intro wS hSw; (try dsimp only at hSw); (go_simp) <;> (with_reducible rfl))
          (try simp only [Act.put, List.setIfInBounds_toArray, List.set_cons_zero, List.set_cons_succ])
          refine wpAnyH_take (i := 4) (oi := ⟨some 28, _, _, _, _, _⟩) (v := ?_) rfl (by kernel_rfl) (by kernel_rfl) (by kernel_rfl) (fun _ _ _ h => h) (Or.inl ⟨by rfl, ?_⟩) (by assumption) ?_
          rotate_left
          · (intro wS hSw; (try dsimp only at hSw); (go_simp) <;> (with_reducible rfl))
          (try simp only [Act.put, List.setIfInBounds_toArray, List.set_cons_zero, List.set_cons_succ])
          refine wpAnyH_take (i := 5) (oi := ⟨some 29, _, _, _, _, _⟩) (v := ?_) rfl (by kernel_rfl) (by kernel_rfl) (by kernel_rfl) (fun _ _ _ h => h) (Or.inl ⟨by rfl, ?_⟩) (by assumption) ?_
          rotate_left
          · (intro wS hSw; (try dsimp only at hSw); (go_simp) <;> (with_reducible rfl))
          (try simp only [Act.put, List.setIfInBounds_toArray, List.set_cons_zero, List.set_cons_succ])
          refine wpAnyH_take (i := 6) (oi := ⟨some 30, _, _, _, _, _⟩) (v := ?_) rfl (by kernel_rfl) (by kernel_rfl) (by kernel_rfl) (fun _ _ _ h => h) (Or.inl ⟨by rfl, ?_⟩) (by assumption) ?_
          rotate_left
          · (intro wS hSw; (try dsimp only at hSw); (go_simp) <;> (with_reducible rfl))
          (try simp only [Act.put, List.setIfInBounds_toArray, List.set_cons_zero, List.set_cons_succ])
          refine wpAnyH_ready (rs := [2, 7]) (by kernel_rfl) (by simp) ?_
          refine AllReadyH.cons (o := ⟨some 26, _, _, _, _, _⟩) rfl (fun K hK => ?_) ?_
          · go_simp
            refine hK.out _ _ ?_ (fun hH => ?_)
            · first | exact (PackK.below hH.2.2 hB).held | exact (PackK.alloc hH.2.2 _).held | exact hH
            clear hK K
            (try simp only [Act.put, List.setIfInBounds_toArray, List.set_cons_zero, List.set_cons_succ])
            refine wpAnyH_ready (rs := [3, 7]) (by kernel_rfl) (by simp) ?_
            refine AllReadyH.cons (o := ⟨some 27, _, _, _, _, _⟩) rfl (fun K hK => ?_) ?_
            · go_simp
              refine hK.out _ _ ?_ (fun hH => ?_)
              · first | exact (PackK.below hH.2.2 hB).held | exact (PackK.alloc hH.2.2 _).held | exact hH
              clear hK K
              (try simp only [Act.put, List.setIfInBounds_toArray, List.set_cons_zero, List.set_cons_succ])
              refine wpAnyH_ready (rs := [7]) (by kernel_rfl) (by simp) ?_
              refine AllReadyH.cons (o := ⟨some 31, _, _, _, _, _⟩) rfl (fun K hK => ?_) AllReadyH.nil
              go_simp
              first | (refine (HH2.out _).mono ?_; rintro e w3 ⟨rfl, hcv, hB⟩) | (refine (HH.out _).mono ?_; rintro e w3 ⟨rfl, hB⟩)
              go_wp2_with fail
              refine hK.out _ _ ?_ (fun hH => ?_)
              · first | exact (PackK.below hH.2.2 hB).held | exact (PackK.alloc hH.2.2 _).held | exact hH
              clear hK K
              (try simp only [Act.put, List.setIfInBounds_toArray, List.set_cons_zero, List.set_cons_succ])
              refine wpAnyH_take (i := 8) (oi := ⟨some 32, _, _, _, _, _⟩) (v := ?_) rfl (by kernel_rfl) (by kernel_rfl) (by kernel_rfl) (fun _ _ _ h => h) (Or.inl ⟨by rfl, ?_⟩) (by assumption) ?_
              rotate_left
              · (intro wS hSw; (try dsimp only at hSw); (go_simp) <;> (with_reducible rfl))
              (try simp only [Act.put, List.setIfInBounds_toArray, List.set_cons_zero, List.set_cons_succ])
              refine wpAnyH_take (i := 9) (oi := ⟨some 4, _, _, _, _, _⟩) (v := ?_) rfl (by kernel_rfl) (by kernel_rfl) (by kernel_rfl) (fun _ _ _ h => h) (Or.inl ⟨by rfl, ?_⟩) (by assumption) ?_
              rotate_left
              · (intro wS hSw; (try dsimp only at hSw); (go_simp) <;> (with_reducible rfl))
              (try simp only [Act.put, List.setIfInBounds_toArray, List.set_cons_zero, List.set_cons_succ])
              refine wpAnyH_done (by kernel_rfl) ?_ _
              refine NoPanic.normal ?_
              go_wp2_with fail
              go_meet
              exact ⟨by rw [HA.out], hH.2.2⟩
            refine AllReadyH.cons (o := ⟨some 31, _, _, _, _, _⟩) rfl (fun K hK => ?_) AllReadyH.nil
            go_simp
            first | (refine (HH2.out _).mono ?_; rintro e w3 ⟨rfl, hcv, hB⟩) | (refine (HH.out _).mono ?_; rintro e w3 ⟨rfl, hB⟩)
            go_wp2_with fail
            refine hK.out _ _ ?_ (fun hH => ?_)
            · first | exact (PackK.below hH.2.2 hB).held | exact (PackK.alloc hH.2.2 _).held | exact hH
            clear hK K
            (try simp only [Act.put, List.setIfInBounds_toArray, List.set_cons_zero, List.set_cons_succ])
            refine wpAnyH_ready (rs := [3]) (by kernel_rfl) (by simp) ?_
            refine AllReadyH.cons (o := ⟨some 27, _, _, _, _, _⟩) rfl (fun K hK => ?_) AllReadyH.nil
            go_simp
            refine hK.out _ _ ?_ (fun hH => ?_)
            · first | exact (PackK.below hH.2.2 hB).held | exact (PackK.alloc hH.2.2 _).held | exact hH
            clear hK K
            (try simp only [Act.put, List.setIfInBounds_toArray, List.set_cons_zero, List.set_cons_succ])
            refine wpAnyH_take (i := 8) (oi := ⟨some 32, _, _, _, _, _⟩) (v := ?_) rfl (by kernel_rfl) (by kernel_rfl) (by kernel_rfl) (fun _ _ _ h => h) (Or.inl ⟨by rfl, ?_⟩) (by assumption) ?_
            rotate_left
            · (intro wS hSw; (try dsimp only at hSw); (go_simp) <;> (with_reducible rfl))
            (try simp only [Act.put, List.setIfInBounds_toArray, List.set_cons_zero, List.set_cons_succ])
            refine wpAnyH_take (i := 9) (oi := ⟨some 4, _, _, _, _, _⟩) (v := ?_) rfl (by kernel_rfl) (by kernel_rfl) (by kernel_rfl) (fun _ _ _ h => h) (Or.inl ⟨by rfl, ?_⟩) (by assumption) ?_
            rotate_left
            · (intro wS hSw; (try dsimp only at hSw); (go_simp) <;> (with_reducible rfl))
            (try simp only [Act.put, List.setIfInBounds_toArray, List.set_cons_zero, List.set_cons_succ])
            refine wpAnyH_done (by kernel_rfl) ?_ _
            refine NoPanic.normal ?_
            go_wp2_with fail
            go_meet
            exact ⟨by rw [HA.out], hH.2.2⟩
          refine AllReadyH.cons (o := ⟨some 31, _, _, _, _, _⟩) rfl (fun K hK => ?_) AllReadyH.nil
          go_simp
          first | (refine (HH2.out _).mono ?_; rintro e w3 ⟨rfl, hcv, hB⟩) | (refine (HH.out _).mono ?_; rintro e w3 ⟨rfl, hB⟩)
          go_wp2_with fail
          refine hK.out _ _ ?_ (fun hH => ?_)
          · first | exact (PackK.below hH.2.2 hB).held | exact (PackK.alloc hH.2.2 _).held | exact hH
          clear hK K
          (try simp only [Act.put, List.setIfInBounds_toArray, List.set_cons_zero, List.set_cons_succ])
          refine wpAnyH_ready (rs := [2]) (by kernel_rfl) (by simp) ?_
          refine AllReadyH.cons (o := ⟨some 26, _, _, _, _, _⟩) rfl (fun K hK => ?_) AllReadyH.nil
          go_simp
          refine hK.out _ _ ?_ (fun hH => ?_)
          · first | exact (PackK.below hH.2.2 hB).held | exact (PackK.alloc hH.2.2 _).held | exact hH
          clear hK K
          (try simp only [Act.put, List.setIfInBounds_toArray, List.set_cons_zero, List.set_cons_succ])
          refine wpAnyH_ready (rs := [3]) (by kernel_rfl) (by simp) ?_
          refine AllReadyH.cons (o := ⟨some 27, _, _, _, _, _⟩) rfl (fun K hK => ?_) AllReadyH.nil
          go_simp
          refine hK.out _ _ ?_ (fun hH => ?_)
          · first | exact (PackK.below hH.2.2 hB).held | exact (PackK.alloc hH.2.2 _).held | exact hH
          clear hK K
          (try simp only [Act.put, List.setIfInBounds_toArray, List.set_cons_zero, List.set_cons_succ])
          refine wpAnyH_take (i := 8) (oi := ⟨some 32, _, _, _, _, _⟩) (v := ?_) rfl (by kernel_rfl) (by kernel_rfl) (by kernel_rfl) (fun _ _ _ h => h) (Or.inl ⟨by rfl, ?_⟩) (by assumption) ?_
          rotate_left
          · (intro wS hSw; (try dsimp only at hSw); (go_simp) <;> (with_reducible rfl))
          (try simp only [Act.put, List.setIfInBounds_toArray, List.set_cons_zero, List.set_cons_succ])
          refine wpAnyH_take (i := 9) (oi := ⟨some 4, _, _, _, _, _⟩) (v := ?_) rfl (by kernel_rfl) (by kernel_rfl) (by kernel_rfl) (fun _ _ _ h => h) (Or.inl ⟨by rfl, ?_⟩) (by assumption) ?_
          rotate_left
          · (intro wS hSw; (try dsimp only at hSw); (go_simp) <;> (with_reducible rfl))
          (try simp only [Act.put, List.setIfInBounds_toArray, List.set_cons_zero, List.set_cons_succ])
          refine wpAnyH_done (by kernel_rfl) ?_ _
          refine NoPanic.normal ?_
          go_wp2_with fail
          go_meet
          exact ⟨by rw [HA.out], hH.2.2⟩
        case rest =>
          obtain ⟨rfl, hK3⟩ := hcut
          have HK3 := Lib.hid hK3
          clear hK3 HK2 HH HH2 HA hv1 hv2 hz1 hz2
          go_wp2
          go_region_held3 (fun w' => w'.cell? ⟨w.heap.size, 0, none⟩ = some (.int .u8 (k.toNat : Int)) ∧ w'.cell? ⟨w.heap.size, 1, none⟩ = some (.string b) ∧ PackK w w.heap.size (.int .u8 (k.toNat : Int)) (.string b) 42 w')
            (first | exact (PackK.drew HK3.out).held | exact (PackK.alloc (And.right (And.right (by assumption))) _).held | exact (PackK.below (And.right (And.right (by assumption))) (by assumption)).held | assumption)
            (first | (go_at_call 42; (first | refine (HT.out _ _ (sl_lit _ _ _)).mono ?_ | refine (HT.out _ _ (sl_lit_drew _ _ _)).mono ?_); rintro e w4 ⟨rfl, hB4⟩))
          go_wp2
          go_ret2
          exact ⟨by rw [HE.out, HS.out, ← HZ.out]; rfl, (show PackK w w.heap.size (.int .u8 (k.toNat : Int)) (.string b) 42 w4 from And.right (And.right (by assumption))).2.2⟩
end Go.Proofs.YtollhemkjnkalaaGreatDoor
