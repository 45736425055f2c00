/- Contract of layer 4: the frame with which a text begins. -/
import Derived.Test.YtollhemkjnkalaaGreatDoorH4
import Derived.RegionTactic
namespace Go.Proofs.YtollhemkjnkalaaGreatDoor
open Go.RowKit
set_option linter.unusedVariables false
set_option maxRecDepth 100000

/-- a frame, as a value -/
def frV (k : UInt8) (b : List UInt8) : Value := .agg #[.int .u8 (k.toNat : Int), .string (tx b)]
def NR.val (r : NR) : Value := .tuple #[frV r.kind r.body, .int .i64 (r.long : Int), .int .i64 (r.code : Int)]
theorem results_cell_two {fn : Func} {p u v : Tmp} {ty : TypeId} (h : fn.results = #[.cell p ty, .tmp u, .tmp v]) (tmps : Array Value) (P : Program) (w : World) :
    (results fn tmps).run P w = ((asAddr (tmps.getD p undef)).run P w).andThen fun a w₁ => ((loadVar ty a).run P w₁).andThen fun x w₂ => .ok (.tuple #[x, tmps.getD u undef, tmps.getD v undef]) w₂ := by
  simp only [results, h]
  simp [Sem.run_bind, Result.andThen]
  try (split <;> simp)
  all_goals try (split <;> simp)
/-- a block that holds a frame of zero values, or any other -/
def FrAt (W : World) (g : Nat) (x y : Value) (t : TypeId) : Prop := W.heap[g]? = some (.cells #[x, y] t (0, 0))
theorem FrAt.below {W W' : World} {g : Nat} {x y : Value} {t : TypeId} (h : FrAt W g x y t) (hg : g < W.heap.size) (hb : Below W.heap.size W W') : FrAt W' g x y t := by
  unfold FrAt
  exact (hb.block g hg).trans h

theorem FrAt.there {W : World} {g : Nat} {x y : Value} {t : TypeId} (h : FrAt W g x y t) : W.there g 0 2 := fun j hj => by
  rw [Nat.zero_add]
  refine ⟨?_, frozen_of_row _ _ _ _ _ h⟩
  rw [cell_of_row _ _ _ _ _ (0, 0) h, Array.getElem?_eq_getElem (by simpa using hj)]
  rfl
theorem infoFr : (Tryz.prog.info? 42).map (·.size) = some 2 := by kernel_rfl
theorem FrAt.load {W : World} {g : Nat} {x y : Value} {t : TypeId} (h : FrAt W g x y t) (a b : Value) :
    (loadVar 42 ⟨g, 0, none⟩).run Tryz.prog ((W.setCell ⟨g, 0, none⟩ a).setCell ⟨g, 1, none⟩ b) = .ok (.agg #[a, b]) ((W.setCell ⟨g, 0, none⟩ a).setCell ⟨g, 1, none⟩ b) :=
  run_loadVar_mid (P := Tryz.prog) (W.setCells g 0 [a, b]) g 0 42 [a, b] _ (World.rangeAt_setCells_same _ _ _ _ h.there) Tryz.underlying42 rfl infoFr
/-- what the function keeps beside its calls: the result's block, and all that was there -/
def NextK (w : World) (g : Nat) (W : World) : Prop := FrAt W g (.int .u8 0) (.string ⟨#[]⟩) 42 ∧ g < W.heap.size ∧ Below w.heap.size w W
theorem NextK.below {w W W' : World} {g : Nat} (h : NextK w g W) (hb : Below W.heap.size W W') : NextK w g W' :=
  ⟨h.1.below h.2.1 hb, Nat.lt_of_lt_of_le h.2.1 hb.size, h.2.2.trans (hb.mono h.2.2.size)⟩
theorem NextK.alloc {w W : World} {g : Nat} (h : NextK w g W) (o : Obj) : NextK w g (W.alloc o) := h.below ((Below.refl _ _).alloc (Nat.le_refl _) _)
theorem NextK.drew {w W : World} {g : Nat} (h : NextK w g W) : NextK w g W.drew := h.below ((Below.refl _ _).drew)
theorem NextK.new (w : World) : NextK w w.heap.size (w.alloc (.cells #[.int .u8 0, .string ⟨#[]⟩] 42)) :=
  ⟨heap_alloc_new w _, by rw [size1]; omega, (Below.refl _ _).alloc (Nat.le_refl _) _⟩
theorem NextK.facts {w W : World} {g : Nat} (h : NextK w g W) : W.cell? ⟨g, 0, none⟩ = some (.int .u8 0) ∧ W.cell? ⟨g, 1, none⟩ = some (.string ⟨#[]⟩) ∧ W.frozen? ⟨g, 0, none⟩ = false ∧ W.frozen? ⟨g, 1, none⟩ = false :=
  ⟨cell_of_row _ _ 0 _ _ (0, 0) h.1, cell_of_row _ _ 1 _ _ (0, 0) h.1, frozen_of_row _ _ 0 _ _ h.1, frozen_of_row _ _ 1 _ _ h.1⟩
theorem NextK.set {w W : World} {g : Nat} (h : NextK w g W) (hg : w.heap.size ≤ g) (a b : Value) : Below w.heap.size w ((W.setCell ⟨g, 0, none⟩ a).setCell ⟨g, 1, none⟩ b) :=
  (h.2.2.setCell (p := ⟨g, 0, none⟩) hg a).setCell (p := ⟨g, 1, none⟩) hg b

theorem index_at (s : ByteArray) (i : Int) (k : Nat) (hi : i = k) (h : k < s.size) (W : World) : (Instr.index 9 (.string s) (.int .i64 i)).run Tryz.prog W = .ok (.int .u8 (((toL s).getD k 0).toNat : Int)) W := by
  subst hi
  have e := run_index_string (P := Tryz.prog) W 9 s .i64 (k : Int) Tryz.underlying9
  rw [dif_pos (by omega)] at e
  have e3 : (s[k]'h) = (toL s).getD k 0 := by
    have h' : k < s.data.size := h
    have : (toL s)[k]? = some (s[k]'h) := by
      unfold toL
      rw [Array.getElem?_toList, Array.getElem?_eq_getElem h']
      rfl
    rw [List.getD_eq_getElem?_getD, this]; rfl
  exact e.trans (congrArg (fun c : UInt8 => Result.ok (Value.int .u8 (c.toNat : Int)) W) e3)
theorem text_row (s : ByteArray) (hs : s.size ≤ maxLen) (W : World) (b : Nat) (h : Sl W (some ⟨b, 0, none⟩) (#[.string s] : Array Value).toList) :
    Calls Tryz.prog 42 #[.slice (some ⟨b, 0, none⟩) 1 1] W fun e w' => e = .returned (.string (textN (sumN (toL s)))) ∧ Below W.heap.size W w' := by
  have h := text_any (some ⟨b, 0, none⟩) 1 [s] W h ⟨(by simp [maxLen]), fun t ht => by rw [List.mem_singleton] at ht; rw [ht]; exact hs⟩
  rw [flat_one] at h
  exact h
theorem nextL_head (s : List UInt8) (h : bodyE s ≠ 0) : nextL s = .err (bodyE s) := by
  unfold nextL bodyE at *
  split at h
  · rw [if_pos ‹_›, if_pos ‹_›]
  · split at h
    · rw [if_neg ‹_›, if_pos ‹_›, if_neg ‹_›, if_pos ‹_›]
    · simp at h
theorem nextL_rest (s : List UInt8) (h : bodyE s = 0) (h2 : G (longOf s) 6 (longOf s + 8) (s.drop 6) ≠ 0) : nextL s = .err (G (longOf s) 6 (longOf s + 8) (s.drop 6)) := by
  unfold nextL bodyE at *
  split at h
  · omega
  · split at h
    · omega
    · rw [if_neg ‹_›, if_neg ‹_›, if_pos h2]
theorem nextL_sum (s : List UInt8) (h : bodyE s = 0) (h2 : G (longOf s) 6 (longOf s + 8) (s.drop 6) = 0) (h3 : sumT ((s.take (6 + longOf s)).drop 1) ≠ (s.take (6 + longOf s + 8)).drop (6 + longOf s)) : nextL s = .err 45 := by
  unfold nextL bodyE at *
  split at h
  · omega
  · split at h
    · omega
    · rw [if_neg ‹_›, if_neg ‹_›, if_neg (by omega), if_pos h3]
theorem nextL_ok (s : List UInt8) (h : bodyE s = 0) (h2 : G (longOf s) 6 (longOf s + 8) (s.drop 6) = 0) (h3 : sumT ((s.take (6 + longOf s)).drop 1) = (s.take (6 + longOf s + 8)).drop (6 + longOf s)) :
    nextL s = .ok (s.getD 1 0) ((s.take (6 + longOf s)).drop 6) := by
  unfold nextL bodyE at *
  split at h
  · omega
  · split at h
    · omega
    · rw [if_neg ‹_›, if_neg ‹_›, if_neg (by omega), if_neg (by simpa using h3)]
theorem bodyE_zero {s : List UInt8} (h : bodyE s = 0) : bodyN s = longOf s ∧ longOf s ≤ 2000 ∧ 6 ≤ s.length := by
  refine ⟨by unfold bodyN; rw [if_pos h], ?_⟩
  unfold bodyE at h
  have hG := G_cases 0 0 6 s
  split at h
  · omega
  · split at h
    · omega
    · omega

set_option maxHeartbeats 2000000 in
theorem next_any (s : ByteArray) (hs : s.size ≤ 1000000000000000000) (w : World) :
    Calls Tryz.prog 26 #[.string s] w fun e w' => e = .returned (nextL (toL s)).val ∧ Below w.heap.size w w' := by
  have HL := Lib.hid (fun W => bodyLong_any s hs W)
  by_cases hz : bodyE (toL s) = 0
  · obtain ⟨hN, hlong, h6⟩ := bodyE_zero hz
    rw [hN, hz] at HL
    rw [toL_length] at h6
    have hns : longOf (toL s) ≤ 10000 := by omega
    have HP := Lib.hid (fun W => readParts_any [pBody (longOf (toL s)) hns, pDigs 8 (by decide)] W.heap.size 2 (s.extract 6 s.size) (by rw [ByteArray.size_extract]; omega)
      (W.alloc (.cells #[.int .i64 (longOf (toL s) : Int), .func (.func 39) #[] #[], .int .i64 8, .func (.func 51) #[] #[]] 89)) (by simp) (parts2_at W _ _ _ _ _ (pBody (longOf (toL s)) hns) (pDigs 8 (by decide)) rfl rfl rfl rfl))
    have HX : Hid (readPs ([pBody (longOf (toL s)) hns, pDigs 8 (by decide)].map Part.pair) (toL (s.extract 6 s.size)) = G (longOf (toL s)) 6 (longOf (toL s) + 8) ((toL s).drop 6)) := by
      unfold Hid
      rw [toL_extract, take_size]
      exact read_rest (longOf (toL s)) ((toL s).drop 6)
    rw [HX.out] at HP
    clear HX
    have HR := Lib.hid (nextL_rest (toL s) hz)
    have HS := Lib.hid (nextL_sum (toL s) hz)
    have HO := Lib.hid (nextL_ok (toL s) hz)
    have hG := G_cases (longOf (toL s)) 6 (longOf (toL s) + 8) ((toL s).drop 6)
    rw [List.length_drop, toL_length] at hG
    generalize G (longOf (toL s)) 6 (longOf (toL s) + 8) ((toL s).drop 6) = z at *
    have HXT := Lib.hid (text_row (s.extract 1 (6 + longOf (toL s))) (by rw [ByteArray.size_extract]; unfold maxLen; omega))
    rw [toL_extract] at HXT
    clear hN hz
    generalize hlg : longOf (toL s) = n at *
    clear hlg
    go_enter Tryz.func26, Tryz.ntmps26
    go_wp2_with fail
    refine (HL.out _).mono ?_
    rintro e w1 ⟨rfl, hB1⟩
    have HK := Lib.hid ((NextK.new w).below hB1)
    clear hB1
    have h6i : (6 : Int) ≤ (s.size : Int) := by omega
    go_wp2_with fail
    refine (HP.out _).mono ?_
    rintro e w2 ⟨rfl, hB2⟩
    have HK2 := Lib.hid (HK.out.below (((Below.refl _ _).alloc (Nat.le_refl _) _).trans (hB2.mono (by rw [size1]; omega))))
    clear HK hB2 HP HL
    by_cases hz0 : z = 0
    · subst hz0
      have hlen : n + 14 ≤ s.size := by omega
      clear hG
      have hS1 := slice_int s 1 (6 + n) 1 (6 + n) (by omega) (by omega) (by omega) (by omega)
      have hS2 := slice_int s (6 + n) (6 + n + 8) (6 + n) (6 + n + 8) (by omega) (by omega) (by omega) (by omega)
      have hS3 := slice_int s 6 (6 + n) 6 (6 + n) (by omega) (by omega) (by omega) (by omega)
      have HT2 := Lib.hid (toL_extract s (6 + n) (6 + n + 8))
      have HT3 := Lib.hid (toL_extract s 6 (6 + n))
      have HTX : Hid (textN (sumN (((toL s).take (6 + n)).drop 1)) = tx (sumT (((toL s).take (6 + n)).drop 1))) := rfl
      have hi1 := index_at s 1 1 rfl (by omega)
      have HL3 : Hid ((s.extract 6 (6 + n)).size = n) := by unfold Hid; rw [ByteArray.size_extract]; omega
      generalize s.extract 1 (6 + n) = T1 at *
      generalize s.extract (6 + n) (6 + n + 8) = T2 at *
      generalize s.extract 6 (6 + n) = T3 at *
      rw [← HT2.out, ← HT3.out] at HO
      rw [← HT2.out] at HS
      generalize textN (sumN (((toL s).take (6 + n)).drop 1)) = X at *
      generalize sumT (((toL s).take (6 + n)).drop 1) = Y at *
      clear HT2 HT3
      by_cases h3 : Y = toL T2
      · have HV : Hid ((nextL (toL s)).val = .tuple #[.agg #[.int .u8 (((toL s)[1]?.getD 0).toNat : Int), .string T3], .int .i64 (6 + n + 8), .int .i64 0]) := by
          unfold Hid
          rw [HO.out rfl h3]
          simp only [NR.val, NR.kind, NR.body, NR.long, NR.code, frV, tx_toL, toL_length, HL3.out, List.getD_eq_getElem?_getD]
          have : ((14 + n : Nat) : Int) = 6 + n + 8 := by omega
          rw [this]; rfl
        have heq : (X.toList == T2.toList) = true := by rw [HTX.out, h3, tx_toL]; exact beq_self_eq_true _
        clear h3 HR HS HO HTX
        go_wp2_with fail
        go_region_held3 (fun w' => NextK w w.heap.size w')
          (first | exact NextK.drew HK2.out | exact NextK.alloc (by assumption) _ | exact NextK.below (by assumption) (by assumption))
          (first | (go_at_call 42; (first | refine (HXT.out _ _ (sl_lit _ _ _)).mono ?_ | refine (HXT.out _ _ (sl_lit_drew _ _ _)).mono ?_); rintro e w3 ⟨rfl, hB3⟩))
        obtain ⟨hc0, hc1, hf0, hf1⟩ := (show NextK w w.heap.size w3 by assumption).facts
        have HK3 := Lib.hid (show NextK w w.heap.size w3 by assumption)
        clear hB3
        go_wp2
        go_region
        go_wp2
        have hld := HK3.out.drew.1.load (.int .u8 (((toL s)[1]?.getD 0).toNat : Int)) (.string T3)
        simp only [World.setCell_drew] at hld
        refine bodyPost_ret (v := (nextL (toL s)).val) ?_ rfl ⟨rfl, (HK3.out.set (Nat.le_refl _) _ _).drew⟩
        rw [results_cell_two rfl, HV.out]
        simp [asAddr, Result.andThen, hld]
      · have HE := Lib.hid (HS.out rfl h3)
        have heq : (X.toList == T2.toList) = false := by
          rw [HTX.out, ← tx_toL T2, eqT]; exact decide_eq_false h3
        clear h3 HR HS HO HTX
        go_wp2_with fail
        go_region_held3 (fun w' => NextK w w.heap.size w')
          (first | exact NextK.drew HK2.out | exact NextK.alloc (by assumption) _ | exact NextK.below (by assumption) (by assumption))
          (first | (go_at_call 42; (first | refine (HXT.out _ _ (sl_lit _ _ _)).mono ?_ | refine (HXT.out _ _ (sl_lit_drew _ _ _)).mono ?_); rintro e w3 ⟨rfl, hB3⟩))
        obtain ⟨hc0, hc1, hf0, hf1⟩ := (show NextK w w.heap.size w3 by assumption).facts
        have HK3 := Lib.hid (show NextK w w.heap.size w3 by assumption)
        clear hB3
        go_wp2
        refine bodyPost_ret (v := (nextL (toL s)).val) ?_ rfl ⟨rfl, HK3.out.set (Nat.le_refl _) _ _⟩
        rw [results_cell_two rfl]
        simp [asAddr, Result.andThen, HK3.out.1.load, HE.out]
        rfl
    · have hne : ((z : Int) == 0) = false := beq_eq_false_iff_ne.2 (by omega)
      have HE := Lib.hid (HR.out hz0)
      obtain ⟨hc0, hc1, hf0, hf1⟩ := HK2.out.facts
      clear hG
      go_wp2
      refine bodyPost_ret (v := (nextL (toL s)).val) ?_ rfl ⟨rfl, HK2.out.set (Nat.le_refl _) _ _⟩
      rw [results_cell_two rfl]
      simp [asAddr, Result.andThen, HK2.out.1.load, HE.out]
      rfl
  · have HE := Lib.hid (nextL_head (toL s) hz)
    have hne : ((bodyE (toL s) : Int) == 0) = false := beq_eq_false_iff_ne.2 (by omega)
    generalize bodyE (toL s) = E at *
    generalize bodyN (toL s) = N at *
    go_enter Tryz.func26, Tryz.ntmps26
    go_wp2_with fail
    refine (HL.out _).mono ?_
    rintro e w1 ⟨rfl, hB1⟩
    have HK := Lib.hid ((NextK.new w).below hB1)
    obtain ⟨hc0, hc1, hf0, hf1⟩ := HK.out.facts
    clear hB1
    go_wp2
    refine bodyPost_ret (v := (nextL (toL s)).val) ?_ rfl ⟨rfl, HK.out.set (Nat.le_refl _) _ _⟩
    rw [results_cell_two rfl]
    simp [asAddr, Result.andThen, HK.out.1.load, HE.out]
    rfl
end Go.Proofs.YtollhemkjnkalaaGreatDoor
