/- Contract of layer 3: the whole table, an array of 256 numbers, handed back by value. -/
import Derived.Test.YtollhemkjnkalaaDoorC2
import Derived.Deep.WholeRow
import Derived.Deep.MidRow
import Derived.Laws.ResultCell
namespace Go.Proofs.YtollhemkjnkalaaDoor
open Go.RowKit
set_option linter.unusedVariables false
set_option maxRecDepth 100000

theorem infoTab : (Tryd.prog.info? 115).map (fun i => (i.zero, i.size)) = some (some (.agg (Array.replicate 256 (.int .u32 0))), 256) := by kernel_rfl
theorem zeroTab (w : World) : (zeroValue 115).run Tryd.prog w = .ok (.agg (tabUp 1)) w := by rw [tabUp_one]; exact (zero_of_info infoTab).1 w
theorem sizeTab : (Tryd.prog.info? 115).map (·.size) = some 256 := (zero_of_info infoTab).2
/-- the world in which the result's block lies still as it was made, and the table is filled up to m -/
def tabW (w : World) (m : Nat) : World := (w.alloc (.cells (tabUp 1) 115)).alloc (.cells (tabUp m) 115)
theorem size1 (w : World) (o : Obj) : (w.alloc o).heap.size = w.heap.size + 1 := by simp
theorem tabW_heap (w : World) (m : Nat) : (tabW w m).heap[w.heap.size + 1]? = some (.cells (tabUp m) 115) := by
  have := heap_alloc_last (w.alloc (.cells (tabUp 1) 115)) (.cells (tabUp m) 115)
  rw [size1] at this
  exact this
theorem tabW_heap0 (w : World) (m : Nat) : (tabW w m).heap[w.heap.size]? = some (.cells (tabUp 1) 115) := by
  unfold tabW
  rw [Below.heap_alloc _ _ _ (by rw [size1]; omega)]
  exact heap_alloc_last w _
theorem tabW_cell (w : World) (m i : Nat) : (tabW w m).cell? ⟨w.heap.size + 1, i, none⟩ = (tabUp m)[i]? := cell_of_row _ _ _ _ _ (0, 0) (tabW_heap w m)
theorem tabW_frozen (w : World) (m i : Nat) : (tabW w m).frozen? ⟨w.heap.size + 1, i, none⟩ = false := frozen_of_row _ _ _ _ _ (tabW_heap w m)
theorem tabW_set (w : World) (m : Nat) (h : m < 256) : (tabW w m).setCell ⟨w.heap.size + 1, m, none⟩ (.int .u32 (entryN m : Int)) = tabW w (m + 1) := by
  unfold tabW
  rw [World.setCell_alloc_at _ _ _ _ _ (size1 w _).symm, tabUp_next m h]
theorem tabW_range (w : World) : (tabW w 256).rangeAt (w.heap.size + 1) 0 tab.toList := fun j v hv => by
  rw [Nat.zero_add, tabW_cell, tabUp_all]
  simpa using hv
theorem tabW_there (w : World) (m : Nat) : (tabW w m).there w.heap.size 0 256 := fun j hj => by
  rw [Nat.zero_add]
  refine ⟨?_, frozen_of_row _ _ _ _ _ (tabW_heap0 w m)⟩
  rw [cell_of_row _ _ _ _ _ (0, 0) (tabW_heap0 w m), Array.getElem?_eq_getElem (by rw [tabUp_size]; exact hj)]
  rfl
theorem below_setCells {B b : Nat} {a : World} (hb : B ≤ b) : ∀ (vs : List Value) (o : Nat) {w : World}, Below B a w → Below B a (w.setCells b o vs)
  | [], _, _, h => h
  | v :: r, o, w, h => by
    rw [World.setCells]
    exact below_setCells hb r (o + 1) (h.setCell (p := ⟨b, o, none⟩) hb v)
theorem tabW_below (w : World) (m : Nat) : Below w.heap.size w (tabW w m) := ((Below.refl _ _).alloc (Nat.le_refl _) _).alloc (by rw [size1]; omega) _
/-- the world behind the call: the table is laid into the result's block -/
def tabV (w : World) : World := (tabW w 256).setCells w.heap.size 0 tab.toList
theorem tabV_below (w : World) : Below w.heap.size w (tabV w) := below_setCells (Nat.le_refl _) _ _ (tabW_below w 256)
theorem tab_len : tab.toList.length = 256 := by rw [Array.length_toList, tab_size]
theorem tabV_store (w : World) : (storeCells ⟨w.heap.size, 0, none⟩ tab.toList 0).run Tryd.prog (tabW w 256) = .ok () (tabV w) := by
  have ht := tabW_there w 256
  have := run_storeCells_cells (P := Tryd.prog) w.heap.size 0 tab.toList 0 (tabW w 256) (fun j hj => by simpa using (ht j (by rw [tab_len] at hj; exact hj)).1) (fun j hj => by simpa using (ht j (by rw [tab_len] at hj; exact hj)).2)
    (fun v hv => (Array.all_eq_true_iff_forall_mem.1 tab_one) v (by simpa using hv))
  rw [Nat.add_zero] at this
  exact this
theorem tabV_load (w : World) : (loadVar 115 ⟨w.heap.size, 0, none⟩).run Tryd.prog (tabV w) = .ok (.agg tab) (tabV w) := by
  have := run_loadVar_mid (P := Tryd.prog) (tabV w) w.heap.size 0 115 tab.toList (.array 256 107) (World.rangeAt_setCells_same _ _ _ _ (by rw [tab_len]; exact tabW_there w 256)) Tryd.underlying115 rfl (by rw [tab_len]; exact sizeTab)
  rwa [Array.toArray_toList] at this
theorem results_cell_one {fn : Func} {p : Tmp} {ty : TypeId} (h : fn.results = #[.cell p ty]) (tmps : Array Value) (P : Program) (w : World) :
    (results fn tmps).run P w = ((asAddr (tmps.getD p undef)).run P w).andThen fun a w₁ => (loadVar ty a).run P w₁ := by
  simp only [results, h]
  simp [Sem.run_bind, Result.andThen]
  try (split <;> simp)
theorem pow_lt256 {k : Nat} (h : 2 ^ k < 256) : k < 8 := by
  rcases Nat.lt_or_ge k 8 with h1 | h1
  · exact h1
  · have : 2 ^ 8 ≤ 2 ^ k := Nat.pow_le_pow_right (by decide) h1
    omega

set_option maxHeartbeats 1000000 in
set_option maxRecDepth 100000 in
theorem table_any (w : World) :
    Calls Tryd.prog 78 #[] w fun e w' => e = .returned (.agg tab) ∧ Below w.heap.size w w' := by
  have HE := Lib.hid entry_any
  have hz := zeroTab
  have HW : Hid ((w.alloc (.cells (tabUp 1) 115)).alloc (.cells (tabUp 1) 115) = tabW w 1) := rfl
  go_enter Tryd.func78, Tryd.ntmps78
  go_wp2
  rw [HW.out]
  clear hz
  go_loopw [2] (fun b wr => ∃ k : Nat, k ≤ 8 ∧ b = .int .i64 ((2 ^ k : Nat) : Int) ∧ wr = tabW w (2 ^ k)) (fun b _ => 256 - (intOf b).toNat)
  case atStart => exact ⟨0, by omega, rfl, rfl⟩
  case round =>
    obtain ⟨k, hk, rfl, rfl⟩ := hrel
    by_cases hk8 : k < 8
    · have hb : 2 ^ k ≤ 128 := Nat.pow_le_pow_right (n := 2) (j := 7) (by decide) (by omega)
      have hb1 : 1 ≤ 2 ^ k := Nat.pow_pos (by decide)
      have HP : Hid (2 ^ k * 2 = 2 ^ (k + 1)) := (Nat.pow_succ 2 k).symm
      have HN := Lib.hid (entryN_next k)
      generalize 2 ^ k = b at *
      have H1 := Lib.hid (HE.out b (by omega))
      have hlt := entryN_lt (show b < 256 by omega)
      have hd : decide ((b : Int) < 256) = true := decide_eq_true (by omega)
      go_wp2_with fail
      refine (H1.out _).mono ?_
      rintro e w' ⟨rfl, rfl⟩
      clear HE H1
      go_wp2_with fail
      go_loopw [13] (fun i wr => ∃ c : Nat, c ≤ b ∧ i = .int .i64 c ∧ wr = tabW w (b + c)) (fun i _ => b - (intOf i).toNat)
      case atStart => exact ⟨0, by omega, rfl, rfl⟩
      case round =>
        obtain ⟨c, hc, rfl, rfl⟩ := hrel
        by_cases hcb : c < b
        · have HX := Lib.hid (HN.out c hcb)
          have HS := Lib.hid (tabW_set w (b + c) (by omega))
          have hl1 := (tabW_cell w (b + c) c).trans (tabUp_at _ c (by omega) (by omega))
          obtain ⟨v0, hv0⟩ := tabUp_in (b + c) (b + c) (by omega)
          have hl2 := (tabW_cell w (b + c) (b + c)).trans hv0
          have hf := tabW_frozen w (b + c) (b + c)
          have hx := b_xor32 (entryN c) (entryN b) (entryN_lt (by omega)) hlt
          have hi1 : (c : Int) < 256 := by omega
          have hi2 : (b : Int) + (c : Int) < 256 := by omega
          clear hv0
          rw [HX.out] at hx
          go_wp2
          go_roundw
          case rel => exact ⟨c + 1, by omega, by go_num, by rw [HS.out, Nat.add_assoc]⟩
          case measure => simp [intOf]; omega
        · obtain rfl : c = b := by omega
          go_wp2
          go_roundw
          case rel => exact ⟨k + 1, by omega, by rw [← HP.out]; congr 1, by rw [← HP.out, Nat.mul_two]⟩
          case measure => simp [intOf]; omega
    · obtain rfl : k = 8 := by omega
      clear HE
      have hsz : (Tryd.prog.info? 115).map (·.size) = some tab.toList.length := by rw [Array.length_toList, tab_size]; exact sizeTab
      have HS := Lib.hid hsz
      clear hsz
      go_wp2
      refine wp_load_mid 115 (.tmp 1) rfl (w.heap.size + 1) 0 rfl tab.toList (.array 256 107) (tabW_range w) Tryd.underlying115 rfl HS.out ?_
      rw [Array.toArray_toList]
      have hts := tab_size
      have hsc := tabV_store w
      go_wp2
      have hld := tabV_load w
      refine bodyPost_ret (v := .agg tab) ?_ rfl ⟨rfl, tabV_below w⟩
      rw [results_cell_one rfl]
      simp [asAddr, Result.andThen, hld]
end Go.Proofs.YtollhemkjnkalaaDoor
