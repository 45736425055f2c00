/- Layer 8: the stays sorted by Cmp: contract. -/
import Derived.Test.YtlgicjebaehgeaaZ3
import Derived.Shelf.SlSortCmp.WholeK
import Derived.Shelf.SlSortCmp.NoneTotal
namespace Go.Proofs.Ytlgicjebaehgeaa
open Go.RowKit Go.Sort Go.Proofs
set_option linter.unusedVariables false
set_option maxRecDepth 100000
set_option maxRecDepth 100000

theorem ltT (x y : StM) : ltOf cmpSt x y = decide (ltSt x y) := by
  unfold ltOf
  by_cases h1 : ltSt x y
  · have : cmpSt x y < 0 := by unfold cmpSt; rw [if_pos h1]; decide
    simp [h1, this]
  · have : ¬ cmpSt x y < 0 := by
      unfold cmpSt
      rw [if_neg h1]
      by_cases h2 : ltSt y x
      · rw [if_pos h2]; decide
      · rw [if_neg h2]; decide
    simp [h1, this]
theorem swoT : SWO (ltOf cmpSt) where
  irrefl x := by rw [ltT]; simp [ltSt_irrefl]
  trans x y z h1 h2 := by rw [ltT] at *; simp at *; exact ltSt_trans h1 h2
  ntrans x y z h1 h2 := by rw [ltT] at *; simp at *; exact leSt_trans h2 h1

theorem flat_sts (l : List StM) (t : Nat) (h : t < l.length * 4) : (sts l)[t]? = some ((flatK encT 4 l.toArray)[t]!) := by
  rw [get_flatK encT 4 l.toArray t (by simpa using h)]
  have hk : t / 4 < l.length := by omega
  have hd : (t = t / 4 * 4 ∧ t % 4 = 0) ∨ (t = t / 4 * 4 + 1 ∧ t % 4 = 1) ∨ (t = t / 4 * 4 + 2 ∧ t % 4 = 2) ∨ (t = t / 4 * 4 + 3 ∧ t % 4 = 3) := by omega
  obtain ⟨g1, g2, g3, g4⟩ := sts_get l (t / 4) hk
  have he : l.toArray[t / 4]! = l[t / 4] := by simp [hk]
  rw [he]
  rcases hd with ⟨h1, h2⟩ | ⟨h1, h2⟩ | ⟨h1, h2⟩ | ⟨h1, h2⟩
  · rw [← h1] at g1
    rw [h2, g1]
    rfl
  · rw [← h1] at g2
    rw [h2, g2]
    rfl
  · rw [← h1] at g3
    rw [h2, g3]
    rfl
  · rw [← h1] at g4
    rw [h2, g4]
    rfl
theorem heap_sortedT {w : World} {g n : Nat} {os : Array Obj} {cur : Array Value} {e : TypeId} {fr : Nat × Nat} (d : Array StM) (hb : w.heap[g]? = some (.cells cur e fr)) :
    (sortWorldK encT 4 w g 0 n d os).heap[g]? = some (.cells (putCells id 0 (flatK encT 4 d) cur) e fr) := by
  have hg : g < w.heap.size := (Array.getElem?_eq_some_iff.1 hb).1
  unfold sortWorldK putRowK
  rw [heap_grow_old _ _ (by simpa using hg)]
  simp [putRow, mapBlock, Sort.ahead, Array.getElem?_modify, hb, onCells]
theorem grownBy_sortedT {w : World} {g n : Nat} {os : Array Obj} (d : Array StM) : w.grownBy (sortWorldK encT 4 w g 0 n d os) (some g) := by
  unfold sortWorldK putRowK
  refine ⟨rfl, rfl, rfl, by simp, fun k hk hne => ?_⟩
  rw [heap_grow_old _ _ (by simpa using hk)]
  have : g ≠ k := fun e => hne (by rw [e])
  simp [putRow, mapBlock, Sort.ahead, Array.getElem?_modify, this]
theorem take_putT (cur : Array Value) (m : List StM) (h : m.length * 4 ≤ cur.size) : (putCells id 0 (flatK encT 4 m.toArray) cur).toList.take (m.length * 4) = sts m := by
  apply List.ext_getElem?
  intro j
  by_cases hj : j < m.length * 4
  · rw [List.getElem?_take_of_lt hj, Array.getElem?_toList, flat_sts m j hj]
    simp [putCells, hj, show j < cur.size by omega]
  · rw [List.getElem?_take_eq_none (by omega), List.getElem?_eq_none (by rw [sts_len]; omega)]

set_option maxHeartbeats 2000000 in
theorem sort8_any (B : Nat) (v : Value) (l : List StM) (w : World) (hB : B ≤ w.heap.size) (ho : w.ownsRow B 44 4 v l.length (sts l)) (hl : l.length ≤ 1000000) :
    Calls Try.prog 51 #[v, .func (.func 52) #[] #[]] w fun e w' => e = .returned (.tuple #[]) ∧ ∃ m : List StM, m.Perm l ∧ m.Pairwise (fun a b => ¬ ltSt b a) ∧ w'.ownsRow B 44 4 v m.length (sts m) ∧ Below B w w' := by
  cases hll : l with
  | nil =>
    subst hll
    obtain ⟨a, c, rfl, hc, _, _, _⟩ := own_st ho
    refine (AnyF.slices_SortFunc_none Try.laysSortSt a c _ w).mono ?_
    rintro e w' ⟨rfl, rfl⟩
    exact ⟨rfl, [], List.Perm.refl _, List.Pairwise.nil, ho, Below.refl _ _⟩
  | cons x l' =>
    rw [← hll]
    rcases ho.2 with ⟨_, h0⟩ | ⟨g, cap, cur, rfl, hg, hb, hn, hcm, hsz, ht⟩
    · rw [hll] at h0; simp at h0
    have hH : HoldsK encT 4 w g 0 l.toArray := fun j hj => by
      have hj' : j < l.length * 4 := by simpa using hj
      rw [Nat.zero_add]
      exact ⟨by rw [ho.cellAt j hj', flat_sts l j hj']; rfl, ho.frozenAt j⟩
    have eg : ∀ args w, (callFunc 52 args).run Try.prog w = .ok (.enter 52 args) w := enters_of Try.func52 (by kernel_rfl) rfl
    have hcon := AnyQ.slices_SortFunc Try.laysSortSt 4 Try.isAgg44 Try.sizeOf44 encT (fun _ => rfl) (fun x v hv => by simp [encT] at hv; rcases hv with rfl | rfl | rfl | rfl <;> rfl) cmpSt swoT 52 #[] g 0 cap l.toArray w eg (fun _ _ _ _ x y => stcmp_any x y _) hH (Array.getElem?_eq_some_iff.1 hb).1 (by simp; omega)
    change Calls Try.prog 51 #[.slice (some ⟨g, 0, none⟩) l.length cap, _] _ _ at hcon
    refine hcon.mono ?_
    rintro e w' ⟨rfl, d', n, os, hp, hs, rfl⟩
    have hsize : d'.size = l.length := by simpa using hp.1
    have hml : d'.toList.length = l.length := by simpa using hsize
    have hpm : d'.toList.Perm l := by
      have h := hp.2.2
      simpa [Array.extract_eq_self_of_le, hsize] using h
    have hd : d'.toList.toArray = d' := by simp
    refine ⟨rfl, d'.toList, hpm, ?_, ?_, app_below (Below.refl _ _) hB ho (grownBy_sortedT d')⟩
    · rw [List.pairwise_iff_getElem]
      intro i j hi hj hij
      have h := hs i j (Nat.zero_le _) hij (by simpa [hsize] using hj)
      rw [ltT] at h
      simp at hi hj
      simp [hi, hj] at h
      simpa using h
    · rw [hml]
      refine ⟨by rw [sts_len, hml], .inr ⟨g, cap, _, rfl, hg, heap_sortedT d' hb, hn, hcm, by simp [putCells, hsz], ?_⟩⟩
      have := take_putT cur d'.toList (by rw [hml, hsz]; exact Nat.mul_le_mul_right _ hn)
      rw [hd, hml] at this
      exact this
end Go.Proofs.Ytlgicjebaehgeaa
