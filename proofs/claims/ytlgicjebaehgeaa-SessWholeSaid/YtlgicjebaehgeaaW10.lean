/- Layer 7: the spans sorted by From: contract. -/
import Derived.Test.YtlgicjebaehgeaaW4
import Derived.Shelf.SlSortCmp.WholeK
import Derived.Shelf.SlSortCmp.NoneTotal
import Derived.Shelf.SlicesG.Cmp
import Derived.Test.YtlgicjebaehgeaaShelf
namespace Go.Proofs.Ytlgicjebaehgeaa
open Go.RowKit Go.Sort Go.Proofs
set_option linter.unusedVariables false
set_option maxRecDepth 100000
set_option maxRecDepth 100000

instance : Inhabited SpM := ⟨⟨0, 0⟩⟩
def encS (s : SpM) : List Value := [.int .i64 s.f, .int .i64 s.t]
def cfS (x y : SpM) : Int := Lib.compareInt x.f y.f
theorem ltS (x y : SpM) : ltOf cfS x y = decide (x.f < y.f) := by
  unfold ltOf cfS Lib.compareInt
  by_cases h1 : x.f < y.f
  · simp [h1]
  · by_cases h2 : y.f < x.f <;> simp [h1, h2]
theorem swoS : SWO (ltOf cfS) where
  irrefl x := by rw [ltS]; simp
  trans x y z h1 h2 := by rw [ltS] at *; simp at *; omega
  ntrans x y z h1 h2 := by rw [ltS] at *; simp at *; omega

set_option maxHeartbeats 1000000 in
theorem closure_any (x y : SpM) (W : World) : Calls Try.prog 73 #[.agg #[.int .i64 x.f, .int .i64 x.t], .agg #[.int .i64 y.f, .int .i64 y.t]] W fun e w' => e = .returned (.int .i64 (cfS x y)) ∧ ∃ q os', w' = grow (W.drewN q) os' := by
  have hcon := fun W' => AnyG.cmp_Compare_int Try.laysCompare x.f y.f W'
  change ∀ W', Calls Try.prog 65 _ _ _ at hcon
  unfold cfS
  generalize Lib.compareInt x.f y.f = r at hcon ⊢
  go_enter Try.func73, Try.ntmps73
  go_wp2_with (go_at_call 65; refine (hcon _).mono ?_; rintro e w' ⟨rfl, rfl⟩)
  go_ret
  exact ⟨rfl, 0, _, by rw [alloc_eq_grow, alloc_eq_grow, grow_grow]; rfl⟩

theorem flat_sps (l : List SpM) (t : Nat) (h : t < l.length * 2) : (sps l)[t]? = some ((flatK encS 2 l.toArray)[t]!) := by
  rw [get_flatK encS 2 l.toArray t (by simpa using h)]
  have hk : t / 2 < l.length := by omega
  have hd : (t = t / 2 * 2 ∧ t % 2 = 0) ∨ (t = t / 2 * 2 + 1 ∧ t % 2 = 1) := by omega
  obtain ⟨g1, g2⟩ := sps_get l (t / 2) hk
  have he : l.toArray[t / 2]! = l[t / 2] := by simp [hk]
  rw [he]
  rcases hd with ⟨h1, h2⟩ | ⟨h1, h2⟩
  · rw [← h1] at g1
    rw [h2, g1]
    rfl
  · rw [← h1] at g2
    rw [h2, g2]
    rfl
theorem heap_sortedS {w : World} {g n : Nat} {os : Array Obj} {cur : Array Value} {e : TypeId} {fr : Nat × Nat} (d : Array SpM) (hb : w.heap[g]? = some (.cells cur e fr)) :
    (sortWorldK encS 2 w g 0 n d os).heap[g]? = some (.cells (putCells id 0 (flatK encS 2 d) cur) e fr) := by
  have hg : g < w.heap.size := (Array.getElem?_eq_some_iff.1 hb).1
  unfold sortWorldK putRowK
  rw [heap_grow_old _ _ (by simpa using hg)]
  simp [putRow, mapBlock, Sort.ahead, Array.getElem?_modify, hb, onCells]
theorem grownBy_sortedS {w : World} {g n : Nat} {os : Array Obj} (d : Array SpM) : w.grownBy (sortWorldK encS 2 w g 0 n d os) (some g) := by
  unfold sortWorldK putRowK
  refine ⟨rfl, rfl, rfl, by simp, fun k hk hne => ?_⟩
  rw [heap_grow_old _ _ (by simpa using hk)]
  have : g ≠ k := fun e => hne (by rw [e])
  simp [putRow, mapBlock, Sort.ahead, Array.getElem?_modify, this]
theorem take_putS (cur : Array Value) (m : List SpM) (h : m.length * 2 ≤ cur.size) : (putCells id 0 (flatK encS 2 m.toArray) cur).toList.take (m.length * 2) = sps m := by
  apply List.ext_getElem?
  intro j
  by_cases hj : j < m.length * 2
  · rw [List.getElem?_take_of_lt hj, Array.getElem?_toList, flat_sps m j hj]
    simp [putCells, hj, show j < cur.size by omega]
  · rw [List.getElem?_take_eq_none (by omega), List.getElem?_eq_none (by rw [sps_len]; omega)]

set_option maxHeartbeats 2000000 in
theorem sort_any (B : Nat) (v : Value) (l : List SpM) (w : World) (hB : B ≤ w.heap.size) (ho : w.ownsRow B 42 2 v l.length (sps l)) (hl : l.length ≤ 1000000) :
    Calls Try.prog 72 #[v, .func (.func 73) #[] #[]] w fun e w' => e = .returned (.tuple #[]) ∧ ∃ m : List SpM, m.Perm l ∧ m.Pairwise (fun a b => a.f ≤ b.f) ∧ w'.ownsRow B 42 2 v m.length (sps m) ∧ Below B w w' := by
  cases hll : l with
  | nil =>
    subst hll
    obtain ⟨a, c, rfl, hc, _⟩ := own_sp ho
    refine (AnyF.slices_SortFunc_none Try.laysSortFunc a c _ w).mono ?_
    rintro e w' ⟨rfl, rfl⟩
    exact ⟨rfl, [], List.Perm.refl _, List.Pairwise.nil, ho, Below.refl _ _⟩
  | cons x l' =>
    rw [← hll]
    rcases ho.2 with ⟨_, h0⟩ | ⟨g, cap, cur, rfl, hg, hb, hn, hcm, hsz, ht⟩
    · rw [hll] at h0; simp at h0
    have hH : HoldsK encS 2 w g 0 l.toArray := fun j hj => by
      have hj' : j < l.length * 2 := by simpa using hj
      rw [Nat.zero_add]
      exact ⟨by rw [ho.cellAt j hj', flat_sps l j hj']; rfl, ho.frozenAt j⟩
    have eg : ∀ args w, (callFunc 73 args).run Try.prog w = .ok (.enter 73 args) w := enters_of Try.func73 (by kernel_rfl) rfl
    have hcon := AnyQ.slices_SortFunc Try.laysSortFunc 2 Try.isAgg42 Try.sizeOf42 encS (fun _ => rfl) (fun x v hv => by simp [encS] at hv; rcases hv with rfl | rfl <;> rfl) cfS swoS 73 #[] g 0 cap l.toArray w eg (fun _ _ _ _ x y => closure_any x y _) hH (Array.getElem?_eq_some_iff.1 hb).1 (by simp; omega)
    change Calls Try.prog 72 #[.slice (some ⟨g, 0, none⟩) l.length cap, _] _ _ at hcon
    refine hcon.mono ?_
    rintro e w' ⟨rfl, d', n, os, hp, hs, rfl⟩
    have hsize : d'.size = l.length := by simpa using hp.1
    have hml : d'.toList.length = l.length := by simpa using hsize
    have hpm : d'.toList.Perm l := by
      have h := hp.2.2
      simpa [Array.extract_eq_self_of_le, hsize] using h
    have hd : d'.toList.toArray = d' := by simp
    refine ⟨rfl, d'.toList, hpm, ?_, ?_, app_below (Below.refl _ _) hB ho (grownBy_sortedS d')⟩
    · rw [List.pairwise_iff_getElem]
      intro i j hi hj hij
      have h := hs i j (Nat.zero_le _) hij (by simpa [hsize] using hj)
      rw [ltS] at h
      simp at hi hj
      simp [hi, hj] at h
      simpa using h
    · rw [hml]
      refine ⟨by rw [sps_len, hml], .inr ⟨g, cap, _, rfl, hg, heap_sortedS d' hb, hn, hcm, by simp [putCells, hsz], ?_⟩⟩
      have := take_putS cur d'.toList (by rw [hml, hsz]; exact Nat.mul_le_mul_right _ hn)
      rw [hd, hml] at this
      exact this
end Go.Proofs.Ytlgicjebaehgeaa
