/- Layer 8: worlds that a callee has grown; the order of two stays as the document, and as the program, has it (the library's Or); a stay as the program, and as the document, has it: contracts. -/
import Derived.Test.YtlgicjebaehgeaaZ1
import Derived.Test.YtlgicjebaehgeaaW5
import Derived.Shelf.SlSortCmp.QuietGrown
import Derived.Shelf.SlSorted.Search
namespace Go.Proofs.Ytlgicjebaehgeaa
open Go.RowKit Go.Sort Go.Proofs
set_option linter.unusedVariables false
set_option maxRecDepth 100000
set_option maxRecDepth 100000

/-- so many draws, and blocks laid behind -/
def Grew (w w' : World) : Prop := ∃ q os, w' = grow (w.drewN q) os
theorem Grew.refl (w : World) : Grew w w := ⟨0, #[], by rw [grow_empty]; rfl⟩
theorem Grew.drew {w w' : World} (h : Grew w w') : Grew w w'.drew := by
  obtain ⟨q, os, rfl⟩ := h
  exact ⟨q + 1, os, rfl⟩
theorem Grew.alloc {w w' : World} (h : Grew w w') (o : Obj) : Grew w (w'.alloc o) := by
  obtain ⟨q, os, rfl⟩ := h
  exact ⟨q, os ++ #[o], by rw [alloc_eq_grow, grow_grow]⟩
theorem Grew.trans {a b c : World} (h : Grew a b) (k : Grew b c) : Grew a c := by
  obtain ⟨q, os, rfl⟩ := h
  obtain ⟨q', os', rfl⟩ := k
  exact ⟨q + q', os ++ os', by show grow (grow ((a.drewN q).drewN q') os) os' = _; rw [grow_grow, World.drewN_drewN]⟩
theorem Grew.below {w w' : World} (h : Grew w w') {B : Nat} (hB : B ≤ w.heap.size) : Below B w w' := by
  obtain ⟨q, os, rfl⟩ := h
  exact below_grown_sl B w q os hB
theorem Grew.of {w : World} (q : Nat) (os : Array Obj) : Grew w (grow (w.drewN q) os) := ⟨q, os, rfl⟩

theorem infoStay4 : (Try.prog.info? 44).map (·.size) = some 4 := by kernel_rfl
theorem infoStayR4 : (Try.prog.info? 48).map (·.size) = some 4 := by kernel_rfl
theorem loadSt {W : World} {g : Nat} {a b c d : Value} {t : TypeId} (h : W.heap[g]? = some (.cells #[a, b, c, d] t (0, 0))) :
    (loadVar 44 ⟨g, 0, none⟩).run Try.prog W = .ok (.agg #[a, b, c, d]) W :=
  run_loadVar_mid (P := Try.prog) W g 0 44 [a, b, c, d] _ (fun j v hv => by
    rw [Nat.zero_add, cell_of_row _ _ _ _ _ (0, 0) h]
    simpa using hv) Try.underlying44 rfl infoStay4
theorem loadStR {W : World} {g : Nat} {a b c d : Value} {t : TypeId} (h : W.heap[g]? = some (.cells #[a, b, c, d] t (0, 0))) :
    (loadVar 48 ⟨g, 0, none⟩).run Try.prog W = .ok (.agg #[a, b, c, d]) W :=
  run_loadVar_mid (P := Try.prog) W g 0 48 [a, b, c, d] _ (fun j v hv => by
    rw [Nat.zero_add, cell_of_row _ _ _ _ _ (0, 0) h]
    simpa using hv) Try.underlying48 rfl infoStayR4

set_option maxHeartbeats 1000000 in
theorem ahead_any (a b : StM) (w : World) : Calls Try.prog 66 #[stV a, stV b] w fun e w' => e = .returned (.bool (decide (ltSt a b))) ∧ Grew w w' := by
  have HG := Lib.hid (fun o p => ((Grew.refl w).alloc o).alloc p)
  unfold stV
  obtain ⟨f1, t1, n1, s1⟩ := a
  obtain ⟨f2, t2, n2, s2⟩ := b
  have HR : Hid (∀ c : Bool, (c = true ↔ ltSt ⟨f1, t1, n1, s1⟩ ⟨f2, t2, n2, s2⟩) → c = decide (ltSt ⟨f1, t1, n1, s1⟩ ⟨f2, t2, n2, s2⟩)) := fun c h => by
    cases c with
    | true => exact (decide_eq_true (h.1 rfl)).symm
    | false => exact (decide_eq_false (fun k => by cases h.2 k)).symm
  dsimp only
  by_cases h0 : f1 = f2
  · subst h0
    by_cases h1 : t1 = t2
    · subst h1
      by_cases h2 : n1 = n2
      · subst h2
        go_enter Try.func66, Try.ntmps66
        go_wp2
        go_ret
        exact ⟨retB (HR.out _ (by unfold ltSt; simp)), HG.out _ _⟩
      · have e2 : (n1 == n2) = false := beq_eq_false_iff_ne.2 h2
        go_enter Try.func66, Try.ntmps66
        go_wp2
        go_ret
        exact ⟨retB (HR.out _ (by unfold ltSt; simp [h2])), HG.out _ _⟩
    · have e1 : (t1 == t2) = false := beq_eq_false_iff_ne.2 h1
      go_enter Try.func66, Try.ntmps66
      go_wp2
      go_ret
      exact ⟨retB (HR.out _ (by unfold ltSt; simp [h1])), HG.out _ _⟩
  · have e0 : (f1 == f2) = false := beq_eq_false_iff_ne.2 h0
    go_enter Try.func66, Try.ntmps66
    go_wp2
    go_ret
    exact ⟨retB (HR.out _ (by unfold ltSt; simp [h0])), HG.out _ _⟩

set_option maxHeartbeats 1000000 in
theorem old_any (x : StM) (w : World) : Calls Try.prog 22 #[stV x] w fun e w' => e = .returned (stV x) ∧ Grew w w' := by
  unfold stV
  obtain ⟨f, t, n, s⟩ := x
  dsimp only
  have HL : Hid (∀ o1 : Obj, (loadVar 48 ⟨w.heap.size + 1, 0, none⟩).run Try.prog ((w.alloc o1).alloc (.cells #[.int .i64 f, .int .i64 t, .int .i64 n, .int .i64 s] 48)) = .ok (.agg #[.int .i64 f, .int .i64 t, .int .i64 n, .int .i64 s]) ((w.alloc o1).alloc (.cells #[.int .i64 f, .int .i64 t, .int .i64 n, .int .i64 s] 48))) := fun o1 => by
    have := heap_alloc_new (w.alloc o1) (.cells #[.int .i64 f, .int .i64 t, .int .i64 n, .int .i64 s] 48)
    rw [size1] at this
    exact loadStR this
  have HG := Lib.hid (fun o p => ((Grew.refl w).alloc o).alloc p)
  go_enter Try.func22, Try.ntmps22
  go_wp2
  refine bodyPost_ret (v := .agg #[.int .i64 f, .int .i64 t, .int .i64 n, .int .i64 s]) ?_ rfl ?_
  · rw [results_cell1 rfl]
    simp [asAddr, Result.andThen, HL.out]
  · exact ⟨rfl, HG.out _ _⟩

/-- the first one that is not 0 -/
def orL : List Int → Int
  | [] => 0
  | x :: l => if x = 0 then orL l else x
theorem orL_drop {l : List Int} {j : Nat} (h : j < l.length) : orL (l.drop j) = if l[j] = 0 then orL (l.drop (j + 1)) else l[j] := by
  rw [List.drop_eq_getElem_cons h]; rfl
theorem or_any (a : Option Addr) (c : Nat) (l : List Int) (w : World) (hr : Sl w a (ints l)) (hl : l.length ≤ 1000) :
    Calls Try.prog 64 #[.slice a l.length c] w fun e w' => e = .returned (.int .i64 (orL l)) ∧ w' = w := by
  have HR := Lib.hid hr
  clear hr
  go_enter Try.func64, Try.ntmps64
  go_wp2
  go_loopw [8] (fun i wr => ∃ (j : Nat), j ≤ l.length ∧ i = .int .i64 j ∧ Hid (orL l = orL (l.drop j)) ∧ wr = w) (fun i _ => l.length - (intOf i).toNat)
  case atStart => exact ⟨0, by omega, rfl, rfl, rfl⟩
  case round =>
    obtain ⟨j, hj, rfl, HF, rfl⟩ := hrel
    by_cases hjl : j < l.length
    · obtain ⟨b, off, rfl, hbl, hc0⟩ := ints_at HR.out hjl
      have HN := Lib.hid (HF.out.trans (orL_drop hjl))
      generalize l[j] = x at *
      by_cases h : x = 0
      · subst h
        clear HF
        go_wp2
        go_roundw
        case rel => exact ⟨j + 1, by omega, by go_num, HN.out, trivial⟩
        case measure => simp [intOf]; omega
      · have he : (x == 0) = false := beq_eq_false_iff_ne.2 h
        have HN2 : Hid (orL l = x) := by
          have := HN.out
          rw [if_neg h] at this
          exact this
        clear HN HF
        go_wp2
        go_ret
        exact ⟨by rw [HN2.out]; rfl, rfl⟩
    · obtain rfl : j = l.length := by omega
      have HN2 : Hid (orL l = 0) := by
        have := HF.out
        rw [List.drop_eq_nil_of_le (Nat.le_refl _)] at this
        exact this
      go_wp2
      go_ret
      exact ⟨by rw [HN2.out]; rfl, rfl⟩
end Go.Proofs.Ytlgicjebaehgeaa
