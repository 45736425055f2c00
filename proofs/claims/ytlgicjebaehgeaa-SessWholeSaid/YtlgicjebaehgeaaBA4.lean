/- Layer 10: a result's block of four cells, as it is stored and read; who has a number, and a user's; in the program: contracts. -/
import Derived.Test.YtlgicjebaehgeaaBA3
import Derived.Laws.ResultCell
import Derived.WalkMore
namespace Go.Proofs.Ytlgicjebaehgeaa
open Go.RowKit
set_option linter.unusedVariables false
set_option maxRecDepth 100000

theorem results_tmp_cell_tmp {fn : Func} {p u v : Tmp} {ty : TypeId} (h : fn.results = #[.tmp u, .cell p ty, .tmp v]) (tmps : Array Value) (P : Program) (w : World) :
    (results fn tmps).run P w = ((asAddr (tmps.getD p undef)).run P w).andThen fun a w₁ => ((loadVar ty a).run P w₁).andThen fun x w₂ => .ok (.tuple #[tmps.getD u undef, x, tmps.getD v undef]) w₂ := by
  simp only [results, h]
  simp [Sem.run_bind, Result.andThen]
  try (split <;> simp)
  all_goals try (split <;> simp)
/-- a block of four cells stored over -/
def setO (W : World) (g : Nat) (a b c d : Value) : World := (((W.setCell ⟨g, 0, none⟩ a).setCell ⟨g, 1, none⟩ b).setCell ⟨g, 2, none⟩ c).setCell ⟨g, 3, none⟩ d
/-- a result's block, as it was laid; all else as it was -/
structure Zb (w : World) (g : Nat) (a b c d : Value) (t : TypeId) (W : World) : Prop where
  blk : W.heap[g]? = some (.cells #[a, b, c, d] t (0, 0))
  ge : w.heap.size ≤ g
  frame : Below w.heap.size w W
section
variable {w W W' : World} {g : Nat} {a b c d : Value} {t : TypeId}
theorem Zb.lt (h : Zb w g a b c d t W) : g < W.heap.size := heap_lt h.blk
theorem Zb.below (h : Zb w g a b c d t W) (q : Below W.heap.size W W') : Zb w g a b c d t W' := ⟨(q.block g h.lt).trans h.blk, h.ge, h.frame.trans (q.mono h.frame.size)⟩
theorem Zb.alloc (h : Zb w g a b c d t W) (o : Obj) : Zb w g a b c d t (W.alloc o) := h.below (below_one _ _)
theorem Zb.drew (h : Zb w g a b c d t W) : Zb w g a b c d t W.drew := h.below (Below.refl _ _).drew
theorem Zb.new (w : World) (a b c d : Value) (t : TypeId) : Zb w w.heap.size a b c d t (w.alloc (.cells #[a, b, c, d] t)) := ⟨heap_alloc_new w _, Nat.le_refl _, below_one _ _⟩
theorem Zb.cells (h : Zb w g a b c d t W) : W.cell? ⟨g, 0, none⟩ = some a ∧ W.cell? ⟨g, 1, none⟩ = some b ∧ W.cell? ⟨g, 2, none⟩ = some c ∧ W.cell? ⟨g, 3, none⟩ = some d := cells4 h.blk
theorem Zb.free (h : Zb w g a b c d t W) : W.frozen? ⟨g, 0, none⟩ = false ∧ W.frozen? ⟨g, 1, none⟩ = false ∧ W.frozen? ⟨g, 2, none⟩ = false ∧ W.frozen? ⟨g, 3, none⟩ = false :=
  ⟨frozen_of_row _ _ 0 _ _ h.blk, frozen_of_row _ _ 1 _ _ h.blk, frozen_of_row _ _ 2 _ _ h.blk, frozen_of_row _ _ 3 _ _ h.blk⟩
theorem Zb.set (h : Zb w g a b c d t W) (x y z v : Value) : Below w.heap.size w (setO W g x y z v) :=
  (((h.frame.setCell (p := ⟨g, 0, none⟩) h.ge x).setCell (p := ⟨g, 1, none⟩) h.ge y).setCell (p := ⟨g, 2, none⟩) h.ge z).setCell (p := ⟨g, 3, none⟩) h.ge v
theorem Zb.there (h : Zb w g a b c d t W) : W.there g 0 4 := fun j hj => by
  rw [Nat.zero_add]
  refine ⟨?_, frozen_of_row _ _ _ _ _ h.blk⟩
  rw [cell_of_row _ _ _ _ _ (0, 0) h.blk, Array.getElem?_eq_getElem (by simpa using hj)]
  rfl
/-- what lies in other blocks stays -/
theorem setO_cell (W : World) (g : Nat) (x y z v : Value) {p : Addr} (h : p.block ≠ g) : (setO W g x y z v).cell? p = W.cell? p := by
  unfold setO World.cell?
  rw [Below.heap_setCell _ _ _ _ h, Below.heap_setCell _ _ _ _ h, Below.heap_setCell _ _ _ _ h, Below.heap_setCell _ _ _ _ h]
theorem setO_size (W : World) (g : Nat) (x y z v : Value) : (setO W g x y z v).heap.size = W.heap.size := by
  unfold setO
  simp [World.setCell]
theorem OpSl.setO {l : List OpM} {A : Option Addr} (h : OpSl W A l) (g : Nat) (x y z v : Value) (hg : ∀ b o, A = some ⟨b, o, none⟩ → b ≠ g) : OpSl (setO W g x y z v) A l := fun k hk => by
  obtain ⟨b, off, e, hlt, h0, h1, h2, h3⟩ := h k hk
  have hne := hg b off e
  exact ⟨b, off, e, by rw [setO_size]; exact hlt, (setO_cell W g x y z v (p := ⟨b, off + k * 4, none⟩) hne).trans h0, (setO_cell W g x y z v (p := ⟨b, off + k * 4 + 1, none⟩) hne).trans h1, (setO_cell W g x y z v (p := ⟨b, off + k * 4 + 2, none⟩) hne).trans h2, (setO_cell W g x y z v (p := ⟨b, off + k * 4 + 3, none⟩) hne).trans h3⟩
end
theorem infoOp4 : (Try.prog.info? 31).map (·.size) = some 4 := by kernel_rfl
theorem infoOpR4 : (Try.prog.info? 24).map (·.size) = some 4 := by kernel_rfl
section
variable {w W : World} {g : Nat} {a b c d : Value} {t : TypeId}
theorem Zb.load (h : Zb w g a b c d t W) (x y z v : Value) : (loadVar 31 ⟨g, 0, none⟩).run Try.prog (setO W g x y z v) = .ok (.agg #[x, y, z, v]) (setO W g x y z v) :=
  run_loadVar_mid (P := Try.prog) (W.setCells g 0 [x, y, z, v]) g 0 31 [x, y, z, v] _ (World.rangeAt_setCells_same _ _ _ _ h.there) Try.underlying31 rfl infoOp4
theorem Zb.loadR (h : Zb w g a b c d t W) (x y z v : Value) : (loadVar 24 ⟨g, 0, none⟩).run Try.prog (setO W g x y z v) = .ok (.agg #[x, y, z, v]) (setO W g x y z v) :=
  run_loadVar_mid (P := Try.prog) (W.setCells g 0 [x, y, z, v]) g 0 24 [x, y, z, v] _ (World.rangeAt_setCells_same _ _ _ _ h.there) Try.underlying24 rfl infoOpR4
theorem Zb.loadS (h : Zb w g a b c d t W) (x y z v : Value) : (loadVar 44 ⟨g, 0, none⟩).run Try.prog (setO W g x y z v) = .ok (.agg #[x, y, z, v]) (setO W g x y z v) :=
  run_loadVar_mid (P := Try.prog) (W.setCells g 0 [x, y, z, v]) g 0 44 [x, y, z, v] _ (World.rangeAt_setCells_same _ _ _ _ h.there) Try.underlying44 rfl infoStay4
theorem Zb.loadT (h : Zb w g a b c d t W) (x y z v : Value) : (loadVar 48 ⟨g, 0, none⟩).run Try.prog (setO W g x y z v) = .ok (.agg #[x, y, z, v]) (setO W g x y z v) :=
  run_loadVar_mid (P := Try.prog) (W.setCells g 0 [x, y, z, v]) g 0 48 [x, y, z, v] _ (World.rangeAt_setCells_same _ _ _ _ h.there) Try.underlying48 rfl infoStayR4
end
theorem loadOp {W : World} {g : Nat} {a b c d : Value} {t : TypeId} (h : W.heap[g]? = some (.cells #[a, b, c, d] t (0, 0))) :
    (loadVar 31 ⟨g, 0, none⟩).run Try.prog W = .ok (.agg #[a, b, c, d]) W :=
  run_loadVar_mid (P := Try.prog) W g 0 31 [a, b, c, d] _ (fun j v hv => by
    rw [Nat.zero_add, cell_of_row _ _ _ _ _ (0, 0) h]
    simpa using hv) Try.underlying31 rfl infoOp4

set_option maxHeartbeats 2000000 in
theorem find_any (a : Option Addr) (c : Nat) (l : List OpM) (n : Int) (u : ByteArray) (w : World) (hr : OpSl w a l) (hl : l.length ≤ 1000000) :
    Calls Try.prog 47 #[.slice a l.length c, .int .i64 n, .string u] w fun e w' => e = .returned (.tuple #[.int .i64 (findP l n u : Nat), .int .i64 (findC l n u)]) ∧ Below w.heap.size w w' := by
  have HR := Lib.hid hr
  clear hr
  have HM := Lib.hid (fun (h : IsFst (hasN n) l l.length) => fc_miss h u)
  have HU := Lib.hid (fun k (h : IsFst (hasN n) l k) (hk : k < l.length) (hu : ¬ l[k].u = u) => fc_user h hk hu)
  have HH := Lib.hid (fun k (h : IsFst (hasN n) l k) (hk : k < l.length) (hu : l[k].u = u) => fc_hit h hk hu)
  generalize findP l n u = P at *
  generalize findC l n u = C at *
  go_enter Try.func47, Try.ntmps47
  go_wp2
  go_step3
  go_wp2
  go_step3
  go_wp2
  go_loopw [8, 9, 14] (fun p q i wr => ∃ (j : Nat), j ≤ l.length ∧ p = .int .i64 0 ∧ q = .int .i64 101 ∧ i = .int .i64 j ∧ Hid (LoTo (hasN n) l j) ∧ Hid (Below w.heap.size w wr)) (fun _ _ i _ => l.length - (intOf i).toNat)
  case atStart => exact ⟨0, by omega, rfl, rfl, rfl, LoTo.zero _ _, Below.refl _ _⟩
  case round =>
    obtain ⟨j, hj, rfl, rfl, rfl, HO, HB⟩ := hrel
    by_cases hjl : j < l.length
    · obtain ⟨b, off, rfl, hbl, hc0, hc1, hc2, hc3⟩ := (HR.out.below HB.out).at_ hjl
      have HNX := Lib.hid (HO.out.next hjl)
      have HHT := Lib.hid (fun h => HH.out j (HO.out.hit hjl h) hjl)
      have HHU := Lib.hid (fun h => HU.out j (HO.out.hit hjl h) hjl)
      have HB2 := Lib.hid (HB.out.trans ((below_one wr (.cells #[.int .i64 l[j].n, .string l[j].u, .int .i64 l[j].s, .int .i64 l[j].f] 31)).mono HB.out.size))
      generalize l[j] = x at *
      clear HM HU HH
      obtain ⟨xn, xu, xs, xf⟩ := x
      dsimp only at *
      by_cases h1 : xn = n
      · subst h1
        have d1 : (xn != xn) = false := by simp
        have d1' : (xn == xn) = true := beq_self_eq_true _
        by_cases h2 : xu = u
        · subst h2
          have d2 := txt_ns xu
          have d2' := txt_eq xu
          obtain ⟨e1, _, e3⟩ := HHT.out (decide_eq_true rfl) rfl
          subst e1 e3
          clear HNX HHT HHU HO
          go_wp2
          try rw [Exit.noGoto_ret]
          go_ret2
          exact ⟨by trivial, HB2.out⟩
        · have d2 := txt_nt h2
          have d2' := txt_ne h2
          obtain ⟨e1, _, e3⟩ := HHU.out (decide_eq_true rfl) h2
          subst e1 e3
          clear HNX HHT HHU HO
          go_wp2
          try rw [Exit.noGoto_ret]
          go_ret2
          exact ⟨by trivial, HB2.out⟩
      · have d1 : (xn != n) = true := by simp [h1]
        have d1' : (xn == n) = false := beq_eq_false_iff_ne.2 h1
        have HN := Lib.hid (HNX.out (decide_eq_false h1))
        clear HNX HHT HHU HO
        go_wp2
        go_roundw
        case rel => exact ⟨j + 1, by omega, rfl, rfl, by go_num, HN, HB2.out⟩
        case measure => simp [intOf]; omega
    · obtain rfl : j = l.length := by omega
      obtain ⟨e1, _, e3⟩ := HM.out HO.out.miss
      subst e1 e3
      go_wp2
      try rw [Exit.noGoto_ret]
      go_ret2
      exact ⟨by trivial, HB.out⟩
end Go.Proofs.Ytlgicjebaehgeaa
