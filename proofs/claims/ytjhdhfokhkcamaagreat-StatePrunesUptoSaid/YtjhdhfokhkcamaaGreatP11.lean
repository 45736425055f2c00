/- Texts of mine, one behind the other, of each what is wanted: BA4 BA6 BA5. -/
import Derived.Laws.ResultCell
import Derived.WalkMore
import Derived.Shelf.Spec.SlicesGrow
import Derived.Test.YtjhdhfokhkcamaaGreatShelf
import Derived.Lib.Hide
import Derived.Test.YtjhdhfokhkcamaaGreatP10
namespace Go.Proofs.YtjhdhfokhkcamaaGreat
open Go.RowKit
set_option linter.unusedVariables false
set_option maxRecDepth 100000
set_option maxRecDepth 100000
theorem results_tmp_cell_tmp {fn : Func} {p u v : Tmp} {ty : TypeId} (h : fn.results = #[.tmp u, .cell p ty, .tmp v]) (tmps : Array Value) (P : Program) (w : World) :
    (results fn tmps).run P w = ((asAddr (tmps.getD p undef)).run P w).andThen fun a w₁ => ((loadVar ty a).run P w₁).andThen fun x w₂ => .ok (.tuple #[tmps.getD u undef, x, tmps.getD v undef]) w₂ := by
  simp only [results, h]
  simp [Sem.run_bind, Result.andThen]
  try (split <;> simp)
  all_goals try (split <;> simp)
def setO (W : World) (g : Nat) (a b c d : Value) : World := (((W.setCell ⟨g, 0, none⟩ a).setCell ⟨g, 1, none⟩ b).setCell ⟨g, 2, none⟩ c).setCell ⟨g, 3, none⟩ d
structure Zb (w : World) (g : Nat) (a b c d : Value) (t : TypeId) (W : World) : Prop where
  blk : W.heap[g]? = some (.cells #[a, b, c, d] t (0, 0))
  ge : w.heap.size ≤ g
  frame : Below w.heap.size w W
section
variable {w W W' : World} {g : Nat} {a b c d : Value} {t : TypeId}
theorem Zb.lt (h : Zb w g a b c d t W) : g < W.heap.size := heap_lt h.blk
theorem Zb.below (h : Zb w g a b c d t W) (q : Below W.heap.size W W') : Zb w g a b c d t W' := ⟨(q.block g h.lt).trans h.blk, h.ge, h.frame.trans (q.mono h.frame.size)⟩
theorem Zb.drew (h : Zb w g a b c d t W) : Zb w g a b c d t W.drew := h.below (Below.refl _ _).drew
theorem Zb.new (w : World) (a b c d : Value) (t : TypeId) : Zb w w.heap.size a b c d t (w.alloc (.cells #[a, b, c, d] t)) := ⟨heap_alloc_new w _, Nat.le_refl _, below_one _ _⟩
theorem Zb.cells (h : Zb w g a b c d t W) : W.cell? ⟨g, 0, none⟩ = some a ∧ W.cell? ⟨g, 1, none⟩ = some b ∧ W.cell? ⟨g, 2, none⟩ = some c ∧ W.cell? ⟨g, 3, none⟩ = some d := cells4 h.blk
theorem Zb.free (h : Zb w g a b c d t W) : W.frozen? ⟨g, 0, none⟩ = false ∧ W.frozen? ⟨g, 1, none⟩ = false ∧ W.frozen? ⟨g, 2, none⟩ = false ∧ W.frozen? ⟨g, 3, none⟩ = false :=
  ⟨frozen_of_row _ _ 0 _ _ h.blk, frozen_of_row _ _ 1 _ _ h.blk, frozen_of_row _ _ 2 _ _ h.blk, frozen_of_row _ _ 3 _ _ h.blk⟩
theorem Zb.set (h : Zb w g a b c d t W) (x y z v : Value) : Below w.heap.size w (setO W g x y z v) :=
  (((h.frame.setCell (p := ⟨g, 0, none⟩) h.ge x).setCell (p := ⟨g, 1, none⟩) h.ge y).setCell (p := ⟨g, 2, none⟩) h.ge z).setCell (p := ⟨g, 3, none⟩) h.ge v
theorem Zb.there (h : Zb w g a b c d t W) : W.there g 0 4 := fun j hj => by
  rw [Nat.zero_add]
  refine ⟨?_, frozen_of_row _ _ _ _ _ h.blk⟩
  rw [cell_of_row _ _ _ _ _ (0, 0) h.blk, Array.getElem?_eq_getElem (by simpa using hj)]
  rfl
theorem setO_cell (W : World) (g : Nat) (x y z v : Value) {p : Addr} (h : p.block ≠ g) : (setO W g x y z v).cell? p = W.cell? p := by
  unfold setO World.cell?
  rw [Below.heap_setCell _ _ _ _ h, Below.heap_setCell _ _ _ _ h, Below.heap_setCell _ _ _ _ h, Below.heap_setCell _ _ _ _ h]
theorem setO_size (W : World) (g : Nat) (x y z v : Value) : (setO W g x y z v).heap.size = W.heap.size := by
  unfold setO
  simp [World.setCell]
theorem OpSl.setO {l : List OpM} {A : Option Addr} (h : OpSl W A l) (g : Nat) (x y z v : Value) (hg : ∀ b o, A = some ⟨b, o, none⟩ → b ≠ g) : OpSl (setO W g x y z v) A l := fun k hk => by
  obtain ⟨b, off, e, hlt, h0, h1, h2, h3⟩ := h k hk
  have hne := hg b off e
  exact ⟨b, off, e, by rw [setO_size]; exact hlt, (setO_cell W g x y z v (p := ⟨b, off + k * 4, none⟩) hne).trans h0, (setO_cell W g x y z v (p := ⟨b, off + k * 4 + 1, none⟩) hne).trans h1, (setO_cell W g x y z v (p := ⟨b, off + k * 4 + 2, none⟩) hne).trans h2, (setO_cell W g x y z v (p := ⟨b, off + k * 4 + 3, none⟩) hne).trans h3⟩
end
section
variable {w W : World} {g : Nat} {a b c d : Value} {t : TypeId}
theorem Zb.loadS (h : Zb w g a b c d t W) (x y z v : Value) : (loadVar 86 ⟨g, 0, none⟩).run Tryz.prog (setO W g x y z v) = .ok (.agg #[x, y, z, v]) (setO W g x y z v) :=
  run_loadVar_mid (P := Tryz.prog) (W.setCells g 0 [x, y, z, v]) g 0 86 [x, y, z, v] _ (World.rangeAt_setCells_same _ _ _ _ h.there) Tryz.underlying86 rfl infoStay4
end
set_option maxHeartbeats 2000000 in
theorem find_any (a : Option Addr) (c : Nat) (l : List OpM) (n : Int) (u : ByteArray) (w : World) (hr : OpSl w a l) (hl : l.length ≤ 1000000) :
    Calls Tryz.prog 163 #[.slice a l.length c, .int .i64 n, .string u] w fun e w' => e = .returned (.tuple #[.int .i64 (findP l n u : Nat), .int .i64 (findC l n u)]) ∧ Below w.heap.size w w' := by
  have HR := Lib.hid hr
  clear hr
  have HM := Lib.hid (fun (h : IsFst (hasN n) l l.length) => fc_miss h u)
  have HU := Lib.hid (fun k (h : IsFst (hasN n) l k) (hk : k < l.length) (hu : ¬ l[k].u = u) => fc_user h hk hu)
  have HH := Lib.hid (fun k (h : IsFst (hasN n) l k) (hk : k < l.length) (hu : l[k].u = u) => fc_hit h hk hu)
  generalize findP l n u = P at *
  generalize findC l n u = C at *
  go_enter Tryz.func163, Tryz.ntmps163
  go_wp2
  go_step3
  go_wp2
  go_step3
  go_wp2
  go_loopw [8, 9, 14] (fun p q i wr => ∃ (j : Nat), j ≤ l.length ∧ p = .int .i64 0 ∧ q = .int .i64 101 ∧ i = .int .i64 j ∧ Hid (LoTo (hasN n) l j) ∧ Hid (Below w.heap.size w wr)) (fun _ _ i _ => l.length - (intOf i).toNat)
  case atStart => exact ⟨0, by omega, rfl, rfl, rfl, LoTo.zero _ _, Below.refl _ _⟩
  case round =>
    obtain ⟨j, hj, rfl, rfl, rfl, HO, HB⟩ := hrel
    by_cases hjl : j < l.length
    · obtain ⟨b, off, rfl, hbl, hc0, hc1, hc2, hc3⟩ := (HR.out.below HB.out).at_ hjl
      have HNX := Lib.hid (HO.out.next hjl)
      have HHT := Lib.hid (fun h => HH.out j (HO.out.hit hjl h) hjl)
      have HHU := Lib.hid (fun h => HU.out j (HO.out.hit hjl h) hjl)
      have HB2 := Lib.hid (HB.out.trans ((below_one wr (.cells #[.int .i64 l[j].n, .string l[j].u, .int .i64 l[j].s, .int .i64 l[j].f] 112)).mono HB.out.size))
      generalize l[j] = x at *
      clear HM HU HH
      obtain ⟨xn, xu, xs, xf⟩ := x
      dsimp only at *
      by_cases h1 : xn = n
      · subst h1
        have d1 : (xn != xn) = false := by simp
        have d1' : (xn == xn) = true := beq_self_eq_true _
        by_cases h2 : xu = u
        · subst h2
          have d2 := txt_ns xu
          have d2' := txt_eq xu
          obtain ⟨e1, _, e3⟩ := HHT.out (decide_eq_true rfl) rfl
          subst e1 e3
          clear HNX HHT HHU HO
          go_wp2
          try rw [Exit.noGoto_ret]
          go_ret2
          exact ⟨by trivial, HB2.out⟩
        · have d2 := txt_nt h2
          have d2' := txt_ne h2
          obtain ⟨e1, _, e3⟩ := HHU.out (decide_eq_true rfl) h2
          subst e1 e3
          clear HNX HHT HHU HO
          go_wp2
          try rw [Exit.noGoto_ret]
          go_ret2
          exact ⟨by trivial, HB2.out⟩
      · have d1 : (xn != n) = true := by simp [h1]
        have d1' : (xn == n) = false := beq_eq_false_iff_ne.2 h1
        have HN := Lib.hid (HNX.out (decide_eq_false h1))
        clear HNX HHT HHU HO
        go_wp2
        go_roundw
        case rel => exact ⟨j + 1, by omega, rfl, rfl, by go_num, HN, HB2.out⟩
        case measure => simp [intOf]; omega
    · obtain rfl : j = l.length := by omega
      obtain ⟨e1, _, e3⟩ := HM.out HO.out.miss
      subst e1 e3
      go_wp2
      try rw [Exit.noGoto_ret]
      go_ret2
      exact ⟨by trivial, HB.out⟩
end Go.Proofs.YtjhdhfokhkcamaaGreat
namespace Go.Proofs.YtjhdhfokhkcamaaGreat
open Go.RowKit Go.Proofs
set_option linter.unusedVariables false
set_option maxRecDepth 100000
set_option maxRecDepth 100000
theorem ogrow_any (n : Nat) (w : World) (hn : n ≤ 1000000) : Calls Tryz.prog 189 #[.slice none 0 0, .int .i64 n] w fun e w' => ∃ v, e = .returned v ∧ w'.ownsRow w.heap.size 112 4 v 0 [] ∧ Below w.heap.size w w' := by
  obtain ⟨i0, hi, hz0, hz1, hz2⟩ := info_parts infoOp
  rcases Nat.eq_zero_or_pos n with h0 | h0
  · subst h0
    have h := Any8.slices_Grow_room Tryz.laysGrowOp none 0 0 0 w (by omega) (by omega) (by omega) (by omega)
    refine Calls.mono h ?_
    rintro e w' ⟨rfl, rfl⟩
    exact ⟨_, rfl, ⟨rfl, .inl ⟨rfl, rfl⟩⟩, Below.refl _ _⟩
  · have h := Any8.slices_Grow_grow Tryz.laysGrowOp i0 _ hi hz0 (by rw [hz1]; omega) none 0 0 n [] w (by omega) (by omega) (by rw [hz2]; omega) (by omega) (by simp) (fun _ => rfl) (fun a h => by cases h)
    refine Calls.mono h ?_
    rintro e w' ⟨rfl, rfl⟩
    have hge := grownCap_ge w (0 + n) 0 112
    have hle := grownCap_le_maxLen w (0 + n) 0 112 (by unfold maxLen; omega)
    refine ⟨_, rfl, ⟨rfl, .inr ⟨w.heap.size, _, _, rfl, Nat.le_refl _, heap_alloc_new w.drew _, Nat.zero_le _, hle, ?_, by simp⟩⟩, ?_⟩
    · simp only [Array.size_append, size_zeroCells]
      show 0 + (0 + n - 0) * 4 + (grownCap w (0 + n) 0 112 - (0 + n)) * 4 = grownCap w (0 + n) 0 112 * 4
      omega
    · exact (Below.refl w.heap.size w).drew.alloc (Nat.le_refl _) _
structure OpR where
  a : Option Addr
  l : List OpM
  c : Nat
def oprV (r : OpR) : Value := .slice r.a r.l.length r.c
def catO (R : List OpR) : List OpM := R.flatMap (·.l)
theorem catO_take (R : List OpR) (j : Nat) (h : j < R.length) : catO (R.take (j + 1)) = catO (R.take j) ++ R[j].l := by
  unfold catO
  rw [List.take_succ_eq_append_getElem h, List.flatMap_append]
  simp
theorem catO_le (R : List OpR) (j : Nat) : (catO (R.take j)).length ≤ (catO R).length := by
  have : catO R = catO (R.take j) ++ catO (R.drop j) := by
    unfold catO
    rw [← List.flatMap_append, List.take_append_drop]
  rw [this, List.length_append]
  omega
def OpRAt (w : World) (r : OpR) : Prop := OpSl w r.a r.l ∧ (r.a = none → r.c = 0)
theorem orows_at {w : World} {a : Option Addr} {R : List OpR} (h : Sl w a (R.map oprV)) {k : Nat} (hk : k < R.length) : ∃ b off, a = some ⟨b, off, none⟩ ∧ b < w.heap.size ∧ w.cell? ⟨b, off + k, none⟩ = some (oprV R[k]) := by
  obtain ⟨b, off, e, hlt, hc⟩ := h k (by simpa using hk)
  exact ⟨b, off, e, hlt, by rw [hc]; simp⟩
set_option maxHeartbeats 1000000 in
theorem oconcat_any (a : Option Addr) (c : Nat) (R : List OpR) (w : World) (hr : Sl w a (R.map oprV)) (hR : ∀ r ∈ R, OpRAt w r) (hl : R.length ≤ 100000) (hs : (catO R).length ≤ 100000) :
    Calls Tryz.prog 162 #[.slice a R.length c] w fun e w' => ∃ v, e = .returned v ∧ w'.ownsRow w.heap.size 112 4 v (catO R).length (oes (catO R)) ∧ Below w.heap.size w w' := by
  obtain ⟨i0, hi, hz0, hz1, hz2⟩ := info_parts infoOp
  have HR := Lib.hid hr
  have HRR := Lib.hid hR
  have HG := Lib.hid (ogrow_any (catO R).length w (by omega))
  clear hr hR
  go_enter Tryz.func162, Tryz.ntmps162
  go_wp2
  go_loopw [3, 11] (fun v i wr => ∃ (j s : Nat), j ≤ R.length ∧ i = .int .i64 j ∧ v = .int .i64 s ∧ s ≤ 100000 ∧ Hid (s = (catO (R.take j)).length) ∧ wr = w) (fun _ i _ => R.length - (intOf i).toNat)
  case atStart => exact ⟨0, 0, by omega, rfl, rfl, by omega, rfl, rfl⟩
  case round =>
    obtain ⟨j, s, hj, rfl, rfl, hs1, HS, hw⟩ := hrel
    obtain rfl : w = wr := hw.symm
    clear hw
    by_cases hjl : j < R.length
    · obtain ⟨b, off, rfl, hbl, hc0⟩ := orows_at HR.out hjl
      have HN := Lib.hid (catO_take R j hjl)
      have hle := catO_le R (j + 1)
      rw [HN.out, List.length_append, ← HS.out] at hle
      generalize R[j] = x at *
      unfold oprV at hc0
      obtain ⟨xa, xl, xc⟩ := x
      simp only at hc0 hle HN
      have hsum : s + xl.length ≤ 100000 := by omega
      clear hle
      go_wp2
      go_roundw
      case rel => exact ⟨j + 1, s + xl.length, by omega, by go_num, by go_num, hsum, (by unfold Hid; rw [HN.out, List.length_append, ← HS.out]), (by first | rfl | trivial)⟩
      case measure => simp [intOf]; omega
    · obtain rfl : j = R.length := by omega
      rw [List.take_of_length_le (Nat.le_refl _)] at HS
      have HS2 := HS.out
      subst HS2
      go_wp2_with fail
      refine HG.out.mono ?_
      rintro e w1 ⟨v, rfl, ho, hb⟩
      have HO := Lib.hid ho
      have HB := Lib.hid hb
      clear ho hb HG HS
      go_wp2
      go_loopw [6, 27] (fun v i wx => ∃ (j : Nat), j ≤ R.length ∧ i = .int .i64 j ∧ Hid (wx.ownsRow w.heap.size 112 4 v (catO (R.take j)).length (oes (catO (R.take j)))) ∧ Hid (Below w.heap.size w wx)) (fun _ i _ => R.length - (intOf i).toNat)
      case atStart => exact ⟨0, by omega, rfl, HO.out, HB.out⟩
      case round =>
        obtain ⟨j, hj, rfl, HO, HB⟩ := hrel
        by_cases hjl : j < R.length
        · obtain ⟨b, off, rfl, hbl, hc0⟩ := orows_at (HR.out.below HB.out) hjl
          have HN := Lib.hid (catO_take R j hjl)
          have hle := catO_le R (j + 1)
          have hle2 := catO_le R j
          rw [HN.out, List.length_append] at hle
          have HX := Lib.hid (HRR.out _ (List.getElem_mem hjl))
          generalize R[j] = x at *
          unfold oprV at hc0
          obtain ⟨xa, xl, xc⟩ := x
          simp only at hc0 hle HN
          obtain ⟨hx1, hx2⟩ := HX.out
          simp only at hx1 hx2
          have HX1 := Lib.hid (hx1.below HB.out)
          have HX2 := Lib.hid hx2
          generalize hct : catO (R.take j) = ct at *
          have hsum : ct.length + xl.length ≤ 1000000 := by omega
          clear hle hle2 hx1 hx2 HX hct
          go_wp2_with (at_builtin; refine wpList_append_op _ rfl (.tmp 31) (.tmp 32) 33 rfl w.heap.size 112 i0 _ Tryz.underlying33 hi hz0 hz1 hz2 rfl _ ct rfl HO.out xa xc xl rfl HX1.out HX2.out hsum HB.out.size ?_; intro v2 w2 hown2 hB2)
          have HO2 := Lib.hid hown2
          have HB2 := Lib.hid (HB.out.trans hB2)
          clear hown2 hB2
          go_wp2
          go_roundw
          case rel => exact ⟨j + 1, by omega, by go_num, (by unfold Hid; rw [HN.out]; exact HO2.out), HB2⟩
          case measure => simp [intOf]; omega
        · obtain rfl : j = R.length := by omega
          rw [List.take_of_length_le (Nat.le_refl _)] at HO
          go_wp2
          go_ret
          exact ⟨_, rfl, HO.out, HB.out⟩
theorem own_emptyO (w : World) (e : TypeId) (k B : Nat) (hB : B ≤ w.heap.size) : (w.alloc (.cells #[] e)).ownsRow B e k (.slice (some ⟨w.heap.size, 0, none⟩) 0 0) 0 [] :=
  ⟨by simp, .inr ⟨w.heap.size, 0, #[], rfl, hB, heap_alloc_new w _, Nat.le_refl _, by unfold maxLen; omega, by simp, by simp⟩⟩
end Go.Proofs.YtjhdhfokhkcamaaGreat
namespace Go.Proofs.YtjhdhfokhkcamaaGreat
open Go.RowKit
set_option linter.unusedVariables false
set_option maxRecDepth 100000
set_option maxRecDepth 100000
set_option maxHeartbeats 1000000 in
theorem stay_any (e : OpM) (t : Int) (w : World) : Calls Tryz.prog 148 #[opV e, .int .i64 t] w fun r w' => r = .returned (stV (stayO e t)) ∧ Below w.heap.size w w' := by
  unfold opV stV stayO
  obtain ⟨n, u, s, f⟩ := e
  dsimp only
  have HL : Hid (∀ o1 : Obj, (loadVar 86 ⟨w.heap.size + 1, 0, none⟩).run Tryz.prog ((w.alloc o1).alloc (.cells #[.int .i64 f, .int .i64 t, .int .i64 n, .int .i64 s] 86)) = .ok (.agg #[.int .i64 f, .int .i64 t, .int .i64 n, .int .i64 s]) ((w.alloc o1).alloc (.cells #[.int .i64 f, .int .i64 t, .int .i64 n, .int .i64 s] 86))) := fun o1 => by
    have := heap_alloc_new (w.alloc o1) (.cells #[.int .i64 f, .int .i64 t, .int .i64 n, .int .i64 s] 86)
    rw [size1] at this
    exact loadSt this
  have HG := Lib.hid (fun o p => below_two w o p)
  go_enter Tryz.func148, Tryz.ntmps148
  go_wp2
  refine bodyPost_ret (v := .agg #[.int .i64 f, .int .i64 t, .int .i64 n, .int .i64 s]) ?_ rfl ?_
  · rw [results_cell1 rfl]
    simp [asAddr, Result.andThen, HL.out]
  · exact ⟨rfl, HG.out _ _⟩
set_option maxHeartbeats 1000000 in
theorem rstay_any (e : OpM) (t : Int) (w : World) : Calls Tryz.prog 152 #[opV e, .int .i64 t] w fun r w' => r = .returned (stV (stayO e t)) ∧ Below w.heap.size w w' := by
  unfold opV stV stayO
  obtain ⟨n, u, s, f⟩ := e
  dsimp only
  have HL : Hid (∀ o1 : Obj, (loadVar 135 ⟨w.heap.size + 1, 0, none⟩).run Tryz.prog ((w.alloc o1).alloc (.cells #[.int .i64 f, .int .i64 t, .int .i64 n, .int .i64 s] 135)) = .ok (.agg #[.int .i64 f, .int .i64 t, .int .i64 n, .int .i64 s]) ((w.alloc o1).alloc (.cells #[.int .i64 f, .int .i64 t, .int .i64 n, .int .i64 s] 135))) := fun o1 => by
    have := heap_alloc_new (w.alloc o1) (.cells #[.int .i64 f, .int .i64 t, .int .i64 n, .int .i64 s] 135)
    rw [size1] at this
    exact loadStR this
  have HG := Lib.hid (fun o p => below_two w o p)
  go_enter Tryz.func152, Tryz.ntmps152
  go_wp2
  refine bodyPost_ret (v := .agg #[.int .i64 f, .int .i64 t, .int .i64 n, .int .i64 s]) ?_ rfl ?_
  · rw [results_cell1 rfl]
    simp [asAddr, Result.andThen, HL.out]
  · exact ⟨rfl, HG.out _ _⟩
end Go.Proofs.YtjhdhfokhkcamaaGreat
