/- Texts of mine, one behind the other, of each what is wanted. -/
import Derived.Test.YtapacckmgmdnoaaGreatR00
import Derived.Test.YtapacckmgmdnoaaGreatShelf
import Derived.Test.YtapacckmgmdnoaaGreatR01
import Derived.Test.YtapacckmgmdnoaaGreatR03
import Derived.Test.YtapacckmgmdnoaaGreatR04
import Derived.Test.YtapacckmgmdnoaaGreatR06
import Derived.Test.YtapacckmgmdnoaaGreatR07
namespace Go.Proofs.YtapacckmgmdnoaaGreat
open Go.RowKit Go.Proofs
set_option linter.unusedVariables false
set_option maxRecDepth 100000
set_option maxRecDepth 100000
theorem notAll {α : Type} {p : α → Bool} {l : List α} (h : ∀ x ∈ l, p x = false) : l.filter (fun x => !p x) = l :=
 List.filter_eq_self.2 fun x hx => by rw [h x hx]; rfl
structure DelK {α : Type} (p : α → Bool) (D : List α) (j i : Nat) (M : List α) : Prop where
 len : M.length = D.length
 le : i ≤ j
 jl : j ≤ D.length
 fst : M.take i = (D.take j).filter fun x => !p x
 rest : M.drop j = D.drop j
theorem DelK.start {α : Type} {p : α → Bool} {D : List α} {k : Nat} (h : LowK p D k) (hk : k < D.length) (hp : p D[k] = true) : DelK p D (k + 1) k D := by
 refine ⟨rfl, by omega, by omega, ?_, rfl⟩
 rw [List.take_succ_eq_append_getElem hk, List.filter_append, notAll (fun x hx => ?_)]
 ·simp [hp]
 ·obtain ⟨i, hi, rfl⟩ := List.getElem_of_mem hx
  rw [List.length_take] at hi
  rw [List.getElem_take]
  exact h i (by omega) (by omega)
theorem DelK.at_ {α : Type} {p : α → Bool} {D M : List α} {i j : Nat} (h : DelK p D j i M) (hj : j < D.length) (hm : j < M.length) : M[j] = D[j] := by
 have h1 : M[j]? = (M.drop j)[0]? := by rw [List.getElem?_drop, Nat.add_zero]
 have h2 : D[j]? = (D.drop j)[0]? := by rw [List.getElem?_drop, Nat.add_zero]
 rw [h.rest, ← h2, List.getElem?_eq_getElem hj, List.getElem?_eq_getElem hm] at h1
 exact Option.some.inj h1
theorem DelK.keep {α : Type} {p : α → Bool} {D M : List α} {i j : Nat} (h : DelK p D j i M) (hj : j < D.length) (hp : p D[j] = false) : DelK p D (j + 1) (i + 1) (M.set i D[j]) := by
 have hle := h.le
 have hlen := h.len
 refine ⟨by rw [List.length_set, h.len], by omega, by omega, ?_, ?_⟩
 ·rw [List.take_succ_eq_append_getElem hj, List.filter_append, ← h.fst]
  rw [List.take_succ_eq_append_getElem (by rw [List.length_set]; omega), List.getElem_set_self, List.take_set_of_le (Nat.le_refl _)]
  simp [hp]
 ·rw [List.drop_set_of_lt (by omega), ← List.drop_drop, ← List.drop_drop, h.rest]
theorem DelK.skip {α : Type} {p : α → Bool} {D M : List α} {i j : Nat} (h : DelK p D j i M) (hj : j < D.length) (hp : p D[j] = true) : DelK p D (j + 1) i M := by
 have hle := h.le
 refine ⟨h.len, by omega, by omega, ?_, ?_⟩
 ·rw [List.take_succ_eq_append_getElem hj, List.filter_append, ← h.fst]
  simp [hp]
 ·rw [← List.drop_drop, ← List.drop_drop, h.rest]
theorem DelK.done {α : Type} {p : α → Bool} {D M : List α} {i : Nat} (h : DelK p D D.length i M) : M.take i = D.filter fun x => !p x := by
 rw [h.fst, List.take_of_length_le (Nat.le_refl _)]
theorem DelK.num {α : Type} {p : α → Bool} {D M : List α} {i : Nat} (h : DelK p D D.length i M) : (D.filter fun x => !p x).length = i := by
 rw [← h.done, List.length_take, h.len]
 have := h.le
 omega
theorem pps_set (l : List (Value × Value)) (x : Value × Value) : ∀ (i : Nat), i < l.length → ((pps l).set (i * 2) x.1).set (i * 2 + 1) x.2 = pps (l.set i x) := by
 induction l with
 | nil => intro i h; exact absurd h (by simp)
 | cons y l ih =>
  intro i h
  cases i with
  | zero => rfl
  | succ i =>
   have := ih i (by simpa using h)
   rw [pps_cons, List.set_cons_succ, pps_cons, ← this, show (i + 1) * 2 = i * 2 + 1 + 1 by omega]
   rfl
theorem own_cut {w : World} {B e k g n cap m : Nat} {xs : List Value} (h : w.ownsRow B e k (.slice (some ⟨g, 0, none⟩) n cap) n xs) (hm : m ≤ n) : w.ownsRow B e k (.slice (some ⟨g, 0, none⟩) m cap) m (xs.take (m * k)) := by
 have hx := h.1
 have hmk : m * k ≤ n * k := Nat.mul_le_mul_right k hm
 rcases h.2 with ⟨h', _⟩ | ⟨g', cap', cur, h', hb, hg, hnc, hcm, hcs, htake⟩
 ·cases h'
 ·cases h'
  refine ⟨by rw [List.length_take]; omega, .inr ⟨g, cap, cur, rfl, hb, hg, by omega, hcm, hcs, ?_⟩⟩
  rw [← htake, List.take_take, Nat.min_eq_left hmk]
theorem own_setCells {B e k g n cap m : Nat} : ∀ (zs : List Value) (o : Nat) {w : World} {xs : List Value}, w.ownsRow B e k (.slice (some ⟨g, 0, none⟩) n cap) n xs → m ≤ o →
  ∃ ys, (w.setCells g o zs).ownsRow B e k (.slice (some ⟨g, 0, none⟩) n cap) n ys ∧ ys.take m = xs.take m ∧ (B ≤ g → Below B w (w.setCells g o zs))
 | [], o, w, xs, h, hm => ⟨xs, h, rfl, fun _ => Below.refl _ _⟩
 | z :: zs, o, w, xs, h, hm => by
  obtain ⟨h1, h2⟩ := h.stored o z
  obtain ⟨ys, h3, h4, h5⟩ := own_setCells zs (o + 1) h1 (m := m) (by omega)
  refine ⟨ys, h3, by rw [h4, List.take_set_of_le hm], fun hB => ?_⟩
  exact ((Below.refl B w).setCell (p := ⟨g, o, none⟩) hB z).trans (h5 hB)
theorem run_clear_us (w : World) (ty b o n c : Nat) (hn : 0 < n) (hc : ∀ j, j < n * 2 → (w.cell? ⟨b, o + j, none⟩).isSome = true) (hf : ∀ j, j < n * 2 → w.frozen? ⟨b, o + j, none⟩ = false) :
  (Builtin.clear_ #[35] ty #[.slice (some ⟨b, o, none⟩) n c]).run Tryz.prog w = .ok (.tuple #[]) (w.setCells b o (Builtin.zeroCells #[.string ⟨#[]⟩, .slice none 0 0] n).toList) := by
 have hv : ∀ w, (zeroValue 108).run Tryz.prog w = .ok (.agg #[.string ⟨#[]⟩, .slice none 0 0]) w := by
  have h : (Tryz.prog.info? 108).map (fun i => (i.zero, i.size)) = some (some (.agg #[.string ⟨#[]⟩, .slice none 0 0]), 2) := by kernel_rfl
  exact (zero_of_info h).1
 have hlen : (Builtin.zeroCells #[.string ⟨#[]⟩, .slice none 0 0] n).toList.length = n * 2 := by simp [Builtin.zeroCells]
 have hone : ∀ v ∈ (Builtin.zeroCells #[.string ⟨#[]⟩, .slice none 0 0] n).toList, v.oneCell' = true := by
  intro v hv
  obtain ⟨i, hi, rfl⟩ := List.getElem_of_mem hv
  simp only [Builtin.zeroCells, Array.getElem_toList]
  have h2 : i % 2 = 0 ∨ i % 2 = 1 := by omega
  rcases h2 with h2 | h2 <;> simp [h2] <;> rfl
 have hst := run_storeCells_cells (P := Tryz.prog) b o (Builtin.zeroCells #[.string ⟨#[]⟩, .slice none 0 0] n).toList 0 w (by rw [hlen]; simpa using hc) (by rw [hlen]; simpa using hf) hone
 simp only [Nat.add_zero] at hst
 obtain ⟨m, rfl⟩ : ∃ m, n = m + 1 := ⟨n - 1, by omega⟩
 have hcl : (Value.agg #[.string ⟨#[]⟩, .slice none 0 0]).cells = #[.string ⟨#[]⟩, .slice none 0 0] := rfl
 simp [Builtin.clear_, run_underlying Tryz.underlying35, hv, hcl, hst]
set_option maxHeartbeats 4000000 in
theorem index_us (a : Option Addr) (c : Nat) (l : List UsL) (N g B : Nat) (p : UsL → Bool) (Inv : World → Prop) (W : World) (hr : PpSl W a (l.map usp)) (hi : Inv W) (hB : B ≤ W.heap.size) (hl : l.length ≤ 1000000) (hF : ∀ args V, Sem.run Tryz.prog (callFunc N args) V = .ok (.enter N args) V)
  (hv : ∀ W W', Inv W → Below B W W' → Inv W') (hN : ∀ x ∈ l, ∀ V, Inv V → Calls Tryz.prog N #[.agg #[.string x.u, .slice x.a x.l.length x.c], .pointer (some ⟨g, 0, none⟩)] V fun r w' => r = .returned (.bool (p x)) ∧ Below V.heap.size V w') :
  Calls Tryz.prog 283 #[.slice a l.length c, .func (.func N) #[] #[.pointer (some ⟨g, 0, none⟩)]] W fun r w' => r = .returned (.int .i64 (idxO p l)) ∧ Below W.heap.size W w' := by
 have HR := Lib.hid hr
 have HI := Lib.hid hi
 have HV := Lib.hid hv
 have HC := Lib.hid hN
 clear hr hi hv hN
 go_enter Tryz.func283, Tryz.ntmps283
 go_wp2
 go_loopw [8] (fun i wr => ∃ (j : Nat), j ≤ l.length ∧ i = .int .i64 j ∧ Hid (LowK p l j) ∧ Hid (Below W.heap.size W wr)) (fun i _ => l.length - (intOf i).toNat)
 case atStart => exact ⟨0, by omega, rfl, LowK.zero _ _, Below.refl _ _⟩
 case round =>
  obtain ⟨j, hj, rfl, HO, HB⟩ := hrel
  by_cases hjl : j < l.length
  ·obtain ⟨b, off, rfl, hbl, hc0, hc1⟩ := (HR.out.below HB.out).at_ (k := j) (by rw [List.length_map]; exact hjl)
   rw [List.getElem_map] at hc0 hc1
   have HCC := Lib.hid (HC.out l[j] (List.getElem_mem hjl) _ (HV.out _ _ HI.out (HB.out.mono hB)))
   have HNX := Lib.hid (HO.out.next hjl)
   have HHT := Lib.hid (fun h : p l[j] = true => (IsFst.mk (Nat.le_of_lt hjl) (fun i hi hij => HO.out i hi hij) (fun _ => h) : IsFst p l j))
   clear HC HV HI
   generalize l[j] = x at *
   unfold usp at hc0 hc1
   dsimp only at hc0 hc1
   cases hb : p x with
   | false =>
    have HN := Lib.hid (HNX.out hb)
    rw [hb] at HCC
    clear HNX HHT hb
    go_wp2_with fail
    refine HCC.out.mono ?_
    rintro r w2 ⟨rfl, hB2⟩
    go_wp2
    go_roundw
    case rel => exact ⟨j + 1, by omega, by go_num, HN, HB.out.trans (hB2.mono HB.out.size)⟩
    case measure => simp [intOf]; omega
   | true =>
    have HN := Lib.hid (idxO_hit (HHT.out hb) hjl)
    rw [hb] at HCC
    clear HNX HHT hb
    go_wp2_with fail
    refine HCC.out.mono ?_
    rintro r w2 ⟨rfl, hB2⟩
    go_wp2
    go_ret
    exact ⟨by rw [HN.out]; rfl, HB.out.trans (hB2.mono HB.out.size)⟩
  ·obtain rfl : j = l.length := by omega
   have HE := Lib.hid (idxO_miss (p := p) (l := l) ⟨Nat.le_refl _, fun i hi hij => HO.out i hi hij, fun h => absurd h (by omega)⟩)
   go_wp2
   go_ret
   exact ⟨by rw [HE.out]; rfl, HB.out⟩
theorem idxO_cases {α : Type} (p : α → Bool) (l : List α) : (idxO p l = -1 ∧ ∀ x ∈ l, p x = false) ∨ ∃ k, ∃ h : k < l.length, idxO p l = (k : Nat) ∧ LowK p l k ∧ p l[k] = true := by
 have h := fst_idx p l
 rcases Nat.lt_or_ge (l.findIdx p) l.length with h1 | h1
 ·refine .inr ⟨_, h1, idxO_hit h h1, fun i hi hij => ?_, List.findIdx_getElem⟩
  exact List.not_of_lt_findIdx hij
 ·refine .inl ⟨?_, fun x hx => ?_⟩
  ·unfold idxO
   rw [if_neg (by omega)]
  ·have := List.findIdx_eq_length.1 (Nat.le_antisymm List.findIdx_le_length h1)
   simpa using this x hx
structure DelW (w : World) (B g cap : Nat) (p : UsL → Bool) (D : List UsL) (j i : Nat) (M : List UsL) (W : World) : Prop where
 del : DelK p D j i M
 own : W.ownsRow B 108 2 (.slice (some ⟨g, 0, none⟩) D.length cap) D.length (usv M)
 frame : Below B w W
theorem DelW.below {w W W' : World} {B g cap : Nat} {p : UsL → Bool} {D : List UsL} {j i : Nat} {M : List UsL} (h : DelW w B g cap p D j i M W) (q : Below W.heap.size W W') (hB : B ≤ W.heap.size) : DelW w B g cap p D j i M W' :=
 ⟨h.del, own_below h.own q, h.frame.trans (q.mono hB)⟩
theorem usv_get {M : List UsL} {k : Nat} (h : k < M.length) : (usv M)[k * 2]? = some (.string M[k].u) ∧ (usv M)[k * 2 + 1]? = some (.slice M[k].a M[k].l.length M[k].c) := by
 obtain ⟨h0, h1⟩ := pps_get (M.map usp) k (by rw [List.length_map]; exact h)
 rw [List.getElem_map] at h0 h1
 exact ⟨h0, h1⟩
theorem usv_len (M : List UsL) : (usv M).length = M.length * 2 := by unfold usv; rw [pps_len, List.length_map]
theorem usv_set (M : List UsL) (x : UsL) {i : Nat} (h : i < M.length) : ((usv M).set (i * 2) (.string x.u)).set (i * 2 + 1) (.slice x.a x.l.length x.c) = usv (M.set i x) := by
 unfold usv
 rw [List.map_set]
 exact pps_set (M.map usp) (usp x) i (by rw [List.length_map]; exact h)
theorem usv_take (M : List UsL) (i : Nat) : (usv M).take (i * 2) = usv (M.take i) := by
 induction M generalizing i with
 | nil => simp [usv, pps]
 | cons x M ih =>
  cases i with
  | zero => simp [usv, pps]
  | succ i =>
   have := ih i
   unfold usv at this ⊢
   rw [List.map_cons, List.take_succ_cons, List.map_cons, pps_cons, pps_cons, show (i + 1) * 2 = i * 2 + 1 + 1 by omega, ← this]
   rfl
theorem DelW.cell {w W : World} {B g cap : Nat} {p : UsL → Bool} {D : List UsL} {j i : Nat} {M : List UsL} (h : DelW w B g cap p D j i M W) {k : Nat} (hk : k < M.length) : W.cell? ⟨g, k * 2, none⟩ = some (.string M[k].u) ∧ W.cell? ⟨g, k * 2 + 1, none⟩ = some (.slice M[k].a M[k].l.length M[k].c) := by
 obtain ⟨h0, h1⟩ := usv_get hk
 have hl := h.del.len
 rw [h.own.cellAt _ (by omega), h.own.cellAt _ (by omega)]
 exact ⟨h0, h1⟩
theorem DelW.lt {w W : World} {B g cap : Nat} {p : UsL → Bool} {D : List UsL} {j i : Nat} {M : List UsL} (h : DelW w B g cap p D j i M W) : B ≤ g ∧ g < W.heap.size := h.own.lt g rfl
theorem DelW.store {w W : World} {B g cap : Nat} {p : UsL → Bool} {D : List UsL} {j i : Nat} {M : List UsL} (h : DelW w B g cap p D j i M W) (hj : j < D.length) (hp : p D[j] = false) :
  DelW w B g cap p D (j + 1) (i + 1) (M.set i D[j]) ((W.setCell ⟨g, i * 2, none⟩ (.string D[j].u)).setCell ⟨g, i * 2 + 1, none⟩ (.slice D[j].a D[j].l.length D[j].c)) := by
 have hle := h.del.le
 have hl := h.del.len
 refine ⟨h.del.keep hj hp, ?_, (h.frame.setCell (p := ⟨g, i * 2, none⟩) h.lt.1 _).setCell (p := ⟨g, i * 2 + 1, none⟩) h.lt.1 _⟩
 rw [← usv_set M D[j] (by omega)]
 exact ((h.own.stored _ _).1.stored _ _).1
theorem DelW.skip {w W : World} {B g cap : Nat} {p : UsL → Bool} {D : List UsL} {j i : Nat} {M : List UsL} (h : DelW w B g cap p D j i M W) (hj : j < D.length) (hp : p D[j] = true) : DelW w B g cap p D (j + 1) i M W :=
 ⟨h.del.skip hj hp, h.own, h.frame⟩
theorem DelW.clear {w W : World} {B g cap : Nat} {p : UsL → Bool} {D : List UsL} {i : Nat} {M : List UsL} (h : DelW w B g cap p D D.length i M W) (zs : List Value) :
  (W.setCells g (i * 2) zs).ownsRow B 108 2 (.slice (some ⟨g, 0, none⟩) i cap) (D.filter fun x => !p x).length (usv (D.filter fun x => !p x)) ∧ Below B w (W.setCells g (i * 2) zs) := by
 obtain ⟨ys, h1, h2, h3⟩ := own_setCells zs (i * 2) h.own (m := i * 2) (Nat.le_refl _)
 have hc := own_cut h1 (m := i) h.del.le
 rw [h2, usv_take, h.del.done] at hc
 rw [h.del.num]
 exact ⟨hc, h.frame.trans (h3 h.lt.1)⟩
set_option maxHeartbeats 8000000 in
theorem del_us (v : Value) (l : List UsL) (N g B : Nat) (p : UsL → Bool) (Inv : World → Prop) (W : World) (ho : W.ownsRow B 108 2 v l.length (usv l)) (hi : Inv W) (hB : B ≤ W.heap.size) (hl : l.length ≤ 1000000) (hF : ∀ args V, Sem.run Tryz.prog (callFunc N args) V = .ok (.enter N args) V)
  (hv : ∀ W W', Inv W → Below B W W' → Inv W') (hN : ∀ x ∈ l, ∀ V, Inv V → Calls Tryz.prog N #[.agg #[.string x.u, .slice x.a x.l.length x.c], .pointer (some ⟨g, 0, none⟩)] V fun r w' => r = .returned (.bool (p x)) ∧ Below V.heap.size V w') :
  Calls Tryz.prog 262 #[v, .func (.func N) #[] #[.pointer (some ⟨g, 0, none⟩)]] W fun r w' => ∃ v', r = .returned v' ∧ w'.ownsRow B 108 2 v' (l.filter fun x => !p x).length (usv (l.filter fun x => !p x)) ∧ Below B W w' := by
 obtain ⟨a, c, rfl, hlc, hcm, hr, hnil⟩ := own_us ho
 have HX := Lib.hid (index_us a c l N g B p Inv W hr hi hB hl hF hv hN)
 rcases idxO_cases p l with ⟨h1, h2⟩ | ⟨k, hk, h1, h2, h3⟩
 ·rw [h1] at HX
  have HF := Lib.hid (notAll h2)
  have HO := Lib.hid ho
  clear ho hi hv hN hr h1 h2 hnil
  go_enter Tryz.func262, Tryz.ntmps262
  go_wp2_with fail
  refine HX.out.mono ?_
  rintro r w2 ⟨rfl, hB2⟩
  go_wp2
  go_ret
  exact ⟨_, rfl, (by rw [HF.out]; exact own_below HO.out hB2), hB2.mono hB⟩
 ·rw [h1] at HX
  have hne : ((k : Int) == -1) = false := by rw [beq_eq_false_iff_ne]; omega
  obtain ⟨ga, rfl⟩ : ∃ ga, a = some ⟨ga, 0, none⟩ := by
   rcases ho.2 with ⟨e, hn⟩ | ⟨ga, _, _, e, _⟩
   ·omega
   ·cases e; exact ⟨ga, rfl⟩
  have HD : Hid (∀ w2, Below W.heap.size W w2 → DelW W B ga c p l (k + 1) k l w2) := fun w2 hB2 => ⟨DelK.start h2 hk h3, own_below ho hB2, hB2.mono hB⟩
  have HI := Lib.hid hi
  have HV := Lib.hid hv
  have HC := Lib.hid hN
  clear ho hi hv hN hr h1 h2 h3 hnil
  go_enter Tryz.func262, Tryz.ntmps262
  go_wp2_with fail
  refine HX.out.mono ?_
  rintro r w2 ⟨rfl, hB2⟩
  have HD2 := Lib.hid (HD.out _ hB2)
  have hS2 := Nat.le_trans hB hB2.size
  clear hB2 HD HX
  go_wp2
  go_loopw [5, 6] (fun iv jv wr => ∃ (i j : Nat) (M : List UsL), i < j ∧ j ≤ l.length ∧ iv = .int .i64 i ∧ jv = .int .i64 j ∧ B ≤ wr.heap.size ∧ Hid (DelW W B ga c p l j i M wr)) (fun _ jv _ => l.length - (intOf jv).toNat)
  case atStart => exact ⟨k, k + 1, l, by omega, by omega, rfl, by go_num, hS2, HD2.out⟩
  case round =>
   clear HD2 hS2
   obtain ⟨i, j, M, hij, hj, rfl, rfl, hS, HD⟩ := hrel
   by_cases hjl : j < l.length
   ·have hml : M.length = l.length := HD.out.del.len
    obtain ⟨hc0, hc1⟩ := HD.out.cell (k := j) (by omega)
    have hat := HD.out.del.at_ hjl (by omega)
    rw [hat] at hc0 hc1
    have hb1 := below_one wr (.cells #[.string l[j].u, .slice l[j].a l[j].l.length l[j].c] 108)
    have HCC := Lib.hid (HC.out l[j] (List.getElem_mem hjl) _ (HV.out _ _ HI.out (HD.out.frame.trans (hb1.mono hS))))
    have HB1 := Lib.hid hb1
    have HST := Lib.hid (fun V (h : DelW W B ga c p l j i M V) hp => h.store hjl hp)
    have HSK := Lib.hid (fun hp => HD.out.skip hjl hp)
    have HCE := Lib.hid (fun V (h : DelW W B ga c p l j i M V) => h.cell (k := i) (by omega))
    have hblk := heap_alloc_new wr (.cells #[.string l[j].u, .slice l[j].a l[j].l.length l[j].c] 108)
    have HBK := Lib.hid hblk
    clear HC HV HI hat hb1 hblk
    generalize l[j] = x at *
    cases hb : p x with
    | true =>
     rw [hb] at HCC
     have HN := Lib.hid (HSK.out hb)
     clear HST HSK HCE hb
     go_wp2_with fail
     refine HCC.out.mono ?_
     rintro r w3 ⟨rfl, hB3⟩
     have HN2 := Lib.hid (HN.out.below (HB1.out.trans (hB3.mono HB1.out.size)) hS)
     have hS3 : B ≤ w3.heap.size := Nat.le_trans hS (Nat.le_trans HB1.out.size hB3.size)
     clear hB3
     go_wp2
     go_roundw
     case rel => exact ⟨i, j + 1, M, by omega, by omega, rfl, by go_num, hS3, HN2.out⟩
     case measure => simp [intOf]; omega
    | false =>
     rw [hb] at HCC
     have HN := Lib.hid (fun V (h : DelW W B ga c p l j i M V) => HST.out V h hb)
     clear HST HSK hb
     go_wp2_with fail
     refine HCC.out.mono ?_
     rintro r w3 ⟨rfl, hB3⟩
     have hD3 := HD.out.below (HB1.out.trans (hB3.mono HB1.out.size)) hS
     have hS3 : B ≤ w3.heap.size := Nat.le_trans hS (Nat.le_trans HB1.out.size hB3.size)
     have HN3 := Lib.hid (HN.out _ hD3)
     obtain ⟨d0, d1⟩ := HCE.out _ hD3
     have hf0 := hD3.own.frozenAt (i * 2)
     have hf1 := hD3.own.frozenAt (i * 2 + 1)
     have hgl := hD3.lt.2
     have hx3 := (hB3.block _ (by rw [size1]; omega)).trans HBK.out
     obtain ⟨e0, e1⟩ := pcell2 hx3
     have hS4 : Hid (B ≤ ((w3.setCell ⟨ga, i * 2, none⟩ (.string x.u)).setCell ⟨ga, i * 2 + 1, none⟩ (.slice x.a x.l.length x.c)).heap.size) := by
      unfold Hid
      rw [size_set, size_set]
      exact hS3
     clear hB3 hD3 HN HCE hx3 HBK
     go_wp2
     go_roundw
     case rel => exact ⟨i + 1, j + 1, _, by omega, by omega, by go_num, by go_num, hS4.out, HN3.out⟩
     case measure => simp [intOf]; omega
   ·obtain rfl : j = l.length := by omega
    have hml : M.length = l.length := HD.out.del.len
    have hcl : ∀ ty, (Builtin.clear_ #[35] ty #[.slice (some ⟨ga, i * 2, none⟩) (l.length - i) (c - i)]).run Tryz.prog wr = .ok (.tuple #[]) (wr.setCells ga (i * 2) (Builtin.zeroCells #[.string ⟨#[]⟩, .slice none 0 0] (l.length - i)).toList) := fun ty =>
     run_clear_us wr ty ga (i * 2) _ _ (by omega) (fun t ht => by rw [HD.out.own.cellAt _ (by omega), List.getElem?_eq_getElem (by rw [usv_len]; omega)]; rfl) (fun t ht => HD.out.own.frozenAt _)
    have HFN := Lib.hid (HD.out.clear (Builtin.zeroCells #[.string ⟨#[]⟩, .slice none 0 0] (l.length - i)).toList)
    clear HC HV HI HD
    go_wp2
    go_ret
    exact ⟨_, rfl, HFN.out.1, HFN.out.2⟩
end Go.Proofs.YtapacckmgmdnoaaGreat
