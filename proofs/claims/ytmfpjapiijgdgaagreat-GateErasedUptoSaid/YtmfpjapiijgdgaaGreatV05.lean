/- Texts of mine, one behind the other, of each what is wanted. -/
import Derived.Test.YtmfpjapiijgdgaaGreatV00
import Derived.Test.YtmfpjapiijgdgaaGreatShelf
import Derived.Test.YtmfpjapiijgdgaaGreatV01
import Derived.Test.YtmfpjapiijgdgaaGreatV03
import Derived.Test.YtmfpjapiijgdgaaGreatV04
namespace Go.Proofs.YtmfpjapiijgdgaaGreat
open Go.RowKit
set_option linter.unusedVariables false
set_option maxRecDepth 100000
set_option maxRecDepth 100000
def encT (s : StM) : List Value := [.int .i64 s.f, .int .i64 s.t, .int .i64 s.n, .int .i64 s.s]
def sts (l : List StM) : List Value := l.flatMap encT
theorem sts_cons (s : StM) (l : List StM) : sts (s :: l) = encT s ++ sts l := by simp [sts]
theorem sts_len (l : List StM) : (sts l).length = l.length * 4 := by
 induction l with
 | nil => rfl
 | cons e l ih => rw [sts_cons, List.length_append, ih, List.length_cons]; simp only [encT, List.length_cons, List.length_nil]; omega
theorem sts_append (l m : List StM) : sts (l ++ m) = sts l ++ sts m := by simp [sts]
theorem sts_snoc (l : List StM) (x : StM) : sts (l ++ [x]) = sts l ++ [.int .i64 x.f, .int .i64 x.t, .int .i64 x.n, .int .i64 x.s] := by simp [sts, encT]
theorem sts_take (l : List StM) (j : Nat) (h : j < l.length) : sts (l.take (j + 1)) = sts (l.take j) ++ [.int .i64 l[j].f, .int .i64 l[j].t, .int .i64 l[j].n, .int .i64 l[j].s] := by
 rw [List.take_succ_eq_append_getElem h]; exact sts_snoc _ _
theorem sts_get (l : List StM) : ∀ (k : Nat) (h : k < l.length), (sts l)[k * 4]? = some (.int .i64 l[k].f) ∧ (sts l)[k * 4 + 1]? = some (.int .i64 l[k].t) ∧ (sts l)[k * 4 + 2]? = some (.int .i64 l[k].n) ∧ (sts l)[k * 4 + 3]? = some (.int .i64 l[k].s) := by
 induction l with
 | nil => intro k h; exact absurd h (by simp)
 | cons x l ih =>
  intro k h
  rw [sts_cons]
  cases k with
  | zero => exact ⟨rfl, rfl, rfl, rfl⟩
  | succ k =>
   have := ih k (by simpa using h)
   rw [show (k + 1) * 4 = k * 4 + 1 + 1 + 1 + 1 by omega]
   simpa [encT] using this
def StSl (w : World) (a : Option Addr) (l : List StM) : Prop := ∀ k (h : k < l.length), ∃ b off, a = some ⟨b, off, none⟩ ∧ b < w.heap.size ∧
 w.cell? ⟨b, off + k * 4, none⟩ = some (.int .i64 l[k].f) ∧ w.cell? ⟨b, off + k * 4 + 1, none⟩ = some (.int .i64 l[k].t) ∧ w.cell? ⟨b, off + k * 4 + 2, none⟩ = some (.int .i64 l[k].n) ∧ w.cell? ⟨b, off + k * 4 + 3, none⟩ = some (.int .i64 l[k].s)
theorem StSl.nil (w : World) (a : Option Addr) : StSl w a [] := fun k h => absurd h (by simp)
theorem StSl.below {w w' : World} {a : Option Addr} {l : List StM} (h : StSl w a l) (hb : Below w.heap.size w w') : StSl w' a l := fun k hk => by
 obtain ⟨b, off, e, hlt, h0, h1, h2, h3⟩ := h k hk
 exact ⟨b, off, e, Nat.lt_of_lt_of_le hlt hb.size, (hb.cell (p := ⟨b, off + k * 4, none⟩) hlt).trans h0, (hb.cell (p := ⟨b, off + k * 4 + 1, none⟩) hlt).trans h1, (hb.cell (p := ⟨b, off + k * 4 + 2, none⟩) hlt).trans h2, (hb.cell (p := ⟨b, off + k * 4 + 3, none⟩) hlt).trans h3⟩
theorem StSl.at_ {w : World} {a : Option Addr} {l : List StM} (h : StSl w a l) {k : Nat} (hk : k < l.length) : ∃ b off, a = some ⟨b, off, none⟩ ∧ b < w.heap.size ∧
  w.cell? ⟨b, off + k * 4, none⟩ = some (.int .i64 l[k].f) ∧ w.cell? ⟨b, off + k * 4 + 1, none⟩ = some (.int .i64 l[k].t) ∧ w.cell? ⟨b, off + k * 4 + 2, none⟩ = some (.int .i64 l[k].n) ∧ w.cell? ⟨b, off + k * 4 + 3, none⟩ = some (.int .i64 l[k].s) := h k hk
theorem StSl.take {w : World} {a : Option Addr} {l : List StM} (h : StSl w a l) (n : Nat) : StSl w a (l.take n) := fun k hk => by
 have hk2 : k < l.length := by simp at hk; omega
 obtain ⟨b, off, e, hlt, h0, h1, h2, h3⟩ := h k hk2
 rw [List.getElem_take]
 exact ⟨b, off, e, hlt, h0, h1, h2, h3⟩
theorem StSl.drop {w : World} {b off : Nat} {l : List StM} (h : StSl w (some ⟨b, off, none⟩) l) (n : Nat) : StSl w (some ⟨b, off + n * 4, none⟩) (l.drop n) := fun k hk => by
 have hk2 : n + k < l.length := by simp at hk; omega
 obtain ⟨b', off', e, hlt, h0, h1, h2, h3⟩ := h (n + k) hk2
 cases e
 rw [List.getElem_drop]
 have e1 : off + n * 4 + k * 4 = off + (n + k) * 4 := by omega
 exact ⟨b, off + n * 4, rfl, hlt, by rw [e1]; exact h0, by rw [e1]; exact h1, by rw [e1]; exact h2, by rw [e1]; exact h3⟩
theorem StSl.cells {w : World} {a : Option Addr} {l : List StM} (h : StSl w a l) : ∀ ad, a = some ad → ∀ j u, (sts l)[j]? = some u → w.cell? (ad.add j) = some u := fun ad ha j u hu => by
 have hj : j < l.length * 4 := by rw [← sts_len]; exact (List.getElem?_eq_some_iff.1 hu).1
 have hk : j / 4 < l.length := by omega
 obtain ⟨b, off, e, _, h1, h2, h3, h4⟩ := h (j / 4) hk
 rw [ha] at e
 cases e
 obtain ⟨g1, g2, g3, g4⟩ := sts_get l (j / 4) hk
 have hadd : (⟨b, off, none⟩ : Addr).add j = ⟨b, off + j, none⟩ := by
  unfold Addr.add
  split
  ·rename_i h; subst h; rfl
  ·rfl
 rw [hadd]
 have hd : j = j / 4 * 4 ∨ j = j / 4 * 4 + 1 ∨ j = j / 4 * 4 + 2 ∨ j = j / 4 * 4 + 3 := by omega
 generalize j / 4 = k at *
 rcases hd with rfl | rfl | rfl | rfl
 ·rw [g1] at hu
  cases hu
  exact h1
 ·rw [g2] at hu
  cases hu
  exact h2
 ·rw [g3] at hu
  cases hu
  exact h3
 ·rw [g4] at hu
  cases hu
  exact h4
theorem four_one (a b c d : Int) : ∀ u ∈ [Value.int .i64 a, .int .i64 b, .int .i64 c, .int .i64 d], u.oneCell' = true := by
 intro u hu
 simp only [List.mem_cons, List.mem_nil_iff, or_false] at hu
 rcases hu with rfl | rfl | rfl | rfl <;> rfl
theorem sts_one (l : List StM) : ∀ u ∈ sts l, u.oneCell' = true := fun u hu => by
 unfold sts at hu
 obtain ⟨y, _, hy⟩ := List.mem_flatMap.1 hu
 exact four_one _ _ _ _ u hy
theorem own_st {w : World} {B e : Nat} {v : Value} {l : List StM} (h : w.ownsRow B e 4 v l.length (sts l)) : ∃ a c, v = .slice a l.length c ∧ l.length ≤ c ∧ c ≤ maxLen ∧ StSl w a l ∧ (a = none → c = 0) := by
 rcases h.2 with ⟨rfl, hn⟩ | ⟨g, cap, cur, rfl, hg, hh, hn, hc, hsz, ht⟩
 ·have : l = [] := List.eq_nil_of_length_eq_zero hn
  subst this
  exact ⟨none, 0, rfl, Nat.le_refl _, by unfold maxLen; omega, StSl.nil _ _, fun _ => rfl⟩
 ·have hlt : g < w.heap.size := by
   rcases Nat.lt_or_ge g w.heap.size with h1 | h1
   ·exact h1
   ·rw [Array.getElem?_eq_none h1] at hh; cases hh
  refine ⟨_, cap, rfl, hn, hc, fun k hk => ⟨g, 0, rfl, hlt, ?_, ?_, ?_, ?_⟩, fun e => by cases e⟩
  ·have hg := (sts_get l k hk).1
   rw [← ht, List.getElem?_take, if_pos (by omega), Array.getElem?_toList] at hg
   rw [cell_of_row w g _ cur e (0, 0) hh, Nat.zero_add, hg]
  ·have hg := (sts_get l k hk).2.1
   rw [← ht, List.getElem?_take, if_pos (by omega), Array.getElem?_toList] at hg
   rw [cell_of_row w g _ cur e (0, 0) hh, Nat.zero_add, hg]
  ·have hg := (sts_get l k hk).2.2.1
   rw [← ht, List.getElem?_take, if_pos (by omega), Array.getElem?_toList] at hg
   rw [cell_of_row w g _ cur e (0, 0) hh, Nat.zero_add, hg]
  ·have hg := (sts_get l k hk).2.2.2
   rw [← ht, List.getElem?_take, if_pos (by omega), Array.getElem?_toList] at hg
   rw [cell_of_row w g _ cur e (0, 0) hh, Nat.zero_add, hg]
theorem cells_st (W : World) (l : List StM) (xs : Array Value) (t : TypeId) (g : Nat) (hg : g = W.heap.size) (hx : xs.toList = sts l) : StSl (W.alloc (.cells xs t)) (some ⟨g, 0, none⟩) l := fun k hk => by
 subst hg
 obtain ⟨g1, g2, g3, g4⟩ := sts_get l k hk
 rw [← hx, Array.getElem?_toList] at g1 g2 g3 g4
 refine ⟨W.heap.size, 0, rfl, by rw [size1]; omega, ?_, ?_, ?_, ?_⟩
 ·rw [cell_of_row _ _ _ xs t (0, 0) (heap_alloc_new W _), Nat.zero_add, g1]
 ·rw [cell_of_row _ _ _ xs t (0, 0) (heap_alloc_new W _), Nat.zero_add, g2]
 ·rw [cell_of_row _ _ _ xs t (0, 0) (heap_alloc_new W _), Nat.zero_add, g3]
 ·rw [cell_of_row _ _ _ xs t (0, 0) (heap_alloc_new W _), Nat.zero_add, g4]
def stV (s : StM) : Value := .agg #[.int .i64 s.f, .int .i64 s.t, .int .i64 s.n, .int .i64 s.s]
theorem infoStay : (Tryz.prog.info? 111).map (fun i => (i.zero, i.size, i.bytes)) = some (some (.agg #[.int .i64 0, .int .i64 0, .int .i64 0, .int .i64 0]), 4, 32) := by kernel_rfl
theorem cells4 {g : Nat} {a b c d : Value} {t : TypeId} {W : World} (h : W.heap[g]? = some (.cells #[a, b, c, d] t (0, 0))) : W.cell? ⟨g, 0, none⟩ = some a ∧ W.cell? ⟨g, 1, none⟩ = some b ∧ W.cell? ⟨g, 2, none⟩ = some c ∧ W.cell? ⟨g, 3, none⟩ = some d :=
 ⟨cell_of_row _ _ _ _ _ _ h, cell_of_row _ _ _ _ _ _ h, cell_of_row _ _ _ _ _ _ h, cell_of_row _ _ _ _ _ _ h⟩
theorem wpList_append_st {P : Program} (w : World) {ops : Array Oper} {rest : List Oper} {o : Oper} {a : Act} {Q : Exit → Act → World → Prop} (hgd : o.guard = none) (s x : Operand) (t : TypeId)
  (ho : o.op = .call { callee := .builtin .append, args := #[s, x], argTypes := #[t, t] })
  (base : Nat) (e : TypeId) (i : TypeInfo) (z : Value) (ht : P.underlying t = some (.slice e)) (hi : P.info? e = some i) (hz : i.zero = some z)
  (hsize : i.size = 4) (hby : i.bytes = 32) (hzs : z.cells.size = 4)
  (v : Value) (l : List StM) (hs : a.eval s = v) (hown : w.ownsRow base e 4 v l.length (sts l))
  (A : Option Addr) (c : Nat) (m : List StM) (hx : a.eval x = .slice A m.length c) (hsl : StSl w A m) (hnil : A = none → c = 0)
  (hlen : l.length + m.length ≤ 1000000) (hbase : base ≤ w.heap.size)
  (h : ∀ v' w', w'.ownsRow base e 4 v' (l ++ m).length (sts (l ++ m)) → Below base w w' → wpList P ops Q rest (a.put o.dst v') w') : wpList P ops Q (o :: rest) a w := by
 rw [List.length_append, sts_append] at h
 cases A with
 | none =>
  have hc := hnil rfl
  subst hc
  have hm0 : m = [] := by
   cases m with
   | nil => rfl
   | cons y m => obtain ⟨_, _, e, _⟩ := hsl 0 (by simp); cases e
  subst hm0
  exact wpList_append_own_none hgd s x t ho base e i 4 ht hi v l.length (sts l) hs hown hx (h v w (by simpa [sts] using hown) (Below.refl _ _))
 | some ad =>
  exact wpList_append_own w hgd s x t ho base e i z 4 32 ht hi hz hsize hby hzs (by decide) v l.length (sts l) hs hown ad m.length c (sts m) hx (sts_len m) (hsl.cells ad rfl) (sts_one m) (by unfold maxLen; omega) (by omega) hbase (fun v' w' h2 h3 _ => h v' w' h2 (app_below (Below.refl _ _) hbase hown h3))
end Go.Proofs.YtmfpjapiijgdgaaGreat
namespace Go.Proofs.YtmfpjapiijgdgaaGreat
open Go.RowKit Go.Sort Go.Proofs
set_option linter.unusedVariables false
set_option maxRecDepth 100000
set_option maxRecDepth 100000
def Grew (w w' : World) : Prop := ∃ q os, w' = grow (w.drewN q) os
theorem Grew.refl (w : World) : Grew w w := ⟨0, #[], by rw [grow_empty]; rfl⟩
theorem Grew.drew {w w' : World} (h : Grew w w') : Grew w w'.drew := by
 obtain ⟨q, os, rfl⟩ := h
 exact ⟨q + 1, os, rfl⟩
theorem Grew.alloc {w w' : World} (h : Grew w w') (o : Obj) : Grew w (w'.alloc o) := by
 obtain ⟨q, os, rfl⟩ := h
 exact ⟨q, os ++ #[o], by rw [alloc_eq_grow, grow_grow]⟩
theorem Grew.trans {a b c : World} (h : Grew a b) (k : Grew b c) : Grew a c := by
 obtain ⟨q, os, rfl⟩ := h
 obtain ⟨q', os', rfl⟩ := k
 exact ⟨q + q', os ++ os', by show grow (grow ((a.drewN q).drewN q') os) os' = _; rw [grow_grow, World.drewN_drewN]⟩
theorem Grew.below {w w' : World} (h : Grew w w') {B : Nat} (hB : B ≤ w.heap.size) : Below B w w' := by
 obtain ⟨q, os, rfl⟩ := h
 exact below_grown_sl B w q os hB
theorem infoStay4 : (Tryz.prog.info? 111).map (·.size) = some 4 := by kernel_rfl
theorem loadSt {W : World} {g : Nat} {a b c d : Value} {t : TypeId} (h : W.heap[g]? = some (.cells #[a, b, c, d] t (0, 0))) :
  (loadVar 111 ⟨g, 0, none⟩).run Tryz.prog W = .ok (.agg #[a, b, c, d]) W :=
 run_loadVar_mid (P := Tryz.prog) W g 0 111 [a, b, c, d] _ (fun j v hv => by
  rw [Nat.zero_add, cell_of_row _ _ _ _ _ (0, 0) h]
  simpa using hv) Tryz.underlying111 rfl infoStay4
set_option maxHeartbeats 1000000 in
theorem ahead_any (a b : StM) (w : World) : Calls Tryz.prog 157 #[stV a, stV b] w fun e w' => e = .returned (.bool (decide (ltSt a b))) ∧ Grew w w' := by
 have HG := Lib.hid (fun o p => ((Grew.refl w).alloc o).alloc p)
 unfold stV
 obtain ⟨f1, t1, n1, s1⟩ := a
 obtain ⟨f2, t2, n2, s2⟩ := b
 have HR : Hid (∀ c : Bool, (c = true ↔ ltSt ⟨f1, t1, n1, s1⟩ ⟨f2, t2, n2, s2⟩) → c = decide (ltSt ⟨f1, t1, n1, s1⟩ ⟨f2, t2, n2, s2⟩)) := fun c h => by
  cases c with
  | true => exact (decide_eq_true (h.1 rfl)).symm
  | false => exact (decide_eq_false (fun k => by cases h.2 k)).symm
 dsimp only
 by_cases h0 : f1 = f2
 ·subst h0
  by_cases h1 : t1 = t2
  ·subst h1
   by_cases h2 : n1 = n2
   ·subst h2
    go_enter Tryz.func157, Tryz.ntmps157
    go_wp2
    go_ret
    exact ⟨retB (HR.out _ (by unfold ltSt; simp)), HG.out _ _⟩
   ·have e2 : (n1 == n2) = false := beq_eq_false_iff_ne.2 h2
    go_enter Tryz.func157, Tryz.ntmps157
    go_wp2
    go_ret
    exact ⟨retB (HR.out _ (by unfold ltSt; simp [h2])), HG.out _ _⟩
  ·have e1 : (t1 == t2) = false := beq_eq_false_iff_ne.2 h1
   go_enter Tryz.func157, Tryz.ntmps157
   go_wp2
   go_ret
   exact ⟨retB (HR.out _ (by unfold ltSt; simp [h1])), HG.out _ _⟩
 ·have e0 : (f1 == f2) = false := beq_eq_false_iff_ne.2 h0
  go_enter Tryz.func157, Tryz.ntmps157
  go_wp2
  go_ret
  exact ⟨retB (HR.out _ (by unfold ltSt; simp [h0])), HG.out _ _⟩
theorem one_any (f t n s : Int) (w : World) : Calls Tryz.prog 111 #[.int .i64 f, .int .i64 t, .int .i64 n, .int .i64 s] w fun e w' => e = .returned (.agg #[.int .i64 f, .int .i64 t, .int .i64 n, .int .i64 s]) ∧ w' = w.alloc (.cells #[.int .i64 f, .int .i64 t, .int .i64 n, .int .i64 s] 111) := by
 have HL := Lib.hid (loadSt (heap_alloc_new w (.cells #[.int .i64 f, .int .i64 t, .int .i64 n, .int .i64 s] 111)))
 go_enter Tryz.func111, Tryz.ntmps111
 go_wp2
 refine bodyPost_ret (v := .agg #[.int .i64 f, .int .i64 t, .int .i64 n, .int .i64 s]) ?_ rfl ?_
 ·rw [results_cell1 rfl]
  simp [asAddr, Result.andThen, HL.out]
 ·exact ⟨rfl, rfl⟩
set_option maxHeartbeats 1000000 in
theorem new_any (x : StM) (w : World) : Calls Tryz.prog 57 #[stV x] w fun e w' => e = .returned (stV x) ∧ Grew w w' := by
 unfold stV
 obtain ⟨f, t, n, s⟩ := x
 dsimp only
 have HO := Lib.hid one_any
 have HL : Hid (∀ o1 o3 : Obj, (loadVar 111 ⟨w.heap.size + 1, 0, none⟩).run Tryz.prog (((w.alloc o1).alloc (.cells #[.int .i64 f, .int .i64 t, .int .i64 n, .int .i64 s] 111)).alloc o3) = .ok (.agg #[.int .i64 f, .int .i64 t, .int .i64 n, .int .i64 s]) (((w.alloc o1).alloc (.cells #[.int .i64 f, .int .i64 t, .int .i64 n, .int .i64 s] 111)).alloc o3)) := fun o1 o3 => by
  have := heap_alloc_new (w.alloc o1) (.cells #[.int .i64 f, .int .i64 t, .int .i64 n, .int .i64 s] 111)
  rw [size1] at this
  exact loadSt ((Below.heap_alloc _ o3 _ (by rw [size1, size1]; omega)).trans this)
 have HG := Lib.hid (fun o p r => (((Grew.refl w).alloc o).alloc p).alloc r)
 go_enter Tryz.func57, Tryz.ntmps57
 go_wp2_with (go_at_call 111; refine (HO.out _ _ _ _ _).mono ?_; rintro e w' ⟨rfl, rfl⟩)
 refine bodyPost_ret (v := .agg #[.int .i64 f, .int .i64 t, .int .i64 n, .int .i64 s]) ?_ rfl ?_
 ·rw [results_cell1 rfl]
  simp [asAddr, Result.andThen, HL.out]
 ·exact ⟨rfl, HG.out _ _ _⟩
def orL : List Int → Int
 | [] => 0
 | x :: l => if x = 0 then orL l else x
theorem orL_drop {l : List Int} {j : Nat} (h : j < l.length) : orL (l.drop j) = if l[j] = 0 then orL (l.drop (j + 1)) else l[j] := by
 rw [List.drop_eq_getElem_cons h]; rfl
theorem or_any (a : Option Addr) (c : Nat) (l : List Int) (w : World) (hr : Sl w a (ints l)) (hl : l.length ≤ 1000) :
  Calls Tryz.prog 167 #[.slice a l.length c] w fun e w' => e = .returned (.int .i64 (orL l)) ∧ w' = w := by
 have HR := Lib.hid hr
 clear hr
 go_enter Tryz.func167, Tryz.ntmps167
 go_wp2
 go_loopw [8] (fun i wr => ∃ (j : Nat), j ≤ l.length ∧ i = .int .i64 j ∧ Hid (orL l = orL (l.drop j)) ∧ wr = w) (fun i _ => l.length - (intOf i).toNat)
 case atStart => exact ⟨0, by omega, rfl, rfl, rfl⟩
 case round =>
  obtain ⟨j, hj, rfl, HF, rfl⟩ := hrel
  by_cases hjl : j < l.length
  ·obtain ⟨b, off, rfl, hbl, hc0⟩ := ints_at HR.out hjl
   have HN := Lib.hid (HF.out.trans (orL_drop hjl))
   generalize l[j] = x at *
   by_cases h : x = 0
   ·subst h
    clear HF
    go_wp2
    go_roundw
    case rel => exact ⟨j + 1, by omega, by go_num, HN.out, trivial⟩
    case measure => simp [intOf]; omega
   ·have he : (x == 0) = false := beq_eq_false_iff_ne.2 h
    have HN2 : Hid (orL l = x) := by
     have := HN.out
     rw [if_neg h] at this
     exact this
    clear HN HF
    go_wp2
    go_ret
    exact ⟨by rw [HN2.out]; rfl, rfl⟩
  ·obtain rfl : j = l.length := by omega
   have HN2 : Hid (orL l = 0) := by
    have := HF.out
    rw [List.drop_eq_nil_of_le (Nat.le_refl _)] at this
    exact this
   go_wp2
   go_ret
   exact ⟨by rw [HN2.out]; rfl, rfl⟩
end Go.Proofs.YtmfpjapiijgdgaaGreat
namespace Go.Proofs.YtmfpjapiijgdgaaGreat
open Go.RowKit
set_option linter.unusedVariables false
set_option maxRecDepth 100000
set_option maxRecDepth 100000
def encO (s : OpM) : List Value := [.int .i64 s.n, .string s.u, .int .i64 s.s, .int .i64 s.f]
def oes (l : List OpM) : List Value := l.flatMap encO
theorem oes_cons (s : OpM) (l : List OpM) : oes (s :: l) = encO s ++ oes l := by simp [oes]
theorem oes_len (l : List OpM) : (oes l).length = l.length * 4 := by
 induction l with
 | nil => rfl
 | cons e l ih => rw [oes_cons, List.length_append, ih, List.length_cons]; simp only [encO, List.length_cons, List.length_nil]; omega
theorem oes_append (l m : List OpM) : oes (l ++ m) = oes l ++ oes m := by simp [oes]
theorem oes_snoc (l : List OpM) (x : OpM) : oes (l ++ [x]) = oes l ++ [.int .i64 x.n, .string x.u, .int .i64 x.s, .int .i64 x.f] := by simp [oes, encO]
theorem oes_take (l : List OpM) (j : Nat) (h : j < l.length) : oes (l.take (j + 1)) = oes (l.take j) ++ [.int .i64 l[j].n, .string l[j].u, .int .i64 l[j].s, .int .i64 l[j].f] := by
 rw [List.take_succ_eq_append_getElem h]; exact oes_snoc _ _
theorem oes_get (l : List OpM) : ∀ (k : Nat) (h : k < l.length), (oes l)[k * 4]? = some (.int .i64 l[k].n) ∧ (oes l)[k * 4 + 1]? = some (.string l[k].u) ∧ (oes l)[k * 4 + 2]? = some (.int .i64 l[k].s) ∧ (oes l)[k * 4 + 3]? = some (.int .i64 l[k].f) := by
 induction l with
 | nil => intro k h; exact absurd h (by simp)
 | cons x l ih =>
  intro k h
  rw [oes_cons]
  cases k with
  | zero => exact ⟨rfl, rfl, rfl, rfl⟩
  | succ k =>
   have := ih k (by simpa using h)
   rw [show (k + 1) * 4 = k * 4 + 1 + 1 + 1 + 1 by omega]
   simpa [encO] using this
def OpSl (w : World) (a : Option Addr) (l : List OpM) : Prop := ∀ k (h : k < l.length), ∃ b off, a = some ⟨b, off, none⟩ ∧ b < w.heap.size ∧
 w.cell? ⟨b, off + k * 4, none⟩ = some (.int .i64 l[k].n) ∧ w.cell? ⟨b, off + k * 4 + 1, none⟩ = some (.string l[k].u) ∧ w.cell? ⟨b, off + k * 4 + 2, none⟩ = some (.int .i64 l[k].s) ∧ w.cell? ⟨b, off + k * 4 + 3, none⟩ = some (.int .i64 l[k].f)
theorem OpSl.nil (w : World) (a : Option Addr) : OpSl w a [] := fun k h => absurd h (by simp)
theorem OpSl.below {w w' : World} {a : Option Addr} {l : List OpM} (h : OpSl w a l) (hb : Below w.heap.size w w') : OpSl w' a l := fun k hk => by
 obtain ⟨b, off, e, hlt, h0, h1, h2, h3⟩ := h k hk
 exact ⟨b, off, e, Nat.lt_of_lt_of_le hlt hb.size, (hb.cell (p := ⟨b, off + k * 4, none⟩) hlt).trans h0, (hb.cell (p := ⟨b, off + k * 4 + 1, none⟩) hlt).trans h1, (hb.cell (p := ⟨b, off + k * 4 + 2, none⟩) hlt).trans h2, (hb.cell (p := ⟨b, off + k * 4 + 3, none⟩) hlt).trans h3⟩
theorem OpSl.at_ {w : World} {a : Option Addr} {l : List OpM} (h : OpSl w a l) {k : Nat} (hk : k < l.length) : ∃ b off, a = some ⟨b, off, none⟩ ∧ b < w.heap.size ∧
  w.cell? ⟨b, off + k * 4, none⟩ = some (.int .i64 l[k].n) ∧ w.cell? ⟨b, off + k * 4 + 1, none⟩ = some (.string l[k].u) ∧ w.cell? ⟨b, off + k * 4 + 2, none⟩ = some (.int .i64 l[k].s) ∧ w.cell? ⟨b, off + k * 4 + 3, none⟩ = some (.int .i64 l[k].f) := h k hk
theorem OpSl.take {w : World} {a : Option Addr} {l : List OpM} (h : OpSl w a l) (n : Nat) : OpSl w a (l.take n) := fun k hk => by
 have hk2 : k < l.length := by simp at hk; omega
 obtain ⟨b, off, e, hlt, h0, h1, h2, h3⟩ := h k hk2
 rw [List.getElem_take]
 exact ⟨b, off, e, hlt, h0, h1, h2, h3⟩
theorem OpSl.drop {w : World} {b off : Nat} {l : List OpM} (h : OpSl w (some ⟨b, off, none⟩) l) (n : Nat) : OpSl w (some ⟨b, off + n * 4, none⟩) (l.drop n) := fun k hk => by
 have hk2 : n + k < l.length := by simp at hk; omega
 obtain ⟨b', off', e, hlt, h0, h1, h2, h3⟩ := h (n + k) hk2
 cases e
 rw [List.getElem_drop]
 have e1 : off + n * 4 + k * 4 = off + (n + k) * 4 := by omega
 exact ⟨b, off + n * 4, rfl, hlt, by rw [e1]; exact h0, by rw [e1]; exact h1, by rw [e1]; exact h2, by rw [e1]; exact h3⟩
theorem OpSl.cells {w : World} {a : Option Addr} {l : List OpM} (h : OpSl w a l) : ∀ ad, a = some ad → ∀ j u, (oes l)[j]? = some u → w.cell? (ad.add j) = some u := fun ad ha j u hu => by
 have hj : j < l.length * 4 := by rw [← oes_len]; exact (List.getElem?_eq_some_iff.1 hu).1
 have hk : j / 4 < l.length := by omega
 obtain ⟨b, off, e, _, h1, h2, h3, h4⟩ := h (j / 4) hk
 rw [ha] at e
 cases e
 obtain ⟨g1, g2, g3, g4⟩ := oes_get l (j / 4) hk
 have hadd : (⟨b, off, none⟩ : Addr).add j = ⟨b, off + j, none⟩ := by
  unfold Addr.add
  split
  ·rename_i h; subst h; rfl
  ·rfl
 rw [hadd]
 have hd : j = j / 4 * 4 ∨ j = j / 4 * 4 + 1 ∨ j = j / 4 * 4 + 2 ∨ j = j / 4 * 4 + 3 := by omega
 generalize j / 4 = k at *
 rcases hd with rfl | rfl | rfl | rfl
 ·rw [g1] at hu
  cases hu
  exact h1
 ·rw [g2] at hu
  cases hu
  exact h2
 ·rw [g3] at hu
  cases hu
  exact h3
 ·rw [g4] at hu
  cases hu
  exact h4
theorem four_o (a : Int) (b : ByteArray) (c d : Int) : ∀ u ∈ [Value.int .i64 a, .string b, .int .i64 c, .int .i64 d], u.oneCell' = true := by
 intro u hu
 simp only [List.mem_cons, List.mem_nil_iff, or_false] at hu
 rcases hu with rfl | rfl | rfl | rfl <;> rfl
theorem oes_one (l : List OpM) : ∀ u ∈ oes l, u.oneCell' = true := fun u hu => by
 unfold oes at hu
 obtain ⟨y, _, hy⟩ := List.mem_flatMap.1 hu
 exact four_o _ _ _ _ u hy
theorem own_op {w : World} {B e : Nat} {v : Value} {l : List OpM} (h : w.ownsRow B e 4 v l.length (oes l)) : ∃ a c, v = .slice a l.length c ∧ l.length ≤ c ∧ c ≤ maxLen ∧ OpSl w a l ∧ (a = none → c = 0) := by
 rcases h.2 with ⟨rfl, hn⟩ | ⟨g, cap, cur, rfl, hg, hh, hn, hc, hsz, ht⟩
 ·have : l = [] := List.eq_nil_of_length_eq_zero hn
  subst this
  exact ⟨none, 0, rfl, Nat.le_refl _, by unfold maxLen; omega, OpSl.nil _ _, fun _ => rfl⟩
 ·have hlt : g < w.heap.size := by
   rcases Nat.lt_or_ge g w.heap.size with h1 | h1
   ·exact h1
   ·rw [Array.getElem?_eq_none h1] at hh; cases hh
  refine ⟨_, cap, rfl, hn, hc, fun k hk => ⟨g, 0, rfl, hlt, ?_, ?_, ?_, ?_⟩, fun e => by cases e⟩
  ·have hg := (oes_get l k hk).1
   rw [← ht, List.getElem?_take, if_pos (by omega), Array.getElem?_toList] at hg
   rw [cell_of_row w g _ cur e (0, 0) hh, Nat.zero_add, hg]
  ·have hg := (oes_get l k hk).2.1
   rw [← ht, List.getElem?_take, if_pos (by omega), Array.getElem?_toList] at hg
   rw [cell_of_row w g _ cur e (0, 0) hh, Nat.zero_add, hg]
  ·have hg := (oes_get l k hk).2.2.1
   rw [← ht, List.getElem?_take, if_pos (by omega), Array.getElem?_toList] at hg
   rw [cell_of_row w g _ cur e (0, 0) hh, Nat.zero_add, hg]
  ·have hg := (oes_get l k hk).2.2.2
   rw [← ht, List.getElem?_take, if_pos (by omega), Array.getElem?_toList] at hg
   rw [cell_of_row w g _ cur e (0, 0) hh, Nat.zero_add, hg]
theorem cells_op (W : World) (l : List OpM) (xs : Array Value) (t : TypeId) (g : Nat) (hg : g = W.heap.size) (hx : xs.toList = oes l) : OpSl (W.alloc (.cells xs t)) (some ⟨g, 0, none⟩) l := fun k hk => by
 subst hg
 obtain ⟨g1, g2, g3, g4⟩ := oes_get l k hk
 rw [← hx, Array.getElem?_toList] at g1 g2 g3 g4
 refine ⟨W.heap.size, 0, rfl, by rw [size1]; omega, ?_, ?_, ?_, ?_⟩
 ·rw [cell_of_row _ _ _ xs t (0, 0) (heap_alloc_new W _), Nat.zero_add, g1]
 ·rw [cell_of_row _ _ _ xs t (0, 0) (heap_alloc_new W _), Nat.zero_add, g2]
 ·rw [cell_of_row _ _ _ xs t (0, 0) (heap_alloc_new W _), Nat.zero_add, g3]
 ·rw [cell_of_row _ _ _ xs t (0, 0) (heap_alloc_new W _), Nat.zero_add, g4]
def opV (s : OpM) : Value := .agg #[.int .i64 s.n, .string s.u, .int .i64 s.s, .int .i64 s.f]
theorem infoOp : (Tryz.prog.info? 184).map (fun i => (i.zero, i.size, i.bytes)) = some (some (.agg #[.int .i64 0, .string ⟨#[]⟩, .int .i64 0, .int .i64 0]), 4, 40) := by kernel_rfl
theorem wpList_append_op {P : Program} (w : World) {ops : Array Oper} {rest : List Oper} {o : Oper} {a : Act} {Q : Exit → Act → World → Prop} (hgd : o.guard = none) (s x : Operand) (t : TypeId)
  (ho : o.op = .call { callee := .builtin .append, args := #[s, x], argTypes := #[t, t] })
  (base : Nat) (e : TypeId) (i : TypeInfo) (z : Value) (ht : P.underlying t = some (.slice e)) (hi : P.info? e = some i) (hz : i.zero = some z)
  (hsize : i.size = 4) (hby : i.bytes = 40) (hzs : z.cells.size = 4)
  (v : Value) (l : List OpM) (hs : a.eval s = v) (hown : w.ownsRow base e 4 v l.length (oes l))
  (A : Option Addr) (c : Nat) (m : List OpM) (hx : a.eval x = .slice A m.length c) (hsl : OpSl w A m) (hnil : A = none → c = 0)
  (hlen : l.length + m.length ≤ 1000000) (hbase : base ≤ w.heap.size)
  (h : ∀ v' w', w'.ownsRow base e 4 v' (l ++ m).length (oes (l ++ m)) → Below base w w' → wpList P ops Q rest (a.put o.dst v') w') : wpList P ops Q (o :: rest) a w := by
 rw [List.length_append, oes_append] at h
 cases A with
 | none =>
  have hc := hnil rfl
  subst hc
  have hm0 : m = [] := by
   cases m with
   | nil => rfl
   | cons y m => obtain ⟨_, _, e, _⟩ := hsl 0 (by simp); cases e
  subst hm0
  exact wpList_append_own_none hgd s x t ho base e i 4 ht hi v l.length (oes l) hs hown hx (h v w (by simpa [oes] using hown) (Below.refl _ _))
 | some ad =>
  exact wpList_append_own w hgd s x t ho base e i z 4 40 ht hi hz hsize hby hzs (by decide) v l.length (oes l) hs hown ad m.length c (oes m) hx (oes_len m) (hsl.cells ad rfl) (oes_one m) (by unfold maxLen; omega) (by omega) hbase (fun v' w' h2 h3 _ => h v' w' h2 (app_below (Below.refl _ _) hbase hown h3))
def encE (s : EnM) : List Value := [.string s.w, .string s.u, .int .i64 s.f, .int .i64 s.t]
def ens (l : List EnM) : List Value := l.flatMap encE
theorem ens_cons (s : EnM) (l : List EnM) : ens (s :: l) = encE s ++ ens l := by simp [ens]
theorem ens_len (l : List EnM) : (ens l).length = l.length * 4 := by
 induction l with
 | nil => rfl
 | cons e l ih => rw [ens_cons, List.length_append, ih, List.length_cons]; simp only [encE, List.length_cons, List.length_nil]; omega
theorem ens_append (l m : List EnM) : ens (l ++ m) = ens l ++ ens m := by simp [ens]
theorem ens_snoc (l : List EnM) (x : EnM) : ens (l ++ [x]) = ens l ++ [.string x.w, .string x.u, .int .i64 x.f, .int .i64 x.t] := by simp [ens, encE]
theorem ens_take (l : List EnM) (j : Nat) (h : j < l.length) : ens (l.take (j + 1)) = ens (l.take j) ++ [.string l[j].w, .string l[j].u, .int .i64 l[j].f, .int .i64 l[j].t] := by
 rw [List.take_succ_eq_append_getElem h]; exact ens_snoc _ _
theorem ens_get (l : List EnM) : ∀ (k : Nat) (h : k < l.length), (ens l)[k * 4]? = some (.string l[k].w) ∧ (ens l)[k * 4 + 1]? = some (.string l[k].u) ∧ (ens l)[k * 4 + 2]? = some (.int .i64 l[k].f) ∧ (ens l)[k * 4 + 3]? = some (.int .i64 l[k].t) := by
 induction l with
 | nil => intro k h; exact absurd h (by simp)
 | cons x l ih =>
  intro k h
  rw [ens_cons]
  cases k with
  | zero => exact ⟨rfl, rfl, rfl, rfl⟩
  | succ k =>
   have := ih k (by simpa using h)
   rw [show (k + 1) * 4 = k * 4 + 1 + 1 + 1 + 1 by omega]
   simpa [encE] using this
def EnSl (w : World) (a : Option Addr) (l : List EnM) : Prop := ∀ k (h : k < l.length), ∃ b off, a = some ⟨b, off, none⟩ ∧ b < w.heap.size ∧
 w.cell? ⟨b, off + k * 4, none⟩ = some (.string l[k].w) ∧ w.cell? ⟨b, off + k * 4 + 1, none⟩ = some (.string l[k].u) ∧ w.cell? ⟨b, off + k * 4 + 2, none⟩ = some (.int .i64 l[k].f) ∧ w.cell? ⟨b, off + k * 4 + 3, none⟩ = some (.int .i64 l[k].t)
theorem EnSl.nil (w : World) (a : Option Addr) : EnSl w a [] := fun k h => absurd h (by simp)
theorem EnSl.below {w w' : World} {a : Option Addr} {l : List EnM} (h : EnSl w a l) (hb : Below w.heap.size w w') : EnSl w' a l := fun k hk => by
 obtain ⟨b, off, e, hlt, h0, h1, h2, h3⟩ := h k hk
 exact ⟨b, off, e, Nat.lt_of_lt_of_le hlt hb.size, (hb.cell (p := ⟨b, off + k * 4, none⟩) hlt).trans h0, (hb.cell (p := ⟨b, off + k * 4 + 1, none⟩) hlt).trans h1, (hb.cell (p := ⟨b, off + k * 4 + 2, none⟩) hlt).trans h2, (hb.cell (p := ⟨b, off + k * 4 + 3, none⟩) hlt).trans h3⟩
theorem EnSl.at_ {w : World} {a : Option Addr} {l : List EnM} (h : EnSl w a l) {k : Nat} (hk : k < l.length) : ∃ b off, a = some ⟨b, off, none⟩ ∧ b < w.heap.size ∧
  w.cell? ⟨b, off + k * 4, none⟩ = some (.string l[k].w) ∧ w.cell? ⟨b, off + k * 4 + 1, none⟩ = some (.string l[k].u) ∧ w.cell? ⟨b, off + k * 4 + 2, none⟩ = some (.int .i64 l[k].f) ∧ w.cell? ⟨b, off + k * 4 + 3, none⟩ = some (.int .i64 l[k].t) := h k hk
theorem EnSl.take {w : World} {a : Option Addr} {l : List EnM} (h : EnSl w a l) (n : Nat) : EnSl w a (l.take n) := fun k hk => by
 have hk2 : k < l.length := by simp at hk; omega
 obtain ⟨b, off, e, hlt, h0, h1, h2, h3⟩ := h k hk2
 rw [List.getElem_take]
 exact ⟨b, off, e, hlt, h0, h1, h2, h3⟩
theorem EnSl.drop {w : World} {b off : Nat} {l : List EnM} (h : EnSl w (some ⟨b, off, none⟩) l) (n : Nat) : EnSl w (some ⟨b, off + n * 4, none⟩) (l.drop n) := fun k hk => by
 have hk2 : n + k < l.length := by simp at hk; omega
 obtain ⟨b', off', e, hlt, h0, h1, h2, h3⟩ := h (n + k) hk2
 cases e
 rw [List.getElem_drop]
 have e1 : off + n * 4 + k * 4 = off + (n + k) * 4 := by omega
 exact ⟨b, off + n * 4, rfl, hlt, by rw [e1]; exact h0, by rw [e1]; exact h1, by rw [e1]; exact h2, by rw [e1]; exact h3⟩
theorem EnSl.cells {w : World} {a : Option Addr} {l : List EnM} (h : EnSl w a l) : ∀ ad, a = some ad → ∀ j u, (ens l)[j]? = some u → w.cell? (ad.add j) = some u := fun ad ha j u hu => by
 have hj : j < l.length * 4 := by rw [← ens_len]; exact (List.getElem?_eq_some_iff.1 hu).1
 have hk : j / 4 < l.length := by omega
 obtain ⟨b, off, e, _, h1, h2, h3, h4⟩ := h (j / 4) hk
 rw [ha] at e
 cases e
 obtain ⟨g1, g2, g3, g4⟩ := ens_get l (j / 4) hk
 have hadd : (⟨b, off, none⟩ : Addr).add j = ⟨b, off + j, none⟩ := by
  unfold Addr.add
  split
  ·rename_i h; subst h; rfl
  ·rfl
 rw [hadd]
 have hd : j = j / 4 * 4 ∨ j = j / 4 * 4 + 1 ∨ j = j / 4 * 4 + 2 ∨ j = j / 4 * 4 + 3 := by omega
 generalize j / 4 = k at *
 rcases hd with rfl | rfl | rfl | rfl
 ·rw [g1] at hu
  cases hu
  exact h1
 ·rw [g2] at hu
  cases hu
  exact h2
 ·rw [g3] at hu
  cases hu
  exact h3
 ·rw [g4] at hu
  cases hu
  exact h4
theorem four_e (a b : ByteArray) (c d : Int) : ∀ u ∈ [Value.string a, .string b, .int .i64 c, .int .i64 d], u.oneCell' = true := by
 intro u hu
 simp only [List.mem_cons, List.mem_nil_iff, or_false] at hu
 rcases hu with rfl | rfl | rfl | rfl <;> rfl
theorem ens_one (l : List EnM) : ∀ u ∈ ens l, u.oneCell' = true := fun u hu => by
 unfold ens at hu
 obtain ⟨y, _, hy⟩ := List.mem_flatMap.1 hu
 exact four_e _ _ _ _ u hy
theorem own_en {w : World} {B e : Nat} {v : Value} {l : List EnM} (h : w.ownsRow B e 4 v l.length (ens l)) : ∃ a c, v = .slice a l.length c ∧ l.length ≤ c ∧ c ≤ maxLen ∧ EnSl w a l ∧ (a = none → c = 0) := by
 rcases h.2 with ⟨rfl, hn⟩ | ⟨g, cap, cur, rfl, hg, hh, hn, hc, hsz, ht⟩
 ·have : l = [] := List.eq_nil_of_length_eq_zero hn
  subst this
  exact ⟨none, 0, rfl, Nat.le_refl _, by unfold maxLen; omega, EnSl.nil _ _, fun _ => rfl⟩
 ·have hlt : g < w.heap.size := by
   rcases Nat.lt_or_ge g w.heap.size with h1 | h1
   ·exact h1
   ·rw [Array.getElem?_eq_none h1] at hh; cases hh
  refine ⟨_, cap, rfl, hn, hc, fun k hk => ⟨g, 0, rfl, hlt, ?_, ?_, ?_, ?_⟩, fun e => by cases e⟩
  ·have hg := (ens_get l k hk).1
   rw [← ht, List.getElem?_take, if_pos (by omega), Array.getElem?_toList] at hg
   rw [cell_of_row w g _ cur e (0, 0) hh, Nat.zero_add, hg]
  ·have hg := (ens_get l k hk).2.1
   rw [← ht, List.getElem?_take, if_pos (by omega), Array.getElem?_toList] at hg
   rw [cell_of_row w g _ cur e (0, 0) hh, Nat.zero_add, hg]
  ·have hg := (ens_get l k hk).2.2.1
   rw [← ht, List.getElem?_take, if_pos (by omega), Array.getElem?_toList] at hg
   rw [cell_of_row w g _ cur e (0, 0) hh, Nat.zero_add, hg]
  ·have hg := (ens_get l k hk).2.2.2
   rw [← ht, List.getElem?_take, if_pos (by omega), Array.getElem?_toList] at hg
   rw [cell_of_row w g _ cur e (0, 0) hh, Nat.zero_add, hg]
theorem cells_en (W : World) (l : List EnM) (xs : Array Value) (t : TypeId) (g : Nat) (hg : g = W.heap.size) (hx : xs.toList = ens l) : EnSl (W.alloc (.cells xs t)) (some ⟨g, 0, none⟩) l := fun k hk => by
 subst hg
 obtain ⟨g1, g2, g3, g4⟩ := ens_get l k hk
 rw [← hx, Array.getElem?_toList] at g1 g2 g3 g4
 refine ⟨W.heap.size, 0, rfl, by rw [size1]; omega, ?_, ?_, ?_, ?_⟩
 ·rw [cell_of_row _ _ _ xs t (0, 0) (heap_alloc_new W _), Nat.zero_add, g1]
 ·rw [cell_of_row _ _ _ xs t (0, 0) (heap_alloc_new W _), Nat.zero_add, g2]
 ·rw [cell_of_row _ _ _ xs t (0, 0) (heap_alloc_new W _), Nat.zero_add, g3]
 ·rw [cell_of_row _ _ _ xs t (0, 0) (heap_alloc_new W _), Nat.zero_add, g4]
def enV (s : EnM) : Value := .agg #[.string s.w, .string s.u, .int .i64 s.f, .int .i64 s.t]
theorem infoEn : (Tryz.prog.info? 165).map (fun i => (i.zero, i.size, i.bytes)) = some (some (.agg #[.string ⟨#[]⟩, .string ⟨#[]⟩, .int .i64 0, .int .i64 0]), 4, 48) := by kernel_rfl
theorem ecells4 {g : Nat} {a b c d : Value} {t : TypeId} {W : World} (h : W.heap[g]? = some (.cells #[a, b, c, d] t (0, 0))) : W.cell? ⟨g, 0, none⟩ = some a ∧ W.cell? ⟨g, 1, none⟩ = some b ∧ W.cell? ⟨g, 2, none⟩ = some c ∧ W.cell? ⟨g, 3, none⟩ = some d :=
 ⟨cell_of_row _ _ _ _ _ _ h, cell_of_row _ _ _ _ _ _ h, cell_of_row _ _ _ _ _ _ h, cell_of_row _ _ _ _ _ _ h⟩
theorem wpList_append_en {P : Program} (w : World) {ops : Array Oper} {rest : List Oper} {o : Oper} {a : Act} {Q : Exit → Act → World → Prop} (hgd : o.guard = none) (s x : Operand) (t : TypeId)
  (ho : o.op = .call { callee := .builtin .append, args := #[s, x], argTypes := #[t, t] })
  (base : Nat) (e : TypeId) (i : TypeInfo) (z : Value) (ht : P.underlying t = some (.slice e)) (hi : P.info? e = some i) (hz : i.zero = some z)
  (hsize : i.size = 4) (hby : i.bytes = 48) (hzs : z.cells.size = 4)
  (v : Value) (l : List EnM) (hs : a.eval s = v) (hown : w.ownsRow base e 4 v l.length (ens l))
  (A : Option Addr) (c : Nat) (m : List EnM) (hx : a.eval x = .slice A m.length c) (hsl : EnSl w A m) (hnil : A = none → c = 0)
  (hlen : l.length + m.length ≤ 1000000) (hbase : base ≤ w.heap.size)
  (h : ∀ v' w', w'.ownsRow base e 4 v' (l ++ m).length (ens (l ++ m)) → Below base w w' → wpList P ops Q rest (a.put o.dst v') w') : wpList P ops Q (o :: rest) a w := by
 rw [List.length_append, ens_append] at h
 cases A with
 | none =>
  have hc := hnil rfl
  subst hc
  have hm0 : m = [] := by
   cases m with
   | nil => rfl
   | cons y m => obtain ⟨_, _, e, _⟩ := hsl 0 (by simp); cases e
  subst hm0
  exact wpList_append_own_none hgd s x t ho base e i 4 ht hi v l.length (ens l) hs hown hx (h v w (by simpa [ens] using hown) (Below.refl _ _))
 | some ad =>
  exact wpList_append_own w hgd s x t ho base e i z 4 48 ht hi hz hsize hby hzs (by decide) v l.length (ens l) hs hown ad m.length c (ens m) hx (ens_len m) (hsl.cells ad rfl) (ens_one m) (by unfold maxLen; omega) (by omega) hbase (fun v' w' h2 h3 _ => h v' w' h2 (app_below (Below.refl _ _) hbase hown h3))
theorem own_low {w : World} {B B' e k n : Nat} {v : Value} {xs : List Value} (h : w.ownsRow B e k v n xs) (hb : B' ≤ B) : w.ownsRow B' e k v n xs := by
 refine ⟨h.1, ?_⟩
 rcases h.2 with h0 | ⟨g, cap, cur, e0, hg, h1⟩
 ·exact .inl h0
 ·exact .inr ⟨g, cap, cur, e0, Nat.le_trans hb hg, h1⟩
end Go.Proofs.YtmfpjapiijgdgaaGreat
namespace Go.Proofs.YtmfpjapiijgdgaaGreat
open Go.RowKit
set_option linter.unusedVariables false
set_option maxRecDepth 100000
set_option maxHeartbeats 400000 in
theorem all_any (a : Option Addr) (c : Nat) (l : List ByteArray) (w : World) (hr : Sl w a (strs l)) (hf : Fits l) :
  Calls Tryz.prog 162 #[.slice a l.length c] w fun e w' => e = .returned (.bool (l.all nameB)) ∧ w = w' := by
 have hm := hf.1
 unfold maxLen at hm
 have HR := Lib.hid hr
 have HF := Lib.hid hf
 clear hr hf
 go_enter Tryz.func162, Tryz.ntmps162
 go_wp2
 go_loop [7] (fun i => ∃ k : Nat, k ≤ l.length ∧ i = .int .i64 k ∧ Hid ((l.take k).all nameB = true)) (fun i => l.length - (intOf i).toNat)
 case atStart => exact ⟨0, by omega, rfl, by simp [Hid]⟩
 case round =>
  obtain ⟨k, hk, rfl, H⟩ := hrel
  by_cases hlt : k < l.length
  ·obtain ⟨b, off, rfl, hbl, hcell⟩ := HR.out.str hlt
   have hsz : l[k].size ≤ maxLen := HF.out.2 _ (List.getElem_mem hlt)
   cases hB : isName l[k].data.toList
   ·have HB := Lib.hid (all_not_at nameB l k hlt hB)
    go_wp2_with (go_at_call 173; refine (right_any _ _ hsz).mono ?_; rintro e w' ⟨rfl, rfl⟩)
    go_ret
    exact ⟨retB HB.out.symm, rfl⟩
   ·have HB := Lib.hid (all_take_next nameB l k hlt H.out hB)
    go_wp2_with (go_at_call 173; refine (right_any _ _ hsz).mono ?_; rintro e w' ⟨rfl, rfl⟩)
    go_round
    case rel => exact ⟨k + 1, by omega, by go_num, HB⟩
    case measure => simp [intOf]; omega
  ·have HB := Lib.hid (all_take_end nameB l k (by omega) H.out)
   go_wp2
   go_ret
   exact ⟨retB HB.out.symm, rfl⟩
def pr (a b : ByteArray) : Value := .agg #[.string a, .string b]
theorem sl_two (w : World) (x y : Value) (t : TypeId) : Sl (w.alloc (.cells #[x, y] t)) (some ⟨w.heap.size, 0, none⟩) [x, y] := fun k hk => by
 refine ⟨_, _, rfl, by simp, ?_⟩
 match k, hk with
 | 0, _ => simp
 | 1, _ => simp
set_option maxHeartbeats 400000 in
theorem pairRight_any (a b : ByteArray) (w : World) (ha : a.size ≤ maxLen) (hb : b.size ≤ maxLen) :
  Calls Tryz.prog 99 #[pr a b] w fun e w' => e = .returned (.bool (nameB a && nameB b)) ∧ Below w.heap.size w w' := by
 have hall : ∀ t (W : World) (g : Nat), g = W.heap.size → Calls Tryz.prog 162 #[.slice (some ⟨g, 0, none⟩) 2 2] (W.alloc (.cells #[.string a, .string b] t)) fun e w' => e = .returned (.bool (nameB a && nameB b)) ∧ (W.alloc (.cells #[.string a, .string b] t)) = w' := fun t W g hg => by
  subst hg
  have h := all_any (some ⟨W.heap.size, 0, none⟩) 2 [a, b] _ (sl_two W (.string a) (.string b) t) ⟨by simp [maxLen], by simp [ha, hb]⟩
  simpa using h
 have HA := Lib.hid hall
 clear hall
 unfold pr
 go_enter Tryz.func99, Tryz.ntmps99
 go_wp2_with (go_at_call 162; refine (HA.out _ _ _ (by simp)).mono ?_; rintro e w' ⟨rfl, rfl⟩)
 go_ret
 exact ⟨rfl, ((Below.refl _ _).alloc (Nat.le_refl _) _).alloc (by simp) _⟩
set_option maxHeartbeats 400000 in
theorem pairCmp_any (a b c d : ByteArray) (w : World) :
  Calls Tryz.prog 255 #[pr a b, pr c d] w fun e w' => e = .returned (.int .i64 (cmpP a b c d)) ∧ Below w.heap.size w w' := by
 unfold pr
 have HB : Hid (∀ o o', Below w.heap.size w ((w.alloc o).alloc o')) := fun o o' => ((Below.refl _ _).alloc (Nat.le_refl _) _).alloc (by simp) _
 have hcm : ∀ x y W, Calls Tryz.prog 174 #[.string x, .string y] W fun e w' => e = .returned (.int .i64 (cmpS x y)) ∧ W = w' := fun x y W => cmp_any x y W
 have HC := Lib.hid hcm
 clear hcm
 cases h : (cmpS a c != 0)
 ·have HE : Hid (cmpP a b c d = cmpS b d) := if_pos (by simpa using h)
  go_enter Tryz.func255, Tryz.ntmps255
  go_wp2_with (go_at_call 174; refine (HC.out _ _ _).mono ?_; rintro e w' ⟨rfl, rfl⟩)
  go_ret
  exact ⟨retI HE.out.symm, HB.out _ _⟩
 ·have HE : Hid (cmpP a b c d = cmpS a c) := if_neg (by simpa using h)
  go_enter Tryz.func255, Tryz.ntmps255
  go_wp2_with (go_at_call 174; refine (HC.out _ _ _).mono ?_; rintro e w' ⟨rfl, rfl⟩)
  go_ret
  exact ⟨retI HE.out.symm, HB.out _ _⟩
def eqS (a b : ByteArray) : Bool := a.toList == b.toList
theorem eqS_iff (a b : ByteArray) : eqS a b = true ↔ a = b := by
 unfold eqS
 rw [beq_iff_eq, ByteArray.toList_eq, ByteArray.toList_eq]
 constructor
 ·intro h
  cases a; cases b
  simp at h
  rw [h]
 ·intro h; rw [h]
set_option maxHeartbeats 400000 in
theorem pairHas_any (a b s : ByteArray) (w : World) :
  Calls Tryz.prog 265 #[pr a b, .string s] w fun e w' => e = .returned (.bool (eqS s a || eqS s b)) ∧ Below w.heap.size w w' := by
 unfold pr
 have HB : Hid (∀ o, Below w.heap.size w (w.alloc o)) := fun o => (Below.refl _ _).alloc (Nat.le_refl _) _
 cases h : (s.toList == a.toList)
 ·have HE : Hid ((s.toList == b.toList) = (eqS s a || eqS s b)) := by unfold Hid eqS; rw [h]; rfl
  go_enter Tryz.func265, Tryz.ntmps265
  go_wp2
  go_ret
  exact ⟨retB HE.out, HB.out _⟩
 ·have HE : Hid (true = (eqS s a || eqS s b)) := by unfold Hid eqS; rw [h]; rfl
  go_enter Tryz.func265, Tryz.ntmps265
  go_wp2
  go_ret
  exact ⟨retB HE.out, HB.out _⟩
end Go.Proofs.YtmfpjapiijgdgaaGreat
namespace Go.Proofs.YtmfpjapiijgdgaaGreat
open Go.RowKit Go.Sort Go.Proofs
set_option linter.unusedVariables false
set_option maxRecDepth 100000
set_option maxRecDepth 100000
theorem orL4 (a b c d : Int) : orL [a, b, c, d] = if a = 0 then (if b = 0 then (if c = 0 then (if d = 0 then 0 else d) else c) else b) else a := rfl
theorem orL_cmp (a b : StM) : orL [Lib.compareInt a.f b.f, Lib.compareInt a.t b.t, Lib.compareInt a.n b.n, Lib.compareInt a.s b.s] = cmpSt a b := by
 have key : ∀ x y : Int, (x < y ∧ Lib.compareInt x y = -1) ∨ (x = y ∧ Lib.compareInt x y = 0) ∨ (y < x ∧ Lib.compareInt x y = 1) := fun x y => by
  unfold Lib.compareInt
  rcases Int.lt_trichotomy x y with h | h | h
  ·exact .inl ⟨h, by simp [h]⟩
  ·exact .inr (.inl ⟨h, by simp [h]⟩)
  ·exact .inr (.inr ⟨h, by simp [h]; omega⟩)
 have lo : (ltSt a b) → -1 = cmpSt a b := fun h => by unfold cmpSt; rw [if_pos h]
 have hi : (ltSt b a) → 1 = cmpSt a b := fun h => by unfold cmpSt; rw [if_neg (ltSt_asymm h), if_pos h]
 have eq : (¬ ltSt a b) → (¬ ltSt b a) → 0 = cmpSt a b := fun h k => by unfold cmpSt; rw [if_neg h, if_neg k]
 rw [orL4]
 rcases key a.f b.f with ⟨h, e⟩ | ⟨h, e⟩ | ⟨h, e⟩
 ·rw [e, if_neg (by decide)]; exact lo (by unfold ltSt; omega)
 ·rw [e, if_pos rfl]
  rcases key a.t b.t with ⟨k, e⟩ | ⟨k, e⟩ | ⟨k, e⟩
  ·rw [e, if_neg (by decide)]; exact lo (by unfold ltSt; omega)
  ·rw [e, if_pos rfl]
   rcases key a.n b.n with ⟨i, e⟩ | ⟨i, e⟩ | ⟨i, e⟩
   ·rw [e, if_neg (by decide)]; exact lo (by unfold ltSt; omega)
   ·rw [e, if_pos rfl]
    rcases key a.s b.s with ⟨j, e⟩ | ⟨j, e⟩ | ⟨j, e⟩
    ·rw [e, if_neg (by decide)]; exact lo (by unfold ltSt; omega)
    ·rw [e, if_pos rfl]; exact eq (by unfold ltSt; omega) (by unfold ltSt; omega)
    ·rw [e, if_neg (by decide)]; exact hi (by unfold ltSt; omega)
   ·rw [e, if_neg (by decide)]; exact hi (by unfold ltSt; omega)
  ·rw [e, if_neg (by decide)]; exact hi (by unfold ltSt; omega)
 ·rw [e, if_neg (by decide)]; exact hi (by unfold ltSt; omega)
def CmK (w : World) (p q : Nat) (a b : StM) (W : World) : Prop :=
 W.cell? ⟨p, 0, none⟩ = some (.int .i64 a.f) ∧ W.cell? ⟨p, 1, none⟩ = some (.int .i64 a.t) ∧ W.cell? ⟨p, 2, none⟩ = some (.int .i64 a.n) ∧ W.cell? ⟨p, 3, none⟩ = some (.int .i64 a.s) ∧
 W.cell? ⟨q, 0, none⟩ = some (.int .i64 b.f) ∧ W.cell? ⟨q, 1, none⟩ = some (.int .i64 b.t) ∧ W.cell? ⟨q, 2, none⟩ = some (.int .i64 b.n) ∧ W.cell? ⟨q, 3, none⟩ = some (.int .i64 b.s) ∧ (p < W.heap.size ∧ q < W.heap.size ∧ Grew w W)
theorem CmK.grew {w W W' : World} {p q : Nat} {a b : StM} (h : CmK w p q a b W) (g : Grew W W') : CmK w p q a b W' := by
 obtain ⟨h1, h2, h3, h4, h5, h6, h7, h8, hp, hq, hg⟩ := h
 have hb := g.below (Nat.le_refl _)
 exact ⟨(hb.cell (p := ⟨p, 0, none⟩) hp).trans h1, (hb.cell (p := ⟨p, 1, none⟩) hp).trans h2, (hb.cell (p := ⟨p, 2, none⟩) hp).trans h3, (hb.cell (p := ⟨p, 3, none⟩) hp).trans h4,
  (hb.cell (p := ⟨q, 0, none⟩) hq).trans h5, (hb.cell (p := ⟨q, 1, none⟩) hq).trans h6, (hb.cell (p := ⟨q, 2, none⟩) hq).trans h7, (hb.cell (p := ⟨q, 3, none⟩) hq).trans h8,
  Nat.lt_of_lt_of_le hp hb.size, Nat.lt_of_lt_of_le hq hb.size, hg.trans g⟩
theorem CmK.drew {w W : World} {p q : Nat} {a b : StM} (h : CmK w p q a b W) : CmK w p q a b W.drew := h.grew (Grew.refl _).drew
theorem CmK.alloc {w W : World} {p q : Nat} {a b : StM} (h : CmK w p q a b W) (o : Obj) : CmK w p q a b (W.alloc o) := h.grew ((Grew.refl _).alloc o)
theorem sl_lit_drew (w : World) (xs : Array Value) (t : TypeId) : Sl (w.alloc (.cells xs t)).drew (some ⟨w.heap.size, 0, none⟩) xs.toList := sl_lit w xs t
theorem or_lit (a b c d : Int) (t : TypeId) (W : World) : Calls Tryz.prog 167 #[.slice (some ⟨W.heap.size, 0, none⟩) 4 4] (W.alloc (.cells #[.int .i64 a, .int .i64 b, .int .i64 c, .int .i64 d] t)) fun e w' => e = .returned (.int .i64 (orL [a, b, c, d])) ∧ w' = W.alloc (.cells #[.int .i64 a, .int .i64 b, .int .i64 c, .int .i64 d] t) :=
 or_any (some ⟨W.heap.size, 0, none⟩) 4 [a, b, c, d] _ (sl_lit W #[.int .i64 a, .int .i64 b, .int .i64 c, .int .i64 d] t) (by simp)
theorem or_litd (a b c d : Int) (t : TypeId) (W : World) : Calls Tryz.prog 167 #[.slice (some ⟨W.heap.size, 0, none⟩) 4 4] (W.alloc (.cells #[.int .i64 a, .int .i64 b, .int .i64 c, .int .i64 d] t)).drew fun e w' => e = .returned (.int .i64 (orL [a, b, c, d])) ∧ w' = (W.alloc (.cells #[.int .i64 a, .int .i64 b, .int .i64 c, .int .i64 d] t)).drew :=
 or_any (some ⟨W.heap.size, 0, none⟩) 4 [a, b, c, d] _ (sl_lit_drew W #[.int .i64 a, .int .i64 b, .int .i64 c, .int .i64 d] t) (by simp)
set_option maxHeartbeats 4000000 in
theorem stcmp_any (a b : StM) (w : World) : Calls Tryz.prog 109 #[stV a, stV b] w fun e w' => e = .returned (.int .i64 (cmpSt a b)) ∧ Grew w w' := by
 have hcon := Lib.hid (fun x y W' => AnyG.cmp_Compare_int Tryz.laysCompare x y W')
 change Hid (∀ x y W', Calls Tryz.prog 168 _ _ _) at hcon
 have HE := Lib.hid (orL_cmp a b)
 have hor := Lib.hid or_lit
 have hord := Lib.hid or_litd
 have h0 : CmK w w.heap.size (w.heap.size + 1) a b ((w.alloc (.cells #[.int .i64 a.f, .int .i64 a.t, .int .i64 a.n, .int .i64 a.s] 111)).alloc (.cells #[.int .i64 b.f, .int .i64 b.t, .int .i64 b.n, .int .i64 b.s] 111)) := by
  have hb := heap_alloc_new (w.alloc (.cells #[.int .i64 a.f, .int .i64 a.t, .int .i64 a.n, .int .i64 a.s] 111)) (.cells #[.int .i64 b.f, .int .i64 b.t, .int .i64 b.n, .int .i64 b.s] 111)
  have ha := (Below.heap_alloc (w.alloc (.cells #[.int .i64 a.f, .int .i64 a.t, .int .i64 a.n, .int .i64 a.s] 111)) (.cells #[.int .i64 b.f, .int .i64 b.t, .int .i64 b.n, .int .i64 b.s] 111) w.heap.size (by rw [size1]; omega)).trans (heap_alloc_new w (.cells #[.int .i64 a.f, .int .i64 a.t, .int .i64 a.n, .int .i64 a.s] 111))
  rw [size1] at hb
  obtain ⟨a1, a2, a3, a4⟩ := cells4 ha
  obtain ⟨b1, b2, b3, b4⟩ := cells4 hb
  exact ⟨a1, a2, a3, a4, b1, b2, b3, b4, by rw [size1, size1]; omega, by rw [size1, size1]; omega, ((Grew.refl w).alloc _).alloc _⟩
 generalize Lib.compareInt = cI at hcon HE
 generalize cmpSt a b = r at *
 unfold stV
 obtain ⟨f1, t1, n1, s1⟩ := a
 obtain ⟨f2, t2, n2, s2⟩ := b
 dsimp only at *
 have h0' := Lib.hid h0
 clear h0
 go_enter Tryz.func109, Tryz.ntmps109
 go_wp2_with fail
 have h0 := h0'.out
 clear h0'
 generalize (w.alloc (.cells #[.int .i64 f1, .int .i64 t1, .int .i64 n1, .int .i64 s1] 111)).alloc (.cells #[.int .i64 f2, .int .i64 t2, .int .i64 n2, .int .i64 s2] 111) = W at *
 generalize hqq : w.heap.size + 1 = q at *
 generalize hpp : w.heap.size = p at *
 clear hqq hpp
 go_region_held3 (fun W => W.cell? ⟨p, 0, none⟩ = some (.int .i64 f1) ∧ W.cell? ⟨p, 1, none⟩ = some (.int .i64 t1) ∧ W.cell? ⟨p, 2, none⟩ = some (.int .i64 n1) ∧ W.cell? ⟨p, 3, none⟩ = some (.int .i64 s1) ∧
   W.cell? ⟨q, 0, none⟩ = some (.int .i64 f2) ∧ W.cell? ⟨q, 1, none⟩ = some (.int .i64 t2) ∧ W.cell? ⟨q, 2, none⟩ = some (.int .i64 n2) ∧ W.cell? ⟨q, 3, none⟩ = some (.int .i64 s2) ∧ (p < W.heap.size ∧ q < W.heap.size ∧ Grew w W))
  (first | exact CmK.drew h0 | exact CmK.alloc (a := ⟨f1, t1, n1, s1⟩) (b := ⟨f2, t2, n2, s2⟩) (by assumption) _ | assumption)
  (first | (go_at_call 168; refine (hcon.out _ _ _).mono ?_; rintro e w2 ⟨rfl, rfl⟩)
         | (go_at_call 167; (first | refine (hor.out _ _ _ _ _ _).mono ?_ | refine (hord.out _ _ _ _ _ _).mono ?_); rintro e w2 ⟨rfl, rfl⟩))
 go_wp2
 go_ret
 exact ⟨by rw [HE.out]; rfl, (show CmK w p q ⟨f1, t1, n1, s1⟩ ⟨f2, t2, n2, s2⟩ _ by assumption).2.2.2.2.2.2.2.2.2.2⟩
end Go.Proofs.YtmfpjapiijgdgaaGreat
namespace Go.Proofs.YtmfpjapiijgdgaaGreat
open Go.RowKit
set_option linter.unusedVariables false
set_option maxRecDepth 100000
def putStep (s : ByteArray) (p : List ByteArray × Bool) (x : ByteArray) : List ByteArray × Bool :=
 if Lib.compareBytes s.data.toList x.data.toList == 0 then (p.1 ++ [x], true)
 else if decide (Lib.compareBytes s.data.toList x.data.toList < 0) && !p.2 then (p.1 ++ [s] ++ [x], true)
 else (p.1 ++ [x], p.2)
def putTo (l : List ByteArray) (s : ByteArray) (k : Nat) : List ByteArray × Bool := (l.take k).foldl (putStep s) ([], false)
def put (l : List ByteArray) (s : ByteArray) : List ByteArray := if (putTo l s l.length).2 then (putTo l s l.length).1 else (putTo l s l.length).1 ++ [s]
end Go.Proofs.YtmfpjapiijgdgaaGreat
