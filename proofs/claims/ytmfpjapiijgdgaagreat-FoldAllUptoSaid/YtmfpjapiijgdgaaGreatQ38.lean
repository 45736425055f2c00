/- Texts of mine, one behind the other, of each what is wanted. -/
import Derived.Test.YtmfpjapiijgdgaaGreatQ00
import Derived.Test.YtmfpjapiijgdgaaGreatShelf
import Derived.Test.YtmfpjapiijgdgaaGreatRows
import Derived.Test.YtmfpjapiijgdgaaGreatQ01
import Derived.Test.YtmfpjapiijgdgaaGreatQ04
import Derived.Test.YtmfpjapiijgdgaaGreatQ06
import Derived.Test.YtmfpjapiijgdgaaGreatQ11
import Derived.Test.YtmfpjapiijgdgaaGreatQ15
import Derived.Test.YtmfpjapiijgdgaaGreatQ16
import Derived.Test.YtmfpjapiijgdgaaGreatQ17
import Derived.Test.YtmfpjapiijgdgaaGreatQ27
import Derived.Test.YtmfpjapiijgdgaaGreatQ29
import Derived.Test.YtmfpjapiijgdgaaGreatQ31
import Derived.Test.YtmfpjapiijgdgaaGreatQ32
namespace Go.Proofs.YtmfpjapiijgdgaaGreat
open Go.RowKit Go.Proofs
set_option linter.unusedVariables false
set_option maxRecDepth 100000
theorem infoErr : (Tryz.prog.info? 60).map (fun i => (i.zero, i.size, i.bytes)) = some (some (.int .i64 0), 1, 8) := by kernel_rfl
theorem zero_cells (n : Nat) : (Builtin.zeroCells (Value.int .i64 0).cells n).toList = List.replicate n (.int .i64 0) := by
 apply List.ext_getElem
 ·simp [Builtin.zeroCells, Value.cells]
 ·intro k h1 h2
  simp [Builtin.zeroCells, Value.cells, Nat.mod_one]
theorem made_cells (n : Nat) : (madeCells (Value.int .i64 0).cells n).toList = List.replicate n (.int .i64 0) := by
 apply List.ext_getElem
 ·simp [madeCells, Value.cells]
 ·intro k h1 h2
  simp [madeCells, Value.cells, Nat.mod_one]
def erc (E : List Int) (m : Nat) : List Value := ers E ++ List.replicate m (.int .i64 0)
theorem erc_int {E : List Int} {m j : Nat} {v : Value} (h : (erc E m)[j]? = some v) : ∃ n, v = .int .i64 n := by
 have hm := List.mem_of_getElem? h
 rcases List.mem_append.1 hm with h | h
 ·obtain ⟨n, -, rfl⟩ := List.mem_map.1 h; exact ⟨n, rfl⟩
 ·exact ⟨0, List.eq_of_mem_replicate h⟩
theorem erc_spare {E : List Int} {m j : Nat} {v : Value} (hj : E.length ≤ j) (h : (erc E m)[j]? = some v) : v = .int .i64 0 := by
 unfold erc at h
 rw [List.getElem?_append_right (by rw [ers_len]; exact hj)] at h
 exact List.eq_of_mem_replicate (List.mem_of_getElem? h)
theorem erc_more (E : List Int) (m : Nat) (n : Int) : ers E ++ [.int .i64 n] ++ List.replicate m (.int .i64 0) = erc (E ++ [n]) m := by
 unfold erc
 rw [ers_snoc]
theorem erc_same {E : List Int} {m : Nat} {n : Int} {j : Nat} (hj : j ≠ E.length) : (erc (E ++ [n]) m)[j]? = (erc E (m + 1))[j]? := by
 unfold erc
 rw [ers_snoc, List.append_assoc]
 rcases Nat.lt_or_ge j (ers E).length with h | h
 ·rw [List.getElem?_append_left h, List.getElem?_append_left h]
 ·rw [List.getElem?_append_right h, List.getElem?_append_right h]
  rw [ers_len] at h ⊢
  obtain ⟨d, hd⟩ : ∃ d, j - E.length = d + 1 := ⟨j - E.length - 1, by omega⟩
  rw [hd]
  simp [List.replicate_succ]
def ErO (W : World) (B : Nat) (v : Value) (E : List Int) : Prop :=
 (v = .slice none 0 0 ∧ E = []) ∨ ∃ g m, v = .slice (some ⟨g, 0, none⟩) E.length (E.length + m) ∧ B ≤ g ∧ W.heap[g]? = some (.cells (erc E m).toArray 60 (0, 0)) ∧ E.length + m ≤ maxLen
theorem ErO.below {w w' : World} {B : Nat} {v : Value} {E : List Int} (h : ErO w B v E) (q : Below w.heap.size w w') : ErO w' B v E := by
 rcases h with h | ⟨g, m, h1, h2, h3, h4⟩
 ·exact .inl h
 ·exact .inr ⟨g, m, h1, h2, (q.block g (heap_lt h3)).trans h3, h4⟩
theorem ErO.row {w : World} {B : Nat} {v : Value} {E : List Int} (h : ErO w B v E) : ∃ a c, v = .slice a E.length c ∧ E.length ≤ c ∧ c ≤ maxLen ∧ ErSl w a E ∧ (a = none → c = 0) := by
 rcases h with ⟨rfl, rfl⟩ | ⟨g, m, rfl, h2, h3, h4⟩
 ·exact ⟨none, 0, rfl, Nat.le_refl _, by unfold maxLen; omega, ErSl.nil _ _, fun _ => rfl⟩
 ·refine ⟨_, _, rfl, by omega, h4, fun k hk => ⟨g, 0, rfl, heap_lt h3, ?_⟩, fun e => by cases e⟩
  rw [cell_of_row w g (0 + k) _ _ (0, 0) h3, Nat.zero_add]
  simp only [List.getElem?_toArray]
  unfold erc
  rw [List.getElem?_append_left hk, List.getElem?_eq_getElem hk]
def Spot (W W' : World) : Prop := ∃ (g : Nat) (E : List Int) (m : Nat) (n : Int), W.heap[g]? = some (.cells (erc E (m + 1)).toArray 60 (0, 0)) ∧ W'.heap[g]? = some (.cells (erc (E ++ [n]) m).toArray 60 (0, 0)) ∧ W.grownBy W' (some g)
def Er12 (W W' : World) : Prop := Below W.heap.size W W' ∨ Spot W W'
theorem Er12.size {W W' : World} (h : Er12 W W') : W.heap.size ≤ W'.heap.size := by
 rcases h with h | ⟨g, E, m, n, -, -, h⟩
 ·exact h.size
 ·exact h.size
theorem Er12.block {W W' : World} (h : Er12 W W') {g : Nat} {cs : Array Value} {t : TypeId} (hb : W.heap[g]? = some (.cells cs t (0, 0))) (ht : t ≠ 60) : W'.heap[g]? = some (.cells cs t (0, 0)) := by
 rcases h with h | ⟨g', E, m, n, h1, -, h⟩
 ·exact (h.block g (heap_lt hb)).trans hb
 ·refine (h.block g (heap_lt hb) ?_).trans hb
  intro e
  injection e with e
  subst e
  rw [h1] at hb
  injection hb with hb
  injection hb with _ hb
  exact ht hb.symm
theorem Er12.text {W W' : World} (h : Er12 W W') {b i : Nat} {v : Value} (hlt : b < W.heap.size) (hv : ∀ n, v ≠ .int .i64 n) (hc : W.cell? ⟨b, i, none⟩ = some v) (j : Nat) : W'.cell? ⟨b, j, none⟩ = W.cell? ⟨b, j, none⟩ := by
 rcases h with h | ⟨g, E, m, n, h1, h2, h⟩
 ·exact h.cell (p := ⟨b, j, none⟩) hlt
 ·have hne : b ≠ g := fun e => by
   subst e
   rw [cell_of_row W b i _ _ (0, 0) h1] at hc
   simp only [List.getElem?_toArray] at hc
   obtain ⟨n, rfl⟩ := erc_int hc
   exact hv n rfl
  exact World.cell?_of_block (w := W) (h.block b hlt (fun e => by injection e with e; exact hne e))
theorem Er12.cell {W W' : World} (h : Er12 W W') {b i : Nat} {v : Value} (hlt : b < W.heap.size) (hc : W.cell? ⟨b, i, none⟩ = some v) (hv : v ≠ .int .i64 0 ∨ ∃ j u, i ≤ j ∧ W.cell? ⟨b, j, none⟩ = some u ∧ u ≠ .int .i64 0) : W'.cell? ⟨b, i, none⟩ = some v := by
 rcases h with h | ⟨g, E, m, n, h1, h2, h⟩
 ·exact (h.cell (p := ⟨b, i, none⟩) hlt).trans hc
 ·by_cases hbg : b = g
  ·subst hbg
   rw [cell_of_row W b i _ _ (0, 0) h1] at hc
   simp only [List.getElem?_toArray] at hc
   have hi : i < E.length := by
    rcases Nat.lt_or_ge i E.length with h3 | h3
    ·exact h3
    ·exfalso
     rcases hv with hv | ⟨j, u, hij, hu, hne⟩
     ·exact hv (erc_spare h3 hc)
     ·rw [cell_of_row W b j _ _ (0, 0) h1] at hu
      simp only [List.getElem?_toArray] at hu
      exact hne (erc_spare (Nat.le_trans h3 hij) hu)
   rw [cell_of_row W' b i _ _ (0, 0) h2]
   simp only [List.getElem?_toArray]
   rw [erc_same (Nat.ne_of_lt hi)]
   exact hc
  ·exact (World.cell?_of_block (w := W) (h.block b hlt (fun e => by injection e with e; exact hbg e))).trans hc
theorem EvSl.er {W W' : World} (h : Er12 W W') {a : Option Addr} {l : List EvM} (ho : EvSl W a l) : EvSl W' a l := fun k hk => by
 obtain ⟨b, off, e, hlt, h0⟩ := ho k hk
 have h2 : W.cell? ⟨b, off + k * 6 + 2, none⟩ = some (.string l[k].user) := h0 2 (by decide)
 exact ⟨b, off, e, Nat.lt_of_lt_of_le hlt h.size, fun i hi => (h.text hlt (fun n e => by cases e) h2 _).trans (h0 i hi)⟩
theorem OpSl.er {W W' : World} (h : Er12 W W') {a : Option Addr} {l : List OpM} (ho : OpSl W a l) : OpSl W' a l := fun k hk => by
 obtain ⟨b, off, e, hlt, h0, h1, h2, h3⟩ := ho k hk
 have hx := h.text hlt (fun n e => by cases e) h1
 exact ⟨b, off, e, Nat.lt_of_lt_of_le hlt h.size, (hx _).trans h0, (hx _).trans h1, (hx _).trans h2, (hx _).trans h3⟩
theorem EnSl.er {W W' : World} (h : Er12 W W') {a : Option Addr} {l : List EnM} (ho : EnSl W a l) : EnSl W' a l := fun k hk => by
 obtain ⟨b, off, e, hlt, h0, h1, h2, h3⟩ := ho k hk
 have hx := h.text hlt (fun n e => by cases e) h0
 exact ⟨b, off, e, Nat.lt_of_lt_of_le hlt h.size, (hx _).trans h0, (hx _).trans h1, (hx _).trans h2, (hx _).trans h3⟩
theorem PpSl.er {W W' : World} (h : Er12 W W') {a : Option Addr} {l : List (Value × Value)} (hs : ∀ y ∈ l, ∃ s, y.1 = .string s) (ho : PpSl W a l) : PpSl W' a l := fun k hk => by
 obtain ⟨b, off, e, hlt, h0, h1⟩ := ho k hk
 obtain ⟨s, es⟩ := hs _ (List.getElem_mem hk)
 have hx := h.text hlt (v := l[k].1) (fun n e => by rw [es] at e; cases e) h0
 exact ⟨b, off, e, Nat.lt_of_lt_of_le hlt h.size, (hx _).trans h0, (hx _).trans h1⟩
theorem StSl.er {W W' : World} (h : Er12 W W') {a : Option Addr} {l : List StM} (hl : ∀ x ∈ l, 0 ≤ x.f ∧ x.f < x.t ∧ 1 ≤ x.n ∧ 1 ≤ x.s) (ho : StSl W a l) : StSl W' a l := fun k hk => by
 obtain ⟨b, off, e, hlt, h0, h1, h2, h3⟩ := ho k hk
 obtain ⟨r0, r1, r2, r3⟩ := hl _ (List.getElem_mem hk)
 have n1 : (Value.int .i64 l[k].t) ≠ .int .i64 0 := fun e => by injection e with _ e; omega
 have n2 : (Value.int .i64 l[k].n) ≠ .int .i64 0 := fun e => by injection e with _ e; omega
 have n3 : (Value.int .i64 l[k].s) ≠ .int .i64 0 := fun e => by injection e with _ e; omega
 exact ⟨b, off, e, Nat.lt_of_lt_of_le hlt h.size, h.cell hlt h0 (.inr ⟨_, _, Nat.le_add_right _ 1, h1, n1⟩), h.cell hlt h1 (.inl n1), h.cell hlt h2 (.inl n2), h.cell hlt h3 (.inl n3)⟩
theorem SaAt.er {W W' : World} (h : Er12 W W') {x : SaL} (hr : RightS x.m) (ho : SaAt W x) : SaAt W' x := by
 refine ⟨ho.op.er h, ⟨ho.us.row.er h (fun y hy => ?_), fun y hy => ?_⟩, ho.su.er h, PpSl.er h (fun y hy => ?_) ho.tb, ho.oc, ho.uc, ho.sc, ho.tc⟩
 ·obtain ⟨z, -, rfl⟩ := List.mem_map.1 hy; exact ⟨_, rfl⟩
 ·have h1 := ho.us.at_ y hy
  obtain ⟨-, -, h2, h3⟩ := hr.us y.m (List.mem_map_of_mem hy)
  refine ⟨h1.st.er h (fun s hs => ?_), h1.le, h1.mx, h1.nil⟩
  obtain ⟨k0, -, k1, -, k2, -⟩ := h3 s hs
  exact ⟨k0, (rise_iff.1 h2).1 s hs, k1, k2⟩
 ·obtain ⟨z, -, rfl⟩ := List.mem_map.1 hy; exact ⟨_, rfl⟩
theorem SB.er {w W W' : World} (h : Er12 W W') {g : Nat} {t : TypeId} {x : SaL} (ho : SB w g t x W) (hr : RightS x.m) (ht : t ≠ 60) (hf : Below w.heap.size w W') : SB w g t x W' := ⟨h.block ho.blk ht, ho.ge, hf, ho.at_.er h hr⟩
theorem ErO.apart {W : World} {B g i : Nat} {t : TypeId} {v u : Value} {E : List Int} {cs : Array Value} (h : ErO W B v E) (hb : W.heap[g]? = some (.cells cs t (0, 0))) (hne : t ≠ 60) : ErO (W.setCell ⟨g, i, none⟩ u) B v E := by
 rcases h with h1 | ⟨g', m, h1, h2, h3, h4⟩
 ·exact .inl h1
 ·refine .inr ⟨g', m, h1, h2, (block_far ?_).trans h3, h4⟩
  rintro rfl
  rw [hb] at h3
  injection h3 with h3
  injection h3 with _ h3
  exact hne h3
theorem ErO.setT {w W : World} {B g : Nat} {x y : SaL} {t : TypeId} {v : Value} {E : List Int} (h : SB w g t x W) (hy : SaAt W y) (ho : ErO W B v E) (hne : t ≠ 60) : ErO (setS W g y) B v E := by
 have h0 := SB.setNow h y.now
 have y0 := SaAt.setB h.blk hy 0 (.int .i64 y.now)
 have o0 := ho.apart (i := 0) (u := .int .i64 y.now) h.blk hne
 have h1 := SB.setHor h0 y.hor
 have y1 := SaAt.setB h0.blk y0 1 (.int .i64 y.hor)
 have o1 := o0.apart (i := 1) (u := .int .i64 y.hor) h0.blk hne
 have h2 := SB.setOp h1 rfl y1.op y1.oc
 have y2 := SaAt.setB h1.blk y1 2 (.slice y.oa y.op.length y.oc)
 have o2 := o1.apart (i := 2) (u := .slice y.oa y.op.length y.oc) h1.blk hne
 have h3 := SB.setUs h2 rfl y2.us y2.uc
 have y3 := SaAt.setB h2.blk y2 3 (.slice y.ua y.us.length y.uc)
 have o3 := o2.apart (i := 3) (u := .slice y.ua y.us.length y.uc) h2.blk hne
 have h4 := SB.setSu h3 rfl y3.su y3.sc
 have o4 := o3.apart (i := 4) (u := .slice y.sa y.su.length y.sc) h3.blk hne
 exact o4.apart (i := 5) (u := .slice y.ta y.tb.length y.tc) h4.blk hne
theorem er_append (w : World) (B : Nat) (ty : TypeId) (v : Value) (E : List Int) (hE : ErO w B v E) (ad : Addr) (c : Nat) (n : Int) (hn : w.cell? ad = some (.int .i64 n)) (hlen : E.length ≤ 1000000) (hB : B ≤ w.heap.size) :
  ∃ v' w', (Builtin.append_ #[40, 40] ty #[v, .slice (some ad) 1 c]).run Tryz.prog w = .ok v' w' ∧ ErO w' B v' (E ++ [n]) ∧ Er12 w w' ∧ Below B w w' := by
 obtain ⟨i0, hi, hz0, hz1, hz2⟩ := info_parts infoErr
 have hnews : ∀ j u, ([Value.int .i64 n] : List Value)[j]? = some u → w.cell? (ad.add j) = some u := fun j u hu => by
  cases j with
  | zero => simp at hu; subst hu; rw [show ad.add 0 = ad from by unfold Addr.add; simp]; exact hn
  | succ j => simp at hu
 rcases hE with ⟨rfl, rfl⟩ | ⟨g, m, rfl, hg, hh, hm⟩
 ·have hr := run_append_nil (P := Tryz.prog) w 40 ty 60 i0 _ Tryz.underlying40 hi hz0 ad 1 c [.int .i64 n] (by rw [hz1]; rfl) hnews (by decide) (by decide) (by rw [hz2]; decide)
  have hge := grownCap_ge w 1 0 60
  have hle := grownCap_le_maxLen w 1 0 60 (by unfold maxLen; decide)
  refine ⟨_, _, hr, .inr ⟨w.heap.size, grownCap w 1 0 60 - 1, ?_, hB, ?_, ?_⟩, .inl ((Below.refl _ _).drew.alloc (Nat.le_refl _) _), (Below.refl _ _).drew.alloc hB _⟩
  ·have e : ([] ++ [n] : List Int).length + (grownCap w 1 0 60 - 1) = grownCap w 1 0 60 := by simp; omega
   rw [e]
   rfl
  ·have hn2 := heap_alloc_new w.drew (.cells (#[.int .i64 n] ++ Builtin.zeroCells (Value.int .i64 0).cells (grownCap w 1 0 60 - 1)) 60)
   have e : (#[.int .i64 n] ++ Builtin.zeroCells (Value.int .i64 0).cells (grownCap w 1 0 60 - 1) : Array Value) = (erc ([] ++ [n]) (grownCap w 1 0 60 - 1)).toArray := by
    apply Array.toList_inj.1
    rw [Array.toList_append, zero_cells]
    rfl
   rw [e] at hn2
   rw [← e] at hn2 ⊢
   exact hn2
  ·simp
   omega
 ·cases m with
  | zero =>
   have holds : ∀ j u, (ers E)[j]? = some u → w.cell? ((⟨g, 0, none⟩ : Addr).add j) = some u := fun j u hu => by
    rw [Go.WideShapes.add_plain, cell_of_row w g (0 + j) _ _ (0, 0) hh, Nat.zero_add]
    simp only [List.getElem?_toArray]
    unfold erc
    rw [List.getElem?_append_left (List.getElem?_eq_some_iff.1 hu).1]
    exact hu
   have hr := run_append_grow (P := Tryz.prog) w 40 ty 60 i0 _ Tryz.underlying40 hi hz0 ⟨g, 0, none⟩ E.length E.length (ers E) (by rw [hz1, ers_len]; omega) holds ad 1 c [.int .i64 n] (by rw [hz1]; rfl) hnews (by omega) (by omega) (growslice_fits (by omega) (by rw [hz2]; omega))
   have hge := grownCap_ge w (E.length + 1) E.length 60
   have hle := grownCap_le_maxLen w (E.length + 1) E.length 60 (by unfold maxLen; omega)
   refine ⟨_, _, hr, .inr ⟨w.heap.size, grownCap w (E.length + 1) E.length 60 - (E.length + 1), ?_, hB, ?_, ?_⟩, .inl ((Below.refl _ _).drew.alloc (Nat.le_refl _) _), (Below.refl _ _).drew.alloc hB _⟩
   ·rw [List.length_append, List.length_singleton, show E.length + 1 + (grownCap w (E.length + 1) E.length 60 - (E.length + 1)) = grownCap w (E.length + 1) E.length 60 by omega]
   ·have hn2 := heap_alloc_new w.drew (.cells ((ers E).toArray ++ #[.int .i64 n] ++ Builtin.zeroCells (Value.int .i64 0).cells (grownCap w (E.length + 1) E.length 60 - (E.length + 1))) 60)
    have e : ((ers E).toArray ++ #[.int .i64 n] ++ Builtin.zeroCells (Value.int .i64 0).cells (grownCap w (E.length + 1) E.length 60 - (E.length + 1)) : Array Value) = (erc (E ++ [n]) (grownCap w (E.length + 1) E.length 60 - (E.length + 1))).toArray := by
     apply Array.toList_inj.1
     rw [Array.toList_append, Array.toList_append, zero_cells, ← erc_more]
    rw [← e]
    exact hn2
   ·rw [List.length_append, List.length_singleton]
    omega
  | succ m =>
   have hsz : (erc E (m + 1)).toArray.size = E.length + (m + 1) := by simp [erc, ers]
   have hr := run_append_room (P := Tryz.prog) w 40 ty 60 i0 Tryz.underlying40 hi g E.length (E.length + (m + 1)) _ hh ad 1 c [.int .i64 n] (by rw [hz1]; rfl) hnews (by intro u hu; simp at hu; subst hu; rfl) (by omega) (by rw [hz1, hsz, Nat.mul_one]; show E.length + 1 ≤ _; omega)
   have e : ((erc E (m + 1)).toArray.toList.take (E.length * i0.size) ++ [Value.int .i64 n] ++ (erc E (m + 1)).toArray.toList.drop (E.length * i0.size + [Value.int .i64 n].length)).toArray = (erc (E ++ [n]) m).toArray := by
    rw [hz1, Nat.mul_one, ← erc_more]
    congr 1
    have e1 : (erc E (m + 1)).take E.length = ers E := by
     unfold erc
     rw [List.take_append_of_le_length (by rw [ers_len]; exact Nat.le_refl _), List.take_of_length_le (by rw [ers_len]; exact Nat.le_refl _)]
    have e2 : (erc E (m + 1)).drop (E.length + 1) = List.replicate m (.int .i64 0) := by
     unfold erc
     rw [show E.length + 1 = (ers E).length + 1 by rw [ers_len], List.drop_append, List.drop_of_length_le (by omega)]
     simp [List.replicate_succ]
    show (erc E (m + 1)).take E.length ++ _ ++ (erc E (m + 1)).drop (E.length + 1) = _
    rw [e1, e2]
   rw [e] at hr
   have hset := setRow_heap w g _ (erc (E ++ [n]) m).toArray 60 _ hh
   have hgb : w.grownBy (w.setRow g (erc (E ++ [n]) m).toArray) (some g) := ⟨rfl, rfl, rfl, by simp, fun k _ hk => setRow_other w g k _ (fun e => hk (by rw [e]))⟩
   refine ⟨_, _, hr, .inr ⟨g, m, ?_, hg, hset, ?_⟩, .inr ⟨g, E, m, n, hh, hset, hgb⟩, (Below.refl _ _).grown hgb hB (fun k hk => by injection hk with hk; omega)⟩
   ·rw [List.length_append, List.length_singleton, show E.length + 1 + m = E.length + (m + 1) by omega]
   ·rw [List.length_append, List.length_singleton]
    omega
theorem wpList_append_er (w : World) {ops : Array Oper} {rest : List Oper} {o : Oper} {a : Act} {Q : Exit → Act → World → Prop} (hgd : o.guard = none) (s x : Operand)
  (ho : o.op = .call { callee := .builtin .append, args := #[s, x], argTypes := #[40, 40] }) (B : Nat) (v : Value) (E : List Int) (hs : a.eval s = v) (hE : ErO w B v E) (ad : Addr) (c : Nat) (n : Int) (hx : a.eval x = .slice (some ad) 1 c) (hn : w.cell? ad = some (.int .i64 n)) (hlen : E.length ≤ 1000000) (hB : B ≤ w.heap.size)
  (h : ∀ v' w', ErO w' B v' (E ++ [n]) → Er12 w w' → Below B w w' → wpList Tryz.prog ops Q rest (a.put o.dst v') w') : wpList Tryz.prog ops Q (o :: rest) a w := by
 obtain ⟨v', w', hr, h1, h2, h3⟩ := er_append w B o.type v E hE ad c n hn hlen hB
 exact Lib.wpList_append_run w hgd s x _ _ ho _ _ hs hx v' w' hr (h v' w' h1 h2 h3)
structure FoK (w : World) (t : TypeId) (a : Option Addr) (l : List EvM) (q : SaL) (E : List Int) (v : Value) (W : World) : Prop where
 s : SB w w.heap.size t q W
 z : SB w (w.heap.size + 1) t saO W
 o : ErO W w.heap.size v E
 l : EvSl W a l
theorem FoK.below {w W W' : World} {t : TypeId} {a : Option Addr} {l : List EvM} {q : SaL} {E : List Int} {v : Value} (h : FoK w t a l q E v W) (qB : Below W.heap.size W W') : FoK w t a l q E v W' := ⟨h.s.below qB, h.z.below qB, h.o.below qB, h.l.below qB⟩
theorem FoK.take {w U : World} {t : TypeId} {a : Option Addr} {l : List EvM} {q y : SaL} {E : List Int} {v : Value} {g : Nat} {t' : TypeId} (h : FoK w t a l q E v U) (k : SB w g t' y U) (hne : t ≠ 60) : FoK w t a l y E v (setS U w.heap.size y) :=
 ⟨SB.set h.s k.at_, (SB.over h.s k.at_ h.z (Nat.ne_of_gt (Nat.lt_succ_self _))).2, ErO.setT h.s k.at_ h.o hne, evsl_setS h.s k.at_ h.l⟩
theorem FoK.more {w W W' : World} {t : TypeId} {a : Option Addr} {l : List EvM} {q : SaL} {E F : List Int} {v v' : Value} (h : FoK w t a l q E v W) (hr : RightS q.m) (ht : t ≠ 60) (ho : ErO W' w.heap.size v' F) (hg : Er12 W W') (hB : Below w.heap.size W W') : FoK w t a l q F v' W' :=
 ⟨h.s.er hg hr ht (h.s.frame.trans hB), h.z.er hg RightS.zero ht (h.s.frame.trans hB), ho, h.l.er hg⟩
def FoldsTo (w : World) (M : SaM) (E : List Int) (r : Ending) (w' : World) : Prop := ∃ y b c, r = .returned (.tuple #[saV y, .slice b E.length c]) ∧ SaAt w' y ∧ y.m = M ∧ ErSl w' b E ∧ E.length ≤ c ∧ c ≤ maxLen ∧ Below w.heap.size w w'
theorem EvSl.drop {w : World} {b off : Nat} {l : List EvM} (h : EvSl w (some ⟨b, off, none⟩) l) (n : Nat) : EvSl w (some ⟨b, off + n * 6, none⟩) (l.drop n) := fun k hk => by
 have hk2 : n + k < l.length := by rw [List.length_drop] at hk; omega
 obtain ⟨b', off', e, hlt, h0⟩ := h (n + k) hk2
 cases e
 refine ⟨b, off + n * 6, rfl, hlt, fun i hi => ?_⟩
 rw [List.getElem_drop, show off + n * 6 + k * 6 + i = off + (n + k) * 6 + i by omega]
 exact h0 i hi
def latT (m : Int) (l : List EvM) : Int := l.foldl (fun m x => max m x.at_) m
theorem latT_next (m : Int) (l : List EvM) (j : Nat) (h : j < l.length) : latT m (l.take (j + 1)) = max (latT m (l.take j)) l[j].at_ := by
 rw [List.take_succ_eq_append_getElem h]
 unfold latT
 rw [List.foldl_append]
 rfl
set_option maxHeartbeats 2000000 in
theorem platest_any (a : Option Addr) (c : Nat) (l : List EvM) (w : World) (hs : EvSl w a l) (hl : l.length ≤ 1000) (hc : l.length ≤ c) (hcm : c ≤ maxLen) :
  Calls Tryz.prog 25 #[.slice a l.length c] w fun e w' => e = .returned (.tuple #[.int .i64 (latA l), .bool (decide (0 < l.length))]) ∧ Below w.heap.size w w' := by
 cases l with
 | nil =>
  clear hs
  simp only [List.length_nil]
  go_enter Tryz.func25, Tryz.ntmps25
  go_wp2
  go_ret2
  exact ⟨rfl, Below.refl _ _⟩
 | cons e0 tl =>
  obtain ⟨b, off, rfl, hbl, r0, r1, r2, r3, r4, r5⟩ := hs.at_ (k := 0) (by simp)
  have HD : Hid (EvSl w (some ⟨b, off + 6, none⟩) tl) := Lib.hid (by have := hs.drop 1; simpa using this)
  have e1 : (e0 :: tl).length = tl.length + 1 := rfl
  rw [e1] at hl hc ⊢
  simp only [Nat.zero_mul, Nat.add_zero, List.getElem_cons_zero] at r0 r1 r2 r3 r4 r5
  have hm : c ≤ 9223372036854775807 := by unfold maxLen at hcm; exact hcm
  have g1 : ((((tl.length + 1 : Nat)) : Int) == 0) = false := beq_false_of_ne (by omega)
  have g2 : (0 : Int) < ((tl.length + 1 : Nat) : Int) := by omega
  have g3 : (1 : Int) ≤ ((tl.length + 1 : Nat) : Int) := by omega
  have g4 : ((tl.length + 1 : Nat) : Int) ≤ (c : Int) := by omega
  have g5 : (1 : Int) ≤ (c : Int) := by omega
  obtain ⟨a0, ha0⟩ : ∃ m, m = e0.at_ := ⟨_, rfl⟩
  have HFIN : Hid (latT a0 tl = latA (e0 :: tl)) := Lib.hid (by rw [ha0]; rfl)
  rw [← ha0] at r1
  have hd : decide (0 < tl.length + 1) = true := decide_eq_true (by omega)
  rw [hd]
  clear hs hcm r0 r2 r3 r4 r5 ha0 e1 hd
  generalize latA (e0 :: tl) = LA at *
  by_cases hc1 : c = 1
  ·have hk0 : tl.length = 0 := by omega
   subst hc1
   have HE : Hid (a0 = LA) := Lib.hid (by rw [← HFIN.out, List.eq_nil_of_length_eq_zero hk0]; rfl)
   clear hk0 HFIN
   go_enter Tryz.func25, Tryz.ntmps25
   go_wp2
   go_loopw [4, 17] (fun lv iv wr => lv = .int .i64 a0 ∧ iv = .int .i64 0 ∧ Hid (Below w.heap.size w wr)) (fun _ iv _ => 0)
   case atStart => exact ⟨rfl, rfl, Lib.hid (Below.refl _ _)⟩
   case round =>
    obtain ⟨rfl, rfl, HB⟩ := hrel
    have hz : decide ((0 : Int) < 0) = false := by decide
    have hz2 : ¬ (0 : Int) < 0 := by decide
    go_wp2
    go_ret2
    exact ⟨by rw [HE.out]; rfl, HB.out⟩
  ·skip
   go_enter Tryz.func25, Tryz.ntmps25
   go_wp2
   go_loopw [4, 17] (fun lv iv wr => ∃ (j : Nat) (m : Int), j ≤ tl.length ∧ iv = .int .i64 j ∧ lv = .int .i64 m ∧ Hid (m = latT a0 (tl.take j)) ∧ Hid (Below w.heap.size w wr)) (fun _ iv _ => tl.length - (intOf iv).toNat)
   case atStart => exact ⟨0, a0, by omega, rfl, rfl, Lib.hid rfl, Lib.hid (Below.refl _ _)⟩
   case round =>
    obtain ⟨j, m, hj, rfl, rfl, HM, HB⟩ := hrel
    by_cases hjl : j < tl.length
    ·have hw1 : IntKind.i64.wrap ((j : Int) + 1) = (j : Int) + 1 := IntWalk.i64_in _ (by omega)
     obtain ⟨b', off', eb, hbl, r0, r1, r2, r3, r4, r5⟩ := (HD.out.below HB.out).at_ hjl
     cases eb
     have HN := Lib.hid (latT_next a0 tl j hjl)
     have HB1 : Hid (Below w.heap.size w (wr.alloc (.cells #[.int .i64 tl[j].kind, .int .i64 tl[j].at_, .string tl[j].user, .string tl[j].other, .int .i64 tl[j].n, .int .i64 tl[j].status] 64))) := Lib.hid (HB.out.trans ((below_one _ _).mono HB.out.size))
     generalize tl[j] = x at *
     go_wp2
     go_roundw
     case rel => exact ⟨j + 1, max m x.at_, by omega, by go_num, by first | rfl | (congr 1), Lib.hid (by rw [HN.out, HM.out]), HB1⟩
     case measure => simp [intOf]; omega
    ·obtain rfl : j = tl.length := by omega
     rw [List.take_length] at HM
     have HE : Hid (m = LA) := Lib.hid (HM.out.trans HFIN.out)
     go_wp2
     go_ret2
     exact ⟨by rw [HE.out]; rfl, HB.out⟩
def movedU (D : List UsL) (j : Nat) (a : Option Addr) (c : Nat) : List UsL := D.set j { (D.getD j default) with a := a, c := c }
theorem movedU_len (D : List UsL) (j : Nat) (a : Option Addr) (c : Nat) : (movedU D j a c).length = D.length := by simp [movedU]
theorem movedU_m (D : List UsL) {j : Nat} (hj : j < D.length) (a : Option Addr) (c : Nat) : umS (movedU D j a c) = umS D := by
 unfold movedU umS
 rw [List.map_set]
 have e1 : (({ (D.getD j default) with a := a, c := c } : UsL)).m = (D.map UsL.m)[j]'(by rw [List.length_map]; exact hj) := by
  rw [List.getElem_map, List.getD_eq_getElem?_getD, List.getElem?_eq_getElem hj]
  rfl
 rw [e1, List.set_getElem_self]
structure OwK (w : World) (x : SaL) (B : Nat) (xu : Option Addr) (D : List UsL) (q : Nat) (W : World) : Prop where
 s : SB w w.heap.size 39 x W
 z : SB w (w.heap.size + 1) 39 saO W
 us : UsSl W xu D
 own : W.ownsRow B 108 2 (.slice xu D.length q) D.length (usv D)
theorem OwK.below {w W W' : World} {x : SaL} {B : Nat} {xu : Option Addr} {D : List UsL} {q : Nat} (h : OwK w x B xu D q W) (qB : Below W.heap.size W W') : OwK w x B xu D q W' := ⟨h.s.below qB, h.z.below qB, h.us.below qB, own_below h.own qB⟩
theorem OwK.store {w W : World} {x : SaL} {B gu : Nat} {D : List UsL} {q : Nat} (hx : SaAt w x) (hB : w.heap.size + 2 ≤ B) (h : OwK w x B (some ⟨gu, 0, none⟩) D q W) {j : Nat} (hj : j < D.length) {a : Option Addr} {c n : Nat} (hn : n = D[j].l.length) (hs : StSl W a D[j].l) (hc : Cp a D[j].l.length c) :
  OwK w x B (some ⟨gu, 0, none⟩) (movedU D j a c) q (W.setCell ⟨gu, j * 2 + 1, none⟩ (.slice a n c)) := by
 subst hn
 obtain ⟨h0, h1⟩ := usv_get hj
 have hp : W.cell? ⟨gu, j * 2 + 1, none⟩ = some (.slice D[j].a D[j].l.length D[j].c) := by rw [h.own.cellAt _ (by omega)]; exact h1
 have hlt := h.own.lt gu rfl
 have hset : (usv D).set (j * 2 + 1) (.slice a D[j].l.length c) = usv (movedU D j a c) := by
  unfold movedU
  rw [List.getD_eq_getElem?_getD, List.getElem?_eq_getElem hj, Option.getD_some, ← usv_set _ _ hj]
  congr 1
  have hl : j * 2 < (usv D).length := by rw [usv_len]; omega
  have e0 := h0
  rw [List.getElem?_eq_getElem hl] at e0
  rw [← Option.some.inj e0, List.set_getElem_self]
 have hst := (h.own.stored (j * 2 + 1) (.slice a D[j].l.length c)).1
 rw [hset] at hst
 have hown2 : (W.setCell ⟨gu, j * 2 + 1, none⟩ (.slice a D[j].l.length c)).ownsRow B 108 2 (.slice (some ⟨gu, 0, none⟩) (movedU D j a c).length q) (movedU D j a c).length (usv (movedU D j a c)) := by
  rw [movedU_len]
  exact hst
 have hf := h.s.frame.setCell (p := ⟨gu, j * 2 + 1, none⟩) (by show w.heap.size ≤ gu; omega) (.slice a D[j].l.length c)
 have hat : ∀ y ∈ movedU D j a c, UsAt (W.setCell ⟨gu, j * 2 + 1, none⟩ (.slice a D[j].l.length c)) y := fun y hy => by
  unfold movedU at hy
  rcases List.mem_or_eq_of_mem_set hy with h2 | rfl
  ·exact (h.us.at_ y h2).setC hp _
  ·have e : D.getD j default = D[j] := by rw [List.getD_eq_getElem?_getD, List.getElem?_eq_getElem hj, Option.getD_some]
   rw [e]
   exact ⟨hs.setC hp _, hc.le, hc.mx, hc.nil⟩
 refine ⟨⟨(block_far (by omega)).trans h.s.blk, h.s.ge, hf, hx.below hf⟩, ⟨(block_far (by omega)).trans h.z.blk, h.z.ge, hf, SaAt.zero _⟩, ⟨?_, hat⟩, hown2⟩
 obtain ⟨a', c', e1, e2, e3, e4, e5⟩ := own_us hown2
 have : some ⟨gu, 0, none⟩ = a' := by injection e1
 rw [this]
 exact e4
set_option maxHeartbeats 2000000 in
theorem own_any (x : SaL) (w : World) (h : SaAt w x) (hf : Few x.m 10000) :
  Calls Tryz.prog 70 #[saV x] w fun e w' => ∃ y, e = .returned (saV y) ∧ SaAt w' y ∧ y.m = x.m ∧ Below w.heap.size w w' := by
 obtain ⟨S0, Z0⟩ := two_SB h 39 39
 have HX := Lib.hid h
 obtain ⟨now, hor, oa, op, oc, ua, us, uc, sa, su, sc, ta, tb, tc⟩ := x
 have hsz : ((w.alloc (.cells (saC ⟨now, hor, oa, op, oc, ua, us, uc, sa, su, sc, ta, tb, tc⟩) 39)).alloc (.cells (saC saO) 39)).heap.size = w.heap.size + 2 := by rw [size1, size1]
 have HCO := Lib.hid (fun V (h : OpSl V oa op) (k : Cp oa op.length oc) => clone_op oa oc op V h k (Nat.le_trans hf.op (by decide)))
 have HCE := Lib.hid (fun V (h : EnSl V sa su) (k : Cp sa su.length sc) => clone_en sa sc su V h k (Nat.le_trans hf.su (by decide)))
 have HCT : Hid (∀ V, TbSl V ta tb → Cp ta tb.length tc → Calls Tryz.prog 142 #[.slice ta tb.length tc] V fun e w' => ∃ v, e = .returned v ∧ w'.ownsRow V.heap.size 141 2 v tb.length (tbv tb) ∧ Below V.heap.size V w') := fun V h k => by
  have := pclone_tb ta tc (tb.map tbp) (tbp_one tb) V h (by rw [List.length_map]; exact k) (by rw [List.length_map]; exact Nat.le_trans hf.tb (by decide))
  rw [List.length_map] at this
  exact this
 have hun : us.length ≤ 10000 := by have := hf.us; unfold SaL.m at this; simp only at this; rw [umS_len] at this; exact this
 have HCU := Lib.hid (fun V (h : UsSl V ua us) (k : Cp ua us.length uc) => pclone_us ua uc (us.map usp) (usp_one us) V h.row (by rw [List.length_map]; exact k) (by rw [List.length_map]; omega))
 rw [List.length_map] at HCU
 have HST : Hid (∀ y ∈ us, y.l.length ≤ 10000) := Lib.hid fun y hy => by
  have := hf.st y.m (List.mem_map_of_mem hy)
  exact this
 have HS := Lib.hid S0
 have HZ := Lib.hid Z0
 obtain ⟨c0, c1, c2, c3, c4, c5⟩ := S0.cells
 obtain ⟨wa, hwa⟩ : ∃ V, V = ((w.alloc (.cells (saC ⟨now, hor, oa, op, oc, ua, us, uc, sa, su, sc, ta, tb, tc⟩) 39)).alloc (.cells (saC saO) 39)) := ⟨_, rfl⟩
 unfold saV saC at *
 dsimp only at *
 clear S0 Z0 h hf
 go_enter Tryz.func70, Tryz.ntmps70
 go_wp2_with fail
 refine (HCU.out _ HS.out.at_.us HS.out.at_.uc).mono ?_
 rintro e w2 ⟨v, rfl, ho, hB⟩
 clear c0 c1 c2 c3 c4 c5
 obtain ⟨xu, qu, rfl, hlu, hmu, hru, hnu⟩ := own_us (D := us) ho
 have hBB : w.heap.size + 2 ≤ wa.heap.size := by rw [hwa]; exact Nat.le_of_eq hsz.symm
 have KO : OwK w ⟨now, hor, oa, op, oc, ua, us, uc, sa, su, sc, ta, tb, tc⟩ wa.heap.size xu us qu w2 := ⟨HS.out.below hB, HZ.out.below hB, ⟨hru, fun y hy => (HS.out.below hB).at_.us.at_ y hy⟩, by rw [hwa]; exact ho⟩
 have HKO := Lib.hid KO
 have HBB := Lib.hid hBB
 clear ho hB hru KO HS HZ HCU hsz hwa hBB
 generalize wa.heap.size = B at *
 go_wp2
 go_loopw [10] (fun iv wr => ∃ (j : Nat) (D : List UsL), j ≤ us.length ∧ iv = .int .i64 j ∧ Hid (D.length = us.length ∧ umS D = umS us) ∧ Hid (OwK w ⟨now, hor, oa, op, oc, ua, us, uc, sa, su, sc, ta, tb, tc⟩ B xu D qu wr)) (fun iv _ => us.length - (intOf iv).toNat)
 case atStart => exact ⟨0, us, by omega, rfl, Lib.hid ⟨rfl, rfl⟩, HKO⟩
 case round =>
  clear HKO
  obtain ⟨j, D, hj, rfl, HD, HK⟩ := hrel
  by_cases hjl : j < us.length
  ·have hw1 : IntKind.i64.wrap ((j : Int) + 1) = (j : Int) + 1 := IntWalk.i64_in _ (by omega)
   have hjD : j < D.length := by rw [HD.out.1]; exact hjl
   have hyl : D[j].l.length ≤ 10000 := by
    have e2 : (D[j]).m ∈ umS us := by rw [← HD.out.2]; exact List.mem_map_of_mem (List.getElem_mem hjD)
    obtain ⟨z, hz, e3⟩ := List.mem_map.1 e2
    have := HST.out z hz
    have e4 : z.l = D[j].l := congrArg UsM.l e3
    rw [← e4]; exact this
   obtain ⟨gu, hgu⟩ : ∃ gu, xu = some ⟨gu, 0, none⟩ := by
    rcases HK.out.own.2 with ⟨e2, hn0⟩ | ⟨gu, _, _, e2, _⟩
    ·omega
    ·injection e2 with e2; exact ⟨gu, e2⟩
   subst hgu
   obtain ⟨hg1, hg2⟩ := usv_get hjD
   have HFR : Hid (∀ V, OwK w ⟨now, hor, oa, op, oc, ua, us, uc, sa, su, sc, ta, tb, tc⟩ B (some ⟨gu, 0, none⟩) D qu V → V.cell? ⟨gu, j * 2 + 1, none⟩ = some (.slice D[j].a D[j].l.length D[j].c) ∧ V.frozen? ⟨gu, j * 2 + 1, none⟩ = false ∧ gu < V.heap.size) := Lib.hid fun V hu => ⟨by rw [hu.own.cellAt _ (by omega)]; exact hg2, hu.own.frozenAt _, (hu.own.lt gu rfl).2⟩
   have HCL := Lib.hid (fun V (h : StSl V D[j].a D[j].l) (k : Cp D[j].a D[j].l.length D[j].c) => clone_st D[j].a D[j].c D[j].l V h k (by omega))
   have HUA := Lib.hid (HK.out.us.at_ _ (List.getElem_mem hjD))
   have HSR := Lib.hid (fun V (h : OwK w ⟨now, hor, oa, op, oc, ua, us, uc, sa, su, sc, ta, tb, tc⟩ B (some ⟨gu, 0, none⟩) D qu V) (a : Option Addr) (c n : Nat) hn hs hc => h.store HX.out HBB.out hjD (a := a) (c := c) (n := n) hn hs hc)
   have HDN : Hid (∀ a c, (movedU D j a c).length = us.length ∧ umS (movedU D j a c) = umS us) := Lib.hid fun a c => ⟨(movedU_len D j a c).trans HD.out.1, (movedU_m D hjD a c).trans HD.out.2⟩
   have hdl : D.length = us.length := HD.out.1
   obtain ⟨r1, r2, r3⟩ := HFR.out _ HK.out
   clear hg1 hg2 HD HST
   generalize D[j] = z at *
   go_wp2_with fail
   refine (HCL.out _ HUA.out.st ⟨HUA.out.le, HUA.out.mx, HUA.out.nil⟩).mono ?_
   rintro e w3 ⟨v3, rfl, o3, h3⟩
   clear r1 r2 r3
   obtain ⟨x3, q3, rfl, i3, j3, k3, l3⟩ := own_st o3
   have K3 := HK.out.below h3
   obtain ⟨r1, r2, r3⟩ := HFR.out _ K3
   have HN := Lib.hid (HSR.out _ K3 x3 q3 _ rfl k3 ⟨i3, j3, l3⟩)
   clear HFR HCL HUA HSR HK K3 o3 k3 i3 j3 l3 h3
   go_wp2
   go_roundw
   case rel => exact ⟨j + 1, _, by omega, by go_num, HDN.out x3 q3, HN.out⟩
   case measure => simp [intOf]; omega
  ·obtain rfl : j = us.length := by omega
   have hdl := HD.out.1
   have HUM := Lib.hid HD.out.2
   have HCP : Hid (Cp xu D.length qu) := Lib.hid (by rw [hdl]; exact ⟨hlu, hmu, hnu⟩)
   have HSC : Hid (∀ V, OwK w ⟨now, hor, oa, op, oc, ua, us, uc, sa, su, sc, ta, tb, tc⟩ B xu D qu V → V.cell? ⟨w.heap.size, 0, none⟩ = some (.int .i64 now) ∧ V.cell? ⟨w.heap.size, 1, none⟩ = some (.int .i64 hor) ∧ V.cell? ⟨w.heap.size, 2, none⟩ = some (.slice oa op.length oc) ∧ V.cell? ⟨w.heap.size, 3, none⟩ = some (.slice ua us.length uc) ∧ V.cell? ⟨w.heap.size, 4, none⟩ = some (.slice sa su.length sc) ∧ V.cell? ⟨w.heap.size, 5, none⟩ = some (.slice ta tb.length tc)) := Lib.hid fun V h => h.s.cells
   have HS2 : Hid (∀ V, SB w w.heap.size 39 ⟨now, hor, oa, op, oc, ua, us, uc, sa, su, sc, ta, tb, tc⟩ V → V.cell? ⟨w.heap.size, 0, none⟩ = some (.int .i64 now) ∧ V.cell? ⟨w.heap.size, 1, none⟩ = some (.int .i64 hor) ∧ V.cell? ⟨w.heap.size, 2, none⟩ = some (.slice oa op.length oc) ∧ V.cell? ⟨w.heap.size, 3, none⟩ = some (.slice ua us.length uc) ∧ V.cell? ⟨w.heap.size, 4, none⟩ = some (.slice sa su.length sc) ∧ V.cell? ⟨w.heap.size, 5, none⟩ = some (.slice ta tb.length tc)) := Lib.hid fun V h => h.cells
   have HBL : Hid (∀ V V', OwK w ⟨now, hor, oa, op, oc, ua, us, uc, sa, su, sc, ta, tb, tc⟩ B xu D qu V → Below V.heap.size V V' → OwK w ⟨now, hor, oa, op, oc, ua, us, uc, sa, su, sc, ta, tb, tc⟩ B xu D qu V') := Lib.hid fun V V' h q => h.below q
   obtain ⟨k0, k1, k2, k3, k4, k5⟩ := HSC.out _ HK.out
   have K0 := HK.out.below (Below.refl _ _).drew
   clear HST HD HK hj hjl hlu hmu hnu HBB
   go_wp2_with fail
   go_region_held3 (fun V => V.cell? ⟨w.heap.size, 0, none⟩ = some (.int .i64 now) ∧ V.cell? ⟨w.heap.size, 1, none⟩ = some (.int .i64 hor) ∧ V.cell? ⟨w.heap.size, 2, none⟩ = some (.slice oa op.length oc) ∧ V.cell? ⟨w.heap.size, 3, none⟩ = some (.slice ua us.length uc) ∧ V.cell? ⟨w.heap.size, 4, none⟩ = some (.slice sa su.length sc) ∧ V.cell? ⟨w.heap.size, 5, none⟩ = some (.slice ta tb.length tc))
    (first | with_reducible exact HS2.out _ KT | with_reducible exact HSC.out _ K3 | with_reducible exact HSC.out _ K2 | with_reducible exact HSC.out _ K1 | with_reducible exact HSC.out _ K0)
    (first | (have hseen := K2; clear hseen; go_at_call 142; refine (HCT.out _ K2.s.at_.tb K2.s.at_.tc).mono ?_; rintro r v3 ⟨y3, rfl, o3, h3⟩; obtain ⟨x3, q3, rfl, i3, j3, p3, l3⟩ := own_tb o3; have T3 := Cp.mk i3 j3 l3; have p1'' := p1'.below h3; have p2' := p2.below h3; have K3 := HBL.out _ _ K2 h3; have YY : SaAt v3 ⟨now, hor, x1, op, q1, xu, D, qu, x2, su, q2, x3, tb, q3⟩ := ⟨p1'', K3.us, p2', p3, T1, HCP.out, T2, T3⟩; have hF := K3.z.set YY; have KT := (SB.over K3.z YY K3.s (Nat.ne_of_lt (Nat.lt_succ_self _))).2; have hL := loadS6 hF.blk; have hFN := And.intro hF.at_ hF.frame; unfold setS saV saC at hL; unfold setS at KT hFN; dsimp only at hL KT hFN; rw [hdl] at hL KT hFN; have HL := Lib.hid hL; have HFN := Lib.hid hFN; clear hFN; obtain ⟨z0, z1, z2, z3, z4, z5⟩ := K3.z.cells; obtain ⟨f0, f1, f2, f3, f4, f5⟩ := K3.z.free; have hzl := K3.z.lt; unfold saO at z0 z1 z2 z3 z4 z5; dsimp only [List.length_nil] at z0 z1 z2 z3 z4 z5) | (have hseen := K1; clear hseen; go_at_call 141; refine (HCE.out _ K1.s.at_.su K1.s.at_.sc).mono ?_; rintro r v2 ⟨y2, rfl, o2, h2⟩; obtain ⟨x2, q2, rfl, i2, j2, p2, l2⟩ := own_en o2; have T2 := Cp.mk i2 j2 l2; have p1' := p1.below h2; have K2 := HBL.out _ _ K1 h2) | (have hseen := K0; clear hseen; go_at_call 140; refine (HCO.out _ K0.s.at_.op K0.s.at_.oc).mono ?_; rintro r v1 ⟨y1, rfl, o1, h1⟩; obtain ⟨x1, q1, rfl, i1, j1, p1, l1⟩ := own_op o1; have T1 := Cp.mk i1 j1 l1; have K1 := HBL.out _ _ K0 h1))
   all_goals
    clear K0 K1 K2 K3 KT hF hL YY HSC HS2 HBL k0 k1 k2 k3 k4 k5 z0 z1 z2 z3 z4 z5 f0 f1 f2 f3 f4 f5 hzl p1 p1' p1'' p2 p2' p3 T1 T2 T3 o1 o2 o3 h1 h2 h3 i1 i2 i3 j1 j2 j3 l1 l2 l3 HCO HCE HCT HCP
    go_wp2
    refine bodyPost_ret (v := saV ⟨now, hor, x1, op, q1, xu, D, qu, x2, su, q2, x3, tb, q3⟩) ?_ rfl ⟨⟨now, hor, x1, op, q1, xu, D, qu, x2, su, q2, x3, tb, q3⟩, rfl, HFN.out.1, by unfold SaL.m; dsimp only; rw [HUM.out], HFN.out.2⟩
    rw [results_cell1 rfl]
    unfold saV saC
    dsimp only
    rw [hdl]
    simp [asAddr, Result.andThen, HL.out]
end Go.Proofs.YtmfpjapiijgdgaaGreat
namespace Go.Proofs.YtmfpjapiijgdgaaGreat
open Go.RowKit Go.Proofs
set_option linter.unusedVariables false
set_option maxRecDepth 100000
set_option maxRecDepth 100000
theorem noT_iff (s : ByteArray) : noT s = true ↔ s = ⟨#[]⟩ := by
 unfold noT
 rw [beq_iff_eq]
 constructor
 ·intro h
  rw [show (⟨#[]⟩ : ByteArray) = tx [] from rfl, toList_tx, ByteArray.toList_eq] at h
  rcases s with ⟨d⟩
  exact congrArg ByteArray.mk (Array.toList_eq_nil_iff.1 h)
 ·rintro rfl; rfl
theorem inB_iff (a b n : Int) : inB a b n = true ↔ a ≤ n ∧ n ≤ b := by unfold inB; simp
theorem nameB_nil : nameB ⟨#[]⟩ = false := by decide
theorem rightE_iff (k a n st : Int) (u o : ByteArray) : rightE ⟨k, a, u, o, n, st⟩ = true ↔ RightV k a n st u o := by
 unfold rightE RightV
 dsimp only
 have hcase : k = 1 ∨ k = 2 ∨ k = 3 ∨ k = 7 ∨ k = 4 ∨ k = 5 ∨ k = 6 ∨ (k < 1 ∨ 7 < k) := by omega
 have hn : ∀ s, isN s = nameB s := fun _ => rfl
 rcases hcase with rfl | rfl | rfl | rfl | rfl | rfl | rfl | hk
 all_goals try (by_cases hA : nameB u = true <;> by_cases hB : nameB o = true <;> by_cases hC : o = ⟨#[]⟩ <;> by_cases hD : u = ⟨#[]⟩ <;> simp [shK, isK, rText, Bool.and_eq_true, inB_iff, hn, noT_iff, hA, hB, hC, hD, nameB_nil] <;> (try omega))
theorem behind_any (x : SaL) (k a n st : Int) (u o : ByteArray) (w : World) (h : SaAt w x) (hf : Few x.m 400) (hk : RiseK UsM.u (umS x.us)) (ht : RiseK TbM.u x.tb) (h7 : 1 ≤ k ∧ k ≤ 7) :
  Calls Tryz.prog 134 #[saV x, evV ⟨k, a, u, o, n, st⟩] w (Told w x (errK x.m k a n st u o) { goS x.m k a n st u o with now := x.now }) := by
 have hcase : k = 1 ∨ k = 2 ∨ k = 3 ∨ k = 4 ∨ k = 5 ∨ k = 6 ∨ k = 7 := by omega
 rcases hcase with rfl | rfl | rfl | rfl | rfl | rfl | rfl
 ·exact behind1 x a n st u o w h hf hk ht
 ·exact behind2 x a n st u o w h hf hk ht
 ·exact behind3 x a n st u o w h hf hk ht
 ·exact behind4 x a n st u o w h hf hk ht
 ·exact behind5 x a n st u o w h hf hk ht
 ·exact behind6 x a n st u o w h hf hk ht
 ·exact behind7 x a n st u o w h hf hk ht
theorem few_of {s : SaM} (h : RightS s) {n : Nat} (hc : stCnt s ≤ n) : Few s n := by
 have hu : ∀ l : List UsM, (∀ x ∈ l, x.l ≠ []) → l.length ≤ cntU l ∧ ∀ x ∈ l, x.l.length ≤ cntU l := by
  intro l
  induction l with
  | nil => intro _; exact ⟨Nat.zero_le _, fun x hx => by cases hx⟩
  | cons y l ih =>
   intro hl
   obtain ⟨h1, h2⟩ := ih fun x hx => hl x (List.mem_cons_of_mem _ hx)
   have h3 : 0 < y.l.length := List.length_pos_iff.2 (hl y (List.mem_cons_self ..))
   rw [cntU_cons]
   refine ⟨by rw [List.length_cons]; omega, fun x hx => ?_⟩
   rcases List.mem_cons.1 hx with rfl | hx
   ·omega
   ·have := h2 x hx; omega
 obtain ⟨h1, h2⟩ := hu s.us fun x hx => (h.us x hx).2.1
 unfold stCnt at hc
 exact ⟨by omega, by omega, by omega, by omega, fun x hx => by have := h2 x hx; omega⟩
theorem Few.mono {s : SaM} {a b : Nat} (h : Few s a) (hab : a ≤ b) : Few s b := ⟨Nat.le_trans h.op hab, Nat.le_trans h.us hab, Nat.le_trans h.su hab, Nat.le_trans h.tb hab, fun x hx => Nat.le_trans (h.st x hx) hab⟩
theorem errK_one (s : SaM) (k a n st : Int) (u o : ByteArray) : errK s k a n st u o = 0 ∨ errK s k a n st u o = 90 ∨ errK s k a n st u o = 91 ∨ errK s k a n st u o = 100 ∨ errK s k a n st u o = 101 ∨ errK s k a n st u o = 102 ∨ errK s k a n st u o = 103 := by
 unfold errK openC
 rcases fc_three s.op n u with ⟨h1, _⟩ | ⟨h1 | h1, _⟩
 all_goals
  rw [h1]
  repeat' split
  all_goals simp
theorem goS_now (s : SaM) (k a n st : Int) (u o : ByteArray) : (goS s k a n st u o).now = a := by
 unfold goS
 repeat' split
 all_goals rfl
def Tells (w : World) (s : SaM) (er : Int) (r : Ending) (w' : World) : Prop := ∃ y, r = .returned (.tuple #[saV y, .int .i64 er]) ∧ SaAt w' y ∧ y.m = s ∧ Below w.heap.size w w'
theorem SB.finZ {w T : World} {r : Nat} {t : TypeId} {z : SaL} (hZ : SB w r t z T) : (loadVar 39 ⟨r, 0, none⟩).run Tryz.prog ((((((T.setCell ⟨r, 0, none⟩ (.int .i64 0)).setCell ⟨r, 1, none⟩ (.int .i64 0)).setCell ⟨r, 2, none⟩ (.slice none 0 0)).setCell ⟨r, 3, none⟩ (.slice none 0 0)).setCell ⟨r, 4, none⟩ (.slice none 0 0)).setCell ⟨r, 5, none⟩ (.slice none 0 0)) = .ok (.agg #[.int .i64 0, .int .i64 0, .slice none 0 0, .slice none 0 0, .slice none 0 0, .slice none 0 0]) ((((((T.setCell ⟨r, 0, none⟩ (.int .i64 0)).setCell ⟨r, 1, none⟩ (.int .i64 0)).setCell ⟨r, 2, none⟩ (.slice none 0 0)).setCell ⟨r, 3, none⟩ (.slice none 0 0)).setCell ⟨r, 4, none⟩ (.slice none 0 0)).setCell ⟨r, 5, none⟩ (.slice none 0 0)) ∧ SaAt (setS T r saO) saO ∧ Below w.heap.size w (setS T r saO) := by
 have h := SB.finV (SaAt.zero T) hZ
 have h1 := h.1
 unfold setS saV saC saO at h1
 simp only [List.length_nil] at h1
 exact ⟨h1, h.2⟩
set_option maxHeartbeats 8000000 in
theorem apply_any (x : SaL) (k a n st : Int) (u o : ByteArray) (w : World) (h : SaAt w x) (hr : RightS x.m) (hc : stCnt x.m ≤ 200) (hu : u.size ≤ maxLen) (ho : o.size ≤ maxLen) :
  Calls Tryz.prog 62 #[saV x, evV ⟨k, a, u, o, n, st⟩] w (Tells w (tellS x.m k a n st u o) (errS x.m k a n st u o)) := by
 obtain ⟨HK, HE, HZ⟩ := three_SB h ⟨k, a, u, o, n, st⟩ 39 64 39
 have HR := Lib.hid (fun V => evright_any ⟨k, a, u, o, n, st⟩ ⟨hu, ho⟩ V)
 have HS := Lib.hid HK
 have HZZ := Lib.hid HZ
 have HEE := Lib.hid HE
 by_cases hv : RightV k a n st u o
 ·rw [(rightE_iff k a n st u o).2 hv] at HR
  by_cases hlt : a < x.now
  ·-- a time that is past
   have he : errS x.m k a n st u o = 111 := by unfold errS; rw [if_pos hv, if_pos (show a < x.m.now from hlt)]
   have ht : tellS x.m k a n st u o = saZ := by unfold tellS; rw [he, if_neg (by decide)]
   rw [he, ht]
   obtain ⟨⟨e0, e1, e2, e3, e4, e5⟩, -⟩ := cells6 HE.blk
   obtain ⟨now, hor, oa, op, oc, ua, us, uc, sa, su, sc, ta, tb, tc⟩ := x
   unfold saV evV saC at *
   dsimp only at *
   clear h hr hc HK HZ HE
   go_enter Tryz.func62, Tryz.ntmps62
   go_wp2_with fail
   refine (HR.out _).mono ?_
   rintro e w1 ⟨rfl, h1⟩
   have B1 := HZZ.out.below h1
   have A1 := HS.out.below h1
   have hfin := B1.finZ
   clear e0 e1 e2 e3 e4 e5
   obtain ⟨⟨e0, e1, e2, e3, e4, e5⟩, -⟩ := cells6 (HEE.out.below h1).blk
   obtain ⟨c0, c1, c2, c3, c4, c5⟩ := A1.cells
   obtain ⟨z0, z1, z2, z3, z4, z5⟩ := B1.cells
   obtain ⟨y0, y1, y2, y3, y4, y5⟩ := B1.free
   have hzl := B1.lt
   have HL := Lib.hid hfin.1
   have HFN := Lib.hid hfin.2
   unfold saO at z0 z1 z2 z3 z4 z5
   dsimp only at *
   clear HS HZZ HEE A1 B1 hfin h1 HR
   go_wp2
   refine bodyPost_ret (v := .tuple #[saV saO, .int .i64 111]) ?_ rfl ⟨_, rfl, HFN.out.1, rfl, HFN.out.2⟩
   rw [results_cellT rfl]
   unfold saV saC saO
   simp [asAddr, Result.andThen, HL.out]
  ·-- what the event does
   have h7 : 1 ≤ k ∧ k ≤ 7 := by
    obtain ⟨_, _, hh⟩ := hv
    omega
   have hf := few_of hr hc
   have HB := Lib.hid (fun V (h : SaAt V x) => behind_any x k a n st u o V h (hf.mono (by decide)) hr.ur hr.tr h7)
   have hes : errS x.m k a n st u o = errK x.m k a n st u o := by unfold errS; rw [if_pos hv, if_neg (show ¬ a < x.m.now from hlt)]
   have hgo : errK x.m k a n st u o = 0 → Few (goS x.m k a n st u o) 10000 := fun he => (few_of (right_go hr (hes.trans he)) (cnt_go x.m k a n st u o)).mono (by omega)
   have htz : errK x.m k a n st u o ≠ 0 → tellS x.m k a n st u o = saZ := fun he => by unfold tellS; rw [hes, if_neg he]
   have htg : errK x.m k a n st u o = 0 → tellS x.m k a n st u o = goS x.m k a n st u o := fun he => by unfold tellS; rw [hes, if_pos he]
   have hnow := goS_now x.m k a n st u o
   rw [hes]
   have hone := errK_one x.m k a n st u o
   generalize errK x.m k a n st u o = er at *
   generalize goS x.m k a n st u o = G at *
   generalize tellS x.m k a n st u o = R at *
   obtain ⟨⟨e0, e1, e2, e3, e4, e5⟩, -⟩ := cells6 HE.blk
   obtain ⟨now, hor, oa, op, oc, ua, us, uc, sa, su, sc, ta, tb, tc⟩ := x
   unfold saV evV saC at *
   dsimp only at *
   clear h hr hc HK HZ HE hf hv
   go_enter Tryz.func62, Tryz.ntmps62
   go_wp2_with fail
   refine (HR.out _).mono ?_
   rintro e w1 ⟨rfl, h1⟩
   have B1 := Lib.hid (HZZ.out.below h1)
   have A1 := Lib.hid (HS.out.below h1)
   have E1 := Lib.hid (HEE.out.below h1)
   clear e0 e1 e2 e3 e4 e5
   obtain ⟨⟨e0, e1, e2, e3, e4, e5⟩, -⟩ := cells6 E1.out.blk
   obtain ⟨c0, c1, c2, c3, c4, c5⟩ := A1.out.cells
   dsimp only at *
   clear HS HZZ HEE h1 HR
   go_wp2_with fail
   refine (HB.out _ A1.out.at_).mono ?_
   rintro e w2 ⟨y, rfl, y1, y2, h2⟩
   have B2 := Lib.hid (B1.out.below h2)
   have E2 := Lib.hid (E1.out.below h2)
   obtain ⟨now1, hor1, oa1, op1, oc1, ua1, us1, uc1, sa1, su1, sc1, ta1, tb1, tc1⟩ := y
   unfold saV saC at *
   dsimp only at *
   clear e0 e1 e2 e3 e4 e5 c0 c1 c2 c3 c4 c5
   obtain ⟨⟨e0, e1, e2, e3, e4, e5⟩, -⟩ := cells6 E2.out.blk
   have hel := heap_lt E2.out.blk
   by_cases he : er = 0
   ·have y3 := y2 he
    have hR := htg he
    subst hR
    have hy : SaAt w2 ⟨a, hor1, oa1, op1, oc1, ua1, us1, uc1, sa1, su1, sc1, ta1, tb1, tc1⟩ := ⟨y1.op, y1.us, y1.su, y1.tb, y1.oc, y1.uc, y1.sc, y1.tc⟩
    have hym : (⟨a, hor1, oa1, op1, oc1, ua1, us1, uc1, sa1, su1, sc1, ta1, tb1, tc1⟩ : SaL).m = R := by
     unfold SaL.m at y3 ⊢
     obtain ⟨Gn, Gh, Go, Gu, Gs, Gt⟩ := R
     simp only at y3 hnow ⊢
     injection y3 with _ g1 g2 g3 g4 g5
     rw [hnow, g1, g2, g3, g4, g5]
    have HC := Lib.hid (fun V (q : Below w2.heap.size w2 V) => copied_any _ V (hy.below q) (hym.symm ▸ hgo he))
    rw [hym] at HC
    unfold saV saC at HC
    subst he
    dsimp only at *
    clear A1 E1 B1 E2 HB htz htg hgo hnow y1 y2 y3 hy hym h2 hlt h7 hes hone
    go_wp2_with fail
    refine (HC.out _ (below_one _ _)).mono ?_
    rintro e w3 ⟨z, rfl, z1, z2, h3⟩
    have B3 := (B2.out.below (below_one w2 _)).below h3
    have hfin := SB.finV z1 B3
    clear e0 e1 e2 e3 e4 e5 hel
    obtain ⟨c0, c1, c2, c3, c4, c5⟩ := B3.cells
    obtain ⟨f0, f1, f2, f3, f4, f5⟩ := B3.free
    have hzl := B3.lt
    have HL := Lib.hid hfin.1
    have HFN := Lib.hid (And.intro hfin.2.1 (And.intro z2 hfin.2.2))
    obtain ⟨now2, hor2, oa2, op2, oc2, ua2, us2, uc2, sa2, su2, sc2, ta2, tb2, tc2⟩ := z
    unfold setS saV saC at HL
    unfold saV saC at *
    unfold saO at c0 c1 c2 c3 c4 c5
    dsimp only at *
    clear B2 B3 hfin z1 z2 h3 HC
    go_wp2
    refine bodyPost_ret (v := .tuple #[saV ⟨now2, hor2, oa2, op2, oc2, ua2, us2, uc2, sa2, su2, sc2, ta2, tb2, tc2⟩, .int .i64 0]) ?_ rfl ⟨_, rfl, HFN.out⟩
    rw [results_cellT rfl]
    unfold saV saC
    simp [asAddr, Result.andThen, HL.out]
   ·have hR := htz he
    subst hR
    have B3 := B2.out.below (below_one w2 (.cells #[.int .i64 now1, .int .i64 hor1, .slice oa1 op1.length oc1, .slice ua1 us1.length uc1, .slice sa1 su1.length sc1, .slice ta1 tb1.length tc1] 39))
    have hfin := B3.finZ
    have HB3 := Lib.hid B3
    have HL := Lib.hid hfin.1
    have HFN := Lib.hid hfin.2
    clear A1 E1 B1 E2 HB htz htg hgo hnow y1 y2 h2 hlt h7 hes B2 B3 hfin
    rcases hone with h9 | h9 | h9 | h9 | h9 | h9 | h9
    ·exact absurd h9 he
    all_goals
     clear he
     subst h9
     go_upto_region 7 with fail
     clear e0 e1 e2 e3 e4 e5 hel
     generalize hW : w2.alloc _ = W3 at *
     clear hW
     obtain ⟨z0, z1, z2, z3, z4, z5⟩ := HB3.out.cells
     obtain ⟨f0, f1, f2, f3, f4, f5⟩ := HB3.out.free
     have hzl := HB3.out.lt
     unfold saO at z0 z1 z2 z3 z4 z5
     dsimp only at *
     clear HB3
     go_wp2
     refine bodyPost_ret (v := .tuple #[saV saO, .int .i64 _]) ?_ rfl ⟨_, rfl, HFN.out.1, rfl, HFN.out.2⟩
     rw [results_cellT rfl]
     unfold saV saC saO
     simp [asAddr, Result.andThen, HL.out]
 ·have he : errS x.m k a n st u o = 110 := by unfold errS; rw [if_neg hv]
  have ht : tellS x.m k a n st u o = saZ := by unfold tellS; rw [he, if_neg (by decide)]
  rw [he, ht]
  have hE : rightE ⟨k, a, u, o, n, st⟩ = false := Bool.eq_false_iff.2 fun e => hv ((rightE_iff k a n st u o).1 e)
  rw [hE] at HR
  obtain ⟨⟨e0, e1, e2, e3, e4, e5⟩, -⟩ := cells6 HE.blk
  obtain ⟨now, hor, oa, op, oc, ua, us, uc, sa, su, sc, ta, tb, tc⟩ := x
  unfold saV evV saC at *
  dsimp only at *
  clear h hr hc HK HZ HE
  go_enter Tryz.func62, Tryz.ntmps62
  go_wp2_with fail
  refine (HR.out _).mono ?_
  rintro e w1 ⟨rfl, h1⟩
  have B1 := HZZ.out.below h1
  have hfin := B1.finZ
  clear e0 e1 e2 e3 e4 e5
  obtain ⟨z0, z1, z2, z3, z4, z5⟩ := B1.cells
  obtain ⟨y0, y1, y2, y3, y4, y5⟩ := B1.free
  have hzl := B1.lt
  have HL := Lib.hid hfin.1
  have HFN := Lib.hid hfin.2
  unfold saO at z0 z1 z2 z3 z4 z5
  dsimp only at *
  clear HS HZZ HEE B1 hfin h1 HR
  go_wp2
  refine bodyPost_ret (v := .tuple #[saV saO, .int .i64 110]) ?_ rfl ⟨_, rfl, HFN.out.1, rfl, HFN.out.2⟩
  rw [results_cellT rfl]
  unfold saV saC saO
  simp [asAddr, Result.andThen, HL.out]
end Go.Proofs.YtmfpjapiijgdgaaGreat
namespace Go.Proofs.YtmfpjapiijgdgaaGreat
set_option linter.unusedVariables false
set_option maxRecDepth 100000
def an11 : ByteArray := ⟨#[97, 110, 110]⟩
def no11 : ByteArray := ⟨#[]⟩
def sA1 : SaM := ⟨3, 0, [⟨1, an11, 1, 3⟩], [], [], []⟩
theorem an_name : nameB an11 = true := by decide
theorem rv1 : RightV 1 3 1 1 an11 no11 := ⟨by decide, by decide, .inl ⟨.inl rfl, by decide, by decide, an_name, rfl, by decide, by decide⟩⟩
theorem aE1 : errS saZ 1 3 1 1 an11 no11 = 0 := by unfold errS; rw [if_pos rv1, if_neg (by decide)]; rfl
theorem aT1 : tellS saZ 1 3 1 1 an11 no11 = sA1 := by unfold tellS; rw [aE1, if_pos rfl]; rfl
theorem aF : findC [⟨1, an11, 1, 3⟩] 1 an11 = 0 ∧ findE [⟨1, an11, 1, 3⟩] 1 an11 = ⟨1, an11, 1, 3⟩ ∧ findP [⟨1, an11, 1, 3⟩] 1 an11 = 0 := fc_hit (l := [⟨1, an11, 1, 3⟩]) (n := 1) (k := 0) ⟨by decide, fun i hi h => absurd h (by omega), fun _ => rfl⟩ (by decide) rfl
end Go.Proofs.YtmfpjapiijgdgaaGreat
namespace Go.Proofs.YtmfpjapiijgdgaaGreat
open Go.RowKit Go.Proofs
set_option linter.unusedVariables false
set_option maxRecDepth 100000
set_option maxRecDepth 100000
def y3 (oa ua sa ta : Option Addr) (oc uc sc tc : Nat) : SaL := ⟨9, 0, oa, [], oc, ua, [], uc, sa, [], sc, ta, [⟨an11, 9⟩], tc⟩
def y4 (oa ua sa ta a : Option Addr) (oc uc sc tc c : Nat) : SaL := ⟨7, 0, oa, [], oc, ua, [⟨an11, a, [⟨3, 7, 1, 1⟩], c⟩], uc, sa, [], sc, ta, [], tc⟩
end Go.Proofs.YtmfpjapiijgdgaaGreat
namespace Go.Proofs.YtmfpjapiijgdgaaGreat
open Go.ChangeShapes Go.WideShapes Go.ChangeAt Go.RowKit
set_option linter.unusedVariables false
set_option maxRecDepth 100000
set_option maxRecDepth 100000
section
variable {H : Type} {enc : TypeId × Value → H} {P : Program} {w : World} {base : Nat} {spare : Nat → Bool} {held : Bool}
theorem trod_six {e : TypeId} {f0 f1 f2 f3 f4 f5 : Field} {fuel : Nat} {v0 v1 v2 v3 v4 v5 : Value} {x : DataW H × List MemPlace} (he : P.underlying e = some (.struct #[f0, f1, f2, f3, f4, f5]))
  (o0 : f0.offset = 0) (o1 : f1.offset = 1) (o2 : f2.offset = 2) (o3 : f3.offset = 3) (o4 : f4.offset = 4) (o5 : f5.offset = 5) (c0 : P.cellsOf f0.type = 1) (c1 : P.cellsOf f1.type = 1) (c2 : P.cellsOf f2.type = 1) (c3 : P.cellsOf f3.type = 1) (c4 : P.cellsOf f4.type = 1) (c5 : P.cellsOf f5.type = 1)
  (h : DataW.trod enc P w base spare held fuel e [v0, v1, v2, v3, v4, v5] = some x) :
  ∃ (y0 y1 y2 y3 y4 y5 : DataW H × List MemPlace) (n : Nat), x.1 = .agg [y0.1, y1.1, y2.1, y3.1, y4.1, y5.1] ∧ DataW.trod enc P w base spare held n f0.type [v0] = some y0 ∧ DataW.trod enc P w base spare held n f1.type [v1] = some y1 ∧ DataW.trod enc P w base spare held n f2.type [v2] = some y2 ∧ DataW.trod enc P w base spare held n f3.type [v3] = some y3 ∧ DataW.trod enc P w base spare held n f4.type [v4] = some y4 ∧ DataW.trod enc P w base spare held n f5.type [v5] = some y5 := by
 obtain ⟨xs, k, _, rfl, _, hxl, hf⟩ := DataW.trod_struct he h
 match xs, hxl with
 | [y0, y1, y2, y3, y4, y5], _ =>
  have g0 := hf 0 f0 rfl
  have g1 := hf 1 f1 rfl
  have g2 := hf 2 f2 rfl
  have g3 := hf 3 f3 rfl
  have g4 := hf 4 f4 rfl
  have g5 := hf 5 f5 rfl
  simp [o0, c0, o1, c1, o2, c2, o3, c3, o4, c4, o5, c5] at g0 g1 g2 g3 g4 g5
  exact ⟨y0, y1, y2, y3, y4, y5, k, rfl, g0, g1, g2, g3, g4, g5⟩
end
theorem evFields : ∃ f0 f1 f2 f3 f4 f5 : Field, Tryz.prog.underlying 47 = some (.struct #[f0, f1, f2, f3, f4, f5]) ∧ f0.offset = 0 ∧ f1.offset = 1 ∧ f2.offset = 2 ∧ f3.offset = 3 ∧ f4.offset = 4 ∧ f5.offset = 5 ∧ f0.type = 3 ∧ f1.type = 3 ∧ f2.type = 9 ∧ f3.type = 9 ∧ f4.type = 3 ∧ f5.type = 3 := ⟨_, _, _, _, _, _, Tryz.underlying47, rfl, rfl, rfl, rfl, rfl, rfl, rfl, rfl, rfl, rfl, rfl, rfl⟩
theorem six_event {H : Type} {enc : TypeId × Value → H} {W : World} {base : Nat} {spare : Nat → Bool} {held : Bool} {fuel : Nat} {v0 v1 v2 v3 v4 v5 : Value} {x : DataW H × List MemPlace}
  (h : DataW.trod enc Tryz.prog W base spare held fuel 47 [v0, v1, v2, v3, v4, v5] = some x) :
  ∃ e : EvM, [v0, v1, v2, v3, v4, v5] = evc e ∧ EFits e := by
 obtain ⟨f0, f1, f2, f3, f4, f5, he, o0, o1, o2, o3, o4, o5, t0, t1, t2, t3, t4, t5⟩ := evFields
 have ci : Tryz.prog.cellsOf 3 = 1 := by kernel_rfl
 have cs : Tryz.prog.cellsOf 9 = 1 := by kernel_rfl
 obtain ⟨y0, y1, y2, y3, y4, y5, n, hx, g0, g1, g2, g3, g4, g5⟩ := trod_six he o0 o1 o2 o3 o4 o5 (by rw [t0]; exact ci) (by rw [t1]; exact ci) (by rw [t2]; exact cs) (by rw [t3]; exact cs) (by rw [t4]; exact ci) (by rw [t5]; exact ci) h
 rw [t0] at g0
 rw [t1] at g1
 rw [t2] at g2
 rw [t3] at g3
 rw [t4] at g4
 rw [t5] at g5
 obtain ⟨z0, e0, _, w0⟩ := DataW.trod_int Tryz.underlying3 g0
 obtain ⟨z1, e1, _, w1⟩ := DataW.trod_int Tryz.underlying3 g1
 obtain ⟨z2, e2, _, w2⟩ := DataW.trod_string Tryz.underlying9 g2
 obtain ⟨z3, e3, _, w3⟩ := DataW.trod_string Tryz.underlying9 g3
 obtain ⟨z4, e4, _, w4⟩ := DataW.trod_int Tryz.underlying3 g4
 obtain ⟨z5, e5, _, w5⟩ := DataW.trod_int Tryz.underlying3 g5
 simp at e0 e1 e2 e3 e4 e5
 subst e0 e1 e2 e3 e4 e5
 exact ⟨⟨z0, z1, z2, z3, z4, z5⟩, rfl, ⟨w2, w3⟩⟩
set_option maxRecDepth 100000 in
/-- a row of events that came in -/
theorem open_events {H : Type} {enc : TypeId × Value → H} {W : World} {base : Nat} {v : Value} {d : DataW H} {p : List MemPlace}
  (hok : Value.okWide Tryz.prog W .any base 28 v) (h : DataW.Trod enc Tryz.prog W 0 (fun _ => true) true 28 v d p) :
  ∃ (a : Option Addr) (c : Nat) (l : List EvM), v = .slice a l.length c ∧ EvSl W a l ∧ FitsV l ∧ l.length ≤ c ∧ c ≤ maxLen ∧ (a = none → c = 0) := by
 obtain ⟨a0, len, cap, rfl⟩ := okWide_slice Tryz.underlying28 hok
 obtain ⟨fuel, hf⟩ := h
 have ce : Tryz.prog.cellsOf 47 = 6 := by kernel_rfl
 rcases Go.Deep.open_slice Tryz.underlying28 hf with ⟨hcs, _⟩ | ⟨a, len', cap', m, n, D, Pl, hcs, hb, hl, hm, hmm, hd, hx⟩
 ·simp [Value.cells] at hcs
  obtain ⟨rfl, rfl, rfl⟩ := hcs
  exact ⟨none, 0, [], rfl, EvSl.nil _ _, fun o ho => by (cases ho), by simp, by decide, fun _ => rfl⟩
 ·simp [Value.cells] at hcs
  obtain ⟨rfl, rfl, rfl⟩ := hcs
  have hlm : len ≤ m := by rw [hmm]; split <;> omega
  have each : ∀ i, i < len → ∃ x : EvM, (∀ j, j < 6 → W.cell? (a.add (i * 6 + j)) = (evc x)[j]?) ∧ EFits x := fun i hi => by
   obtain ⟨cs', h1, h2⟩ := hx i (by omega)
   rw [ce] at h1
   obtain ⟨_, hlen, hcell⟩ := World.cells?_some h1
   match cs', hlen with
   | [v0, v1, v2, v3, v4, v5], _ =>
    obtain ⟨x, hc, q1⟩ := six_event h2
    refine ⟨x, fun j hj => ?_, q1⟩
    have := hcell j (by omega)
    rw [Go.Deep.add_add] at this
    rw [this, ← hc]
  have some_x : ∃ f : Nat → EvM, ∀ i, i < len → (∀ j, j < 6 → W.cell? (a.add (i * 6 + j)) = (evc (f i))[j]?) ∧ EFits (f i) := by
   refine ⟨fun i => if h : i < len then (each i h).choose else ⟨0, 0, ⟨#[]⟩, ⟨#[]⟩, 0, 0⟩, fun i hi => ?_⟩
   simp only [hi, ↓reduceDIte]
   exact (each i hi).choose_spec
  obtain ⟨f, hf2⟩ := some_x
  have hlen : ((List.range len).map f).length = len := by simp
  refine ⟨some a, cap, (List.range len).map f, by rw [hlen], fun k hk => ?_, fun x hxm => ?_, by omega, hm, fun h => by cases h⟩
  ·rw [hlen] at hk
   obtain ⟨b, off, spot⟩ := a
   have h0 := (hf2 0 (by omega)).1 0 (by omega)
   have hspot : spot = none := by
    have h1 : W.cell? ((⟨b, off, spot⟩ : Addr).add 0) = some (.int .i64 (f 0).kind) := h0
    simpa [Addr.add] using World.cell?_spot h1
   subst hspot
   have g := (hf2 k hk).1
   refine ⟨b, off, rfl, ?_, fun i hi => ?_⟩
   ·have h1 := g 0 (by omega)
    rw [Go.WideShapes.add_plain] at h1
    exact World.block_lt_of_cell? W ⟨b, off + (k * 6 + 0), none⟩ (h1.trans rfl)
   ·have h1 := g i hi
    rw [Go.WideShapes.add_plain] at h1
    rw [Nat.add_assoc, h1]
    simp only [List.getElem_map, List.getElem_range]
  ·obtain ⟨i, hi, rfl⟩ := List.mem_map.1 hxm
   exact (hf2 i (List.mem_range.1 hi)).2
end Go.Proofs.YtmfpjapiijgdgaaGreat
namespace Go.Proofs.YtmfpjapiijgdgaaGreat
open Go.RowKit Go.Proofs
set_option linter.unusedVariables false
set_option maxRecDepth 100000
set_option maxRecDepth 100000
section
variable {M : SaM} (x y : SaL) (V : World) (h : SaAt V x) (k : SaAt V y) (hm : x.m = M) (km : y.m = M)
include h hm
include k km
end
def erV (s : SaM) (e : EvM) : Int := errS s e.kind e.at_ e.n e.status e.user e.other
def teV (s : SaM) (e : EvM) : SaM := tellS s e.kind e.at_ e.n e.status e.user e.other
theorem te_ok {s : SaM} {e : EvM} (h : RightS s) (he : erV s e = 0) : RightS (teV s e) ∧ stCnt (teV s e) ≤ stCnt s + 1 ∧ teV s e = goS s e.kind e.at_ e.n e.status e.user e.other := by
 have h1 : teV s e = goS s e.kind e.at_ e.n e.status e.user e.other := by unfold teV tellS; exact if_pos he
 rw [h1]
 exact ⟨right_go h he, cnt_go _ _ _ _ _ _ _, rfl⟩
theorem g_apply {M : SaM} (x : SaL) (e : EvM) (V : World) (h : SaAt V x) (hm : x.m = M) (hr : RightS M) (hc : stCnt M ≤ 200) (hw : EFits e) : Calls Tryz.prog 62 #[saV x, evV e] V (Tells V (teV M e) (erV M e)) := by
 subst hm
 exact apply_any x e.kind e.at_ e.n e.status e.user e.other V h hr hc hw.1 hw.2
end Go.Proofs.YtmfpjapiijgdgaaGreat
namespace Go.Proofs.YtmfpjapiijgdgaaGreat
open Go.RowKit Go.Proofs
set_option linter.unusedVariables false
set_option maxRecDepth 100000
theorem er_make (n : Nat) (hn : n ≤ 1000000) (W : World) : (Instr.makeSlice 40 (.int .i64 0) (.int .i64 (n : Int))).run Tryz.prog W = .ok (.slice (some ⟨W.heap.size, 0, none⟩) 0 n) (W.alloc (.cells (erc [] n).toArray 60)) := by
 obtain ⟨i0, hi, hz0, hz1, hz2⟩ := info_parts infoErr
 have hr := run_make (P := Tryz.prog) W 40 60 i0 _ Tryz.underlying40 hi hz0 .i64 .i64 0 (n : Int) (Int.le_refl _) (by omega) (by rw [hz2]; omega) (by omega)
 rw [hz1, Int.toNat_zero, Int.toNat_natCast, Nat.mul_one] at hr
 have e : madeCells (Value.int .i64 0).cells n = (erc [] n).toArray := by
  apply Array.toList_inj.1
  rw [made_cells]
  rfl
 rw [e] at hr
 exact hr
set_option maxHeartbeats 4000000 in
theorem pfold_any (x : SaL) (a : Option Addr) (c : Nat) (l : List EvM) (w : World) (h : SaAt w x) (hr : RightS x.m) (hs : EvSl w a l) (hf : FitsV l) (hc : stCnt x.m + l.length ≤ 200) :
  Calls Tryz.prog 22 #[saV x, .slice a l.length c] w (FoldsTo w (foldE x.m l) (errsE x.m l)) := by
 obtain ⟨X, Z⟩ := two_SB h 39 39
 have A0 := (hs.below (below_one w (.cells (saC x) 39))).below (below_one _ (.cells (saC saO) 39))
 have HOW : Hid (∀ V, SaAt V x → Calls Tryz.prog 70 #[saV x] V (fun r w' => ∃ y, r = .returned (.agg #[.int .i64 y.now, .int .i64 y.hor, .slice y.oa y.op.length y.oc, .slice y.ua y.us.length y.uc, .slice y.sa y.su.length y.sc, .slice y.ta y.tb.length y.tc]) ∧ SaAt w' y ∧ y.m = x.m ∧ Below V.heap.size V w')) := Lib.hid (fun V h => own_any x V h ((few_of hr (Nat.le_refl _)).mono (by omega)))
 have HMK := Lib.hid (fun W => er_make l.length (by omega) W)
 have HX := Lib.hid X
 have HZ := Lib.hid Z
 have HA := Lib.hid A0
 have HFV := Lib.hid hf
 have HRI := Lib.hid hr
 have HLE : Hid (stCnt x.m + l.length ≤ 200) := Lib.hid hc
 obtain ⟨c0, c1, c2, c3, c4, c5⟩ := X.cells
 unfold saO saV saC at *
 simp only [List.length_nil] at *
 clear h hr hs hf hc X Z A0
 go_enter Tryz.func22, Tryz.ntmps22
 go_wp2_with fail
 refine (HOW.out _ HX.out.at_).mono ?_
 rintro r w1 ⟨y, rfl, hy, hym, h1⟩
 clear c0 c1 c2 c3 c4 c5
 have X1 := HX.out.below h1
 have Z1 := HZ.out.below h1
 have A1 := HA.out.below h1
 obtain ⟨c0, c1, c2, c3, c4, c5⟩ := X1.cells
 obtain ⟨f0, f1, f2, f3, f4, f5⟩ := X1.free
 have hxl := X1.lt
 have X2 := X1.set hy
 have Z2 := (SB.over X1 hy Z1 (Nat.ne_of_gt (Nat.lt_succ_self _))).2
 have A2 := evsl_setS X1 hy A1
 unfold setS at X2 Z2 A2
 replace X2 := Lib.hid X2
 replace Z2 := Lib.hid Z2
 replace A2 := Lib.hid A2
 replace hym := Lib.hid hym
 clear X1 Z1 A1 HX HZ HA h1 hy HOW
 go_upto_region 2 with fail
 generalize ((((((w1.setCell ⟨w.heap.size, 0, none⟩ (.int .i64 y.now)).setCell ⟨w.heap.size, 1, none⟩ (.int .i64 y.hor)).setCell ⟨w.heap.size, 2, none⟩ (.slice y.oa y.op.length y.oc)).setCell ⟨w.heap.size, 3, none⟩ (.slice y.ua y.us.length y.uc)).setCell ⟨w.heap.size, 4, none⟩ (.slice y.sa y.su.length y.sc)).setCell ⟨w.heap.size, 5, none⟩ (.slice y.ta y.tb.length y.tc)) = U at *
 clear c0 c1 c2 c3 c4 c5 f0 f1 f2 f3 f4 f5 hxl
 have hmk := HMK.out U
 have hb := below_one U (.cells (erc [] l.length).toArray 60)
 have HF : Hid (FoK w 39 a l y [] (.slice (some ⟨U.heap.size, 0, none⟩) 0 l.length) (U.alloc (.cells (erc [] l.length).toArray 60))) := Lib.hid ⟨X2.out.below hb, Z2.out.below hb, .inr ⟨U.heap.size, l.length, by rw [List.length_nil, Nat.zero_add], X2.out.frame.size, heap_alloc_new _ _, by have := HLE.out; unfold maxLen; rw [List.length_nil]; omega⟩, A2.out.below hb⟩
 clear X2 Z2 A2 hb HMK
 go_upto_region 3 with fail
 clear hmk
 generalize (U.alloc (.cells (erc [] l.length).toArray 60)) = UB at *
 go_wp2
 go_loopw [6, 18] (fun ov iv wr => ∃ (j : Nat) (q : SaL), j ≤ l.length ∧ iv = .int .i64 j ∧ Hid (q.m = foldE x.m (l.take j)) ∧ Hid (FoK w 39 a l q (errsE x.m (l.take j)) ov wr)) (fun _ iv _ => l.length - (intOf iv).toNat)
 case atStart => exact ⟨0, y, by omega, rfl, hym, HF⟩
 case round =>
  clear HF hym
  obtain ⟨j, q, hj, rfl, HM, HG⟩ := hrel
  by_cases hjl : j < l.length
  ·have hw1 : IntKind.i64.wrap ((j : Int) + 1) = (j : Int) + 1 := IntWalk.i64_in _ (by have := HLE.out; omega)
   obtain ⟨ba, ao, ea, hal, u0, u1, u2, u3, u4, u5⟩ := HG.out.l.at_ hjl
   subst ea
   have hw : EFits l[j] := HFV.out _ (List.getElem_mem hjl)
   have hrq : RightS q.m := by rw [HM.out]; exact right_fold _ HRI.out
   have hcq : stCnt q.m ≤ 200 := by
    have h1 := cnt_fold (l.take j) x.m
    rw [← HM.out] at h1
    have h2 := HLE.out
    rw [List.length_take] at h1
    omega
   have HNX : Hid (∀ z : SaL, z.m = teV q.m l[j] → erV q.m l[j] = 0 → z.m = foldE x.m (l.take (j + 1))) := Lib.hid fun z hz h0 => by
    rw [foldE_take _ _ _ hjl, ← HM.out, nxE_ok h0, hz]
    exact (te_ok hrq h0).2.2
   have HST : Hid (¬ erV q.m l[j] = 0 → q.m = foldE x.m (l.take (j + 1))) := Lib.hid fun h0 => by
    rw [foldE_take _ _ _ hjl, ← HM.out, nxE_no h0]
   have HER : Hid (errsE x.m (l.take (j + 1)) = errsE x.m (l.take j) ++ [erV q.m l[j]]) := Lib.hid (by
    rw [errsE_take _ _ _ hjl, ← HM.out]
    rfl)
   have HRQ : Hid (∀ y : SaL, y.m = foldE x.m (l.take (j + 1)) → RightS y.m) := Lib.hid fun y hy => by rw [hy]; exact right_fold _ HRI.out
   have hel : (errsE x.m (l.take j)).length ≤ 1000000 := by have := HLE.out; rw [errsE_len, List.length_take]; omega
   generalize l[j] = e at *
   have HAP : Hid (∀ V, SaAt V q → Calls Tryz.prog 62 #[saV q, evV e] V (fun r w' => ∃ z, r = .returned (.tuple #[.agg #[.int .i64 z.now, .int .i64 z.hor, .slice z.oa z.op.length z.oc, .slice z.ua z.us.length z.uc, .slice z.sa z.su.length z.sc, .slice z.ta z.tb.length z.tc], .int .i64 (erV q.m e)]) ∧ SaAt w' z ∧ z.m = teV q.m e ∧ Below V.heap.size V w')) := Lib.hid (fun V h => g_apply (M := q.m) q e V h rfl hrq hcq hw)
   generalize errsE x.m (l.take j) = E at *
   clear hw hrq hcq HM
   generalize teV q.m e = M1 at *
   generalize erV q.m e = er at *
   unfold saV saC evV at HAP
   have hbE := below_one wr (.cells #[.int .i64 e.kind, .int .i64 e.at_, .string e.user, .string e.other, .int .i64 e.n, .int .i64 e.status] 64)
   have hnE := heap_alloc_new wr (.cells #[.int .i64 e.kind, .int .i64 e.at_, .string e.user, .string e.other, .int .i64 e.n, .int .i64 e.status] 64)
   have GE := Lib.hid (HG.out.below hbE)
   obtain ⟨k0, k1, k2, k3, k4, k5⟩ := GE.out.s.cells
   have e0 := cell_of_row _ _ 0 _ _ (0, 0) hnE
   have e1 := cell_of_row _ _ 1 _ _ (0, 0) hnE
   have e2 := cell_of_row _ _ 2 _ _ (0, 0) hnE
   have e3 := cell_of_row _ _ 3 _ _ (0, 0) hnE
   have e4 := cell_of_row _ _ 4 _ _ (0, 0) hnE
   have e5 := cell_of_row _ _ 5 _ _ (0, 0) hnE
   clear hbE hnE HG
   go_wp2_with fail
   refine (HAP.out _ GE.out.s.at_).mono ?_
   rintro r1 w2 ⟨z, rfl, hz, hzm, h2⟩
   clear u0 u1 u2 u3 u4 u5 k0 k1 k2 k3 k4 k5 e0 e1 e2 e3 e4 e5 HAP
   have hb2 := below_one w2 (.cells #[.int .i64 z.now, .int .i64 z.hor, .slice z.oa z.op.length z.oc, .slice z.ua z.us.length z.uc, .slice z.sa z.su.length z.sc, .slice z.ta z.tb.length z.tc] 39)
   have TK := Lib.hid ((GE.out.below h2).below hb2)
   have TO : Hid (SB w w2.heap.size 39 z (w2.alloc (.cells #[.int .i64 z.now, .int .i64 z.hor, .slice z.oa z.op.length z.oc, .slice z.ua z.us.length z.uc, .slice z.sa z.su.length z.sc, .slice z.ta z.tb.length z.tc] 39))) := Lib.hid (SB.new (GE.out.below h2).s.frame hz 39)
   clear hb2 h2 hz GE
   go_upto_region 7 with fail
   generalize w2.alloc (.cells #[.int .i64 z.now, .int .i64 z.hor, .slice z.oa z.op.length z.oc, .slice z.ua z.us.length z.uc, .slice z.sa z.su.length z.sc, .slice z.ta z.tb.length z.tc] 39) = U at *
   generalize w2.heap.size = g at *
   by_cases g0 : er = 0
   ·subst g0
    have z1 : ((0 : Int) == 0) = true := rfl
    have KA := TK.out.take TO.out (by decide)
    have KM := Lib.hid (HNX.out z hzm rfl)
    unfold setS at KA
    obtain ⟨x0, x1, x2, x3, x4, x5⟩ := TK.out.s.cells
    obtain ⟨f0, f1, f2, f3, f4, f5⟩ := TK.out.s.free
    obtain ⟨y0, y1, y2, y3, y4, y5⟩ := TO.out.cells
    have xl := TK.out.s.lt
    have KE := Lib.hid KA
    clear KA HNX HST hzm TK TO
    go_upto_region 9 with fail
    generalize ((((((U.setCell ⟨w.heap.size, 0, none⟩ (.int .i64 z.now)).setCell ⟨w.heap.size, 1, none⟩ (.int .i64 z.hor)).setCell ⟨w.heap.size, 2, none⟩ (.slice z.oa z.op.length z.oc)).setCell ⟨w.heap.size, 3, none⟩ (.slice z.ua z.us.length z.uc)).setCell ⟨w.heap.size, 4, none⟩ (.slice z.sa z.su.length z.sc)).setCell ⟨w.heap.size, 5, none⟩ (.slice z.ta z.tb.length z.tc)) = UA at *
    clear x0 x1 x2 x3 x4 x5 f0 f1 f2 f3 f4 f5 y0 y1 y2 y3 y4 y5 xl
    have HB1 := below_one UA (.cells #[.int .i64 0] 60)
    have KE1 := Lib.hid (KE.out.below HB1)
    have hcl : (UA.alloc (.cells #[.int .i64 0] 60)).cell? ⟨UA.heap.size, 0, none⟩ = some (.int .i64 0) := cell_of_row _ _ 0 _ _ (0, 0) (heap_alloc_new _ _)
    have HO1 := Lib.hid KE1.out.o
    have HS1 : Hid (w.heap.size ≤ (UA.alloc (.cells #[.int .i64 0] 60)).heap.size) := Lib.hid KE1.out.s.frame.size
    have HRR := Lib.hid (HRQ.out _ KM.out)
    clear HB1 KE
    go_wp2_with (at_builtin; refine wpList_append_er _ rfl (.tmp 31) (.tmp 33) rfl w.heap.size _ _ rfl HO1.out ⟨UA.heap.size, 0, none⟩ 1 0 rfl hcl (by omega) HS1.out ?_; intro v2 w2 ho2 hg2 hB2)
    have KN := Lib.hid (KE1.out.more HRR.out (by decide) ho2 hg2 hB2)
    clear KE1 hcl HO1 HS1 HRR ho2 hg2 hB2
    go_wp2
    go_roundw
    case rel => exact ⟨j + 1, z, by omega, by go_num, KM, Lib.hid (by rw [HER.out]; exact KN.out)⟩
    case measure => simp [intOf]; omega
   ·have z1 : (er == 0) = false := beq_false_of_ne g0
    have KM := Lib.hid (HST.out g0)
    have KE := TK
    clear HNX HST hzm TK TO g0
    have HB1 := below_one U (.cells #[.int .i64 er] 60)
    have KE1 := Lib.hid (KE.out.below HB1)
    have hcl : (U.alloc (.cells #[.int .i64 er] 60)).cell? ⟨U.heap.size, 0, none⟩ = some (.int .i64 er) := cell_of_row _ _ 0 _ _ (0, 0) (heap_alloc_new _ _)
    have HO1 := Lib.hid KE1.out.o
    have HS1 : Hid (w.heap.size ≤ (U.alloc (.cells #[.int .i64 er] 60)).heap.size) := Lib.hid KE1.out.s.frame.size
    have HRR := Lib.hid (HRQ.out _ KM.out)
    clear HB1 KE
    go_wp2_with (at_builtin; refine wpList_append_er _ rfl (.tmp 31) (.tmp 33) rfl w.heap.size _ _ rfl HO1.out ⟨U.heap.size, 0, none⟩ 1 er rfl hcl (by omega) HS1.out ?_; intro v2 w2 ho2 hg2 hB2)
    have KN := Lib.hid (KE1.out.more HRR.out (by decide) ho2 hg2 hB2)
    clear KE1 hcl HO1 HS1 HRR ho2 hg2 hB2
    go_wp2
    go_roundw
    case rel => exact ⟨j + 1, q, by omega, by go_num, KM, Lib.hid (by rw [HER.out]; exact KN.out)⟩
    case measure => simp [intOf]; omega
  ·obtain rfl : j = l.length := by omega
   rw [List.take_length] at HM HG
   obtain ⟨c0, c1, c2, c3, c4, c5⟩ := HG.out.s.cells
   obtain ⟨z0, z1, z2, z3, z4, z5⟩ := HG.out.z.cells
   obtain ⟨f0, f1, f2, f3, f4, f5⟩ := HG.out.z.free
   have hgl := HG.out.z.lt
   have hF := HG.out.z.set HG.out.s.at_
   have HL := Lib.hid (loadS6 hF.blk)
   have HO := ErO.setT HG.out.z HG.out.s.at_ HG.out.o (by decide)
   obtain ⟨b, c', rfl, i1, i2, i3, -⟩ := HO.row
   have HFN := Lib.hid (show SaAt _ q ∧ q.m = foldE x.m l ∧ ErSl _ b (errsE x.m l) ∧ (errsE x.m l).length ≤ c' ∧ c' ≤ maxLen ∧ Below w.heap.size w _ from ⟨hF.at_, HM.out, i3, i1, i2, hF.frame⟩)
   unfold setS saV saC at HL
   unfold saO at z0 z1 z2 z3 z4 z5
   dsimp only at z0 z1 z2 z3 z4 z5
   clear hF HG HM HO i1 i2 i3
   go_wp2
   refine bodyPost_ret (v := .tuple #[saV q, .slice b (errsE x.m l).length c']) ?_ rfl ⟨q, b, c', rfl, HFN.out.1, HFN.out.2.1, HFN.out.2.2.1, HFN.out.2.2.2.1, HFN.out.2.2.2.2.1, HFN.out.2.2.2.2.2⟩
   rw [results_cellT rfl]
   unfold saV saC
   simp [asAddr, Result.andThen, HL.out]
set_option maxHeartbeats 4000000 in
theorem those1_any (N g0 : Nat) (a : Option Addr) (c : Nat) (l : List EvM) (p : Nat → Bool) (R : Nat → List EvM) (Inv : World → Prop) (W : World) (hr : EvSl W a l) (hi : Inv W) (hl : l.length ≤ 1000) (h0 : R 0 = [])
  (hs : ∀ j (h : j < l.length), R (j + 1) = R j ++ (if p j = true then [l[j]] else [])) (hF : ∀ args V, Sem.run Tryz.prog (callFunc N args) V = .ok (.enter N args) V) (hv : ∀ V V', Inv V → Below V.heap.size V V' → Inv V')
  (hN : ∀ j V, j < l.length → Inv V → Calls Tryz.prog N #[.int .i64 (j : Nat), .pointer (some ⟨g0, 0, none⟩)] V fun r w' => r = .returned (.bool (p j)) ∧ Below V.heap.size V w') :
  Calls Tryz.prog 79 #[.func (.func N) #[] #[.pointer (some ⟨g0, 0, none⟩)], .slice a l.length c] W fun r w' => ∃ v, r = .returned v ∧ w'.ownsRow W.heap.size 64 6 v (R l.length).length (evs (R l.length)) ∧ Below W.heap.size W w' := by
 obtain ⟨i0, hi0, hz0, hz1, hz2⟩ := info_parts infoEvent
 have HLN : Hid (∀ j, j ≤ l.length → (R j).length ≤ j) := Lib.hid fun j => by
  induction j with
  | zero => intro _; rw [h0]; exact Nat.le_refl _
  | succ j ih =>
   intro hj
   have := ih (by omega)
   rw [hs j (by omega), List.length_append]
   split <;> simp <;> omega
 have HR := Lib.hid hr
 have HI := Lib.hid hi
 have HV := Lib.hid hv
 have HC := Lib.hid hN
 have HS := Lib.hid hs
 have H0 : Hid (W.ownsRow W.heap.size 64 6 (.slice none 0 0) (R 0).length (evs (R 0))) := Lib.hid (by rw [h0]; exact ⟨rfl, .inl ⟨rfl, rfl⟩⟩)
 clear hr hi hv hN hs h0
 go_enter Tryz.func79, Tryz.ntmps79
 go_wp2
 go_loopw [5, 10] (fun v iv wr => ∃ (j : Nat), j ≤ l.length ∧ iv = .int .i64 j ∧ Hid (wr.ownsRow W.heap.size 64 6 v (R j).length (evs (R j))) ∧ Hid (Below W.heap.size W wr)) (fun _ iv _ => l.length - (intOf iv).toNat)
 case atStart => exact ⟨0, by omega, rfl, H0, Lib.hid (Below.refl _ _)⟩
 case round =>
  clear H0
  obtain ⟨j, hj, rfl, HO, HB⟩ := hrel
  by_cases hjl : j < l.length
  ·have hw1 : IntKind.i64.wrap ((j : Int) + 1) = (j : Int) + 1 := IntWalk.i64_in _ (by omega)
   obtain ⟨b, off, rfl, hbl, r0, r1, r2, r3, r4, r5⟩ := (HR.out.below HB.out).at_ hjl
   have hb1 := below_one wr (.cells #[.int .i64 l[j].kind, .int .i64 l[j].at_, .string l[j].user, .string l[j].other, .int .i64 l[j].n, .int .i64 l[j].status] 64)
   have hn1 := heap_alloc_new wr (.cells #[.int .i64 l[j].kind, .int .i64 l[j].at_, .string l[j].user, .string l[j].other, .int .i64 l[j].n, .int .i64 l[j].status] 64)
   have HB1 := Lib.hid (HB.out.trans (hb1.mono HB.out.size))
   have HO1 := Lib.hid (own_below HO.out hb1)
   have HCC := Lib.hid (HC.out j _ hjl (HV.out _ _ HI.out HB1.out))
   have HNX := Lib.hid (HS.out j hjl)
   have hle := HLN.out j (by omega)
   clear hb1 HC HV HI HO HB
   generalize l[j] = x at *
   generalize hE : R j = E at *
   clear hE
   cases hb : p j with
   | false =>
    rw [hb, if_neg (by decide), List.append_nil] at HNX
    rw [hb] at HCC
    clear hb hn1
    go_wp2_with fail
    refine HCC.out.mono ?_
    rintro r w2 ⟨rfl, hB⟩
    have HO2 := Lib.hid (own_below HO1.out hB)
    have HB2 := Lib.hid (HB1.out.trans (hB.mono HB1.out.size))
    clear hB HO1 HB1 HCC
    go_wp2
    go_roundw
    case rel => exact ⟨j + 1, by omega, by go_num, Lib.hid (by rw [HNX.out]; exact HO2.out), HB2⟩
    case measure => simp [intOf]; omega
   | true =>
    rw [hb, if_pos rfl] at HNX
    rw [hb] at HCC
    clear hb
    go_wp2_with fail
    refine HCC.out.mono ?_
    rintro r w2 ⟨rfl, hB⟩
    have hn2 := (hB.block wr.heap.size (by rw [size1]; omega)).trans hn1
    obtain ⟨⟨e0, e1, e2, e3, e4, e5⟩, -⟩ := cells6 hn2
    have hb3 := below_one w2 (.cells #[.int .i64 x.kind, .int .i64 x.at_, .string x.user, .string x.other, .int .i64 x.n, .int .i64 x.status] 64)
    have HO2 := Lib.hid (own_below (own_below HO1.out hB) hb3)
    have HB2 := Lib.hid (HB1.out.trans (hB.mono HB1.out.size))
    have HB3 := Lib.hid (HB2.out.trans (hb3.mono HB2.out.size))
    have HS3 := Lib.hid HB3.out.size
    clear hB HO1 HB1 HCC hn1 hn2 hb3 r0 r1 r2 r3 r4 r5 HB2
    go_wp2_with (at_builtin; refine wpList_append_own _ rfl (.tmp 18) (.tmp 20) 32 rfl W.heap.size 64 i0 _ 6 64 Tryz.underlying32 hi0 hz0 hz1 hz2 rfl (by decide) _ _ _ rfl HO2.out ⟨w2.heap.size, 0, none⟩ 1 1 [.int .i64 x.kind, .int .i64 x.at_, .string x.user, .string x.other, .int .i64 x.n, .int .i64 x.status] rfl rfl (news_at _ _ _ _ rfl) (six_cells x) (by unfold maxLen; omega) (by omega) HS3.out ?_; intro v' w3 hown' hgrow hiff)
    have HB4 := Lib.hid (app_below HB3.out HS3.out HO2.out hgrow)
    have HO4 : Hid (w3.ownsRow W.heap.size 64 6 v' (E ++ [x]).length (evs (E ++ [x]))) := Lib.hid (by rw [evs_snoc, List.length_append]; exact hown')
    clear hown' hgrow hiff HB3 HS3 HO2
    go_wp2
    go_roundw
    case rel => exact ⟨j + 1, by omega, by go_num, Lib.hid (by rw [HNX.out]; exact HO4.out), HB4⟩
    case measure => simp [intOf]; omega
  ·obtain rfl : j = l.length := by omega
   clear HC HV HI
   go_wp2
   go_ret
   exact ⟨_, rfl, HO.out, HB.out⟩
set_option maxHeartbeats 4000000 in
theorem those2_any (N g0 g1 : Nat) (a : Option Addr) (c : Nat) (l : List EvM) (p : Nat → Bool) (R : Nat → List EvM) (Inv : World → Prop) (W : World) (hr : EvSl W a l) (hi : Inv W) (hl : l.length ≤ 1000) (h0 : R 0 = [])
  (hs : ∀ j (h : j < l.length), R (j + 1) = R j ++ (if p j = true then [l[j]] else [])) (hF : ∀ args V, Sem.run Tryz.prog (callFunc N args) V = .ok (.enter N args) V) (hv : ∀ V V', Inv V → Below V.heap.size V V' → Inv V')
  (hN : ∀ j V, j < l.length → Inv V → Calls Tryz.prog N #[.int .i64 (j : Nat), .pointer (some ⟨g0, 0, none⟩), .pointer (some ⟨g1, 0, none⟩)] V fun r w' => r = .returned (.bool (p j)) ∧ Below V.heap.size V w') :
  Calls Tryz.prog 79 #[.func (.func N) #[] #[.pointer (some ⟨g0, 0, none⟩), .pointer (some ⟨g1, 0, none⟩)], .slice a l.length c] W fun r w' => ∃ v, r = .returned v ∧ w'.ownsRow W.heap.size 64 6 v (R l.length).length (evs (R l.length)) ∧ Below W.heap.size W w' := by
 obtain ⟨i0, hi0, hz0, hz1, hz2⟩ := info_parts infoEvent
 have HLN : Hid (∀ j, j ≤ l.length → (R j).length ≤ j) := Lib.hid fun j => by
  induction j with
  | zero => intro _; rw [h0]; exact Nat.le_refl _
  | succ j ih =>
   intro hj
   have := ih (by omega)
   rw [hs j (by omega), List.length_append]
   split <;> simp <;> omega
 have HR := Lib.hid hr
 have HI := Lib.hid hi
 have HV := Lib.hid hv
 have HC := Lib.hid hN
 have HS := Lib.hid hs
 have H0 : Hid (W.ownsRow W.heap.size 64 6 (.slice none 0 0) (R 0).length (evs (R 0))) := Lib.hid (by rw [h0]; exact ⟨rfl, .inl ⟨rfl, rfl⟩⟩)
 clear hr hi hv hN hs h0
 go_enter Tryz.func79, Tryz.ntmps79
 go_wp2
 go_loopw [5, 10] (fun v iv wr => ∃ (j : Nat), j ≤ l.length ∧ iv = .int .i64 j ∧ Hid (wr.ownsRow W.heap.size 64 6 v (R j).length (evs (R j))) ∧ Hid (Below W.heap.size W wr)) (fun _ iv _ => l.length - (intOf iv).toNat)
 case atStart => exact ⟨0, by omega, rfl, H0, Lib.hid (Below.refl _ _)⟩
 case round =>
  clear H0
  obtain ⟨j, hj, rfl, HO, HB⟩ := hrel
  by_cases hjl : j < l.length
  ·have hw1 : IntKind.i64.wrap ((j : Int) + 1) = (j : Int) + 1 := IntWalk.i64_in _ (by omega)
   obtain ⟨b, off, rfl, hbl, r0, r1, r2, r3, r4, r5⟩ := (HR.out.below HB.out).at_ hjl
   have hb1 := below_one wr (.cells #[.int .i64 l[j].kind, .int .i64 l[j].at_, .string l[j].user, .string l[j].other, .int .i64 l[j].n, .int .i64 l[j].status] 64)
   have hn1 := heap_alloc_new wr (.cells #[.int .i64 l[j].kind, .int .i64 l[j].at_, .string l[j].user, .string l[j].other, .int .i64 l[j].n, .int .i64 l[j].status] 64)
   have HB1 := Lib.hid (HB.out.trans (hb1.mono HB.out.size))
   have HO1 := Lib.hid (own_below HO.out hb1)
   have HCC := Lib.hid (HC.out j _ hjl (HV.out _ _ HI.out HB1.out))
   have HNX := Lib.hid (HS.out j hjl)
   have hle := HLN.out j (by omega)
   clear hb1 HC HV HI HO HB
   generalize l[j] = x at *
   generalize hE : R j = E at *
   clear hE
   cases hb : p j with
   | false =>
    rw [hb, if_neg (by decide), List.append_nil] at HNX
    rw [hb] at HCC
    clear hb hn1
    go_wp2_with fail
    refine HCC.out.mono ?_
    rintro r w2 ⟨rfl, hB⟩
    have HO2 := Lib.hid (own_below HO1.out hB)
    have HB2 := Lib.hid (HB1.out.trans (hB.mono HB1.out.size))
    clear hB HO1 HB1 HCC
    go_wp2
    go_roundw
    case rel => exact ⟨j + 1, by omega, by go_num, Lib.hid (by rw [HNX.out]; exact HO2.out), HB2⟩
    case measure => simp [intOf]; omega
   | true =>
    rw [hb, if_pos rfl] at HNX
    rw [hb] at HCC
    clear hb
    go_wp2_with fail
    refine HCC.out.mono ?_
    rintro r w2 ⟨rfl, hB⟩
    have hn2 := (hB.block wr.heap.size (by rw [size1]; omega)).trans hn1
    obtain ⟨⟨e0, e1, e2, e3, e4, e5⟩, -⟩ := cells6 hn2
    have hb3 := below_one w2 (.cells #[.int .i64 x.kind, .int .i64 x.at_, .string x.user, .string x.other, .int .i64 x.n, .int .i64 x.status] 64)
    have HO2 := Lib.hid (own_below (own_below HO1.out hB) hb3)
    have HB2 := Lib.hid (HB1.out.trans (hB.mono HB1.out.size))
    have HB3 := Lib.hid (HB2.out.trans (hb3.mono HB2.out.size))
    have HS3 := Lib.hid HB3.out.size
    clear hB HO1 HB1 HCC hn1 hn2 hb3 r0 r1 r2 r3 r4 r5 HB2
    go_wp2_with (at_builtin; refine wpList_append_own _ rfl (.tmp 18) (.tmp 20) 32 rfl W.heap.size 64 i0 _ 6 64 Tryz.underlying32 hi0 hz0 hz1 hz2 rfl (by decide) _ _ _ rfl HO2.out ⟨w2.heap.size, 0, none⟩ 1 1 [.int .i64 x.kind, .int .i64 x.at_, .string x.user, .string x.other, .int .i64 x.n, .int .i64 x.status] rfl rfl (news_at _ _ _ _ rfl) (six_cells x) (by unfold maxLen; omega) (by omega) HS3.out ?_; intro v' w3 hown' hgrow hiff)
    have HB4 := Lib.hid (app_below HB3.out HS3.out HO2.out hgrow)
    have HO4 : Hid (w3.ownsRow W.heap.size 64 6 v' (E ++ [x]).length (evs (E ++ [x]))) := Lib.hid (by rw [evs_snoc, List.length_append]; exact hown')
    clear hown' hgrow hiff HB3 HS3 HO2
    go_wp2
    go_roundw
    case rel => exact ⟨j + 1, by omega, by go_num, Lib.hid (by rw [HNX.out]; exact HO4.out), HB4⟩
    case measure => simp [intOf]; omega
  ·obtain rfl : j = l.length := by omega
   clear HC HV HI
   go_wp2
   go_ret
   exact ⟨_, rfl, HO.out, HB.out⟩
theorem pbears_any (e : EvM) (u : ByteArray) (w : World) : Calls Tryz.prog 82 #[evV e, .string u] w fun r w' => r = .returned (.bool (bearB u e)) ∧ Below w.heap.size w w' := by
 have HBB := Lib.hid (fun o => (Below.refl w.heap.size w).alloc (Nat.le_refl _) o)
 have h1 : (u.toList == e.user.toList) = decide (e.user = u) := by rw [txt_dec]; exact decide_eq_decide.2 eq_comm
 have h2 : (u.toList == e.other.toList) = decide (e.other = u) := by rw [txt_dec]; exact decide_eq_decide.2 eq_comm
 unfold evV bearB
 rw [← h1, ← h2]
 clear h1 h2
 cases h : (u.toList == e.user.toList)
 ·go_enter Tryz.func82, Tryz.ntmps82
  go_wp2
  go_ret
  exact ⟨retB (by simp), HBB.out _⟩
 ·go_enter Tryz.func82, Tryz.ntmps82
  go_wp2
  go_ret
  exact ⟨retB (by simp), HBB.out _⟩
structure CapE (V : World) (g : Nat) (b : Option Addr) (E : List Int) (q : Nat) : Prop where
 cell : V.cell? ⟨g, 0, none⟩ = some (.slice b E.length q)
 lt : g < V.heap.size
 row : ErSl V b E
theorem CapE.below {V V' : World} {g : Nat} {b : Option Addr} {E : List Int} {q : Nat} (h : CapE V g b E q) (k : Below V.heap.size V V') : CapE V' g b E q := ⟨(k.cell (p := ⟨g, 0, none⟩) h.lt).trans h.cell, Nat.lt_of_lt_of_le h.lt k.size, h.row.below k⟩
set_option maxHeartbeats 2000000 in
theorem c_taken (j g : Nat) (b : Option Addr) (E : List Int) (q : Nat) (V : World) (h : CapE V g b E q) (hj : j < E.length) :
  Calls Tryz.prog 80 #[.int .i64 (j : Nat), .pointer (some ⟨g, 0, none⟩)] V fun r w' => r = .returned (.bool (decide (E[j] = 0))) ∧ Below V.heap.size V w' := by
 obtain ⟨c0, -, hr⟩ := h
 obtain ⟨bb, off, rfl, -, r0⟩ := hr.at_ hj
 have HE : Hid (decide (E[j] = 0) = (E[j] == 0)) := Lib.hid rfl
 generalize E[j] = er at *
 clear hr
 go_enter Tryz.func80, Tryz.ntmps80
 go_wp2
 go_ret
 exact ⟨retB HE.out.symm, Below.refl _ _⟩
structure CapW (V : World) (g0 g1 : Nat) (a : Option Addr) (l : List EvM) (c : Nat) (u : ByteArray) : Prop where
 cell : V.cell? ⟨g0, 0, none⟩ = some (.slice a l.length c)
 lt : g0 < V.heap.size
 text : V.cell? ⟨g1, 0, none⟩ = some (.string u)
 lt' : g1 < V.heap.size
 row : EvSl V a l
theorem CapW.below {V V' : World} {g0 g1 : Nat} {a : Option Addr} {l : List EvM} {c : Nat} {u : ByteArray} (h : CapW V g0 g1 a l c u) (k : Below V.heap.size V V') : CapW V' g0 g1 a l c u := ⟨(k.cell (p := ⟨g0, 0, none⟩) h.lt).trans h.cell, Nat.lt_of_lt_of_le h.lt k.size, (k.cell (p := ⟨g1, 0, none⟩) h.lt').trans h.text, Nat.lt_of_lt_of_le h.lt' k.size, h.row.below k⟩
theorem CapW.cells {V : World} {g0 g1 : Nat} {ba ao : Nat} {l : List EvM} {c : Nat} {u : ByteArray} (h : CapW V g0 g1 (some ⟨ba, ao, none⟩) l c u) {j : Nat} (hj : j < l.length) : V.cell? ⟨g0, 0, none⟩ = some (.slice (some ⟨ba, ao, none⟩) l.length c) ∧ V.cell? ⟨g1, 0, none⟩ = some (.string u) ∧ V.cell? ⟨ba, ao + j * 6, none⟩ = some (.int .i64 l[j].kind) ∧ V.cell? ⟨ba, ao + j * 6 + 1, none⟩ = some (.int .i64 l[j].at_) ∧ V.cell? ⟨ba, ao + j * 6 + 2, none⟩ = some (.string l[j].user) ∧ V.cell? ⟨ba, ao + j * 6 + 3, none⟩ = some (.string l[j].other) ∧ V.cell? ⟨ba, ao + j * 6 + 4, none⟩ = some (.int .i64 l[j].n) ∧ V.cell? ⟨ba, ao + j * 6 + 5, none⟩ = some (.int .i64 l[j].status) := by
 obtain ⟨b', o', e', -, h0⟩ := h.row.at_ hj
 cases e'
 exact ⟨h.cell, h.text, h0⟩
set_option maxHeartbeats 4000000 in
theorem c_without (j g0 g1 : Nat) (a : Option Addr) (l : List EvM) (c : Nat) (u : ByteArray) (V : World) (h : CapW V g0 g1 a l c u) (hj : j < l.length) :
  Calls Tryz.prog 81 #[.int .i64 (j : Nat), .pointer (some ⟨g0, 0, none⟩), .pointer (some ⟨g1, 0, none⟩)] V fun r w' => r = .returned (.bool (!bearB u l[j])) ∧ Below V.heap.size V w' := by
 obtain ⟨ba, ao, rfl, -⟩ := h.row.at_ hj
 have HSC := Lib.hid (fun V (h : CapW V g0 g1 (some ⟨ba, ao, none⟩) l c u) => h.cells hj)
 have HB := Lib.hid (fun W => pbears_any l[j] u W)
 generalize l[j] = x at *
 unfold evV at HB
 generalize bearB u x = bb at *
 obtain ⟨k0, k1, k2, k3, k4, k5, k6, k7⟩ := HSC.out _ h
 have K0 := h.below (Below.refl _ _).drew
 have HF := Lib.hid (Below.refl V.heap.size V).drew
 go_enter Tryz.func81, Tryz.ntmps81
 go_wp2_with fail
 go_region_held3 (fun V => V.cell? ⟨g0, 0, none⟩ = some (.slice (some ⟨ba, ao, none⟩) l.length c) ∧ V.cell? ⟨g1, 0, none⟩ = some (.string u) ∧ V.cell? ⟨ba, ao + j * 6, none⟩ = some (.int .i64 x.kind) ∧ V.cell? ⟨ba, ao + j * 6 + 1, none⟩ = some (.int .i64 x.at_) ∧ V.cell? ⟨ba, ao + j * 6 + 2, none⟩ = some (.string x.user) ∧ V.cell? ⟨ba, ao + j * 6 + 3, none⟩ = some (.string x.other) ∧ V.cell? ⟨ba, ao + j * 6 + 4, none⟩ = some (.int .i64 x.n) ∧ V.cell? ⟨ba, ao + j * 6 + 5, none⟩ = some (.int .i64 x.status))
  (first | with_reducible exact HSC.out _ K1 | with_reducible exact HSC.out _ K0)
  (first | (go_at_call 82; refine (HB.out _).mono ?_; rintro r v1 ⟨rfl, h1⟩; have K1 := K0.below h1))
 all_goals
  have HH := Lib.hid (HF.out.trans (h1.mono HF.out.size))
  clear K0 K1 HSC k0 k1 k2 k3 k4 k5 k6 k7 h1
  go_wp2
  go_ret
  exact ⟨rfl, HH.out⟩
def RowsTo (w : World) (l : List EvM) (r : Ending) (w' : World) : Prop := ∃ b q, r = .returned (.slice b l.length q) ∧ EvSl w' b l ∧ l.length ≤ q ∧ q ≤ maxLen ∧ (b = none → q = 0) ∧ Below w.heap.size w w'
theorem own_ev2 {w : World} {B e : Nat} {v : Value} {l : List EvM} (h : w.ownsRow B e 6 v l.length (evs l)) : ∃ a c, v = .slice a l.length c ∧ EvSl w a l ∧ l.length ≤ c ∧ c ≤ maxLen ∧ (a = none → c = 0) := by
 obtain ⟨a, c, rfl, h1, h2⟩ := own_ev h
 refine ⟨a, c, rfl, h2, h1, ?_⟩
 rcases h.2 with ⟨e1, hn⟩ | ⟨g, cap, cur, e1, hg, hh, hn, hc, hsz, ht⟩
 ·injection e1 with e1 e2 e3
  subst e1 e3
  exact ⟨by unfold maxLen; omega, fun _ => rfl⟩
 ·injection e1 with e1 e2 e3
  subst e1 e3
  exact ⟨hc, fun e => by cases e⟩
set_option maxHeartbeats 4000000 in
theorem ptaken_any (x : SaL) (a : Option Addr) (c : Nat) (l : List EvM) (w : World) (h : SaAt w x) (hr : RightS x.m) (hs : EvSl w a l) (hf : FitsV l) (hc : stCnt x.m + l.length ≤ 200) :
  Calls Tryz.prog 31 #[saV x, .slice a l.length c] w (RowsTo w (takenE x.m l)) := by
 have S0 := SB.new (Below.refl w.heap.size w) h 39
 have A0 := hs.below (below_one w (.cells (saC x) 39))
 have HFO := Lib.hid (fun V (h : SaAt V x) (k : EvSl V a l) => pfold_any x a c l V h hr k hf hc)
 have hln : l.length ≤ 1000 := by omega
 have htk : takenE x.m (l.take l.length) = takenE x.m l := by rw [List.take_length]
 have HT : Hid (∀ (g : Nat) (b : Option Addr) (q : Nat) (V : World), EvSl V a l → CapE V g b (errsE x.m l) q → Calls Tryz.prog 79 #[.func (.func 80) #[] #[.pointer (some ⟨g, 0, none⟩)], .slice a l.length c] V fun r w' => ∃ v, r = .returned v ∧ w'.ownsRow V.heap.size 64 6 v (takenE x.m l).length (evs (takenE x.m l)) ∧ Below V.heap.size V w') := Lib.hid fun g b q V hV hE => by
  have := those1_any 80 g a c l (fun j => decide ((errsE x.m l).getD j 1 = 0)) (fun j => takenE x.m (l.take j)) (fun V => CapE V g b (errsE x.m l) q) V hV hE hln rfl (fun j hj => by
   rw [taken_told x.m l j hj]
   have e : (errsE x.m l).getD j 1 = (errsE x.m l)[j]'(by rw [errsE_len]; exact hj) := by rw [List.getD_eq_getElem?_getD, List.getElem?_eq_getElem (by rw [errsE_len]; exact hj), Option.getD_some]
   simp only [e, decide_eq_true_eq]) (call_known Tryz.func80 rfl) (fun V V' h q => h.below q) (fun j V hj hE => by
   have e : (errsE x.m l).getD j 1 = (errsE x.m l)[j]'(by rw [errsE_len]; exact hj) := by rw [List.getD_eq_getElem?_getD, List.getElem?_eq_getElem (by rw [errsE_len]; exact hj), Option.getD_some]
   simp only [e]
   exact c_taken j g b (errsE x.m l) q V hE (by rw [errsE_len]; exact hj))
  simp only [htk] at this
  exact this
 have HS := Lib.hid S0
 have HA := Lib.hid A0
 obtain ⟨c0, c1, c2, c3, c4, c5⟩ := S0.cells
 unfold FoldsTo at HFO
 unfold saV saC at *
 clear h hr hs hf hc S0 A0 htk
 generalize takenE x.m l = T at *
 generalize errsE x.m l = E at *
 generalize foldE x.m l = M at *
 go_enter Tryz.func31, Tryz.ntmps31
 go_wp2_with fail
 refine (HFO.out _ HS.out.at_ HA.out).mono ?_
 rintro r w1 ⟨y, b, q, rfl, hy, -, hE, hEq, hqm, h1⟩
 clear c0 c1 c2 c3 c4 c5 HFO
 have hbb := below_two w1 (.cells #[.int .i64 y.now, .int .i64 y.hor, .slice y.oa y.op.length y.oc, .slice y.ua y.us.length y.uc, .slice y.sa y.su.length y.sc, .slice y.ta y.tb.length y.tc] 39) (.cells #[.slice b E.length q] 40)
 have hn := heap_alloc_new (w1.alloc (.cells #[.int .i64 y.now, .int .i64 y.hor, .slice y.oa y.op.length y.oc, .slice y.ua y.us.length y.uc, .slice y.sa y.su.length y.sc, .slice y.ta y.tb.length y.tc] 39)) (.cells #[.slice b E.length q] 40)
 have hsz := size1 w1 (.cells #[.int .i64 y.now, .int .i64 y.hor, .slice y.oa y.op.length y.oc, .slice y.ua y.us.length y.uc, .slice y.sa y.su.length y.sc, .slice y.ta y.tb.length y.tc] 39)
 rw [hsz] at hn
 have HK : Hid (CapE _ (w1.heap.size + 1) b E q) := Lib.hid ⟨cell_of_row _ _ 0 _ _ (0, 0) hn, heap_lt hn, hE.below hbb⟩
 have HAA := Lib.hid ((HA.out.below h1).below hbb)
 have HFR := Lib.hid ((HS.out.below h1).below hbb).frame
 clear hbb hn hsz hE hy h1 HS HA hEq hqm
 go_wp2_with fail
 refine (HT.out _ _ _ _ HAA.out HK.out).mono ?_
 rintro r w2 ⟨v, rfl, ho, h2⟩
 obtain ⟨b', q', rfl, k1, k2, k3, k4⟩ := own_ev2 ho
 have HH : Hid (EvSl w2 b' T ∧ T.length ≤ q' ∧ q' ≤ maxLen ∧ (b' = none → q' = 0) ∧ Below w.heap.size w w2) := Lib.hid ⟨k1, k2, k3, k4, HFR.out.trans (h2.mono HFR.out.size)⟩
 clear HT HAA HK HFR ho h2 k1 k2 k3 k4
 go_wp2
 go_ret
 exact ⟨b', q', rfl, HH.out⟩
set_option maxHeartbeats 4000000 in
theorem pwithout_any (u : ByteArray) (a : Option Addr) (c : Nat) (l : List EvM) (w : World) (hs : EvSl w a l) (hl : l.length ≤ 1000) :
  Calls Tryz.prog 33 #[.string u, .slice a l.length c] w (RowsTo w (withoutV u l)) := by
 have hbb := below_two w (.cells #[.string u] 9) (.cells #[.slice a l.length c] 32)
 have hn := heap_alloc_new (w.alloc (.cells #[.string u] 9)) (.cells #[.slice a l.length c] 32)
 have hsz := size1 w (.cells #[.string u] 9)
 rw [hsz] at hn
 have h0 := heap_alloc_new w (.cells #[.string u] 9)
 have h0' := (below_one (w.alloc (.cells #[.string u] 9)) (.cells #[.slice a l.length c] 32)).block w.heap.size (by rw [hsz]; omega)
 rw [h0] at h0'
 have HK : Hid (CapW ((w.alloc (.cells #[.string u] 9)).alloc (.cells #[.slice a l.length c] 32)) (w.heap.size + 1) w.heap.size a l c u) := Lib.hid ⟨cell_of_row _ _ 0 _ _ (0, 0) hn, heap_lt hn, cell_of_row _ _ 0 _ _ (0, 0) h0', heap_lt h0', hs.below hbb⟩
 have hwt : withoutV u (l.take l.length) = withoutV u l := by rw [List.take_length]
 have HT : Hid (∀ (g0 g1 : Nat) (V : World), CapW V g0 g1 a l c u → Calls Tryz.prog 79 #[.func (.func 81) #[] #[.pointer (some ⟨g0, 0, none⟩), .pointer (some ⟨g1, 0, none⟩)], .slice a l.length c] V fun r w' => ∃ v, r = .returned v ∧ w'.ownsRow V.heap.size 64 6 v (withoutV u l).length (evs (withoutV u l)) ∧ Below V.heap.size V w') := Lib.hid fun g0 g1 V hV => by
  have := those2_any 81 g0 g1 a c l (fun j => !bearB u (l.getD j ⟨0, 0, u, u, 0, 0⟩)) (fun j => withoutV u (l.take j)) (fun V => CapW V g0 g1 a l c u) V hV.row hV hl rfl (fun j hj => by
   rw [withoutV_next u l j hj]
   have e : l.getD j ⟨0, 0, u, u, 0, 0⟩ = l[j] := by rw [List.getD_eq_getElem?_getD, List.getElem?_eq_getElem hj, Option.getD_some]
   simp only [e]
   cases bearB u l[j] <;> rfl) (call_known Tryz.func81 rfl) (fun V V' h q => h.below q) (fun j V hj hE => by
   have e : l.getD j ⟨0, 0, u, u, 0, 0⟩ = l[j] := by rw [List.getD_eq_getElem?_getD, List.getElem?_eq_getElem hj, Option.getD_some]
   simp only [e]
   exact c_without j g0 g1 a l c u V hE hj)
  simp only [hwt] at this
  exact this
 have k0 := HK.out.cell
 have HFR := Lib.hid hbb
 clear hbb hn hsz h0 h0' hs hwt
 generalize withoutV u l = T at *
 go_enter Tryz.func33, Tryz.ntmps33
 go_wp2_with fail
 refine (HT.out _ _ _ HK.out).mono ?_
 rintro r w2 ⟨v, rfl, ho, h2⟩
 obtain ⟨b', q', rfl, k1, k2, k3, k4⟩ := own_ev2 ho
 have HH : Hid (EvSl w2 b' T ∧ T.length ≤ q' ∧ q' ≤ maxLen ∧ (b' = none → q' = 0) ∧ Below w.heap.size w w2) := Lib.hid ⟨k1, k2, k3, k4, HFR.out.trans (h2.mono HFR.out.size)⟩
 clear HT HK HFR ho h2 k0 k1 k2 k3 k4
 go_wp2
 go_ret
 exact ⟨b', q', rfl, HH.out⟩
def bo11 : ByteArray := ⟨#[98, 111, 98]⟩
theorem bo_name : nameB bo11 = true := by decide
def eV1 : EvM := ⟨1, 3, an11, no11, 1, 1⟩
def eV2 : EvM := ⟨1, 4, bo11, no11, 1, 1⟩
def eV3 : EvM := ⟨3, 5, an11, no11, 1, 0⟩
def sB3 : SaM := ⟨5, 0, [], [⟨an11, [⟨3, 5, 1, 1⟩]⟩], [], []⟩
theorem rvb2 : RightV 1 4 1 1 bo11 no11 := ⟨by decide, by decide, .inl ⟨.inl rfl, by decide, by decide, bo_name, rfl, by decide, by decide⟩⟩
theorem rvb3 : RightV 3 5 1 0 an11 no11 := ⟨by decide, by decide, .inr (.inl ⟨rfl, by decide, by decide, an_name, rfl, rfl⟩)⟩
theorem bE1 : errE saZ eV1 = 0 := aE1
theorem bG1 : goE saZ eV1 = sA1 := by have h := aT1; unfold tellS at h; rw [aE1, if_pos rfl] at h; exact h
theorem bE2 : errE sA1 eV2 = 100 := by
 show errS sA1 1 4 1 1 bo11 no11 = 100
 unfold errS
 rw [if_pos rvb2, if_neg (by decide)]
 show openC [⟨1, an11, 1, 3⟩] ⟨1, bo11, 1, 4⟩ = 100
 unfold openC
 rw [if_pos]
 rfl
theorem bE3 : errE sA1 eV3 = 0 := by
 show errS sA1 3 5 1 0 an11 no11 = 0
 unfold errS
 rw [if_pos rvb3, if_neg (by decide)]
 exact aF.1
theorem bC3 : cloR [⟨1, an11, 1, 3⟩] 1 an11 = [] := by unfold cloR; rw [if_pos aF.1, aF.2.2]; rfl
theorem bS3 : fndS [⟨1, an11, 1, 3⟩] 1 an11 5 = ⟨3, 5, 1, 1⟩ := by unfold fndS; rw [if_pos aF.1, aF.2.1]; rfl
theorem bG3 : goE sA1 eV3 = sB3 := by
 show SaM.mk 5 0 (cloR [⟨1, an11, 1, 3⟩] 1 an11) (addU [] an11 (fndS [⟨1, an11, 1, 3⟩] 1 an11 5)) [] [] = sB3
 rw [bC3, bS3]
 rfl
def l12 : List EvM := [eV1, eV2, eV3]
theorem l12_fold : foldE saZ l12 = sB3 := by
 show nxE (nxE (nxE saZ eV1) eV2) eV3 = sB3
 rw [nxE_ok bE1, bG1, nxE_no (s := sA1) (e := eV2) (by rw [bE2]; decide), nxE_ok bE3, bG3]
theorem l12_errs : errsE saZ l12 = [0, 100, 0] := by
 show [errE saZ eV1, errE (nxE saZ eV1) eV2, errE (nxE (nxE saZ eV1) eV2) eV3] = _
 rw [nxE_ok bE1, bG1, nxE_no (by rw [bE2]; decide), bE1, bE2, bE3]
theorem l12_taken : takenE saZ l12 = [eV1, eV3] := by
 show (if errE saZ eV1 = 0 then eV1 :: takenE (goE saZ eV1) [eV2, eV3] else takenE saZ [eV2, eV3]) = _
 rw [if_pos bE1, bG1]
 show eV1 :: (if errE sA1 eV2 = 0 then eV2 :: takenE (goE sA1 eV2) [eV3] else takenE sA1 [eV3]) = _
 rw [if_neg (by rw [bE2]; decide)]
 show eV1 :: (if errE sA1 eV3 = 0 then eV3 :: [] else []) = _
 rw [if_pos bE3]
theorem l12_without : withoutV an11 l12 = [eV2] := by
 have h1 : bearB an11 eV1 = true := by unfold bearB; rw [decide_eq_true (show eV1.user = an11 from rfl)]; rfl
 have h3 : bearB an11 eV3 = true := by unfold bearB; rw [decide_eq_true (show eV3.user = an11 from rfl)]; rfl
 have h2 : bearB an11 eV2 = false := bear_no.2 ⟨fun h => absurd (congrArg (fun b : ByteArray => b.data.toList) h) (by decide), fun h => absurd (congrArg (fun b : ByteArray => b.data.toList) h) (by decide)⟩
 unfold withoutV l12
 simp only [List.filter_cons, h1, h2, h3, List.filter_nil, Bool.not_true, Bool.not_false, if_true]
 rfl
theorem sB3_right : RightS sB3 := by have h := right_fold l12 RightS.zero; rw [l12_fold] at h; exact h
theorem sB3_stays : staysS sB3 an11 9 = [⟨3, 5, 1, 1⟩] := by
 have h := ofU_mem (l := [⟨an11, [⟨3, 5, 1, 1⟩]⟩]) sB3_right.ur (x := ⟨an11, [⟨3, 5, 1, 1⟩]⟩) (List.mem_singleton.2 rfl)
 show addsS (staysO [] an11 9) (ofU [⟨an11, [⟨3, 5, 1, 1⟩]⟩] an11) = _
 rw [h]
 rfl
theorem l12_fits : FitsV l12 := fun e he => by
 unfold l12 at he
 simp only [List.mem_cons, List.mem_nil_iff, or_false] at he
 rcases he with rfl | rfl | rfl <;> exact ⟨show _ ≤ _ by decide, show _ ≤ _ by decide⟩
theorem evsl_lit (W : World) (l : List EvM) (xs : Array Value) (t : TypeId) (g : Nat) (hg : g = W.heap.size) (hx : xs.toList = evs l) : EvSl (W.alloc (.cells xs t)) (some ⟨g, 0, none⟩) l := fun k hk => by
 subst hg
 refine ⟨W.heap.size, 0, rfl, by rw [size1]; omega, fun i hi => ?_⟩
 have h := evs_get l k i hk hi
 rw [← hx, Array.getElem?_toList] at h
 rw [cell_of_row _ _ _ xs t (0, 0) (heap_alloc_new W _), show 0 + k * 6 + i = k * 6 + i by omega]
 exact h
theorem h_news (a : Option Addr) (c : Nat) (l : List EvM) (V : World) (h : EvSl V a l) (hl : l.length ≤ 1000) : Calls Tryz.prog 21 #[.slice a l.length c] V (RowsTo V l) := by
 refine (evnews_any a c l V h (by omega)).mono ?_
 rintro r w' ⟨v, rfl, ho, hb⟩
 obtain ⟨b, q, rfl, h1, h2, h3, h4⟩ := own_ev2 ho
 exact ⟨b, q, rfl, h1, h2, h3, h4, hb⟩
def FoldsV (w : World) (M : SaM) (E : List Int) (r : Ending) (w' : World) : Prop := ∃ z b c, r = .returned (.tuple #[.agg #[.int .i64 z.now, .int .i64 z.hor, .slice z.oa z.op.length z.oc, .slice z.ua z.us.length z.uc, .slice z.sa z.su.length z.sc, .slice z.ta z.tb.length z.tc], .slice b E.length c]) ∧ SaAt w' z ∧ z.m = M ∧ ErSl w' b E ∧ E.length ≤ c ∧ c ≤ maxLen ∧ Below w.heap.size w w'
theorem h_fold (x : SaL) {M : SaM} (hm : x.m = M) (a : Option Addr) (c : Nat) (l : List EvM) (V : World) (h : SaAt V x) (hr : RightS M) (hs : EvSl V a l) (hf : FitsV l) (hc : stCnt M + l.length ≤ 200) : Calls Tryz.prog 22 #[saV x, .slice a l.length c] V (FoldsV V (foldE M l) (errsE M l)) := by
 subst hm
 exact pfold_any x a c l V h hr hs hf hc
end Go.Proofs.YtmfpjapiijgdgaaGreat
