/- Texts of mine, one behind the other, of each what is wanted. -/
import Derived.Test.YtapacckmgmdnoaaGreatR00
import Derived.Test.YtapacckmgmdnoaaGreatShelf
import Derived.Test.YtapacckmgmdnoaaGreatRows
import Derived.Test.YtapacckmgmdnoaaGreatR01
import Derived.Test.YtapacckmgmdnoaaGreatR03
import Derived.Test.YtapacckmgmdnoaaGreatR04
import Derived.Test.YtapacckmgmdnoaaGreatR07
import Derived.Test.YtapacckmgmdnoaaGreatR10
import Derived.Test.YtapacckmgmdnoaaGreatR11
import Derived.Test.YtapacckmgmdnoaaGreatR14
import Derived.Test.YtapacckmgmdnoaaGreatR18
import Derived.Test.YtapacckmgmdnoaaGreatR20
import Derived.Test.YtapacckmgmdnoaaGreatR25
import Derived.Test.YtapacckmgmdnoaaGreatR26
import Derived.Test.YtapacckmgmdnoaaGreatR27
import Derived.Test.YtapacckmgmdnoaaGreatR28
import Derived.Test.YtapacckmgmdnoaaGreatR29
namespace Go.Proofs.YtapacckmgmdnoaaGreat
open Go.RowKit Go.Proofs
set_option linter.unusedVariables false
set_option maxRecDepth 100000
theorem infoErr : (Tryz.prog.info? 60).map (fun i => (i.zero, i.size, i.bytes)) = some (some (.int .i64 0), 1, 8) := by kernel_rfl
theorem zero_cells (n : Nat) : (Builtin.zeroCells (Value.int .i64 0).cells n).toList = List.replicate n (.int .i64 0) := by
 apply List.ext_getElem
 ·simp [Builtin.zeroCells, Value.cells]
 ·intro k h1 h2
  simp [Builtin.zeroCells, Value.cells, Nat.mod_one]
theorem made_cells (n : Nat) : (madeCells (Value.int .i64 0).cells n).toList = List.replicate n (.int .i64 0) := by
 apply List.ext_getElem
 ·simp [madeCells, Value.cells]
 ·intro k h1 h2
  simp [madeCells, Value.cells, Nat.mod_one]
def erc (E : List Int) (m : Nat) : List Value := ers E ++ List.replicate m (.int .i64 0)
theorem erc_int {E : List Int} {m j : Nat} {v : Value} (h : (erc E m)[j]? = some v) : ∃ n, v = .int .i64 n := by
 have hm := List.mem_of_getElem? h
 rcases List.mem_append.1 hm with h | h
 ·obtain ⟨n, -, rfl⟩ := List.mem_map.1 h; exact ⟨n, rfl⟩
 ·exact ⟨0, List.eq_of_mem_replicate h⟩
theorem erc_spare {E : List Int} {m j : Nat} {v : Value} (hj : E.length ≤ j) (h : (erc E m)[j]? = some v) : v = .int .i64 0 := by
 unfold erc at h
 rw [List.getElem?_append_right (by rw [ers_len]; exact hj)] at h
 exact List.eq_of_mem_replicate (List.mem_of_getElem? h)
theorem erc_more (E : List Int) (m : Nat) (n : Int) : ers E ++ [.int .i64 n] ++ List.replicate m (.int .i64 0) = erc (E ++ [n]) m := by
 unfold erc
 rw [ers_snoc]
theorem erc_same {E : List Int} {m : Nat} {n : Int} {j : Nat} (hj : j ≠ E.length) : (erc (E ++ [n]) m)[j]? = (erc E (m + 1))[j]? := by
 unfold erc
 rw [ers_snoc, List.append_assoc]
 rcases Nat.lt_or_ge j (ers E).length with h | h
 ·rw [List.getElem?_append_left h, List.getElem?_append_left h]
 ·rw [List.getElem?_append_right h, List.getElem?_append_right h]
  rw [ers_len] at h ⊢
  obtain ⟨d, hd⟩ : ∃ d, j - E.length = d + 1 := ⟨j - E.length - 1, by omega⟩
  rw [hd]
  simp [List.replicate_succ]
def ErO (W : World) (B : Nat) (v : Value) (E : List Int) : Prop :=
 (v = .slice none 0 0 ∧ E = []) ∨ ∃ g m, v = .slice (some ⟨g, 0, none⟩) E.length (E.length + m) ∧ B ≤ g ∧ W.heap[g]? = some (.cells (erc E m).toArray 60 (0, 0)) ∧ E.length + m ≤ maxLen
theorem ErO.below {w w' : World} {B : Nat} {v : Value} {E : List Int} (h : ErO w B v E) (q : Below w.heap.size w w') : ErO w' B v E := by
 rcases h with h | ⟨g, m, h1, h2, h3, h4⟩
 ·exact .inl h
 ·exact .inr ⟨g, m, h1, h2, (q.block g (heap_lt h3)).trans h3, h4⟩
theorem ErO.row {w : World} {B : Nat} {v : Value} {E : List Int} (h : ErO w B v E) : ∃ a c, v = .slice a E.length c ∧ E.length ≤ c ∧ c ≤ maxLen ∧ ErSl w a E ∧ (a = none → c = 0) := by
 rcases h with ⟨rfl, rfl⟩ | ⟨g, m, rfl, h2, h3, h4⟩
 ·exact ⟨none, 0, rfl, Nat.le_refl _, by unfold maxLen; omega, ErSl.nil _ _, fun _ => rfl⟩
 ·refine ⟨_, _, rfl, by omega, h4, fun k hk => ⟨g, 0, rfl, heap_lt h3, ?_⟩, fun e => by cases e⟩
  rw [cell_of_row w g (0 + k) _ _ (0, 0) h3, Nat.zero_add]
  simp only [List.getElem?_toArray]
  unfold erc
  rw [List.getElem?_append_left hk, List.getElem?_eq_getElem hk]
theorem ErO.low {w : World} {B : Nat} {v : Value} {E : List Int} (h : ErO w B v E) : ∀ a n c, v = .slice a n c → ∀ k o, a = some ⟨k, o, none⟩ → B ≤ k := by
 intro a n c e k o e2
 rcases h with ⟨rfl, -⟩ | ⟨g, m, rfl, h2, -, -⟩
 ·injection e with e; subst e; cases e2
 ·injection e with e; subst e; injection e2 with e2; injection e2 with e2; omega
def Spot (W W' : World) : Prop := ∃ (g : Nat) (E : List Int) (m : Nat) (n : Int), W.heap[g]? = some (.cells (erc E (m + 1)).toArray 60 (0, 0)) ∧ W'.heap[g]? = some (.cells (erc (E ++ [n]) m).toArray 60 (0, 0)) ∧ W.grownBy W' (some g)
def Er12 (W W' : World) : Prop := Below W.heap.size W W' ∨ Spot W W'
theorem Er12.size {W W' : World} (h : Er12 W W') : W.heap.size ≤ W'.heap.size := by
 rcases h with h | ⟨g, E, m, n, -, -, h⟩
 ·exact h.size
 ·exact h.size
theorem Er12.block {W W' : World} (h : Er12 W W') {g : Nat} {cs : Array Value} {t : TypeId} (hb : W.heap[g]? = some (.cells cs t (0, 0))) (ht : t ≠ 60) : W'.heap[g]? = some (.cells cs t (0, 0)) := by
 rcases h with h | ⟨g', E, m, n, h1, -, h⟩
 ·exact (h.block g (heap_lt hb)).trans hb
 ·refine (h.block g (heap_lt hb) ?_).trans hb
  intro e
  injection e with e
  subst e
  rw [h1] at hb
  injection hb with hb
  injection hb with _ hb
  exact ht hb.symm
theorem Er12.text {W W' : World} (h : Er12 W W') {b i : Nat} {v : Value} (hlt : b < W.heap.size) (hv : ∀ n, v ≠ .int .i64 n) (hc : W.cell? ⟨b, i, none⟩ = some v) (j : Nat) : W'.cell? ⟨b, j, none⟩ = W.cell? ⟨b, j, none⟩ := by
 rcases h with h | ⟨g, E, m, n, h1, h2, h⟩
 ·exact h.cell (p := ⟨b, j, none⟩) hlt
 ·have hne : b ≠ g := fun e => by
   subst e
   rw [cell_of_row W b i _ _ (0, 0) h1] at hc
   simp only [List.getElem?_toArray] at hc
   obtain ⟨n, rfl⟩ := erc_int hc
   exact hv n rfl
  exact World.cell?_of_block (w := W) (h.block b hlt (fun e => by injection e with e; exact hne e))
theorem Er12.cell {W W' : World} (h : Er12 W W') {b i : Nat} {v : Value} (hlt : b < W.heap.size) (hc : W.cell? ⟨b, i, none⟩ = some v) (hv : v ≠ .int .i64 0 ∨ ∃ j u, i ≤ j ∧ W.cell? ⟨b, j, none⟩ = some u ∧ u ≠ .int .i64 0) : W'.cell? ⟨b, i, none⟩ = some v := by
 rcases h with h | ⟨g, E, m, n, h1, h2, h⟩
 ·exact (h.cell (p := ⟨b, i, none⟩) hlt).trans hc
 ·by_cases hbg : b = g
  ·subst hbg
   rw [cell_of_row W b i _ _ (0, 0) h1] at hc
   simp only [List.getElem?_toArray] at hc
   have hi : i < E.length := by
    rcases Nat.lt_or_ge i E.length with h3 | h3
    ·exact h3
    ·exfalso
     rcases hv with hv | ⟨j, u, hij, hu, hne⟩
     ·exact hv (erc_spare h3 hc)
     ·rw [cell_of_row W b j _ _ (0, 0) h1] at hu
      simp only [List.getElem?_toArray] at hu
      exact hne (erc_spare (Nat.le_trans h3 hij) hu)
   rw [cell_of_row W' b i _ _ (0, 0) h2]
   simp only [List.getElem?_toArray]
   rw [erc_same (Nat.ne_of_lt hi)]
   exact hc
  ·exact (World.cell?_of_block (w := W) (h.block b hlt (fun e => by injection e with e; exact hbg e))).trans hc
theorem EvSl.er {W W' : World} (h : Er12 W W') {a : Option Addr} {l : List EvM} (ho : EvSl W a l) : EvSl W' a l := fun k hk => by
 obtain ⟨b, off, e, hlt, h0⟩ := ho k hk
 have h2 : W.cell? ⟨b, off + k * 6 + 2, none⟩ = some (.string l[k].user) := h0 2 (by decide)
 exact ⟨b, off, e, Nat.lt_of_lt_of_le hlt h.size, fun i hi => (h.text hlt (fun n e => by cases e) h2 _).trans (h0 i hi)⟩
theorem OpSl.er {W W' : World} (h : Er12 W W') {a : Option Addr} {l : List OpM} (ho : OpSl W a l) : OpSl W' a l := fun k hk => by
 obtain ⟨b, off, e, hlt, h0, h1, h2, h3⟩ := ho k hk
 have hx := h.text hlt (fun n e => by cases e) h1
 exact ⟨b, off, e, Nat.lt_of_lt_of_le hlt h.size, (hx _).trans h0, (hx _).trans h1, (hx _).trans h2, (hx _).trans h3⟩
theorem EnSl.er {W W' : World} (h : Er12 W W') {a : Option Addr} {l : List EnM} (ho : EnSl W a l) : EnSl W' a l := fun k hk => by
 obtain ⟨b, off, e, hlt, h0, h1, h2, h3⟩ := ho k hk
 have hx := h.text hlt (fun n e => by cases e) h0
 exact ⟨b, off, e, Nat.lt_of_lt_of_le hlt h.size, (hx _).trans h0, (hx _).trans h1, (hx _).trans h2, (hx _).trans h3⟩
theorem PpSl.er {W W' : World} (h : Er12 W W') {a : Option Addr} {l : List (Value × Value)} (hs : ∀ y ∈ l, ∃ s, y.1 = .string s) (ho : PpSl W a l) : PpSl W' a l := fun k hk => by
 obtain ⟨b, off, e, hlt, h0, h1⟩ := ho k hk
 obtain ⟨s, es⟩ := hs _ (List.getElem_mem hk)
 have hx := h.text hlt (v := l[k].1) (fun n e => by rw [es] at e; cases e) h0
 exact ⟨b, off, e, Nat.lt_of_lt_of_le hlt h.size, (hx _).trans h0, (hx _).trans h1⟩
theorem StSl.er {W W' : World} (h : Er12 W W') {a : Option Addr} {l : List StM} (hl : ∀ x ∈ l, 0 ≤ x.f ∧ x.f < x.t ∧ 1 ≤ x.n ∧ 1 ≤ x.s) (ho : StSl W a l) : StSl W' a l := fun k hk => by
 obtain ⟨b, off, e, hlt, h0, h1, h2, h3⟩ := ho k hk
 obtain ⟨r0, r1, r2, r3⟩ := hl _ (List.getElem_mem hk)
 have n1 : (Value.int .i64 l[k].t) ≠ .int .i64 0 := fun e => by injection e with _ e; omega
 have n2 : (Value.int .i64 l[k].n) ≠ .int .i64 0 := fun e => by injection e with _ e; omega
 have n3 : (Value.int .i64 l[k].s) ≠ .int .i64 0 := fun e => by injection e with _ e; omega
 exact ⟨b, off, e, Nat.lt_of_lt_of_le hlt h.size, h.cell hlt h0 (.inr ⟨_, _, Nat.le_add_right _ 1, h1, n1⟩), h.cell hlt h1 (.inl n1), h.cell hlt h2 (.inl n2), h.cell hlt h3 (.inl n3)⟩
theorem SaAt.er {W W' : World} (h : Er12 W W') {x : SaL} (hr : RightS x.m) (ho : SaAt W x) : SaAt W' x := by
 refine ⟨ho.op.er h, ⟨ho.us.row.er h (fun y hy => ?_), fun y hy => ?_⟩, ho.su.er h, PpSl.er h (fun y hy => ?_) ho.tb, ho.oc, ho.uc, ho.sc, ho.tc⟩
 ·obtain ⟨z, -, rfl⟩ := List.mem_map.1 hy; exact ⟨_, rfl⟩
 ·have h1 := ho.us.at_ y hy
  obtain ⟨-, -, h2, h3⟩ := hr.us y.m (List.mem_map_of_mem hy)
  refine ⟨h1.st.er h (fun s hs => ?_), h1.le, h1.mx, h1.nil⟩
  obtain ⟨k0, -, k1, -, k2, -⟩ := h3 s hs
  exact ⟨k0, (rise_iff.1 h2).1 s hs, k1, k2⟩
 ·obtain ⟨z, -, rfl⟩ := List.mem_map.1 hy; exact ⟨_, rfl⟩
theorem SB.er {w W W' : World} (h : Er12 W W') {g : Nat} {t : TypeId} {x : SaL} (ho : SB w g t x W) (hr : RightS x.m) (ht : t ≠ 60) (hf : Below w.heap.size w W') : SB w g t x W' := ⟨h.block ho.blk ht, ho.ge, hf, ho.at_.er h hr⟩
theorem ErO.apart {W : World} {B g i : Nat} {t : TypeId} {v u : Value} {E : List Int} {cs : Array Value} (h : ErO W B v E) (hb : W.heap[g]? = some (.cells cs t (0, 0))) (hne : t ≠ 60) : ErO (W.setCell ⟨g, i, none⟩ u) B v E := by
 rcases h with h1 | ⟨g', m, h1, h2, h3, h4⟩
 ·exact .inl h1
 ·refine .inr ⟨g', m, h1, h2, (block_far ?_).trans h3, h4⟩
  rintro rfl
  rw [hb] at h3
  injection h3 with h3
  injection h3 with _ h3
  exact hne h3
theorem ErO.setT {w W : World} {B g : Nat} {x y : SaL} {t : TypeId} {v : Value} {E : List Int} (h : SB w g t x W) (hy : SaAt W y) (ho : ErO W B v E) (hne : t ≠ 60) : ErO (setS W g y) B v E := by
 have h0 := SB.setNow h y.now
 have y0 := SaAt.setB h.blk hy 0 (.int .i64 y.now)
 have o0 := ho.apart (i := 0) (u := .int .i64 y.now) h.blk hne
 have h1 := SB.setHor h0 y.hor
 have y1 := SaAt.setB h0.blk y0 1 (.int .i64 y.hor)
 have o1 := o0.apart (i := 1) (u := .int .i64 y.hor) h0.blk hne
 have h2 := SB.setOp h1 rfl y1.op y1.oc
 have y2 := SaAt.setB h1.blk y1 2 (.slice y.oa y.op.length y.oc)
 have o2 := o1.apart (i := 2) (u := .slice y.oa y.op.length y.oc) h1.blk hne
 have h3 := SB.setUs h2 rfl y2.us y2.uc
 have y3 := SaAt.setB h2.blk y2 3 (.slice y.ua y.us.length y.uc)
 have o3 := o2.apart (i := 3) (u := .slice y.ua y.us.length y.uc) h2.blk hne
 have h4 := SB.setSu h3 rfl y3.su y3.sc
 have o4 := o3.apart (i := 4) (u := .slice y.sa y.su.length y.sc) h3.blk hne
 exact o4.apart (i := 5) (u := .slice y.ta y.tb.length y.tc) h4.blk hne
theorem er_append (w : World) (B : Nat) (ty : TypeId) (v : Value) (E : List Int) (hE : ErO w B v E) (ad : Addr) (c : Nat) (n : Int) (hn : w.cell? ad = some (.int .i64 n)) (hlen : E.length ≤ 1000000) (hB : B ≤ w.heap.size) :
  ∃ v' w', (Builtin.append_ #[40, 40] ty #[v, .slice (some ad) 1 c]).run Tryz.prog w = .ok v' w' ∧ ErO w' B v' (E ++ [n]) ∧ Er12 w w' ∧ Below B w w' := by
 obtain ⟨i0, hi, hz0, hz1, hz2⟩ := info_parts infoErr
 have hnews : ∀ j u, ([Value.int .i64 n] : List Value)[j]? = some u → w.cell? (ad.add j) = some u := fun j u hu => by
  cases j with
  | zero => simp at hu; subst hu; rw [show ad.add 0 = ad from by unfold Addr.add; simp]; exact hn
  | succ j => simp at hu
 rcases hE with ⟨rfl, rfl⟩ | ⟨g, m, rfl, hg, hh, hm⟩
 ·have hr := run_append_nil (P := Tryz.prog) w 40 ty 60 i0 _ Tryz.underlying40 hi hz0 ad 1 c [.int .i64 n] (by rw [hz1]; rfl) hnews (by decide) (by decide) (by rw [hz2]; decide)
  have hge := grownCap_ge w 1 0 60
  have hle := grownCap_le_maxLen w 1 0 60 (by unfold maxLen; decide)
  refine ⟨_, _, hr, .inr ⟨w.heap.size, grownCap w 1 0 60 - 1, ?_, hB, ?_, ?_⟩, .inl ((Below.refl _ _).drew.alloc (Nat.le_refl _) _), (Below.refl _ _).drew.alloc hB _⟩
  ·have e : ([] ++ [n] : List Int).length + (grownCap w 1 0 60 - 1) = grownCap w 1 0 60 := by simp; omega
   rw [e]
   rfl
  ·have hn2 := heap_alloc_new w.drew (.cells (#[.int .i64 n] ++ Builtin.zeroCells (Value.int .i64 0).cells (grownCap w 1 0 60 - 1)) 60)
   have e : (#[.int .i64 n] ++ Builtin.zeroCells (Value.int .i64 0).cells (grownCap w 1 0 60 - 1) : Array Value) = (erc ([] ++ [n]) (grownCap w 1 0 60 - 1)).toArray := by
    apply Array.toList_inj.1
    rw [Array.toList_append, zero_cells]
    rfl
   rw [e] at hn2
   rw [← e] at hn2 ⊢
   exact hn2
  ·simp
   omega
 ·cases m with
  | zero =>
   have holds : ∀ j u, (ers E)[j]? = some u → w.cell? ((⟨g, 0, none⟩ : Addr).add j) = some u := fun j u hu => by
    rw [Go.WideShapes.add_plain, cell_of_row w g (0 + j) _ _ (0, 0) hh, Nat.zero_add]
    simp only [List.getElem?_toArray]
    unfold erc
    rw [List.getElem?_append_left (List.getElem?_eq_some_iff.1 hu).1]
    exact hu
   have hr := run_append_grow (P := Tryz.prog) w 40 ty 60 i0 _ Tryz.underlying40 hi hz0 ⟨g, 0, none⟩ E.length E.length (ers E) (by rw [hz1, ers_len]; omega) holds ad 1 c [.int .i64 n] (by rw [hz1]; rfl) hnews (by omega) (by omega) (growslice_fits (by omega) (by rw [hz2]; omega))
   have hge := grownCap_ge w (E.length + 1) E.length 60
   have hle := grownCap_le_maxLen w (E.length + 1) E.length 60 (by unfold maxLen; omega)
   refine ⟨_, _, hr, .inr ⟨w.heap.size, grownCap w (E.length + 1) E.length 60 - (E.length + 1), ?_, hB, ?_, ?_⟩, .inl ((Below.refl _ _).drew.alloc (Nat.le_refl _) _), (Below.refl _ _).drew.alloc hB _⟩
   ·rw [List.length_append, List.length_singleton, show E.length + 1 + (grownCap w (E.length + 1) E.length 60 - (E.length + 1)) = grownCap w (E.length + 1) E.length 60 by omega]
   ·have hn2 := heap_alloc_new w.drew (.cells ((ers E).toArray ++ #[.int .i64 n] ++ Builtin.zeroCells (Value.int .i64 0).cells (grownCap w (E.length + 1) E.length 60 - (E.length + 1))) 60)
    have e : ((ers E).toArray ++ #[.int .i64 n] ++ Builtin.zeroCells (Value.int .i64 0).cells (grownCap w (E.length + 1) E.length 60 - (E.length + 1)) : Array Value) = (erc (E ++ [n]) (grownCap w (E.length + 1) E.length 60 - (E.length + 1))).toArray := by
     apply Array.toList_inj.1
     rw [Array.toList_append, Array.toList_append, zero_cells, ← erc_more]
    rw [← e]
    exact hn2
   ·rw [List.length_append, List.length_singleton]
    omega
  | succ m =>
   have hsz : (erc E (m + 1)).toArray.size = E.length + (m + 1) := by simp [erc, ers]
   have hr := run_append_room (P := Tryz.prog) w 40 ty 60 i0 Tryz.underlying40 hi g E.length (E.length + (m + 1)) _ hh ad 1 c [.int .i64 n] (by rw [hz1]; rfl) hnews (by intro u hu; simp at hu; subst hu; rfl) (by omega) (by rw [hz1, hsz, Nat.mul_one]; show E.length + 1 ≤ _; omega)
   have e : ((erc E (m + 1)).toArray.toList.take (E.length * i0.size) ++ [Value.int .i64 n] ++ (erc E (m + 1)).toArray.toList.drop (E.length * i0.size + [Value.int .i64 n].length)).toArray = (erc (E ++ [n]) m).toArray := by
    rw [hz1, Nat.mul_one, ← erc_more]
    congr 1
    have e1 : (erc E (m + 1)).take E.length = ers E := by
     unfold erc
     rw [List.take_append_of_le_length (by rw [ers_len]; exact Nat.le_refl _), List.take_of_length_le (by rw [ers_len]; exact Nat.le_refl _)]
    have e2 : (erc E (m + 1)).drop (E.length + 1) = List.replicate m (.int .i64 0) := by
     unfold erc
     rw [show E.length + 1 = (ers E).length + 1 by rw [ers_len], List.drop_append, List.drop_of_length_le (by omega)]
     simp [List.replicate_succ]
    show (erc E (m + 1)).take E.length ++ _ ++ (erc E (m + 1)).drop (E.length + 1) = _
    rw [e1, e2]
   rw [e] at hr
   have hset := setRow_heap w g _ (erc (E ++ [n]) m).toArray 60 _ hh
   have hgb : w.grownBy (w.setRow g (erc (E ++ [n]) m).toArray) (some g) := ⟨rfl, rfl, rfl, by simp, fun k _ hk => setRow_other w g k _ (fun e => hk (by rw [e]))⟩
   refine ⟨_, _, hr, .inr ⟨g, m, ?_, hg, hset, ?_⟩, .inr ⟨g, E, m, n, hh, hset, hgb⟩, (Below.refl _ _).grown hgb hB (fun k hk => by injection hk with hk; omega)⟩
   ·rw [List.length_append, List.length_singleton, show E.length + 1 + m = E.length + (m + 1) by omega]
   ·rw [List.length_append, List.length_singleton]
    omega
theorem wpList_append_er (w : World) {ops : Array Oper} {rest : List Oper} {o : Oper} {a : Act} {Q : Exit → Act → World → Prop} (hgd : o.guard = none) (s x : Operand)
  (ho : o.op = .call { callee := .builtin .append, args := #[s, x], argTypes := #[40, 40] }) (B : Nat) (v : Value) (E : List Int) (hs : a.eval s = v) (hE : ErO w B v E) (ad : Addr) (c : Nat) (n : Int) (hx : a.eval x = .slice (some ad) 1 c) (hn : w.cell? ad = some (.int .i64 n)) (hlen : E.length ≤ 1000000) (hB : B ≤ w.heap.size)
  (h : ∀ v' w', ErO w' B v' (E ++ [n]) → Er12 w w' → Below B w w' → wpList Tryz.prog ops Q rest (a.put o.dst v') w') : wpList Tryz.prog ops Q (o :: rest) a w := by
 obtain ⟨v', w', hr, h1, h2, h3⟩ := er_append w B o.type v E hE ad c n hn hlen hB
 exact Lib.wpList_append_run w hgd s x _ _ ho _ _ hs hx v' w' hr (h v' w' h1 h2 h3)
structure FoK (w : World) (t : TypeId) (a : Option Addr) (l : List EvM) (q : SaL) (E : List Int) (v : Value) (W : World) : Prop where
 s : SB w w.heap.size t q W
 z : SB w (w.heap.size + 1) t saO W
 o : ErO W w.heap.size v E
 l : EvSl W a l
theorem FoK.below {w W W' : World} {t : TypeId} {a : Option Addr} {l : List EvM} {q : SaL} {E : List Int} {v : Value} (h : FoK w t a l q E v W) (qB : Below W.heap.size W W') : FoK w t a l q E v W' := ⟨h.s.below qB, h.z.below qB, h.o.below qB, h.l.below qB⟩
theorem FoK.take {w U : World} {t : TypeId} {a : Option Addr} {l : List EvM} {q y : SaL} {E : List Int} {v : Value} {g : Nat} {t' : TypeId} (h : FoK w t a l q E v U) (k : SB w g t' y U) (hne : t ≠ 60) : FoK w t a l y E v (setS U w.heap.size y) :=
 ⟨SB.set h.s k.at_, (SB.over h.s k.at_ h.z (Nat.ne_of_gt (Nat.lt_succ_self _))).2, ErO.setT h.s k.at_ h.o hne, evsl_setS h.s k.at_ h.l⟩
theorem FoK.more {w W W' : World} {t : TypeId} {a : Option Addr} {l : List EvM} {q : SaL} {E F : List Int} {v v' : Value} (h : FoK w t a l q E v W) (hr : RightS q.m) (ht : t ≠ 60) (ho : ErO W' w.heap.size v' F) (hg : Er12 W W') (hB : Below w.heap.size W W') : FoK w t a l q F v' W' :=
 ⟨h.s.er hg hr ht (h.s.frame.trans hB), h.z.er hg RightS.zero ht (h.s.frame.trans hB), ho, h.l.er hg⟩
def FoldsTo (w : World) (M : SaM) (E : List Int) (r : Ending) (w' : World) : Prop := ∃ y b c, r = .returned (.tuple #[saV y, .slice b E.length c]) ∧ SaAt w' y ∧ y.m = M ∧ ErSl w' b E ∧ E.length ≤ c ∧ c ≤ maxLen ∧ Below w.heap.size w w'
def FoldsTo2 (w : World) (M : SaM) (E : List Int) (r : Ending) (w' : World) : Prop := ∃ y b c, r = .returned (.tuple #[saV y, .slice b E.length c]) ∧ SaAt w' y ∧ y.m = M ∧ ErSl w' b E ∧ E.length ≤ c ∧ c ≤ maxLen ∧ Below w.heap.size w w' ∧ ∀ k o, b = some ⟨k, o, none⟩ → w.heap.size ≤ k
theorem FoldsTo2.one {w : World} {M : SaM} {E : List Int} {r : Ending} {w' : World} (h : FoldsTo2 w M E r w') : FoldsTo w M E r w' := by
 obtain ⟨y, b, c, e, h1, h2, h3, h4, h5, h6, -⟩ := h
 exact ⟨y, b, c, e, h1, h2, h3, h4, h5, h6⟩
def movedU (D : List UsL) (j : Nat) (a : Option Addr) (c : Nat) : List UsL := D.set j { (D.getD j default) with a := a, c := c }
theorem movedU_len (D : List UsL) (j : Nat) (a : Option Addr) (c : Nat) : (movedU D j a c).length = D.length := by simp [movedU]
theorem movedU_m (D : List UsL) {j : Nat} (hj : j < D.length) (a : Option Addr) (c : Nat) : umS (movedU D j a c) = umS D := by
 unfold movedU umS
 rw [List.map_set]
 have e1 : (({ (D.getD j default) with a := a, c := c } : UsL)).m = (D.map UsL.m)[j]'(by rw [List.length_map]; exact hj) := by
  rw [List.getElem_map, List.getD_eq_getElem?_getD, List.getElem?_eq_getElem hj]
  rfl
 rw [e1, List.set_getElem_self]
structure OwK (w : World) (x : SaL) (B : Nat) (xu : Option Addr) (D : List UsL) (q : Nat) (W : World) : Prop where
 s : SB w w.heap.size 39 x W
 z : SB w (w.heap.size + 1) 39 saO W
 us : UsSl W xu D
 own : W.ownsRow B 108 2 (.slice xu D.length q) D.length (usv D)
theorem OwK.below {w W W' : World} {x : SaL} {B : Nat} {xu : Option Addr} {D : List UsL} {q : Nat} (h : OwK w x B xu D q W) (qB : Below W.heap.size W W') : OwK w x B xu D q W' := ⟨h.s.below qB, h.z.below qB, h.us.below qB, own_below h.own qB⟩
theorem OwK.store {w W : World} {x : SaL} {B gu : Nat} {D : List UsL} {q : Nat} (hx : SaAt w x) (hB : w.heap.size + 2 ≤ B) (h : OwK w x B (some ⟨gu, 0, none⟩) D q W) {j : Nat} (hj : j < D.length) {a : Option Addr} {c n : Nat} (hn : n = D[j].l.length) (hs : StSl W a D[j].l) (hc : Cp a D[j].l.length c) :
  OwK w x B (some ⟨gu, 0, none⟩) (movedU D j a c) q (W.setCell ⟨gu, j * 2 + 1, none⟩ (.slice a n c)) := by
 subst hn
 obtain ⟨h0, h1⟩ := usv_get hj
 have hp : W.cell? ⟨gu, j * 2 + 1, none⟩ = some (.slice D[j].a D[j].l.length D[j].c) := by rw [h.own.cellAt _ (by omega)]; exact h1
 have hlt := h.own.lt gu rfl
 have hset : (usv D).set (j * 2 + 1) (.slice a D[j].l.length c) = usv (movedU D j a c) := by
  unfold movedU
  rw [List.getD_eq_getElem?_getD, List.getElem?_eq_getElem hj, Option.getD_some, ← usv_set _ _ hj]
  congr 1
  have hl : j * 2 < (usv D).length := by rw [usv_len]; omega
  have e0 := h0
  rw [List.getElem?_eq_getElem hl] at e0
  rw [← Option.some.inj e0, List.set_getElem_self]
 have hst := (h.own.stored (j * 2 + 1) (.slice a D[j].l.length c)).1
 rw [hset] at hst
 have hown2 : (W.setCell ⟨gu, j * 2 + 1, none⟩ (.slice a D[j].l.length c)).ownsRow B 108 2 (.slice (some ⟨gu, 0, none⟩) (movedU D j a c).length q) (movedU D j a c).length (usv (movedU D j a c)) := by
  rw [movedU_len]
  exact hst
 have hf := h.s.frame.setCell (p := ⟨gu, j * 2 + 1, none⟩) (by show w.heap.size ≤ gu; omega) (.slice a D[j].l.length c)
 have hat : ∀ y ∈ movedU D j a c, UsAt (W.setCell ⟨gu, j * 2 + 1, none⟩ (.slice a D[j].l.length c)) y := fun y hy => by
  unfold movedU at hy
  rcases List.mem_or_eq_of_mem_set hy with h2 | rfl
  ·exact (h.us.at_ y h2).setC hp _
  ·have e : D.getD j default = D[j] := by rw [List.getD_eq_getElem?_getD, List.getElem?_eq_getElem hj, Option.getD_some]
   rw [e]
   exact ⟨hs.setC hp _, hc.le, hc.mx, hc.nil⟩
 refine ⟨⟨(block_far (by omega)).trans h.s.blk, h.s.ge, hf, hx.below hf⟩, ⟨(block_far (by omega)).trans h.z.blk, h.z.ge, hf, SaAt.zero _⟩, ⟨?_, hat⟩, hown2⟩
 obtain ⟨a', c', e1, e2, e3, e4, e5⟩ := own_us hown2
 have : some ⟨gu, 0, none⟩ = a' := by injection e1
 rw [this]
 exact e4
set_option maxHeartbeats 2000000 in
theorem own_any (x : SaL) (w : World) (h : SaAt w x) (hf : Few x.m 10000) :
  Calls Tryz.prog 70 #[saV x] w fun e w' => ∃ y, e = .returned (saV y) ∧ SaAt w' y ∧ y.m = x.m ∧ Below w.heap.size w w' := by
 obtain ⟨S0, Z0⟩ := two_SB h 39 39
 have HX := Lib.hid h
 obtain ⟨now, hor, oa, op, oc, ua, us, uc, sa, su, sc, ta, tb, tc⟩ := x
 have hsz : ((w.alloc (.cells (saC ⟨now, hor, oa, op, oc, ua, us, uc, sa, su, sc, ta, tb, tc⟩) 39)).alloc (.cells (saC saO) 39)).heap.size = w.heap.size + 2 := by rw [size1, size1]
 have HCO := Lib.hid (fun V (h : OpSl V oa op) (k : Cp oa op.length oc) => clone_op oa oc op V h k (Nat.le_trans hf.op (by decide)))
 have HCE := Lib.hid (fun V (h : EnSl V sa su) (k : Cp sa su.length sc) => clone_en sa sc su V h k (Nat.le_trans hf.su (by decide)))
 have HCT : Hid (∀ V, TbSl V ta tb → Cp ta tb.length tc → Calls Tryz.prog 142 #[.slice ta tb.length tc] V fun e w' => ∃ v, e = .returned v ∧ w'.ownsRow V.heap.size 141 2 v tb.length (tbv tb) ∧ Below V.heap.size V w') := fun V h k => by
  have := pclone_tb ta tc (tb.map tbp) (tbp_one tb) V h (by rw [List.length_map]; exact k) (by rw [List.length_map]; exact Nat.le_trans hf.tb (by decide))
  rw [List.length_map] at this
  exact this
 have hun : us.length ≤ 10000 := by have := hf.us; unfold SaL.m at this; simp only at this; rw [umS_len] at this; exact this
 have HCU := Lib.hid (fun V (h : UsSl V ua us) (k : Cp ua us.length uc) => pclone_us ua uc (us.map usp) (usp_one us) V h.row (by rw [List.length_map]; exact k) (by rw [List.length_map]; omega))
 rw [List.length_map] at HCU
 have HST : Hid (∀ y ∈ us, y.l.length ≤ 10000) := Lib.hid fun y hy => by
  have := hf.st y.m (List.mem_map_of_mem hy)
  exact this
 have HS := Lib.hid S0
 have HZ := Lib.hid Z0
 obtain ⟨c0, c1, c2, c3, c4, c5⟩ := S0.cells
 obtain ⟨wa, hwa⟩ : ∃ V, V = ((w.alloc (.cells (saC ⟨now, hor, oa, op, oc, ua, us, uc, sa, su, sc, ta, tb, tc⟩) 39)).alloc (.cells (saC saO) 39)) := ⟨_, rfl⟩
 unfold saV saC at *
 dsimp only at *
 clear S0 Z0 h hf
 go_enter Tryz.func70, Tryz.ntmps70
 go_wp2_with fail
 refine (HCU.out _ HS.out.at_.us HS.out.at_.uc).mono ?_
 rintro e w2 ⟨v, rfl, ho, hB⟩
 clear c0 c1 c2 c3 c4 c5
 obtain ⟨xu, qu, rfl, hlu, hmu, hru, hnu⟩ := own_us (D := us) ho
 have hBB : w.heap.size + 2 ≤ wa.heap.size := by rw [hwa]; exact Nat.le_of_eq hsz.symm
 have KO : OwK w ⟨now, hor, oa, op, oc, ua, us, uc, sa, su, sc, ta, tb, tc⟩ wa.heap.size xu us qu w2 := ⟨HS.out.below hB, HZ.out.below hB, ⟨hru, fun y hy => (HS.out.below hB).at_.us.at_ y hy⟩, by rw [hwa]; exact ho⟩
 have HKO := Lib.hid KO
 have HBB := Lib.hid hBB
 clear ho hB hru KO HS HZ HCU hsz hwa hBB
 generalize wa.heap.size = B at *
 go_wp2
 go_loopw [10] (fun iv wr => ∃ (j : Nat) (D : List UsL), j ≤ us.length ∧ iv = .int .i64 j ∧ Hid (D.length = us.length ∧ umS D = umS us) ∧ Hid (OwK w ⟨now, hor, oa, op, oc, ua, us, uc, sa, su, sc, ta, tb, tc⟩ B xu D qu wr)) (fun iv _ => us.length - (intOf iv).toNat)
 case atStart => exact ⟨0, us, by omega, rfl, Lib.hid ⟨rfl, rfl⟩, HKO⟩
 case round =>
  clear HKO
  obtain ⟨j, D, hj, rfl, HD, HK⟩ := hrel
  by_cases hjl : j < us.length
  ·have hw1 : IntKind.i64.wrap ((j : Int) + 1) = (j : Int) + 1 := IntWalk.i64_in _ (by omega)
   have hjD : j < D.length := by rw [HD.out.1]; exact hjl
   have hyl : D[j].l.length ≤ 10000 := by
    have e2 : (D[j]).m ∈ umS us := by rw [← HD.out.2]; exact List.mem_map_of_mem (List.getElem_mem hjD)
    obtain ⟨z, hz, e3⟩ := List.mem_map.1 e2
    have := HST.out z hz
    have e4 : z.l = D[j].l := congrArg UsM.l e3
    rw [← e4]; exact this
   obtain ⟨gu, hgu⟩ : ∃ gu, xu = some ⟨gu, 0, none⟩ := by
    rcases HK.out.own.2 with ⟨e2, hn0⟩ | ⟨gu, _, _, e2, _⟩
    ·omega
    ·injection e2 with e2; exact ⟨gu, e2⟩
   subst hgu
   obtain ⟨hg1, hg2⟩ := usv_get hjD
   have HFR : Hid (∀ V, OwK w ⟨now, hor, oa, op, oc, ua, us, uc, sa, su, sc, ta, tb, tc⟩ B (some ⟨gu, 0, none⟩) D qu V → V.cell? ⟨gu, j * 2 + 1, none⟩ = some (.slice D[j].a D[j].l.length D[j].c) ∧ V.frozen? ⟨gu, j * 2 + 1, none⟩ = false ∧ gu < V.heap.size) := Lib.hid fun V hu => ⟨by rw [hu.own.cellAt _ (by omega)]; exact hg2, hu.own.frozenAt _, (hu.own.lt gu rfl).2⟩
   have HCL := Lib.hid (fun V (h : StSl V D[j].a D[j].l) (k : Cp D[j].a D[j].l.length D[j].c) => clone_st D[j].a D[j].c D[j].l V h k (by omega))
   have HUA := Lib.hid (HK.out.us.at_ _ (List.getElem_mem hjD))
   have HSR := Lib.hid (fun V (h : OwK w ⟨now, hor, oa, op, oc, ua, us, uc, sa, su, sc, ta, tb, tc⟩ B (some ⟨gu, 0, none⟩) D qu V) (a : Option Addr) (c n : Nat) hn hs hc => h.store HX.out HBB.out hjD (a := a) (c := c) (n := n) hn hs hc)
   have HDN : Hid (∀ a c, (movedU D j a c).length = us.length ∧ umS (movedU D j a c) = umS us) := Lib.hid fun a c => ⟨(movedU_len D j a c).trans HD.out.1, (movedU_m D hjD a c).trans HD.out.2⟩
   have hdl : D.length = us.length := HD.out.1
   obtain ⟨r1, r2, r3⟩ := HFR.out _ HK.out
   clear hg1 hg2 HD HST
   generalize D[j] = z at *
   go_wp2_with fail
   refine (HCL.out _ HUA.out.st ⟨HUA.out.le, HUA.out.mx, HUA.out.nil⟩).mono ?_
   rintro e w3 ⟨v3, rfl, o3, h3⟩
   clear r1 r2 r3
   obtain ⟨x3, q3, rfl, i3, j3, k3, l3⟩ := own_st o3
   have K3 := HK.out.below h3
   obtain ⟨r1, r2, r3⟩ := HFR.out _ K3
   have HN := Lib.hid (HSR.out _ K3 x3 q3 _ rfl k3 ⟨i3, j3, l3⟩)
   clear HFR HCL HUA HSR HK K3 o3 k3 i3 j3 l3 h3
   go_wp2
   go_roundw
   case rel => exact ⟨j + 1, _, by omega, by go_num, HDN.out x3 q3, HN.out⟩
   case measure => simp [intOf]; omega
  ·obtain rfl : j = us.length := by omega
   have hdl := HD.out.1
   have HUM := Lib.hid HD.out.2
   have HCP : Hid (Cp xu D.length qu) := Lib.hid (by rw [hdl]; exact ⟨hlu, hmu, hnu⟩)
   have HSC : Hid (∀ V, OwK w ⟨now, hor, oa, op, oc, ua, us, uc, sa, su, sc, ta, tb, tc⟩ B xu D qu V → V.cell? ⟨w.heap.size, 0, none⟩ = some (.int .i64 now) ∧ V.cell? ⟨w.heap.size, 1, none⟩ = some (.int .i64 hor) ∧ V.cell? ⟨w.heap.size, 2, none⟩ = some (.slice oa op.length oc) ∧ V.cell? ⟨w.heap.size, 3, none⟩ = some (.slice ua us.length uc) ∧ V.cell? ⟨w.heap.size, 4, none⟩ = some (.slice sa su.length sc) ∧ V.cell? ⟨w.heap.size, 5, none⟩ = some (.slice ta tb.length tc)) := Lib.hid fun V h => h.s.cells
   have HS2 : Hid (∀ V, SB w w.heap.size 39 ⟨now, hor, oa, op, oc, ua, us, uc, sa, su, sc, ta, tb, tc⟩ V → V.cell? ⟨w.heap.size, 0, none⟩ = some (.int .i64 now) ∧ V.cell? ⟨w.heap.size, 1, none⟩ = some (.int .i64 hor) ∧ V.cell? ⟨w.heap.size, 2, none⟩ = some (.slice oa op.length oc) ∧ V.cell? ⟨w.heap.size, 3, none⟩ = some (.slice ua us.length uc) ∧ V.cell? ⟨w.heap.size, 4, none⟩ = some (.slice sa su.length sc) ∧ V.cell? ⟨w.heap.size, 5, none⟩ = some (.slice ta tb.length tc)) := Lib.hid fun V h => h.cells
   have HBL : Hid (∀ V V', OwK w ⟨now, hor, oa, op, oc, ua, us, uc, sa, su, sc, ta, tb, tc⟩ B xu D qu V → Below V.heap.size V V' → OwK w ⟨now, hor, oa, op, oc, ua, us, uc, sa, su, sc, ta, tb, tc⟩ B xu D qu V') := Lib.hid fun V V' h q => h.below q
   obtain ⟨k0, k1, k2, k3, k4, k5⟩ := HSC.out _ HK.out
   have K0 := HK.out.below (Below.refl _ _).drew
   clear HST HD HK hj hjl hlu hmu hnu HBB
   go_wp2_with fail
   go_region_held3 (fun V => V.cell? ⟨w.heap.size, 0, none⟩ = some (.int .i64 now) ∧ V.cell? ⟨w.heap.size, 1, none⟩ = some (.int .i64 hor) ∧ V.cell? ⟨w.heap.size, 2, none⟩ = some (.slice oa op.length oc) ∧ V.cell? ⟨w.heap.size, 3, none⟩ = some (.slice ua us.length uc) ∧ V.cell? ⟨w.heap.size, 4, none⟩ = some (.slice sa su.length sc) ∧ V.cell? ⟨w.heap.size, 5, none⟩ = some (.slice ta tb.length tc))
    (first | with_reducible exact HS2.out _ KT | with_reducible exact HSC.out _ K3 | with_reducible exact HSC.out _ K2 | with_reducible exact HSC.out _ K1 | with_reducible exact HSC.out _ K0)
    (first | (have hseen := K2; clear hseen; go_at_call 142; refine (HCT.out _ K2.s.at_.tb K2.s.at_.tc).mono ?_; rintro r v3 ⟨y3, rfl, o3, h3⟩; obtain ⟨x3, q3, rfl, i3, j3, p3, l3⟩ := own_tb o3; have T3 := Cp.mk i3 j3 l3; have p1'' := p1'.below h3; have p2' := p2.below h3; have K3 := HBL.out _ _ K2 h3; have YY : SaAt v3 ⟨now, hor, x1, op, q1, xu, D, qu, x2, su, q2, x3, tb, q3⟩ := ⟨p1'', K3.us, p2', p3, T1, HCP.out, T2, T3⟩; have hF := K3.z.set YY; have KT := (SB.over K3.z YY K3.s (Nat.ne_of_lt (Nat.lt_succ_self _))).2; have hL := loadS6 hF.blk; have hFN := And.intro hF.at_ hF.frame; unfold setS saV saC at hL; unfold setS at KT hFN; dsimp only at hL KT hFN; rw [hdl] at hL KT hFN; have HL := Lib.hid hL; have HFN := Lib.hid hFN; clear hFN; obtain ⟨z0, z1, z2, z3, z4, z5⟩ := K3.z.cells; obtain ⟨f0, f1, f2, f3, f4, f5⟩ := K3.z.free; have hzl := K3.z.lt; unfold saO at z0 z1 z2 z3 z4 z5; dsimp only [List.length_nil] at z0 z1 z2 z3 z4 z5) | (have hseen := K1; clear hseen; go_at_call 141; refine (HCE.out _ K1.s.at_.su K1.s.at_.sc).mono ?_; rintro r v2 ⟨y2, rfl, o2, h2⟩; obtain ⟨x2, q2, rfl, i2, j2, p2, l2⟩ := own_en o2; have T2 := Cp.mk i2 j2 l2; have p1' := p1.below h2; have K2 := HBL.out _ _ K1 h2) | (have hseen := K0; clear hseen; go_at_call 140; refine (HCO.out _ K0.s.at_.op K0.s.at_.oc).mono ?_; rintro r v1 ⟨y1, rfl, o1, h1⟩; obtain ⟨x1, q1, rfl, i1, j1, p1, l1⟩ := own_op o1; have T1 := Cp.mk i1 j1 l1; have K1 := HBL.out _ _ K0 h1))
   all_goals
    clear K0 K1 K2 K3 KT hF hL YY HSC HS2 HBL k0 k1 k2 k3 k4 k5 z0 z1 z2 z3 z4 z5 f0 f1 f2 f3 f4 f5 hzl p1 p1' p1'' p2 p2' p3 T1 T2 T3 o1 o2 o3 h1 h2 h3 i1 i2 i3 j1 j2 j3 l1 l2 l3 HCO HCE HCT HCP
    go_wp2
    refine bodyPost_ret (v := saV ⟨now, hor, x1, op, q1, xu, D, qu, x2, su, q2, x3, tb, q3⟩) ?_ rfl ⟨⟨now, hor, x1, op, q1, xu, D, qu, x2, su, q2, x3, tb, q3⟩, rfl, HFN.out.1, by unfold SaL.m; dsimp only; rw [HUM.out], HFN.out.2⟩
    rw [results_cell1 rfl]
    unfold saV saC
    dsimp only
    rw [hdl]
    simp [asAddr, Result.andThen, HL.out]
end Go.Proofs.YtapacckmgmdnoaaGreat
namespace Go.Proofs.YtapacckmgmdnoaaGreat
open Go.RowKit Go.Proofs
set_option linter.unusedVariables false
set_option maxRecDepth 100000
set_option maxRecDepth 100000
theorem staysO_few (l : List OpM) (u : ByteArray) (t : Int) {n : Nat} (h : l.length ≤ n) : (staysO l u t).length ≤ n := by
 have := staysO_len l u t l.length
 rw [List.take_length] at this
 omega
theorem ofU_few {s : SaM} {n : Nat} (h : Few s n) (u : ByteArray) : (ofU s.us u).length ≤ n := by
 rcases ofU_cases s.us u with h1 | h1
 ·rw [h1]; exact Nat.zero_le _
 ·exact h.st _ h1
set_option maxHeartbeats 8000000 in
theorem stays_any11 (x : SaL) (u : ByteArray) (t : Int) (w : World) (h : SaAt w x) (hf : Few x.m 400) :
  Calls Tryz.prog 39 #[saV x, .string u, .int .i64 t] w fun e w' => ∃ a q, e = .returned (.slice a (staysS x.m u t).length q) ∧ StSl w' a (staysS x.m u t) ∧ Below w.heap.size w w' := by
 have HK := SB.new (Below.refl w.heap.size w) h 39
 have hol : (ofU x.m.us u).length ≤ 400 := ofU_few hf u
 have hsl : (staysO x.m.op u t).length ≤ 400 := staysO_few _ _ _ hf.op
 have HSO := Lib.hid (fun V (h : UsSl V x.ua x.us) => staysOf_any x.ua x.uc x.us u V h (by have := hf.us; unfold SaL.m at this; simp only at this; rw [umS_len] at this; omega))
 have HOS := Lib.hid (fun V (h : OpSl V x.oa x.op) => o_stays x.oa x.oc x.op u t V h (Nat.le_trans hf.op (by decide)))
 have HCL := Lib.hid (fun V a c (h : StSl V a (ofU x.m.us u)) (k : Cp a (ofU x.m.us u).length c) => clone_st a c (ofU x.m.us u) V h k (by omega))
 have HAN := Lib.hid (fun j (hj : j < (staysO x.m.op u t).length) => addsS_next (staysO x.m.op u t) (ofU x.m.us u) j hj)
 have HAL := Lib.hid (fun j => addsS_len ((staysO x.m.op u t).take j) (ofU x.m.us u))
 have HAD := Lib.hid (fun V a c (l : List StM) (s : StM) (h : StSl V a l) (k : Cp a l.length c) (hl : l.length ≤ 1000) => add8_any a c l s V h k.nil hl k.le k.mx)
 have HS := Lib.hid HK
 obtain ⟨c0, c1, c2, c3, c4, c5⟩ := HK.cells
 rw [show staysS x.m u t = addsS (staysO x.m.op u t) (ofU x.m.us u) from rfl]
 rw [show umS x.us = x.m.us from rfl] at HSO
 rw [show x.op = x.m.op from rfl] at HOS c2
 generalize hL : staysO x.m.op u t = L at *
 generalize ofU x.m.us u = O at *
 obtain ⟨now, hor, oa, op, oc, ua, us, uc, sa, su, sc, ta, tb, tc⟩ := x
 unfold saV saC stV at *
 dsimp only at *
 clear h hf HK hL
 go_enter Tryz.func39, Tryz.ntmps39
 go_wp2_with fail
 refine (HSO.out _ HS.out.at_.us).mono ?_
 rintro e w1 ⟨x1, q1, rfl, l1, k1, h1⟩
 have A1 := Lib.hid (HS.out.below h1)
 have L1 := Lib.hid l1
 clear c0 c1 c2 c3 c4 c5 h1 l1 HS HSO
 go_wp2_with fail
 refine (HCL.out _ _ _ L1.out k1).mono ?_
 rintro e w2 ⟨v2, rfl, o2, h2⟩
 obtain ⟨x2, q2, rfl, i2, j2, k2, l2⟩ := own_st o2
 have A2 := Lib.hid (A1.out.below h2)
 have L2 := Lib.hid k2
 obtain ⟨c0, c1, c2, c3, c4, c5⟩ := A2.out.cells
 dsimp only at *
 clear A1 L1 HCL k1 h2 o2 k2
 go_wp2_with fail
 refine (HOS.out _ A2.out.at_.op).mono ?_
 rintro e w3 ⟨x3, q3, rfl, i3, j3, k3, l3, h3⟩
 have L3 := Lib.hid (L2.out.below h3)
 have M3 := Lib.hid l3
 have B3 := Lib.hid (A2.out.frame.trans (h3.mono A2.out.frame.size))
 have C2 := Lib.hid (Cp.mk i2 j2 l2)
 clear c0 c1 c2 c3 c4 c5 A2 L2 HOS i2 j2 l2 i3 j3 k3 l3 h3
 go_wp2
 go_loopw [7, 21] (fun v iv wr => ∃ (j : Nat) (a : Option Addr) (c : Nat), j ≤ L.length ∧ iv = .int .i64 j ∧ v = .slice a (addsS (L.take j) O).length c ∧ Hid (StSl wr a (addsS (L.take j) O)) ∧ Hid (Cp a (addsS (L.take j) O).length c) ∧ Hid (Below w3.heap.size w3 wr)) (fun _ iv _ => L.length - (intOf iv).toNat)
 case atStart => exact ⟨0, _, _, by omega, rfl, rfl, L3.out, C2.out, Below.refl _ _⟩
 case round =>
  clear L3 C2
  obtain ⟨j, a, c, hj, rfl, rfl, HR, HC, HB⟩ := hrel
  by_cases hjl : j < L.length
  ·obtain ⟨b, off, rfl, hbl, r0, r1, r2, r3⟩ := (M3.out.below HB.out) j hjl
   have hb1 := below_one wr (.cells #[.int .i64 L[j].f, .int .i64 L[j].t, .int .i64 L[j].n, .int .i64 L[j].s] 111)
   have HN := Lib.hid (HAN.out j hjl)
   have hal := HAL.out j
   have hal2 : (L.take j).length ≤ 400 := by rw [List.length_take]; omega
   have HAJ := Lib.hid (HAD.out _ a c (addsS (L.take j) O) L[j] (HR.out.below hb1) HC.out (by omega))
   have HB1 := Lib.hid (HB.out.trans (hb1.mono HB.out.size))
   clear hb1 HAN HAL HAD HR HC HB hal hal2
   generalize addsS (L.take j) O = R at *
   generalize L[j] = s at *
   go_wp2_with fail
   refine HAJ.out.mono ?_
   rintro e w4 ⟨v4, rfl, o4, h4⟩
   obtain ⟨x4, q4, rfl, i4, j4, k4, l4⟩ := own_st o4
   have HB2 := Lib.hid (HB1.out.trans (h4.mono HB1.out.size))
   have HC2 := Lib.hid (Cp.mk i4 j4 l4)
   have HS4 := Lib.hid k4
   clear HAJ HB1 h4 o4 i4 j4 k4 l4 r0 r1 r2 r3
   go_wp2
   go_roundw
   case rel => exact ⟨j + 1, x4, q4, by omega, by go_num, by rw [HN.out], (by unfold Hid; rw [HN.out]; exact HS4.out), (by unfold Hid; rw [HN.out]; exact HC2.out), HB2.out⟩
   case measure => simp [intOf]; omega
  ·obtain rfl : j = L.length := by omega
   rw [List.take_length] at HR HC
   rw [List.take_length]
   have HF := Lib.hid (B3.out.trans (HB.out.mono B3.out.size))
   clear HAN HAL HAD HC HB B3 M3
   go_wp2
   go_ret
   exact ⟨a, c, rfl, HR.out, HF.out⟩
end Go.Proofs.YtapacckmgmdnoaaGreat
