/- Texts of mine, one behind the other, of each what is wanted. -/
import Derived.Test.YtmfpjapiijgdgaaGreatV00
import Derived.Test.YtmfpjapiijgdgaaGreatShelf
import Derived.Test.YtmfpjapiijgdgaaGreatRows
import Derived.Test.YtmfpjapiijgdgaaGreatV01
import Derived.Test.YtmfpjapiijgdgaaGreatV03
import Derived.Test.YtmfpjapiijgdgaaGreatV04
import Derived.Test.YtmfpjapiijgdgaaGreatV05
import Derived.Test.YtmfpjapiijgdgaaGreatV06
import Derived.Test.YtmfpjapiijgdgaaGreatV07
import Derived.Test.YtmfpjapiijgdgaaGreatV11
import Derived.Test.YtmfpjapiijgdgaaGreatV13
import Derived.Test.YtmfpjapiijgdgaaGreatV20
import Derived.Test.YtmfpjapiijgdgaaGreatV24
import Derived.Test.YtmfpjapiijgdgaaGreatV25
import Derived.Test.YtmfpjapiijgdgaaGreatV26
import Derived.Test.YtmfpjapiijgdgaaGreatV27
import Derived.Test.YtmfpjapiijgdgaaGreatV28
import Derived.Test.YtmfpjapiijgdgaaGreatV29
import Derived.Test.YtmfpjapiijgdgaaGreatV35
namespace Go.Proofs.YtmfpjapiijgdgaaGreat
open Go.RowKit Go.Proofs
set_option linter.unusedVariables false
set_option maxRecDepth 100000
set_option maxRecDepth 100000
def clampN (n l m : Nat → Int) (i : Nat) : Int := min (max (n i) (l i)) (m i)
def wiB (n l m : Nat → Int) : Bool := (clampN n l m 0 == n 0) && ((clampN n l m 1 == n 1) && ((clampN n l m 2 == n 2) && (clampN n l m 3 == n 3)))
end Go.Proofs.YtmfpjapiijgdgaaGreat
namespace Go.Proofs.YtmfpjapiijgdgaaGreat
open Go.RowKit Go.Proofs
set_option linter.unusedVariables false
set_option maxRecDepth 100000
def everM (p u : ByteArray) (n : Int) : AskM := ⟨p, u, 0, 1099511627776, n⟩
set_option maxHeartbeats 4000000 in
theorem last_any13 (x : SaL) (p u : ByteArray) (n : Int) (w : World) (h : SaAt w x) (hf : Few x.m 200) (hp : p.size ≤ maxLen) (hu : u.size ≤ maxLen) :
  Calls Tryz.prog 51 #[saV x, pr p u, .int .i64 n] w fun e w' => ∃ m, e = .returned (.tuple #[.int .i64 (lastS m).1, .bool (lastS m).2, .int .i64 (whyV x.m p u n)]) ∧ GTold x.m (everM p u n) m ∧ Below w.heap.size w w' := by
 have S := SB.new (Below.refl w.heap.size w) h 39
 have S := S.alloc (.cells #[.string p, .string u] 79)
 have HR := Lib.hid (fun V (h : SaAt V x) => range_any13 x (everM p u n) V h hf hp hu)
 have HS := Lib.hid S
 obtain ⟨c0, c1, c2, c3, c4, c5⟩ := S.cells
 have hnew := heap_alloc_new (w.alloc (.cells (saC x) 39)) (.cells #[.string p, .string u] 79)
 rw [size1] at hnew
 have p0 := cell_of_row _ _ 0 _ _ (0, 0) hnew
 have p1 := cell_of_row _ _ 1 _ _ (0, 0) hnew
 rw [show whyV x.m (everM p u n).w (everM p u n).u (everM p u n).n = whyV x.m p u n from rfl] at HR
 generalize GTold x.m (everM p u n) = TD at *
 generalize whyV x.m p u n = Y at *
 obtain ⟨now, hor, oa, op, oc, ua, us, uc, sa, su, sc, ta, tb, tc⟩ := x
 unfold saV saC askV askC everM pr at *
 dsimp only at *
 clear h hf S hnew
 go_enter Tryz.func51, Tryz.ntmps51
 go_wp2_with fail
 refine (HR.out _ HS.out.at_).mono ?_
 rintro e w1 ⟨y, c, m, rfl, k1, k2, k3, h1⟩
 have HF := Lib.hid (HS.out.frame.trans (h1.mono HS.out.frame.size))
 have HL := Lib.hid (last_any y c m w1 k3 (by omega))
 have HT := Lib.hid k1
 clear c0 c1 c2 c3 c4 c5 p0 p1 HS HR h1 k1 k2 k3
 go_wp2_with fail
 refine HL.out.mono ?_
 rintro e w2 ⟨rfl, h2⟩
 have HF2 := Lib.hid (HF.out.trans (h2.mono HF.out.size))
 clear HL HF h2
 go_wp2
 go_ret3
 exact ⟨m, rfl, HT.out, HF2.out⟩
end Go.Proofs.YtmfpjapiijgdgaaGreat
namespace Go.Proofs.YtmfpjapiijgdgaaGreat
set_option linter.unusedVariables false
set_option maxRecDepth 100000
def an11 : ByteArray := ⟨#[97, 110, 110]⟩
def no11 : ByteArray := ⟨#[]⟩
def sA1 : SaM := ⟨3, 0, [⟨1, an11, 1, 3⟩], [], [], []⟩
theorem an_name : nameB an11 = true := by decide
theorem rv1 : RightV 1 3 1 1 an11 no11 := ⟨by decide, by decide, .inl ⟨.inl rfl, by decide, by decide, an_name, rfl, by decide, by decide⟩⟩
theorem aE1 : errS saZ 1 3 1 1 an11 no11 = 0 := by unfold errS; rw [if_pos rv1, if_neg (by decide)]; rfl
theorem aT1 : tellS saZ 1 3 1 1 an11 no11 = sA1 := by unfold tellS; rw [aE1, if_pos rfl]; rfl
theorem aF : findC [⟨1, an11, 1, 3⟩] 1 an11 = 0 ∧ findE [⟨1, an11, 1, 3⟩] 1 an11 = ⟨1, an11, 1, 3⟩ ∧ findP [⟨1, an11, 1, 3⟩] 1 an11 = 0 := fc_hit (l := [⟨1, an11, 1, 3⟩]) (n := 1) (k := 0) ⟨by decide, fun i hi h => absurd h (by omega), fun _ => rfl⟩ (by decide) rfl
end Go.Proofs.YtmfpjapiijgdgaaGreat
namespace Go.Proofs.YtmfpjapiijgdgaaGreat
open Go.RowKit Go.Proofs
set_option linter.unusedVariables false
set_option maxRecDepth 100000
theorem infoErr : (Tryz.prog.info? 60).map (fun i => (i.zero, i.size, i.bytes)) = some (some (.int .i64 0), 1, 8) := by kernel_rfl
theorem zero_cells (n : Nat) : (Builtin.zeroCells (Value.int .i64 0).cells n).toList = List.replicate n (.int .i64 0) := by
 apply List.ext_getElem
 ·simp [Builtin.zeroCells, Value.cells]
 ·intro k h1 h2
  simp [Builtin.zeroCells, Value.cells, Nat.mod_one]
theorem made_cells (n : Nat) : (madeCells (Value.int .i64 0).cells n).toList = List.replicate n (.int .i64 0) := by
 apply List.ext_getElem
 ·simp [madeCells, Value.cells]
 ·intro k h1 h2
  simp [madeCells, Value.cells, Nat.mod_one]
def erc (E : List Int) (m : Nat) : List Value := ers E ++ List.replicate m (.int .i64 0)
theorem erc_int {E : List Int} {m j : Nat} {v : Value} (h : (erc E m)[j]? = some v) : ∃ n, v = .int .i64 n := by
 have hm := List.mem_of_getElem? h
 rcases List.mem_append.1 hm with h | h
 ·obtain ⟨n, -, rfl⟩ := List.mem_map.1 h; exact ⟨n, rfl⟩
 ·exact ⟨0, List.eq_of_mem_replicate h⟩
theorem erc_spare {E : List Int} {m j : Nat} {v : Value} (hj : E.length ≤ j) (h : (erc E m)[j]? = some v) : v = .int .i64 0 := by
 unfold erc at h
 rw [List.getElem?_append_right (by rw [ers_len]; exact hj)] at h
 exact List.eq_of_mem_replicate (List.mem_of_getElem? h)
theorem erc_more (E : List Int) (m : Nat) (n : Int) : ers E ++ [.int .i64 n] ++ List.replicate m (.int .i64 0) = erc (E ++ [n]) m := by
 unfold erc
 rw [ers_snoc]
theorem erc_same {E : List Int} {m : Nat} {n : Int} {j : Nat} (hj : j ≠ E.length) : (erc (E ++ [n]) m)[j]? = (erc E (m + 1))[j]? := by
 unfold erc
 rw [ers_snoc, List.append_assoc]
 rcases Nat.lt_or_ge j (ers E).length with h | h
 ·rw [List.getElem?_append_left h, List.getElem?_append_left h]
 ·rw [List.getElem?_append_right h, List.getElem?_append_right h]
  rw [ers_len] at h ⊢
  obtain ⟨d, hd⟩ : ∃ d, j - E.length = d + 1 := ⟨j - E.length - 1, by omega⟩
  rw [hd]
  simp [List.replicate_succ]
def ErO (W : World) (B : Nat) (v : Value) (E : List Int) : Prop :=
 (v = .slice none 0 0 ∧ E = []) ∨ ∃ g m, v = .slice (some ⟨g, 0, none⟩) E.length (E.length + m) ∧ B ≤ g ∧ W.heap[g]? = some (.cells (erc E m).toArray 60 (0, 0)) ∧ E.length + m ≤ maxLen
theorem ErO.below {w w' : World} {B : Nat} {v : Value} {E : List Int} (h : ErO w B v E) (q : Below w.heap.size w w') : ErO w' B v E := by
 rcases h with h | ⟨g, m, h1, h2, h3, h4⟩
 ·exact .inl h
 ·exact .inr ⟨g, m, h1, h2, (q.block g (heap_lt h3)).trans h3, h4⟩
theorem ErO.row {w : World} {B : Nat} {v : Value} {E : List Int} (h : ErO w B v E) : ∃ a c, v = .slice a E.length c ∧ E.length ≤ c ∧ c ≤ maxLen ∧ ErSl w a E ∧ (a = none → c = 0) := by
 rcases h with ⟨rfl, rfl⟩ | ⟨g, m, rfl, h2, h3, h4⟩
 ·exact ⟨none, 0, rfl, Nat.le_refl _, by unfold maxLen; omega, ErSl.nil _ _, fun _ => rfl⟩
 ·refine ⟨_, _, rfl, by omega, h4, fun k hk => ⟨g, 0, rfl, heap_lt h3, ?_⟩, fun e => by cases e⟩
  rw [cell_of_row w g (0 + k) _ _ (0, 0) h3, Nat.zero_add]
  simp only [List.getElem?_toArray]
  unfold erc
  rw [List.getElem?_append_left hk, List.getElem?_eq_getElem hk]
theorem ErO.low {w : World} {B : Nat} {v : Value} {E : List Int} (h : ErO w B v E) : ∀ a n c, v = .slice a n c → ∀ k o, a = some ⟨k, o, none⟩ → B ≤ k := by
 intro a n c e k o e2
 rcases h with ⟨rfl, -⟩ | ⟨g, m, rfl, h2, -, -⟩
 ·injection e with e; subst e; cases e2
 ·injection e with e; subst e; injection e2 with e2; injection e2 with e2; omega
def Spot (W W' : World) : Prop := ∃ (g : Nat) (E : List Int) (m : Nat) (n : Int), W.heap[g]? = some (.cells (erc E (m + 1)).toArray 60 (0, 0)) ∧ W'.heap[g]? = some (.cells (erc (E ++ [n]) m).toArray 60 (0, 0)) ∧ W.grownBy W' (some g)
def Er12 (W W' : World) : Prop := Below W.heap.size W W' ∨ Spot W W'
theorem Er12.size {W W' : World} (h : Er12 W W') : W.heap.size ≤ W'.heap.size := by
 rcases h with h | ⟨g, E, m, n, -, -, h⟩
 ·exact h.size
 ·exact h.size
theorem Er12.block {W W' : World} (h : Er12 W W') {g : Nat} {cs : Array Value} {t : TypeId} (hb : W.heap[g]? = some (.cells cs t (0, 0))) (ht : t ≠ 60) : W'.heap[g]? = some (.cells cs t (0, 0)) := by
 rcases h with h | ⟨g', E, m, n, h1, -, h⟩
 ·exact (h.block g (heap_lt hb)).trans hb
 ·refine (h.block g (heap_lt hb) ?_).trans hb
  intro e
  injection e with e
  subst e
  rw [h1] at hb
  injection hb with hb
  injection hb with _ hb
  exact ht hb.symm
theorem Er12.text {W W' : World} (h : Er12 W W') {b i : Nat} {v : Value} (hlt : b < W.heap.size) (hv : ∀ n, v ≠ .int .i64 n) (hc : W.cell? ⟨b, i, none⟩ = some v) (j : Nat) : W'.cell? ⟨b, j, none⟩ = W.cell? ⟨b, j, none⟩ := by
 rcases h with h | ⟨g, E, m, n, h1, h2, h⟩
 ·exact h.cell (p := ⟨b, j, none⟩) hlt
 ·have hne : b ≠ g := fun e => by
   subst e
   rw [cell_of_row W b i _ _ (0, 0) h1] at hc
   simp only [List.getElem?_toArray] at hc
   obtain ⟨n, rfl⟩ := erc_int hc
   exact hv n rfl
  exact World.cell?_of_block (w := W) (h.block b hlt (fun e => by injection e with e; exact hne e))
theorem Er12.cell {W W' : World} (h : Er12 W W') {b i : Nat} {v : Value} (hlt : b < W.heap.size) (hc : W.cell? ⟨b, i, none⟩ = some v) (hv : v ≠ .int .i64 0 ∨ ∃ j u, i ≤ j ∧ W.cell? ⟨b, j, none⟩ = some u ∧ u ≠ .int .i64 0) : W'.cell? ⟨b, i, none⟩ = some v := by
 rcases h with h | ⟨g, E, m, n, h1, h2, h⟩
 ·exact (h.cell (p := ⟨b, i, none⟩) hlt).trans hc
 ·by_cases hbg : b = g
  ·subst hbg
   rw [cell_of_row W b i _ _ (0, 0) h1] at hc
   simp only [List.getElem?_toArray] at hc
   have hi : i < E.length := by
    rcases Nat.lt_or_ge i E.length with h3 | h3
    ·exact h3
    ·exfalso
     rcases hv with hv | ⟨j, u, hij, hu, hne⟩
     ·exact hv (erc_spare h3 hc)
     ·rw [cell_of_row W b j _ _ (0, 0) h1] at hu
      simp only [List.getElem?_toArray] at hu
      exact hne (erc_spare (Nat.le_trans h3 hij) hu)
   rw [cell_of_row W' b i _ _ (0, 0) h2]
   simp only [List.getElem?_toArray]
   rw [erc_same (Nat.ne_of_lt hi)]
   exact hc
  ·exact (World.cell?_of_block (w := W) (h.block b hlt (fun e => by injection e with e; exact hbg e))).trans hc
theorem EvSl.er {W W' : World} (h : Er12 W W') {a : Option Addr} {l : List EvM} (ho : EvSl W a l) : EvSl W' a l := fun k hk => by
 obtain ⟨b, off, e, hlt, h0⟩ := ho k hk
 have h2 : W.cell? ⟨b, off + k * 6 + 2, none⟩ = some (.string l[k].user) := h0 2 (by decide)
 exact ⟨b, off, e, Nat.lt_of_lt_of_le hlt h.size, fun i hi => (h.text hlt (fun n e => by cases e) h2 _).trans (h0 i hi)⟩
theorem OpSl.er {W W' : World} (h : Er12 W W') {a : Option Addr} {l : List OpM} (ho : OpSl W a l) : OpSl W' a l := fun k hk => by
 obtain ⟨b, off, e, hlt, h0, h1, h2, h3⟩ := ho k hk
 have hx := h.text hlt (fun n e => by cases e) h1
 exact ⟨b, off, e, Nat.lt_of_lt_of_le hlt h.size, (hx _).trans h0, (hx _).trans h1, (hx _).trans h2, (hx _).trans h3⟩
theorem EnSl.er {W W' : World} (h : Er12 W W') {a : Option Addr} {l : List EnM} (ho : EnSl W a l) : EnSl W' a l := fun k hk => by
 obtain ⟨b, off, e, hlt, h0, h1, h2, h3⟩ := ho k hk
 have hx := h.text hlt (fun n e => by cases e) h0
 exact ⟨b, off, e, Nat.lt_of_lt_of_le hlt h.size, (hx _).trans h0, (hx _).trans h1, (hx _).trans h2, (hx _).trans h3⟩
theorem PpSl.er {W W' : World} (h : Er12 W W') {a : Option Addr} {l : List (Value × Value)} (hs : ∀ y ∈ l, ∃ s, y.1 = .string s) (ho : PpSl W a l) : PpSl W' a l := fun k hk => by
 obtain ⟨b, off, e, hlt, h0, h1⟩ := ho k hk
 obtain ⟨s, es⟩ := hs _ (List.getElem_mem hk)
 have hx := h.text hlt (v := l[k].1) (fun n e => by rw [es] at e; cases e) h0
 exact ⟨b, off, e, Nat.lt_of_lt_of_le hlt h.size, (hx _).trans h0, (hx _).trans h1⟩
theorem StSl.er {W W' : World} (h : Er12 W W') {a : Option Addr} {l : List StM} (hl : ∀ x ∈ l, 0 ≤ x.f ∧ x.f < x.t ∧ 1 ≤ x.n ∧ 1 ≤ x.s) (ho : StSl W a l) : StSl W' a l := fun k hk => by
 obtain ⟨b, off, e, hlt, h0, h1, h2, h3⟩ := ho k hk
 obtain ⟨r0, r1, r2, r3⟩ := hl _ (List.getElem_mem hk)
 have n1 : (Value.int .i64 l[k].t) ≠ .int .i64 0 := fun e => by injection e with _ e; omega
 have n2 : (Value.int .i64 l[k].n) ≠ .int .i64 0 := fun e => by injection e with _ e; omega
 have n3 : (Value.int .i64 l[k].s) ≠ .int .i64 0 := fun e => by injection e with _ e; omega
 exact ⟨b, off, e, Nat.lt_of_lt_of_le hlt h.size, h.cell hlt h0 (.inr ⟨_, _, Nat.le_add_right _ 1, h1, n1⟩), h.cell hlt h1 (.inl n1), h.cell hlt h2 (.inl n2), h.cell hlt h3 (.inl n3)⟩
theorem SaAt.er {W W' : World} (h : Er12 W W') {x : SaL} (hr : RightS x.m) (ho : SaAt W x) : SaAt W' x := by
 refine ⟨ho.op.er h, ⟨ho.us.row.er h (fun y hy => ?_), fun y hy => ?_⟩, ho.su.er h, PpSl.er h (fun y hy => ?_) ho.tb, ho.oc, ho.uc, ho.sc, ho.tc⟩
 ·obtain ⟨z, -, rfl⟩ := List.mem_map.1 hy; exact ⟨_, rfl⟩
 ·have h1 := ho.us.at_ y hy
  obtain ⟨-, -, h2, h3⟩ := hr.us y.m (List.mem_map_of_mem hy)
  refine ⟨h1.st.er h (fun s hs => ?_), h1.le, h1.mx, h1.nil⟩
  obtain ⟨k0, -, k1, -, k2, -⟩ := h3 s hs
  exact ⟨k0, (rise_iff.1 h2).1 s hs, k1, k2⟩
 ·obtain ⟨z, -, rfl⟩ := List.mem_map.1 hy; exact ⟨_, rfl⟩
theorem SB.er {w W W' : World} (h : Er12 W W') {g : Nat} {t : TypeId} {x : SaL} (ho : SB w g t x W) (hr : RightS x.m) (ht : t ≠ 60) (hf : Below w.heap.size w W') : SB w g t x W' := ⟨h.block ho.blk ht, ho.ge, hf, ho.at_.er h hr⟩
theorem ErO.apart {W : World} {B g i : Nat} {t : TypeId} {v u : Value} {E : List Int} {cs : Array Value} (h : ErO W B v E) (hb : W.heap[g]? = some (.cells cs t (0, 0))) (hne : t ≠ 60) : ErO (W.setCell ⟨g, i, none⟩ u) B v E := by
 rcases h with h1 | ⟨g', m, h1, h2, h3, h4⟩
 ·exact .inl h1
 ·refine .inr ⟨g', m, h1, h2, (block_far ?_).trans h3, h4⟩
  rintro rfl
  rw [hb] at h3
  injection h3 with h3
  injection h3 with _ h3
  exact hne h3
theorem ErO.setT {w W : World} {B g : Nat} {x y : SaL} {t : TypeId} {v : Value} {E : List Int} (h : SB w g t x W) (hy : SaAt W y) (ho : ErO W B v E) (hne : t ≠ 60) : ErO (setS W g y) B v E := by
 have h0 := SB.setNow h y.now
 have y0 := SaAt.setB h.blk hy 0 (.int .i64 y.now)
 have o0 := ho.apart (i := 0) (u := .int .i64 y.now) h.blk hne
 have h1 := SB.setHor h0 y.hor
 have y1 := SaAt.setB h0.blk y0 1 (.int .i64 y.hor)
 have o1 := o0.apart (i := 1) (u := .int .i64 y.hor) h0.blk hne
 have h2 := SB.setOp h1 rfl y1.op y1.oc
 have y2 := SaAt.setB h1.blk y1 2 (.slice y.oa y.op.length y.oc)
 have o2 := o1.apart (i := 2) (u := .slice y.oa y.op.length y.oc) h1.blk hne
 have h3 := SB.setUs h2 rfl y2.us y2.uc
 have y3 := SaAt.setB h2.blk y2 3 (.slice y.ua y.us.length y.uc)
 have o3 := o2.apart (i := 3) (u := .slice y.ua y.us.length y.uc) h2.blk hne
 have h4 := SB.setSu h3 rfl y3.su y3.sc
 have o4 := o3.apart (i := 4) (u := .slice y.sa y.su.length y.sc) h3.blk hne
 exact o4.apart (i := 5) (u := .slice y.ta y.tb.length y.tc) h4.blk hne
theorem er_append (w : World) (B : Nat) (ty : TypeId) (v : Value) (E : List Int) (hE : ErO w B v E) (ad : Addr) (c : Nat) (n : Int) (hn : w.cell? ad = some (.int .i64 n)) (hlen : E.length ≤ 1000000) (hB : B ≤ w.heap.size) :
  ∃ v' w', (Builtin.append_ #[40, 40] ty #[v, .slice (some ad) 1 c]).run Tryz.prog w = .ok v' w' ∧ ErO w' B v' (E ++ [n]) ∧ Er12 w w' ∧ Below B w w' := by
 obtain ⟨i0, hi, hz0, hz1, hz2⟩ := info_parts infoErr
 have hnews : ∀ j u, ([Value.int .i64 n] : List Value)[j]? = some u → w.cell? (ad.add j) = some u := fun j u hu => by
  cases j with
  | zero => simp at hu; subst hu; rw [show ad.add 0 = ad from by unfold Addr.add; simp]; exact hn
  | succ j => simp at hu
 rcases hE with ⟨rfl, rfl⟩ | ⟨g, m, rfl, hg, hh, hm⟩
 ·have hr := run_append_nil (P := Tryz.prog) w 40 ty 60 i0 _ Tryz.underlying40 hi hz0 ad 1 c [.int .i64 n] (by rw [hz1]; rfl) hnews (by decide) (by decide) (by rw [hz2]; decide)
  have hge := grownCap_ge w 1 0 60
  have hle := grownCap_le_maxLen w 1 0 60 (by unfold maxLen; decide)
  refine ⟨_, _, hr, .inr ⟨w.heap.size, grownCap w 1 0 60 - 1, ?_, hB, ?_, ?_⟩, .inl ((Below.refl _ _).drew.alloc (Nat.le_refl _) _), (Below.refl _ _).drew.alloc hB _⟩
  ·have e : ([] ++ [n] : List Int).length + (grownCap w 1 0 60 - 1) = grownCap w 1 0 60 := by simp; omega
   rw [e]
   rfl
  ·have hn2 := heap_alloc_new w.drew (.cells (#[.int .i64 n] ++ Builtin.zeroCells (Value.int .i64 0).cells (grownCap w 1 0 60 - 1)) 60)
   have e : (#[.int .i64 n] ++ Builtin.zeroCells (Value.int .i64 0).cells (grownCap w 1 0 60 - 1) : Array Value) = (erc ([] ++ [n]) (grownCap w 1 0 60 - 1)).toArray := by
    apply Array.toList_inj.1
    rw [Array.toList_append, zero_cells]
    rfl
   rw [e] at hn2
   rw [← e] at hn2 ⊢
   exact hn2
  ·simp
   omega
 ·cases m with
  | zero =>
   have holds : ∀ j u, (ers E)[j]? = some u → w.cell? ((⟨g, 0, none⟩ : Addr).add j) = some u := fun j u hu => by
    rw [Go.WideShapes.add_plain, cell_of_row w g (0 + j) _ _ (0, 0) hh, Nat.zero_add]
    simp only [List.getElem?_toArray]
    unfold erc
    rw [List.getElem?_append_left (List.getElem?_eq_some_iff.1 hu).1]
    exact hu
   have hr := run_append_grow (P := Tryz.prog) w 40 ty 60 i0 _ Tryz.underlying40 hi hz0 ⟨g, 0, none⟩ E.length E.length (ers E) (by rw [hz1, ers_len]; omega) holds ad 1 c [.int .i64 n] (by rw [hz1]; rfl) hnews (by omega) (by omega) (growslice_fits (by omega) (by rw [hz2]; omega))
   have hge := grownCap_ge w (E.length + 1) E.length 60
   have hle := grownCap_le_maxLen w (E.length + 1) E.length 60 (by unfold maxLen; omega)
   refine ⟨_, _, hr, .inr ⟨w.heap.size, grownCap w (E.length + 1) E.length 60 - (E.length + 1), ?_, hB, ?_, ?_⟩, .inl ((Below.refl _ _).drew.alloc (Nat.le_refl _) _), (Below.refl _ _).drew.alloc hB _⟩
   ·rw [List.length_append, List.length_singleton, show E.length + 1 + (grownCap w (E.length + 1) E.length 60 - (E.length + 1)) = grownCap w (E.length + 1) E.length 60 by omega]
   ·have hn2 := heap_alloc_new w.drew (.cells ((ers E).toArray ++ #[.int .i64 n] ++ Builtin.zeroCells (Value.int .i64 0).cells (grownCap w (E.length + 1) E.length 60 - (E.length + 1))) 60)
    have e : ((ers E).toArray ++ #[.int .i64 n] ++ Builtin.zeroCells (Value.int .i64 0).cells (grownCap w (E.length + 1) E.length 60 - (E.length + 1)) : Array Value) = (erc (E ++ [n]) (grownCap w (E.length + 1) E.length 60 - (E.length + 1))).toArray := by
     apply Array.toList_inj.1
     rw [Array.toList_append, Array.toList_append, zero_cells, ← erc_more]
    rw [← e]
    exact hn2
   ·rw [List.length_append, List.length_singleton]
    omega
  | succ m =>
   have hsz : (erc E (m + 1)).toArray.size = E.length + (m + 1) := by simp [erc, ers]
   have hr := run_append_room (P := Tryz.prog) w 40 ty 60 i0 Tryz.underlying40 hi g E.length (E.length + (m + 1)) _ hh ad 1 c [.int .i64 n] (by rw [hz1]; rfl) hnews (by intro u hu; simp at hu; subst hu; rfl) (by omega) (by rw [hz1, hsz, Nat.mul_one]; show E.length + 1 ≤ _; omega)
   have e : ((erc E (m + 1)).toArray.toList.take (E.length * i0.size) ++ [Value.int .i64 n] ++ (erc E (m + 1)).toArray.toList.drop (E.length * i0.size + [Value.int .i64 n].length)).toArray = (erc (E ++ [n]) m).toArray := by
    rw [hz1, Nat.mul_one, ← erc_more]
    congr 1
    have e1 : (erc E (m + 1)).take E.length = ers E := by
     unfold erc
     rw [List.take_append_of_le_length (by rw [ers_len]; exact Nat.le_refl _), List.take_of_length_le (by rw [ers_len]; exact Nat.le_refl _)]
    have e2 : (erc E (m + 1)).drop (E.length + 1) = List.replicate m (.int .i64 0) := by
     unfold erc
     rw [show E.length + 1 = (ers E).length + 1 by rw [ers_len], List.drop_append, List.drop_of_length_le (by omega)]
     simp [List.replicate_succ]
    show (erc E (m + 1)).take E.length ++ _ ++ (erc E (m + 1)).drop (E.length + 1) = _
    rw [e1, e2]
   rw [e] at hr
   have hset := setRow_heap w g _ (erc (E ++ [n]) m).toArray 60 _ hh
   have hgb : w.grownBy (w.setRow g (erc (E ++ [n]) m).toArray) (some g) := ⟨rfl, rfl, rfl, by simp, fun k _ hk => setRow_other w g k _ (fun e => hk (by rw [e]))⟩
   refine ⟨_, _, hr, .inr ⟨g, m, ?_, hg, hset, ?_⟩, .inr ⟨g, E, m, n, hh, hset, hgb⟩, (Below.refl _ _).grown hgb hB (fun k hk => by injection hk with hk; omega)⟩
   ·rw [List.length_append, List.length_singleton, show E.length + 1 + m = E.length + (m + 1) by omega]
   ·rw [List.length_append, List.length_singleton]
    omega
theorem wpList_append_er (w : World) {ops : Array Oper} {rest : List Oper} {o : Oper} {a : Act} {Q : Exit → Act → World → Prop} (hgd : o.guard = none) (s x : Operand)
  (ho : o.op = .call { callee := .builtin .append, args := #[s, x], argTypes := #[40, 40] }) (B : Nat) (v : Value) (E : List Int) (hs : a.eval s = v) (hE : ErO w B v E) (ad : Addr) (c : Nat) (n : Int) (hx : a.eval x = .slice (some ad) 1 c) (hn : w.cell? ad = some (.int .i64 n)) (hlen : E.length ≤ 1000000) (hB : B ≤ w.heap.size)
  (h : ∀ v' w', ErO w' B v' (E ++ [n]) → Er12 w w' → Below B w w' → wpList Tryz.prog ops Q rest (a.put o.dst v') w') : wpList Tryz.prog ops Q (o :: rest) a w := by
 obtain ⟨v', w', hr, h1, h2, h3⟩ := er_append w B o.type v E hE ad c n hn hlen hB
 exact Lib.wpList_append_run w hgd s x _ _ ho _ _ hs hx v' w' hr (h v' w' h1 h2 h3)
structure FoK (w : World) (t : TypeId) (a : Option Addr) (l : List EvM) (q : SaL) (E : List Int) (v : Value) (W : World) : Prop where
 s : SB w w.heap.size t q W
 z : SB w (w.heap.size + 1) t saO W
 o : ErO W w.heap.size v E
 l : EvSl W a l
theorem FoK.below {w W W' : World} {t : TypeId} {a : Option Addr} {l : List EvM} {q : SaL} {E : List Int} {v : Value} (h : FoK w t a l q E v W) (qB : Below W.heap.size W W') : FoK w t a l q E v W' := ⟨h.s.below qB, h.z.below qB, h.o.below qB, h.l.below qB⟩
theorem FoK.take {w U : World} {t : TypeId} {a : Option Addr} {l : List EvM} {q y : SaL} {E : List Int} {v : Value} {g : Nat} {t' : TypeId} (h : FoK w t a l q E v U) (k : SB w g t' y U) (hne : t ≠ 60) : FoK w t a l y E v (setS U w.heap.size y) :=
 ⟨SB.set h.s k.at_, (SB.over h.s k.at_ h.z (Nat.ne_of_gt (Nat.lt_succ_self _))).2, ErO.setT h.s k.at_ h.o hne, evsl_setS h.s k.at_ h.l⟩
theorem FoK.more {w W W' : World} {t : TypeId} {a : Option Addr} {l : List EvM} {q : SaL} {E F : List Int} {v v' : Value} (h : FoK w t a l q E v W) (hr : RightS q.m) (ht : t ≠ 60) (ho : ErO W' w.heap.size v' F) (hg : Er12 W W') (hB : Below w.heap.size W W') : FoK w t a l q F v' W' :=
 ⟨h.s.er hg hr ht (h.s.frame.trans hB), h.z.er hg RightS.zero ht (h.s.frame.trans hB), ho, h.l.er hg⟩
def FoldsTo (w : World) (M : SaM) (E : List Int) (r : Ending) (w' : World) : Prop := ∃ y b c, r = .returned (.tuple #[saV y, .slice b E.length c]) ∧ SaAt w' y ∧ y.m = M ∧ ErSl w' b E ∧ E.length ≤ c ∧ c ≤ maxLen ∧ Below w.heap.size w w'
def FoldsTo2 (w : World) (M : SaM) (E : List Int) (r : Ending) (w' : World) : Prop := ∃ y b c, r = .returned (.tuple #[saV y, .slice b E.length c]) ∧ SaAt w' y ∧ y.m = M ∧ ErSl w' b E ∧ E.length ≤ c ∧ c ≤ maxLen ∧ Below w.heap.size w w' ∧ ∀ k o, b = some ⟨k, o, none⟩ → w.heap.size ≤ k
theorem FoldsTo2.one {w : World} {M : SaM} {E : List Int} {r : Ending} {w' : World} (h : FoldsTo2 w M E r w') : FoldsTo w M E r w' := by
 obtain ⟨y, b, c, e, h1, h2, h3, h4, h5, h6, -⟩ := h
 exact ⟨y, b, c, e, h1, h2, h3, h4, h5, h6⟩
def bo11 : ByteArray := ⟨#[98, 111, 98]⟩
theorem bo_name : nameB bo11 = true := by decide
def eV1 : EvM := ⟨1, 3, an11, no11, 1, 1⟩
theorem bE1 : errE saZ eV1 = 0 := aE1
theorem bG1 : goE saZ eV1 = sA1 := by have h := aT1; unfold tellS at h; rw [aE1, if_pos rfl] at h; exact h
theorem bC3 : cloR [⟨1, an11, 1, 3⟩] 1 an11 = [] := by unfold cloR; rw [if_pos aF.1, aF.2.2]; rfl
theorem evsl_lit (W : World) (l : List EvM) (xs : Array Value) (t : TypeId) (g : Nat) (hg : g = W.heap.size) (hx : xs.toList = evs l) : EvSl (W.alloc (.cells xs t)) (some ⟨g, 0, none⟩) l := fun k hk => by
 subst hg
 refine ⟨W.heap.size, 0, rfl, by rw [size1]; omega, fun i hi => ?_⟩
 have h := evs_get l k i hk hi
 rw [← hx, Array.getElem?_toList] at h
 rw [cell_of_row _ _ _ xs t (0, 0) (heap_alloc_new W _), show 0 + k * 6 + i = k * 6 + i by omega]
 exact h
def gV2 : EvM := ⟨4, 5, bo11, an11, 0, 0⟩
def gV3 : EvM := ⟨3, 9, an11, no11, 1, 0⟩
def sG2 : SaM := ⟨5, 0, [⟨1, an11, 1, 3⟩], [], [⟨bo11, an11, 5, 1099511627776⟩], []⟩
def sG3 : SaM := ⟨9, 0, [], [⟨an11, [⟨3, 9, 1, 1⟩]⟩], [⟨bo11, an11, 5, 1099511627776⟩], []⟩
theorem rvg2 : RightV 4 5 0 0 bo11 an11 := ⟨by decide, by decide, .inr (.inr (.inl ⟨.inl rfl, bo_name, an_name, rfl, rfl⟩))⟩
theorem rvg3 : RightV 3 9 1 0 an11 no11 := ⟨by decide, by decide, .inr (.inl ⟨rfl, by decide, by decide, an_name, rfl, rfl⟩)⟩
theorem gE2 : errE sA1 gV2 = 0 := by
 show errS sA1 4 5 0 0 bo11 an11 = 0
 unfold errS
 rw [if_pos rvg2, if_neg (by decide)]
 rfl
theorem gG2 : goE sA1 gV2 = sG2 := rfl
theorem gE3 : errE sG2 gV3 = 0 := by
 show errS sG2 3 9 1 0 an11 no11 = 0
 unfold errS
 rw [if_pos rvg3, if_neg (by decide)]
 exact aF.1
theorem gS3 : fndS [⟨1, an11, 1, 3⟩] 1 an11 9 = ⟨3, 9, 1, 1⟩ := by unfold fndS; rw [if_pos aF.1, aF.2.1]; rfl
theorem gG3 : goE sG2 gV3 = sG3 := by
 show SaM.mk 9 0 (cloR [⟨1, an11, 1, 3⟩] 1 an11) (addU [] an11 (fndS [⟨1, an11, 1, 3⟩] 1 an11 9)) [⟨bo11, an11, 5, 1099511627776⟩] [] = sG3
 rw [bC3, gS3]
 rfl
def l13 : List EvM := [eV1, gV2, gV3]
theorem l13_fold : foldE saZ l13 = sG3 := by
 show nxE (nxE (nxE saZ eV1) gV2) gV3 = sG3
 rw [nxE_ok bE1, bG1, nxE_ok gE2, gG2, nxE_ok gE3, gG3]
theorem l13_fits : FitsV l13 := fun e he => by
 unfold l13 at he
 simp only [List.mem_cons, List.mem_nil_iff, or_false] at he
 rcases he with rfl | rfl | rfl <;> exact ⟨show _ ≤ _ by decide, show _ ≤ _ by decide⟩
theorem sG3_right : RightS sG3 := by have h := right_fold l13 RightS.zero; rw [l13_fold] at h; exact h
theorem sG3_stays (n : Int) : staysS sG3 an11 n = [⟨3, 9, 1, 1⟩] := by
 have h := ofU_mem (l := [⟨an11, [⟨3, 9, 1, 1⟩]⟩]) sG3_right.ur (x := ⟨an11, [⟨3, 9, 1, 1⟩]⟩) (List.mem_singleton.2 rfl)
 show addsS (staysO [] an11 n) (ofU [⟨an11, [⟨3, 9, 1, 1⟩]⟩] an11) = _
 rw [h]
 rfl
theorem bo_an : bo11 ≠ an11 := fun h => absurd (congrArg (fun b : ByteArray => b.data.toList) h) (by decide)
theorem sG3_per : perS sG3.su bo11 an11 = [⟨5, 1099511627776⟩] := by
 have h : ofE bo11 an11 ⟨bo11, an11, 5, 1099511627776⟩ = true := ofE_iff.2 ⟨rfl, rfl⟩
 show ([(⟨bo11, an11, 5, 1099511627776⟩ : EnM)].filter (ofE bo11 an11)).map EnM.sp = _
 rw [List.filter_cons, if_pos h]
 rfl
theorem sG3_no : perS sG3.su an11 an11 = [] := by
 have h : ¬ ofE an11 an11 ⟨bo11, an11, 5, 1099511627776⟩ = true := fun h => bo_an (ofE_iff.1 h).1
 show ([(⟨bo11, an11, 5, 1099511627776⟩ : EnM)].filter (ofE an11 an11)).map EnM.sp = _
 rw [List.filter_cons, if_neg h]
 rfl
theorem sp_set {P : Int → Prop} {a b : Int} (h : a < b) (k : ∀ x, P x ↔ a ≤ x ∧ x < b) : IsSet P [⟨a, b⟩] :=
 ⟨⟨by simp [RowL]; omega, by simpa using h⟩, fun x => by rw [has_one, k]⟩
theorem why_g (n : Int) (p : ByteArray) (hp : nameB p = true) (hn : 9 ≤ n ∧ n < 1099511627776) : whyV sG3 p an11 n = 0 := by
 unfold whyV
 rw [if_pos ⟨hp, an_name⟩, if_neg]
 show ¬ (n < 9 ∨ 1099511627776 ≤ n)
 omega
theorem g_told1 {m : List StM} (h : GTold sG3 ⟨bo11, an11, 0, 8, 9⟩ m) : m = [⟨5, 8, 1, 1⟩] := by
 have h1 := h.1 (why_g 9 bo11 bo_name (by decide))
 have h2 : IsRange sG3 bo11 an11 0 8 9 [⟨5, 8, 1, 1⟩] := by
  refine ⟨[⟨5, 8⟩], sp_set (by decide) fun x => ?_, List.Perm.of_eq ?_, by simp [SortedS]⟩
  ·unfold gateP
   rw [sG3_per, has_one]
   show (5 ≤ x ∧ x < 1099511627776) ∧ (0 ≤ x ∧ x < 8) ∧ 0 ≤ x ∧ x < 1099511627776 ↔ _
   omega
  ·rw [sG3_stays]; rfl
 exact h1.only h2
theorem g_last1 {m : List StM} (h : GTold sG3 (everM bo11 an11 20) m) : m = [⟨5, 9, 1, 1⟩] := by
 have h1 := h.1 (why_g 20 bo11 bo_name (by decide))
 have h2 : IsRange sG3 bo11 an11 0 1099511627776 20 [⟨5, 9, 1, 1⟩] := by
  refine ⟨[⟨5, 1099511627776⟩], sp_set (by decide) fun x => ?_, List.Perm.of_eq ?_, by simp [SortedS]⟩
  ·unfold gateP
   rw [sG3_per, has_one]
   show (5 ≤ x ∧ x < 1099511627776) ∧ (0 ≤ x ∧ x < 1099511627776) ∧ 0 ≤ x ∧ x < 1099511627776 ↔ _
   omega
  ·rw [sG3_stays]; rfl
 exact h1.only h2
theorem g_last2 {m : List StM} (h : GTold sG3 (everM an11 an11 20) m) : m = [] := by
 have h1 := h.1 (why_g 20 an11 an_name (by decide))
 refine range_none (Or.inr fun x hx => ?_) h1
 rw [show perS sG3.su (everM an11 an11 20).w (everM an11 an11 20).u = [] from sG3_no] at hx
 exact HasL.nil hx
theorem g_why2 : whyV sG3 bo11 an11 8 = 130 := by
 unfold whyV
 rw [if_pos ⟨bo_name, an_name⟩, if_pos]
 exact Or.inl (by decide)
theorem g_why3 : whyV sG3 no11 no11 9 = 1 := by
 unfold whyV
 rw [if_neg (by decide)]
theorem g_sees5 : hasB (perS sG3.su bo11 an11) 5 = true := by rw [sG3_per]; rfl
theorem g_sees4 : hasB (perS sG3.su bo11 an11) 4 = false := by rw [sG3_per]; rfl
def movedU (D : List UsL) (j : Nat) (a : Option Addr) (c : Nat) : List UsL := D.set j { (D.getD j default) with a := a, c := c }
theorem movedU_len (D : List UsL) (j : Nat) (a : Option Addr) (c : Nat) : (movedU D j a c).length = D.length := by simp [movedU]
theorem movedU_m (D : List UsL) {j : Nat} (hj : j < D.length) (a : Option Addr) (c : Nat) : umS (movedU D j a c) = umS D := by
 unfold movedU umS
 rw [List.map_set]
 have e1 : (({ (D.getD j default) with a := a, c := c } : UsL)).m = (D.map UsL.m)[j]'(by rw [List.length_map]; exact hj) := by
  rw [List.getElem_map, List.getD_eq_getElem?_getD, List.getElem?_eq_getElem hj]
  rfl
 rw [e1, List.set_getElem_self]
structure OwK (w : World) (x : SaL) (B : Nat) (xu : Option Addr) (D : List UsL) (q : Nat) (W : World) : Prop where
 s : SB w w.heap.size 39 x W
 z : SB w (w.heap.size + 1) 39 saO W
 us : UsSl W xu D
 own : W.ownsRow B 108 2 (.slice xu D.length q) D.length (usv D)
theorem OwK.below {w W W' : World} {x : SaL} {B : Nat} {xu : Option Addr} {D : List UsL} {q : Nat} (h : OwK w x B xu D q W) (qB : Below W.heap.size W W') : OwK w x B xu D q W' := ⟨h.s.below qB, h.z.below qB, h.us.below qB, own_below h.own qB⟩
theorem OwK.store {w W : World} {x : SaL} {B gu : Nat} {D : List UsL} {q : Nat} (hx : SaAt w x) (hB : w.heap.size + 2 ≤ B) (h : OwK w x B (some ⟨gu, 0, none⟩) D q W) {j : Nat} (hj : j < D.length) {a : Option Addr} {c n : Nat} (hn : n = D[j].l.length) (hs : StSl W a D[j].l) (hc : Cp a D[j].l.length c) :
  OwK w x B (some ⟨gu, 0, none⟩) (movedU D j a c) q (W.setCell ⟨gu, j * 2 + 1, none⟩ (.slice a n c)) := by
 subst hn
 obtain ⟨h0, h1⟩ := usv_get hj
 have hp : W.cell? ⟨gu, j * 2 + 1, none⟩ = some (.slice D[j].a D[j].l.length D[j].c) := by rw [h.own.cellAt _ (by omega)]; exact h1
 have hlt := h.own.lt gu rfl
 have hset : (usv D).set (j * 2 + 1) (.slice a D[j].l.length c) = usv (movedU D j a c) := by
  unfold movedU
  rw [List.getD_eq_getElem?_getD, List.getElem?_eq_getElem hj, Option.getD_some, ← usv_set _ _ hj]
  congr 1
  have hl : j * 2 < (usv D).length := by rw [usv_len]; omega
  have e0 := h0
  rw [List.getElem?_eq_getElem hl] at e0
  rw [← Option.some.inj e0, List.set_getElem_self]
 have hst := (h.own.stored (j * 2 + 1) (.slice a D[j].l.length c)).1
 rw [hset] at hst
 have hown2 : (W.setCell ⟨gu, j * 2 + 1, none⟩ (.slice a D[j].l.length c)).ownsRow B 108 2 (.slice (some ⟨gu, 0, none⟩) (movedU D j a c).length q) (movedU D j a c).length (usv (movedU D j a c)) := by
  rw [movedU_len]
  exact hst
 have hf := h.s.frame.setCell (p := ⟨gu, j * 2 + 1, none⟩) (by show w.heap.size ≤ gu; omega) (.slice a D[j].l.length c)
 have hat : ∀ y ∈ movedU D j a c, UsAt (W.setCell ⟨gu, j * 2 + 1, none⟩ (.slice a D[j].l.length c)) y := fun y hy => by
  unfold movedU at hy
  rcases List.mem_or_eq_of_mem_set hy with h2 | rfl
  ·exact (h.us.at_ y h2).setC hp _
  ·have e : D.getD j default = D[j] := by rw [List.getD_eq_getElem?_getD, List.getElem?_eq_getElem hj, Option.getD_some]
   rw [e]
   exact ⟨hs.setC hp _, hc.le, hc.mx, hc.nil⟩
 refine ⟨⟨(block_far (by omega)).trans h.s.blk, h.s.ge, hf, hx.below hf⟩, ⟨(block_far (by omega)).trans h.z.blk, h.z.ge, hf, SaAt.zero _⟩, ⟨?_, hat⟩, hown2⟩
 obtain ⟨a', c', e1, e2, e3, e4, e5⟩ := own_us hown2
 have : some ⟨gu, 0, none⟩ = a' := by injection e1
 rw [this]
 exact e4
set_option maxHeartbeats 2000000 in
theorem own_any (x : SaL) (w : World) (h : SaAt w x) (hf : Few x.m 10000) :
  Calls Tryz.prog 70 #[saV x] w fun e w' => ∃ y, e = .returned (saV y) ∧ SaAt w' y ∧ y.m = x.m ∧ Below w.heap.size w w' := by
 obtain ⟨S0, Z0⟩ := two_SB h 39 39
 have HX := Lib.hid h
 obtain ⟨now, hor, oa, op, oc, ua, us, uc, sa, su, sc, ta, tb, tc⟩ := x
 have hsz : ((w.alloc (.cells (saC ⟨now, hor, oa, op, oc, ua, us, uc, sa, su, sc, ta, tb, tc⟩) 39)).alloc (.cells (saC saO) 39)).heap.size = w.heap.size + 2 := by rw [size1, size1]
 have HCO := Lib.hid (fun V (h : OpSl V oa op) (k : Cp oa op.length oc) => clone_op oa oc op V h k (Nat.le_trans hf.op (by decide)))
 have HCE := Lib.hid (fun V (h : EnSl V sa su) (k : Cp sa su.length sc) => clone_en sa sc su V h k (Nat.le_trans hf.su (by decide)))
 have HCT : Hid (∀ V, TbSl V ta tb → Cp ta tb.length tc → Calls Tryz.prog 142 #[.slice ta tb.length tc] V fun e w' => ∃ v, e = .returned v ∧ w'.ownsRow V.heap.size 141 2 v tb.length (tbv tb) ∧ Below V.heap.size V w') := fun V h k => by
  have := pclone_tb ta tc (tb.map tbp) (tbp_one tb) V h (by rw [List.length_map]; exact k) (by rw [List.length_map]; exact Nat.le_trans hf.tb (by decide))
  rw [List.length_map] at this
  exact this
 have hun : us.length ≤ 10000 := by have := hf.us; unfold SaL.m at this; simp only at this; rw [umS_len] at this; exact this
 have HCU := Lib.hid (fun V (h : UsSl V ua us) (k : Cp ua us.length uc) => pclone_us ua uc (us.map usp) (usp_one us) V h.row (by rw [List.length_map]; exact k) (by rw [List.length_map]; omega))
 rw [List.length_map] at HCU
 have HST : Hid (∀ y ∈ us, y.l.length ≤ 10000) := Lib.hid fun y hy => by
  have := hf.st y.m (List.mem_map_of_mem hy)
  exact this
 have HS := Lib.hid S0
 have HZ := Lib.hid Z0
 obtain ⟨c0, c1, c2, c3, c4, c5⟩ := S0.cells
 obtain ⟨wa, hwa⟩ : ∃ V, V = ((w.alloc (.cells (saC ⟨now, hor, oa, op, oc, ua, us, uc, sa, su, sc, ta, tb, tc⟩) 39)).alloc (.cells (saC saO) 39)) := ⟨_, rfl⟩
 unfold saV saC at *
 dsimp only at *
 clear S0 Z0 h hf
 go_enter Tryz.func70, Tryz.ntmps70
 go_wp2_with fail
 refine (HCU.out _ HS.out.at_.us HS.out.at_.uc).mono ?_
 rintro e w2 ⟨v, rfl, ho, hB⟩
 clear c0 c1 c2 c3 c4 c5
 obtain ⟨xu, qu, rfl, hlu, hmu, hru, hnu⟩ := own_us (D := us) ho
 have hBB : w.heap.size + 2 ≤ wa.heap.size := by rw [hwa]; exact Nat.le_of_eq hsz.symm
 have KO : OwK w ⟨now, hor, oa, op, oc, ua, us, uc, sa, su, sc, ta, tb, tc⟩ wa.heap.size xu us qu w2 := ⟨HS.out.below hB, HZ.out.below hB, ⟨hru, fun y hy => (HS.out.below hB).at_.us.at_ y hy⟩, by rw [hwa]; exact ho⟩
 have HKO := Lib.hid KO
 have HBB := Lib.hid hBB
 clear ho hB hru KO HS HZ HCU hsz hwa hBB
 generalize wa.heap.size = B at *
 go_wp2
 go_loopw [10] (fun iv wr => ∃ (j : Nat) (D : List UsL), j ≤ us.length ∧ iv = .int .i64 j ∧ Hid (D.length = us.length ∧ umS D = umS us) ∧ Hid (OwK w ⟨now, hor, oa, op, oc, ua, us, uc, sa, su, sc, ta, tb, tc⟩ B xu D qu wr)) (fun iv _ => us.length - (intOf iv).toNat)
 case atStart => exact ⟨0, us, by omega, rfl, Lib.hid ⟨rfl, rfl⟩, HKO⟩
 case round =>
  clear HKO
  obtain ⟨j, D, hj, rfl, HD, HK⟩ := hrel
  by_cases hjl : j < us.length
  ·have hw1 : IntKind.i64.wrap ((j : Int) + 1) = (j : Int) + 1 := IntWalk.i64_in _ (by omega)
   have hjD : j < D.length := by rw [HD.out.1]; exact hjl
   have hyl : D[j].l.length ≤ 10000 := by
    have e2 : (D[j]).m ∈ umS us := by rw [← HD.out.2]; exact List.mem_map_of_mem (List.getElem_mem hjD)
    obtain ⟨z, hz, e3⟩ := List.mem_map.1 e2
    have := HST.out z hz
    have e4 : z.l = D[j].l := congrArg UsM.l e3
    rw [← e4]; exact this
   obtain ⟨gu, hgu⟩ : ∃ gu, xu = some ⟨gu, 0, none⟩ := by
    rcases HK.out.own.2 with ⟨e2, hn0⟩ | ⟨gu, _, _, e2, _⟩
    ·omega
    ·injection e2 with e2; exact ⟨gu, e2⟩
   subst hgu
   obtain ⟨hg1, hg2⟩ := usv_get hjD
   have HFR : Hid (∀ V, OwK w ⟨now, hor, oa, op, oc, ua, us, uc, sa, su, sc, ta, tb, tc⟩ B (some ⟨gu, 0, none⟩) D qu V → V.cell? ⟨gu, j * 2 + 1, none⟩ = some (.slice D[j].a D[j].l.length D[j].c) ∧ V.frozen? ⟨gu, j * 2 + 1, none⟩ = false ∧ gu < V.heap.size) := Lib.hid fun V hu => ⟨by rw [hu.own.cellAt _ (by omega)]; exact hg2, hu.own.frozenAt _, (hu.own.lt gu rfl).2⟩
   have HCL := Lib.hid (fun V (h : StSl V D[j].a D[j].l) (k : Cp D[j].a D[j].l.length D[j].c) => clone_st D[j].a D[j].c D[j].l V h k (by omega))
   have HUA := Lib.hid (HK.out.us.at_ _ (List.getElem_mem hjD))
   have HSR := Lib.hid (fun V (h : OwK w ⟨now, hor, oa, op, oc, ua, us, uc, sa, su, sc, ta, tb, tc⟩ B (some ⟨gu, 0, none⟩) D qu V) (a : Option Addr) (c n : Nat) hn hs hc => h.store HX.out HBB.out hjD (a := a) (c := c) (n := n) hn hs hc)
   have HDN : Hid (∀ a c, (movedU D j a c).length = us.length ∧ umS (movedU D j a c) = umS us) := Lib.hid fun a c => ⟨(movedU_len D j a c).trans HD.out.1, (movedU_m D hjD a c).trans HD.out.2⟩
   have hdl : D.length = us.length := HD.out.1
   obtain ⟨r1, r2, r3⟩ := HFR.out _ HK.out
   clear hg1 hg2 HD HST
   generalize D[j] = z at *
   go_wp2_with fail
   refine (HCL.out _ HUA.out.st ⟨HUA.out.le, HUA.out.mx, HUA.out.nil⟩).mono ?_
   rintro e w3 ⟨v3, rfl, o3, h3⟩
   clear r1 r2 r3
   obtain ⟨x3, q3, rfl, i3, j3, k3, l3⟩ := own_st o3
   have K3 := HK.out.below h3
   obtain ⟨r1, r2, r3⟩ := HFR.out _ K3
   have HN := Lib.hid (HSR.out _ K3 x3 q3 _ rfl k3 ⟨i3, j3, l3⟩)
   clear HFR HCL HUA HSR HK K3 o3 k3 i3 j3 l3 h3
   go_wp2
   go_roundw
   case rel => exact ⟨j + 1, _, by omega, by go_num, HDN.out x3 q3, HN.out⟩
   case measure => simp [intOf]; omega
  ·obtain rfl : j = us.length := by omega
   have hdl := HD.out.1
   have HUM := Lib.hid HD.out.2
   have HCP : Hid (Cp xu D.length qu) := Lib.hid (by rw [hdl]; exact ⟨hlu, hmu, hnu⟩)
   have HSC : Hid (∀ V, OwK w ⟨now, hor, oa, op, oc, ua, us, uc, sa, su, sc, ta, tb, tc⟩ B xu D qu V → V.cell? ⟨w.heap.size, 0, none⟩ = some (.int .i64 now) ∧ V.cell? ⟨w.heap.size, 1, none⟩ = some (.int .i64 hor) ∧ V.cell? ⟨w.heap.size, 2, none⟩ = some (.slice oa op.length oc) ∧ V.cell? ⟨w.heap.size, 3, none⟩ = some (.slice ua us.length uc) ∧ V.cell? ⟨w.heap.size, 4, none⟩ = some (.slice sa su.length sc) ∧ V.cell? ⟨w.heap.size, 5, none⟩ = some (.slice ta tb.length tc)) := Lib.hid fun V h => h.s.cells
   have HS2 : Hid (∀ V, SB w w.heap.size 39 ⟨now, hor, oa, op, oc, ua, us, uc, sa, su, sc, ta, tb, tc⟩ V → V.cell? ⟨w.heap.size, 0, none⟩ = some (.int .i64 now) ∧ V.cell? ⟨w.heap.size, 1, none⟩ = some (.int .i64 hor) ∧ V.cell? ⟨w.heap.size, 2, none⟩ = some (.slice oa op.length oc) ∧ V.cell? ⟨w.heap.size, 3, none⟩ = some (.slice ua us.length uc) ∧ V.cell? ⟨w.heap.size, 4, none⟩ = some (.slice sa su.length sc) ∧ V.cell? ⟨w.heap.size, 5, none⟩ = some (.slice ta tb.length tc)) := Lib.hid fun V h => h.cells
   have HBL : Hid (∀ V V', OwK w ⟨now, hor, oa, op, oc, ua, us, uc, sa, su, sc, ta, tb, tc⟩ B xu D qu V → Below V.heap.size V V' → OwK w ⟨now, hor, oa, op, oc, ua, us, uc, sa, su, sc, ta, tb, tc⟩ B xu D qu V') := Lib.hid fun V V' h q => h.below q
   obtain ⟨k0, k1, k2, k3, k4, k5⟩ := HSC.out _ HK.out
   have K0 := HK.out.below (Below.refl _ _).drew
   clear HST HD HK hj hjl hlu hmu hnu HBB
   go_wp2_with fail
   go_region_held3 (fun V => V.cell? ⟨w.heap.size, 0, none⟩ = some (.int .i64 now) ∧ V.cell? ⟨w.heap.size, 1, none⟩ = some (.int .i64 hor) ∧ V.cell? ⟨w.heap.size, 2, none⟩ = some (.slice oa op.length oc) ∧ V.cell? ⟨w.heap.size, 3, none⟩ = some (.slice ua us.length uc) ∧ V.cell? ⟨w.heap.size, 4, none⟩ = some (.slice sa su.length sc) ∧ V.cell? ⟨w.heap.size, 5, none⟩ = some (.slice ta tb.length tc))
    (first | with_reducible exact HS2.out _ KT | with_reducible exact HSC.out _ K3 | with_reducible exact HSC.out _ K2 | with_reducible exact HSC.out _ K1 | with_reducible exact HSC.out _ K0)
    (first | (have hseen := K2; clear hseen; go_at_call 142; refine (HCT.out _ K2.s.at_.tb K2.s.at_.tc).mono ?_; rintro r v3 ⟨y3, rfl, o3, h3⟩; obtain ⟨x3, q3, rfl, i3, j3, p3, l3⟩ := own_tb o3; have T3 := Cp.mk i3 j3 l3; have p1'' := p1'.below h3; have p2' := p2.below h3; have K3 := HBL.out _ _ K2 h3; have YY : SaAt v3 ⟨now, hor, x1, op, q1, xu, D, qu, x2, su, q2, x3, tb, q3⟩ := ⟨p1'', K3.us, p2', p3, T1, HCP.out, T2, T3⟩; have hF := K3.z.set YY; have KT := (SB.over K3.z YY K3.s (Nat.ne_of_lt (Nat.lt_succ_self _))).2; have hL := loadS6 hF.blk; have hFN := And.intro hF.at_ hF.frame; unfold setS saV saC at hL; unfold setS at KT hFN; dsimp only at hL KT hFN; rw [hdl] at hL KT hFN; have HL := Lib.hid hL; have HFN := Lib.hid hFN; clear hFN; obtain ⟨z0, z1, z2, z3, z4, z5⟩ := K3.z.cells; obtain ⟨f0, f1, f2, f3, f4, f5⟩ := K3.z.free; have hzl := K3.z.lt; unfold saO at z0 z1 z2 z3 z4 z5; dsimp only [List.length_nil] at z0 z1 z2 z3 z4 z5) | (have hseen := K1; clear hseen; go_at_call 141; refine (HCE.out _ K1.s.at_.su K1.s.at_.sc).mono ?_; rintro r v2 ⟨y2, rfl, o2, h2⟩; obtain ⟨x2, q2, rfl, i2, j2, p2, l2⟩ := own_en o2; have T2 := Cp.mk i2 j2 l2; have p1' := p1.below h2; have K2 := HBL.out _ _ K1 h2) | (have hseen := K0; clear hseen; go_at_call 140; refine (HCO.out _ K0.s.at_.op K0.s.at_.oc).mono ?_; rintro r v1 ⟨y1, rfl, o1, h1⟩; obtain ⟨x1, q1, rfl, i1, j1, p1, l1⟩ := own_op o1; have T1 := Cp.mk i1 j1 l1; have K1 := HBL.out _ _ K0 h1))
   all_goals
    clear K0 K1 K2 K3 KT hF hL YY HSC HS2 HBL k0 k1 k2 k3 k4 k5 z0 z1 z2 z3 z4 z5 f0 f1 f2 f3 f4 f5 hzl p1 p1' p1'' p2 p2' p3 T1 T2 T3 o1 o2 o3 h1 h2 h3 i1 i2 i3 j1 j2 j3 l1 l2 l3 HCO HCE HCT HCP
    go_wp2
    refine bodyPost_ret (v := saV ⟨now, hor, x1, op, q1, xu, D, qu, x2, su, q2, x3, tb, q3⟩) ?_ rfl ⟨⟨now, hor, x1, op, q1, xu, D, qu, x2, su, q2, x3, tb, q3⟩, rfl, HFN.out.1, by unfold SaL.m; dsimp only; rw [HUM.out], HFN.out.2⟩
    rw [results_cell1 rfl]
    unfold saV saC
    dsimp only
    rw [hdl]
    simp [asAddr, Result.andThen, HL.out]
end Go.Proofs.YtmfpjapiijgdgaaGreat
namespace Go.Proofs.YtmfpjapiijgdgaaGreat
open Go.RowKit Go.Proofs
set_option linter.unusedVariables false
set_option maxRecDepth 100000
set_option maxRecDepth 100000
set_option maxHeartbeats 2000000 in
theorem rcount_any (x : SaL) (w : World) (h : SaAt w x) (hs : stCnt x.m ≤ 10000000) (hu : x.us.length ≤ 10000000) :
  Calls Tryz.prog 65 #[saV x] w fun e w' => e = .returned (.int .i64 (stCnt x.m : Nat)) ∧ Below w.heap.size w w' := by
 have S0 := SB.new (Below.refl w.heap.size w) h 27
 obtain ⟨c0, c1, c2, c3, c4, c5⟩ := S0.cells
 have hs2 : x.op.length + x.su.length + x.tb.length + cntU (umS x.us) ≤ 10000000 := hs
 have HE : Hid (stCnt x.m = x.op.length + x.su.length + x.tb.length + cntU (umS x.us)) := rfl
 have hw1 : IntKind.i64.wrap ((x.op.length : Int) + (x.su.length : Int)) = (x.op.length : Int) + (x.su.length : Int) := by rw [IntWalk.i64_in] <;> omega
 have hw2 : IntKind.i64.wrap ((x.op.length : Int) + (x.su.length : Int) + (x.tb.length : Int)) = ((x.op.length + x.su.length + x.tb.length : Nat) : Int) := by rw [IntWalk.i64_in] <;> omega
 have HU := Lib.hid S0.at_.us
 have HFR := Lib.hid S0.frame
 have HT := Lib.hid (fun j (hj : j < (umS x.us).length) => cntU_take (umS x.us) j hj)
 have HL := Lib.hid (umS_len x.us)
 have HLE : Hid (∀ j, cntU ((umS x.us).take j) ≤ cntU (umS x.us)) := fun j => by
  have := cntU_append ((umS x.us).take j) ((umS x.us).drop j)
  rw [List.take_append_drop] at this
  omega
 have HM : Hid (∀ j (h1 : j < x.us.length) (h2 : j < (umS x.us).length), ((umS x.us)[j]).l.length = x.us[j].l.length) := fun j h1 h2 => by simp [umS, UsL.m]
 unfold saV saC at *
 clear h hs S0
 obtain ⟨n0, hn0⟩ : ∃ n0, n0 = x.op.length + x.su.length + x.tb.length := ⟨_, rfl⟩
 rw [← hn0] at hw2 hs2 HE
 generalize x.ua = ua at *
 go_enter Tryz.func65, Tryz.ntmps65
 go_wp2
 go_loopw [3, 4] (fun v i wr => ∃ (j s : Nat), j ≤ x.us.length ∧ i = .int .i64 j ∧ v = .int .i64 s ∧ s ≤ 10000000 ∧ Hid (s = n0 + cntU ((umS x.us).take j)) ∧ wr = w.alloc (.cells #[.int .i64 x.now, .int .i64 x.hor, .slice x.oa x.op.length x.oc, .slice ua x.us.length x.uc, .slice x.sa x.su.length x.sc, .slice x.ta x.tb.length x.tc] 27)) (fun _ i _ => x.us.length - (intOf i).toNat)
 case atStart => exact ⟨0, n0, by omega, rfl, congrArg (Value.int .i64) (by omega), by omega, by simp [Hid, cntU], rfl⟩
 case round =>
  obtain ⟨j, s, hj, rfl, rfl, hsm, HSS, rfl⟩ := hrel
  by_cases hjl : j < x.us.length
  ·obtain ⟨b, off, rfl, hbl, hc0, hc1, -⟩ := HU.out.get hjl
   have hnx : s + x.us[j].l.length ≤ 10000000 := by
    have h1 := HT.out j (by rw [HL.out]; exact hjl)
    have h2 := HLE.out (j + 1)
    have h3 := HSS.out
    have h4 := HM.out j hjl (by rw [HL.out]; exact hjl)
    omega
   have HN : Hid (s + x.us[j].l.length = n0 + cntU ((umS x.us).take (j + 1))) := by
    have h1 := HT.out j (by rw [HL.out]; exact hjl)
    have h3 := HSS.out
    have h4 := HM.out j hjl (by rw [HL.out]; exact hjl)
    unfold Hid
    omega
   clear HM HLE HT HSS
   generalize x.us[j] = y at *
   have hwr : IntKind.i64.wrap ((s : Int) + (y.l.length : Int)) = ((s + y.l.length : Nat) : Int) := by rw [IntWalk.i64_in] <;> omega
   go_wp2
   go_roundw
   case rel => exact ⟨j + 1, s + y.l.length, by omega, by go_num, by first | rfl | go_num, hnx, HN, by first | rfl | trivial⟩
   case measure => simp [intOf]; omega
  ·obtain rfl : j = x.us.length := by omega
   have hE2 : s = stCnt x.m := by
    have h3 := HSS.out
    rw [List.take_of_length_le (by rw [HL.out]; exact Nat.le_refl _)] at h3
    rw [HE.out]
    exact h3
   have HE2 := Lib.hid hE2
   clear hE2 HM HLE HT HSS
   go_wp2
   go_ret
   exact ⟨by rw [← HE2.out]; rfl, HFR.out⟩
def latS (op : List OpM) (now n : Int) : Int := if h : op.findIdx (hasN n) < op.length then op[op.findIdx (hasN n)].f else now
def v4 (a b c d : Int) (i : Nat) : Int := if i = 0 then a else if i = 1 then b else if i = 2 then c else d
def stayB (s : SaM) (x : StM) : Bool := wiB (v4 x.f x.t x.n x.s) (v4 0 0 1 1) (v4 s.now (latS s.op s.now x.n) 999 4)
def staysB (s : SaM) (l : List StM) : Bool := decide (0 < l.length) && (decide (RiseS l) && l.all (stayB s))
def timesB (s : SaM) (e : EnM) : Bool := decide (0 ≤ e.f) && (decide (e.f ≤ s.now) && (decide (e.t ≤ s.now) || (e.t == 1099511627776)))
def tombB (s : SaM) (x : TbM) : Bool := decide (0 ≤ x.a) && decide (x.a ≤ s.now)
def fromB (s : SaM) (e : OpM) : Bool := decide (e.f ≤ s.now)
def y3 (oa ua sa ta : Option Addr) (oc uc sc tc : Nat) : SaL := ⟨9, 0, oa, [], oc, ua, [], uc, sa, [], sc, ta, [⟨an11, 9⟩], tc⟩
def y4 (oa ua sa ta a : Option Addr) (oc uc sc tc c : Nat) : SaL := ⟨7, 0, oa, [], oc, ua, [⟨an11, a, [⟨3, 7, 1, 1⟩], c⟩], uc, sa, [], sc, ta, [], tc⟩
end Go.Proofs.YtmfpjapiijgdgaaGreat
namespace Go.Proofs.YtmfpjapiijgdgaaGreat
open Go.ChangeShapes Go.WideShapes Go.ChangeAt Go.RowKit
set_option linter.unusedVariables false
set_option maxRecDepth 100000
set_option maxRecDepth 100000
theorem array6 {α : Type} {cs : Array α} (h : cs.size = 6) : ∃ c0 c1 c2 c3 c4 c5, cs = #[c0, c1, c2, c3, c4, c5] := by
 obtain ⟨l⟩ := cs
 match l, h with
 | [c0, c1, c2, c3, c4, c5], _ => exact ⟨c0, c1, c2, c3, c4, c5, rfl⟩
section
variable {H : Type} {enc : TypeId × Value → H} {P : Program} {w : World} {base : Nat} {spare : Nat → Bool} {held : Bool}
theorem trod_six {e : TypeId} {f0 f1 f2 f3 f4 f5 : Field} {fuel : Nat} {v0 v1 v2 v3 v4 v5 : Value} {x : DataW H × List MemPlace} (he : P.underlying e = some (.struct #[f0, f1, f2, f3, f4, f5]))
  (o0 : f0.offset = 0) (o1 : f1.offset = 1) (o2 : f2.offset = 2) (o3 : f3.offset = 3) (o4 : f4.offset = 4) (o5 : f5.offset = 5) (c0 : P.cellsOf f0.type = 1) (c1 : P.cellsOf f1.type = 1) (c2 : P.cellsOf f2.type = 1) (c3 : P.cellsOf f3.type = 1) (c4 : P.cellsOf f4.type = 1) (c5 : P.cellsOf f5.type = 1)
  (h : DataW.trod enc P w base spare held fuel e [v0, v1, v2, v3, v4, v5] = some x) :
  ∃ (y0 y1 y2 y3 y4 y5 : DataW H × List MemPlace) (n : Nat), x.1 = .agg [y0.1, y1.1, y2.1, y3.1, y4.1, y5.1] ∧ DataW.trod enc P w base spare held n f0.type [v0] = some y0 ∧ DataW.trod enc P w base spare held n f1.type [v1] = some y1 ∧ DataW.trod enc P w base spare held n f2.type [v2] = some y2 ∧ DataW.trod enc P w base spare held n f3.type [v3] = some y3 ∧ DataW.trod enc P w base spare held n f4.type [v4] = some y4 ∧ DataW.trod enc P w base spare held n f5.type [v5] = some y5 := by
 obtain ⟨xs, k, _, rfl, _, hxl, hf⟩ := DataW.trod_struct he h
 match xs, hxl with
 | [y0, y1, y2, y3, y4, y5], _ =>
  have g0 := hf 0 f0 rfl
  have g1 := hf 1 f1 rfl
  have g2 := hf 2 f2 rfl
  have g3 := hf 3 f3 rfl
  have g4 := hf 4 f4 rfl
  have g5 := hf 5 f5 rfl
  simp [o0, c0, o1, c1, o2, c2, o3, c3, o4, c4, o5, c5] at g0 g1 g2 g3 g4 g5
  exact ⟨y0, y1, y2, y3, y4, y5, k, rfl, g0, g1, g2, g3, g4, g5⟩
end
def FitsT (l : List StM) : Prop := ∀ s ∈ l, I64 s.f ∧ I64 s.t
section
variable {H : Type} {enc : TypeId × Value → H} {P : Program} {w : World} {base : Nat} {spare : Nat → Bool} {held : Bool}
theorem open_quads {t e : TypeId} {f0 f1 f2 f3 : Field} {fuel : Nat} {cs : List Value} {x : DataW H × List MemPlace} (ht : P.underlying t = some (.slice e)) (he : P.underlying e = some (.struct #[f0, f1, f2, f3]))
  (ce : P.cellsOf e = 4) (o0 : f0.offset = 0) (o1 : f1.offset = 1) (o2 : f2.offset = 2) (o3 : f3.offset = 3) (c0 : P.cellsOf f0.type = 1) (c1 : P.cellsOf f1.type = 1) (c2 : P.cellsOf f2.type = 1) (c3 : P.cellsOf f3.type = 1)
  (h : DataW.trod enc P w base spare held fuel t cs = some x) :
  (cs = [.slice none 0 0] ∧ x = (.nil, [])) ∨
  ∃ (a : Addr) (len cap : Nat), cs = [.slice (some a) len cap] ∧ len ≤ cap ∧ cap ≤ maxLen ∧
   ∀ i, i < len → ∃ (v0 v1 v2 v3 : Value) (y0 y1 y2 y3 : DataW H × List MemPlace) (n : Nat), w.cell? (a.add (i * 4)) = some v0 ∧ w.cell? (a.add (i * 4 + 1)) = some v1 ∧ w.cell? (a.add (i * 4 + 2)) = some v2 ∧ w.cell? (a.add (i * 4 + 3)) = some v3 ∧
    DataW.trod enc P w base spare held n f0.type [v0] = some y0 ∧ DataW.trod enc P w base spare held n f1.type [v1] = some y1 ∧ DataW.trod enc P w base spare held n f2.type [v2] = some y2 ∧ DataW.trod enc P w base spare held n f3.type [v3] = some y3 := by
 rcases Go.Deep.open_slice ht h with h0 | ⟨a, len, cap, m, n, D, Pl, rfl, hb, hl, hm, hmm, rfl, hx⟩
 ·exact Or.inl h0
 right
 have hlm : len ≤ m := by rw [hmm]; split <;> omega
 refine ⟨a, len, cap, rfl, hl, hm, fun i hi => ?_⟩
 obtain ⟨cs', h1, h2⟩ := hx i (by omega)
 rw [ce] at h1
 obtain ⟨_, hlen, hcell⟩ := World.cells?_some h1
 obtain ⟨xs, k, hk, hxy, _, hxl, hf⟩ := DataW.trod_struct he h2
 match xs, hxl, cs', hlen with
 | [y0, y1, y2, y3], _, [v0, v1, v2, v3], _ =>
  have g0 := hf 0 f0 rfl
  have g1 := hf 1 f1 rfl
  have g2 := hf 2 f2 rfl
  have g3 := hf 3 f3 rfl
  simp [o0, o1, o2, o3, c0, c1, c2, c3] at g0 g1 g2 g3
  have e0 := hcell 0 (by omega)
  have e1 := hcell 1 (by omega)
  have e2 := hcell 2 (by omega)
  have e3 := hcell 3 (by omega)
  rw [Go.Deep.add_add] at e0 e1 e2 e3
  exact ⟨v0, v1, v2, v3, y0, y1, y2, y3, k, by simpa using e0, by simpa using e1, by simpa using e2, by simpa using e3, g0, g1, g2, g3⟩
end
theorem stFields : ∃ f0 f1 f2 f3 : Field, Tryz.prog.underlying 104 = some (.struct #[f0, f1, f2, f3]) ∧ f0.offset = 0 ∧ f1.offset = 1 ∧ f2.offset = 2 ∧ f3.offset = 3 ∧ f0.type = 3 ∧ f1.type = 3 ∧ f2.type = 3 ∧ f3.type = 3 := ⟨_, _, _, _, Tryz.underlying104, rfl, rfl, rfl, rfl, rfl, rfl, rfl, rfl⟩
theorem read_stays {H : Type} {enc : TypeId × Value → H} {W : World} {n : Nat} {cs : List Value} {x : DataW H × List MemPlace}
  (h : DataW.trod enc Tryz.prog W 0 (fun _ => true) true n 67 cs = some x) :
  ∃ (a : Option Addr) (c : Nat) (l : List StM), cs = [.slice a l.length c] ∧ StSl W a l ∧ FitsT l ∧ l.length ≤ c ∧ c ≤ maxLen ∧ (a = none → c = 0) := by
 obtain ⟨f0, f1, f2, f3, he, o0, o1, o2, o3, t0, t1, t2, t3⟩ := stFields
 have ci : Tryz.prog.cellsOf 3 = 1 := by kernel_rfl
 rcases open_quads Tryz.underlying67 he (by kernel_rfl) o0 o1 o2 o3 (by rw [t0]; exact ci) (by rw [t1]; exact ci) (by rw [t2]; exact ci) (by rw [t3]; exact ci) h with ⟨rfl, _⟩ | ⟨a, len, cap, rfl, hl, hm, hx⟩
 ·exact ⟨none, 0, [], rfl, StSl.nil _ _, (fun s hs => by cases hs), by simp, by decide, fun _ => rfl⟩
 ·have each : ∀ i, i < len → ∃ x : StM, W.cell? (a.add (i * 4)) = some (.int .i64 x.f) ∧ W.cell? (a.add (i * 4 + 1)) = some (.int .i64 x.t) ∧ W.cell? (a.add (i * 4 + 2)) = some (.int .i64 x.n) ∧ W.cell? (a.add (i * 4 + 3)) = some (.int .i64 x.s) ∧ I64 x.f ∧ I64 x.t := fun i hi => by
   obtain ⟨v0, v1, v2, v3, y0, y1, y2, y3, n, k0, k1, k2, k3, g0, g1, g2, g3⟩ := hx i hi
   rw [t0] at g0
   rw [t1] at g1
   rw [t2] at g2
   rw [t3] at g3
   obtain ⟨z0, e0, _, w0⟩ := DataW.trod_int Tryz.underlying3 g0
   obtain ⟨z1, e1, _, w1⟩ := DataW.trod_int Tryz.underlying3 g1
   obtain ⟨z2, e2, _, w2⟩ := DataW.trod_int Tryz.underlying3 g2
   obtain ⟨z3, e3, _, w3⟩ := DataW.trod_int Tryz.underlying3 g3
   simp at e0 e1 e2 e3
   exact ⟨⟨z0, z1, z2, z3⟩, by rw [k0, e0], by rw [k1, e1], by rw [k2, e2], by rw [k3, e3], wf64 w0, wf64 w1⟩
  have some_x : ∃ f : Nat → StM, ∀ i, i < len → W.cell? (a.add (i * 4)) = some (.int .i64 (f i).f) ∧ W.cell? (a.add (i * 4 + 1)) = some (.int .i64 (f i).t) ∧ W.cell? (a.add (i * 4 + 2)) = some (.int .i64 (f i).n) ∧ W.cell? (a.add (i * 4 + 3)) = some (.int .i64 (f i).s) ∧ I64 (f i).f ∧ I64 (f i).t := by
   refine ⟨fun i => if h : i < len then (each i h).choose else ⟨0, 0, 0, 0⟩, fun i hi => ?_⟩
   simp only [hi, ↓reduceDIte]
   exact (each i hi).choose_spec
  obtain ⟨f, hf2⟩ := some_x
  have hlen : ((List.range len).map f).length = len := by simp
  refine ⟨some a, cap, (List.range len).map f, by rw [hlen], fun k hk => ?_, fun x hxm => ?_, by omega, hm, fun h => by cases h⟩
  ·rw [hlen] at hk
   obtain ⟨b, off, spot⟩ := a
   have h0 := (hf2 0 (by omega)).1
   have hspot : spot = none := by simpa [Addr.add] using World.cell?_spot h0
   subst hspot
   obtain ⟨g0, g1, g2, g3, _⟩ := hf2 k (by omega)
   rw [Go.WideShapes.add_plain] at g0 g1 g2 g3
   simp only [List.getElem_map, List.getElem_range]
   exact ⟨b, off, rfl, World.block_lt_of_cell? W ⟨b, off + k * 4, none⟩ g0, g0, g1, g2, g3⟩
  ·obtain ⟨i, hi, rfl⟩ := List.mem_map.1 hxm
   exact (hf2 i (by have := List.mem_range.1 hi; omega)).2.2.2.2
theorem opFields : ∃ f0 f1 f2 f3 : Field, Tryz.prog.underlying 129 = some (.struct #[f0, f1, f2, f3]) ∧ f0.offset = 0 ∧ f1.offset = 1 ∧ f2.offset = 2 ∧ f3.offset = 3 ∧ f0.type = 3 ∧ f1.type = 9 ∧ f2.type = 3 ∧ f3.type = 3 := ⟨_, _, _, _, Tryz.underlying129, rfl, rfl, rfl, rfl, rfl, rfl, rfl, rfl⟩
theorem read_sess {H : Type} {enc : TypeId × Value → H} {W : World} {n : Nat} {cs : List Value} {x : DataW H × List MemPlace}
  (h : DataW.trod enc Tryz.prog W 0 (fun _ => true) true n 22 cs = some x) :
  ∃ (a : Option Addr) (c : Nat) (l : List OpM), cs = [.slice a l.length c] ∧ OpSl W a l ∧ SzO l ∧ l.length ≤ c ∧ c ≤ maxLen ∧ (a = none → c = 0) := by
 obtain ⟨f0, f1, f2, f3, he, o0, o1, o2, o3, t0, t1, t2, t3⟩ := opFields
 have ci : Tryz.prog.cellsOf 3 = 1 := by kernel_rfl
 have cs' : Tryz.prog.cellsOf 9 = 1 := by kernel_rfl
 rcases open_quads Tryz.underlying22 he (by kernel_rfl) o0 o1 o2 o3 (by rw [t0]; exact ci) (by rw [t1]; exact cs') (by rw [t2]; exact ci) (by rw [t3]; exact ci) h with ⟨rfl, _⟩ | ⟨a, len, cap, rfl, hl, hm, hx⟩
 ·exact ⟨none, 0, [], rfl, OpSl.nil _ _, (fun s hs => by cases hs), by simp, by decide, fun _ => rfl⟩
 ·have each : ∀ i, i < len → ∃ x : OpM, W.cell? (a.add (i * 4)) = some (.int .i64 x.n) ∧ W.cell? (a.add (i * 4 + 1)) = some (.string x.u) ∧ W.cell? (a.add (i * 4 + 2)) = some (.int .i64 x.s) ∧ W.cell? (a.add (i * 4 + 3)) = some (.int .i64 x.f) ∧ x.u.size ≤ maxLen := fun i hi => by
   obtain ⟨v0, v1, v2, v3, y0, y1, y2, y3, n, k0, k1, k2, k3, g0, g1, g2, g3⟩ := hx i hi
   rw [t0] at g0
   rw [t1] at g1
   rw [t2] at g2
   rw [t3] at g3
   obtain ⟨z0, e0, _, w0⟩ := DataW.trod_int Tryz.underlying3 g0
   obtain ⟨z1, e1, _, w1⟩ := DataW.trod_string Tryz.underlying9 g1
   obtain ⟨z2, e2, _, w2⟩ := DataW.trod_int Tryz.underlying3 g2
   obtain ⟨z3, e3, _, w3⟩ := DataW.trod_int Tryz.underlying3 g3
   simp at e0 e1 e2 e3
   exact ⟨⟨z0, z1, z2, z3⟩, by rw [k0, e0], by rw [k1, e1], by rw [k2, e2], by rw [k3, e3], w1⟩
  have some_x : ∃ f : Nat → OpM, ∀ i, i < len → W.cell? (a.add (i * 4)) = some (.int .i64 (f i).n) ∧ W.cell? (a.add (i * 4 + 1)) = some (.string (f i).u) ∧ W.cell? (a.add (i * 4 + 2)) = some (.int .i64 (f i).s) ∧ W.cell? (a.add (i * 4 + 3)) = some (.int .i64 (f i).f) ∧ (f i).u.size ≤ maxLen := by
   refine ⟨fun i => if h : i < len then (each i h).choose else opZ, fun i hi => ?_⟩
   simp only [hi, ↓reduceDIte]
   exact (each i hi).choose_spec
  obtain ⟨f, hf2⟩ := some_x
  have hlen : ((List.range len).map f).length = len := by simp
  refine ⟨some a, cap, (List.range len).map f, by rw [hlen], fun k hk => ?_, fun x hxm => ?_, by omega, hm, fun h => by cases h⟩
  ·rw [hlen] at hk
   obtain ⟨b, off, spot⟩ := a
   have h0 := (hf2 0 (by omega)).1
   have hspot : spot = none := by simpa [Addr.add] using World.cell?_spot h0
   subst hspot
   obtain ⟨g0, g1, g2, g3, _⟩ := hf2 k (by omega)
   rw [Go.WideShapes.add_plain] at g0 g1 g2 g3
   simp only [List.getElem_map, List.getElem_range]
   exact ⟨b, off, rfl, World.block_lt_of_cell? W ⟨b, off + k * 4, none⟩ g0, g0, g1, g2, g3⟩
  ·obtain ⟨i, hi, rfl⟩ := List.mem_map.1 hxm
   exact (hf2 i (by have := List.mem_range.1 hi; omega)).2.2.2.2
theorem sliceLen_le {H : Type} (d : DataW H) : Go.Joins.sliceLen d ≤ Rows.uptoBulk d := by
 have h1 : ∀ l : List (DataW H), l.length ≤ Rows.uptoBulkAll l := by
  intro l
  induction l with
  | nil => simp
  | cons x l ih =>
   have h2 : 1 ≤ Rows.uptoBulk x := by
    cases x with
    | lit l => cases l <;> simp [Rows.uptoBulk]
    | nil => simp [Rows.uptoBulk]
    | ptr d => simp [Rows.uptoBulk]
    | slice elems spare => simp [Rows.uptoBulk]
    | agg parts => simp [Rows.uptoBulk]
    | iface t d => simp [Rows.uptoBulk]
    | map entries => simp [Rows.uptoBulk]
    | held h => simp [Rows.uptoBulk]
   simp only [Rows.uptoBulkAll, List.length_cons]
   omega
 cases d with
 | slice elems spare =>
  have h2 := h1 elems
  have h3 := h1 spare
  simp only [Go.Joins.sliceLen, Rows.uptoBulk]
  omega
 | lit l => simp [Go.Joins.sliceLen]
 | nil => simp [Go.Joins.sliceLen]
 | ptr d => simp [Go.Joins.sliceLen]
 | agg parts => simp [Go.Joins.sliceLen]
 | iface t d => simp [Go.Joins.sliceLen]
 | map entries => simp [Go.Joins.sliceLen]
 | held h => simp [Go.Joins.sliceLen]
theorem tbFields : ∃ f0 f1 : Field, Tryz.prog.underlying 137 = some (.struct #[f0, f1]) ∧ f0.offset = 0 ∧ f1.offset = 1 ∧ f0.type = 9 ∧ f1.type = 3 := ⟨_, _, Tryz.underlying137, rfl, rfl, rfl, rfl⟩
theorem usFields : ∃ f0 f1 : Field, Tryz.prog.underlying 131 = some (.struct #[f0, f1]) ∧ f0.offset = 0 ∧ f1.offset = 1 ∧ f0.type = 9 ∧ f1.type = 67 := ⟨_, _, Tryz.underlying131, rfl, rfl, rfl, rfl⟩
theorem saFields : ∃ f0 f1 f2 f3 f4 f5 : Field, Tryz.prog.underlying 27 = some (.struct #[f0, f1, f2, f3, f4, f5]) ∧ f0.offset = 0 ∧ f1.offset = 1 ∧ f2.offset = 2 ∧ f3.offset = 3 ∧ f4.offset = 4 ∧ f5.offset = 5 ∧ f0.type = 3 ∧ f1.type = 3 ∧ f2.type = 22 ∧ f3.type = 23 ∧ f4.type = 24 ∧ f5.type = 25 := ⟨_, _, _, _, _, _, Tryz.underlying27, rfl, rfl, rfl, rfl, rfl, rfl, rfl, rfl, rfl, rfl, rfl, rfl⟩
theorem read_tombs {H : Type} {enc : TypeId × Value → H} {W : World} {n : Nat} {cs : List Value} {x : DataW H × List MemPlace}
  (h : DataW.trod enc Tryz.prog W 0 (fun _ => true) true n 25 cs = some x) :
  ∃ (a : Option Addr) (c : Nat) (l : List TbM), cs = [.slice a l.length c] ∧ TbSl W a l ∧ (∀ e ∈ l, e.u.size ≤ maxLen) ∧ Cp a l.length c := by
 obtain ⟨f0, f1, he, o0, o1, t0, t1⟩ := tbFields
 have ci : Tryz.prog.cellsOf 3 = 1 := by kernel_rfl
 have cs' : Tryz.prog.cellsOf 9 = 1 := by kernel_rfl
 rcases Go.Deep.open_slice_pairs Tryz.underlying25 he (by kernel_rfl) o0 o1 (by rw [t0]; exact cs') (by rw [t1]; exact ci) h with ⟨rfl, _⟩ | ⟨a, len, cap, m, n', V0, V1, D0, D1, P0, P1, rfl, _, hl, hm, hmm, _, hx⟩
 ·exact ⟨none, 0, [], rfl, TbSl.nil _ _, (fun s hs => by cases hs), Cp.none⟩
 ·have hlm : len ≤ m := by rw [hmm]; split <;> omega
  have each : ∀ i, i < len → ∃ x : TbM, W.cell? (a.add (i * 2)) = some (.string x.u) ∧ W.cell? (a.add (i * 2 + 1)) = some (.int .i64 x.a) ∧ x.u.size ≤ maxLen := fun i hi => by
   obtain ⟨k0, k1, g0, g1⟩ := hx i (by omega)
   rw [t0] at g0
   rw [t1] at g1
   obtain ⟨z0, e0, _, w0⟩ := DataW.trod_string Tryz.underlying9 g0
   obtain ⟨z1, e1, _, w1⟩ := DataW.trod_int Tryz.underlying3 g1
   simp at e0 e1
   exact ⟨⟨z0, z1⟩, by rw [k0, e0], by rw [k1, e1], w0⟩
  have some_x : ∃ f : Nat → TbM, ∀ i, i < len → W.cell? (a.add (i * 2)) = some (.string (f i).u) ∧ W.cell? (a.add (i * 2 + 1)) = some (.int .i64 (f i).a) ∧ (f i).u.size ≤ maxLen := by
   refine ⟨fun i => if h : i < len then (each i h).choose else default, fun i hi => ?_⟩
   simp only [hi, ↓reduceDIte]
   exact (each i hi).choose_spec
  obtain ⟨f, hf2⟩ := some_x
  have hlen : ((List.range len).map f).length = len := by simp
  refine ⟨some a, cap, (List.range len).map f, by rw [hlen], fun k hk => ?_, fun x hxm => ?_, ⟨by rw [hlen]; omega, hm, fun h => by cases h⟩⟩
  ·rw [List.length_map, hlen] at hk
   obtain ⟨b, off, spot⟩ := a
   have h0 := (hf2 0 (by omega)).1
   have hspot : spot = none := by simpa [Addr.add] using World.cell?_spot h0
   subst hspot
   obtain ⟨g0, g1, _⟩ := hf2 k (by omega)
   rw [Go.WideShapes.add_plain] at g0 g1
   simp only [List.getElem_map, List.getElem_range]
   exact ⟨b, off, rfl, World.block_lt_of_cell? W ⟨b, off + k * 2, none⟩ g0, g0, g1⟩
  ·obtain ⟨i, hi, rfl⟩ := List.mem_map.1 hxm
   exact (hf2 i (by have := List.mem_range.1 hi; omega)).2.2
theorem bulk_pairs {H : Type} (F : Nat → List StM) (D0 D1 : Nat → DataW H) (len : Nat) (h : ∀ i, i < len → (F i).length ≤ Rows.uptoBulk (D1 i)) :
  ((List.range len).map fun i => (F i).length).sum + len ≤ Rows.uptoBulkAll ((List.range len).map fun i => DataW.agg [D0 i, D1 i]) := by
 induction len with
 | zero => simp
 | succ n ih =>
  have happ : ∀ l r : List (DataW H), Rows.uptoBulkAll (l ++ r) = Rows.uptoBulkAll l + Rows.uptoBulkAll r := by
   intro l r
   induction l with
   | nil => simp [Rows.uptoBulkAll]
   | cons x l ih => simp only [List.cons_append, Rows.uptoBulkAll, ih]; omega
  have h1 := ih (fun i hi => h i (by omega))
  have h2 := h n (by omega)
  rw [List.range_succ, List.map_append, List.map_append, List.sum_append, happ]
  simp only [List.map_cons, List.map_nil, List.sum_cons, List.sum_nil, Rows.uptoBulkAll, Rows.uptoBulk]
  omega
theorem read_users {H : Type} {enc : TypeId × Value → H} {W : World} {n : Nat} {cs : List Value} {x : DataW H × List MemPlace}
  (h : DataW.trod enc Tryz.prog W 0 (fun _ => true) true n 23 cs = some x) :
  ∃ (a : Option Addr) (c : Nat) (D : List UsL), cs = [.slice a D.length c] ∧ UsSl W a D ∧ (∀ e ∈ umS D, e.u.size ≤ maxLen) ∧ Cp a D.length c ∧ cntU (umS D) + D.length ≤ Rows.uptoBulk x.1 := by
 obtain ⟨f0, f1, he, o0, o1, t0, t1⟩ := usFields
 have ci : Tryz.prog.cellsOf 67 = 1 := by kernel_rfl
 have cs' : Tryz.prog.cellsOf 9 = 1 := by kernel_rfl
 rcases Go.Deep.open_slice_pairs Tryz.underlying23 he (by kernel_rfl) o0 o1 (by rw [t0]; exact cs') (by rw [t1]; exact ci) h with ⟨rfl, hx⟩ | ⟨a, len, cap, m, n', V0, V1, D0, D1, P0, P1, rfl, _, hl, hm, hmm, hd, hx⟩
 ·exact ⟨none, 0, [], rfl, UsSl.nil _ _, (fun s hs => by cases hs), Cp.none, by simp [umS, cntU]⟩
 ·have hlm : len ≤ m := by rw [hmm]; split <;> omega
  have each : ∀ i, i < len → ∃ x : UsL, W.cell? (a.add (i * 2)) = some (.string x.u) ∧ W.cell? (a.add (i * 2 + 1)) = some (.slice x.a x.l.length x.c) ∧ UsAt W x ∧ x.u.size ≤ maxLen ∧ x.l.length ≤ Rows.uptoBulk (D1 i) := fun i hi => by
   obtain ⟨k0, k1, g0, g1⟩ := hx i (by omega)
   rw [t0] at g0
   rw [t1] at g1
   obtain ⟨z0, e0, _, w0⟩ := DataW.trod_string Tryz.underlying9 g0
   obtain ⟨b, q, l, e1, r1, r2, r3, r4, r5⟩ := read_stays g1
   have e2 := List.singleton_inj.1 e1
   have hb : Go.Joins.sliceLen (D1 i) = l.length := by
    rw [e2] at g1
    exact Go.Joins.sliceLen_trod Tryz.underlying67 g1
   have hb2 := sliceLen_le (D1 i)
   simp at e0
   exact ⟨⟨z0, b, l, q⟩, by rw [k0, e0], by rw [k1, e2], ⟨r1, r3, r4, r5⟩, w0, by rw [← hb]; exact hb2⟩
  have some_x : ∃ f : Nat → UsL, ∀ i, i < len → W.cell? (a.add (i * 2)) = some (.string (f i).u) ∧ W.cell? (a.add (i * 2 + 1)) = some (.slice (f i).a (f i).l.length (f i).c) ∧ UsAt W (f i) ∧ (f i).u.size ≤ maxLen ∧ (f i).l.length ≤ Rows.uptoBulk (D1 i) := by
   refine ⟨fun i => if h : i < len then (each i h).choose else default, fun i hi => ?_⟩
   simp only [hi, ↓reduceDIte]
   exact (each i hi).choose_spec
  obtain ⟨f, hf2⟩ := some_x
  have hlen : ((List.range len).map f).length = len := by simp
  refine ⟨some a, cap, (List.range len).map f, by rw [hlen], ⟨fun k hk => ?_, fun x hxm => ?_⟩, fun x hxm => ?_, ⟨by rw [hlen]; omega, hm, fun h => by cases h⟩, ?_⟩
  ·rw [List.length_map, hlen] at hk
   obtain ⟨b, off, spot⟩ := a
   have h0 := (hf2 0 (by omega)).1
   have hspot : spot = none := by simpa [Addr.add] using World.cell?_spot h0
   subst hspot
   obtain ⟨g0, g1, _⟩ := hf2 k (by omega)
   rw [Go.WideShapes.add_plain] at g0 g1
   simp only [List.getElem_map, List.getElem_range]
   exact ⟨b, off, rfl, World.block_lt_of_cell? W ⟨b, off + k * 2, none⟩ g0, g0, g1⟩
  ·obtain ⟨i, hi, rfl⟩ := List.mem_map.1 hxm
   exact (hf2 i (List.mem_range.1 hi)).2.2.1
  ·obtain ⟨y, hy, rfl⟩ := List.mem_map.1 hxm
   obtain ⟨i, hi, rfl⟩ := List.mem_map.1 hy
   exact (hf2 i (List.mem_range.1 hi)).2.2.2.1
  ·have hbk := bulk_pairs (fun i => (f i).l) D0 D1 len (fun i hi => (hf2 i hi).2.2.2.2)
   have e1 : cntU (umS ((List.range len).map f)) = ((List.range len).map fun i => (f i).l.length).sum := by
    unfold cntU umS
    rw [List.map_map, List.map_map]
    rfl
   rw [e1, hlen, hd]
   simp only [Rows.uptoBulk]
   omega
theorem open_state {H : Type} {enc : TypeId × Value → H} {W : World} {base : Nat} {v : Value} {d : DataW H} {p : List MemPlace}
  (hok : Value.okWide Tryz.prog W .any base 27 v) (h : DataW.Trod enc Tryz.prog W 0 (fun _ => true) true 27 v d p) :
  ∃ x : SaL, v = saV x ∧ SaAt W x ∧ SzS x.m ∧ stCnt x.m + x.us.length ≤ Rows.uptoBulk d := by
 obtain ⟨f0, f1, f2, f3, f4, f5, he, o0, o1, o2, o3, o4, o5, t0, t1, t2, t3, t4, t5⟩ := saFields
 have ci : Tryz.prog.cellsOf 3 = 1 := by kernel_rfl
 have k2 : Tryz.prog.cellsOf 22 = 1 := by kernel_rfl
 have k3 : Tryz.prog.cellsOf 23 = 1 := by kernel_rfl
 have k4 : Tryz.prog.cellsOf 24 = 1 := by kernel_rfl
 have k5 : Tryz.prog.cellsOf 25 = 1 := by kernel_rfl
 obtain ⟨cs, rfl, hsz⟩ := okWide_struct he hok
 obtain ⟨c0, c1, c2, c3, c4, c5, rfl⟩ := array6 (hsz.trans (by kernel_rfl))
 obtain ⟨fuel, hf⟩ := h
 obtain ⟨y0, y1, y2, y3, y4, y5, n, hx, g0, g1, g2, g3, g4, g5⟩ := trod_six (x := (d, p)) he o0 o1 o2 o3 o4 o5 (by rw [t0]; exact ci) (by rw [t1]; exact ci) (by rw [t2]; exact k2) (by rw [t3]; exact k3) (by rw [t4]; exact k4) (by rw [t5]; exact k5) (by simpa [Value.cells] using hf)
 rw [t0] at g0
 rw [t1] at g1
 rw [t2] at g2
 rw [t3] at g3
 rw [t4] at g4
 rw [t5] at g5
 obtain ⟨z0, e0, _, w0⟩ := DataW.trod_int Tryz.underlying3 g0
 obtain ⟨z1, e1, _, w1⟩ := DataW.trod_int Tryz.underlying3 g1
 obtain ⟨a2, q2, l2, e2, r2, s2, m2, n2, p2⟩ := read_sess g2
 obtain ⟨a3, q3, l3, e3, r3, s3, m3, b3⟩ := read_users g3
 obtain ⟨a4, q4, l4, e4, r4, s4, m4, n4, p4⟩ := read_entries g4
 obtain ⟨a5, q5, l5, e5, r5, s5, m5⟩ := read_tombs g5
 simp at e0 e1
 obtain rfl := List.singleton_inj.1 e2
 obtain rfl := List.singleton_inj.1 e3
 obtain rfl := List.singleton_inj.1 e4
 obtain rfl := List.singleton_inj.1 e5
 subst e0 e1
 have b2 : l2.length ≤ Rows.uptoBulk y2.1 := by rw [← Go.Joins.sliceLen_trod (d := y2.1) (ps := y2.2) Tryz.underlying22 g2]; exact sliceLen_le _
 have b4 : l4.length ≤ Rows.uptoBulk y4.1 := by rw [← Go.Joins.sliceLen_trod (d := y4.1) (ps := y4.2) Tryz.underlying24 g4]; exact sliceLen_le _
 have b5 : l5.length ≤ Rows.uptoBulk y5.1 := by rw [← Go.Joins.sliceLen_trod (d := y5.1) (ps := y5.2) Tryz.underlying25 g5]; exact sliceLen_le _
 refine ⟨⟨z0, z1, a2, l2, q2, a3, l3, q3, a4, l4, q4, a5, l5, q5⟩, rfl, ⟨r2, r3, r4, r5, ⟨m2, n2, p2⟩, m3, ⟨m4, n4, p4⟩, m5⟩, ⟨s2, s3, fun e he => ⟨(s4 e he).1, (s4 e he).2.1⟩, s5⟩, ?_⟩
 have hx' : d = .agg [y0.1, y1.1, y2.1, y3.1, y4.1, y5.1] := hx
 rw [hx']
 simp only [Rows.uptoBulk, Rows.uptoBulkAll, stCnt, SaL.m]
 omega
end Go.Proofs.YtmfpjapiijgdgaaGreat
