/- Texts of mine, one behind the other, of each what is wanted. -/
import Derived.Test.YtjhdhfokhkcamaaGreatS00
import Derived.Test.YtjhdhfokhkcamaaGreatShelf
import Derived.Test.YtjhdhfokhkcamaaGreatRows
import Derived.Test.YtjhdhfokhkcamaaGreatS02
import Derived.Test.YtjhdhfokhkcamaaGreatS07
import Derived.Test.YtjhdhfokhkcamaaGreatS09
import Derived.Test.YtjhdhfokhkcamaaGreatS11
import Derived.Test.YtjhdhfokhkcamaaGreatS13
import Derived.Test.YtjhdhfokhkcamaaGreatS14
import Derived.Test.YtjhdhfokhkcamaaGreatS17
import Derived.Test.YtjhdhfokhkcamaaGreatS21
import Derived.Test.YtjhdhfokhkcamaaGreatS29
import Derived.Test.YtjhdhfokhkcamaaGreatS32
import Derived.Test.YtjhdhfokhkcamaaGreatS36
import Derived.Test.YtjhdhfokhkcamaaGreatS37
import Derived.Test.YtjhdhfokhkcamaaGreatS38
import Derived.Test.YtjhdhfokhkcamaaGreatS39
import Derived.Test.YtjhdhfokhkcamaaGreatS51
namespace Go.Proofs.YtjhdhfokhkcamaaGreat
open Go.RowKit Go.Proofs
set_option linter.unusedVariables false
set_option maxRecDepth 100000
set_option maxHeartbeats 8000000 in
theorem rapply_any (x : SaL) (k a n st : Int) (u o : ByteArray) (w : World) (h : SaAt w x) (hr : RightS x.m) (hc : stCnt x.m ≤ 200) (hz : SzS x.m) (hu : u.size ≤ maxLen) (ho : o.size ≤ maxLen) :
  Calls Tryz.prog 17 #[saV x, evV ⟨k, a, u, o, n, st⟩] w (Tells w (tellS x.m k a n st u o) (errS x.m k a n st u o)) := by
 by_cases hv : RightV k a n st u o
 ·by_cases hlt : a < x.now
  ·obtain ⟨HK, HE, HZ⟩ := three_SB h ⟨k, a, u, o, n, st⟩ 27 29 27
   have HR := Lib.hid (fun V => evrefRight_any ⟨k, a, u, o, n, st⟩ ⟨hu, ho⟩ V)
   have HS := Lib.hid HK
   have HZZ := Lib.hid HZ
   have HEE := Lib.hid HE
   rw [(rightE_iff k a n st u o).2 hv] at HR
   have he : errS x.m k a n st u o = 111 := by unfold errS; rw [if_pos hv, if_pos (show a < x.m.now from hlt)]
   have ht : tellS x.m k a n st u o = saZ := by unfold tellS; rw [he, if_neg (by decide)]
   rw [he, ht]
   obtain ⟨⟨e0, e1, e2, e3, e4, e5⟩, -⟩ := cells6 HE.blk
   obtain ⟨now, hor, oa, op, oc, ua, us, uc, sa, su, sc, ta, tb, tc⟩ := x
   unfold saV evV saC at *
   dsimp only at *
   clear h hr hc HK HZ HE hz
   go_enter Tryz.func17, Tryz.ntmps17
   go_wp2_with fail
   refine (HR.out _).mono ?_
   rintro e w1 ⟨rfl, h1⟩
   have B1 := HZZ.out.below h1
   have A1 := HS.out.below h1
   have hfin := B1.finZR
   clear e0 e1 e2 e3 e4 e5
   obtain ⟨⟨e0, e1, e2, e3, e4, e5⟩, -⟩ := cells6 (HEE.out.below h1).blk
   obtain ⟨c0, c1, c2, c3, c4, c5⟩ := A1.cells
   obtain ⟨z0, z1, z2, z3, z4, z5⟩ := B1.cells
   obtain ⟨y0, y1, y2, y3, y4, y5⟩ := B1.free
   have hzl := B1.lt
   have HL := Lib.hid hfin.1
   have HFN := Lib.hid hfin.2
   unfold saO at z0 z1 z2 z3 z4 z5
   dsimp only at *
   clear HS HZZ HEE A1 B1 hfin h1 HR
   go_wp2
   refine bodyPost_ret (v := .tuple #[saV saO, .int .i64 111]) ?_ rfl ⟨_, rfl, HFN.out.1, rfl, HFN.out.2⟩
   rw [results_cellT rfl]
   unfold saV saC saO
   simp [asAddr, Result.andThen, HL.out]
  ·have hf := (few_of hr hc).mono (b := 400) (by decide)
   have h7 : k = 1 ∨ k = 2 ∨ k = 3 ∨ k = 4 ∨ k = 5 ∨ k = 6 ∨ k = 7 := by
    obtain ⟨_, _, hh⟩ := hv
    omega
   rcases h7 with rfl | rfl | rfl | rfl | rfl | rfl | rfl
   ·exact rap1 x a n st u o w h hf hr.ur hr.tr hz hu ho hv hlt
   ·exact rap2 x a n st u o w h hf hr.ur hr.tr hz hu ho hv hlt
   ·exact rap3 x a n st u o w h hf hr.ur hr.tr hz hu ho hv hlt
   ·exact rap4 x a n st u o w h hf hr.ur hr.tr hz hu ho hv hlt
   ·exact rap5 x a n st u o w h hf hr.ur hr.tr hz hu ho hv hlt
   ·exact rap6 x a n st u o w h hf hr.ur hr.tr hz hu ho hv hlt
   ·exact rap7 x a n st u o w h hf hr.ur hr.tr hz hu ho hv hlt
 ·obtain ⟨HK, HE, HZ⟩ := three_SB h ⟨k, a, u, o, n, st⟩ 27 29 27
  have HR := Lib.hid (fun V => evrefRight_any ⟨k, a, u, o, n, st⟩ ⟨hu, ho⟩ V)
  have HS := Lib.hid HK
  have HZZ := Lib.hid HZ
  have HEE := Lib.hid HE
  have he : errS x.m k a n st u o = 110 := by unfold errS; rw [if_neg hv]
  have ht : tellS x.m k a n st u o = saZ := by unfold tellS; rw [he, if_neg (by decide)]
  rw [he, ht]
  have hE : rightE ⟨k, a, u, o, n, st⟩ = false := Bool.eq_false_iff.2 fun e => hv ((rightE_iff k a n st u o).1 e)
  rw [hE] at HR
  obtain ⟨⟨e0, e1, e2, e3, e4, e5⟩, -⟩ := cells6 HE.blk
  obtain ⟨now, hor, oa, op, oc, ua, us, uc, sa, su, sc, ta, tb, tc⟩ := x
  unfold saV evV saC at *
  dsimp only at *
  clear h hr hc HK HZ HE hz
  go_enter Tryz.func17, Tryz.ntmps17
  go_wp2_with fail
  refine (HR.out _).mono ?_
  rintro e w1 ⟨rfl, h1⟩
  have B1 := HZZ.out.below h1
  have hfin := B1.finZR
  clear e0 e1 e2 e3 e4 e5
  obtain ⟨z0, z1, z2, z3, z4, z5⟩ := B1.cells
  obtain ⟨y0, y1, y2, y3, y4, y5⟩ := B1.free
  have hzl := B1.lt
  have HL := Lib.hid hfin.1
  have HFN := Lib.hid hfin.2
  unfold saO at z0 z1 z2 z3 z4 z5
  dsimp only at *
  clear HS HZZ HEE B1 hfin h1 HR
  go_wp2
  refine bodyPost_ret (v := .tuple #[saV saO, .int .i64 110]) ?_ rfl ⟨_, rfl, HFN.out.1, rfl, HFN.out.2⟩
  rw [results_cellT rfl]
  unfold saV saC saO
  simp [asAddr, Result.andThen, HL.out]
end Go.Proofs.YtjhdhfokhkcamaaGreat
namespace Go.Proofs.YtjhdhfokhkcamaaGreat
open Go.ChangeShapes Go.WideShapes Go.ChangeAt Go.RowKit
set_option linter.unusedVariables false
set_option maxRecDepth 100000
section
variable {H : Type} {enc : TypeId × Value → H} {P : Program} {w : World} {base : Nat} {spare : Nat → Bool} {held : Bool}
end
theorem evFields : ∃ f0 f1 f2 f3 f4 f5 : Field, Tryz.prog.underlying 29 = some (.struct #[f0, f1, f2, f3, f4, f5]) ∧ f0.offset = 0 ∧ f1.offset = 1 ∧ f2.offset = 2 ∧ f3.offset = 3 ∧ f4.offset = 4 ∧ f5.offset = 5 ∧ f0.type = 3 ∧ f1.type = 3 ∧ f2.type = 9 ∧ f3.type = 9 ∧ f4.type = 3 ∧ f5.type = 3 := ⟨_, _, _, _, _, _, Tryz.underlying29, rfl, rfl, rfl, rfl, rfl, rfl, rfl, rfl, rfl, rfl, rfl, rfl⟩
theorem six_event {H : Type} {enc : TypeId × Value → H} {W : World} {base : Nat} {spare : Nat → Bool} {held : Bool} {fuel : Nat} {v0 v1 v2 v3 v4 v5 : Value} {x : DataW H × List MemPlace}
  (h : DataW.trod enc Tryz.prog W base spare held fuel 29 [v0, v1, v2, v3, v4, v5] = some x) :
  ∃ e : EvM, [v0, v1, v2, v3, v4, v5] = evc e ∧ EFits e := by
 obtain ⟨f0, f1, f2, f3, f4, f5, he, o0, o1, o2, o3, o4, o5, t0, t1, t2, t3, t4, t5⟩ := evFields
 have ci : Tryz.prog.cellsOf 3 = 1 := by kernel_rfl
 have cs : Tryz.prog.cellsOf 9 = 1 := by kernel_rfl
 obtain ⟨y0, y1, y2, y3, y4, y5, n, hx, g0, g1, g2, g3, g4, g5⟩ := trod_six he o0 o1 o2 o3 o4 o5 (by rw [t0]; exact ci) (by rw [t1]; exact ci) (by rw [t2]; exact cs) (by rw [t3]; exact cs) (by rw [t4]; exact ci) (by rw [t5]; exact ci) h
 rw [t0] at g0
 rw [t1] at g1
 rw [t2] at g2
 rw [t3] at g3
 rw [t4] at g4
 rw [t5] at g5
 obtain ⟨z0, e0, _, w0⟩ := DataW.trod_int Tryz.underlying3 g0
 obtain ⟨z1, e1, _, w1⟩ := DataW.trod_int Tryz.underlying3 g1
 obtain ⟨z2, e2, _, w2⟩ := DataW.trod_string Tryz.underlying9 g2
 obtain ⟨z3, e3, _, w3⟩ := DataW.trod_string Tryz.underlying9 g3
 obtain ⟨z4, e4, _, w4⟩ := DataW.trod_int Tryz.underlying3 g4
 obtain ⟨z5, e5, _, w5⟩ := DataW.trod_int Tryz.underlying3 g5
 simp at e0 e1 e2 e3 e4 e5
 subst e0 e1 e2 e3 e4 e5
 exact ⟨⟨z0, z1, z2, z3, z4, z5⟩, rfl, ⟨w2, w3⟩⟩
set_option maxRecDepth 100000 in
/-- a row of events that came in -/
theorem open_events {H : Type} {enc : TypeId × Value → H} {W : World} {base : Nat} {v : Value} {d : DataW H} {p : List MemPlace}
  (hok : Value.okWide Tryz.prog W .any base 50 v) (h : DataW.Trod enc Tryz.prog W 0 (fun _ => true) true 50 v d p) :
  ∃ (a : Option Addr) (c : Nat) (l : List EvM), v = .slice a l.length c ∧ EvSl W a l ∧ FitsV l ∧ l.length ≤ c ∧ c ≤ maxLen ∧ (a = none → c = 0) := by
 obtain ⟨a0, len, cap, rfl⟩ := okWide_slice Tryz.underlying50 hok
 obtain ⟨fuel, hf⟩ := h
 have ce : Tryz.prog.cellsOf 29 = 6 := by kernel_rfl
 rcases Go.Deep.open_slice Tryz.underlying50 hf with ⟨hcs, _⟩ | ⟨a, len', cap', m, n, D, Pl, hcs, hb, hl, hm, hmm, hd, hx⟩
 ·simp [Value.cells] at hcs
  obtain ⟨rfl, rfl, rfl⟩ := hcs
  exact ⟨none, 0, [], rfl, EvSl.nil _ _, fun o ho => by (cases ho), by simp, by decide, fun _ => rfl⟩
 ·simp [Value.cells] at hcs
  obtain ⟨rfl, rfl, rfl⟩ := hcs
  have hlm : len ≤ m := by rw [hmm]; split <;> omega
  have each : ∀ i, i < len → ∃ x : EvM, (∀ j, j < 6 → W.cell? (a.add (i * 6 + j)) = (evc x)[j]?) ∧ EFits x := fun i hi => by
   obtain ⟨cs', h1, h2⟩ := hx i (by omega)
   rw [ce] at h1
   obtain ⟨_, hlen, hcell⟩ := World.cells?_some h1
   match cs', hlen with
   | [v0, v1, v2, v3, v4, v5], _ =>
    obtain ⟨x, hc, q1⟩ := six_event h2
    refine ⟨x, fun j hj => ?_, q1⟩
    have := hcell j (by omega)
    rw [Go.Deep.add_add] at this
    rw [this, ← hc]
  have some_x : ∃ f : Nat → EvM, ∀ i, i < len → (∀ j, j < 6 → W.cell? (a.add (i * 6 + j)) = (evc (f i))[j]?) ∧ EFits (f i) := by
   refine ⟨fun i => if h : i < len then (each i h).choose else ⟨0, 0, ⟨#[]⟩, ⟨#[]⟩, 0, 0⟩, fun i hi => ?_⟩
   simp only [hi, ↓reduceDIte]
   exact (each i hi).choose_spec
  obtain ⟨f, hf2⟩ := some_x
  have hlen : ((List.range len).map f).length = len := by simp
  refine ⟨some a, cap, (List.range len).map f, by rw [hlen], fun k hk => ?_, fun x hxm => ?_, by omega, hm, fun h => by cases h⟩
  ·rw [hlen] at hk
   obtain ⟨b, off, spot⟩ := a
   have h0 := (hf2 0 (by omega)).1 0 (by omega)
   have hspot : spot = none := by
    have h1 : W.cell? ((⟨b, off, spot⟩ : Addr).add 0) = some (.int .i64 (f 0).kind) := h0
    simpa [Addr.add] using World.cell?_spot h1
   subst hspot
   have g := (hf2 k hk).1
   refine ⟨b, off, rfl, ?_, fun i hi => ?_⟩
   ·have h1 := g 0 (by omega)
    rw [Go.WideShapes.add_plain] at h1
    exact World.block_lt_of_cell? W ⟨b, off + (k * 6 + 0), none⟩ (h1.trans rfl)
   ·have h1 := g i hi
    rw [Go.WideShapes.add_plain] at h1
    rw [Nat.add_assoc, h1]
    simp only [List.getElem_map, List.getElem_range]
  ·obtain ⟨i, hi, rfl⟩ := List.mem_map.1 hxm
   exact (hf2 i (List.mem_range.1 hi)).2
end Go.Proofs.YtjhdhfokhkcamaaGreat
namespace Go.Proofs.YtjhdhfokhkcamaaGreat
open Go.RowKit Go.Proofs
set_option linter.unusedVariables false
set_option maxRecDepth 100000
section
variable {M : SaM} (x y : SaL) (V : World) (h : SaAt V x) (k : SaAt V y) (hm : x.m = M) (km : y.m = M)
include h hm
include k km
end
def erV (s : SaM) (e : EvM) : Int := errS s e.kind e.at_ e.n e.status e.user e.other
def teV (s : SaM) (e : EvM) : SaM := tellS s e.kind e.at_ e.n e.status e.user e.other
theorem te_ok {s : SaM} {e : EvM} (h : RightS s) (he : erV s e = 0) : RightS (teV s e) ∧ stCnt (teV s e) ≤ stCnt s + 1 ∧ teV s e = goS s e.kind e.at_ e.n e.status e.user e.other := by
 have h1 : teV s e = goS s e.kind e.at_ e.n e.status e.user e.other := by unfold teV tellS; exact if_pos he
 rw [h1]
 exact ⟨right_go h he, cnt_go _ _ _ _ _ _ _, rfl⟩
theorem te_no {s : SaM} {e : EvM} (he : erV s e ≠ 0) : teV s e = saZ := by unfold teV tellS; exact if_neg he
theorem te_right {s : SaM} (h : RightS s) (e : EvM) : RightS (teV s e) := by
 by_cases he : erV s e = 0
 ·exact (te_ok h he).1
 ·rw [te_no he]; exact RightS.zero
theorem te_cnt {s : SaM} (h : RightS s) (e : EvM) : stCnt (teV s e) ≤ stCnt s + 1 := by
 by_cases he : erV s e = 0
 ·exact (te_ok h he).2.1
 ·rw [te_no he]; exact Nat.zero_le _
theorem g_apply {M : SaM} (x : SaL) (e : EvM) (V : World) (h : SaAt V x) (hm : x.m = M) (hr : RightS M) (hc : stCnt M ≤ 200) (hw : EFits e) : Calls Tryz.prog 16 #[saV x, evV e] V (Tells V (teV M e) (erV M e)) := by
 subst hm
 exact apply_any x e.kind e.at_ e.n e.status e.user e.other V h hr hc hw.1 hw.2
theorem g_rapply {M : SaM} (x : SaL) (e : EvM) (V : World) (h : SaAt V x) (hm : x.m = M) (hr : RightS M) (hc : stCnt M ≤ 200) (hw : EFits e) : Calls Tryz.prog 17 #[saV x, evV e] V (Tells V (teV M e) (erV M e)) := by
 subst hm
 exact rapply_any x e.kind e.at_ e.n e.status e.user e.other V h hr hc (sz_right hr) hw.1 hw.2
end Go.Proofs.YtjhdhfokhkcamaaGreat
