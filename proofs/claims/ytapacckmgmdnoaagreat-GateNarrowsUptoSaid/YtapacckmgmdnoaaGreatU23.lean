/- Texts of mine, one behind the other, of each what is wanted. -/
import Derived.Test.YtapacckmgmdnoaaGreatU00
import Derived.Test.YtapacckmgmdnoaaGreatShelf
import Derived.Test.YtapacckmgmdnoaaGreatRows
import Derived.Test.YtapacckmgmdnoaaGreatU01
import Derived.Test.YtapacckmgmdnoaaGreatU02
import Derived.Test.YtapacckmgmdnoaaGreatU04
import Derived.Test.YtapacckmgmdnoaaGreatU07
import Derived.Test.YtapacckmgmdnoaaGreatU09
import Derived.Test.YtapacckmgmdnoaaGreatU11
import Derived.Test.YtapacckmgmdnoaaGreatU14
import Derived.Test.YtapacckmgmdnoaaGreatU20
import Derived.Test.YtapacckmgmdnoaaGreatU21
import Derived.Test.YtapacckmgmdnoaaGreatU22
namespace Go.Proofs.YtapacckmgmdnoaaGreat
open Go.RowKit
set_option linter.unusedVariables false
set_option maxRecDepth 100000
set_option maxRecDepth 100000
set_option maxHeartbeats 1000000 in
theorem enone_any (f t : Int) (w : World) : Calls Tryz.prog 108 #[.agg #[.int .i64 f, .int .i64 t]] w fun e w' => e = .returned (.bool (decide (t ≤ f))) ∧ Below w.heap.size w w' := by
 go_enter Tryz.func108, Tryz.ntmps108
 go_wp2
 go_ret
 exact ⟨rfl, ebelow_one _ _⟩
structure RsE (w : World) (g : Nat) (x : EnM) (a : Option Addr) (l : List EnM) (W : World) : Prop where
 box : W.cell? ⟨g, 0, none⟩ = some (.string x.w) ∧ W.cell? ⟨g, 1, none⟩ = some (.string x.u) ∧ W.cell? ⟨g, 2, none⟩ = some (.int .i64 x.f) ∧ W.cell? ⟨g, 3, none⟩ = some (.int .i64 x.t)
 lt : g < W.heap.size
 row : EnSl W a l
 frame : Below w.heap.size w W
theorem RsE.below {w W W' : World} {g : Nat} {x : EnM} {a : Option Addr} {l : List EnM} (h : RsE w g x a l W) (q : Below W.heap.size W W') : RsE w g x a l W' :=
 ⟨⟨(q.cell (p := ⟨g, 0, none⟩) h.lt).trans h.box.1, (q.cell (p := ⟨g, 1, none⟩) h.lt).trans h.box.2.1, (q.cell (p := ⟨g, 2, none⟩) h.lt).trans h.box.2.2.1, (q.cell (p := ⟨g, 3, none⟩) h.lt).trans h.box.2.2.2⟩, Nat.lt_of_lt_of_le h.lt q.size, h.row.below q, h.frame.trans (q.mono h.frame.size)⟩
theorem RsE.at_ {w W : World} {g : Nat} {x : EnM} {b off : Nat} {l : List EnM} (h : RsE w g x (some ⟨b, off, none⟩) l W) {k : Nat} (hk : k < l.length) :
  W.cell? ⟨g, 0, none⟩ = some (.string x.w) ∧ W.cell? ⟨g, 1, none⟩ = some (.string x.u) ∧ W.cell? ⟨g, 2, none⟩ = some (.int .i64 x.f) ∧ W.cell? ⟨g, 3, none⟩ = some (.int .i64 x.t) ∧ W.cell? ⟨b, off + k * 4, none⟩ = some (.string l[k].w) ∧ W.cell? ⟨b, off + k * 4 + 1, none⟩ = some (.string l[k].u) ∧ W.cell? ⟨b, off + k * 4 + 2, none⟩ = some (.int .i64 l[k].f) ∧ W.cell? ⟨b, off + k * 4 + 3, none⟩ = some (.int .i64 l[k].t) := by
 obtain ⟨_, _, e, _, h0, h1, h2, h3⟩ := h.row.at_ hk
 cases e
 exact ⟨h.box.1, h.box.2.1, h.box.2.2.1, h.box.2.2.2, h0, h1, h2, h3⟩
theorem RsE.new {w W : World} {x : EnM} {a : Option Addr} {l : List EnM} (h : EnSl W a l) (hb : Below w.heap.size w W) (t : TypeId) : RsE w W.heap.size x a l (W.alloc (.cells #[.string x.w, .string x.u, .int .i64 x.f, .int .i64 x.t] t)) :=
 ⟨ecells4 (heap_alloc_new W _), by rw [size1]; omega, h.below (ebelow_one _ _), hb.alloc hb.size _⟩
def eRiseTo (l : List EnM) (j : Nat) : Prop := ∀ k (h : k < l.length), k < j → OkE l[k] ∧ (0 < k → FolE (l[k - 1]'(by omega)) l[k])
theorem eRiseTo.all {l : List EnM} (h : eRiseTo l l.length) : RiseE l := fun k hk => h k hk hk
theorem eRiseTo.next {l : List EnM} {j : Nat} (h : eRiseTo l j) (hj : j < l.length) (h1 : OkE l[j]) (h2 : 0 < j → FolE (l[j - 1]'(by omega)) l[j]) : eRiseTo l (j + 1) := fun k hk hkj => by
 rcases Nat.lt_or_ge k j with h3 | h3
 ·exact h k hk h3
 ·obtain rfl : k = j := by omega
  exact ⟨h1, h2⟩
def SzE (l : List EnM) : Prop := ∀ e ∈ l, e.w.size ≤ maxLen ∧ e.u.size ≤ maxLen
end Go.Proofs.YtapacckmgmdnoaaGreat
namespace Go.Proofs.YtapacckmgmdnoaaGreat
open Go.RowKit Go.Sort Go.Proofs
set_option linter.unusedVariables false
set_option maxRecDepth 100000
set_option maxRecDepth 100000
theorem own_spm {w : World} {B e : Nat} {v : Value} {l : List SpM} (h : w.ownsRow B e 2 v l.length (sps l)) : ∃ a c, v = .slice a l.length c ∧ l.length ≤ c ∧ c ≤ maxLen ∧ SpSl w a l ∧ (a = none → c = 0) := by
 obtain ⟨a, c, rfl, hc, hs⟩ := own_sp h
 refine ⟨a, c, rfl, hc, ?_, hs, ?_⟩
 ·rcases h.2 with ⟨h0, _⟩ | ⟨g, cap', _, h0, _, _, _, h1, _⟩
  ·injection h0 with e1 e2 e3
   rw [e3]; unfold maxLen; omega
  ·injection h0 with e1 e2 e3
   rw [e3]; exact h1
 ·intro ha
  rcases h.2 with ⟨h0, _⟩ | ⟨g, cap', _, h0, _, _, _, h1, _⟩
  ·injection h0 with e1 e2 e3
  ·injection h0 with e1 e2 e3
   rw [ha] at e1; cases e1
set_option maxHeartbeats 2000000 in
theorem meet_any (xa : Option Addr) (ca : Nat) (xb : Option Addr) (cb : Nat) (A B : List SpM) (w : World) (ha : SpSl w xa A) (hb : SpSl w xb B) (hca : A.length ≤ ca) (hcb : B.length ≤ cb) (hcm : ca ≤ maxLen ∧ cb ≤ maxLen) (hl : A.length + B.length ≤ 100000) :
  Calls Tryz.prog 164 #[.slice xa A.length ca, .slice xb B.length cb] w fun e w' => ∃ (v : Value) (r : List SpM), e = .returned v ∧ IsSet (fun x => HasL A x ∧ HasL B x) r ∧ w'.ownsRow w.heap.size 90 2 v r.length (sps r) ∧ r.length ≤ A.length + B.length ∧ Below w.heap.size w w' := by
 have HNA := Lib.hid (norm_any xa ca A w ha (by omega) hca hcm.1)
 have HNB := Lib.hid (fun W (h : Below w.heap.size w W) => norm_any xb cb B W (hb.below h) (by omega) hcb hcm.2)
 have HC := Lib.hid common_any
 clear ha hb
 go_enter Tryz.func164, Tryz.ntmps164
 go_wp2_with fail
 refine HNA.out.mono ?_
 rintro e w1 ⟨v1, r1, rfl, hs1, hl1, ho1, hB1⟩
 go_wp2_with fail
 refine (HNB.out _ hB1).mono ?_
 rintro e w2 ⟨v2, r2, rfl, hs2, hl2, ho2, hB2⟩
 have ho1' := own_below ho1 hB2
 obtain ⟨a1, c1, rfl, hc1, hm1, hp1, _⟩ := own_spm ho1'
 obtain ⟨a2, c2, rfl, hc2, hm2, hp2, _⟩ := own_spm ho2
 have HB2 := Lib.hid (hB1.trans (hB2.mono hB1.size))
 have HS1 := Lib.hid hs1
 have HS2 := Lib.hid hs2
 have HCC := Lib.hid (HC.out a1 c1 a2 c2 r1 r2 w2 hp1 hp2 hs1.1.1 hs2.1.1 hc1 hc2 ⟨hm1, hm2⟩ (by omega))
 clear hs1 hs2 ho1 ho2 ho1' hB1 hB2 hp1 hp2 HC HNB HNA
 go_wp2_with fail
 refine HCC.out.mono ?_
 rintro e w3 ⟨v3, r3, rfl, hs3, ho3, hl3, hB3⟩
 have HS3 : Hid (IsSet (fun x => HasL A x ∧ HasL B x) r3) := hs3.congr fun x => and_congr (HS1.out.2 x) (HS2.out.2 x)
 have HO3 := Lib.hid (own_low ho3 HB2.out.size)
 have HB3 := Lib.hid (HB2.out.trans (hB3.mono HB2.out.size))
 clear hs3 ho3 hB3 HCC
 go_wp2
 go_ret
 first | exact ⟨_, r3, rfl, HS3.out, HO3.out, by omega, HB3.out⟩ | exact ⟨_, rfl, r3, HS3.out, HO3.out, by omega, HB3.out⟩
end Go.Proofs.YtapacckmgmdnoaaGreat
namespace Go.Proofs.YtapacckmgmdnoaaGreat
open Go.RowKit
set_option linter.unusedVariables false
set_option maxRecDepth 100000
set_option maxRecDepth 100000
theorem cells_sp (W : World) (l : List SpM) (xs : Array Value) (t : TypeId) (g : Nat) (hg : g = W.heap.size) (hx : xs.toList = sps l) : SpSl (W.alloc (.cells xs t)) (some ⟨g, 0, none⟩) l := fun k hk => by
 subst hg
 obtain ⟨g1, g2⟩ := sps_get l k hk
 rw [← hx, Array.getElem?_toList] at g1 g2
 refine ⟨W.heap.size, 0, rfl, by rw [size1]; omega, ?_, ?_⟩
 ·rw [cell_of_row _ _ _ xs t (0, 0) (heap_alloc_new W _), Nat.zero_add, g1]
 ·rw [cell_of_row _ _ _ xs t (0, 0) (heap_alloc_new W _), Nat.zero_add, g2]
end Go.Proofs.YtapacckmgmdnoaaGreat
namespace Go.Proofs.YtapacckmgmdnoaaGreat
open Go.ChangeShapes Go.WideShapes Go.ChangeAt Go.RowKit
set_option linter.unusedVariables false
set_option maxRecDepth 100000
set_option maxRecDepth 100000
theorem wf64 {n : Int} (h : (Lit.int .i64 n).wf = true) : I64 n := by
 have e1 : IntKind.i64.min = -9223372036854775808 := by decide
 have e2 : IntKind.i64.max = 9223372036854775807 := by decide
 have h' : (decide (IntKind.i64.min ≤ n) && decide (n ≤ IntKind.i64.max)) = true := h
 rw [e1, e2, Bool.and_eq_true, decide_eq_true_eq, decide_eq_true_eq] at h'
 exact h'
end Go.Proofs.YtapacckmgmdnoaaGreat
namespace Go.Proofs.YtapacckmgmdnoaaGreat
open Go.RowKit
set_option linter.unusedVariables false
set_option maxRecDepth 100000
set_option maxRecDepth 100000
theorem n_meet (xa : Option Addr) (ca : Nat) (xb : Option Addr) (cb : Nat) (A B : List SpM) (W : World) (ha : SpSl W xa A) (hb : SpSl W xb B) (hca : A.length ≤ ca) (hcb : B.length ≤ cb) (h1 : ca ≤ maxLen) (h2 : cb ≤ maxLen) (hl : A.length ≤ 400) (hl2 : B.length ≤ 400) :
  Calls Tryz.prog 164 #[.slice xa A.length ca, .slice xb B.length cb] W fun e w' => ∃ x q r, e = .returned (.slice x r.length q) ∧ IsSet (fun t => HasL A t ∧ HasL B t) r ∧ r.length ≤ A.length + B.length ∧ r.length ≤ q ∧ q ≤ maxLen ∧ (x = none → q = 0) ∧ SpSl w' x r ∧ Below W.heap.size W w' := by
 refine (meet_any xa ca xb cb A B W ha hb hca hcb ⟨h1, h2⟩ (by omega)).mono ?_
 rintro e w' ⟨v, r, rfl, hs, ho, hl, hb⟩
 obtain ⟨x, q, rfl, k1, k2, k3, k4⟩ := own_spm ho
 exact ⟨x, q, r, rfl, hs, hl, k1, k2, k4, k3, hb⟩
end Go.Proofs.YtapacckmgmdnoaaGreat
namespace Go.Proofs.YtapacckmgmdnoaaGreat
open Go.ChangeShapes Go.WideShapes Go.ChangeAt Go.RowKit
set_option linter.unusedVariables false
set_option maxRecDepth 100000
set_option maxRecDepth 100000
def FitsE (l : List EnM) : Prop := ∀ e ∈ l, e.w.size ≤ maxLen ∧ e.u.size ≤ maxLen ∧ I64 e.f ∧ I64 e.t
section
variable {H : Type} {enc : TypeId × Value → H} {P : Program} {w : World} {base : Nat} {spare : Nat → Bool} {held : Bool}
theorem eopen_quads {t e : TypeId} {f0 f1 f2 f3 : Field} {fuel : Nat} {cs : List Value} {x : DataW H × List MemPlace} (ht : P.underlying t = some (.slice e)) (he : P.underlying e = some (.struct #[f0, f1, f2, f3]))
  (ce : P.cellsOf e = 4) (o0 : f0.offset = 0) (o1 : f1.offset = 1) (o2 : f2.offset = 2) (o3 : f3.offset = 3) (c0 : P.cellsOf f0.type = 1) (c1 : P.cellsOf f1.type = 1) (c2 : P.cellsOf f2.type = 1) (c3 : P.cellsOf f3.type = 1)
  (h : DataW.trod enc P w base spare held fuel t cs = some x) :
  (cs = [.slice none 0 0] ∧ x = (.nil, [])) ∨
  ∃ (a : Addr) (len cap : Nat), cs = [.slice (some a) len cap] ∧ len ≤ cap ∧ cap ≤ maxLen ∧
   ∀ i, i < len → ∃ (v0 v1 v2 v3 : Value) (y0 y1 y2 y3 : DataW H × List MemPlace) (n : Nat), w.cell? (a.add (i * 4)) = some v0 ∧ w.cell? (a.add (i * 4 + 1)) = some v1 ∧ w.cell? (a.add (i * 4 + 2)) = some v2 ∧ w.cell? (a.add (i * 4 + 3)) = some v3 ∧
    DataW.trod enc P w base spare held n f0.type [v0] = some y0 ∧ DataW.trod enc P w base spare held n f1.type [v1] = some y1 ∧ DataW.trod enc P w base spare held n f2.type [v2] = some y2 ∧ DataW.trod enc P w base spare held n f3.type [v3] = some y3 := by
 rcases Go.Deep.open_slice ht h with h0 | ⟨a, len, cap, m, n, D, Pl, rfl, hb, hl, hm, hmm, rfl, hx⟩
 ·exact Or.inl h0
 right
 have hlm : len ≤ m := by rw [hmm]; split <;> omega
 refine ⟨a, len, cap, rfl, hl, hm, fun i hi => ?_⟩
 obtain ⟨cs', h1, h2⟩ := hx i (by omega)
 rw [ce] at h1
 obtain ⟨_, hlen, hcell⟩ := World.cells?_some h1
 obtain ⟨xs, k, hk, hxy, _, hxl, hf⟩ := DataW.trod_struct he h2
 match xs, hxl, cs', hlen with
 | [y0, y1, y2, y3], _, [v0, v1, v2, v3], _ =>
  have g0 := hf 0 f0 rfl
  have g1 := hf 1 f1 rfl
  have g2 := hf 2 f2 rfl
  have g3 := hf 3 f3 rfl
  simp [o0, o1, o2, o3, c0, c1, c2, c3] at g0 g1 g2 g3
  have e0 := hcell 0 (by omega)
  have e1 := hcell 1 (by omega)
  have e2 := hcell 2 (by omega)
  have e3 := hcell 3 (by omega)
  rw [Go.Deep.add_add] at e0 e1 e2 e3
  exact ⟨v0, v1, v2, v3, y0, y1, y2, y3, k, by simpa using e0, by simpa using e1, by simpa using e2, by simpa using e3, g0, g1, g2, g3⟩
end
theorem enFields : ∃ f0 f1 f2 f3 : Field, Tryz.prog.underlying 135 = some (.struct #[f0, f1, f2, f3]) ∧ f0.offset = 0 ∧ f1.offset = 1 ∧ f2.offset = 2 ∧ f3.offset = 3 ∧ f0.type = 9 ∧ f1.type = 9 ∧ f2.type = 3 ∧ f3.type = 3 := ⟨_, _, _, _, Tryz.underlying135, rfl, rfl, rfl, rfl, rfl, rfl, rfl, rfl⟩
theorem read_entries {H : Type} {enc : TypeId × Value → H} {W : World} {n : Nat} {cs : List Value} {x : DataW H × List MemPlace}
  (h : DataW.trod enc Tryz.prog W 0 (fun _ => true) true n 24 cs = some x) :
  ∃ (a : Option Addr) (c : Nat) (l : List EnM), cs = [.slice a l.length c] ∧ EnSl W a l ∧ FitsE l ∧ l.length ≤ c ∧ c ≤ maxLen ∧ (a = none → c = 0) := by
 obtain ⟨f0, f1, f2, f3, he, o0, o1, o2, o3, t0, t1, t2, t3⟩ := enFields
 have ci : Tryz.prog.cellsOf 3 = 1 := by kernel_rfl
 have cs' : Tryz.prog.cellsOf 9 = 1 := by kernel_rfl
 rcases eopen_quads Tryz.underlying24 he (by kernel_rfl) o0 o1 o2 o3 (by rw [t0]; exact cs') (by rw [t1]; exact cs') (by rw [t2]; exact ci) (by rw [t3]; exact ci) h with ⟨rfl, _⟩ | ⟨a, len, cap, rfl, hl, hm, hx⟩
 ·exact ⟨none, 0, [], rfl, EnSl.nil _ _, (fun s hs => by cases hs), by simp, by decide, fun _ => rfl⟩
 ·have each : ∀ i, i < len → ∃ x : EnM, W.cell? (a.add (i * 4)) = some (.string x.w) ∧ W.cell? (a.add (i * 4 + 1)) = some (.string x.u) ∧ W.cell? (a.add (i * 4 + 2)) = some (.int .i64 x.f) ∧ W.cell? (a.add (i * 4 + 3)) = some (.int .i64 x.t) ∧ x.w.size ≤ maxLen ∧ x.u.size ≤ maxLen ∧ I64 x.f ∧ I64 x.t := fun i hi => by
   obtain ⟨v0, v1, v2, v3, y0, y1, y2, y3, n, k0, k1, k2, k3, g0, g1, g2, g3⟩ := hx i hi
   rw [t0] at g0
   rw [t1] at g1
   rw [t2] at g2
   rw [t3] at g3
   obtain ⟨z0, e0, _, w0⟩ := DataW.trod_string Tryz.underlying9 g0
   obtain ⟨z1, e1, _, w1⟩ := DataW.trod_string Tryz.underlying9 g1
   obtain ⟨z2, e2, _, w2⟩ := DataW.trod_int Tryz.underlying3 g2
   obtain ⟨z3, e3, _, w3⟩ := DataW.trod_int Tryz.underlying3 g3
   simp at e0 e1 e2 e3
   exact ⟨⟨z0, z1, z2, z3⟩, by rw [k0, e0], by rw [k1, e1], by rw [k2, e2], by rw [k3, e3], w0, w1, wf64 w2, wf64 w3⟩
  have some_x : ∃ f : Nat → EnM, ∀ i, i < len → W.cell? (a.add (i * 4)) = some (.string (f i).w) ∧ W.cell? (a.add (i * 4 + 1)) = some (.string (f i).u) ∧ W.cell? (a.add (i * 4 + 2)) = some (.int .i64 (f i).f) ∧ W.cell? (a.add (i * 4 + 3)) = some (.int .i64 (f i).t) ∧ (f i).w.size ≤ maxLen ∧ (f i).u.size ≤ maxLen ∧ I64 (f i).f ∧ I64 (f i).t := by
   refine ⟨fun i => if h : i < len then (each i h).choose else ⟨ByteArray.empty, ByteArray.empty, 0, 0⟩, fun i hi => ?_⟩
   simp only [hi, ↓reduceDIte]
   exact (each i hi).choose_spec
  obtain ⟨f, hf2⟩ := some_x
  have hlen : ((List.range len).map f).length = len := by simp
  refine ⟨some a, cap, (List.range len).map f, by rw [hlen], fun k hk => ?_, fun x hxm => ?_, by omega, hm, fun h => by cases h⟩
  ·rw [hlen] at hk
   obtain ⟨b, off, spot⟩ := a
   have h0 := (hf2 0 (by omega)).1
   have hspot : spot = none := by simpa [Addr.add] using World.cell?_spot h0
   subst hspot
   obtain ⟨g0, g1, g2, g3, _⟩ := hf2 k (by omega)
   rw [Go.WideShapes.add_plain] at g0 g1 g2 g3
   simp only [List.getElem_map, List.getElem_range]
   exact ⟨b, off, rfl, World.block_lt_of_cell? W ⟨b, off + k * 4, none⟩ g0, g0, g1, g2, g3⟩
  ·obtain ⟨i, hi, rfl⟩ := List.mem_map.1 hxm
   exact (hf2 i (by have := List.mem_range.1 hi; omega)).2.2.2.2
end Go.Proofs.YtapacckmgmdnoaaGreat
namespace Go.Proofs.YtapacckmgmdnoaaGreat
set_option linter.unusedVariables false
set_option maxRecDepth 100000
def goE (s : SaM) (e : EvM) : SaM := goS s e.kind e.at_ e.n e.status e.user e.other
def errE (s : SaM) (e : EvM) : Int := errS s e.kind e.at_ e.n e.status e.user e.other
def nxE (s : SaM) (e : EvM) : SaM := if errE s e = 0 then goE s e else s
def foldE (s : SaM) (l : List EvM) : SaM := l.foldl nxE s
def errsE : SaM → List EvM → List Int
 | _, [] => []
 | s, e :: l => errE s e :: errsE (nxE s e) l
theorem nxE_ok {s : SaM} {e : EvM} (h : errE s e = 0) : nxE s e = goE s e := if_pos h
theorem nxE_no {s : SaM} {e : EvM} (h : ¬ errE s e = 0) : nxE s e = s := if_neg h
theorem foldE_append (s : SaM) (a b : List EvM) : foldE s (a ++ b) = foldE (foldE s a) b := List.foldl_append
theorem foldE_cons (s : SaM) (e : EvM) (l : List EvM) : foldE s (e :: l) = foldE (nxE s e) l := rfl
theorem foldE_take (s : SaM) (l : List EvM) (j : Nat) (h : j < l.length) : foldE s (l.take (j + 1)) = nxE (foldE s (l.take j)) l[j] := by
 rw [List.take_succ_eq_append_getElem h, foldE_append]
 rfl
theorem errsE_append : ∀ (a : List EvM) (s : SaM) (b : List EvM), errsE s (a ++ b) = errsE s a ++ errsE (foldE s a) b
 | [], _, _ => rfl
 | e :: a, s, b => by
  show errE s e :: errsE (nxE s e) (a ++ b) = errE s e :: (errsE (nxE s e) a ++ errsE (foldE (nxE s e) a) b)
  rw [errsE_append a]
theorem errsE_len : ∀ (l : List EvM) (s : SaM), (errsE s l).length = l.length
 | [], _ => rfl
 | e :: l, s => by
  show (errsE (nxE s e) l).length + 1 = l.length + 1
  rw [errsE_len l]
theorem errsE_take (s : SaM) (l : List EvM) (j : Nat) (h : j < l.length) : errsE s (l.take (j + 1)) = errsE s (l.take j) ++ [errE (foldE s (l.take j)) l[j]] := by
 rw [List.take_succ_eq_append_getElem h, errsE_append]
 rfl
theorem right_nx {s : SaM} (h : RightS s) (e : EvM) : RightS (nxE s e) := by
 unfold nxE
 split
 ·rename_i he; exact right_go h he
 ·exact h
theorem cnt_nx (s : SaM) (e : EvM) : stCnt (nxE s e) ≤ stCnt s + 1 := by
 unfold nxE
 split
 ·exact cnt_go s _ _ _ _ _ _
 ·omega
theorem right_fold : ∀ (l : List EvM) {s : SaM}, RightS s → RightS (foldE s l)
 | [], _, h => h
 | e :: l, s, h => by rw [foldE_cons]; exact right_fold l (right_nx h e)
theorem cnt_fold : ∀ (l : List EvM) (s : SaM), stCnt (foldE s l) ≤ stCnt s + l.length
 | [], _ => Nat.le_refl _
 | e :: l, s => by
  have h1 := cnt_fold l (nxE s e)
  have h2 := cnt_nx s e
  rw [foldE_cons, List.length_cons]
  omega
end Go.Proofs.YtapacckmgmdnoaaGreat
namespace Go.Proofs.YtapacckmgmdnoaaGreat
open Go.RowKit Go.Proofs
set_option linter.unusedVariables false
set_option maxRecDepth 100000
def ers (l : List Int) : List Value := l.map (.int .i64)
theorem ers_len (l : List Int) : (ers l).length = l.length := List.length_map _
theorem ers_snoc (l : List Int) (n : Int) : ers (l ++ [n]) = ers l ++ [.int .i64 n] := by simp [ers]
def ErSl (w : World) (a : Option Addr) (l : List Int) : Prop := Sl w a (ers l)
theorem ErSl.nil (w : World) (a : Option Addr) : ErSl w a [] := Sl.nil _ _
theorem evsl_setB {W : World} {g : Nat} {x : SaL} {t : TypeId} (h : W.heap[g]? = some (.cells (saC x) t (0, 0))) {a : Option Addr} {l : List EvM} (ho : EvSl W a l) (i : Nat) (v : Value) : EvSl (W.setCell ⟨g, i, none⟩ v) a l := fun k hk => by
 obtain ⟨b, off, e, hlt, h0⟩ := ho k hk
 have hne : b ≠ g := fun e => by
  subst e
  have h2 : W.cell? ⟨b, off + k * 6 + 2, none⟩ = some (.string l[k].user) := h0 2 (by decide)
  exact six_string h h2
 exact ⟨b, off, e, by rw [size_set]; exact hlt, fun i hi => (cell_far (p := ⟨b, off + k * 6 + i, none⟩) hne).trans (h0 i hi)⟩
theorem evsl_setS {w W : World} {g : Nat} {x y : SaL} {t : TypeId} (h : SB w g t x W) (hy : SaAt W y) {a : Option Addr} {l : List EvM} (ho : EvSl W a l) : EvSl (setS W g y) a l := by
 have h0 := SB.setNow h y.now
 have y0 := SaAt.setB h.blk hy 0 (.int .i64 y.now)
 have o0 := evsl_setB h.blk ho 0 (.int .i64 y.now)
 have h1 := SB.setHor h0 y.hor
 have y1 := SaAt.setB h0.blk y0 1 (.int .i64 y.hor)
 have o1 := evsl_setB h0.blk o0 1 (.int .i64 y.hor)
 have h2 := SB.setOp h1 rfl y1.op y1.oc
 have y2 := SaAt.setB h1.blk y1 2 (.slice y.oa y.op.length y.oc)
 have o2 := evsl_setB h1.blk o1 2 (.slice y.oa y.op.length y.oc)
 have h3 := SB.setUs h2 rfl y2.us y2.uc
 have y3 := SaAt.setB h2.blk y2 3 (.slice y.ua y.us.length y.uc)
 have o3 := evsl_setB h2.blk o2 3 (.slice y.ua y.us.length y.uc)
 have h4 := SB.setSu h3 rfl y3.su y3.sc
 have o4 := evsl_setB h3.blk o3 4 (.slice y.sa y.su.length y.sc)
 exact evsl_setB h4.blk o4 5 (.slice y.ta y.tb.length y.tc)
end Go.Proofs.YtapacckmgmdnoaaGreat
namespace Go.Proofs.YtapacckmgmdnoaaGreat
open Go.RowKit Go.Sort Go.Proofs
set_option linter.unusedVariables false
set_option maxRecDepth 100000
set_option maxRecDepth 100000
theorem count_mono (p : Nat → Bool) : ∀ n, (∀ a b, a ≤ b → b < n → p a = true → p b = true) → (List.range n).countP (fun i => !p i) ≤ n ∧ (∀ j, j < (List.range n).countP (fun i => !p i) → p j = false) ∧ (∀ j, (List.range n).countP (fun i => !p i) ≤ j → j < n → p j = true)
 | 0, _ => ⟨by simp, fun j h => absurd h (by simp), fun j _ h => absurd h (by omega)⟩
 | n + 1, h => by
  obtain ⟨h1, h2, h3⟩ := count_mono p n (fun a b hab hb => h a b hab (by omega))
  rw [List.range_succ, List.countP_append]
  generalize (List.range n).countP (fun i => !p i) = k at *
  by_cases hp : p n = true
  ·have e : [n].countP (fun i => !p i) = 0 := by simp [hp]
   rw [e, Nat.add_zero]
   refine ⟨by omega, h2, fun j hj hjn => ?_⟩
   rcases Nat.lt_or_ge j n with h4 | h4
   ·exact h3 j hj h4
   ·obtain rfl : j = n := by omega
    exact hp
  ·have hp' : p n = false := by simpa using hp
   have e : [n].countP (fun i => !p i) = 1 := by simp [hp']
   have hk : k = n := by
    rcases Nat.lt_or_ge k n with h4 | h4
    ·exact absurd (h k n (by omega) (by omega) (h3 k (Nat.le_refl _) h4)) hp
    ·omega
   subst hk
   rw [e]
   refine ⟨Nat.le_refl _, fun j hj => ?_, fun j hj hjn => absurd hjn (by omega)⟩
   rcases Nat.lt_or_ge j k with h4 | h4
   ·exact h2 j h4
   ·obtain rfl : j = k := by omega
    exact hp'
def pS (f : Int) (r : List SpM) (i : Nat) : Bool := decide (f < (r.getD i ⟨0, 0⟩).t)
theorem pS_at {f : Int} {r : List SpM} {i : Nat} (h : i < r.length) : pS f r i = decide (f < r[i].t) := by
 unfold pS
 rw [List.getD_eq_getElem?_getD, List.getElem?_eq_getElem h]
 rfl
theorem norm_up {r : List SpM} (h : NormL r) : ∀ a b, a ≤ b → ∀ (hb : b < r.length), ∀ (ha : a < r.length), r[a].t ≤ r[b].t := by
 induction r with
 | nil => intro a b _ hb; exact absurd hb (by simp)
 | cons s r ih =>
  intro a b hab hb ha
  cases a with
  | zero =>
   cases b with
   | zero => exact Int.le_refl _
   | succ b =>
    have hb' : b < r.length := by simpa using hb
    have h1 := h.1.2.1 r[b] (List.getElem_mem hb')
    have h2 := h.2 r[b] (List.mem_cons_of_mem _ (List.getElem_mem hb'))
    show s.t ≤ r[b].t
    omega
  | succ a =>
   cases b with
   | zero => omega
   | succ b => exact ih h.tail a b (by omega) (by simpa using hb) (by simpa using ha)
theorem pS_mono {f : Int} {r : List SpM} (h : NormL r) : ∀ a b, a ≤ b → b < r.length → pS f r a = true → pS f r b = true := fun a b hab hb hp => by
 rw [pS_at (by omega)] at hp
 rw [pS_at hb]
 have h1 := norm_up h a b hab hb (by omega)
 have h2 := of_decide_eq_true hp
 exact decide_eq_true (by omega)
theorem norm_drop : ∀ {r : List SpM} (k : Nat), NormL r → NormL (r.drop k)
 | [], k, h => by simpa using h
 | s :: r, 0, h => h
 | s :: r, k + 1, h => norm_drop k h.tail
theorem rowOf_stop {s : SpM} {q : List SpM} {j : Nat} (hq : NormL q) (ht : ∀ n ∈ q, s.f < n.t) (hj : j < q.length) (h : ¬ (meetS s q[j]).f < (meetS s q[j]).t) : rowOf s (q.take j) = rowOf s q := by
 have h1 := rowOf_append s (q.take j) (q.drop j)
 rw [List.take_append_drop, List.drop_eq_getElem_cons hj] at h1
 have h2 := norm_drop j hq
 rw [List.drop_eq_getElem_cons hj] at h2
 rw [rowOf_rest h2 (ht _ (List.getElem_mem hj)) h, List.append_nil] at h1
 exact h1.symm
def cntS (f : Int) (r : List SpM) : Nat := (List.range r.length).countP (fun i => !pS f r i)
theorem cntS_is {s : SpM} {r : List SpM} (h : NormL r) : cntS s.f r ≤ r.length ∧ rowOf s (r.drop (cntS s.f r)) = rowOf s r ∧ (∀ n ∈ r.drop (cntS s.f r), s.f < n.t) := by
 obtain ⟨h1, h2, h3⟩ := count_mono (pS s.f r) r.length (pS_mono h)
 refine ⟨h1, rowOf_drop fun j hj hjk => ?_, fun n hn => ?_⟩
 ·have := h2 j hjk
  rw [pS_at hj] at this
  have := of_decide_eq_false this
  omega
 ·obtain ⟨j, hj, hkj, rfl⟩ := mem_drop_get hn
  have := h3 j hkj hj
  rw [pS_at hj] at this
  exact of_decide_eq_true this
set_option maxHeartbeats 1000000 in
theorem closure8_any (x : StM) (b off c p g i : Nat) (r : List SpM) (W : World) (hi : i < r.length) (hr : SpSl W (some ⟨b, off, none⟩) r)
  (hp : W.cell? ⟨p, 0, none⟩ = some (.slice (some ⟨b, off, none⟩) r.length c)) (hg : W.cell? ⟨g, 0, none⟩ = some (.int .i64 x.f)) (hl : r.length ≤ 1000000) :
  Calls Tryz.prog 200 #[.int .i64 i, .pointer (some ⟨p, 0, none⟩), .pointer (some ⟨g, 0, none⟩)] W fun e w' => e = .returned (.bool (pS x.f r i)) ∧ Grew W w' := by
 obtain ⟨b1, o1, e1, hb1, hc0, hc1⟩ := hr.at_ hi
 cases e1
 have HE := Lib.hid (pS_at (f := x.f) hi)
 rw [HE.out]
 clear hr
 generalize r[i] = y at *
 generalize x.f = f at *
 go_enter Tryz.func200, Tryz.ntmps200
 go_wp2
 go_quiet (fail)
 go_wp2
 go_ret
 exact ⟨rfl, ⟨_, #[], by rw [grow_empty]⟩⟩
structure PcK (w : World) (g : Nat) (x : StM) (a : Option Addr) (l : List SpM) (W : World) : Prop where
 box : W.heap[g]? = some (.cells #[.int .i64 x.f, .int .i64 x.t, .int .i64 x.n, .int .i64 x.s] 111 (0, 0))
 row : SpSl W a l
 frame : Below w.heap.size w W
theorem PcK.below {w W W' : World} {g : Nat} {x : StM} {a : Option Addr} {l : List SpM} (h : PcK w g x a l W) (q : Below W.heap.size W W') : PcK w g x a l W' :=
 ⟨(q.block _ (heap_lt h.box)).trans h.box, h.row.below q, h.frame.trans (q.mono h.frame.size)⟩
theorem PcK.app {w w4 w5 : World} {x : StM} {X : Option Addr} {q : List SpM} {o : Obj} {v : Value} {e k n : Nat} {xs : List Value} (h : PcK w w.heap.size x X q w4) (hr : SpSl w X q) (hs : w.heap.size + 2 ≤ w4.heap.size) (ho : (w4.alloc o).ownsRow (w.heap.size + 2) e k v n xs) (hg : (w4.alloc o).grownBy w5 v.ownBlock) : PcK w w.heap.size x X q w5 ∧ w.heap.size + 2 ≤ w5.heap.size := by
 have hs' : w.heap.size + 2 ≤ (w4.alloc o).heap.size := by rw [size1]; omega
 have h1 := app_below (Below.refl _ _) hs' ho hg
 have h2 : Below w.heap.size w (w4.alloc o) := h.frame.trans ((below_one w4 o).mono h.frame.size)
 have h3 := app_below h2 h2.size (own_low ho (by omega)) hg
 refine ⟨⟨?_, hr.below h3, h3⟩, Nat.le_trans hs' h1.size⟩
 rw [h1.block _ (by omega), (below_one w4 o).block _ (heap_lt h.box)]
 exact h.box
theorem SpSl.sdrop {w : World} {b off : Nat} {l : List SpM} (h : SpSl w (some ⟨b, off, none⟩) l) (n : Nat) : SpSl w (some ⟨b, off + n * 2, none⟩) (l.drop n) := fun k hk => by
 obtain ⟨b', off', e, hlt, h0, h1⟩ := h (n + k) (by simp at hk; omega)
 cases e
 rw [List.getElem_drop]
 exact ⟨b, off + n * 2, rfl, hlt, by rw [show off + n * 2 + k * 2 = off + (n + k) * 2 by omega]; exact h0, by rw [show off + n * 2 + k * 2 + 1 = off + (n + k) * 2 + 1 by omega]; exact h1⟩
theorem pieces_take {x : StM} {q : List SpM} {j : Nat} (h : j < q.length) (k : (meetS x.sp q[j]).f < (meetS x.sp q[j]).t) : piecesS x (q.take (j + 1)) = piecesS x (q.take j) ++ [ofSp x (meetS x.sp q[j])] := by
 unfold piecesS
 rw [rowOf_take x.sp q j h, if_pos k, List.map_append]
 rfl
theorem enters8 : ∀ args w, (callFunc 200 args).run Tryz.prog w = .ok (.enter 200 args) w := enters_of Tryz.func200 (by kernel_rfl) rfl
theorem search_any (x : StM) (b off c p g : Nat) (r : List SpM) (W : World) (hn : NormL r) (hr : SpSl W (some ⟨b, off, none⟩) r) (hpl : p < W.heap.size) (hgl : g < W.heap.size)
  (hp : W.cell? ⟨p, 0, none⟩ = some (.slice (some ⟨b, off, none⟩) r.length c)) (hg : W.cell? ⟨g, 0, none⟩ = some (.int .i64 x.f)) (hl : r.length ≤ 1000000) :
  Calls Tryz.prog 199 #[.int .i64 r.length, .func (.func 200) #[] #[.pointer (some ⟨p, 0, none⟩), .pointer (some ⟨g, 0, none⟩)]] W fun e w' => e = .returned (.int .i64 (cntS x.f r : Nat)) ∧ Grew W w' :=
 Any.sort_Search Tryz.laysSearch 200 #[.pointer (some ⟨p, 0, none⟩), .pointer (some ⟨g, 0, none⟩)] r.length (pS x.f r) W enters8 (by omega)
  (fun m os i hi => by
   have hb := below_grown_sl W.heap.size W m os (Nat.le_refl _)
   exact closure8_any x b off c p g i r _ hi (hr.below hb) ((hb.cell (p := ⟨p, 0, none⟩) hpl).trans hp) ((hb.cell (p := ⟨g, 0, none⟩) hgl).trans hg) hl) (pS_mono hn)
theorem search_none (x : StM) (p g : Nat) (W : World) :
  Calls Tryz.prog 199 #[.int .i64 0, .func (.func 200) #[] #[.pointer (some ⟨p, 0, none⟩), .pointer (some ⟨g, 0, none⟩)]] W fun e w' => e = .returned (.int .i64 0) ∧ Grew W w' :=
 Any.sort_Search Tryz.laysSearch 200 #[.pointer (some ⟨p, 0, none⟩), .pointer (some ⟨g, 0, none⟩)] 0 (fun _ => false) W enters8 (by omega) (fun m os i hi => absurd hi (by omega)) (fun a b h hb => absurd hb (by omega))
set_option maxHeartbeats 4000000 in
theorem pieces_any (a : Option Addr) (c : Nat) (r : List SpM) (x : StM) (w : World) (hr : SpSl w a r) (hn : NormL r) (hsh : (a = none ∧ c = 0) ∨ ∃ b off, a = some ⟨b, off, none⟩) (hl : r.length ≤ 1000) (hc : r.length ≤ c) (hcm : c ≤ maxLen) :
  Calls Tryz.prog 135 #[stV x, .slice a r.length c] w fun e w' => ∃ v, e = .returned v ∧ w'.ownsRow w.heap.size 111 4 v (piecesS x r).length (sts (piecesS x r)) ∧ Below w.heap.size w w' := by
 obtain ⟨i0, hi, hz0, hz1, hz2⟩ := info_parts infoStay
 have HNO := Lib.hid none_any
 have HMT := Lib.hid (fun n W => smeet_any x.sp n W)
 unfold spV StM.sp at HMT
 unfold maxLen at hcm
 rcases hsh with ⟨rfl, rfl⟩ | ⟨b, off, rfl⟩
 ·have hr0 : r = [] := List.eq_nil_of_length_eq_zero (by omega)
  subst hr0
  have HSE := Lib.hid search_none
  have HB := Lib.hid (below_two w (.cells #[.int .i64 x.f, .int .i64 x.t, .int .i64 x.n, .int .i64 x.s] 111) (.cells #[.slice none 0 0] 76))
  have HPC : Hid (∀ W, Below (w.heap.size + 2) ((w.alloc (.cells #[.int .i64 x.f, .int .i64 x.t, .int .i64 x.n, .int .i64 x.s] 111)).alloc (.cells #[.slice none 0 0] 76)) W → W.cell? ⟨w.heap.size + 1, 0, none⟩ = some (.slice none 0 0)) := fun W h => by
   have h1 := heap_alloc_new (w.alloc (.cells #[.int .i64 x.f, .int .i64 x.t, .int .i64 x.n, .int .i64 x.s] 111)) (.cells #[.slice none 0 0] 76)
   rw [size1] at h1
   exact cell_of_row _ _ _ _ _ _ ((h.block _ (by omega)).trans h1)
  unfold stV
  clear hr HNO HMT
  go_enter Tryz.func135, Tryz.ntmps135
  go_wp2_with fail
  refine (HSE.out x _ _ _).mono ?_
  rintro e w2 ⟨rfl, hg⟩
  have hpc := HPC.out w2 (hg.below (by rw [size1, size1]; omega))
  have HB2 := Lib.hid (HB.out.trans (hg.below HB.out.size))
  clear hg
  go_wp2
  go_loopw [6, 18] (fun v i wr => i = .int .i64 0 ∧ v = .slice none 0 0 ∧ Hid (Below w.heap.size w wr)) (fun _ i _ => 1)
  case atStart => exact ⟨rfl, rfl, HB2.out⟩
  case round =>
   obtain ⟨rfl, rfl, HB3⟩ := hrel
   go_wp2
   go_ret
   exact ⟨_, rfl, ⟨rfl, .inl ⟨rfl, rfl⟩⟩, HB3.out⟩
 ·have K0 : Hid (PcK w w.heap.size x (some ⟨b, off, none⟩) r ((w.alloc (.cells #[.int .i64 x.f, .int .i64 x.t, .int .i64 x.n, .int .i64 x.s] 111)).alloc (.cells #[.slice (some ⟨b, off, none⟩) r.length c] 76))) :=
   ⟨(Below.heap_alloc _ _ _ (by rw [size1]; omega)).trans (heap_alloc_new w _), hr.below (below_two _ _ _), below_two _ _ _⟩
  have P0 : Hid (((w.alloc (.cells #[.int .i64 x.f, .int .i64 x.t, .int .i64 x.n, .int .i64 x.s] 111)).alloc (.cells #[.slice (some ⟨b, off, none⟩) r.length c] 76)).heap[w.heap.size + 1]? = some (.cells #[.slice (some ⟨b, off, none⟩) r.length c] 76 (0, 0))) := by
   have h1 := heap_alloc_new (w.alloc (.cells #[.int .i64 x.f, .int .i64 x.t, .int .i64 x.n, .int .i64 x.s] 111)) (.cells #[.slice (some ⟨b, off, none⟩) r.length c] 76)
   rwa [size1] at h1
  have HSE := Lib.hid (search_any x b off c (w.heap.size + 1) w.heap.size r _ hn K0.out.row (heap_lt P0.out) (heap_lt K0.out.box) (cell_of_row _ _ _ _ _ _ P0.out) (cells4 K0.out.box).1 (by omega))
  obtain ⟨hk, hrd, hrt⟩ := cntS_is (s := x.sp) hn
  change cntS x.f r ≤ r.length at hk
  change rowOf x.sp (r.drop (cntS x.f r)) = rowOf x.sp r at hrd
  change ∀ n ∈ r.drop (cntS x.f r), x.f < n.t at hrt
  have hqn := norm_drop (cntS x.f r) hn
  generalize cntS x.f r = k at *
  have HPR : Hid (piecesS x (r.drop k) = piecesS x r) := by unfold Hid piecesS; rw [hrd]
  have HST : Hid (∀ j (hj : j < (r.drop k).length), ¬ (meetS x.sp (r.drop k)[j]).f < (meetS x.sp (r.drop k)[j]).t → piecesS x ((r.drop k).take j) = piecesS x (r.drop k)) := fun j hj h => by
   unfold piecesS
   rw [rowOf_stop hqn hrt hj h]
  have HRW0 := Lib.hid (hr.sdrop k)
  clear hrd hrt hqn hr hn
  unfold stV
  go_enter Tryz.func135, Tryz.ntmps135
  go_wp2_with fail
  refine HSE.out.mono ?_
  rintro e w2 ⟨rfl, hg⟩
  have hb := hg.below (Nat.le_refl _)
  have hpc : w2.cell? ⟨w.heap.size + 1, 0, none⟩ = some (.slice (some ⟨b, off, none⟩) r.length c) := cell_of_row _ _ _ _ _ _ ((hb.block _ (heap_lt P0.out)).trans P0.out)
  have K2 := Lib.hid (K0.out.below hb)
  have HSZ : Hid (w.heap.size + 2 ≤ w2.heap.size) := by
   have := hb.size
   rw [size1, size1] at this
   exact this
  clear hg hb HSE P0 K0
  have hkc : k ≤ c := by omega
  by_cases hkr : k < r.length
  ·have hck : ¬ c = k := by omega
   have HLQ : Hid ((r.drop k).length = r.length - k) := List.length_drop ..
   have KQ : Hid (PcK w w.heap.size x (some ⟨b, off + k * 2, none⟩) (r.drop k) w2) := ⟨K2.out.box, K2.out.row.sdrop k, K2.out.frame⟩
   clear K2
   go_wp2
   rw [← HLQ.out]
   generalize r.drop k = q at *
   have hql : q.length ≤ 1000 := by have := HLQ.out; omega
   have HRW := Lib.hid HRW0.out
   clear HLQ hpc HRW0
   generalize hX : (off + k * 2) = o2 at *
   clear hX
   go_loopw [6, 18] (fun v i wr => ∃ (j : Nat), j ≤ q.length ∧ i = .int .i64 j ∧ Hid ((piecesS x (q.take j)).length ≤ j) ∧ Hid (wr.ownsRow (w.heap.size + 2) 111 4 v (piecesS x (q.take j)).length (sts (piecesS x (q.take j)))) ∧ Hid (PcK w w.heap.size x (some ⟨b, o2, none⟩) q wr ∧ w.heap.size + 2 ≤ wr.heap.size)) (fun _ i _ => q.length - (intOf i).toNat)
   case atStart => exact ⟨0, by omega, rfl, by simp [Hid, piecesS, rowOf], ⟨rfl, .inl ⟨rfl, rfl⟩⟩, KQ.out, HSZ.out⟩
   case round =>
    obtain ⟨j, hj, rfl, HLN, HO, HKK⟩ := hrel
    have HK := Lib.hid HKK.out.1
    have HZ := Lib.hid HKK.out.2
    clear HKK
    by_cases hjl : j < q.length
    ·obtain ⟨b1, off1, e1, hbl, hc0, hc1⟩ := HK.out.row.at_ hjl
     cases e1
     obtain ⟨g0, g1, g2, g3⟩ := cells4 HK.out.box
     have hgl := heap_lt HK.out.box
     have HM := Lib.hid (HMT.out q[j])
     have HN := Lib.hid (HNO.out (meetS x.sp q[j]).f (meetS x.sp q[j]).t)
     have HTK := Lib.hid (pieces_take (x := x) hjl)
     have HSP := Lib.hid (HST.out j hjl)
     change Hid (∀ W, Calls Tryz.prog 163 #[.agg #[.int .i64 x.f, .int .i64 x.t], .agg #[.int .i64 q[j].f, .int .i64 q[j].t]] W fun e w' => e = .returned (.agg #[.int .i64 (meetS x.sp q[j]).f, .int .i64 (meetS x.sp q[j]).t]) ∧ Below W.heap.size W w') at HM
     generalize meetS x.sp q[j] = m at *
     generalize q[j] = n at *
     obtain ⟨mf, mt⟩ := m
     dsimp only at HM HN HTK HSP
     have K1 := Lib.hid (HK.out.below (below_one wr (.cells #[.int .i64 n.f, .int .i64 n.t] 90)))
     have O1 := Lib.hid (own_below HO.out (below_one wr (.cells #[.int .i64 n.f, .int .i64 n.t] 90)))
     clear HMT HNO
     go_wp2_with fail
     refine (HM.out _).mono ?_
     rintro e w3 ⟨rfl, hb3⟩
     have HZ3 := Lib.hid (Nat.le_trans (Nat.le_trans HZ.out (below_one wr (.cells #[.int .i64 n.f, .int .i64 n.t] 90)).size) hb3.size)
     have K2 := Lib.hid ((K1.out.below hb3).below (below_one w3 (.cells #[.int .i64 mf, .int .i64 mt] 90)))
     have O2 := Lib.hid (own_below (own_below O1.out hb3) (below_one w3 (.cells #[.int .i64 mf, .int .i64 mt] 90)))
     have C2 := Lib.hid (heap_alloc_new w3 (.cells #[.int .i64 mf, .int .i64 mt] 90))
     clear hb3 K1 O1 g0 g1 g2 g3 hgl hc0 hc1 hbl
     by_cases h1 : mt ≤ mf
     ·have HN1 : Hid (∀ W, Calls Tryz.prog 108 #[.agg #[.int .i64 mf, .int .i64 mt]] W fun e w' => e = .returned (.bool true) ∧ Below W.heap.size W w') := fun W => by
       have := HN.out W
       rwa [decide_eq_true h1] at this
      have HE := Lib.hid (HSP.out (by omega))
      clear HN HTK HSP h1
      go_wp2_with fail
      refine (HN1.out _).mono ?_
      rintro e w4 ⟨rfl, hb4⟩
      have K3 := Lib.hid (K2.out.below hb4)
      have O3 := Lib.hid (own_below O2.out hb4)
      go_wp2
      go_ret
      exact ⟨_, rfl, by rw [← HPR.out, ← HE.out]; exact own_low O3.out (Nat.le_add_right _ _), K3.out.frame⟩
     ·have HN1 : Hid (∀ W, Calls Tryz.prog 108 #[.agg #[.int .i64 mf, .int .i64 mt]] W fun e w' => e = .returned (.bool false) ∧ Below W.heap.size W w') := fun W => by
       have := HN.out W
       rwa [decide_eq_false h1] at this
      have HE := Lib.hid (HTK.out (by omega))
      clear HN HTK HSP h1
      go_wp2_with fail
      refine (HN1.out _).mono ?_
      rintro e w4 ⟨rfl, hb4⟩
      have K3 := Lib.hid (K2.out.below hb4)
      have O3 := Lib.hid (own_below (own_below O2.out hb4) (below_one w4 (.cells #[.int .i64 mf, .int .i64 mt, .int .i64 x.n, .int .i64 x.s] 111)))
      have hcm2 := (hb4.block _ (heap_lt C2.out)).trans C2.out
      have hm0 : w4.cell? ⟨w3.heap.size, 0, none⟩ = some (.int .i64 mf) := cell_of_row _ _ _ _ _ _ hcm2
      have hm1 : w4.cell? ⟨w3.heap.size, 1, none⟩ = some (.int .i64 mt) := cell_of_row _ _ _ _ _ _ hcm2
      obtain ⟨g0, g1, g2, g3⟩ := cells4 K3.out.box
      have HZ4 := Lib.hid (Nat.le_trans (Nat.le_trans HZ3.out (below_one w3 (.cells #[.int .i64 mf, .int .i64 mt] 90)).size) hb4.size)
      have HS2 : Hid (w.heap.size + 2 ≤ (w4.alloc (.cells #[.int .i64 mf, .int .i64 mt, .int .i64 x.n, .int .i64 x.s] 111)).heap.size) := by
       have := HZ4.out
       unfold Hid
       rw [size1]
       omega
      have hlj := HLN.out
      clear hcm2 hb4 K2 O2 C2 HZ3 HZ
      generalize piecesS x (q.take j) = ps at *
      go_wp2_with (at_builtin; refine wpList_append_own _ rfl (.tmp 28) (.tmp 35) 69 rfl (w.heap.size + 2) 111 i0 _ 4 32 Tryz.underlying69 hi hz0 hz1 hz2 rfl (by decide) _ _ _ rfl O3.out ⟨w4.heap.size, 0, none⟩ 1 1 [.int .i64 mf, .int .i64 mt, .int .i64 x.n, .int .i64 x.s] rfl rfl (news_at _ _ _ _ rfl) (four_one _ _ _ _) (by unfold maxLen; omega) (by omega) HS2.out ?_; intro v' w5 hown' hgrow hiff)
      have HO4 := Lib.hid hown'
      have K4 := Lib.hid (K3.out.app HRW.out HZ4.out O3.out hgrow)
      have hpl : ps.length ≤ 1000 := by omega
      clear hown' hiff hgrow O3 K3 HS2 HZ4 g0 g1 g2 g3 hm0 hm1
      go_wp2
      go_roundw
      case rel => exact ⟨j + 1, by omega, by go_num, (by unfold Hid; rw [HE.out, List.length_append, List.length_singleton]; omega), (by unfold Hid; rw [HE.out, List.length_append, sts_snoc]; exact HO4.out), K4.out⟩
      case measure => simp [intOf]; omega
    ·obtain rfl : j = q.length := by omega
     rw [List.take_of_length_le (Nat.le_refl _)] at HO
     go_wp2
     go_ret
     exact ⟨_, rfl, by rw [← HPR.out]; exact own_low HO.out (Nat.le_add_right _ _), HK.out.frame⟩
  ·have hkl : k = r.length := by omega
   have HPN : Hid (piecesS x r = []) := by
    have := HPR.out
    rw [hkl, List.drop_eq_nil_of_le (Nat.le_refl _)] at this
    rw [Hid, ← this]
    rfl
   subst hkl
   clear HST HPR
   by_cases hck : c = r.length
   ·subst hck
    go_wp2
    go_loopw [6, 18] (fun v i wr => i = .int .i64 0 ∧ v = .slice none 0 0 ∧ Hid (Below w.heap.size w wr)) (fun _ i _ => 1)
    case atStart => exact ⟨rfl, rfl, K2.out.frame⟩
    case round =>
     obtain ⟨rfl, rfl, HB3⟩ := hrel
     go_wp2
     go_ret
     rw [HPN.out]
     exact ⟨_, rfl, ⟨rfl, .inl ⟨rfl, rfl⟩⟩, HB3.out⟩
   ·go_wp2
    go_loopw [6, 18] (fun v i wr => i = .int .i64 0 ∧ v = .slice none 0 0 ∧ Hid (Below w.heap.size w wr)) (fun _ i _ => 1)
    case atStart => exact ⟨rfl, rfl, K2.out.frame⟩
    case round =>
     obtain ⟨rfl, rfl, HB3⟩ := hrel
     go_wp2
     go_ret
     rw [HPN.out]
     exact ⟨_, rfl, ⟨rfl, .inl ⟨rfl, rfl⟩⟩, HB3.out⟩
theorem own_shape {w : World} {B e k n : Nat} {v : Value} {xs : List Value} (h : w.ownsRow B e k v n xs) : ∃ a c, v = .slice a n c ∧ ((a = none ∧ c = 0) ∨ ∃ b off, a = some ⟨b, off, none⟩) ∧ n ≤ c ∧ c ≤ maxLen := by
 rcases h.2 with ⟨rfl, hn⟩ | ⟨g, cap, cur, rfl, hg, hh, hn, hc, hsz, ht⟩
 ·subst hn
  exact ⟨none, 0, rfl, .inl ⟨rfl, rfl⟩, Nat.le_refl _, by unfold maxLen; omega⟩
 ·exact ⟨_, cap, rfl, .inr ⟨_, _, rfl⟩, hn, hc⟩
set_option maxHeartbeats 4000000 in
theorem cut_any (a : Option Addr) (c : Nat) (l : List StM) (xb : Option Addr) (cb : Nat) (by_ : List SpM) (w : World) (hr : StSl w a l) (hb : SpSl w xb by_) (hl : l.length ≤ 100000) (hlb : by_.length ≤ 1000) (hcb : by_.length ≤ cb) (hcm : cb ≤ maxLen) (hs : l.length * by_.length ≤ 100000) :
  Calls Tryz.prog 64 #[.slice a l.length c, .slice xb by_.length cb] w fun e w' => ∃ v m, e = .returned v ∧ IsCut l (HasL by_) m ∧ m.length ≤ l.length * by_.length ∧ w'.ownsRow w.heap.size 111 4 v m.length (sts m) ∧ Below w.heap.size w w' := by
 obtain ⟨i0, hi, hz0, hz1, hz2⟩ := info_parts infoStay
 have HR := Lib.hid hr
 have HN := Lib.hid (norm_any xb cb by_ w hb (by omega) hcb hcm)
 have HPI := Lib.hid pieces_any
 unfold stV at HPI
 have HSO := Lib.hid sort8_any
 clear hr hb
 have HSZ := Lib.hid hs
 clear hs
 unfold maxLen at hcm
 go_enter Tryz.func64, Tryz.ntmps64
 go_wp2_with fail
 refine HN.out.mono ?_
 rintro e w1 ⟨vn, r, rfl, hset, hrl, ho, hb1⟩
 obtain ⟨na, nc, rfl, hsh, hnc, hncm⟩ := own_shape ho
 have hsp : SpSl w1 na r := by
  obtain ⟨a', c', e1, _, h1⟩ := own_sp ho
  injection e1 with e1 _ _
  rw [e1]; exact h1
 have HW : Hid (∀ W x, Below w1.heap.size w1 W → Calls Tryz.prog 135 #[.agg #[.int .i64 x.f, .int .i64 x.t, .int .i64 x.n, .int .i64 x.s], .slice na r.length nc] W fun e w' => ∃ v, e = .returned v ∧ w'.ownsRow W.heap.size 111 4 v (piecesS x r).length (sts (piecesS x r)) ∧ Below W.heap.size W w') := fun W x h => HPI.out na nc r x W (hsp.below h) hset.1 hsh (by omega) hnc hncm
 have HSET := Lib.hid hset
 have HB1 := Lib.hid hb1
 have HRL : Hid (l.length * r.length ≤ l.length * by_.length) := Nat.mul_le_mul_left _ hrl
 have HRA := Lib.hid (fun j => raw_le r (l.take j))
 clear hset ho hsp hsh hb1 HN HPI hnc hncm hrl
 have hrl2 : Hid (∀ j, j ≤ l.length → (rawS (l.take j) r).length ≤ 100000) := fun j hj => by
  have h1 := HRA.out j
  have h2 : (l.take j).length * r.length ≤ l.length * r.length := Nat.mul_le_mul_right _ (by simp; omega)
  have := HRL.out
  have := HSZ.out
  omega
 go_wp2
 go_loopw [6, 13] (fun v i wr => ∃ (j : Nat), j ≤ l.length ∧ i = .int .i64 j ∧ Hid (wr.ownsRow w1.heap.size 111 4 v (rawS (l.take j) r).length (sts (rawS (l.take j) r))) ∧ Hid (Below w1.heap.size w1 wr)) (fun _ i _ => l.length - (intOf i).toNat)
 case atStart => exact ⟨0, by omega, rfl, ⟨rfl, .inl ⟨rfl, rfl⟩⟩, Below.refl _ _⟩
 case round =>
  obtain ⟨j, hj, rfl, HO, HB⟩ := hrel
  have HBW := Lib.hid (HB1.out.trans (HB.out.mono HB1.out.size))
  by_cases hjl : j < l.length
  ·obtain ⟨b, off, rfl, hbl, hc0, hc1, hc2, hc3⟩ := (HR.out.below HBW.out).at_ hjl
   have HC := Lib.hid (raw_take l r j hjl)
   have HLJ := Lib.hid (hrl2.out (j + 1) (by omega))
   generalize l[j] = x at *
   have HX := Lib.hid (fun W h => HW.out W x h)
   have HB2 := Lib.hid (HB.out.trans ((below_one wr (.cells #[.int .i64 x.f, .int .i64 x.t, .int .i64 x.n, .int .i64 x.s] 111)).mono HB.out.size))
   have HO2 := Lib.hid (own_below HO.out (below_one wr (.cells #[.int .i64 x.f, .int .i64 x.t, .int .i64 x.n, .int .i64 x.s] 111)))
   rw [HC.out, List.length_append] at HLJ
   generalize hM : rawS (l.take j) r = M at *
   go_wp2_with fail
   refine (HX.out _ HB2.out).mono ?_
   rintro e w3 ⟨v3, rfl, ho3, hb3⟩
   have HB3 := Lib.hid (HB2.out.trans (hb3.mono HB2.out.size))
   have HO3 := Lib.hid (own_below HO2.out hb3)
   obtain ⟨pa, pc, rfl, _, _, hps, hpn⟩ := own_st ho3
   have HPS := Lib.hid hps
   have HPN := Lib.hid hpn
   generalize piecesS x r = ps at *
   have hlen : M.length + ps.length ≤ 1000000 := by have := HLJ.out; omega
   clear ho3 hb3 hps hpn HB2 HO2
   go_wp2_with (at_builtin; refine wpList_append_st _ rfl (.tmp 17) (.tmp 20) 69 rfl w1.heap.size 111 i0 _ Tryz.underlying69 hi hz0 hz1 hz2 rfl _ M rfl HO3.out pa pc ps rfl HPS.out HPN.out hlen HB3.out.size ?_; intro v4 w4 hown4 hB4)
   have HO4 := Lib.hid hown4
   have HB4 := Lib.hid (HB3.out.trans hB4)
   clear hown4 hB4
   go_wp2
   go_roundw
   case rel => exact ⟨j + 1, by omega, by go_num, (by unfold Hid; rw [HC.out]; exact HO4.out), HB4.out⟩
   case measure => simp [intOf]; omega
  ·obtain rfl : j = l.length := by omega
   have HLJ := hrl2.out l.length (Nat.le_refl _)
   rw [List.take_of_length_le (Nat.le_refl _)] at HO HLJ
   have HRA2 := Lib.hid (HRA.out l.length)
   rw [List.take_of_length_le (Nat.le_refl _)] at HRA2
   generalize hM : rawS l r = M at *
   have HS := Lib.hid (HSO.out w1.heap.size _ M wr HB.out.size HO.out (by omega))
   clear HLJ
   go_wp2_with fail
   refine HS.out.mono ?_
   rintro e w5 ⟨rfl, m, hperm, hsort, ho5, hb5⟩
   go_wp2
   go_ret
   refine ⟨_, m, rfl, ⟨r, HSET.out, hM ▸ hperm, hsort⟩, ?_, own_low ho5 HB1.out.size, HB1.out.trans ((HB.out.trans hb5).mono HB1.out.size)⟩
   rw [hperm.length_eq]
   exact Nat.le_trans HRA2.out HRL.out
end Go.Proofs.YtapacckmgmdnoaaGreat
namespace Go.Proofs.YtapacckmgmdnoaaGreat
set_option linter.unusedVariables false
set_option maxRecDepth 100000
def an11 : ByteArray := ⟨#[97, 110, 110]⟩
def no11 : ByteArray := ⟨#[]⟩
def sA1 : SaM := ⟨3, 0, [⟨1, an11, 1, 3⟩], [], [], []⟩
theorem an_name : nameB an11 = true := by decide
theorem rv1 : RightV 1 3 1 1 an11 no11 := ⟨by decide, by decide, .inl ⟨.inl rfl, by decide, by decide, an_name, rfl, by decide, by decide⟩⟩
theorem aE1 : errS saZ 1 3 1 1 an11 no11 = 0 := by unfold errS; rw [if_pos rv1, if_neg (by decide)]; rfl
theorem aT1 : tellS saZ 1 3 1 1 an11 no11 = sA1 := by unfold tellS; rw [aE1, if_pos rfl]; rfl
theorem aF : findC [⟨1, an11, 1, 3⟩] 1 an11 = 0 ∧ findE [⟨1, an11, 1, 3⟩] 1 an11 = ⟨1, an11, 1, 3⟩ ∧ findP [⟨1, an11, 1, 3⟩] 1 an11 = 0 := fc_hit (l := [⟨1, an11, 1, 3⟩]) (n := 1) (k := 0) ⟨by decide, fun i hi h => absurd h (by omega), fun _ => rfl⟩ (by decide) rfl
end Go.Proofs.YtapacckmgmdnoaaGreat
