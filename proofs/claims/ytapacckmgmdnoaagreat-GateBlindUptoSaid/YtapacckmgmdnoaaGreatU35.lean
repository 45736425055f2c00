/- Texts of mine, one behind the other, of each what is wanted. -/
import Derived.Test.YtapacckmgmdnoaaGreatU00
import Derived.Test.YtapacckmgmdnoaaGreatShelf
import Derived.Test.YtapacckmgmdnoaaGreatRows
import Derived.Test.YtapacckmgmdnoaaGreatU01
import Derived.Test.YtapacckmgmdnoaaGreatU02
import Derived.Test.YtapacckmgmdnoaaGreatU04
import Derived.Test.YtapacckmgmdnoaaGreatU07
import Derived.Test.YtapacckmgmdnoaaGreatU09
import Derived.Test.YtapacckmgmdnoaaGreatU11
import Derived.Test.YtapacckmgmdnoaaGreatU15
import Derived.Test.YtapacckmgmdnoaaGreatU16
import Derived.Test.YtapacckmgmdnoaaGreatU23
import Derived.Test.YtapacckmgmdnoaaGreatU30
import Derived.Test.YtapacckmgmdnoaaGreatU31
namespace Go.Proofs.YtapacckmgmdnoaaGreat
open Go.RowKit Go.Proofs
set_option linter.unusedVariables false
set_option maxRecDepth 100000
set_option maxRecDepth 100000
def Is (w : World) (s : SaM) (r : Ending) (w' : World) : Prop := ∃ y, r = .returned (saV y) ∧ SaAt w' y ∧ y.m = s ∧ Below w.heap.size w w'
end Go.Proofs.YtapacckmgmdnoaaGreat
namespace Go.Proofs.YtapacckmgmdnoaaGreat
open Go.RowKit Go.Proofs
set_option linter.unusedVariables false
set_option maxRecDepth 100000
structure AskM where
 w : ByteArray
 u : ByteArray
 f : Int
 t : Int
 n : Int
def askC (q : AskM) : Array Value := #[.string q.w, .string q.u, .int .i64 q.f, .int .i64 q.t, .int .i64 q.n]
def askV (q : AskM) : Value := .agg (askC q)
structure QB (w : World) (g : Nat) (T : TypeId) (q : AskM) (W : World) : Prop where
 blk : W.heap[g]? = some (.cells (askC q) T (0, 0))
 ge : w.heap.size ≤ g
 frame : Below w.heap.size w W
theorem QB.lt {w W : World} {g : Nat} {T : TypeId} {q : AskM} (h : QB w g T q W) : g < W.heap.size := heap_lt h.blk
theorem QB.below {w W W' : World} {g : Nat} {T : TypeId} {q : AskM} (h : QB w g T q W) (k : Below W.heap.size W W') : QB w g T q W' := ⟨(k.block g h.lt).trans h.blk, h.ge, h.frame.trans (k.mono h.frame.size)⟩
theorem QB.alloc {w W : World} {g : Nat} {T : TypeId} {q : AskM} (h : QB w g T q W) (o : Obj) : QB w g T q (W.alloc o) := h.below (below_one _ _)
theorem QB.new {w V : World} (hb : Below w.heap.size w V) (q : AskM) (T : TypeId) : QB w V.heap.size T q (V.alloc (.cells (askC q) T)) := ⟨heap_alloc_new _ _, hb.size, hb.trans ((below_one _ _).mono hb.size)⟩
theorem QB.cells {w W : World} {g : Nat} {T : TypeId} {q : AskM} (h : QB w g T q W) : W.cell? ⟨g, 0, none⟩ = some (.string q.w) ∧ W.cell? ⟨g, 1, none⟩ = some (.string q.u) ∧ W.cell? ⟨g, 2, none⟩ = some (.int .i64 q.f) ∧ W.cell? ⟨g, 3, none⟩ = some (.int .i64 q.t) ∧ W.cell? ⟨g, 4, none⟩ = some (.int .i64 q.n) :=
 ⟨cell_of_row _ _ _ _ _ _ h.blk, cell_of_row _ _ _ _ _ _ h.blk, cell_of_row _ _ _ _ _ _ h.blk, cell_of_row _ _ _ _ _ _ h.blk, cell_of_row _ _ _ _ _ _ h.blk⟩
structure SQ (w : World) (g k : Nat) (T U : TypeId) (x : SaL) (q : AskM) (W : World) : Prop where
 s : SB w g T x W
 q : QB w k U q W
theorem SQ.below {w W W' : World} {g k : Nat} {T U : TypeId} {x : SaL} {q : AskM} (h : SQ w g k T U x q W) (b : Below W.heap.size W W') : SQ w g k T U x q W' := ⟨h.s.below b, h.q.below b⟩
theorem SQ.alloc {w W : World} {g k : Nat} {T U : TypeId} {x : SaL} {q : AskM} (h : SQ w g k T U x q W) (o : Obj) : SQ w g k T U x q (W.alloc o) := h.below (below_one _ _)
theorem SQ.drew {w W : World} {g k : Nat} {T U : TypeId} {x : SaL} {q : AskM} (h : SQ w g k T U x q W) : SQ w g k T U x q W.drew := h.below (Below.refl _ _).drew
theorem SQ.new (w : World) {x : SaL} (q : AskM) (h : SaAt w x) (T U : TypeId) : SQ w w.heap.size (w.heap.size + 1) T U x q ((w.alloc (.cells (saC x) T)).alloc (.cells (askC q) U)) := by
 have S := SB.new (Below.refl w.heap.size w) h T
 have Q := QB.new S.frame q U
 rw [size1] at Q
 exact ⟨S.alloc _, Q⟩
theorem SQ.new2 (w : World) {x : SaL} (q : AskM) (h : SaAt w x) (T U : TypeId) : SQ w (w.heap.size + 1) w.heap.size T U x q ((w.alloc (.cells (askC q) U)).alloc (.cells (saC x) T)) := by
 have Q := QB.new (Below.refl w.heap.size w) q U
 have S := SB.new Q.frame (h.below (below_one w (.cells (askC q) U))) T
 rw [size1] at S
 exact ⟨S, Q.alloc _⟩
set_option maxHeartbeats 2000000 in
theorem sees_any13 (x : SaL) (p u : ByteArray) (at_ : Int) (w : World) (h : SaAt w x) (hf : x.m.su.length ≤ 1000) :
  Calls Tryz.prog 53 #[saV x, pr p u, .int .i64 at_] w fun e w' => e = .returned (.bool (hasB (perS x.m.su p u) at_)) ∧ Below w.heap.size w w' := by
 have S := SB.new (Below.refl w.heap.size w) h 39
 have S := S.alloc (.cells #[.string p, .string u] 79)
 have HP := Lib.hid (fun V (h : EnSl V x.sa x.su) => e_periods x.sa x.sc x.su p u V h hf)
 have HS := Lib.hid S
 obtain ⟨c0, c1, c2, c3, c4, c5⟩ := S.cells
 have hnew := heap_alloc_new (w.alloc (.cells (saC x) 39)) (.cells #[.string p, .string u] 79)
 rw [size1] at hnew
 have p0 := cell_of_row _ _ 0 _ _ (0, 0) hnew
 have p1 := cell_of_row _ _ 1 _ _ (0, 0) hnew
 rw [show x.m.su = x.su from rfl]
 obtain ⟨now, hor, oa, op, oc, ua, us, uc, sa, su, sc, ta, tb, tc⟩ := x
 unfold saV saC pr at *
 dsimp only at *
 clear h hf S hnew
 go_enter Tryz.func53, Tryz.ntmps53
 go_wp2_with fail
 refine (HP.out _ HS.out.at_.su).mono ?_
 rintro e w1 ⟨y, q, r, rfl, k1, k2, k3, k4, k5, k6, h1⟩
 have hr : hasB r at_ = hasB (perS su p u) at_ := by rw [Bool.eq_iff_iff, hasB_iff, hasB_iff]; exact k1.2 at_
 have HH := Lib.hid (lhas_any y q r at_ w1 k6 (by omega))
 have HF := Lib.hid (HS.out.frame.trans (h1.mono HS.out.frame.size))
 rw [hr] at HH
 clear HP HS k1 k2 k3 k4 k5 k6 h1 c0 c1 c2 c3 c4 c5 p0 p1
 go_wp2_with fail
 refine HH.out.mono ?_
 rintro e w2 ⟨rfl, h2⟩
 have HF2 := Lib.hid (HF.out.trans (h2.mono HF.out.size))
 clear HH HF
 go_wp2
 go_ret
 exact ⟨rfl, HF2.out⟩
structure GtK (w : World) (x : SaL) (q : AskM) (g : Nat) (m : SpM) (W : World) : Prop where
 sq : SQ w (w.heap.size + 1) w.heap.size 39 92 x q W
 sp : W.heap[g]? = some (.cells #[.int .i64 m.f, .int .i64 m.t] 90 (0, 0))
theorem GtK.below {w W W' : World} {x : SaL} {q : AskM} {g : Nat} {m : SpM} (h : GtK w x q g m W) (k : Below W.heap.size W W') : GtK w x q g m W' := ⟨h.sq.below k, (k.block g (heap_lt h.sp)).trans h.sp⟩
theorem GtK.alloc {w W : World} {x : SaL} {q : AskM} {g : Nat} {m : SpM} (h : GtK w x q g m W) (o : Obj) : GtK w x q g m (W.alloc o) := h.below (below_one _ _)
theorem GtK.drew {w W : World} {x : SaL} {q : AskM} {g : Nat} {m : SpM} (h : GtK w x q g m W) : GtK w x q g m W.drew := h.below (Below.refl _ _).drew
theorem GtK.cells {w W : World} {x : SaL} {q : AskM} {g : Nat} {m : SpM} (h : GtK w x q g m W) : W.cell? ⟨g, 0, none⟩ = some (.int .i64 m.f) ∧ W.cell? ⟨g, 1, none⟩ = some (.int .i64 m.t) ∧ W.cell? ⟨w.heap.size + 1, 4, none⟩ = some (.slice x.sa x.su.length x.sc) ∧ W.cell? ⟨w.heap.size, 0, none⟩ = some (.string q.w) ∧ W.cell? ⟨w.heap.size, 1, none⟩ = some (.string q.u) :=
 ⟨cell_of_row _ _ _ _ _ _ h.sp, cell_of_row _ _ _ _ _ _ h.sp, h.sq.s.cells.2.2.2.2.1, h.sq.q.cells.1, h.sq.q.cells.2.1⟩
set_option maxHeartbeats 4000000 in
theorem told_any13 (x : SaL) (q : AskM) (w : World) (h : SaAt w x) (hf : x.m.su.length ≤ 300) :
  Calls Tryz.prog 100 #[askV q, saV x] w fun e w' => ∃ y c r, e = .returned (.slice y r.length c) ∧ IsSet (gateP x.m q.w q.u q.f q.t) r ∧ r.length ≤ x.m.su.length + 1 ∧ r.length ≤ c ∧ c ≤ maxLen ∧ SpSl w' y r ∧ Below w.heap.size w w' := by
 have SS := SQ.new2 w q h 39 92
 have HS := Lib.hid SS
 have HMT := Lib.hid (fun V => smeet_any ⟨q.f, q.t⟩ ⟨x.hor, 1099511627776⟩ V)
 have HP := Lib.hid (fun V (h : EnSl V x.sa x.su) => e_periods x.sa x.sc x.su q.w q.u V h (Nat.le_trans hf (by decide)))
 have HG := Lib.hid (fun r h => gate_prog (s := x.m) (w := q.w) (u := q.u) (f := q.f) (t := q.t) (r := r) h)
 have hf' : x.su.length ≤ 300 := hf
 rw [show x.m.su = x.su from rfl]
 rw [show x.m.su = x.su from rfl, show x.m.hor = x.hor from rfl] at HG
 generalize gateP x.m q.w q.u q.f q.t = P at *
 have HKK := Lib.hid (fun W1 (m : SpM) (h1 : Below ((w.alloc (.cells (askC q) 92)).alloc (.cells (saC x) 39)).heap.size ((w.alloc (.cells (askC q) 92)).alloc (.cells (saC x) 39)) W1) => (⟨(SS.below h1).alloc _, heap_alloc_new _ _⟩ : GtK w x q W1.heap.size m (W1.alloc (.cells #[.int .i64 m.f, .int .i64 m.t] 90))))
 have HSC := Lib.hid (fun g m V (k : GtK w x q g m V) => k.cells)
 obtain ⟨c0, c1, c2, c3, c4, c5⟩ := SS.s.cells
 obtain ⟨a0, a1, a2, a3, a4⟩ := SS.q.cells
 obtain ⟨now, hor, oa, op, oc, ua, us, uc, sa, su, sc, ta, tb, tc⟩ := x
 obtain ⟨qw, qu, qf, qt, qn⟩ := q
 unfold saV saC askV askC spV at *
 dsimp only at *
 generalize hm : meetS ⟨qf, qt⟩ ⟨hor, 1099511627776⟩ = m at *
 clear h hf SS
 go_enter Tryz.func100, Tryz.ntmps100
 go_wp2_with fail
 refine (HMT.out _).mono ?_
 rintro e w1 ⟨rfl, h1⟩
 have KK := HKK.out w1 m h1
 clear c0 c1 c2 c3 c4 c5 a0 a1 a2 a3 a4 HS HMT HKK h1
 go_wp2_with fail
 generalize w1.alloc (.cells #[.int .i64 m.f, .int .i64 m.t] 90) = W2 at *
 generalize w1.heap.size = g at *
 have HMM : Hid (∀ V (b : Nat) y c (r : List SpM), SpSl V (some ⟨b, 0, none⟩) [m] → SpSl V y r → IsSet (HasL (perS su qw qu)) r → r.length ≤ su.length → r.length ≤ c → c ≤ maxLen → Calls Tryz.prog 164 #[.slice (some ⟨b, 0, none⟩) 1 1, .slice y r.length c] V fun e w' => ∃ z q s, e = .returned (.slice z s.length q) ∧ IsSet P s ∧ s.length ≤ su.length + 1 ∧ s.length ≤ q ∧ q ≤ maxLen ∧ SpSl w' z s ∧ Below V.heap.size V w') := fun V b y c r h1 h2 h3 h4 h5 h6 => by
  refine (n_meet (some ⟨b, 0, none⟩) 1 y c [m] r V h1 h2 (by simp) h5 (by decide) h6 (by simp) (by omega)).mono ?_
  rintro e w' ⟨z, q, s, rfl, k1, k2, k3, k4, -, k5, k6⟩
  rw [List.length_singleton] at k2
  exact ⟨z, q, s, rfl, HG.out s (k1.congr fun x => by rw [h3.2]), by omega, k3, k4, k5, k6⟩
 have K0 := KK.drew
 have K0b := (KK.alloc (.cells #[.int .i64 m.f, .int .i64 m.t] 90)).drew
 have R0b := (cells_sp W2 [m] #[.int .i64 m.f, .int .i64 m.t] 90 _ rfl rfl).below (Below.refl _ _).drew
 clear HG hf' KK hm
 go_region_held3 (fun V => V.cell? ⟨g, 0, none⟩ = some (.int .i64 m.f) ∧ V.cell? ⟨g, 1, none⟩ = some (.int .i64 m.t) ∧ V.cell? ⟨w.heap.size + 1, 4, none⟩ = some (.slice sa su.length sc) ∧ V.cell? ⟨w.heap.size, 0, none⟩ = some (.string qw) ∧ V.cell? ⟨w.heap.size, 1, none⟩ = some (.string qu))
  (first | with_reducible exact HSC.out _ _ _ K2 | with_reducible exact HSC.out _ _ _ K1b | with_reducible exact HSC.out _ _ _ K1 | with_reducible exact HSC.out _ _ _ K0b | with_reducible exact HSC.out _ _ _ K0)
  (first | (have hseen := K1; clear hseen; go_at_call 164; (first | (refine (HMM.out _ _ _ _ _ R1 k6 k1 k2 k3 k4).mono ?_; rintro e v2 ⟨z, p, s, rfl, l1, l2, l3, l4, l5, h2⟩; have K2 := K1.below h2) | (refine (HMM.out _ _ _ _ _ R1b Y1b k1 k2 k3 k4).mono ?_; rintro e v2 ⟨z, p, s, rfl, l1, l2, l3, l4, l5, h2⟩; have K2 := K1b.below h2))) | (have hseen := K0; clear hseen; go_at_call 43; (first | (refine (HP.out _ K0.sq.s.at_.su).mono ?_; rintro e v1 ⟨y, c, r, rfl, k1, k2, k3, k4, k5, k6, h1⟩; have K1 := K0.below h1; have K1b := K1.alloc (.cells #[.int .i64 m.f, .int .i64 m.t] 90); have R1b := cells_sp v1 [m] #[.int .i64 m.f, .int .i64 m.t] 90 _ rfl rfl; have Y1b := k6.below (below_one v1 (.cells #[.int .i64 m.f, .int .i64 m.t] 90))) | (refine (HP.out _ K0b.sq.s.at_.su).mono ?_; rintro e v1 ⟨y, c, r, rfl, k1, k2, k3, k4, k5, k6, h1⟩; have K1 := K0b.below h1; have R1 := R0b.below h1))))
 all_goals
  have HF := Lib.hid K2.sq.s.frame
  have HR := Lib.hid (And.intro l1 (And.intro l2 (And.intro l3 (And.intro l4 l5))))
  clear K0 K0b R0b K1 K2 l1 l2 l3 l4 l5 h1 h2 k1 k2 k3 k4 k5 k6 HP HMM HSC
  go_wp2
  go_ret
  exact ⟨_, _, _, rfl, HR.out.1, HR.out.2.1, HR.out.2.2.1, HR.out.2.2.2.1, HR.out.2.2.2.2, HF.out⟩
end Go.Proofs.YtapacckmgmdnoaaGreat
namespace Go.Proofs.YtapacckmgmdnoaaGreat
open Go.ChangeShapes Go.WideShapes Go.ChangeAt Go.RowKit
set_option linter.unusedVariables false
set_option maxRecDepth 100000
set_option maxRecDepth 100000
theorem sliceLen_le {H : Type} (d : DataW H) : Go.Joins.sliceLen d ≤ Rows.uptoBulk d := by
 have h1 : ∀ l : List (DataW H), l.length ≤ Rows.uptoBulkAll l := by
  intro l
  induction l with
  | nil => simp
  | cons x l ih =>
   have h2 : 1 ≤ Rows.uptoBulk x := by
    cases x with
    | lit l => cases l <;> simp [Rows.uptoBulk]
    | nil => simp [Rows.uptoBulk]
    | ptr d => simp [Rows.uptoBulk]
    | slice elems spare => simp [Rows.uptoBulk]
    | agg parts => simp [Rows.uptoBulk]
    | iface t d => simp [Rows.uptoBulk]
    | map entries => simp [Rows.uptoBulk]
    | held h => simp [Rows.uptoBulk]
   simp only [Rows.uptoBulkAll, List.length_cons]
   omega
 cases d with
 | slice elems spare =>
  have h2 := h1 elems
  have h3 := h1 spare
  simp only [Go.Joins.sliceLen, Rows.uptoBulk]
  omega
 | lit l => simp [Go.Joins.sliceLen]
 | nil => simp [Go.Joins.sliceLen]
 | ptr d => simp [Go.Joins.sliceLen]
 | agg parts => simp [Go.Joins.sliceLen]
 | iface t d => simp [Go.Joins.sliceLen]
 | map entries => simp [Go.Joins.sliceLen]
 | held h => simp [Go.Joins.sliceLen]
theorem tbFields : ∃ f0 f1 : Field, Tryz.prog.underlying 137 = some (.struct #[f0, f1]) ∧ f0.offset = 0 ∧ f1.offset = 1 ∧ f0.type = 9 ∧ f1.type = 3 := ⟨_, _, Tryz.underlying137, rfl, rfl, rfl, rfl⟩
theorem usFields : ∃ f0 f1 : Field, Tryz.prog.underlying 131 = some (.struct #[f0, f1]) ∧ f0.offset = 0 ∧ f1.offset = 1 ∧ f0.type = 9 ∧ f1.type = 67 := ⟨_, _, Tryz.underlying131, rfl, rfl, rfl, rfl⟩
theorem saFields : ∃ f0 f1 f2 f3 f4 f5 : Field, Tryz.prog.underlying 27 = some (.struct #[f0, f1, f2, f3, f4, f5]) ∧ f0.offset = 0 ∧ f1.offset = 1 ∧ f2.offset = 2 ∧ f3.offset = 3 ∧ f4.offset = 4 ∧ f5.offset = 5 ∧ f0.type = 3 ∧ f1.type = 3 ∧ f2.type = 22 ∧ f3.type = 23 ∧ f4.type = 24 ∧ f5.type = 25 := ⟨_, _, _, _, _, _, Tryz.underlying27, rfl, rfl, rfl, rfl, rfl, rfl, rfl, rfl, rfl, rfl, rfl, rfl⟩
theorem read_tombs {H : Type} {enc : TypeId × Value → H} {W : World} {n : Nat} {cs : List Value} {x : DataW H × List MemPlace}
  (h : DataW.trod enc Tryz.prog W 0 (fun _ => true) true n 25 cs = some x) :
  ∃ (a : Option Addr) (c : Nat) (l : List TbM), cs = [.slice a l.length c] ∧ TbSl W a l ∧ (∀ e ∈ l, e.u.size ≤ maxLen) ∧ Cp a l.length c := by
 obtain ⟨f0, f1, he, o0, o1, t0, t1⟩ := tbFields
 have ci : Tryz.prog.cellsOf 3 = 1 := by kernel_rfl
 have cs' : Tryz.prog.cellsOf 9 = 1 := by kernel_rfl
 rcases Go.Deep.open_slice_pairs Tryz.underlying25 he (by kernel_rfl) o0 o1 (by rw [t0]; exact cs') (by rw [t1]; exact ci) h with ⟨rfl, _⟩ | ⟨a, len, cap, m, n', V0, V1, D0, D1, P0, P1, rfl, _, hl, hm, hmm, _, hx⟩
 ·exact ⟨none, 0, [], rfl, TbSl.nil _ _, (fun s hs => by cases hs), Cp.none⟩
 ·have hlm : len ≤ m := by rw [hmm]; split <;> omega
  have each : ∀ i, i < len → ∃ x : TbM, W.cell? (a.add (i * 2)) = some (.string x.u) ∧ W.cell? (a.add (i * 2 + 1)) = some (.int .i64 x.a) ∧ x.u.size ≤ maxLen := fun i hi => by
   obtain ⟨k0, k1, g0, g1⟩ := hx i (by omega)
   rw [t0] at g0
   rw [t1] at g1
   obtain ⟨z0, e0, _, w0⟩ := DataW.trod_string Tryz.underlying9 g0
   obtain ⟨z1, e1, _, w1⟩ := DataW.trod_int Tryz.underlying3 g1
   simp at e0 e1
   exact ⟨⟨z0, z1⟩, by rw [k0, e0], by rw [k1, e1], w0⟩
  have some_x : ∃ f : Nat → TbM, ∀ i, i < len → W.cell? (a.add (i * 2)) = some (.string (f i).u) ∧ W.cell? (a.add (i * 2 + 1)) = some (.int .i64 (f i).a) ∧ (f i).u.size ≤ maxLen := by
   refine ⟨fun i => if h : i < len then (each i h).choose else default, fun i hi => ?_⟩
   simp only [hi, ↓reduceDIte]
   exact (each i hi).choose_spec
  obtain ⟨f, hf2⟩ := some_x
  have hlen : ((List.range len).map f).length = len := by simp
  refine ⟨some a, cap, (List.range len).map f, by rw [hlen], fun k hk => ?_, fun x hxm => ?_, ⟨by rw [hlen]; omega, hm, fun h => by cases h⟩⟩
  ·rw [List.length_map, hlen] at hk
   obtain ⟨b, off, spot⟩ := a
   have h0 := (hf2 0 (by omega)).1
   have hspot : spot = none := by simpa [Addr.add] using World.cell?_spot h0
   subst hspot
   obtain ⟨g0, g1, _⟩ := hf2 k (by omega)
   rw [Go.WideShapes.add_plain] at g0 g1
   simp only [List.getElem_map, List.getElem_range]
   exact ⟨b, off, rfl, World.block_lt_of_cell? W ⟨b, off + k * 2, none⟩ g0, g0, g1⟩
  ·obtain ⟨i, hi, rfl⟩ := List.mem_map.1 hxm
   exact (hf2 i (by have := List.mem_range.1 hi; omega)).2.2
theorem bulk_pairs {H : Type} (F : Nat → List StM) (D0 D1 : Nat → DataW H) (len : Nat) (h : ∀ i, i < len → (F i).length ≤ Rows.uptoBulk (D1 i)) :
  ((List.range len).map fun i => (F i).length).sum + len ≤ Rows.uptoBulkAll ((List.range len).map fun i => DataW.agg [D0 i, D1 i]) := by
 induction len with
 | zero => simp
 | succ n ih =>
  have happ : ∀ l r : List (DataW H), Rows.uptoBulkAll (l ++ r) = Rows.uptoBulkAll l + Rows.uptoBulkAll r := by
   intro l r
   induction l with
   | nil => simp [Rows.uptoBulkAll]
   | cons x l ih => simp only [List.cons_append, Rows.uptoBulkAll, ih]; omega
  have h1 := ih (fun i hi => h i (by omega))
  have h2 := h n (by omega)
  rw [List.range_succ, List.map_append, List.map_append, List.sum_append, happ]
  simp only [List.map_cons, List.map_nil, List.sum_cons, List.sum_nil, Rows.uptoBulkAll, Rows.uptoBulk]
  omega
theorem read_users {H : Type} {enc : TypeId × Value → H} {W : World} {n : Nat} {cs : List Value} {x : DataW H × List MemPlace}
  (h : DataW.trod enc Tryz.prog W 0 (fun _ => true) true n 23 cs = some x) :
  ∃ (a : Option Addr) (c : Nat) (D : List UsL), cs = [.slice a D.length c] ∧ UsSl W a D ∧ (∀ e ∈ umS D, e.u.size ≤ maxLen) ∧ Cp a D.length c ∧ cntU (umS D) + D.length ≤ Rows.uptoBulk x.1 := by
 obtain ⟨f0, f1, he, o0, o1, t0, t1⟩ := usFields
 have ci : Tryz.prog.cellsOf 67 = 1 := by kernel_rfl
 have cs' : Tryz.prog.cellsOf 9 = 1 := by kernel_rfl
 rcases Go.Deep.open_slice_pairs Tryz.underlying23 he (by kernel_rfl) o0 o1 (by rw [t0]; exact cs') (by rw [t1]; exact ci) h with ⟨rfl, hx⟩ | ⟨a, len, cap, m, n', V0, V1, D0, D1, P0, P1, rfl, _, hl, hm, hmm, hd, hx⟩
 ·exact ⟨none, 0, [], rfl, UsSl.nil _ _, (fun s hs => by cases hs), Cp.none, by simp [umS, cntU]⟩
 ·have hlm : len ≤ m := by rw [hmm]; split <;> omega
  have each : ∀ i, i < len → ∃ x : UsL, W.cell? (a.add (i * 2)) = some (.string x.u) ∧ W.cell? (a.add (i * 2 + 1)) = some (.slice x.a x.l.length x.c) ∧ UsAt W x ∧ x.u.size ≤ maxLen ∧ x.l.length ≤ Rows.uptoBulk (D1 i) := fun i hi => by
   obtain ⟨k0, k1, g0, g1⟩ := hx i (by omega)
   rw [t0] at g0
   rw [t1] at g1
   obtain ⟨z0, e0, _, w0⟩ := DataW.trod_string Tryz.underlying9 g0
   obtain ⟨b, q, l, e1, r1, r2, r3, r4, r5⟩ := read_stays g1
   have e2 := List.singleton_inj.1 e1
   have hb : Go.Joins.sliceLen (D1 i) = l.length := by
    rw [e2] at g1
    exact Go.Joins.sliceLen_trod Tryz.underlying67 g1
   have hb2 := sliceLen_le (D1 i)
   simp at e0
   exact ⟨⟨z0, b, l, q⟩, by rw [k0, e0], by rw [k1, e2], ⟨r1, r3, r4, r5⟩, w0, by rw [← hb]; exact hb2⟩
  have some_x : ∃ f : Nat → UsL, ∀ i, i < len → W.cell? (a.add (i * 2)) = some (.string (f i).u) ∧ W.cell? (a.add (i * 2 + 1)) = some (.slice (f i).a (f i).l.length (f i).c) ∧ UsAt W (f i) ∧ (f i).u.size ≤ maxLen ∧ (f i).l.length ≤ Rows.uptoBulk (D1 i) := by
   refine ⟨fun i => if h : i < len then (each i h).choose else default, fun i hi => ?_⟩
   simp only [hi, ↓reduceDIte]
   exact (each i hi).choose_spec
  obtain ⟨f, hf2⟩ := some_x
  have hlen : ((List.range len).map f).length = len := by simp
  refine ⟨some a, cap, (List.range len).map f, by rw [hlen], ⟨fun k hk => ?_, fun x hxm => ?_⟩, fun x hxm => ?_, ⟨by rw [hlen]; omega, hm, fun h => by cases h⟩, ?_⟩
  ·rw [List.length_map, hlen] at hk
   obtain ⟨b, off, spot⟩ := a
   have h0 := (hf2 0 (by omega)).1
   have hspot : spot = none := by simpa [Addr.add] using World.cell?_spot h0
   subst hspot
   obtain ⟨g0, g1, _⟩ := hf2 k (by omega)
   rw [Go.WideShapes.add_plain] at g0 g1
   simp only [List.getElem_map, List.getElem_range]
   exact ⟨b, off, rfl, World.block_lt_of_cell? W ⟨b, off + k * 2, none⟩ g0, g0, g1⟩
  ·obtain ⟨i, hi, rfl⟩ := List.mem_map.1 hxm
   exact (hf2 i (List.mem_range.1 hi)).2.2.1
  ·obtain ⟨y, hy, rfl⟩ := List.mem_map.1 hxm
   obtain ⟨i, hi, rfl⟩ := List.mem_map.1 hy
   exact (hf2 i (List.mem_range.1 hi)).2.2.2.1
  ·have hbk := bulk_pairs (fun i => (f i).l) D0 D1 len (fun i hi => (hf2 i hi).2.2.2.2)
   have e1 : cntU (umS ((List.range len).map f)) = ((List.range len).map fun i => (f i).l.length).sum := by
    unfold cntU umS
    rw [List.map_map, List.map_map]
    rfl
   rw [e1, hlen, hd]
   simp only [Rows.uptoBulk]
   omega
theorem open_state {H : Type} {enc : TypeId × Value → H} {W : World} {base : Nat} {v : Value} {d : DataW H} {p : List MemPlace}
  (hok : Value.okWide Tryz.prog W .any base 27 v) (h : DataW.Trod enc Tryz.prog W 0 (fun _ => true) true 27 v d p) :
  ∃ x : SaL, v = saV x ∧ SaAt W x ∧ SzS x.m ∧ stCnt x.m + x.us.length ≤ Rows.uptoBulk d := by
 obtain ⟨f0, f1, f2, f3, f4, f5, he, o0, o1, o2, o3, o4, o5, t0, t1, t2, t3, t4, t5⟩ := saFields
 have ci : Tryz.prog.cellsOf 3 = 1 := by kernel_rfl
 have k2 : Tryz.prog.cellsOf 22 = 1 := by kernel_rfl
 have k3 : Tryz.prog.cellsOf 23 = 1 := by kernel_rfl
 have k4 : Tryz.prog.cellsOf 24 = 1 := by kernel_rfl
 have k5 : Tryz.prog.cellsOf 25 = 1 := by kernel_rfl
 obtain ⟨cs, rfl, hsz⟩ := okWide_struct he hok
 obtain ⟨c0, c1, c2, c3, c4, c5, rfl⟩ := array6 (hsz.trans (by kernel_rfl))
 obtain ⟨fuel, hf⟩ := h
 obtain ⟨y0, y1, y2, y3, y4, y5, n, hx, g0, g1, g2, g3, g4, g5⟩ := trod_six (x := (d, p)) he o0 o1 o2 o3 o4 o5 (by rw [t0]; exact ci) (by rw [t1]; exact ci) (by rw [t2]; exact k2) (by rw [t3]; exact k3) (by rw [t4]; exact k4) (by rw [t5]; exact k5) (by simpa [Value.cells] using hf)
 rw [t0] at g0
 rw [t1] at g1
 rw [t2] at g2
 rw [t3] at g3
 rw [t4] at g4
 rw [t5] at g5
 obtain ⟨z0, e0, _, w0⟩ := DataW.trod_int Tryz.underlying3 g0
 obtain ⟨z1, e1, _, w1⟩ := DataW.trod_int Tryz.underlying3 g1
 obtain ⟨a2, q2, l2, e2, r2, s2, m2, n2, p2⟩ := read_sess g2
 obtain ⟨a3, q3, l3, e3, r3, s3, m3, b3⟩ := read_users g3
 obtain ⟨a4, q4, l4, e4, r4, s4, m4, n4, p4⟩ := read_entries g4
 obtain ⟨a5, q5, l5, e5, r5, s5, m5⟩ := read_tombs g5
 simp at e0 e1
 obtain rfl := List.singleton_inj.1 e2
 obtain rfl := List.singleton_inj.1 e3
 obtain rfl := List.singleton_inj.1 e4
 obtain rfl := List.singleton_inj.1 e5
 subst e0 e1
 have b2 : l2.length ≤ Rows.uptoBulk y2.1 := by rw [← Go.Joins.sliceLen_trod (d := y2.1) (ps := y2.2) Tryz.underlying22 g2]; exact sliceLen_le _
 have b4 : l4.length ≤ Rows.uptoBulk y4.1 := by rw [← Go.Joins.sliceLen_trod (d := y4.1) (ps := y4.2) Tryz.underlying24 g4]; exact sliceLen_le _
 have b5 : l5.length ≤ Rows.uptoBulk y5.1 := by rw [← Go.Joins.sliceLen_trod (d := y5.1) (ps := y5.2) Tryz.underlying25 g5]; exact sliceLen_le _
 refine ⟨⟨z0, z1, a2, l2, q2, a3, l3, q3, a4, l4, q4, a5, l5, q5⟩, rfl, ⟨r2, r3, r4, r5, ⟨m2, n2, p2⟩, m3, ⟨m4, n4, p4⟩, m5⟩, ⟨s2, s3, fun e he => ⟨(s4 e he).1, (s4 e he).2.1⟩, s5⟩, ?_⟩
 have hx' : d = .agg [y0.1, y1.1, y2.1, y3.1, y4.1, y5.1] := hx
 rw [hx']
 simp only [Rows.uptoBulk, Rows.uptoBulkAll, stCnt, SaL.m]
 omega
end Go.Proofs.YtapacckmgmdnoaaGreat
