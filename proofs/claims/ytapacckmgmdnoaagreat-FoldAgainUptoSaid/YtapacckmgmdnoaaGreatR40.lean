/- Texts of mine, one behind the other, of each what is wanted. -/
import Derived.Test.YtapacckmgmdnoaaGreatR00
import Derived.Test.YtapacckmgmdnoaaGreatRows
import Derived.Test.YtapacckmgmdnoaaGreatShelf
import Derived.Test.YtapacckmgmdnoaaGreatR01
import Derived.Test.YtapacckmgmdnoaaGreatR03
import Derived.Test.YtapacckmgmdnoaaGreatR04
import Derived.Test.YtapacckmgmdnoaaGreatR07
import Derived.Test.YtapacckmgmdnoaaGreatR18
import Derived.Test.YtapacckmgmdnoaaGreatR20
import Derived.Test.YtapacckmgmdnoaaGreatR23
import Derived.Test.YtapacckmgmdnoaaGreatR26
import Derived.Test.YtapacckmgmdnoaaGreatR31
import Derived.Test.YtapacckmgmdnoaaGreatR32
import Derived.Test.YtapacckmgmdnoaaGreatR33
import Derived.Test.YtapacckmgmdnoaaGreatR37
import Derived.Test.YtapacckmgmdnoaaGreatR39
namespace Go.Proofs.YtapacckmgmdnoaaGreat
open Go.ChangeShapes Go.WideShapes Go.ChangeAt Go.RowKit
set_option linter.unusedVariables false
set_option maxRecDepth 100000
set_option maxRecDepth 100000
def FitsE (l : List EnM) : Prop := ∀ e ∈ l, e.w.size ≤ maxLen ∧ e.u.size ≤ maxLen ∧ I64 e.f ∧ I64 e.t
section
variable {H : Type} {enc : TypeId × Value → H} {P : Program} {w : World} {base : Nat} {spare : Nat → Bool} {held : Bool}
theorem eopen_quads {t e : TypeId} {f0 f1 f2 f3 : Field} {fuel : Nat} {cs : List Value} {x : DataW H × List MemPlace} (ht : P.underlying t = some (.slice e)) (he : P.underlying e = some (.struct #[f0, f1, f2, f3]))
  (ce : P.cellsOf e = 4) (o0 : f0.offset = 0) (o1 : f1.offset = 1) (o2 : f2.offset = 2) (o3 : f3.offset = 3) (c0 : P.cellsOf f0.type = 1) (c1 : P.cellsOf f1.type = 1) (c2 : P.cellsOf f2.type = 1) (c3 : P.cellsOf f3.type = 1)
  (h : DataW.trod enc P w base spare held fuel t cs = some x) :
  (cs = [.slice none 0 0] ∧ x = (.nil, [])) ∨
  ∃ (a : Addr) (len cap : Nat), cs = [.slice (some a) len cap] ∧ len ≤ cap ∧ cap ≤ maxLen ∧
   ∀ i, i < len → ∃ (v0 v1 v2 v3 : Value) (y0 y1 y2 y3 : DataW H × List MemPlace) (n : Nat), w.cell? (a.add (i * 4)) = some v0 ∧ w.cell? (a.add (i * 4 + 1)) = some v1 ∧ w.cell? (a.add (i * 4 + 2)) = some v2 ∧ w.cell? (a.add (i * 4 + 3)) = some v3 ∧
    DataW.trod enc P w base spare held n f0.type [v0] = some y0 ∧ DataW.trod enc P w base spare held n f1.type [v1] = some y1 ∧ DataW.trod enc P w base spare held n f2.type [v2] = some y2 ∧ DataW.trod enc P w base spare held n f3.type [v3] = some y3 := by
 rcases Go.Deep.open_slice ht h with h0 | ⟨a, len, cap, m, n, D, Pl, rfl, hb, hl, hm, hmm, rfl, hx⟩
 ·exact Or.inl h0
 right
 have hlm : len ≤ m := by rw [hmm]; split <;> omega
 refine ⟨a, len, cap, rfl, hl, hm, fun i hi => ?_⟩
 obtain ⟨cs', h1, h2⟩ := hx i (by omega)
 rw [ce] at h1
 obtain ⟨_, hlen, hcell⟩ := World.cells?_some h1
 obtain ⟨xs, k, hk, hxy, _, hxl, hf⟩ := DataW.trod_struct he h2
 match xs, hxl, cs', hlen with
 | [y0, y1, y2, y3], _, [v0, v1, v2, v3], _ =>
  have g0 := hf 0 f0 rfl
  have g1 := hf 1 f1 rfl
  have g2 := hf 2 f2 rfl
  have g3 := hf 3 f3 rfl
  simp [o0, o1, o2, o3, c0, c1, c2, c3] at g0 g1 g2 g3
  have e0 := hcell 0 (by omega)
  have e1 := hcell 1 (by omega)
  have e2 := hcell 2 (by omega)
  have e3 := hcell 3 (by omega)
  rw [Go.Deep.add_add] at e0 e1 e2 e3
  exact ⟨v0, v1, v2, v3, y0, y1, y2, y3, k, by simpa using e0, by simpa using e1, by simpa using e2, by simpa using e3, g0, g1, g2, g3⟩
end
theorem enFields : ∃ f0 f1 f2 f3 : Field, Tryz.prog.underlying 135 = some (.struct #[f0, f1, f2, f3]) ∧ f0.offset = 0 ∧ f1.offset = 1 ∧ f2.offset = 2 ∧ f3.offset = 3 ∧ f0.type = 9 ∧ f1.type = 9 ∧ f2.type = 3 ∧ f3.type = 3 := ⟨_, _, _, _, Tryz.underlying135, rfl, rfl, rfl, rfl, rfl, rfl, rfl, rfl⟩
theorem read_entries {H : Type} {enc : TypeId × Value → H} {W : World} {n : Nat} {cs : List Value} {x : DataW H × List MemPlace}
  (h : DataW.trod enc Tryz.prog W 0 (fun _ => true) true n 24 cs = some x) :
  ∃ (a : Option Addr) (c : Nat) (l : List EnM), cs = [.slice a l.length c] ∧ EnSl W a l ∧ FitsE l ∧ l.length ≤ c ∧ c ≤ maxLen ∧ (a = none → c = 0) := by
 obtain ⟨f0, f1, f2, f3, he, o0, o1, o2, o3, t0, t1, t2, t3⟩ := enFields
 have ci : Tryz.prog.cellsOf 3 = 1 := by kernel_rfl
 have cs' : Tryz.prog.cellsOf 9 = 1 := by kernel_rfl
 rcases eopen_quads Tryz.underlying24 he (by kernel_rfl) o0 o1 o2 o3 (by rw [t0]; exact cs') (by rw [t1]; exact cs') (by rw [t2]; exact ci) (by rw [t3]; exact ci) h with ⟨rfl, _⟩ | ⟨a, len, cap, rfl, hl, hm, hx⟩
 ·exact ⟨none, 0, [], rfl, EnSl.nil _ _, (fun s hs => by cases hs), by simp, by decide, fun _ => rfl⟩
 ·have each : ∀ i, i < len → ∃ x : EnM, W.cell? (a.add (i * 4)) = some (.string x.w) ∧ W.cell? (a.add (i * 4 + 1)) = some (.string x.u) ∧ W.cell? (a.add (i * 4 + 2)) = some (.int .i64 x.f) ∧ W.cell? (a.add (i * 4 + 3)) = some (.int .i64 x.t) ∧ x.w.size ≤ maxLen ∧ x.u.size ≤ maxLen ∧ I64 x.f ∧ I64 x.t := fun i hi => by
   obtain ⟨v0, v1, v2, v3, y0, y1, y2, y3, n, k0, k1, k2, k3, g0, g1, g2, g3⟩ := hx i hi
   rw [t0] at g0
   rw [t1] at g1
   rw [t2] at g2
   rw [t3] at g3
   obtain ⟨z0, e0, _, w0⟩ := DataW.trod_string Tryz.underlying9 g0
   obtain ⟨z1, e1, _, w1⟩ := DataW.trod_string Tryz.underlying9 g1
   obtain ⟨z2, e2, _, w2⟩ := DataW.trod_int Tryz.underlying3 g2
   obtain ⟨z3, e3, _, w3⟩ := DataW.trod_int Tryz.underlying3 g3
   simp at e0 e1 e2 e3
   exact ⟨⟨z0, z1, z2, z3⟩, by rw [k0, e0], by rw [k1, e1], by rw [k2, e2], by rw [k3, e3], w0, w1, wf64 w2, wf64 w3⟩
  have some_x : ∃ f : Nat → EnM, ∀ i, i < len → W.cell? (a.add (i * 4)) = some (.string (f i).w) ∧ W.cell? (a.add (i * 4 + 1)) = some (.string (f i).u) ∧ W.cell? (a.add (i * 4 + 2)) = some (.int .i64 (f i).f) ∧ W.cell? (a.add (i * 4 + 3)) = some (.int .i64 (f i).t) ∧ (f i).w.size ≤ maxLen ∧ (f i).u.size ≤ maxLen ∧ I64 (f i).f ∧ I64 (f i).t := by
   refine ⟨fun i => if h : i < len then (each i h).choose else ⟨ByteArray.empty, ByteArray.empty, 0, 0⟩, fun i hi => ?_⟩
   simp only [hi, ↓reduceDIte]
   exact (each i hi).choose_spec
  obtain ⟨f, hf2⟩ := some_x
  have hlen : ((List.range len).map f).length = len := by simp
  refine ⟨some a, cap, (List.range len).map f, by rw [hlen], fun k hk => ?_, fun x hxm => ?_, by omega, hm, fun h => by cases h⟩
  ·rw [hlen] at hk
   obtain ⟨b, off, spot⟩ := a
   have h0 := (hf2 0 (by omega)).1
   have hspot : spot = none := by simpa [Addr.add] using World.cell?_spot h0
   subst hspot
   obtain ⟨g0, g1, g2, g3, _⟩ := hf2 k (by omega)
   rw [Go.WideShapes.add_plain] at g0 g1 g2 g3
   simp only [List.getElem_map, List.getElem_range]
   exact ⟨b, off, rfl, World.block_lt_of_cell? W ⟨b, off + k * 4, none⟩ g0, g0, g1, g2, g3⟩
  ·obtain ⟨i, hi, rfl⟩ := List.mem_map.1 hxm
   exact (hf2 i (by have := List.mem_range.1 hi; omega)).2.2.2.2
end Go.Proofs.YtapacckmgmdnoaaGreat
namespace Go.Proofs.YtapacckmgmdnoaaGreat
open Go.RowKit Go.Proofs
set_option linter.unusedVariables false
set_option maxRecDepth 100000
set_option maxRecDepth 100000
def clampN (n l m : Nat → Int) (i : Nat) : Int := min (max (n i) (l i)) (m i)
def wiB (n l m : Nat → Int) : Bool := (clampN n l m 0 == n 0) && ((clampN n l m 1 == n 1) && ((clampN n l m 2 == n 2) && (clampN n l m 3 == n 3)))
set_option maxHeartbeats 2000000 in
theorem rcount_any (x : SaL) (w : World) (h : SaAt w x) (hs : stCnt x.m ≤ 10000000) (hu : x.us.length ≤ 10000000) :
  Calls Tryz.prog 65 #[saV x] w fun e w' => e = .returned (.int .i64 (stCnt x.m : Nat)) ∧ Below w.heap.size w w' := by
 have S0 := SB.new (Below.refl w.heap.size w) h 27
 obtain ⟨c0, c1, c2, c3, c4, c5⟩ := S0.cells
 have hs2 : x.op.length + x.su.length + x.tb.length + cntU (umS x.us) ≤ 10000000 := hs
 have HE : Hid (stCnt x.m = x.op.length + x.su.length + x.tb.length + cntU (umS x.us)) := rfl
 have hw1 : IntKind.i64.wrap ((x.op.length : Int) + (x.su.length : Int)) = (x.op.length : Int) + (x.su.length : Int) := by rw [IntWalk.i64_in] <;> omega
 have hw2 : IntKind.i64.wrap ((x.op.length : Int) + (x.su.length : Int) + (x.tb.length : Int)) = ((x.op.length + x.su.length + x.tb.length : Nat) : Int) := by rw [IntWalk.i64_in] <;> omega
 have HU := Lib.hid S0.at_.us
 have HFR := Lib.hid S0.frame
 have HT := Lib.hid (fun j (hj : j < (umS x.us).length) => cntU_take (umS x.us) j hj)
 have HL := Lib.hid (umS_len x.us)
 have HLE : Hid (∀ j, cntU ((umS x.us).take j) ≤ cntU (umS x.us)) := fun j => by
  have := cntU_append ((umS x.us).take j) ((umS x.us).drop j)
  rw [List.take_append_drop] at this
  omega
 have HM : Hid (∀ j (h1 : j < x.us.length) (h2 : j < (umS x.us).length), ((umS x.us)[j]).l.length = x.us[j].l.length) := fun j h1 h2 => by simp [umS, UsL.m]
 unfold saV saC at *
 clear h hs S0
 obtain ⟨n0, hn0⟩ : ∃ n0, n0 = x.op.length + x.su.length + x.tb.length := ⟨_, rfl⟩
 rw [← hn0] at hw2 hs2 HE
 generalize x.ua = ua at *
 go_enter Tryz.func65, Tryz.ntmps65
 go_wp2
 go_loopw [3, 4] (fun v i wr => ∃ (j s : Nat), j ≤ x.us.length ∧ i = .int .i64 j ∧ v = .int .i64 s ∧ s ≤ 10000000 ∧ Hid (s = n0 + cntU ((umS x.us).take j)) ∧ wr = w.alloc (.cells #[.int .i64 x.now, .int .i64 x.hor, .slice x.oa x.op.length x.oc, .slice ua x.us.length x.uc, .slice x.sa x.su.length x.sc, .slice x.ta x.tb.length x.tc] 27)) (fun _ i _ => x.us.length - (intOf i).toNat)
 case atStart => exact ⟨0, n0, by omega, rfl, congrArg (Value.int .i64) (by omega), by omega, by simp [Hid, cntU], rfl⟩
 case round =>
  obtain ⟨j, s, hj, rfl, rfl, hsm, HSS, rfl⟩ := hrel
  by_cases hjl : j < x.us.length
  ·obtain ⟨b, off, rfl, hbl, hc0, hc1, -⟩ := HU.out.get hjl
   have hnx : s + x.us[j].l.length ≤ 10000000 := by
    have h1 := HT.out j (by rw [HL.out]; exact hjl)
    have h2 := HLE.out (j + 1)
    have h3 := HSS.out
    have h4 := HM.out j hjl (by rw [HL.out]; exact hjl)
    omega
   have HN : Hid (s + x.us[j].l.length = n0 + cntU ((umS x.us).take (j + 1))) := by
    have h1 := HT.out j (by rw [HL.out]; exact hjl)
    have h3 := HSS.out
    have h4 := HM.out j hjl (by rw [HL.out]; exact hjl)
    unfold Hid
    omega
   clear HM HLE HT HSS
   generalize x.us[j] = y at *
   have hwr : IntKind.i64.wrap ((s : Int) + (y.l.length : Int)) = ((s + y.l.length : Nat) : Int) := by rw [IntWalk.i64_in] <;> omega
   go_wp2
   go_roundw
   case rel => exact ⟨j + 1, s + y.l.length, by omega, by go_num, by first | rfl | go_num, hnx, HN, by first | rfl | trivial⟩
   case measure => simp [intOf]; omega
  ·obtain rfl : j = x.us.length := by omega
   have hE2 : s = stCnt x.m := by
    have h3 := HSS.out
    rw [List.take_of_length_le (by rw [HL.out]; exact Nat.le_refl _)] at h3
    rw [HE.out]
    exact h3
   have HE2 := Lib.hid hE2
   clear hE2 HM HLE HT HSS
   go_wp2
   go_ret
   exact ⟨by rw [← HE2.out]; rfl, HFR.out⟩
def latS (op : List OpM) (now n : Int) : Int := if h : op.findIdx (hasN n) < op.length then op[op.findIdx (hasN n)].f else now
def stayB (s : SaM) (x : StM) : Bool := wiB (v4 x.f x.t x.n x.s) (v4 0 0 1 1) (v4 s.now (latS s.op s.now x.n) 999 4)
def staysB (s : SaM) (l : List StM) : Bool := decide (0 < l.length) && (decide (RiseS l) && l.all (stayB s))
def timesB (s : SaM) (e : EnM) : Bool := decide (0 ≤ e.f) && (decide (e.f ≤ s.now) && (decide (e.t ≤ s.now) || (e.t == 1099511627776)))
def tombB (s : SaM) (x : TbM) : Bool := decide (0 ≤ x.a) && decide (x.a ≤ s.now)
def fromB (s : SaM) (e : OpM) : Bool := decide (e.f ≤ s.now)
def nowB (s : SaM) : Bool := wiB (v4 s.now s.hor 0 0) (v4 0 0 0 0) (v4 1099511627775 1099511627775 0 0)
def rightB (s : SaM) : Bool := nowB s && (decide (RiseO s.op) && (s.op.all (fromB s) && (decide (riseNB UsM.u s.us) && (s.us.all (fun x => staysB s x.l) && (decide (RiseE s.su) && (s.su.all (timesB s) && (decide (riseNB TbM.u s.tb) && s.tb.all (tombB s))))))))
theorem wiB_iff {n l m : Nat → Int} (h : ∀ i, i < 4 → l i ≤ m i) : wiB n l m = true ↔ ∀ i, i < 4 → l i ≤ n i ∧ n i ≤ m i := by
 unfold wiB
 simp only [Bool.and_eq_true, beq_iff_eq]
 have key : ∀ i, i < 4 → (clampN n l m i = n i ↔ l i ≤ n i ∧ n i ≤ m i) := fun i hi => by
  have := h i hi
  unfold clampN
  omega
 rw [key 0 (by decide), key 1 (by decide), key 2 (by decide), key 3 (by decide)]
 constructor
 ·rintro ⟨h0, h1, h2, h3⟩ i hi
  have : i = 0 ∨ i = 1 ∨ i = 2 ∨ i = 3 := by omega
  rcases this with rfl | rfl | rfl | rfl
  ·exact h0
  ·exact h1
  ·exact h2
  ·exact h3
 ·intro h
  exact ⟨h 0 (by decide), h 1 (by decide), h 2 (by decide), h 3 (by decide)⟩
theorem latS_le {op : List OpM} {now : Int} {n t : Int} (hp : op.Pairwise fun a b => a.n < b.n) (hf : ∀ e ∈ op, e.f ≤ now) : t ≤ latS op now n ↔ (t ≤ now ∧ ∀ o ∈ op, o.n = n → t ≤ o.f) ∨ (t ≤ latS op now n ∧ False) := by
 have hle : op.findIdx (hasN n) ≤ op.length := List.findIdx_le_length
 by_cases hk : op.findIdx (hasN n) < op.length
 ·have e : latS op now n = op[op.findIdx (hasN n)].f := by unfold latS; rw [dif_pos hk]
  have hn : op[op.findIdx (hasN n)].n = n := by
   have := List.findIdx_getElem (p := hasN n) (xs := op) (w := hk)
   exact of_decide_eq_true this
  rw [e]
  constructor
  ·intro h
   refine .inl ⟨Int.le_trans h (hf _ (List.getElem_mem hk)), fun o ho hon => ?_⟩
   obtain ⟨i, hi, rfl⟩ := List.getElem_of_mem ho
   rw [List.pairwise_iff_getElem] at hp
   rcases Nat.lt_trichotomy i (op.findIdx (hasN n)) with h1 | h1 | h1
   ·have := hp i _ hi hk h1; omega
   ·subst h1; exact h
   ·have := hp _ i hk hi h1; omega
  ·rintro (⟨_, h⟩ | ⟨_, h⟩)
   ·exact h _ (List.getElem_mem hk) hn
   ·exact h.elim
 ·have e : latS op now n = now := by unfold latS; rw [dif_neg hk]
  rw [e]
  constructor
  ·intro h
   refine .inl ⟨h, fun o ho hon => ?_⟩
   have h1 := List.findIdx_eq_length.1 (show op.findIdx (hasN n) = op.length by omega) o ho
   rw [show hasN n o = true from decide_eq_true hon] at h1
   cases h1
  ·rintro (⟨h, _⟩ | ⟨_, h⟩)
   ·exact h
   ·exact h.elim
theorem latS_nonneg {op : List OpM} {now n : Int} (hn : 0 ≤ now) (hf : ∀ e ∈ op, 0 ≤ e.f) : 0 ≤ latS op now n := by
 unfold latS
 split
 ·exact hf _ (List.getElem_mem _)
 ·exact hn
theorem rightB_iff (s : SaM) : rightB s = true ↔ RightS s := by
 unfold rightB
 simp only [Bool.and_eq_true, decide_eq_true_eq, List.all_eq_true]
 have hnow : nowB s = true ↔ (0 ≤ s.now ∧ s.now ≤ 1099511627775) ∧ (0 ≤ s.hor ∧ s.hor ≤ 1099511627775) := by
  unfold nowB
  rw [wiB_iff (by intro i hi; have : i = 0 ∨ i = 1 ∨ i = 2 ∨ i = 3 := by omega
                  rcases this with rfl | rfl | rfl | rfl <;> decide)]
  constructor
  ·intro h; exact ⟨h 0 (by decide), h 1 (by decide)⟩
  ·rintro ⟨h0, h1⟩ i hi
   have : i = 0 ∨ i = 1 ∨ i = 2 ∨ i = 3 := by omega
   rcases this with rfl | rfl | rfl | rfl
   ·exact h0
   ·exact h1
   ·exact ⟨Int.le_refl _, Int.le_refl _⟩
   ·exact ⟨Int.le_refl _, Int.le_refl _⟩
 have hst : 0 ≤ s.now → RiseO s.op → (∀ e ∈ s.op, e.f ≤ s.now) → ∀ l : List StM, (staysB s l = true ↔ l ≠ [] ∧ RiseS l ∧ ∀ x ∈ l, OkSt s.now s.op x) := fun h0 hO hF l => by
  obtain ⟨_, h2, h3⟩ := riseO_iff.1 hO
  have hpos : ∀ e ∈ s.op, 0 ≤ e.f := fun e he => (h2 e he).2.2.2.2.2.1
  have key : ∀ x, (stayB s x = true ∧ x.f < x.t ↔ OkSt s.now s.op x ∧ x.f < x.t) := fun x => by
   have hlat := latS_nonneg (op := s.op) (n := x.n) h0 hpos
   have hle := latS_le (n := x.n) (t := x.t) h3 hF
   unfold stayB
   rw [wiB_iff (by intro i hi; have : i = 0 ∨ i = 1 ∨ i = 2 ∨ i = 3 := by omega
                   rcases this with rfl | rfl | rfl | rfl
                   ·exact h0
                   ·exact hlat
                   ·exact (show (1 : Int) ≤ 999 by decide)
                   ·exact (show (1 : Int) ≤ 4 by decide))]
   unfold OkSt
   constructor
   ·rintro ⟨h, hlt⟩
    have g0 := h 0 (by decide)
    have g1 := h 1 (by decide)
    have g2 := h 2 (by decide)
    have g3 := h 3 (by decide)
    simp only [v4] at g0 g1 g2 g3
    simp at g0 g1 g2 g3
    rcases hle.1 g1.2 with ⟨k1, k2⟩ | ⟨_, k⟩
    ·exact ⟨⟨g0.1, k1, g2.1, g2.2, g3.1, g3.2, k2⟩, hlt⟩
    ·exact k.elim
   ·rintro ⟨⟨k0, k1, k2, k3, k4, k5, k6⟩, hlt⟩
    refine ⟨fun i hi => ?_, hlt⟩
    have : i = 0 ∨ i = 1 ∨ i = 2 ∨ i = 3 := by omega
    rcases this with rfl | rfl | rfl | rfl
    ·exact ⟨k0, show x.f ≤ s.now by omega⟩
    ·exact ⟨show 0 ≤ x.t by omega, hle.2 (.inl ⟨k1, k6⟩)⟩
    ·exact ⟨k2, k3⟩
    ·exact ⟨k4, k5⟩
  unfold staysB
  simp only [Bool.and_eq_true, decide_eq_true_eq, List.all_eq_true]
  constructor
  ·rintro ⟨h5, h6, h7⟩
   refine ⟨fun e => by rw [e] at h5; simp at h5, h6, fun x hx => ?_⟩
   exact ((key x).1 ⟨h7 x hx, (rise_iff.1 h6).1 x hx⟩).1
  ·rintro ⟨h5, h6, h7⟩
   refine ⟨List.length_pos_iff.2 h5, h6, fun x hx => ((key x).2 ⟨h7 x hx, (rise_iff.1 h6).1 x hx⟩).1⟩
 constructor
 ·rintro ⟨h1, h2, h3, h4, h5, h6, h7, h8, h9⟩
  obtain ⟨n1, n2⟩ := hnow.1 h1
  have hF : ∀ e ∈ s.op, e.f ≤ s.now := fun e he => of_decide_eq_true (h3 e he)
  obtain ⟨u1, u2⟩ := riseN_iff.1 h4
  obtain ⟨t1, t2⟩ := riseN_iff.1 h8
  refine ⟨⟨n1.1, by omega⟩, ⟨n2.1, by omega⟩, h2, hF, fun x hx => ?_, u2, ⟨h6, fun e he => ?_⟩, fun x hx => ?_, t2⟩
  ·obtain ⟨k1, k2, k3⟩ := (hst n1.1 h2 hF x.l).1 (h5 x hx)
   exact ⟨u1 x hx, k1, k2, k3⟩
  ·have := h7 e he
   unfold timesB at this
   simp only [Bool.and_eq_true, Bool.or_eq_true, decide_eq_true_eq, beq_iff_eq] at this
   exact ⟨this.1, this.2.1, this.2.2.symm⟩
  ·have := h9 x hx
   unfold tombB at this
   simp only [Bool.and_eq_true, decide_eq_true_eq] at this
   exact ⟨t1 x hx, this.1, this.2⟩
 ·intro h
  refine ⟨hnow.2 ⟨⟨h.now.1, by have := h.now.2; omega⟩, ⟨h.hor.1, by have := h.hor.2; omega⟩⟩, h.op, fun e he => decide_eq_true (h.frm e he), riseN_iff.2 ⟨fun x hx => (h.us x hx).1, h.ur⟩, fun x hx => ?_, h.su.rise, fun e he => ?_, riseN_iff.2 ⟨fun x hx => (h.tb x hx).1, h.tr⟩, fun x hx => ?_⟩
  ·obtain ⟨k1, k2, k3, k4⟩ := h.us x hx
   exact (hst h.now.1 h.op h.frm x.l).2 ⟨k2, k3, k4⟩
  ·obtain ⟨k1, k2, k3⟩ := h.su.bnd e he
   unfold timesB
   simp only [Bool.and_eq_true, Bool.or_eq_true, decide_eq_true_eq, beq_iff_eq]
   exact ⟨k1, k2, k3.symm⟩
  ·obtain ⟨k1, k2, k3⟩ := h.tb x hx
   unfold tombB
   simp only [Bool.and_eq_true, decide_eq_true_eq]
   exact ⟨k2, k3⟩
set_option maxHeartbeats 2000000 in
theorem many_any (x : SaL) (w : World) (h : SaAt w x) (hs : stCnt x.m + x.us.length ≤ 1048576) :
  Calls Tryz.prog 18 #[saV x] w fun e w' => e = .returned (.int .i64 ((stCnt x.m : Int) + (x.us.length : Int))) ∧ Below w.heap.size w w' := by
 have S0 := SB.new (Below.refl w.heap.size w) h 27
 have HC := Lib.hid (fun V (h : SaAt V x) => rcount_any x V h (by omega) (by omega))
 have HSC : Hid (∀ V, SB w w.heap.size 27 x V → V.cell? ⟨w.heap.size, 0, none⟩ = some (.int .i64 x.now) ∧ V.cell? ⟨w.heap.size, 1, none⟩ = some (.int .i64 x.hor) ∧ V.cell? ⟨w.heap.size, 2, none⟩ = some (.slice x.oa x.op.length x.oc) ∧ V.cell? ⟨w.heap.size, 3, none⟩ = some (.slice x.ua x.us.length x.uc) ∧ V.cell? ⟨w.heap.size, 4, none⟩ = some (.slice x.sa x.su.length x.sc) ∧ V.cell? ⟨w.heap.size, 5, none⟩ = some (.slice x.ta x.tb.length x.tc)) := fun V h => h.cells
 have S1 := S0.drew
 have hN : stCnt x.m ≤ 1048576 := by omega
 have hU : x.us.length ≤ 1048576 := by omega
 generalize stCnt x.m = N at *
 obtain ⟨now, hor, oa, op, oc, ua, us, uc, sa, su, sc, ta, tb, tc⟩ := x
 unfold saV saC at *
 dsimp only at *
 clear h S0
 have hw : IntKind.i64.wrap ((N : Int) + (us.length : Int)) = (N : Int) + (us.length : Int) := IntWalk.i64_in _ (by omega)
 go_enter Tryz.func18, Tryz.ntmps18
 go_wp2_with fail
 go_region_held3 (fun V => V.cell? ⟨w.heap.size, 0, none⟩ = some (.int .i64 now) ∧ V.cell? ⟨w.heap.size, 1, none⟩ = some (.int .i64 hor) ∧ V.cell? ⟨w.heap.size, 2, none⟩ = some (.slice oa op.length oc) ∧ V.cell? ⟨w.heap.size, 3, none⟩ = some (.slice ua us.length uc) ∧ V.cell? ⟨w.heap.size, 4, none⟩ = some (.slice sa su.length sc) ∧ V.cell? ⟨w.heap.size, 5, none⟩ = some (.slice ta tb.length tc))
  (first | with_reducible exact HSC.out _ S2 | with_reducible exact HSC.out _ S1)
  (first | (go_at_call 65; refine (HC.out _ S1.at_).mono ?_; rintro e w2 ⟨rfl, h2⟩; have S2 := S1.below h2))
 all_goals
  have HF := Lib.hid S2.frame
  clear S1 S2 HC HSC h2
  go_wp2
  go_ret
  exact ⟨by rw [← hw]; rfl, HF.out⟩
end Go.Proofs.YtapacckmgmdnoaaGreat
namespace Go.Proofs.YtapacckmgmdnoaaGreat
open Go.ChangeShapes Go.WideShapes Go.ChangeAt Go.RowKit
set_option linter.unusedVariables false
set_option maxRecDepth 100000
set_option maxRecDepth 100000
def FitsT (l : List StM) : Prop := ∀ s ∈ l, I64 s.f ∧ I64 s.t
section
variable {H : Type} {enc : TypeId × Value → H} {P : Program} {w : World} {base : Nat} {spare : Nat → Bool} {held : Bool}
theorem open_quads {t e : TypeId} {f0 f1 f2 f3 : Field} {fuel : Nat} {cs : List Value} {x : DataW H × List MemPlace} (ht : P.underlying t = some (.slice e)) (he : P.underlying e = some (.struct #[f0, f1, f2, f3]))
  (ce : P.cellsOf e = 4) (o0 : f0.offset = 0) (o1 : f1.offset = 1) (o2 : f2.offset = 2) (o3 : f3.offset = 3) (c0 : P.cellsOf f0.type = 1) (c1 : P.cellsOf f1.type = 1) (c2 : P.cellsOf f2.type = 1) (c3 : P.cellsOf f3.type = 1)
  (h : DataW.trod enc P w base spare held fuel t cs = some x) :
  (cs = [.slice none 0 0] ∧ x = (.nil, [])) ∨
  ∃ (a : Addr) (len cap : Nat), cs = [.slice (some a) len cap] ∧ len ≤ cap ∧ cap ≤ maxLen ∧
   ∀ i, i < len → ∃ (v0 v1 v2 v3 : Value) (y0 y1 y2 y3 : DataW H × List MemPlace) (n : Nat), w.cell? (a.add (i * 4)) = some v0 ∧ w.cell? (a.add (i * 4 + 1)) = some v1 ∧ w.cell? (a.add (i * 4 + 2)) = some v2 ∧ w.cell? (a.add (i * 4 + 3)) = some v3 ∧
    DataW.trod enc P w base spare held n f0.type [v0] = some y0 ∧ DataW.trod enc P w base spare held n f1.type [v1] = some y1 ∧ DataW.trod enc P w base spare held n f2.type [v2] = some y2 ∧ DataW.trod enc P w base spare held n f3.type [v3] = some y3 := by
 rcases Go.Deep.open_slice ht h with h0 | ⟨a, len, cap, m, n, D, Pl, rfl, hb, hl, hm, hmm, rfl, hx⟩
 ·exact Or.inl h0
 right
 have hlm : len ≤ m := by rw [hmm]; split <;> omega
 refine ⟨a, len, cap, rfl, hl, hm, fun i hi => ?_⟩
 obtain ⟨cs', h1, h2⟩ := hx i (by omega)
 rw [ce] at h1
 obtain ⟨_, hlen, hcell⟩ := World.cells?_some h1
 obtain ⟨xs, k, hk, hxy, _, hxl, hf⟩ := DataW.trod_struct he h2
 match xs, hxl, cs', hlen with
 | [y0, y1, y2, y3], _, [v0, v1, v2, v3], _ =>
  have g0 := hf 0 f0 rfl
  have g1 := hf 1 f1 rfl
  have g2 := hf 2 f2 rfl
  have g3 := hf 3 f3 rfl
  simp [o0, o1, o2, o3, c0, c1, c2, c3] at g0 g1 g2 g3
  have e0 := hcell 0 (by omega)
  have e1 := hcell 1 (by omega)
  have e2 := hcell 2 (by omega)
  have e3 := hcell 3 (by omega)
  rw [Go.Deep.add_add] at e0 e1 e2 e3
  exact ⟨v0, v1, v2, v3, y0, y1, y2, y3, k, by simpa using e0, by simpa using e1, by simpa using e2, by simpa using e3, g0, g1, g2, g3⟩
end
theorem stFields : ∃ f0 f1 f2 f3 : Field, Tryz.prog.underlying 104 = some (.struct #[f0, f1, f2, f3]) ∧ f0.offset = 0 ∧ f1.offset = 1 ∧ f2.offset = 2 ∧ f3.offset = 3 ∧ f0.type = 3 ∧ f1.type = 3 ∧ f2.type = 3 ∧ f3.type = 3 := ⟨_, _, _, _, Tryz.underlying104, rfl, rfl, rfl, rfl, rfl, rfl, rfl, rfl⟩
theorem read_stays {H : Type} {enc : TypeId × Value → H} {W : World} {n : Nat} {cs : List Value} {x : DataW H × List MemPlace}
  (h : DataW.trod enc Tryz.prog W 0 (fun _ => true) true n 67 cs = some x) :
  ∃ (a : Option Addr) (c : Nat) (l : List StM), cs = [.slice a l.length c] ∧ StSl W a l ∧ FitsT l ∧ l.length ≤ c ∧ c ≤ maxLen ∧ (a = none → c = 0) := by
 obtain ⟨f0, f1, f2, f3, he, o0, o1, o2, o3, t0, t1, t2, t3⟩ := stFields
 have ci : Tryz.prog.cellsOf 3 = 1 := by kernel_rfl
 rcases open_quads Tryz.underlying67 he (by kernel_rfl) o0 o1 o2 o3 (by rw [t0]; exact ci) (by rw [t1]; exact ci) (by rw [t2]; exact ci) (by rw [t3]; exact ci) h with ⟨rfl, _⟩ | ⟨a, len, cap, rfl, hl, hm, hx⟩
 ·exact ⟨none, 0, [], rfl, StSl.nil _ _, (fun s hs => by cases hs), by simp, by decide, fun _ => rfl⟩
 ·have each : ∀ i, i < len → ∃ x : StM, W.cell? (a.add (i * 4)) = some (.int .i64 x.f) ∧ W.cell? (a.add (i * 4 + 1)) = some (.int .i64 x.t) ∧ W.cell? (a.add (i * 4 + 2)) = some (.int .i64 x.n) ∧ W.cell? (a.add (i * 4 + 3)) = some (.int .i64 x.s) ∧ I64 x.f ∧ I64 x.t := fun i hi => by
   obtain ⟨v0, v1, v2, v3, y0, y1, y2, y3, n, k0, k1, k2, k3, g0, g1, g2, g3⟩ := hx i hi
   rw [t0] at g0
   rw [t1] at g1
   rw [t2] at g2
   rw [t3] at g3
   obtain ⟨z0, e0, _, w0⟩ := DataW.trod_int Tryz.underlying3 g0
   obtain ⟨z1, e1, _, w1⟩ := DataW.trod_int Tryz.underlying3 g1
   obtain ⟨z2, e2, _, w2⟩ := DataW.trod_int Tryz.underlying3 g2
   obtain ⟨z3, e3, _, w3⟩ := DataW.trod_int Tryz.underlying3 g3
   simp at e0 e1 e2 e3
   exact ⟨⟨z0, z1, z2, z3⟩, by rw [k0, e0], by rw [k1, e1], by rw [k2, e2], by rw [k3, e3], wf64 w0, wf64 w1⟩
  have some_x : ∃ f : Nat → StM, ∀ i, i < len → W.cell? (a.add (i * 4)) = some (.int .i64 (f i).f) ∧ W.cell? (a.add (i * 4 + 1)) = some (.int .i64 (f i).t) ∧ W.cell? (a.add (i * 4 + 2)) = some (.int .i64 (f i).n) ∧ W.cell? (a.add (i * 4 + 3)) = some (.int .i64 (f i).s) ∧ I64 (f i).f ∧ I64 (f i).t := by
   refine ⟨fun i => if h : i < len then (each i h).choose else ⟨0, 0, 0, 0⟩, fun i hi => ?_⟩
   simp only [hi, ↓reduceDIte]
   exact (each i hi).choose_spec
  obtain ⟨f, hf2⟩ := some_x
  have hlen : ((List.range len).map f).length = len := by simp
  refine ⟨some a, cap, (List.range len).map f, by rw [hlen], fun k hk => ?_, fun x hxm => ?_, by omega, hm, fun h => by cases h⟩
  ·rw [hlen] at hk
   obtain ⟨b, off, spot⟩ := a
   have h0 := (hf2 0 (by omega)).1
   have hspot : spot = none := by simpa [Addr.add] using World.cell?_spot h0
   subst hspot
   obtain ⟨g0, g1, g2, g3, _⟩ := hf2 k (by omega)
   rw [Go.WideShapes.add_plain] at g0 g1 g2 g3
   simp only [List.getElem_map, List.getElem_range]
   exact ⟨b, off, rfl, World.block_lt_of_cell? W ⟨b, off + k * 4, none⟩ g0, g0, g1, g2, g3⟩
  ·obtain ⟨i, hi, rfl⟩ := List.mem_map.1 hxm
   exact (hf2 i (by have := List.mem_range.1 hi; omega)).2.2.2.2
theorem opFields : ∃ f0 f1 f2 f3 : Field, Tryz.prog.underlying 129 = some (.struct #[f0, f1, f2, f3]) ∧ f0.offset = 0 ∧ f1.offset = 1 ∧ f2.offset = 2 ∧ f3.offset = 3 ∧ f0.type = 3 ∧ f1.type = 9 ∧ f2.type = 3 ∧ f3.type = 3 := ⟨_, _, _, _, Tryz.underlying129, rfl, rfl, rfl, rfl, rfl, rfl, rfl, rfl⟩
theorem read_sess {H : Type} {enc : TypeId × Value → H} {W : World} {n : Nat} {cs : List Value} {x : DataW H × List MemPlace}
  (h : DataW.trod enc Tryz.prog W 0 (fun _ => true) true n 22 cs = some x) :
  ∃ (a : Option Addr) (c : Nat) (l : List OpM), cs = [.slice a l.length c] ∧ OpSl W a l ∧ SzO l ∧ l.length ≤ c ∧ c ≤ maxLen ∧ (a = none → c = 0) := by
 obtain ⟨f0, f1, f2, f3, he, o0, o1, o2, o3, t0, t1, t2, t3⟩ := opFields
 have ci : Tryz.prog.cellsOf 3 = 1 := by kernel_rfl
 have cs' : Tryz.prog.cellsOf 9 = 1 := by kernel_rfl
 rcases open_quads Tryz.underlying22 he (by kernel_rfl) o0 o1 o2 o3 (by rw [t0]; exact ci) (by rw [t1]; exact cs') (by rw [t2]; exact ci) (by rw [t3]; exact ci) h with ⟨rfl, _⟩ | ⟨a, len, cap, rfl, hl, hm, hx⟩
 ·exact ⟨none, 0, [], rfl, OpSl.nil _ _, (fun s hs => by cases hs), by simp, by decide, fun _ => rfl⟩
 ·have each : ∀ i, i < len → ∃ x : OpM, W.cell? (a.add (i * 4)) = some (.int .i64 x.n) ∧ W.cell? (a.add (i * 4 + 1)) = some (.string x.u) ∧ W.cell? (a.add (i * 4 + 2)) = some (.int .i64 x.s) ∧ W.cell? (a.add (i * 4 + 3)) = some (.int .i64 x.f) ∧ x.u.size ≤ maxLen := fun i hi => by
   obtain ⟨v0, v1, v2, v3, y0, y1, y2, y3, n, k0, k1, k2, k3, g0, g1, g2, g3⟩ := hx i hi
   rw [t0] at g0
   rw [t1] at g1
   rw [t2] at g2
   rw [t3] at g3
   obtain ⟨z0, e0, _, w0⟩ := DataW.trod_int Tryz.underlying3 g0
   obtain ⟨z1, e1, _, w1⟩ := DataW.trod_string Tryz.underlying9 g1
   obtain ⟨z2, e2, _, w2⟩ := DataW.trod_int Tryz.underlying3 g2
   obtain ⟨z3, e3, _, w3⟩ := DataW.trod_int Tryz.underlying3 g3
   simp at e0 e1 e2 e3
   exact ⟨⟨z0, z1, z2, z3⟩, by rw [k0, e0], by rw [k1, e1], by rw [k2, e2], by rw [k3, e3], w1⟩
  have some_x : ∃ f : Nat → OpM, ∀ i, i < len → W.cell? (a.add (i * 4)) = some (.int .i64 (f i).n) ∧ W.cell? (a.add (i * 4 + 1)) = some (.string (f i).u) ∧ W.cell? (a.add (i * 4 + 2)) = some (.int .i64 (f i).s) ∧ W.cell? (a.add (i * 4 + 3)) = some (.int .i64 (f i).f) ∧ (f i).u.size ≤ maxLen := by
   refine ⟨fun i => if h : i < len then (each i h).choose else opZ, fun i hi => ?_⟩
   simp only [hi, ↓reduceDIte]
   exact (each i hi).choose_spec
  obtain ⟨f, hf2⟩ := some_x
  have hlen : ((List.range len).map f).length = len := by simp
  refine ⟨some a, cap, (List.range len).map f, by rw [hlen], fun k hk => ?_, fun x hxm => ?_, by omega, hm, fun h => by cases h⟩
  ·rw [hlen] at hk
   obtain ⟨b, off, spot⟩ := a
   have h0 := (hf2 0 (by omega)).1
   have hspot : spot = none := by simpa [Addr.add] using World.cell?_spot h0
   subst hspot
   obtain ⟨g0, g1, g2, g3, _⟩ := hf2 k (by omega)
   rw [Go.WideShapes.add_plain] at g0 g1 g2 g3
   simp only [List.getElem_map, List.getElem_range]
   exact ⟨b, off, rfl, World.block_lt_of_cell? W ⟨b, off + k * 4, none⟩ g0, g0, g1, g2, g3⟩
  ·obtain ⟨i, hi, rfl⟩ := List.mem_map.1 hxm
   exact (hf2 i (by have := List.mem_range.1 hi; omega)).2.2.2.2
theorem sliceLen_le {H : Type} (d : DataW H) : Go.Joins.sliceLen d ≤ Rows.uptoBulk d := by
 have h1 : ∀ l : List (DataW H), l.length ≤ Rows.uptoBulkAll l := by
  intro l
  induction l with
  | nil => simp
  | cons x l ih =>
   have h2 : 1 ≤ Rows.uptoBulk x := by
    cases x with
    | lit l => cases l <;> simp [Rows.uptoBulk]
    | nil => simp [Rows.uptoBulk]
    | ptr d => simp [Rows.uptoBulk]
    | slice elems spare => simp [Rows.uptoBulk]
    | agg parts => simp [Rows.uptoBulk]
    | iface t d => simp [Rows.uptoBulk]
    | map entries => simp [Rows.uptoBulk]
    | held h => simp [Rows.uptoBulk]
   simp only [Rows.uptoBulkAll, List.length_cons]
   omega
 cases d with
 | slice elems spare =>
  have h2 := h1 elems
  have h3 := h1 spare
  simp only [Go.Joins.sliceLen, Rows.uptoBulk]
  omega
 | lit l => simp [Go.Joins.sliceLen]
 | nil => simp [Go.Joins.sliceLen]
 | ptr d => simp [Go.Joins.sliceLen]
 | agg parts => simp [Go.Joins.sliceLen]
 | iface t d => simp [Go.Joins.sliceLen]
 | map entries => simp [Go.Joins.sliceLen]
 | held h => simp [Go.Joins.sliceLen]
theorem tbFields : ∃ f0 f1 : Field, Tryz.prog.underlying 137 = some (.struct #[f0, f1]) ∧ f0.offset = 0 ∧ f1.offset = 1 ∧ f0.type = 9 ∧ f1.type = 3 := ⟨_, _, Tryz.underlying137, rfl, rfl, rfl, rfl⟩
theorem usFields : ∃ f0 f1 : Field, Tryz.prog.underlying 131 = some (.struct #[f0, f1]) ∧ f0.offset = 0 ∧ f1.offset = 1 ∧ f0.type = 9 ∧ f1.type = 67 := ⟨_, _, Tryz.underlying131, rfl, rfl, rfl, rfl⟩
theorem saFields : ∃ f0 f1 f2 f3 f4 f5 : Field, Tryz.prog.underlying 27 = some (.struct #[f0, f1, f2, f3, f4, f5]) ∧ f0.offset = 0 ∧ f1.offset = 1 ∧ f2.offset = 2 ∧ f3.offset = 3 ∧ f4.offset = 4 ∧ f5.offset = 5 ∧ f0.type = 3 ∧ f1.type = 3 ∧ f2.type = 22 ∧ f3.type = 23 ∧ f4.type = 24 ∧ f5.type = 25 := ⟨_, _, _, _, _, _, Tryz.underlying27, rfl, rfl, rfl, rfl, rfl, rfl, rfl, rfl, rfl, rfl, rfl, rfl⟩
theorem read_tombs {H : Type} {enc : TypeId × Value → H} {W : World} {n : Nat} {cs : List Value} {x : DataW H × List MemPlace}
  (h : DataW.trod enc Tryz.prog W 0 (fun _ => true) true n 25 cs = some x) :
  ∃ (a : Option Addr) (c : Nat) (l : List TbM), cs = [.slice a l.length c] ∧ TbSl W a l ∧ (∀ e ∈ l, e.u.size ≤ maxLen) ∧ Cp a l.length c := by
 obtain ⟨f0, f1, he, o0, o1, t0, t1⟩ := tbFields
 have ci : Tryz.prog.cellsOf 3 = 1 := by kernel_rfl
 have cs' : Tryz.prog.cellsOf 9 = 1 := by kernel_rfl
 rcases Go.Deep.open_slice_pairs Tryz.underlying25 he (by kernel_rfl) o0 o1 (by rw [t0]; exact cs') (by rw [t1]; exact ci) h with ⟨rfl, _⟩ | ⟨a, len, cap, m, n', V0, V1, D0, D1, P0, P1, rfl, _, hl, hm, hmm, _, hx⟩
 ·exact ⟨none, 0, [], rfl, TbSl.nil _ _, (fun s hs => by cases hs), Cp.none⟩
 ·have hlm : len ≤ m := by rw [hmm]; split <;> omega
  have each : ∀ i, i < len → ∃ x : TbM, W.cell? (a.add (i * 2)) = some (.string x.u) ∧ W.cell? (a.add (i * 2 + 1)) = some (.int .i64 x.a) ∧ x.u.size ≤ maxLen := fun i hi => by
   obtain ⟨k0, k1, g0, g1⟩ := hx i (by omega)
   rw [t0] at g0
   rw [t1] at g1
   obtain ⟨z0, e0, _, w0⟩ := DataW.trod_string Tryz.underlying9 g0
   obtain ⟨z1, e1, _, w1⟩ := DataW.trod_int Tryz.underlying3 g1
   simp at e0 e1
   exact ⟨⟨z0, z1⟩, by rw [k0, e0], by rw [k1, e1], w0⟩
  have some_x : ∃ f : Nat → TbM, ∀ i, i < len → W.cell? (a.add (i * 2)) = some (.string (f i).u) ∧ W.cell? (a.add (i * 2 + 1)) = some (.int .i64 (f i).a) ∧ (f i).u.size ≤ maxLen := by
   refine ⟨fun i => if h : i < len then (each i h).choose else default, fun i hi => ?_⟩
   simp only [hi, ↓reduceDIte]
   exact (each i hi).choose_spec
  obtain ⟨f, hf2⟩ := some_x
  have hlen : ((List.range len).map f).length = len := by simp
  refine ⟨some a, cap, (List.range len).map f, by rw [hlen], fun k hk => ?_, fun x hxm => ?_, ⟨by rw [hlen]; omega, hm, fun h => by cases h⟩⟩
  ·rw [List.length_map, hlen] at hk
   obtain ⟨b, off, spot⟩ := a
   have h0 := (hf2 0 (by omega)).1
   have hspot : spot = none := by simpa [Addr.add] using World.cell?_spot h0
   subst hspot
   obtain ⟨g0, g1, _⟩ := hf2 k (by omega)
   rw [Go.WideShapes.add_plain] at g0 g1
   simp only [List.getElem_map, List.getElem_range]
   exact ⟨b, off, rfl, World.block_lt_of_cell? W ⟨b, off + k * 2, none⟩ g0, g0, g1⟩
  ·obtain ⟨i, hi, rfl⟩ := List.mem_map.1 hxm
   exact (hf2 i (by have := List.mem_range.1 hi; omega)).2.2
theorem bulk_pairs {H : Type} (F : Nat → List StM) (D0 D1 : Nat → DataW H) (len : Nat) (h : ∀ i, i < len → (F i).length ≤ Rows.uptoBulk (D1 i)) :
  ((List.range len).map fun i => (F i).length).sum + len ≤ Rows.uptoBulkAll ((List.range len).map fun i => DataW.agg [D0 i, D1 i]) := by
 induction len with
 | zero => simp
 | succ n ih =>
  have happ : ∀ l r : List (DataW H), Rows.uptoBulkAll (l ++ r) = Rows.uptoBulkAll l + Rows.uptoBulkAll r := by
   intro l r
   induction l with
   | nil => simp [Rows.uptoBulkAll]
   | cons x l ih => simp only [List.cons_append, Rows.uptoBulkAll, ih]; omega
  have h1 := ih (fun i hi => h i (by omega))
  have h2 := h n (by omega)
  rw [List.range_succ, List.map_append, List.map_append, List.sum_append, happ]
  simp only [List.map_cons, List.map_nil, List.sum_cons, List.sum_nil, Rows.uptoBulkAll, Rows.uptoBulk]
  omega
theorem read_users {H : Type} {enc : TypeId × Value → H} {W : World} {n : Nat} {cs : List Value} {x : DataW H × List MemPlace}
  (h : DataW.trod enc Tryz.prog W 0 (fun _ => true) true n 23 cs = some x) :
  ∃ (a : Option Addr) (c : Nat) (D : List UsL), cs = [.slice a D.length c] ∧ UsSl W a D ∧ (∀ e ∈ umS D, e.u.size ≤ maxLen) ∧ Cp a D.length c ∧ cntU (umS D) + D.length ≤ Rows.uptoBulk x.1 := by
 obtain ⟨f0, f1, he, o0, o1, t0, t1⟩ := usFields
 have ci : Tryz.prog.cellsOf 67 = 1 := by kernel_rfl
 have cs' : Tryz.prog.cellsOf 9 = 1 := by kernel_rfl
 rcases Go.Deep.open_slice_pairs Tryz.underlying23 he (by kernel_rfl) o0 o1 (by rw [t0]; exact cs') (by rw [t1]; exact ci) h with ⟨rfl, hx⟩ | ⟨a, len, cap, m, n', V0, V1, D0, D1, P0, P1, rfl, _, hl, hm, hmm, hd, hx⟩
 ·exact ⟨none, 0, [], rfl, UsSl.nil _ _, (fun s hs => by cases hs), Cp.none, by simp [umS, cntU]⟩
 ·have hlm : len ≤ m := by rw [hmm]; split <;> omega
  have each : ∀ i, i < len → ∃ x : UsL, W.cell? (a.add (i * 2)) = some (.string x.u) ∧ W.cell? (a.add (i * 2 + 1)) = some (.slice x.a x.l.length x.c) ∧ UsAt W x ∧ x.u.size ≤ maxLen ∧ x.l.length ≤ Rows.uptoBulk (D1 i) := fun i hi => by
   obtain ⟨k0, k1, g0, g1⟩ := hx i (by omega)
   rw [t0] at g0
   rw [t1] at g1
   obtain ⟨z0, e0, _, w0⟩ := DataW.trod_string Tryz.underlying9 g0
   obtain ⟨b, q, l, e1, r1, r2, r3, r4, r5⟩ := read_stays g1
   have e2 := List.singleton_inj.1 e1
   have hb : Go.Joins.sliceLen (D1 i) = l.length := by
    rw [e2] at g1
    exact Go.Joins.sliceLen_trod Tryz.underlying67 g1
   have hb2 := sliceLen_le (D1 i)
   simp at e0
   exact ⟨⟨z0, b, l, q⟩, by rw [k0, e0], by rw [k1, e2], ⟨r1, r3, r4, r5⟩, w0, by rw [← hb]; exact hb2⟩
  have some_x : ∃ f : Nat → UsL, ∀ i, i < len → W.cell? (a.add (i * 2)) = some (.string (f i).u) ∧ W.cell? (a.add (i * 2 + 1)) = some (.slice (f i).a (f i).l.length (f i).c) ∧ UsAt W (f i) ∧ (f i).u.size ≤ maxLen ∧ (f i).l.length ≤ Rows.uptoBulk (D1 i) := by
   refine ⟨fun i => if h : i < len then (each i h).choose else default, fun i hi => ?_⟩
   simp only [hi, ↓reduceDIte]
   exact (each i hi).choose_spec
  obtain ⟨f, hf2⟩ := some_x
  have hlen : ((List.range len).map f).length = len := by simp
  refine ⟨some a, cap, (List.range len).map f, by rw [hlen], ⟨fun k hk => ?_, fun x hxm => ?_⟩, fun x hxm => ?_, ⟨by rw [hlen]; omega, hm, fun h => by cases h⟩, ?_⟩
  ·rw [List.length_map, hlen] at hk
   obtain ⟨b, off, spot⟩ := a
   have h0 := (hf2 0 (by omega)).1
   have hspot : spot = none := by simpa [Addr.add] using World.cell?_spot h0
   subst hspot
   obtain ⟨g0, g1, _⟩ := hf2 k (by omega)
   rw [Go.WideShapes.add_plain] at g0 g1
   simp only [List.getElem_map, List.getElem_range]
   exact ⟨b, off, rfl, World.block_lt_of_cell? W ⟨b, off + k * 2, none⟩ g0, g0, g1⟩
  ·obtain ⟨i, hi, rfl⟩ := List.mem_map.1 hxm
   exact (hf2 i (List.mem_range.1 hi)).2.2.1
  ·obtain ⟨y, hy, rfl⟩ := List.mem_map.1 hxm
   obtain ⟨i, hi, rfl⟩ := List.mem_map.1 hy
   exact (hf2 i (List.mem_range.1 hi)).2.2.2.1
  ·have hbk := bulk_pairs (fun i => (f i).l) D0 D1 len (fun i hi => (hf2 i hi).2.2.2.2)
   have e1 : cntU (umS ((List.range len).map f)) = ((List.range len).map fun i => (f i).l.length).sum := by
    unfold cntU umS
    rw [List.map_map, List.map_map]
    rfl
   rw [e1, hlen, hd]
   simp only [Rows.uptoBulk]
   omega
theorem open_state {H : Type} {enc : TypeId × Value → H} {W : World} {base : Nat} {v : Value} {d : DataW H} {p : List MemPlace}
  (hok : Value.okWide Tryz.prog W .any base 27 v) (h : DataW.Trod enc Tryz.prog W 0 (fun _ => true) true 27 v d p) :
  ∃ x : SaL, v = saV x ∧ SaAt W x ∧ SzS x.m ∧ stCnt x.m + x.us.length ≤ Rows.uptoBulk d := by
 obtain ⟨f0, f1, f2, f3, f4, f5, he, o0, o1, o2, o3, o4, o5, t0, t1, t2, t3, t4, t5⟩ := saFields
 have ci : Tryz.prog.cellsOf 3 = 1 := by kernel_rfl
 have k2 : Tryz.prog.cellsOf 22 = 1 := by kernel_rfl
 have k3 : Tryz.prog.cellsOf 23 = 1 := by kernel_rfl
 have k4 : Tryz.prog.cellsOf 24 = 1 := by kernel_rfl
 have k5 : Tryz.prog.cellsOf 25 = 1 := by kernel_rfl
 obtain ⟨cs, rfl, hsz⟩ := okWide_struct he hok
 obtain ⟨c0, c1, c2, c3, c4, c5, rfl⟩ := array6 (hsz.trans (by kernel_rfl))
 obtain ⟨fuel, hf⟩ := h
 obtain ⟨y0, y1, y2, y3, y4, y5, n, hx, g0, g1, g2, g3, g4, g5⟩ := trod_six (x := (d, p)) he o0 o1 o2 o3 o4 o5 (by rw [t0]; exact ci) (by rw [t1]; exact ci) (by rw [t2]; exact k2) (by rw [t3]; exact k3) (by rw [t4]; exact k4) (by rw [t5]; exact k5) (by simpa [Value.cells] using hf)
 rw [t0] at g0
 rw [t1] at g1
 rw [t2] at g2
 rw [t3] at g3
 rw [t4] at g4
 rw [t5] at g5
 obtain ⟨z0, e0, _, w0⟩ := DataW.trod_int Tryz.underlying3 g0
 obtain ⟨z1, e1, _, w1⟩ := DataW.trod_int Tryz.underlying3 g1
 obtain ⟨a2, q2, l2, e2, r2, s2, m2, n2, p2⟩ := read_sess g2
 obtain ⟨a3, q3, l3, e3, r3, s3, m3, b3⟩ := read_users g3
 obtain ⟨a4, q4, l4, e4, r4, s4, m4, n4, p4⟩ := read_entries g4
 obtain ⟨a5, q5, l5, e5, r5, s5, m5⟩ := read_tombs g5
 simp at e0 e1
 obtain rfl := List.singleton_inj.1 e2
 obtain rfl := List.singleton_inj.1 e3
 obtain rfl := List.singleton_inj.1 e4
 obtain rfl := List.singleton_inj.1 e5
 subst e0 e1
 have b2 : l2.length ≤ Rows.uptoBulk y2.1 := by rw [← Go.Joins.sliceLen_trod (d := y2.1) (ps := y2.2) Tryz.underlying22 g2]; exact sliceLen_le _
 have b4 : l4.length ≤ Rows.uptoBulk y4.1 := by rw [← Go.Joins.sliceLen_trod (d := y4.1) (ps := y4.2) Tryz.underlying24 g4]; exact sliceLen_le _
 have b5 : l5.length ≤ Rows.uptoBulk y5.1 := by rw [← Go.Joins.sliceLen_trod (d := y5.1) (ps := y5.2) Tryz.underlying25 g5]; exact sliceLen_le _
 refine ⟨⟨z0, z1, a2, l2, q2, a3, l3, q3, a4, l4, q4, a5, l5, q5⟩, rfl, ⟨r2, r3, r4, r5, ⟨m2, n2, p2⟩, m3, ⟨m4, n4, p4⟩, m5⟩, ⟨s2, s3, fun e he => ⟨(s4 e he).1, (s4 e he).2.1⟩, s5⟩, ?_⟩
 have hx' : d = .agg [y0.1, y1.1, y2.1, y3.1, y4.1, y5.1] := hx
 rw [hx']
 simp only [Rows.uptoBulk, Rows.uptoBulkAll, stCnt, SaL.m]
 omega
end Go.Proofs.YtapacckmgmdnoaaGreat
namespace Go.Proofs.YtapacckmgmdnoaaGreat
open Go.RowKit Go.Proofs
set_option linter.unusedVariables false
set_option maxRecDepth 100000
theorem wpList_unguard12 {P : Program} {ops : Array Oper} {Q : Exit → Act → World → Prop} {a : Act} {w : World} {rest : List Oper} {o : Oper} (hw : Region.wanted o (yielded ops a.tmps) = true)
  (h : wpList P ops Q ({ o with guard := none } :: rest) a w) : wpList P ops Q (o :: rest) a w := by
 unfold wpList at h ⊢
 rw [if_pos hw]
 rw [if_pos (show Region.wanted { o with guard := none } (yielded ops a.tmps) = true from rfl)] at h
 exact h
theorem ErSl.cells {w : World} {ad : Addr} {E : List Int} (h : ErSl w (some ad) E) : ∀ j u, (ers E)[j]? = some u → w.cell? (ad.add j) = some u := Sl.cells h
theorem er_join (w : World) (ty : TypeId) (a b : Option Addr) (E G : List Int) (c : Nat) (ha : ErSl w a E) (hb : ErSl w b G) (hl : E.length + G.length ≤ 1000000) :
  ∃ v' w', (Builtin.append_ #[40, 40] ty #[.slice a E.length E.length, .slice b G.length c]).run Tryz.prog w = .ok v' w' ∧ (∃ x q, v' = .slice x (E.length + G.length) q ∧ ErSl w' x (E ++ G)) ∧ Below w.heap.size w w' := by
 obtain ⟨i0, hi, hz0, hz1, hz2⟩ := info_parts infoErr
 have new : ∀ (k : Nat) (o : List Value), o = ers (E ++ G) → E.length + G.length ≤ k → ErSl (w.drew.alloc (.cells (o.toArray ++ Builtin.zeroCells (Value.int .i64 0).cells (k - (E.length + G.length))) 60)) (some ⟨w.heap.size, 0, none⟩) (E ++ G) := fun k o ho hk j hj => by
  refine ⟨w.heap.size, 0, rfl, by rw [size1]; show w.heap.size < w.heap.size + 1; omega, ?_⟩
  show (w.drew.alloc _).cell? ⟨w.drew.heap.size, 0 + j, none⟩ = _
  rw [cell_of_row _ _ _ _ _ (0, 0) (heap_alloc_new w.drew _), Nat.zero_add, ← Array.getElem?_toList, Array.toList_append, List.getElem?_append_left (by rw [ho]; exact hj), ho, List.getElem?_eq_getElem hj]
 by_cases hG : G = []
 ·subst hG
  cases a with
  | none =>
   have hE : E = [] := by
    cases E with
    | nil => rfl
    | cons e E => obtain ⟨_, _, e, _⟩ := ha 0 (by rw [ers_len]; simp); cases e
   subst hE
   refine ⟨.slice none 0 0, w, ?_, ⟨none, 0, rfl, ErSl.nil _ _⟩, Below.refl _ _⟩
   cases b <;> simp [Builtin.append_, run_underlying Tryz.underlying40, sizeOf, typeInfo, hi, Builtin.lenOf, Builtin.firstCells, loadCells, loadCellsFrom]
  | some ad =>
   refine ⟨.slice (some ad) (E.length + 0) E.length, w, ?_, ⟨_, _, rfl, by rw [List.append_nil]; exact ha⟩, Below.refl _ _⟩
   cases b <;> simp [Builtin.append_, run_underlying Tryz.underlying40, sizeOf, typeInfo, hi, Builtin.lenOf, Builtin.firstCells, loadCells, loadCellsFrom, storeCells]
 ·have hGp := List.length_pos_iff.2 hG
  cases b with
  | none => obtain ⟨_, _, e, _⟩ := hb 0 (by rw [ers_len]; exact hGp); cases e
  | some bd =>
   cases a with
   | none =>
    have hE : E = [] := by
     cases E with
     | nil => rfl
     | cons e E => obtain ⟨_, _, e, _⟩ := ha 0 (by rw [ers_len]; simp); cases e
    subst hE
    have hr := run_append_nil (P := Tryz.prog) w 40 ty 60 i0 _ Tryz.underlying40 hi hz0 bd G.length c (ers G) (by rw [hz1, ers_len]; omega) (fun j u hu => hb.cells j u hu) hGp (by simp at hl; omega) (by rw [hz2]; simp at hl; omega)
    have hge := grownCap_ge w G.length 0 60
    refine ⟨_, _, hr, ⟨_, _, by rw [List.length_nil, Nat.zero_add], ?_⟩, (Below.refl _ _).drew.alloc (Nat.le_refl _) _⟩
    have h1 := new (grownCap w G.length 0 60) (ers G) (by rw [List.nil_append]) (by rw [List.length_nil]; omega)
    rw [List.length_nil, Nat.zero_add] at h1
    exact h1
   | some ad =>
    have hr := run_append_grow (P := Tryz.prog) w 40 ty 60 i0 _ Tryz.underlying40 hi hz0 ad E.length E.length (ers E) (by rw [hz1, ers_len]; omega) (fun j u hu => ha.cells j u hu) bd G.length c (ers G) (by rw [hz1, ers_len]; omega) (fun j u hu => hb.cells j u hu) (by omega) (by omega) (growslice_fits (by omega) (by rw [hz2]; omega))
    have hge := grownCap_ge w (E.length + G.length) E.length 60
    refine ⟨_, _, hr, ⟨_, _, rfl, ?_⟩, (Below.refl _ _).drew.alloc (Nat.le_refl _) _⟩
    have h1 := new (grownCap w (E.length + G.length) E.length 60) (ers E ++ ers G) (by simp [ers]) hge
    have e : (ers E ++ ers G).toArray = (ers E).toArray ++ (ers G).toArray := by simp
    rw [e] at h1
    exact h1
theorem wpList_join_er (w : World) {ops : Array Oper} {rest : List Oper} {o : Oper} {a : Act} {Q : Exit → Act → World → Prop} (s x : Operand)
  (ho : o.op = .call { callee := .builtin .append, args := #[s, x], argTypes := #[40, 40] }) (hg : o.guard = none) (p b : Option Addr) (E G : List Int) (c : Nat) (hs : a.eval s = .slice p E.length E.length) (hx : a.eval x = .slice b G.length c) (hp : ErSl w p E) (hb : ErSl w b G) (hl : E.length + G.length ≤ 1000000)
  (h : ∀ x q w', ErSl w' x (E ++ G) → Below w.heap.size w w' → wpList Tryz.prog ops Q rest (a.put o.dst (.slice x (E.length + G.length) q)) w') : wpList Tryz.prog ops Q (o :: rest) a w := by
 obtain ⟨v', w', hr, ⟨x', q, rfl, h1⟩, h2⟩ := er_join w o.type p b E G c hp hb hl
 exact Lib.wpList_append_run w hg s x _ _ ho _ _ hs hx _ w' hr (h x' q w' h1 h2)
end Go.Proofs.YtapacckmgmdnoaaGreat
