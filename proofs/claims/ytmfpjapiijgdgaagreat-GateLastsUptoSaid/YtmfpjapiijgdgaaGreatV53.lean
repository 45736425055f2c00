/- Texts of mine, one behind the other, of each what is wanted. -/
import Derived.Test.YtmfpjapiijgdgaaGreatV00
import Derived.Test.YtmfpjapiijgdgaaGreatRows
import Derived.Test.YtmfpjapiijgdgaaGreatShelf
import Derived.Test.YtmfpjapiijgdgaaGreatV01
import Derived.Test.YtmfpjapiijgdgaaGreatV03
import Derived.Test.YtmfpjapiijgdgaaGreatV05
import Derived.Test.YtmfpjapiijgdgaaGreatV06
import Derived.Test.YtmfpjapiijgdgaaGreatV07
import Derived.Test.YtmfpjapiijgdgaaGreatV17
import Derived.Test.YtmfpjapiijgdgaaGreatV20
import Derived.Test.YtmfpjapiijgdgaaGreatV26
import Derived.Test.YtmfpjapiijgdgaaGreatV28
import Derived.Test.YtmfpjapiijgdgaaGreatV35
import Derived.Test.YtmfpjapiijgdgaaGreatV37
import Derived.Test.YtmfpjapiijgdgaaGreatV41
import Derived.Test.YtmfpjapiijgdgaaGreatTQ
namespace Go.Proofs.YtmfpjapiijgdgaaGreat
open Go.ChangeShapes Go.WideShapes Go.ChangeAt Go.RowKit
set_option linter.unusedVariables false
set_option maxRecDepth 100000
set_option maxRecDepth 100000
section
variable {H : Type} {enc : TypeId × Value → H} {P : Program} {w : World} {base : Nat} {spare : Nat → Bool} {held : Bool}
end
theorem prFields : ∃ f0 f1 : Field, Tryz.prog.underlying 97 = some (.struct #[f0, f1]) ∧ f0.offset = 0 ∧ f1.offset = 1 ∧ f0.type = 9 ∧ f1.type = 9 := ⟨_, _, Tryz.underlying97, rfl, rfl, rfl, rfl⟩
theorem read_pair {H : Type} {enc : TypeId × Value → H} {W : World} {n : Nat} {cs : List Value} {x : DataW H × List MemPlace}
  (hl : cs.length = 2) (h : DataW.trod enc Tryz.prog W 0 (fun _ => true) true n 97 cs = some x) :
  ∃ a b : ByteArray, cs = [.string a, .string b] ∧ a.size ≤ maxLen ∧ b.size ≤ maxLen := by
 obtain ⟨f0, f1, he, o0, o1, t0, t1⟩ := prFields
 have ci : Tryz.prog.cellsOf 9 = 1 := by kernel_rfl
 obtain ⟨xs, k, hk, hxy, _, hxl, hf⟩ := DataW.trod_struct he h
 match xs, hxl, cs, hl with
 | [y0, y1], _, [v0, v1], _ =>
  have g0 := hf 0 f0 rfl
  have g1 := hf 1 f1 rfl
  simp [o0, o1, t0, t1, ci] at g0 g1
  obtain ⟨z0, e0, _, w0⟩ := DataW.trod_string Tryz.underlying9 g0
  obtain ⟨z1, e1, _, w1⟩ := DataW.trod_string Tryz.underlying9 g1
  simp at e0 e1
  subst e0 e1
  exact ⟨z0, z1, rfl, w0, w1⟩
theorem open_prr {H : Type} {enc : TypeId × Value → H} {W : World} {base : Nat} {v : Value} {d : DataW H} {p : List MemPlace}
  (hok : Value.okWide Tryz.prog W .any base 97 v) (h : DataW.Trod enc Tryz.prog W 0 (fun _ => true) true 97 v d p) :
  ∃ a b : ByteArray, v = .agg #[.string a, .string b] ∧ a.size ≤ maxLen ∧ b.size ≤ maxLen := by
 obtain ⟨cs, rfl, hsz⟩ := okWide_struct Tryz.underlying97 hok
 obtain ⟨fuel, hf⟩ := h
 obtain ⟨a, b, e, h1, h2⟩ := read_pair (cs := cs.toList) (by rw [Array.length_toList, hsz]; kernel_rfl) hf
 exact ⟨a, b, congrArg Value.agg (Array.toList_inj.1 e), h1, h2⟩
end Go.Proofs.YtmfpjapiijgdgaaGreat
namespace Go.Proofs.YtmfpjapiijgdgaaGreat
open Go.RowKit
set_option linter.unusedVariables false
set_option maxRecDepth 100000
set_option maxRecDepth 100000
def BestTo (l : List StM) (j : Nat) (q : Int) : Prop := (q = -1 ∧ lastS (l.take j) = (0, false)) ∨ ∃ k : Nat, ∃ h : k < l.length, q = (k : Int) ∧ k < j ∧ lastS (l.take j) = (l[k].t, true)
theorem BestTo.stay {l : List StM} {j : Nat} {q : Int} (h : BestTo l j q) (e : lastS (l.take (j + 1)) = lastS (l.take j)) : BestTo l (j + 1) q := by
 rcases h with ⟨h1, h2⟩ | ⟨k, hk, h1, h2, h3⟩
 ·exact .inl ⟨h1, e.trans h2⟩
 ·exact .inr ⟨k, hk, h1, by omega, e.trans h3⟩
theorem BestTo.here {l : List StM} {j : Nat} (hj : j < l.length) (e : lastS (l.take (j + 1)) = (l[j].t, true)) : BestTo l (j + 1) (j : Int) := .inr ⟨j, hj, rfl, by omega, e⟩
set_option maxHeartbeats 4000000 in
theorem refLast_any (a : Option Addr) (c : Nat) (l : List StM) (w : World) (hr : StSl w a l) (hl : l.length ≤ 1000000) :
  Calls Tryz.prog 103 #[.slice a l.length c] w fun e w' => e = .returned (.tuple #[.int .i64 (lastS l).1, .bool (lastS l).2]) ∧ Below w.heap.size w w' := by
 have HR := Lib.hid hr
 clear hr
 go_enter Tryz.func103, Tryz.ntmps103
 go_wp2
 go_loopw [4, 5] (fun u i wr => ∃ (j : Nat) (q : Int), j ≤ l.length ∧ i = .int .i64 j ∧ u = .int .i64 q ∧ Hid (BestTo l j q) ∧ Hid (Below w.heap.size w wr)) (fun _ i _ => l.length - (intOf i).toNat)
 case atStart => exact ⟨0, -1, by omega, rfl, rfl, .inl ⟨rfl, rfl⟩, Below.refl _ _⟩
 case round =>
  obtain ⟨j, q, hj, rfl, rfl, HO, HB⟩ := hrel
  by_cases hjl : j < l.length
  ·obtain ⟨b, off, rfl, hbl, hc0, hc1, hc2, hc3⟩ := (HR.out.below HB.out).at_ hjl
   have HK : Hid (RwK w (some ⟨b, off, none⟩) l wr) := ⟨HR.out.below HB.out, HB.out⟩
   have K1 := HK.out.below (Below.refl _ _).drew
   have HC := Lib.hid (last_take l j hjl)
   have HQ0 : Hid (∀ W, RwK w (some ⟨b, off, none⟩) l W → W.cell? ⟨b, off + j * 4, none⟩ = some (.int .i64 l[j].f) ∧ W.cell? ⟨b, off + j * 4 + 1, none⟩ = some (.int .i64 l[j].t)) := fun W h => ⟨(h.at_ hjl).1, (h.at_ hjl).2.1⟩
   have HST := Lib.hid HO.out.stay
   have HHE : Hid (lastS (l.take (j + 1)) = (l[j].t, true) → BestTo l (j + 1) (j : Int)) := BestTo.here hjl
   clear hc0 hc1 hc2 hc3
   by_cases h1 : l[j].t ≤ l[j].f
   ·have HE := Lib.hid (HST.out (HC.out.trans (by unfold lastStep; rw [if_neg (by omega)])))
    have hgt : decide (l[j].f < l[j].t) = false := decide_eq_false (by omega)
    clear HHE HC HST h1
    generalize l[j] = x at *
    go_wp2_with fail
    refine wp_region_held_drew (S := (fun W => W.cell? ⟨b, off + j * 4, none⟩ = some (.int .i64 x.f) ∧ W.cell? ⟨b, off + j * 4 + 1, none⟩ = some (.int .i64 x.t))) (by kernel_rfl) ?_ (fun hHeld => ?_)
    ·exact HQ0.out _ K1
    refine tV 0 12 ?_
    refine tV 1 13 ?_
    refine tV 2 14 ?_
    refine tV 3 15 ?_
    refine tV 4 16 ?_
    refine tV 5 17 ?_
    refine tV 6 18 ?_
    refine tV 7 19 ?_
    refine tV 8 20 ?_
    refine tV 9 21 ?_
    refine tV 10 22 ?_
    refine tV 11 23 ?_
    refine tU 12 24 ?_
    refine tU 13 25 ?_
    refine tU 14 26 ?_
    refine tU 15 27 ?_
    refine tU 16 28 ?_
    refine tU 17 29 ?_
    refine tU 18 30 ?_
    refine tU 19 31 ?_
    refine tU 20 32 ?_
    refine tU 21 33 ?_
    refine tU 22 34 ?_
    refine tU 23 35 ?_
    refine tU 24 36 ?_
    refine tU 25 37 ?_
    refine tU 26 38 ?_
    refine tV 27 39 ?_
    refine wpAnyH_done (by kernel_rfl) ?_ _
    all_goals
     go_wp2
     go_roundw
     case rel => exact ⟨j + 1, q, by omega, by go_num, rfl, HE, K1.frame⟩
     case measure => simp [intOf]; omega
   ·have hgt : decide (l[j].f < l[j].t) = true := decide_eq_true (by omega)
    rcases HO.out with ⟨hq, he⟩ | ⟨k, hk, hq, hkj, he⟩
    ·have HE := Lib.hid (HHE.out (HC.out.trans (by rw [he]; unfold lastStep; rw [if_pos ⟨by omega, .inl rfl⟩])))
     subst hq
     clear HHE HC HST h1 he HO
     generalize l[j] = x at *
     go_wp2_with fail
     refine wp_region_held_drew (S := (fun W => W.cell? ⟨b, off + j * 4, none⟩ = some (.int .i64 x.f) ∧ W.cell? ⟨b, off + j * 4 + 1, none⟩ = some (.int .i64 x.t))) (by kernel_rfl) ?_ (fun hHeld => ?_)
     ·exact HQ0.out _ K1
     refine tV 0 12 ?_
     refine tV 1 13 ?_
     refine tV 2 14 ?_
     refine tV 3 15 ?_
     refine tV 4 16 ?_
     refine tV 5 17 ?_
     refine tV 6 18 ?_
     refine tV 7 19 ?_
     refine tV 8 20 ?_
     refine tV 9 21 ?_
     refine tV 10 22 ?_
     refine tV 11 23 ?_
     refine tV 12 24 ?_
     refine tV 13 25 ?_
     refine tV 14 26 ?_
     refine tU 15 27 ?_
     refine tU 16 28 ?_
     refine tU 17 29 ?_
     refine tU 18 30 ?_
     refine tU 19 31 ?_
     refine tU 20 32 ?_
     refine tU 21 33 ?_
     refine tU 22 34 ?_
     refine tU 23 35 ?_
     refine tU 24 36 ?_
     refine tU 25 37 ?_
     refine tV 26 38 ?_
     refine tV 27 39 ?_
     refine wpAnyH_done (by kernel_rfl) ?_ _
     all_goals
      go_wp2
      go_roundw
      case rel => exact ⟨j + 1, (j : Int), by omega, by go_num, rfl, HE, K1.frame⟩
      case measure => simp [intOf]; omega
    ·have HQ1 : Hid (∀ W, RwK w (some ⟨b, off, none⟩) l W → W.cell? ⟨b, off + k * 4, none⟩ = some (.int .i64 l[k].f) ∧ W.cell? ⟨b, off + k * 4 + 1, none⟩ = some (.int .i64 l[k].t)) := fun W h => ⟨(h.at_ hk).1, (h.at_ hk).2.1⟩
     have hq0 : decide ((k : Int) < 0) = false := decide_eq_false (by omega)
     subst hq
     by_cases h3 : l[k].t < l[j].t
     ·have HE := Lib.hid (HHE.out (HC.out.trans (by rw [he]; unfold lastStep; rw [if_pos ⟨by omega, .inr h3⟩])))
      have hd := decide_eq_true h3
      clear HHE HC HST h1 he HO h3
      generalize l[k] = y at *
      generalize l[j] = x at *
      go_wp2_with fail
      refine wp_region_held_drew (S := (fun W => W.cell? ⟨b, off + j * 4, none⟩ = some (.int .i64 x.f) ∧ W.cell? ⟨b, off + j * 4 + 1, none⟩ = some (.int .i64 x.t) ∧ W.cell? ⟨b, off + k * 4, none⟩ = some (.int .i64 y.f) ∧ W.cell? ⟨b, off + k * 4 + 1, none⟩ = some (.int .i64 y.t))) (by kernel_rfl) ?_ (fun hHeld => ?_)
      ·obtain ⟨k1, k2⟩ := HQ0.out _ K1; exact ⟨k1, k2, HQ1.out _ K1⟩
      refine tV 0 12 ?_
      refine tV 1 13 ?_
      refine tV 2 14 ?_
      refine tV 3 15 ?_
      refine tV 4 16 ?_
      refine tV 5 17 ?_
      refine tV 6 18 ?_
      refine tV 7 19 ?_
      refine tV 8 20 ?_
      refine tV 9 21 ?_
      refine tV 10 22 ?_
      refine tV 11 23 ?_
      refine tV 12 24 ?_
      refine tV 13 25 ?_
      refine tV 14 26 ?_
      refine tV 15 27 ?_
      refine tV 16 28 ?_
      refine tV 17 29 ?_
      refine tV 18 30 ?_
      refine tV 19 31 ?_
      refine tV 20 32 ?_
      refine tV 21 33 ?_
      refine tV 22 34 ?_
      refine tV 23 35 ?_
      refine tV 24 36 ?_
      refine tV 25 37 ?_
      refine tV 26 38 ?_
      refine tV 27 39 ?_
      refine wpAnyH_done (by kernel_rfl) ?_ _
      all_goals
       go_wp2
       go_roundw
       case rel => exact ⟨j + 1, (j : Int), by omega, by go_num, rfl, HE, K1.frame⟩
       case measure => simp [intOf]; omega
     ·have HE := Lib.hid (HST.out (HC.out.trans (by rw [he]; unfold lastStep; rw [if_neg (by rintro ⟨_, h | h⟩; cases h; exact h3 h)])))
      have hd := decide_eq_false h3
      clear HHE HC HST h1 he HO h3
      generalize l[k] = y at *
      generalize l[j] = x at *
      go_wp2_with fail
      refine wp_region_held_drew (S := (fun W => W.cell? ⟨b, off + j * 4, none⟩ = some (.int .i64 x.f) ∧ W.cell? ⟨b, off + j * 4 + 1, none⟩ = some (.int .i64 x.t) ∧ W.cell? ⟨b, off + k * 4, none⟩ = some (.int .i64 y.f) ∧ W.cell? ⟨b, off + k * 4 + 1, none⟩ = some (.int .i64 y.t))) (by kernel_rfl) ?_ (fun hHeld => ?_)
      ·obtain ⟨k1, k2⟩ := HQ0.out _ K1; exact ⟨k1, k2, HQ1.out _ K1⟩
      refine tV 0 12 ?_
      refine tV 1 13 ?_
      refine tV 2 14 ?_
      refine tV 3 15 ?_
      refine tV 4 16 ?_
      refine tV 5 17 ?_
      refine tV 6 18 ?_
      refine tV 7 19 ?_
      refine tV 8 20 ?_
      refine tV 9 21 ?_
      refine tV 10 22 ?_
      refine tV 11 23 ?_
      refine tV 12 24 ?_
      refine tV 13 25 ?_
      refine tV 14 26 ?_
      refine tV 15 27 ?_
      refine tV 16 28 ?_
      refine tV 17 29 ?_
      refine tV 18 30 ?_
      refine tV 19 31 ?_
      refine tV 20 32 ?_
      refine tV 21 33 ?_
      refine tV 22 34 ?_
      refine tV 23 35 ?_
      refine tV 24 36 ?_
      refine tV 25 37 ?_
      refine tV 26 38 ?_
      refine tV 27 39 ?_
      refine wpAnyH_done (by kernel_rfl) ?_ _
      all_goals
       go_wp2
       go_roundw
       case rel => exact ⟨j + 1, (k : Int), by omega, by go_num, rfl, HE, K1.frame⟩
       case measure => simp [intOf]; omega
  ·obtain rfl : j = l.length := by omega
   have HE := HO.out
   unfold BestTo at HE
   rw [List.take_of_length_le (Nat.le_refl _)] at HE
   rcases HE with ⟨hq, he⟩ | ⟨k, hk, hq, hkj, he⟩
   ·have HE := Lib.hid he
    subst hq
    clear he HO
    go_wp2
    go_ret2
    exact ⟨by rw [HE.out]; rfl, HB.out⟩
   ·have HE := Lib.hid he
    have hq0 : decide ((k : Int) < 0) = false := decide_eq_false (by omega)
    subst hq
    obtain ⟨b, off, rfl, hbl, hc0, hc1, hc2, hc3⟩ := (HR.out.below HB.out).at_ hk
    clear he HO
    generalize l[k] = y at *
    go_wp2
    go_ret2
    exact ⟨by rw [HE.out]; rfl, HB.out⟩
end Go.Proofs.YtmfpjapiijgdgaaGreat
namespace Go.Proofs.YtmfpjapiijgdgaaGreat
open Go.RowKit Go.Proofs
set_option linter.unusedVariables false
set_option maxRecDepth 100000
set_option maxHeartbeats 4000000 in
theorem rlast_any13 (x : SaL) (p u : ByteArray) (n : Int) (w : World) (h : SaAt w x) (hf : Few x.m 100) (hp : p.size ≤ maxLen) (hu : u.size ≤ maxLen) :
  Calls Tryz.prog 52 #[saV x, pr p u, .int .i64 n] w fun e w' => ∃ m, e = .returned (.tuple #[.int .i64 (lastS m).1, .bool (lastS m).2, .int .i64 (whyV x.m p u n)]) ∧ GTold x.m (everM p u n) m ∧ Below w.heap.size w w' := by
 have S := SB.new (Below.refl w.heap.size w) h 27
 have S := S.alloc (.cells #[.string p, .string u] 97)
 have HR := Lib.hid (fun V (h : SaAt V x) => rrange_any13 x (everM p u n) V h hf hp hu)
 have HS := Lib.hid S
 obtain ⟨c0, c1, c2, c3, c4, c5⟩ := S.cells
 have hnew := heap_alloc_new (w.alloc (.cells (saC x) 27)) (.cells #[.string p, .string u] 97)
 rw [size1] at hnew
 have p0 := cell_of_row _ _ 0 _ _ (0, 0) hnew
 have p1 := cell_of_row _ _ 1 _ _ (0, 0) hnew
 have HNO : Hid (∀ m, GTold x.m (everM p u n) m → whyV x.m p u n ≠ 0 → m = []) := fun m h k => h.2 k
 rw [show whyV x.m (everM p u n).w (everM p u n).u (everM p u n).n = whyV x.m p u n from rfl] at HR
 generalize GTold x.m (everM p u n) = TD at *
 generalize whyV x.m p u n = Y at *
 obtain ⟨now, hor, oa, op, oc, ua, us, uc, sa, su, sc, ta, tb, tc⟩ := x
 unfold saV saC askV askC everM pr at *
 dsimp only at *
 clear h hf S hnew
 by_cases hY : Y = 0
 ·subst hY
  go_enter Tryz.func52, Tryz.ntmps52
  go_wp2_with fail
  refine (HR.out _ HS.out.at_).mono ?_
  rintro e w1 ⟨y, c, m, rfl, k1, k2, k3, h1⟩
  have HF := Lib.hid (HS.out.frame.trans (h1.mono HS.out.frame.size))
  have HL := Lib.hid (refLast_any y c m w1 k3 (by omega))
  have HT := Lib.hid k1
  clear c0 c1 c2 c3 c4 c5 p0 p1 HS HR h1 k1 k2 k3 HNO
  go_wp2_with fail
  refine HL.out.mono ?_
  rintro e w2 ⟨rfl, h2⟩
  have HF2 := Lib.hid (HF.out.trans (h2.mono HF.out.size))
  clear HL HF h2
  go_wp2
  go_ret3
  exact ⟨m, rfl, HT.out, HF2.out⟩
 ·have hY1 : (Y == 0) = false := by simpa using hY
  go_enter Tryz.func52, Tryz.ntmps52
  go_wp2_with fail
  refine (HR.out _ HS.out.at_).mono ?_
  rintro e w1 ⟨y, c, m, rfl, k1, k2, k3, h1⟩
  have HF := Lib.hid (HS.out.frame.trans (h1.mono HS.out.frame.size))
  obtain rfl := HNO.out m k1 hY
  have HT := Lib.hid k1
  clear c0 c1 c2 c3 c4 c5 p0 p1 HS HR h1 k1 k2 k3 HNO
  go_wp2
  go_ret3
  exact ⟨[], rfl, HT.out, HF.out⟩
structure SP (w : World) (T U : TypeId) (x : SaL) (p u : ByteArray) (W : World) : Prop where
 s : SB w w.heap.size T x W
 p : W.heap[w.heap.size + 1]? = some (.cells #[.string p, .string u] U (0, 0))
theorem SP.below {w W W' : World} {T U : TypeId} {x : SaL} {p u : ByteArray} (h : SP w T U x p u W) (b : Below W.heap.size W W') : SP w T U x p u W' := ⟨h.s.below b, (b.block _ (heap_lt h.p)).trans h.p⟩
theorem SP.drew {w W : World} {T U : TypeId} {x : SaL} {p u : ByteArray} (h : SP w T U x p u W) : SP w T U x p u W.drew := h.below (Below.refl _ _).drew
theorem SP.new (w : World) {x : SaL} (p u : ByteArray) (h : SaAt w x) (T U : TypeId) : SP w T U x p u ((w.alloc (.cells (saC x) T)).alloc (.cells #[.string p, .string u] U)) := by
 have S := SB.new (Below.refl w.heap.size w) h T
 have Q := heap_alloc_new (w.alloc (.cells (saC x) T)) (.cells #[.string p, .string u] U)
 rw [size1] at Q
 exact ⟨S.alloc _, Q⟩
theorem SP.cells {w W : World} {T U : TypeId} {x : SaL} {p u : ByteArray} (h : SP w T U x p u W) : W.cell? ⟨w.heap.size, 0, none⟩ = some (.int .i64 x.now) ∧ W.cell? ⟨w.heap.size, 1, none⟩ = some (.int .i64 x.hor) ∧ W.cell? ⟨w.heap.size, 2, none⟩ = some (.slice x.oa x.op.length x.oc) ∧ W.cell? ⟨w.heap.size, 3, none⟩ = some (.slice x.ua x.us.length x.uc) ∧ W.cell? ⟨w.heap.size, 4, none⟩ = some (.slice x.sa x.su.length x.sc) ∧ W.cell? ⟨w.heap.size, 5, none⟩ = some (.slice x.ta x.tb.length x.tc) ∧ W.cell? ⟨w.heap.size + 1, 0, none⟩ = some (.string p) ∧ W.cell? ⟨w.heap.size + 1, 1, none⟩ = some (.string u) :=
 ⟨h.s.cells.1, h.s.cells.2.1, h.s.cells.2.2.1, h.s.cells.2.2.2.1, h.s.cells.2.2.2.2.1, h.s.cells.2.2.2.2.2, cell_of_row _ _ _ _ _ _ h.p, cell_of_row _ _ _ _ _ _ h.p⟩
end Go.Proofs.YtmfpjapiijgdgaaGreat
