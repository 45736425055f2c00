/- Texts of mine, one behind the other, of each what is wanted. -/
import Derived.Test.YtmfpjapiijgdgaaGreatQ00
import Derived.Test.YtmfpjapiijgdgaaGreatShelf
import Derived.Test.YtmfpjapiijgdgaaGreatRows
import Derived.Test.YtmfpjapiijgdgaaGreatQ01
import Derived.Test.YtmfpjapiijgdgaaGreatQ05
import Derived.Test.YtmfpjapiijgdgaaGreatQ06
import Derived.Test.YtmfpjapiijgdgaaGreatQ17
namespace Go.Proofs.YtmfpjapiijgdgaaGreat
open Go.RowKit
set_option linter.unusedVariables false
set_option maxRecDepth 100000
theorem Drew.refl (w : World) : Drew w w := ⟨0, rfl⟩
theorem Drew.trans {w w' w'' : World} (h : Drew w w') (k : Drew w' w'') : Drew w w'' := by
 obtain ⟨n, rfl⟩ := h; obtain ⟨m, rfl⟩ := k; exact ⟨_, by rw [World.drewN_drewN]⟩
end Go.Proofs.YtmfpjapiijgdgaaGreat
namespace Go.Proofs.YtmfpjapiijgdgaaGreat
open Go.RowKit
set_option linter.unusedVariables false
set_option maxRecDepth 100000
set_option maxRecDepth 100000
theorem take_same {α : Type} {l m : List α} {j : Nat} (hl : j < l.length) (hm : j < m.length) (h : l.take j = m.take j) (e : l[j] = m[j]) : l.take (j + 1) = m.take (j + 1) := by
 rw [List.take_add_one, List.take_add_one, List.getElem?_eq_getElem hl, List.getElem?_eq_getElem hm, h, e]
theorem infoStayR : (Tryz.prog.info? 104).map (fun i => (i.zero, i.size, i.bytes)) = some (some (.agg #[.int .i64 0, .int .i64 0, .int .i64 0, .int .i64 0]), 4, 32) := by kernel_rfl
end Go.Proofs.YtmfpjapiijgdgaaGreat
namespace Go.Proofs.YtmfpjapiijgdgaaGreat
open Go.RowKit Go.Sort Go.Proofs
set_option linter.unusedVariables false
set_option maxRecDepth 100000
set_option maxRecDepth 100000
theorem infoStayR4 : (Tryz.prog.info? 104).map (·.size) = some 4 := by kernel_rfl
theorem loadStR {W : World} {g : Nat} {a b c d : Value} {t : TypeId} (h : W.heap[g]? = some (.cells #[a, b, c, d] t (0, 0))) :
  (loadVar 104 ⟨g, 0, none⟩).run Tryz.prog W = .ok (.agg #[a, b, c, d]) W :=
 run_loadVar_mid (P := Tryz.prog) W g 0 104 [a, b, c, d] _ (fun j v hv => by
  rw [Nat.zero_add, cell_of_row _ _ _ _ _ (0, 0) h]
  simpa using hv) Tryz.underlying104 rfl infoStayR4
end Go.Proofs.YtmfpjapiijgdgaaGreat
namespace Go.Proofs.YtmfpjapiijgdgaaGreat
open Go.RowKit
set_option linter.unusedVariables false
set_option maxRecDepth 100000
set_option maxRecDepth 100000
set_option maxHeartbeats 1000000 in
theorem rstay_any (e : OpM) (t : Int) (w : World) : Calls Tryz.prog 161 #[opV e, .int .i64 t] w fun r w' => r = .returned (stV (stayO e t)) ∧ Below w.heap.size w w' := by
 unfold opV stV stayO
 obtain ⟨n, u, s, f⟩ := e
 dsimp only
 have HL : Hid (∀ o1 : Obj, (loadVar 104 ⟨w.heap.size + 1, 0, none⟩).run Tryz.prog ((w.alloc o1).alloc (.cells #[.int .i64 f, .int .i64 t, .int .i64 n, .int .i64 s] 104)) = .ok (.agg #[.int .i64 f, .int .i64 t, .int .i64 n, .int .i64 s]) ((w.alloc o1).alloc (.cells #[.int .i64 f, .int .i64 t, .int .i64 n, .int .i64 s] 104))) := fun o1 => by
  have := heap_alloc_new (w.alloc o1) (.cells #[.int .i64 f, .int .i64 t, .int .i64 n, .int .i64 s] 104)
  rw [size1] at this
  exact loadStR this
 have HG := Lib.hid (fun o p => below_two w o p)
 go_enter Tryz.func161, Tryz.ntmps161
 go_wp2
 refine bodyPost_ret (v := .agg #[.int .i64 f, .int .i64 t, .int .i64 n, .int .i64 s]) ?_ rfl ?_
 ·rw [results_cell1 rfl]
  simp [asAddr, Result.andThen, HL.out]
 ·exact ⟨rfl, HG.out _ _⟩
end Go.Proofs.YtmfpjapiijgdgaaGreat
namespace Go.Proofs.YtmfpjapiijgdgaaGreat
open Go.RowKit Go.Sort Go.Proofs
set_option linter.unusedVariables false
set_option maxRecDepth 100000
set_option maxRecDepth 100000
structure PosTo (l : List StM) (s : StM) (j p : Nat) : Prop where
 le : p ≤ j
 up : ∀ i (h : i < l.length), p ≤ i → i < j → ltSt s l[i]
 low : ∀ (h : 0 < p) (h1 : p - 1 < l.length), ¬ ltSt s l[p - 1]
theorem PosTo.up' {l : List StM} {s : StM} {j p : Nat} (h : PosTo l s j p) (hj : j < l.length) (k : ltSt s l[j]) : PosTo l s (j + 1) p :=
 ⟨by have := h.le; omega, fun i hi h1 h2 => by
  rcases Nat.lt_or_ge i j with h3 | h3
  ·exact h.up i hi h1 h3
  ·obtain rfl : i = j := by omega
   exact k, h.low⟩
theorem PosTo.here {l : List StM} {s : StM} {j p : Nat} (h : PosTo l s j p) (hj : j < l.length) (k : ¬ ltSt s l[j]) : PosTo l s (j + 1) (j + 1) :=
 ⟨Nat.le_refl _, fun i hi h1 h2 => absurd h1 (by omega), fun _ h1 => k⟩
theorem PosTo.is {l : List StM} {s : StM} {p : Nat} (h : PosTo l s l.length p) : IsPos l s p := ⟨h.le, fun i hi h1 => h.up i hi h1 hi, h.low⟩
structure RtK (w : World) (g : Nat) (x : StM) (a : Option Addr) (l : List StM) (W : World) : Prop where
 box : W.heap[g]? = some (.cells #[.int .i64 x.f, .int .i64 x.t, .int .i64 x.n, .int .i64 x.s] 104 (0, 0))
 row : StSl W a l
 frame : Below w.heap.size w W
theorem RtK.below {w W W' : World} {g : Nat} {x : StM} {a : Option Addr} {l : List StM} (h : RtK w g x a l W) (q : Below W.heap.size W W') : RtK w g x a l W' :=
 ⟨(q.block _ (heap_lt h.box)).trans h.box, h.row.below q, h.frame.trans (q.mono h.frame.size)⟩
theorem RtK.four {w W : World} {g : Nat} {x : StM} {a : Option Addr} {l : List StM} (h : RtK w g x a l W) :
  W.cell? ⟨g, 0, none⟩ = some (.int .i64 x.f) ∧ W.cell? ⟨g, 1, none⟩ = some (.int .i64 x.t) ∧ W.cell? ⟨g, 2, none⟩ = some (.int .i64 x.n) ∧ W.cell? ⟨g, 3, none⟩ = some (.int .i64 x.s) := cells4 h.box
theorem RtK.at_ {w W : World} {g : Nat} {x : StM} {b off : Nat} {l : List StM} (h : RtK w g x (some ⟨b, off, none⟩) l W) {k : Nat} (hk : k < l.length) :
  W.cell? ⟨g, 0, none⟩ = some (.int .i64 x.f) ∧ W.cell? ⟨g, 1, none⟩ = some (.int .i64 x.t) ∧ W.cell? ⟨g, 2, none⟩ = some (.int .i64 x.n) ∧ W.cell? ⟨g, 3, none⟩ = some (.int .i64 x.s) ∧
  W.cell? ⟨b, off + k * 4, none⟩ = some (.int .i64 l[k].f) ∧ W.cell? ⟨b, off + k * 4 + 1, none⟩ = some (.int .i64 l[k].t) ∧ W.cell? ⟨b, off + k * 4 + 2, none⟩ = some (.int .i64 l[k].n) ∧ W.cell? ⟨b, off + k * 4 + 3, none⟩ = some (.int .i64 l[k].s) := by
 obtain ⟨_, _, e, _, h0, h1, h2, h3⟩ := h.row.at_ hk
 cases e
 exact ⟨h.four.1, h.four.2.1, h.four.2.2.1, h.four.2.2.2, h0, h1, h2, h3⟩
theorem RtK.new {w W : World} {x : StM} {a : Option Addr} {l : List StM} (h : StSl W a l) (hb : Below w.heap.size w W) : RtK w W.heap.size x a l (W.alloc (.cells #[.int .i64 x.f, .int .i64 x.t, .int .i64 x.n, .int .i64 x.s] 104)) :=
 ⟨heap_alloc_new W _, h.below (below_one _ _), hb.alloc hb.size _⟩
structure Wd (x : Option Addr) (q n : Nat) : Prop where
 le : n ≤ q
 max : q ≤ maxLen
 nil : x = none → q = 0
theorem add_end {w w' : World} {B : Nat} {v : Value} {l : List StM} {s : StM} {p : Nat} (h : addS l s = l.take p ++ s :: l.drop p) (ho : w'.ownsRow B 104 4 v ((([] ++ l.take p) ++ [s]) ++ l.drop p).length (sts ((([] ++ l.take p) ++ [s]) ++ l.drop p))) (hb : Below w.heap.size w w') :
  ∃ x q, Ending.returned v = .returned (.slice x (addS l s).length q) ∧ StSl w' x (addS l s) ∧ Below w.heap.size w w' ∧ Wd x q (addS l s).length := by
 rw [List.nil_append, List.append_assoc, List.singleton_append, ← h] at ho
 obtain ⟨x, q, rfl, h1, h2, hs, h3⟩ := own_st ho
 exact ⟨x, q, rfl, hs, hb, ⟨h1, h2, h3⟩⟩
set_option maxHeartbeats 4000000 in
theorem refAdd_more (a : Option Addr) (c : Nat) (l : List StM) (s : StM) (w : World) (hr : StSl w a l) (hn : a = none → c = 0) (hl : l.length ≤ 1000) (hc : l.length ≤ c) (hcm : c ≤ maxLen) :
  Calls Tryz.prog 93 #[.slice a l.length c, stV s] w fun e w' => ∃ x q, e = .returned (.slice x (addS l s).length q) ∧ StSl w' x (addS l s) ∧ Below w.heap.size w w' ∧ Wd x q (addS l s).length := by
 have HWD : Hid (Wd a c l.length) := ⟨hc, hcm, hn⟩
 obtain ⟨i0, hi, hz0, hz1, hz2⟩ := info_parts infoStayR
 have HCM := Lib.hid (fun x y W => (ahead_any x y W).mono fun e w' (h : _ ∧ Grew W w') => And.intro h.1 (h.2.below (Nat.le_refl _)))
 have HK0 := Lib.hid (RtK.new (w := w) (x := s) hr (Below.refl _ _))
 have HNil := Lib.hid hn
 clear hr hn
 unfold maxLen at hcm
 unfold stV at *
 by_cases h0 : s.t ≤ s.f
 ·have hd0 := decide_eq_true h0
  have HA : Hid (addS l s = l) := by unfold Hid addS; rw [if_pos h0]
  rw [HA.out]
  go_enter Tryz.func93, Tryz.ntmps93
  go_wp2
  go_ret
  exact ⟨_, _, rfl, HK0.out.row, HK0.out.frame, HWD.out⟩
 ·have hd0 := decide_eq_false h0
  have HA : Hid (∀ p, IsPos l s p → addS l s = l.take p ++ s :: l.drop p) := fun p hp => by unfold addS; rw [if_neg h0, putS_at hp]
  go_enter Tryz.func93, Tryz.ntmps93
  go_wp2
  generalize w.alloc (.cells #[.int .i64 s.f, .int .i64 s.t, .int .i64 s.n, .int .i64 s.s] 104) = w1 at *
  generalize w.heap.size = g at *
  clear h0 hd0
  go_loopw [5, 6] (fun p i wr => ∃ (j q : Nat), j ≤ l.length ∧ q ≤ j ∧ i = .int .i64 j ∧ p = .int .i64 q ∧ Hid (PosTo l s j q) ∧ Hid (RtK w g s a l wr)) (fun _ i _ => l.length - (intOf i).toNat)
  case atStart => exact ⟨0, 0, by omega, by omega, rfl, rfl, ⟨Nat.le_refl _, fun i _ _ h => absurd h (by omega), fun h => absurd h (by omega)⟩, HK0.out⟩
  case round =>
   obtain ⟨j, q, hj, hq, rfl, rfl, HP, HK⟩ := hrel
   by_cases hjl : j < l.length
   ·obtain ⟨b, off, rfl, -, -, -, -, -⟩ := HK.out.row.at_ hjl
    have HP0 : Hid (∀ W, RtK w g s (some ⟨b, off, none⟩) l W → W.cell? ⟨g, 0, none⟩ = some (.int .i64 s.f) ∧ W.cell? ⟨g, 1, none⟩ = some (.int .i64 s.t) ∧ W.cell? ⟨g, 2, none⟩ = some (.int .i64 s.n) ∧ W.cell? ⟨g, 3, none⟩ = some (.int .i64 s.s) ∧
      W.cell? ⟨b, off + j * 4, none⟩ = some (.int .i64 l[j].f) ∧ W.cell? ⟨b, off + j * 4 + 1, none⟩ = some (.int .i64 l[j].t) ∧ W.cell? ⟨b, off + j * 4 + 2, none⟩ = some (.int .i64 l[j].n) ∧ W.cell? ⟨b, off + j * 4 + 3, none⟩ = some (.int .i64 l[j].s)) := fun W h => h.at_ hjl
    have HCX0 := Lib.hid (HCM.out s l[j])
    have HU1 := Lib.hid (HP.out.up' hjl)
    have HU2 := Lib.hid (HP.out.here hjl)
    have K1 := HK.out.below (Below.refl _ _).drew
    clear HCM
    generalize l[j] = y at *
    by_cases h3 : ltSt s y
    ·have HQ := Lib.hid (HU1.out h3)
     have HCX : Hid (∀ W, Calls Tryz.prog 157 #[.agg #[.int .i64 s.f, .int .i64 s.t, .int .i64 s.n, .int .i64 s.s], .agg #[.int .i64 y.f, .int .i64 y.t, .int .i64 y.n, .int .i64 y.s]] W fun e w' => e = .returned (.bool true) ∧ Below W.heap.size W w') := fun W => by
      have := HCX0.out W
      rwa [decide_eq_true h3] at this
     clear HU1 HU2 HCX0 h3
     go_wp2_with fail
     go_region_held3 (fun W => W.cell? ⟨g, 0, none⟩ = some (.int .i64 s.f) ∧ W.cell? ⟨g, 1, none⟩ = some (.int .i64 s.t) ∧ W.cell? ⟨g, 2, none⟩ = some (.int .i64 s.n) ∧ W.cell? ⟨g, 3, none⟩ = some (.int .i64 s.s) ∧ W.cell? ⟨b, off + j * 4, none⟩ = some (.int .i64 y.f) ∧ W.cell? ⟨b, off + j * 4 + 1, none⟩ = some (.int .i64 y.t) ∧ W.cell? ⟨b, off + j * 4 + 2, none⟩ = some (.int .i64 y.n) ∧ W.cell? ⟨b, off + j * 4 + 3, none⟩ = some (.int .i64 y.s))
      (first | exact HP0.out _ K1 | exact HP0.out _ K3)
      (first | (go_at_call 157; refine (HCX.out _).mono ?_; rintro e w3 ⟨rfl, h3⟩; have K3 := K1.below h3))
     go_wp2
     go_roundw
     case rel => exact ⟨j + 1, q, by omega, by omega, by go_num, rfl, HQ, K3⟩
     case measure => simp [intOf]; omega
    ·have HQ := Lib.hid (HU2.out h3)
     have HCX : Hid (∀ W, Calls Tryz.prog 157 #[.agg #[.int .i64 s.f, .int .i64 s.t, .int .i64 s.n, .int .i64 s.s], .agg #[.int .i64 y.f, .int .i64 y.t, .int .i64 y.n, .int .i64 y.s]] W fun e w' => e = .returned (.bool false) ∧ Below W.heap.size W w') := fun W => by
      have := HCX0.out W
      rwa [decide_eq_false h3] at this
     clear HU1 HU2 HCX0 h3
     go_wp2_with fail
     go_region_held3 (fun W => W.cell? ⟨g, 0, none⟩ = some (.int .i64 s.f) ∧ W.cell? ⟨g, 1, none⟩ = some (.int .i64 s.t) ∧ W.cell? ⟨g, 2, none⟩ = some (.int .i64 s.n) ∧ W.cell? ⟨g, 3, none⟩ = some (.int .i64 s.s) ∧ W.cell? ⟨b, off + j * 4, none⟩ = some (.int .i64 y.f) ∧ W.cell? ⟨b, off + j * 4 + 1, none⟩ = some (.int .i64 y.t) ∧ W.cell? ⟨b, off + j * 4 + 2, none⟩ = some (.int .i64 y.n) ∧ W.cell? ⟨b, off + j * 4 + 3, none⟩ = some (.int .i64 y.s))
      (first | exact HP0.out _ K1 | exact HP0.out _ K3)
      (first | (go_at_call 157; refine (HCX.out _).mono ?_; rintro e w3 ⟨rfl, h3⟩; have K3 := K1.below h3))
     go_wp2
     go_roundw
     case rel => exact ⟨j + 1, j + 1, by omega, by omega, by go_num, by go_num, HQ, K3⟩
     case measure => simp [intOf]; omega
   ·obtain rfl : j = l.length := by omega
    have HQ := Lib.hid HP.out.is
    clear HP HCM
    have hpc : q ≤ c := by omega
    have hz1' : (0 : Int) ≤ (q : Int) := by omega
    have hz2' : (q : Int) ≤ (l.length : Int) := by omega
    have hz3' : (q : Int) ≤ (c : Int) := by omega
    have hz4' : (l.length : Int) ≤ (c : Int) := by omega
    by_cases hlz : 0 < l.length
    ·obtain ⟨b, off, rfl, -, -, -, -, -⟩ := HK.out.row.at_ hlz
     by_cases hcp : c = q
     ·obtain rfl : q = l.length := by omega
      subst hcp
      have O1 := Lib.hid (own_empty8 wr 104 4 wr.heap.size (Nat.le_refl _))
      have B1 := Lib.hid (below_one wr (.cells #[] 104))
      have S1 := Lib.hid ((HK.out.row.take l.length).below B1.out)
      go_wp2_with (at_builtin; first
       | (refine wpList_append_st _ rfl (.tmp 29) (.tmp 32) 67 rfl wr.heap.size 104 i0 _ Tryz.underlying67 hi hz0 hz1 hz2 rfl _ [] rfl O1.out (some ⟨b, off, none⟩) l.length ((l).take l.length) (by rw [List.length_take, Nat.min_self]; rfl) S1.out (fun h => by cases h) (by simp; omega) B1.out.size ?_; intro v2 w2 hown2 hB2; obtain ⟨g0, g1, g2, g3⟩ := (HK.out.below (B1.out.trans hB2)).four; have BB := Lib.hid (B1.out.trans hB2); have OO := Lib.hid hown2; clear hown2 hB2)
       | (refine wpList_append_st _ rfl (.tmp 34) (.tmp 36) 67 rfl wr.heap.size 104 i0 _ Tryz.underlying67 hi hz0 hz1 hz2 rfl _ _ rfl (own_below OO.out (below_one w2 (.cells #[.int .i64 s.f, .int .i64 s.t, .int .i64 s.n, .int .i64 s.s] 104))) (some ⟨w2.heap.size, 0, none⟩) 1 [s] rfl (cells_st w2 [s] #[.int .i64 s.f, .int .i64 s.t, .int .i64 s.n, .int .i64 s.s] 104 _ rfl rfl) (fun h => by cases h) (by simp; omega) (BB.out.trans ((below_one w2 (.cells #[.int .i64 s.f, .int .i64 s.t, .int .i64 s.n, .int .i64 s.s] 104)).mono BB.out.size)).size ?_; intro v3 w3 hown3 hB3; have B3 := Lib.hid ((BB.out.trans ((below_one w2 (.cells #[.int .i64 s.f, .int .i64 s.t, .int .i64 s.n, .int .i64 s.s] 104)).mono BB.out.size)).trans hB3); have O3 := Lib.hid hown3; clear hown3 hB3 g0 g1 g2 g3)
       | (refine wpList_append_st _ rfl (.tmp 38) (.tmp 41) 67 rfl wr.heap.size 104 i0 _ Tryz.underlying67 hi hz0 hz1 hz2 rfl _ _ rfl O3.out (some ⟨b, off, none⟩) 0 ((l).drop l.length) (by rw [List.drop_eq_nil_of_le (Nat.le_refl _)]; rfl) (((show StSl wr (some ⟨b, off, none⟩) (l.drop l.length) by rw [List.drop_eq_nil_of_le (Nat.le_refl _)]; exact StSl.nil _ _)).below B3.out) (fun h => by cases h) (by simp; omega) B3.out.size ?_; intro v4 w4 hown4 hB4; have B4 := Lib.hid (B3.out.trans hB4); have O4 := Lib.hid hown4; clear hown4 hB4))
      go_ret
      refine add_end (HA.out _ HQ.out) O4.out (HK.out.frame.trans (B4.out.mono HK.out.frame.size))
     ·have O1 := Lib.hid (own_empty8 wr 104 4 wr.heap.size (Nat.le_refl _))
      have B1 := Lib.hid (below_one wr (.cells #[] 104))
      have S1 := Lib.hid ((HK.out.row.take q).below B1.out)
      go_wp2_with (at_builtin; first
       | (refine wpList_append_st _ rfl (.tmp 29) (.tmp 32) 67 rfl wr.heap.size 104 i0 _ Tryz.underlying67 hi hz0 hz1 hz2 rfl _ [] rfl O1.out (some ⟨b, off, none⟩) c ((l).take q) (by rw [List.length_take, Nat.min_eq_left hq]; rfl) S1.out (fun h => by cases h) (by simp; omega) B1.out.size ?_; intro v2 w2 hown2 hB2; obtain ⟨g0, g1, g2, g3⟩ := (HK.out.below (B1.out.trans hB2)).four; have BB := Lib.hid (B1.out.trans hB2); have OO := Lib.hid hown2; clear hown2 hB2)
       | (refine wpList_append_st _ rfl (.tmp 34) (.tmp 36) 67 rfl wr.heap.size 104 i0 _ Tryz.underlying67 hi hz0 hz1 hz2 rfl _ _ rfl (own_below OO.out (below_one w2 (.cells #[.int .i64 s.f, .int .i64 s.t, .int .i64 s.n, .int .i64 s.s] 104))) (some ⟨w2.heap.size, 0, none⟩) 1 [s] rfl (cells_st w2 [s] #[.int .i64 s.f, .int .i64 s.t, .int .i64 s.n, .int .i64 s.s] 104 _ rfl rfl) (fun h => by cases h) (by simp; omega) (BB.out.trans ((below_one w2 (.cells #[.int .i64 s.f, .int .i64 s.t, .int .i64 s.n, .int .i64 s.s] 104)).mono BB.out.size)).size ?_; intro v3 w3 hown3 hB3; have B3 := Lib.hid ((BB.out.trans ((below_one w2 (.cells #[.int .i64 s.f, .int .i64 s.t, .int .i64 s.n, .int .i64 s.s] 104)).mono BB.out.size)).trans hB3); have O3 := Lib.hid hown3; clear hown3 hB3 g0 g1 g2 g3)
       | (refine wpList_append_st _ rfl (.tmp 38) (.tmp 41) 67 rfl wr.heap.size 104 i0 _ Tryz.underlying67 hi hz0 hz1 hz2 rfl _ _ rfl O3.out (some ⟨b, off + q * 4, none⟩) (c - q) ((l).drop q) (by rw [List.length_drop]; rfl) ((HK.out.row.drop q).below B3.out) (fun h => by cases h) (by simp; omega) B3.out.size ?_; intro v4 w4 hown4 hB4; have B4 := Lib.hid (B3.out.trans hB4); have O4 := Lib.hid hown4; clear hown4 hB4))
      go_ret
      refine add_end (HA.out _ HQ.out) O4.out (HK.out.frame.trans (B4.out.mono HK.out.frame.size))
    ·have hl0 : l = [] := List.eq_nil_of_length_eq_zero (by omega)
     subst hl0
     obtain rfl : q = 0 := by simpa using hq
     cases a with
     | none =>
      have hc0 := HNil.out rfl
      subst hc0
      have O1 := Lib.hid (own_empty8 wr 104 4 wr.heap.size (Nat.le_refl _))
      have B1 := Lib.hid (below_one wr (.cells #[] 104))
      have O2 := Lib.hid (own_below O1.out (below_one _ (.cells #[.int .i64 s.f, .int .i64 s.t, .int .i64 s.n, .int .i64 s.s] 104)))
      have B2 := Lib.hid (B1.out.trans ((below_one _ (.cells #[.int .i64 s.f, .int .i64 s.t, .int .i64 s.n, .int .i64 s.s] 104)).mono B1.out.size))
      have S2 := Lib.hid (cells_st (wr.alloc (.cells #[] 104)) [s] #[.int .i64 s.f, .int .i64 s.t, .int .i64 s.n, .int .i64 s.s] 104 (wr.heap.size + 1) (size1 _ _).symm rfl)
      obtain ⟨g0, g1, g2, g3⟩ := HK.out.four
      have hgl := heap_lt HK.out.box
      clear O1
      go_wp2_with (at_builtin; first
       | (refine wpList_append_st _ rfl (.tmp 34) (.tmp 36) 67 rfl wr.heap.size 104 i0 _ Tryz.underlying67 hi hz0 hz1 hz2 rfl _ [] rfl O2.out (some ⟨wr.heap.size + 1, 0, none⟩) 1 [s] rfl S2.out (fun h => by cases h) (by simp) B2.out.size ?_; intro v3 w3 hown3 hB3; have B3 := Lib.hid (B2.out.trans hB3); have O3 := Lib.hid hown3; clear hown3 hB3 g0 g1 g2 g3 hgl)
       | (refine wpList_append_st _ rfl (.tmp 38) (.tmp 41) 67 rfl wr.heap.size 104 i0 _ Tryz.underlying67 hi hz0 hz1 hz2 rfl _ _ rfl O3.out none 0 [] rfl (StSl.nil _ _) (fun _ => rfl) (by simp) B3.out.size ?_; intro v4 w4 hown4 hB4; have B4 := Lib.hid (B3.out.trans hB4); have O4 := Lib.hid hown4; clear hown4 hB4))
      go_ret
      obtain ⟨x, q, h1, h2, h3⟩ := add_end (l := []) (p := 0) (HA.out _ HQ.out) O4.out (HK.out.frame.trans (B4.out.mono HK.out.frame.size))
      first | exact ⟨x, q, h1, h2, h3⟩ | exact ⟨x, ⟨q, h1⟩, h2, h3⟩
     | some ad =>
      obtain ⟨b, off, sp⟩ := ad
      by_cases hcp : c = 0
      ·subst hcp
       have O1 := Lib.hid (own_empty8 wr 104 4 wr.heap.size (Nat.le_refl _))
       have B1 := Lib.hid (below_one wr (.cells #[] 104))
       have O2 := Lib.hid (own_below O1.out (below_one _ (.cells #[.int .i64 s.f, .int .i64 s.t, .int .i64 s.n, .int .i64 s.s] 104)))
       have B2 := Lib.hid (B1.out.trans ((below_one _ (.cells #[.int .i64 s.f, .int .i64 s.t, .int .i64 s.n, .int .i64 s.s] 104)).mono B1.out.size))
       have S2 := Lib.hid (cells_st (wr.alloc (.cells #[] 104)) [s] #[.int .i64 s.f, .int .i64 s.t, .int .i64 s.n, .int .i64 s.s] 104 (wr.heap.size + 1) (size1 _ _).symm rfl)
       obtain ⟨g0, g1, g2, g3⟩ := HK.out.four
       have hgl := heap_lt HK.out.box
       clear O1
       go_wp2_with (at_builtin; first
        | (refine wpList_append_st _ rfl (.tmp 34) (.tmp 36) 67 rfl wr.heap.size 104 i0 _ Tryz.underlying67 hi hz0 hz1 hz2 rfl _ [] rfl O2.out (some ⟨wr.heap.size + 1, 0, none⟩) 1 [s] rfl S2.out (fun h => by cases h) (by simp) B2.out.size ?_; intro v3 w3 hown3 hB3; have B3 := Lib.hid (B2.out.trans hB3); have O3 := Lib.hid hown3; clear hown3 hB3 g0 g1 g2 g3 hgl)
        | (refine wpList_append_st _ rfl (.tmp 38) (.tmp 41) 67 rfl wr.heap.size 104 i0 _ Tryz.underlying67 hi hz0 hz1 hz2 rfl _ _ rfl O3.out (some ⟨b, off, sp⟩) 0 [] rfl (StSl.nil _ _) (fun h => by cases h) (by simp) B3.out.size ?_; intro v4 w4 hown4 hB4; have B4 := Lib.hid (B3.out.trans hB4); have O4 := Lib.hid hown4; clear hown4 hB4))
       go_ret
       obtain ⟨x, q, h1, h2, h3⟩ := add_end (l := []) (p := 0) (HA.out _ HQ.out) O4.out (HK.out.frame.trans (B4.out.mono HK.out.frame.size))
       first | exact ⟨x, q, h1, h2, h3⟩ | exact ⟨x, ⟨q, h1⟩, h2, h3⟩
      ·have O1 := Lib.hid (own_empty8 wr 104 4 wr.heap.size (Nat.le_refl _))
       have B1 := Lib.hid (below_one wr (.cells #[] 104))
       have O2 := Lib.hid (own_below O1.out (below_one _ (.cells #[.int .i64 s.f, .int .i64 s.t, .int .i64 s.n, .int .i64 s.s] 104)))
       have B2 := Lib.hid (B1.out.trans ((below_one _ (.cells #[.int .i64 s.f, .int .i64 s.t, .int .i64 s.n, .int .i64 s.s] 104)).mono B1.out.size))
       have S2 := Lib.hid (cells_st (wr.alloc (.cells #[] 104)) [s] #[.int .i64 s.f, .int .i64 s.t, .int .i64 s.n, .int .i64 s.s] 104 (wr.heap.size + 1) (size1 _ _).symm rfl)
       obtain ⟨g0, g1, g2, g3⟩ := HK.out.four
       have hgl := heap_lt HK.out.box
       clear O1
       go_wp2_with (at_builtin; first
        | (refine wpList_append_st _ rfl (.tmp 34) (.tmp 36) 67 rfl wr.heap.size 104 i0 _ Tryz.underlying67 hi hz0 hz1 hz2 rfl _ [] rfl O2.out (some ⟨wr.heap.size + 1, 0, none⟩) 1 [s] rfl S2.out (fun h => by cases h) (by simp) B2.out.size ?_; intro v3 w3 hown3 hB3; have B3 := Lib.hid (B2.out.trans hB3); have O3 := Lib.hid hown3; clear hown3 hB3 g0 g1 g2 g3 hgl)
        | (refine wpList_append_st _ rfl (.tmp 38) (.tmp 41) 67 rfl wr.heap.size 104 i0 _ Tryz.underlying67 hi hz0 hz1 hz2 rfl _ _ rfl O3.out (some _) _ [] rfl (StSl.nil _ _) (fun h => by cases h) (by simp) B3.out.size ?_; intro v4 w4 hown4 hB4; have B4 := Lib.hid (B3.out.trans hB4); have O4 := Lib.hid hown4; clear hown4 hB4))
       go_ret
       obtain ⟨x, q, h1, h2, h3⟩ := add_end (l := []) (p := 0) (HA.out _ HQ.out) O4.out (HK.out.frame.trans (B4.out.mono HK.out.frame.size))
       first | exact ⟨x, q, h1, h2, h3⟩ | exact ⟨x, ⟨q, h1⟩, h2, h3⟩
end Go.Proofs.YtmfpjapiijgdgaaGreat
namespace Go.Proofs.YtmfpjapiijgdgaaGreat
open Go.RowKit Go.Proofs
set_option linter.unusedVariables false
set_option maxRecDepth 100000
set_option maxRecDepth 100000
theorem ofU_hit {D : List UsL} {u : ByteArray} {j : Nat} (hj : j < D.length) (hlow : ∀ i (h : i < D.length), i < j → (D[i]).u ≠ u) (he : (D[j]).u = u) : ofU (umS D) u = (D[j]).l := by
 unfold ofU
 have hj2 : j < (umS D).length := by rw [umS_len]; exact hj
 have h1 : (umS D).find? (isKy UsM.u u) = some ((umS D)[j]) := by
  rw [List.find?_eq_some_iff_getElem]
  refine ⟨by unfold isKy; rw [decide_eq_true_iff]; simpa [umS, UsL.m] using he, j, hj2, rfl, fun i hi => ?_⟩
  have := hlow i (by omega) hi
  have h2 : i < (umS D).length := by omega
  unfold isKy
  simp [umS, UsL.m, this]
 rw [h1]
 simp [umS, UsL.m]
theorem ofU_miss {D : List UsL} {u : ByteArray} (hlow : ∀ i (h : i < D.length), (D[i]).u ≠ u) : ofU (umS D) u = [] := by
 unfold ofU
 have h1 : (umS D).find? (isKy UsM.u u) = none := by
  rw [List.find?_eq_none]
  intro x hx
  obtain ⟨y, hy, rfl⟩ := List.mem_map.1 hx
  obtain ⟨i, hi, rfl⟩ := List.getElem_of_mem hy
  have := hlow i hi
  unfold isKy
  simp [UsL.m, this]
 rw [h1]
set_option maxHeartbeats 4000000 in
theorem rof_any (x : SaL) (u : ByteArray) (w : World) (h : SaAt w x) (hl : x.us.length ≤ 100000) :
  Calls Tryz.prog 97 #[saV x, .string u] w fun e w' => ∃ a c, e = .returned (.slice a (ofU x.m.us u).length c) ∧ StSl w' a (ofU x.m.us u) ∧ Cp a (ofU x.m.us u).length c ∧ Below w.heap.size w w' := by
 have S0 := SB.new (Below.refl w.heap.size w) h 27
 obtain ⟨c0, c1, c2, c3, c4, c5⟩ := S0.cells
 have HU := Lib.hid S0.at_.us
 have HFR := Lib.hid S0.frame
 have HM : Hid (x.m.us = umS x.us) := rfl
 rw [show x.m.us = umS x.us from rfl]
 unfold saV saC at *
 clear h S0
 obtain ⟨now, hor, oa, op, oc, ua, us, uc, sa, su, sc, ta, tb, tc⟩ := x
 dsimp only at *
 go_enter Tryz.func97, Tryz.ntmps97
 go_wp2
 go_loopw [5] (fun i wr => ∃ (j : Nat), j ≤ us.length ∧ i = .int .i64 j ∧ Hid (∀ i (h : i < us.length), i < j → (us[i]).u ≠ u) ∧ wr = w.alloc (.cells #[.int .i64 now, .int .i64 hor, .slice oa op.length oc, .slice ua us.length uc, .slice sa su.length sc, .slice ta tb.length tc] 27)) (fun i _ => us.length - (intOf i).toNat)
 case atStart => exact ⟨0, by omega, rfl, (fun i h hi => by omega), rfl⟩
 case round =>
  obtain ⟨j, hj, rfl, HLO, rfl⟩ := hrel
  by_cases hjl : j < us.length
  ·obtain ⟨b, off, rfl, hbl, r0, r1, hat⟩ := HU.out.get hjl
   by_cases he : (us[j]).u = u
   ·have HX := Lib.hid (ofU_hit hjl HLO.out he)
    have HA := Lib.hid hat
    clear HLO HM hat
    generalize us[j] = y at *
    have he1 := txt_eq y.u
    subst he
    go_wp2
    go_ret
    exact ⟨y.a, y.c, by rw [HX.out]; rfl, by rw [HX.out]; exact HA.out.st, by rw [HX.out]; exact ⟨HA.out.le, HA.out.mx, HA.out.nil⟩, HFR.out⟩
   ·have heq := txt_ne he
    have HN : Hid (∀ i (h : i < us.length), i < j + 1 → (us[i]).u ≠ u) := fun i h hi => by
     by_cases hij : i = j
     ·subst hij; exact he
     ·exact HLO.out i h (by omega)
    clear HLO HM hat he
    generalize us[j] = y at *
    go_wp2
    go_roundw
    case rel => exact ⟨j + 1, by omega, by go_num, HN, by first | rfl | trivial⟩
    case measure => simp [intOf]; omega
  ·obtain rfl : j = us.length := by omega
   have HX := Lib.hid (ofU_miss (D := us) (u := u) (fun i h => HLO.out i h h))
   go_wp2
   go_ret
   exact ⟨none, 0, by rw [HX.out]; rfl, by rw [HX.out]; exact StSl.nil _ _, by rw [HX.out]; exact Cp.none, HFR.out⟩
end Go.Proofs.YtmfpjapiijgdgaaGreat
