/- Texts of mine, one behind the other, of each what is wanted. -/
import Derived.Test.YtmfpjapiijgdgaaGreatV00
import Derived.Test.YtmfpjapiijgdgaaGreatShelf
import Derived.Test.YtmfpjapiijgdgaaGreatRows
import Derived.Test.YtmfpjapiijgdgaaGreatV01
import Derived.Test.YtmfpjapiijgdgaaGreatV03
import Derived.Test.YtmfpjapiijgdgaaGreatV05
import Derived.Test.YtmfpjapiijgdgaaGreatV06
import Derived.Test.YtmfpjapiijgdgaaGreatV07
import Derived.Test.YtmfpjapiijgdgaaGreatV18
import Derived.Test.YtmfpjapiijgdgaaGreatV20
import Derived.Test.YtmfpjapiijgdgaaGreatV24
import Derived.Test.YtmfpjapiijgdgaaGreatV28
import Derived.Test.YtmfpjapiijgdgaaGreatV30
import Derived.Test.YtmfpjapiijgdgaaGreatV31
import Derived.Test.YtmfpjapiijgdgaaGreatV32
import Derived.Test.YtmfpjapiijgdgaaGreatV33
import Derived.Test.YtmfpjapiijgdgaaGreatV35
namespace Go.Proofs.YtmfpjapiijgdgaaGreat
open Go.RowKit Go.Proofs
set_option linter.unusedVariables false
set_option maxRecDepth 100000
theorem meet_le {A r : List SpM} {s : SpM} (hA : NormL A) (h : IsSet (fun x => HasL A x ∧ HasL [s] x) r) : r.length ≤ A.length := by
 have h1 : IsSet (fun x => HasL A x ∧ HasL [s] x) (rowOf s A) := (rowOf_set (s := s) (⟨hA, fun x => Iff.rfl⟩ : IsSet (HasL A) A)).congr fun x => by rw [has_one]; exact And.comm
 rw [h.only h1]
 exact rowOf_le s A
set_option maxHeartbeats 2000000 in
theorem rtimes_any13 (x : SaL) (q : AskM) (w : World) (h : SaAt w x) (hf : x.m.su.length ≤ 1000) :
  Calls Tryz.prog 55 #[saV x, askV q] w fun e w' => ∃ y c r, e = .returned (.slice y r.length c) ∧ IsSet (gateP x.m q.w q.u q.f q.t) r ∧ r.length ≤ 2 * x.m.su.length ∧ SpSl w' y r ∧ Below w.heap.size w w' := by
 have SS := SQ.new w q h 27 86
 have HS := Lib.hid SS
 have HP := Lib.hid (fun V (h : EnSl V x.sa x.su) => refPeriods_any x.sa x.sc x.su q.w q.u V h hf)
 have HM := Lib.hid (fun V y c (r : List SpM) (s : SpM) T (h : SpSl V y r) (hn : y = none → c = 0) (hl : r.length ≤ 90000) => refMeet_any y c (some ⟨V.heap.size, 0, none⟩) 1 r [s] (V.alloc (.cells #[.int .i64 s.f, .int .i64 s.t] T)) (h.below (below_one _ _)) (cells_sp V [s] _ T _ rfl rfl) hn (fun h => by cases h) (by rw [List.length_singleton]; omega))
 have HG := Lib.hid (fun r1 r2 h1 h2 => gate_doc (s := x.m) (w := q.w) (u := q.u) (f := q.f) (t := q.t) (q := r1) (r := r2) h1 h2)
 have hf' : x.su.length ≤ 1000 := hf
 rw [show x.m.su = x.su from rfl]
 rw [show x.m.su = x.su from rfl, show x.m.hor = x.hor from rfl] at HG
 generalize gateP x.m q.w q.u q.f q.t = P at *
 obtain ⟨c0, c1, c2, c3, c4, c5⟩ := SS.s.cells
 obtain ⟨a0, a1, a2, a3, a4⟩ := SS.q.cells
 obtain ⟨now, hor, oa, op, oc, ua, us, uc, sa, su, sc, ta, tb, tc⟩ := x
 obtain ⟨qw, qu, qf, qt, qn⟩ := q
 unfold saV saC askV askC pr at *
 dsimp only at *
 clear h hf SS
 go_enter Tryz.func55, Tryz.ntmps55
 go_wp2_with fail
 refine (HP.out _ HS.out.s.at_.su).mono ?_
 rintro e w1 ⟨v, r, rfl, k1, k2, k3, h1⟩
 obtain ⟨y, c, rfl, -, -, k6, k7⟩ := own_spm k3
 have A1 := Lib.hid (HS.out.below h1)
 have HM1 := Lib.hid (HM.out w1 y c r ⟨qf, qt⟩ 106 k6 k7 (by omega))
 clear c0 c1 c2 c3 c4 c5 a0 a1 a2 a3 a4 HS HP k3 k6 k7 h1
 obtain ⟨c0, c1, c2, c3, c4, c5⟩ := A1.out.s.cells
 obtain ⟨a0, a1, a2, a3, a4⟩ := A1.out.q.cells
 dsimp only [List.length_singleton] at *
 go_wp2_with fail
 refine HM1.out.mono ?_
 rintro e w2 ⟨v, r2, rfl, l1, l2, l3, h2⟩
 obtain ⟨y2, c2', rfl, -, -, l6, l7⟩ := own_spm l3
 have A2 := Lib.hid ((A1.out.alloc _).below h2)
 have hle := meet_le k1.1 l1
 have HM2 := Lib.hid (HM.out w2 y2 c2' r2 ⟨hor, 1099511627776⟩ 106 l6 l7 (by omega))
 clear c0 c1 c2 c3 c4 c5 a0 a1 a2 a3 a4 A1 HM HM1 l3 l6 l7 h2
 obtain ⟨c0, c1, c2, c3, c4, c5⟩ := A2.out.s.cells
 obtain ⟨a0, a1, a2, a3, a4⟩ := A2.out.q.cells
 dsimp only [List.length_singleton] at *
 go_wp2_with fail
 refine HM2.out.mono ?_
 rintro e w3 ⟨v, r3, rfl, m1, m2, m3, h3⟩
 obtain ⟨y3, c3', rfl, -, -, m6, m7⟩ := own_spm m3
 have hle2 := meet_le l1.1 m1
 have hset := HG.out r2 r3 (l1.congr fun x => by rw [k1.2]) m1
 have HF := Lib.hid ((A2.out.alloc _).below h3).s.frame
 have HR := Lib.hid (show IsSet P r3 ∧ r3.length ≤ 2 * su.length ∧ SpSl w3 y3 r3 from ⟨hset, by omega, m6⟩)
 clear c0 c1 c2 c3 c4 c5 a0 a1 a2 a3 a4 A2 HM2 HG m1 m2 m3 m6 m7 h3 hset l1 l2 k1 k2
 go_wp2
 go_ret
 exact ⟨y3, c3', r3, rfl, HR.out.1, HR.out.2.1, HR.out.2.2, HF.out⟩
theorem raw_len (l : List StM) (r : List SpM) : (rawS l r).length ≤ l.length * r.length := by
 induction l with
 | nil => exact Nat.zero_le _
 | cons x l ih =>
  have e1 : rawS (x :: l) r = piecesS x r ++ rawS l r := List.flatMap_cons
  have h1 : (piecesS x r).length ≤ r.length := by
   unfold piecesS
   rw [List.length_map]
   exact rowOf_le _ _
  rw [e1, List.length_append, List.length_cons, Nat.succ_mul]
  omega
theorem cutr_len {l m : List StM} {P : Int → Prop} {r : List SpM} (h : IsCut l P m) (hr : IsSet P r) : m.length ≤ l.length * r.length := by
 obtain ⟨r', h1, h2, _⟩ := h
 rw [h1.only hr] at h2
 rw [h2.length_eq]
 exact raw_len l r
set_option maxHeartbeats 4000000 in
theorem rrange_any13 (x : SaL) (q : AskM) (w : World) (h : SaAt w x) (hf : Few x.m 100) (hw : q.w.size ≤ maxLen) (hu : q.u.size ≤ maxLen) :
  Calls Tryz.prog 50 #[saV x, askV q] w fun e w' => ∃ y c m, e = .returned (.tuple #[.slice y m.length c, .int .i64 (whyV x.m q.w q.u q.n)]) ∧ GTold x.m q m ∧ m.length ≤ 90000 ∧ StSl w' y m ∧ Below w.heap.size w w' := by
 have SS := SQ.new w q h 27 86
 have HS := Lib.hid SS
 have HW := Lib.hid (fun V (h : SaAt V x) => why_any13 x q V h hw hu)
 have HST := Lib.hid (fun V (h : SaAt V x) => rstays_any11 x q.u q.n V h (hf.mono (by decide)))
 have HTO := Lib.hid (fun V (h : SaAt V x) => rtimes_any13 x q V h (Nat.le_trans hf.su (by decide)))
 have hsl := stays_few13 hf q.u q.n
 have HC : Hid (∀ V a c y d (r : List SpM), StSl V a (staysS x.m q.u q.n) → SpSl V y r → IsSet (gateP x.m q.w q.u q.f q.t) r → r.length ≤ 2 * x.m.su.length → Calls Tryz.prog 101 #[.slice a (staysS x.m q.u q.n).length c, .slice y r.length d] V fun e w' => ∃ z p m, e = .returned (.slice z m.length p) ∧ IsRange x.m q.w q.u q.f q.t q.n m ∧ m.length ≤ 90000 ∧ StSl w' z m ∧ Below V.heap.size V w') := fun V a c y d r h1 h2 h3 h4 => by
  have hsu := hf.su
  have hmul : (staysS x.m q.u q.n).length * (2 * r.length) ≤ 200 * 400 := Nat.mul_le_mul (by omega) (by omega)
  have hmul2 : (staysS x.m q.u q.n).length * r.length ≤ 200 * 200 := Nat.mul_le_mul (by omega) (by omega)
  refine (refCut_any a c _ y d r V h1 h2 (by omega) (by omega) (by omega)).mono ?_
  rintro e w' ⟨v, m, rfl, k1, ho, hb⟩
  obtain ⟨z, p, rfl, _, _, k3, _⟩ := own_st ho
  have k2 := cutr_len k1 (⟨h3.1, fun x => Iff.rfl⟩ : IsSet (HasL r) r)
  exact ⟨z, p, m, rfl, IsCut.congr k1 h3.2, by omega, k3, hb⟩
 have HTN : Hid (whyV x.m q.w q.u q.n ≠ 0 → GTold x.m q []) := GTold.no
 have HTY : Hid (∀ m, whyV x.m q.w q.u q.n = 0 → IsRange x.m q.w q.u q.f q.t q.n m → GTold x.m q m) := fun m h k => ⟨fun _ => k, fun h' => absurd h h'⟩
 generalize GTold x.m q = TD at *
 generalize IsRange x.m q.w q.u q.f q.t q.n = RG at *
 generalize gateP x.m q.w q.u q.f q.t = P at *
 generalize whyV x.m q.w q.u q.n = Y at *
 generalize staysS x.m q.u q.n = L at *
 generalize x.m.su.length = n5 at *
 have HSC := Lib.hid (fun V (k : SQ w w.heap.size (w.heap.size + 1) 27 86 x q V) => k.cells)
 obtain ⟨c0, c1, c2, c3, c4, c5, a0, a1, a2, a3, a4⟩ := SS.cells
 obtain ⟨now, hor, oa, op, oc, ua, us, uc, sa, su, sc, ta, tb, tc⟩ := x
 obtain ⟨qw, qu, qf, qt, qn⟩ := q
 unfold saV saC askV askC at *
 dsimp only at *
 clear h SS hf hsl
 by_cases hY : Y = 0
 ·subst hY
  clear HTN
  go_enter Tryz.func50, Tryz.ntmps50
  go_wp2_with fail
  refine (HW.out _ HS.out.s.at_).mono ?_
  rintro e w1 ⟨rfl, h1⟩
  have KK := HS.out.below h1
  clear c0 c1 c2 c3 c4 c5 a0 a1 a2 a3 a4 HW HS h1
  go_wp2_with fail
  have K0 := KK.drew
  clear KK
  go_region_held3 (fun V => V.cell? ⟨w.heap.size, 0, none⟩ = some (.int .i64 now) ∧ V.cell? ⟨w.heap.size, 1, none⟩ = some (.int .i64 hor) ∧ V.cell? ⟨w.heap.size, 2, none⟩ = some (.slice oa op.length oc) ∧ V.cell? ⟨w.heap.size, 3, none⟩ = some (.slice ua us.length uc) ∧ V.cell? ⟨w.heap.size, 4, none⟩ = some (.slice sa su.length sc) ∧ V.cell? ⟨w.heap.size, 5, none⟩ = some (.slice ta tb.length tc) ∧ V.cell? ⟨w.heap.size + 1, 0, none⟩ = some (.string qw) ∧ V.cell? ⟨w.heap.size + 1, 1, none⟩ = some (.string qu) ∧ V.cell? ⟨w.heap.size + 1, 2, none⟩ = some (.int .i64 qf) ∧ V.cell? ⟨w.heap.size + 1, 3, none⟩ = some (.int .i64 qt) ∧ V.cell? ⟨w.heap.size + 1, 4, none⟩ = some (.int .i64 qn))
   (first | with_reducible exact HSC.out _ K3 | with_reducible exact HSC.out _ K2 | with_reducible exact HSC.out _ K1s | with_reducible exact HSC.out _ K1t | with_reducible exact HSC.out _ K0)
   (first | (have hseen := K2; clear hseen; go_at_call 101; refine (HC.out _ _ _ _ _ _ s2 t6 t1 t2).mono ?_; rintro e v3 ⟨z, p, m, rfl, l1, l2, l3, h3'⟩; have K3 := K2.below h3') | (have hseen := K0; clear hseen; go_at_call 46; (first | (refine (HST.out _ K1t.s.at_).mono ?_; rintro e v2 ⟨a, c, rfl, s2, h2⟩; have K2 := K1t.below h2; have t6 := t6.below h2) | (refine (HST.out _ K0.s.at_).mono ?_; rintro e v1 ⟨a, c, rfl, s2, h1⟩; have K1s := K0.below h1))) | (have hseen := K0; clear hseen; go_at_call 55; (first | (refine (HTO.out _ K1s.s.at_).mono ?_; rintro e v2 ⟨y, d, r, rfl, t1, t2, t6, h2⟩; have K2 := K1s.below h2; have s2 := s2.below h2) | (refine (HTO.out _ K0.s.at_).mono ?_; rintro e v1 ⟨y, d, r, rfl, t1, t2, t6, h1⟩; have K1t := K0.below h1))))
  all_goals
   have HF := Lib.hid K3.s.frame
   have HL := Lib.hid (And.intro (HTY.out _ (by trivial) l1) (And.intro l2 l3))
   clear K0 K2 K3 l1 l2 l3 h1 h2 h3' t1 t2 t6 s2 HST HTO HC HSC HTY
   go_wp2
   go_ret2
   exact ⟨z, p, m, rfl, HL.out.1, HL.out.2.1, HL.out.2.2, HF.out⟩
 ·have hY1 : (Y == 0) = false := by simpa using hY
  clear HST HTO HC HTY HSC
  go_enter Tryz.func50, Tryz.ntmps50
  go_wp2_with fail
  refine (HW.out _ HS.out.s.at_).mono ?_
  rintro e w1 ⟨rfl, h1⟩
  have A1 := Lib.hid (HS.out.below h1).s.frame
  clear c0 c1 c2 c3 c4 c5 a0 a1 a2 a3 a4 HW HS h1
  go_wp2
  go_ret2
  exact ⟨none, 0, [], rfl, HTN.out hY, Nat.zero_le _, StSl.nil _ _, A1.out⟩
end Go.Proofs.YtmfpjapiijgdgaaGreat
