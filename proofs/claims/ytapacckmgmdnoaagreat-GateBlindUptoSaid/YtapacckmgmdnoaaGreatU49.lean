/- Texts of mine, one behind the other, of each what is wanted. -/
import Derived.Test.YtapacckmgmdnoaaGreatU00
import Derived.Test.YtapacckmgmdnoaaGreatShelf
import Derived.Test.YtapacckmgmdnoaaGreatRows
import Derived.Test.YtapacckmgmdnoaaGreatU01
import Derived.Test.YtapacckmgmdnoaaGreatU02
import Derived.Test.YtapacckmgmdnoaaGreatU04
import Derived.Test.YtapacckmgmdnoaaGreatU07
import Derived.Test.YtapacckmgmdnoaaGreatU09
import Derived.Test.YtapacckmgmdnoaaGreatU11
import Derived.Test.YtapacckmgmdnoaaGreatU16
import Derived.Test.YtapacckmgmdnoaaGreatU23
import Derived.Test.YtapacckmgmdnoaaGreatU29
import Derived.Test.YtapacckmgmdnoaaGreatU35
import Derived.Test.YtapacckmgmdnoaaGreatU36
import Derived.Test.YtapacckmgmdnoaaGreatU37
import Derived.Test.YtapacckmgmdnoaaGreatU38
import Derived.Test.YtapacckmgmdnoaaGreatU42
import Derived.Test.YtapacckmgmdnoaaGreatU43
import Derived.Test.YtapacckmgmdnoaaGreatU47
namespace Go.Proofs.YtapacckmgmdnoaaGreat
open Go.RowKit
set_option linter.unusedVariables false
set_option maxRecDepth 100000
set_option maxRecDepth 100000
theorem addr_add (b off j : Nat) : (⟨b, off, none⟩ : Addr).add j = ⟨b, off + j, none⟩ := by
 unfold Addr.add
 split
 ·rename_i h; subst h; rfl
 ·rfl
theorem SpSl.cells {w : World} {a : Option Addr} {l : List SpM} (h : SpSl w a l) : ∀ ad, a = some ad → ∀ j u, (sps l)[j]? = some u → w.cell? (ad.add j) = some u := fun ad ha j u hu => by
 have hj : j < l.length * 2 := by rw [← sps_len]; exact (List.getElem?_eq_some_iff.1 hu).1
 have hk : j / 2 < l.length := by omega
 obtain ⟨b, off, e, _, h1, h2⟩ := h (j / 2) hk
 rw [ha] at e
 cases e
 obtain ⟨g1, g2⟩ := sps_get l (j / 2) hk
 rw [addr_add]
 have hd : j = j / 2 * 2 ∨ j = j / 2 * 2 + 1 := by omega
 generalize j / 2 = k at *
 rcases hd with rfl | rfl
 ·rw [g1] at hu
  cases hu
  exact h1
 ·rw [g2] at hu
  cases hu
  exact h2
theorem sps_one (l : List SpM) : ∀ u ∈ sps l, u.oneCell' = true := fun u hu => by
 unfold sps at hu
 obtain ⟨y, _, hy⟩ := List.mem_flatMap.1 hu
 exact two_one _ _ u hy
theorem wpList_append_sp {P : Program} (w : World) {ops : Array Oper} {rest : List Oper} {o : Oper} {a : Act} {Q : Exit → Act → World → Prop} (hgd : o.guard = none) (s x : Operand) (t : TypeId)
  (ho : o.op = .call { callee := .builtin .append, args := #[s, x], argTypes := #[t, t] })
  (base : Nat) (e : TypeId) (i : TypeInfo) (z : Value) (ht : P.underlying t = some (.slice e)) (hi : P.info? e = some i) (hz : i.zero = some z)
  (hsize : i.size = 2) (hby : i.bytes = 16) (hzs : z.cells.size = 2)
  (v : Value) (l : List SpM) (hs : a.eval s = v) (hown : w.ownsRow base e 2 v l.length (sps l))
  (A : Option Addr) (c : Nat) (m : List SpM) (hx : a.eval x = .slice A m.length c) (hsl : SpSl w A m) (hnil : A = none → c = 0)
  (hlen : l.length + m.length ≤ 1000000) (hbase : base ≤ w.heap.size)
  (h : ∀ v' w', w'.ownsRow base e 2 v' (l ++ m).length (sps (l ++ m)) → Below base w w' → wpList P ops Q rest (a.put o.dst v') w') : wpList P ops Q (o :: rest) a w := by
 rw [List.length_append, sps_append] at h
 cases A with
 | none =>
  have hc := hnil rfl
  subst hc
  have hm0 : m = [] := by
   cases m with
   | nil => rfl
   | cons y m => obtain ⟨_, _, e, _⟩ := hsl 0 (by simp); cases e
  subst hm0
  exact wpList_append_own_none hgd s x t ho base e i 2 ht hi v l.length (sps l) hs hown hx (h v w (by simpa [sps] using hown) (Below.refl _ _))
 | some ad =>
  exact wpList_append_own w hgd s x t ho base e i z 2 16 ht hi hz hsize hby hzs (by decide) v l.length (sps l) hs hown ad m.length c (sps m) hx (sps_len m) (hsl.cells ad rfl) (sps_one m) (by unfold maxLen; omega) (by omega) hbase (fun v' w' h2 h3 _ => h v' w' h2 (app_below (Below.refl _ _) hbase hown h3))
set_option maxHeartbeats 4000000 in
theorem refMeet_any (xa : Option Addr) (ca : Nat) (xb : Option Addr) (cb : Nat) (A B : List SpM) (w : World) (ha : SpSl w xa A) (hb : SpSl w xb B) (na : xa = none → ca = 0) (nb : xb = none → cb = 0) (hl : A.length + B.length ≤ 100000) :
  Calls Tryz.prog 107 #[.slice xa A.length ca, .slice xb B.length cb] w fun e w' => ∃ (v : Value) (r : List SpM), e = .returned v ∧ IsSet (fun x => HasL A x ∧ HasL B x) r ∧ r.length ≤ 2 * (A.length + B.length) ∧ w'.ownsRow w.heap.size 106 2 v r.length (sps r) ∧ Below w.heap.size w w' := by
 obtain ⟨i0, hi, hz0, hz1, hz2⟩ := info_parts infoSpanR
 have HA := Lib.hid ha
 have HB := Lib.hid hb
 have HEN := Lib.hid ends_any
 have HH := Lib.hid refHas_any
 have HG := Lib.hid glue_any
 have hlA : A.length ≤ maxLen := by unfold maxLen; omega
 have hlB : B.length ≤ maxLen := by unfold maxLen; omega
 have HE1 := (Below.refl w.heap.size w).alloc (Nat.le_refl _) (.cells #[] 106)
 have HO1 : Hid ((w.alloc (.cells #[] 106)).ownsRow w.heap.size 106 2 (.slice (some ⟨w.heap.size, 0, none⟩) 0 0) ([] : List SpM).length (sps [])) := World.ownsRow_lit w #[] 0 (Nat.le_refl _) (by unfold maxLen; omega) rfl
 have HB1 := Lib.hid HE1
 have HA1 := Lib.hid (ha.below HE1)
 clear ha hb HE1
 obtain ⟨L, hL⟩ : ∃ L, L = A ++ B := ⟨_, rfl⟩
 have hLl : L.length = A.length + B.length := by rw [hL, List.length_append]
 have HLL := Lib.hid hL
 have HLN := Lib.hid hLl
 clear hL hLl
 go_enter Tryz.func107, Tryz.ntmps107
 go_wp2_with (first | (at_builtin; (refine wpList_append_sp _ rfl (.tmp 8) (.tmp 9) 74 rfl w.heap.size 106 i0 _ Tryz.underlying74 hi hz0 hz1 hz2 rfl _ [] rfl HO1.out xa ca A rfl HA1.out na (by simp; omega) HB1.out.size ?_; intro v2 w2 hown2 hB2; rw [List.nil_append] at hown2; have hBB2 := HB1.out.trans hB2)) | (at_builtin; (refine wpList_append_sp _ rfl (.tmp 10) (.tmp 11) 74 rfl w.heap.size 106 i0 _ Tryz.underlying74 hi hz0 hz1 hz2 rfl v2 A rfl hown2 xb cb B rfl (HB.out.below hBB2) nb (by omega) hBB2.size ?_; intro v3 w3 hown3 hB3; have hBB3 := hBB2.trans hB3; rw [← HLL.out] at hown3; obtain ⟨x3, c3, rfl, _, hs3⟩ := own_sp hown3)) | fail)
 refine (HEN.out x3 c3 L w3 hs3 (by have := HLN.out; omega)).mono ?_
 rintro r w1 ⟨v, e, rfl, hen, hel, hown, hB1⟩
 rw [HLN.out] at hel
 rw [HLL.out] at hen
 have HP := Lib.hid (cell_both hen)
 have HW1 := Lib.hid (hBB3.trans (hB1.mono hBB3.size))
 obtain ⟨ea, ec, rfl, _, hecm, hsl, _, _⟩ := own_slice hown
 have HSL := Lib.hid hsl
 clear hen hown hB1 hsl hown3 hown2 hB2 hB3 hBB2 hBB3 hs3 HO1 HA1 HB1 HEN
 go_wp2
 go_loopw [6, 7] (fun v i wr => ∃ (k : Nat) (r : List SpM), i = .int .i64 k ∧ k ≤ e.length ∧ r.length ≤ k ∧ Hid (GlW (fun x => HasL A x ∧ HasL B x) e k r) ∧ Hid (wr.ownsRow w1.heap.size 106 2 v r.length (sps r)) ∧ Hid (Below w1.heap.size w1 wr)) (fun _ i _ => e.length - (intOf i).toNat)
 case atStart => exact ⟨0, [], rfl, by omega, by simp, HP.out.start, ⟨rfl, .inl ⟨rfl, rfl⟩⟩, Below.refl _ _⟩
 case round =>
  obtain ⟨k, r, rfl, hke, hrk, HI, HO, HBW⟩ := hrel
  by_cases hk : k + 1 < e.length
  ·obtain ⟨b, off, rfl, hc⟩ := ints_two HSL.out hk
   have HSC := Lib.hid (fun W (hW : Below w1.heap.size wr W) => hc W (HBW.out.trans hW))
   obtain ⟨c0, c1⟩ := hc wr HBW.out
   have HST := Lib.hid (fun hp => HP.out.step HI.out hk hp)
   have HSK := Lib.hid (fun hp => HP.out.skip HI.out hk hp)
   have hW0 := HW1.out.trans (HBW.out.mono HW1.out.size)
   have HHA := Lib.hid (HH.out xa ca A e[k] wr (HA.out.below hW0) hlA)
   have HHB := Lib.hid (HH.out xb cb B e[k] wr (HB.out.below hW0) hlB)
   have HBA := Lib.hid (hasB_iff A e[k])
   have HBB := Lib.hid (hasB_iff B e[k])
   clear hc HI hW0
   generalize e[k] = x at *
   generalize e[k + 1] = y at *
   by_cases pa : hasB A x = true
   ·rw [pa] at HHA
    by_cases pb : hasB B x = true
    ·rw [pb] at HHB
     have HN := Lib.hid (HST.out ⟨HBA.out.1 pa, HBB.out.1 pb⟩)
     clear HST HSK HBA HBB pa pb
     go_wp2_with fail
     refine HHA.out.mono ?_
     rintro r1 w2 ⟨rfl, hw2⟩
     obtain rfl : wr = w2 := hw2.symm
     clear hw2
     go_wp2_with fail
     refine HHB.out.mono ?_
     rintro r1 w2 ⟨rfl, hw2⟩
     obtain rfl : wr = w2 := hw2.symm
     clear hw2
     go_wp2_with fail
     have hX : Below w1.heap.size wr wr.drew := (Below.refl _ _).drew
     have hwk : IntKind.i64.wrap ((k : Int) + 1) = (k : Int) + 1 := by rw [IntWalk.i64_in] <;> omega
     have hk0 : (0 : Int) ≤ (k : Int) := Int.natCast_nonneg _
     have hk1 : (k : Int) < (e.length : Int) := by omega
     have hk2 : (k : Int) + 1 < (e.length : Int) := by omega
     have hk3 : (0 : Int) ≤ (k : Int) + 1 := by omega
     have hk4 : ((k : Int) + 1).toNat = k + 1 := by omega
     have HGW : Hid (Calls Tryz.prog 160 #[_, .agg #[.int .i64 x, .int .i64 y]] wr.drew _) := HG.out w1.heap.size _ r ⟨x, y⟩ wr.drew HBW.out.size HO.out.drew (by omega)
     go_region_held3 (fun W => W.cell? ⟨b, off + k, none⟩ = some (.int .i64 x) ∧ W.cell? ⟨b, off + (k + 1), none⟩ = some (.int .i64 y))
      (first | with_reducible exact HSC.out _ hX | with_reducible exact HSC.out _ hY | assumption)
      ((go_at_call 160; refine HGW.out.mono ?_; rintro r3 w3 ⟨v3, rfl, hown3, hB3⟩; have hY := hX.trans hB3))
     clear hwk hk0 hk1 hk2 hk3 hk4 hX HSC HGW HHA HHB
     go_wp2
     go_roundw
     case rel => exact ⟨k + 1, glueS r ⟨x, y⟩, by go_num, by omega, Nat.le_trans (glueS_le _ _) (by omega), HN, hown3, HBW.out.trans hY⟩
     case measure => simp [intOf]; omega
    ·have pb : hasB B x = false := by cases h : hasB B x <;> simp_all
     rw [pb] at HHB
     have HN := Lib.hid (HSK.out (fun h => by rw [HBB.out.2 h.2] at pb; cases pb))
     clear HST HSK HBA HBB pa pb
     go_wp2_with fail
     refine HHA.out.mono ?_
     rintro r1 w2 ⟨rfl, hw2⟩
     obtain rfl : wr = w2 := hw2.symm
     clear hw2
     go_wp2_with fail
     refine HHB.out.mono ?_
     rintro r1 w2 ⟨rfl, hw2⟩
     obtain rfl : wr = w2 := hw2.symm
     clear hw2 HSC HHA HHB
     go_wp2
     go_roundw
     case rel => exact ⟨k + 1, r, by go_num, by omega, by omega, HN, HO, HBW⟩
     case measure => simp [intOf]; omega
   ·have pa : hasB A x = false := by simpa using pa
    rw [pa] at HHA
    have HN := Lib.hid (HSK.out (fun h => by rw [HBA.out.2 h.1] at pa; cases pa))
    clear HST HSK HBA HBB pa
    go_wp2_with fail
    refine HHA.out.mono ?_
    rintro r1 w2 ⟨rfl, hw2⟩
    obtain rfl : wr = w2 := hw2.symm
    clear hw2 HSC HHA HHB
    go_wp2
    go_roundw
    case rel => exact ⟨k + 1, r, by go_num, by omega, by omega, HN, HO, HBW⟩
    case measure => simp [intOf]; omega
  ·have HD := Lib.hid (HP.out.done HI.out hk)
   go_wp2
   go_ret
   first | exact ⟨_, r, rfl, HD.out, by omega, own_low HO.out HW1.out.size, HW1.out.trans (HBW.out.mono HW1.out.size)⟩ | exact ⟨_, rfl, r, HD.out, by omega, own_low HO.out HW1.out.size, HW1.out.trans (HBW.out.mono HW1.out.size)⟩
end Go.Proofs.YtapacckmgmdnoaaGreat
namespace Go.Proofs.YtapacckmgmdnoaaGreat
open Go.RowKit Go.Proofs
set_option linter.unusedVariables false
set_option maxRecDepth 100000
theorem meet_le {A r : List SpM} {s : SpM} (hA : NormL A) (h : IsSet (fun x => HasL A x ∧ HasL [s] x) r) : r.length ≤ A.length := by
 have h1 : IsSet (fun x => HasL A x ∧ HasL [s] x) (rowOf s A) := (rowOf_set (s := s) (⟨hA, fun x => Iff.rfl⟩ : IsSet (HasL A) A)).congr fun x => by rw [has_one]; exact And.comm
 rw [h.only h1]
 exact rowOf_le s A
set_option maxHeartbeats 2000000 in
theorem rtimes_any13 (x : SaL) (q : AskM) (w : World) (h : SaAt w x) (hf : x.m.su.length ≤ 1000) :
  Calls Tryz.prog 55 #[saV x, askV q] w fun e w' => ∃ y c r, e = .returned (.slice y r.length c) ∧ IsSet (gateP x.m q.w q.u q.f q.t) r ∧ r.length ≤ 2 * x.m.su.length ∧ SpSl w' y r ∧ Below w.heap.size w w' := by
 have SS := SQ.new w q h 27 86
 have HS := Lib.hid SS
 have HP := Lib.hid (fun V (h : EnSl V x.sa x.su) => refPeriods_any x.sa x.sc x.su q.w q.u V h hf)
 have HM := Lib.hid (fun V y c (r : List SpM) (s : SpM) T (h : SpSl V y r) (hn : y = none → c = 0) (hl : r.length ≤ 90000) => refMeet_any y c (some ⟨V.heap.size, 0, none⟩) 1 r [s] (V.alloc (.cells #[.int .i64 s.f, .int .i64 s.t] T)) (h.below (below_one _ _)) (cells_sp V [s] _ T _ rfl rfl) hn (fun h => by cases h) (by rw [List.length_singleton]; omega))
 have HG := Lib.hid (fun r1 r2 h1 h2 => gate_doc (s := x.m) (w := q.w) (u := q.u) (f := q.f) (t := q.t) (q := r1) (r := r2) h1 h2)
 have hf' : x.su.length ≤ 1000 := hf
 rw [show x.m.su = x.su from rfl]
 rw [show x.m.su = x.su from rfl, show x.m.hor = x.hor from rfl] at HG
 generalize gateP x.m q.w q.u q.f q.t = P at *
 obtain ⟨c0, c1, c2, c3, c4, c5⟩ := SS.s.cells
 obtain ⟨a0, a1, a2, a3, a4⟩ := SS.q.cells
 obtain ⟨now, hor, oa, op, oc, ua, us, uc, sa, su, sc, ta, tb, tc⟩ := x
 obtain ⟨qw, qu, qf, qt, qn⟩ := q
 unfold saV saC askV askC pr at *
 dsimp only at *
 clear h hf SS
 go_enter Tryz.func55, Tryz.ntmps55
 go_wp2_with fail
 refine (HP.out _ HS.out.s.at_.su).mono ?_
 rintro e w1 ⟨v, r, rfl, k1, k2, k3, h1⟩
 obtain ⟨y, c, rfl, -, -, k6, k7⟩ := own_spm k3
 have A1 := Lib.hid (HS.out.below h1)
 have HM1 := Lib.hid (HM.out w1 y c r ⟨qf, qt⟩ 106 k6 k7 (by omega))
 clear c0 c1 c2 c3 c4 c5 a0 a1 a2 a3 a4 HS HP k3 k6 k7 h1
 obtain ⟨c0, c1, c2, c3, c4, c5⟩ := A1.out.s.cells
 obtain ⟨a0, a1, a2, a3, a4⟩ := A1.out.q.cells
 dsimp only [List.length_singleton] at *
 go_wp2_with fail
 refine HM1.out.mono ?_
 rintro e w2 ⟨v, r2, rfl, l1, l2, l3, h2⟩
 obtain ⟨y2, c2', rfl, -, -, l6, l7⟩ := own_spm l3
 have A2 := Lib.hid ((A1.out.alloc _).below h2)
 have hle := meet_le k1.1 l1
 have HM2 := Lib.hid (HM.out w2 y2 c2' r2 ⟨hor, 1099511627776⟩ 106 l6 l7 (by omega))
 clear c0 c1 c2 c3 c4 c5 a0 a1 a2 a3 a4 A1 HM HM1 l3 l6 l7 h2
 obtain ⟨c0, c1, c2, c3, c4, c5⟩ := A2.out.s.cells
 obtain ⟨a0, a1, a2, a3, a4⟩ := A2.out.q.cells
 dsimp only [List.length_singleton] at *
 go_wp2_with fail
 refine HM2.out.mono ?_
 rintro e w3 ⟨v, r3, rfl, m1, m2, m3, h3⟩
 obtain ⟨y3, c3', rfl, -, -, m6, m7⟩ := own_spm m3
 have hle2 := meet_le l1.1 m1
 have hset := HG.out r2 r3 (l1.congr fun x => by rw [k1.2]) m1
 have HF := Lib.hid ((A2.out.alloc _).below h3).s.frame
 have HR := Lib.hid (show IsSet P r3 ∧ r3.length ≤ 2 * su.length ∧ SpSl w3 y3 r3 from ⟨hset, by omega, m6⟩)
 clear c0 c1 c2 c3 c4 c5 a0 a1 a2 a3 a4 A2 HM2 HG m1 m2 m3 m6 m7 h3 hset l1 l2 k1 k2
 go_wp2
 go_ret
 exact ⟨y3, c3', r3, rfl, HR.out.1, HR.out.2.1, HR.out.2.2, HF.out⟩
def oneTo (u : ByteArray) (e : StM) (z : UsM) : UsM := if z.u = u then ⟨z.u, addS z.l e⟩ else z
theorem oneTo_u (u : ByteArray) (e : StM) (z : UsM) : (oneTo u e z).u = z.u := by unfold oneTo; split <;> rfl
def addTo (u : ByteArray) (e : StM) (l : List UsM) : List UsM := l.map (oneTo u e)
theorem addTo_of {l : List UsM} {u : ByteArray} {e : StM} (hm : ∃ z ∈ l, z.u = u) : ofU (addTo u e l) u = addS (ofU l u) e := by
 unfold ofU addTo
 rw [List.find?_map]
 have hk : (isKy UsM.u u ∘ oneTo u e) = isKy UsM.u u := by
  funext z
  show isKy UsM.u u (oneTo u e z) = _
  unfold isKy
  rw [oneTo_u]
 rw [hk]
 cases hf : l.find? (isKy UsM.u u) with
 | none =>
  obtain ⟨z, hz, hu⟩ := hm
  exact absurd (isKy_iff.2 hu) (List.find?_eq_none.1 hf z hz)
 | some z =>
  have hu : z.u = u := isKy_iff.1 (List.find?_some hf)
  show (oneTo u e z).l = addS z.l e
  unfold oneTo
  rw [if_pos hu]
theorem addTo_next (u : ByteArray) (e : StM) (l : List UsM) (j : Nat) (h : j < l.length) : (addTo u e l).take (j + 1) = (addTo u e l).take j ++ [oneTo u e l[j]] := by
 unfold addTo
 rw [List.take_succ_eq_append_getElem (by rw [List.length_map]; exact h), List.getElem_map]
def withU (s : SaM) (u : ByteArray) (e : StM) : SaM := { s with us := addTo u e s.us }
theorem withU_few {s : SaM} {u : ByteArray} {e : StM} {n : Nat} (h : Few s n) : Few (withU s u e) (n + 1) := by
 refine ⟨Nat.le_succ_of_le h.op, ?_, Nat.le_succ_of_le h.su, Nat.le_succ_of_le h.tb, fun z hz => ?_⟩
 ·show (addTo u e s.us).length ≤ _
  unfold addTo
  rw [List.length_map]
  exact Nat.le_succ_of_le h.us
 ·obtain ⟨y, hy, rfl⟩ := List.mem_map.1 hz
  unfold oneTo
  split
  ·exact Nat.le_trans (addS_len _ _) (Nat.succ_le_succ (h.st y hy))
  ·exact Nat.le_succ_of_le (h.st y hy)
theorem withU_sz {s : SaM} {u : ByteArray} {e : StM} (h : SzS s) : SzS (withU s u e) := by
 refine ⟨h.op, fun z hz => ?_, h.su, h.tb⟩
 obtain ⟨y, hy, rfl⟩ := List.mem_map.1 hz
 rw [oneTo_u]
 exact h.us y hy
theorem Alike13.blind {s : SaM} {q : AskM} {e : StM} (hr : RightS s) (hf : Few s 100) (hm : ∃ z ∈ s.us, z.u = q.u) (hx : ∀ y, e.f ≤ y → y < e.t → ¬ gateP s q.w q.u 0 1099511627776 y) : Alike13 s q (withU s q.u e) := by
 have hg : ∀ f t y, e.f ≤ y → y < e.t → ¬ gateP s q.w q.u f t y := fun f t y h1 h2 k => hx y h1 h2 ⟨k.1, ⟨by have := hr.hor.1; have := k.2.2.1; omega, k.2.2.2⟩, k.2.2⟩
 have ht : ∀ p : AskM, p.w = q.w → p.u = q.u → p.n = q.n → ∀ m, GTold (withU s q.u e) p m → GTold s p m := fun p e1 e2 e3 m h =>
  ⟨fun hw => range_blind (s' := withU s q.u e) rfl rfl rfl (by rw [e2]; exact addTo_of hm) (by rw [e1, e2]; exact hg _ _) (h.1 hw), fun hw => h.2 hw⟩
 exact ⟨ht q rfl rfl rfl, ht _ rfl rfl rfl, rfl, (withU_few hf).mono (by decide)⟩
structure BlK (T : World) (D : List UsL) (v : Value) (W : World) : Prop where
 bel : Below T.heap.size T W
 own : W.ownsRow T.heap.size 108 2 v D.length (usv D)
 st : ∀ z ∈ D, OwnSt W T.heap.size z ∨ UsAt T z
section
variable {T W W' : World} {D : List UsL} {v v' : Value}
theorem BlK.start (T : World) : BlK T [] (.slice none 0 0) T := ⟨Below.refl _ _, ⟨rfl, .inl ⟨rfl, rfl⟩⟩, fun z hz => by cases hz⟩
theorem BlK.below (h : BlK T D v W) (q : Below W.heap.size W W') : BlK T D v W' :=
 ⟨h.bel.trans (q.mono h.bel.size), own_below h.own q, fun z hz => (h.st z hz).elim (fun k => .inl (own_below k q)) .inr⟩
theorem BlK.more (h : BlK T D v W) {y : UsL} (hy : OwnSt W T.heap.size y ∨ UsAt T y) (ho : W'.ownsRow T.heap.size 108 2 v' (D.length + 1) (usv D ++ [.string y.u, .slice y.a y.l.length y.c])) (hg : W.grownBy W' v.ownBlock) :
  Below T.heap.size W W' ∧ BlK T (D ++ [y]) v' W' := by
 have hB := app_below (Below.refl T.heap.size W) h.bel.size h.own hg
 refine ⟨hB, h.bel.trans hB, ?_, fun z hz => ?_⟩
 ·rw [usv_snoc, List.length_append]
  exact ho
 ·rcases List.mem_append.1 hz with hz | hz
  ·exact (h.st z hz).elim (fun k => .inl (own_grown h.own k New_ne1 hg)) .inr
  ·rw [List.mem_singleton.1 hz]
   exact hy.elim (fun k => .inl (own_grown h.own k New_ne1 hg)) .inr
theorem BlK.fin (h : BlK T D v W) : ∃ ua uc, v = .slice ua D.length uc ∧ UsSl W ua D ∧ Cp ua D.length uc := by
 obtain ⟨ua, uc, rfl, u1, u2, u3, u4⟩ := own_us h.own
 exact ⟨ua, uc, rfl, ⟨u3, fun z hz => (h.st z hz).elim (fun k => k.at_) (fun k => k.below h.bel)⟩, ⟨u1, u2, u4⟩⟩
end
structure UW (w : World) (e : StM) (gu : Nat) (u : UsL) (V : World) : Prop where
 u : V.heap[gu]? = some (.cells #[.string u.u, .slice u.a u.l.length u.c] 108 (0, 0))
 e : V.heap[w.heap.size + 1]? = some (.cells (stC e) 104 (0, 0))
theorem UW.below {w V V' : World} {e : StM} {gu : Nat} {u : UsL} (h : UW w e gu u V) (b : Below V.heap.size V V') : UW w e gu u V' := ⟨(b.block _ (heap_lt h.u)).trans h.u, (b.block _ (heap_lt h.e)).trans h.e⟩
theorem UW.cells {w V : World} {e : StM} {gu : Nat} {u : UsL} (h : UW w e gu u V) : V.cell? ⟨gu, 0, none⟩ = some (.string u.u) ∧ V.cell? ⟨gu, 1, none⟩ = some (.slice u.a u.l.length u.c) ∧ V.cell? ⟨w.heap.size + 1, 0, none⟩ = some (.int .i64 e.f) ∧ V.cell? ⟨w.heap.size + 1, 1, none⟩ = some (.int .i64 e.t) ∧ V.cell? ⟨w.heap.size + 1, 2, none⟩ = some (.int .i64 e.n) ∧ V.cell? ⟨w.heap.size + 1, 3, none⟩ = some (.int .i64 e.s) :=
 ⟨cell_of_row _ _ _ _ _ _ h.u, cell_of_row _ _ _ _ _ _ h.u, cell_of_row _ _ _ _ _ _ h.e, cell_of_row _ _ _ _ _ _ h.e, cell_of_row _ _ _ _ _ _ h.e, cell_of_row _ _ _ _ _ _ h.e⟩
theorem UW.grown {w T W0 V V' : World} {e : StM} {gu : Nat} {u : UsL} {B k n : Nat} {t : TypeId} {v : Value} {xs : List Value} (h : UW w e gu u V) (ho : W0.ownsRow B t k v n xs) (hg : V.grownBy V' v.ownBlock) (hb : Below T.heap.size V V') (hgu : W0.heap.size ≤ gu) (he : w.heap.size + 1 < T.heap.size) : UW w e gu u V' :=
 ⟨(hg.block gu (heap_lt h.u) (fun e => by have := (ho.lt gu e.symm).2; omega)).trans h.u, (hb.block _ he).trans h.e⟩
structure BQ (w : World) (x : SaL) (e : StM) (q : AskM) (W : World) : Prop where
 s : SB w w.heap.size 27 x W
 e : W.heap[w.heap.size + 1]? = some (.cells (stC e) 104 (0, 0))
 q : QB w (w.heap.size + 1 + 1) 86 q W
section
variable {w W W' : World} {x y z : SaL} {e : StM} {q : AskM} {g g2 : Nat}
theorem BQ.below (h : BQ w x e q W) (b : Below W.heap.size W W') : BQ w x e q W' := ⟨h.s.below b, (b.block _ (heap_lt h.e)).trans h.e, h.q.below b⟩
theorem BQ.new (w : World) {x : SaL} (e : StM) (q : AskM) (h : SaAt w x) : BQ w x e q (((w.alloc (.cells (saC x) 27)).alloc (.cells (stC e) 104)).alloc (.cells (askC q) 86)) := by
 have S := SB.new (Below.refl w.heap.size w) h 27
 have E := heap_alloc_new (w.alloc (.cells (saC x) 27)) (.cells (stC e) 104)
 rw [size1] at E
 have S2 := S.alloc (.cells (stC e) 104)
 have Q := QB.new S2.frame q 86
 rw [size1, size1] at Q
 exact ⟨S2.alloc _, (Below.heap_alloc _ _ _ (heap_lt E)).trans E, Q⟩
theorem BQ.cells (h : BQ w x e q W) : W.cell? ⟨w.heap.size, 0, none⟩ = some (.int .i64 x.now) ∧ W.cell? ⟨w.heap.size, 1, none⟩ = some (.int .i64 x.hor) ∧ W.cell? ⟨w.heap.size, 2, none⟩ = some (.slice x.oa x.op.length x.oc) ∧ W.cell? ⟨w.heap.size, 3, none⟩ = some (.slice x.ua x.us.length x.uc) ∧ W.cell? ⟨w.heap.size, 4, none⟩ = some (.slice x.sa x.su.length x.sc) ∧ W.cell? ⟨w.heap.size, 5, none⟩ = some (.slice x.ta x.tb.length x.tc) ∧ W.cell? ⟨w.heap.size + 1, 0, none⟩ = some (.int .i64 e.f) ∧ W.cell? ⟨w.heap.size + 1, 1, none⟩ = some (.int .i64 e.t) ∧ W.cell? ⟨w.heap.size + 1, 2, none⟩ = some (.int .i64 e.n) ∧ W.cell? ⟨w.heap.size + 1, 3, none⟩ = some (.int .i64 e.s) ∧ W.cell? ⟨w.heap.size + 1 + 1, 0, none⟩ = some (.string q.w) ∧ W.cell? ⟨w.heap.size + 1 + 1, 1, none⟩ = some (.string q.u) ∧ W.cell? ⟨w.heap.size + 1 + 1, 2, none⟩ = some (.int .i64 q.f) ∧ W.cell? ⟨w.heap.size + 1 + 1, 3, none⟩ = some (.int .i64 q.t) ∧ W.cell? ⟨w.heap.size + 1 + 1, 4, none⟩ = some (.int .i64 q.n) :=
 ⟨h.s.cells.1, h.s.cells.2.1, h.s.cells.2.2.1, h.s.cells.2.2.2.1, h.s.cells.2.2.2.2.1, h.s.cells.2.2.2.2.2, cell_of_row _ _ _ _ _ _ h.e, cell_of_row _ _ _ _ _ _ h.e, cell_of_row _ _ _ _ _ _ h.e, cell_of_row _ _ _ _ _ _ h.e, h.q.cells⟩
structure B7 (w : World) (x : SaL) (e : StM) (q : AskM) (g : Nat) (y : SaL) (W : World) : Prop where
 k : BQ w x e q W
 y : SB w g 39 y W
theorem B7.below (h : B7 w x e q g y W) (b : Below W.heap.size W W') : B7 w x e q g y W' := ⟨h.k.below b, h.y.below b⟩
theorem B7.cells (h : B7 w x e q g y W) : W.cell? ⟨g, 0, none⟩ = some (.int .i64 y.now) ∧ W.cell? ⟨g, 1, none⟩ = some (.int .i64 y.hor) ∧ W.cell? ⟨g, 2, none⟩ = some (.slice y.oa y.op.length y.oc) ∧ W.cell? ⟨g, 3, none⟩ = some (.slice y.ua y.us.length y.uc) ∧ W.cell? ⟨g, 4, none⟩ = some (.slice y.sa y.su.length y.sc) ∧ W.cell? ⟨g, 5, none⟩ = some (.slice y.ta y.tb.length y.tc) ∧ W.cell? ⟨w.heap.size + 1 + 1, 0, none⟩ = some (.string q.w) ∧ W.cell? ⟨w.heap.size + 1 + 1, 1, none⟩ = some (.string q.u) ∧ W.cell? ⟨w.heap.size + 1 + 1, 2, none⟩ = some (.int .i64 q.f) ∧ W.cell? ⟨w.heap.size + 1 + 1, 3, none⟩ = some (.int .i64 q.t) ∧ W.cell? ⟨w.heap.size + 1 + 1, 4, none⟩ = some (.int .i64 q.n) :=
 ⟨h.y.cells.1, h.y.cells.2.1, h.y.cells.2.2.1, h.y.cells.2.2.2.1, h.y.cells.2.2.2.2.1, h.y.cells.2.2.2.2.2, h.k.q.cells⟩
structure B8 (w : World) (x : SaL) (e : StM) (q : AskM) (g : Nat) (y : SaL) (g2 : Nat) (z : SaL) (W : World) : Prop where
 a : B7 w x e q g y W
 b : B7 w x e q g2 z W
theorem B8.below (h : B8 w x e q g y g2 z W) (b : Below W.heap.size W W') : B8 w x e q g y g2 z W' := ⟨h.a.below b, h.b.below b⟩
theorem B8.drew (h : B8 w x e q g y g2 z W) : B8 w x e q g y g2 z W.drew := h.below (Below.refl _ _).drew
end
end Go.Proofs.YtapacckmgmdnoaaGreat
namespace Go.Proofs.YtapacckmgmdnoaaGreat
open Go.RowKit
set_option linter.unusedVariables false
set_option maxRecDepth 100000
set_option maxRecDepth 100000
theorem s_new (x : StM) (W : World) : Calls Tryz.prog 57 #[stV x] W fun e w' => e = .returned (stV x) ∧ Below W.heap.size W w' :=
 (new_any x W).mono fun e w' (h : _ ∧ Grew W w') => ⟨h.1, h.2.below (Nat.le_refl _)⟩
end Go.Proofs.YtapacckmgmdnoaaGreat
