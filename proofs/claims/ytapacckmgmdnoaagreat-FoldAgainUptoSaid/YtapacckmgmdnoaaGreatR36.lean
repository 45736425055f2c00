/- Texts of mine, one behind the other, of each what is wanted. -/
import Derived.Test.YtapacckmgmdnoaaGreatR00
import Derived.Test.YtapacckmgmdnoaaGreatShelf
import Derived.Test.YtapacckmgmdnoaaGreatRows
import Derived.Test.YtapacckmgmdnoaaGreatR01
import Derived.Test.YtapacckmgmdnoaaGreatR03
import Derived.Test.YtapacckmgmdnoaaGreatR04
import Derived.Test.YtapacckmgmdnoaaGreatR07
import Derived.Test.YtapacckmgmdnoaaGreatR18
import Derived.Test.YtapacckmgmdnoaaGreatR23
import Derived.Test.YtapacckmgmdnoaaGreatR30
import Derived.Test.YtapacckmgmdnoaaGreatR31
import Derived.Test.YtapacckmgmdnoaaGreatR32
import Derived.Test.YtapacckmgmdnoaaGreatR34
import Derived.Test.YtapacckmgmdnoaaGreatR35
import Derived.Test.YtapacckmgmdnoaaGreatTQ
namespace Go.Proofs.YtapacckmgmdnoaaGreat
open Go.RowKit Go.Proofs
set_option linter.unusedVariables false
set_option maxRecDepth 100000
set_option maxRecDepth 100000
def UsOk (now : Int) (op : List OpM) (us : List UsL) (i : Nat) (h : i < us.length) : Prop := OkU now op (us[i]).m ∧ (0 < i → cmpS (us[i - 1]'(by omega)).u (us[i]).u < 0)
def TbOk (now : Int) (tb : List TbM) (i : Nat) (h : i < tb.length) : Prop := OkT now (tb[i]) ∧ (0 < i → cmpS (tb[i - 1]'(by omega)).u (tb[i]).u < 0)
def SuOk (now : Int) (e : EnM) : Prop := 0 ≤ e.f ∧ e.f ≤ now ∧ (e.t = 1099511627776 ∨ e.t ≤ now)
theorem right_all {x : SaL} (h0 : 0 ≤ x.now ∧ x.now < 1099511627776) (h1 : 0 ≤ x.hor ∧ x.hor < 1099511627776) (ho : RiseO x.op) (he : RiseE x.su) (hf : ∀ i (h : i < x.op.length), (x.op[i]).f ≤ x.now) (hu : ∀ i (h : i < x.us.length), UsOk x.now x.op x.us i h) (hs : ∀ i (h : i < x.su.length), SuOk x.now (x.su[i])) (ht : ∀ i (h : i < x.tb.length), TbOk x.now x.tb i h) : RightS x.m := by
 refine ⟨h0, h1, ho, fun e he => ?_, fun y hy => ?_, ?_, ⟨he, fun e he => ?_⟩, fun y hy => ?_, ?_⟩
 ·obtain ⟨i, hi, rfl⟩ := List.getElem_of_mem he
  exact hf i hi
 ·obtain ⟨z, hz, rfl⟩ := List.mem_map.1 hy
  obtain ⟨i, hi, rfl⟩ := List.getElem_of_mem hz
  exact (hu i hi).1
 ·show RiseK UsM.u (umS x.us)
  rw [riseK_at]
  intro k hk h0
  have hk' : k < x.us.length := by rw [umS_len] at hk; exact hk
  have := (hu k hk').2 h0
  simpa [umS, UsL.m] using this
 ·obtain ⟨i, hi, rfl⟩ := List.getElem_of_mem he
  exact hs i hi
 ·obtain ⟨i, hi, rfl⟩ := List.getElem_of_mem hy
  exact (ht i hi).1
 ·show RiseK TbM.u x.tb
  rw [riseK_at]
  intro k hk h0
  exact (ht k hk).2 h0
theorem right_us {x : SaL} (h : RightS x.m) (i : Nat) (hi : i < x.us.length) : UsOk x.now x.op x.us i hi := by
 refine ⟨h.us _ (List.mem_map_of_mem (List.getElem_mem hi)), fun h0 => ?_⟩
 have h1 : RiseK UsM.u (umS x.us) := h.ur
 rw [riseK_at] at h1
 have := h1 i (by rw [umS_len]; exact hi) h0
 simpa [umS, UsL.m] using this
theorem right_tb {x : SaL} (h : RightS x.m) (i : Nat) (hi : i < x.tb.length) : TbOk x.now x.tb i hi := by
 refine ⟨h.tb _ (List.getElem_mem hi), fun h0 => ?_⟩
 have h1 : RiseK TbM.u x.tb := h.tr
 rw [riseK_at] at h1
 exact h1 i hi h0
structure UK (w : World) (g p : Nat) (x : SaL) (y : UsL) (W : World) : Prop where
 s : SB w g 27 x W
 t : W.heap[p]? = some (.cells #[.string y.u, .slice y.a y.l.length y.c] 131 (0, 0))
 at_ : UsAt W y
theorem UK.below {w W W' : World} {g p : Nat} {x : SaL} {y : UsL} (h : UK w g p x y W) (q : Below W.heap.size W W') : UK w g p x y W' := ⟨h.s.below q, (q.block _ (heap_lt h.t)).trans h.t, h.at_.below q⟩
theorem UK.new0 {w W : World} {g : Nat} {x : SaL} {y : UsL} (h : SB w g 27 x W) (hy : UsAt W y) : UK w g W.heap.size x y (W.alloc (.cells #[.string y.u, .slice y.a y.l.length y.c] 131)) := ⟨h.alloc _, heap_alloc_new _ _, hy.below (below_one _ _)⟩
theorem UK.new {w W : World} {g : Nat} {x : SaL} {y : UsL} (h : SB w g 27 x W) (hy : UsAt W y) : UK w g W.heap.size x y (W.alloc (.cells #[.string y.u, .slice y.a y.l.length y.c] 131)).drew := (UK.new0 h hy).below (Below.refl _ _).drew
theorem TK.below {w W W' : World} {g p : Nat} {x : SaL} {y : TbM} (h : TK w g p x y W) (q : Below W.heap.size W W') : TK w g p x y W' := ⟨h.s.below q, (q.block _ (heap_lt h.t)).trans h.t⟩
theorem TK.new {w W : World} {g : Nat} {x : SaL} {y : TbM} (h : SB w g 27 x W) : TK w g W.heap.size x y (W.alloc (.cells #[.string y.u, .int .i64 y.a] 137)).drew := TK.below ⟨h.alloc _, heap_alloc_new _ _⟩ (Below.refl _ _).drew
theorem cells4e {g : Nat} {a b c d : Value} {t : TypeId} {W : World} (h : W.heap[g]? = some (.cells #[a, b, c, d] t (0, 0))) : W.cell? ⟨g, 0, none⟩ = some a ∧ W.cell? ⟨g, 1, none⟩ = some b ∧ W.cell? ⟨g, 2, none⟩ = some c ∧ W.cell? ⟨g, 3, none⟩ = some d :=
 ⟨cell_of_row _ _ _ _ _ _ h, cell_of_row _ _ _ _ _ _ h, cell_of_row _ _ _ _ _ _ h, cell_of_row _ _ _ _ _ _ h⟩
theorem upto_next {P : (i : Nat) → Prop} {j : Nat} (h : ∀ i, i < j → P i) (hj : P j) : ∀ i, i < j + 1 → P i := fun i hi => by
 by_cases e : i = j
 ·subst e; exact hj
 ·exact h i (by omega)
theorem rright_N (s : ByteArray) (w : World) (hs : s.size ≤ maxLen) : Calls Tryz.prog 36 #[.string s] w fun e w' => e = .returned (.bool (nameB s)) ∧ w' = w := refRightN_any s w hs
theorem TellsB.yes {w : World} {P : Prop} {r : Ending} {w' : World} (h : TellsB w P r w') (hp : P) : r = .returned (.bool true) ∧ Below w.heap.size w w' := by
 obtain ⟨b, rfl, h1, h2⟩ := h
 rw [h1.2 hp]
 exact ⟨rfl, h2⟩
theorem TellsB.no {w : World} {P : Prop} {r : Ending} {w' : World} (h : TellsB w P r w') (hp : ¬ P) : r = .returned (.bool false) ∧ Below w.heap.size w w' := by
 obtain ⟨b, rfl, h1, h2⟩ := h
 cases b with
 | true => exact absurd (h1.1 rfl) hp
 | false => exact ⟨rfl, h2⟩
set_option maxHeartbeats 8000000 in
theorem rright_any11 (x : SaL) (w : World) (h : SaAt w x) (hz : SzS x.m) (ho : x.op.length ≤ 1000) (hu : x.us.length ≤ 1000) (hs : x.su.length ≤ 1000) (ht : x.tb.length ≤ 1000) (hst : ∀ y ∈ x.us, y.l.length ≤ 1000) :
  Calls Tryz.prog 19 #[saV x] w (TellsB w (RightS x.m)) := by
 have S0 := SB.new (Below.refl w.heap.size w) h 27
 have HS := Lib.hid S0
 have HRO := Lib.hid (fun V (h : OpSl V x.oa x.op) => o_rrising x.oa x.oc x.op V h hz.op ho)
 have HRE := Lib.hid (fun V (h : EnSl V x.sa x.su) => e_rrising x.sa x.sc x.su V h (fun e he => hz.su e he) hs)
 have HNR := Lib.hid (fun (i : Nat) (hi : i < x.us.length) V => rright_N (x.us[i]).u V (hz.us (x.us[i]).m (List.mem_map_of_mem (List.getElem_mem hi))))
 have HSY := Lib.hid (fun (i : Nat) (hi : i < x.us.length) V (h : StSl V (x.us[i]).a (x.us[i]).l) (k : OpSl V x.oa x.op) => rstayok_any (x.us[i]).a (x.us[i]).c (x.us[i]).l x.now x.oa x.oc x.op V h k (hst _ (List.getElem_mem hi)) ho)
 have HCM := Lib.hid (fun (i j : Nat) (hi : i < x.us.length) (hj : j < x.us.length) V => rcmp11 (x.us[i]).u (x.us[j]).u V (hz.us (x.us[i]).m (List.mem_map_of_mem (List.getElem_mem hi))) (hz.us (x.us[j]).m (List.mem_map_of_mem (List.getElem_mem hj))))
 have HNT := Lib.hid (fun (i : Nat) (hi : i < x.tb.length) V => rright_N (x.tb[i]).u V (hz.tb _ (List.getElem_mem hi)))
 have HCT := Lib.hid (fun (i j : Nat) (hi : i < x.tb.length) (hj : j < x.tb.length) V => rcmp11 (x.tb[i]).u (x.tb[j]).u V (hz.tb _ (List.getElem_mem hi)) (hz.tb _ (List.getElem_mem hj)))
 have HALL := Lib.hid (right_all (x := x))
 have HUS := Lib.hid (fun (h : RightS x.m) => right_us h)
 have HTS := Lib.hid (fun (h : RightS x.m) => right_tb h)
 have HNW : Hid (RightS x.m → (0 ≤ x.now ∧ x.now < 1099511627776) ∧ (0 ≤ x.hor ∧ x.hor < 1099511627776) ∧ RiseO x.op ∧ RiseE x.su ∧ (∀ e ∈ x.op, e.f ≤ x.now) ∧ ∀ e ∈ x.su, SuOk x.now e) := fun h => ⟨h.now, h.hor, h.op, h.su.rise, h.frm, h.su.bnd⟩
 generalize RightS x.m = R at *
 obtain ⟨c0, c1, c2, c3, c4, c5⟩ := S0.cells
 obtain ⟨now, hor, oa, op, oc, ua, us, uc, sa, su, sc, ta, tb, tc⟩ := x
 unfold saV saC at *
 dsimp only at *
 clear h S0 hz hst
 go_enter Tryz.func19, Tryz.ntmps19
 by_cases q0 : now < 0
 ·have HP : Hid (¬ R) := fun h => by have := (HNW.out h).1.1; omega
  have d0 : decide (now < 0) = true := decide_eq_true q0
  have HF := Lib.hid HS.out.frame
  clear HS HRO HRE HNR HSY HCM HNT HCT HALL HUS HTS HNW
  go_wp2
  go_ret
  exact ⟨false, rfl, ⟨(fun h => by cases h), fun h => absurd h HP.out⟩, HF.out⟩
 ·skip
  by_cases q1 : 1099511627776 ≤ now
  ·have HP : Hid (¬ R) := fun h => by have := (HNW.out h).1.2; omega
   have d0 : decide (now < 0) = false := decide_eq_false q0
   have d1 : decide (1099511627776 ≤ now) = true := decide_eq_true q1
   have HF := Lib.hid HS.out.frame
   clear HS HRO HRE HNR HSY HCM HNT HCT HALL HUS HTS HNW
   go_wp2
   go_ret
   exact ⟨false, rfl, ⟨(fun h => by cases h), fun h => absurd h HP.out⟩, HF.out⟩
  ·skip
   by_cases q2 : hor < 0
   ·have HP : Hid (¬ R) := fun h => by have := (HNW.out h).2.1.1; omega
    have d0 : decide (now < 0) = false := decide_eq_false q0
    have d1 : decide (1099511627776 ≤ now) = false := decide_eq_false q1
    have d2 : decide (hor < 0) = true := decide_eq_true q2
    have HF := Lib.hid HS.out.frame
    clear HS HRO HRE HNR HSY HCM HNT HCT HALL HUS HTS HNW
    go_wp2
    go_ret
    exact ⟨false, rfl, ⟨(fun h => by cases h), fun h => absurd h HP.out⟩, HF.out⟩
   ·skip
    by_cases q3 : 1099511627776 ≤ hor
    ·have HP : Hid (¬ R) := fun h => by have := (HNW.out h).2.1.2; omega
     have d0 : decide (now < 0) = false := decide_eq_false q0
     have d1 : decide (1099511627776 ≤ now) = false := decide_eq_false q1
     have d2 : decide (hor < 0) = false := decide_eq_false q2
     have d3 : decide (1099511627776 ≤ hor) = true := decide_eq_true q3
     have HF := Lib.hid HS.out.frame
     clear HS HRO HRE HNR HSY HCM HNT HCT HALL HUS HTS HNW
     go_wp2
     go_ret
     exact ⟨false, rfl, ⟨(fun h => by cases h), fun h => absurd h HP.out⟩, HF.out⟩
    ·skip
     have d0 : decide (now < 0) = false := decide_eq_false q0
     have d1 : decide (1099511627776 ≤ now) = false := decide_eq_false q1
     have d2 : decide (hor < 0) = false := decide_eq_false q2
     have d3 : decide (1099511627776 ≤ hor) = false := decide_eq_false q3
     go_wp2_with fail
     refine (HRO.out _ HS.out.at_.op).mono ?_
     rintro e w1 ⟨rfl, h1⟩
     have HS1 := Lib.hid (HS.out.below h1)
     clear c0 c1 c2 c3 c4 c5 h1 HS HRO
     obtain ⟨c0, c1, c2, c3, c4, c5⟩ := HS1.out.cells
     by_cases hro : RiseO op
     ·have dro : decide (RiseO op) = true := decide_eq_true hro
      have HR1 := Lib.hid hro
      clear hro
      generalize decide (RiseO op) = bro at *
      subst dro
      go_wp2_with fail
      refine (HRE.out _ HS1.out.at_.su).mono ?_
      rintro e w2 ⟨rfl, h1⟩
      have HS2 := Lib.hid (HS1.out.below h1)
      clear c0 c1 c2 c3 c4 c5 h1 HS1 HRE
      obtain ⟨c0, c1, c2, c3, c4, c5⟩ := HS2.out.cells
      by_cases hre : RiseE su
      ·have dre : decide (RiseE su) = true := decide_eq_true hre
       have HR2 := Lib.hid hre
       clear hre
       generalize decide (RiseE su) = bre at *
       subst dre
       have HQ := Lib.hid (And.intro (And.intro (show 0 ≤ now by omega) (show now < 1099511627776 by omega)) (And.intro (show 0 ≤ hor by omega) (show hor < 1099511627776 by omega)))
       clear d0 d1 d2 d3 q0 q1 q2 q3
       go_wp2
       go_loopw [3] (fun iv wr => ∃ (j : Nat), j ≤ op.length ∧ iv = .int .i64 j ∧ Hid (∀ i, i < j → ∀ (h : i < op.length), (op[i]).f ≤ now) ∧ Hid (SB w w.heap.size 27 ⟨now, hor, oa, op, oc, ua, us, uc, sa, su, sc, ta, tb, tc⟩ wr)) (fun iv _ => op.length - (intOf iv).toNat)
       case atStart => exact ⟨0, by omega, rfl, (fun i hi => by omega), HS2.out⟩
       case round =>
        clear HS2 c0 c1 c2 c3 c4 c5
        obtain ⟨j, hj, rfl, HLW, HS⟩ := hrel
        obtain ⟨c0, c1, c2, c3, c4, c5⟩ := HS.out.cells
        have hgl := HS.out.lt
        dsimp only at *
        by_cases hjl : j < op.length
        ·obtain ⟨b, off, rfl, hbl, r0, r1, r2, r3⟩ := HS.out.at_.op j hjl
         have HX := Lib.hid (fun (h : R) => (HNW.out h).2.2.2.2.1 _ (List.getElem_mem hjl))
         have HN := Lib.hid (fun (h : (op[j]).f ≤ now) => upto_next (P := fun i => ∀ (h : i < op.length), (op[i]).f ≤ now) HLW.out (fun _ => h))
         clear HLW HNR HSY HCM HNT HCT HALL HUS HTS HNW
         by_cases hq : now < (op[j]).f
         ·have HP : Hid (¬ R) := fun h => by have := HX.out h; omega
          have dq : decide (now < (op[j]).f) = true := decide_eq_true hq
          have HF := Lib.hid HS.out.frame
          clear HX HN hq HS
          generalize op[j] = e at *
          go_wp2
          go_quiet (fail)
          go_wp2
          go_ret
          exact ⟨false, rfl, ⟨(fun h => by cases h), fun h => absurd h HP.out⟩, HF.out.trans ((Drew.below ⟨_, rfl⟩ _).mono HF.out.size)⟩
         ·have HN2 := Lib.hid (HN.out (by omega))
          have dq : decide (now < (op[j]).f) = false := decide_eq_false hq
          clear HX HN hq
          generalize op[j] = e at *
          go_wp2
          go_quiet (fail)
          go_wp2
          go_roundw
          case rel => exact ⟨j + 1, by omega, by go_num, HN2.out, HS.out.below (Drew.below ⟨_, rfl⟩ _)⟩
          case measure => simp [intOf]; omega
        ·obtain rfl : j = op.length := by omega
         have HF1 : Hid (∀ i (h : i < op.length), (op[i]).f ≤ now) := fun i h => HLW.out i h h
         clear HLW
         go_wp2
         go_loopw [4, 5] (fun iv pv wr => ∃ (j : Nat), j ≤ us.length ∧ iv = .int .i64 j ∧ Hid (∀ i, i < j → ∀ (h : i < us.length), UsOk now op us i h) ∧ Hid (SB w w.heap.size 27 ⟨now, hor, oa, op, oc, ua, us, uc, sa, su, sc, ta, tb, tc⟩ wr)) (fun iv _ _ => us.length - (intOf iv).toNat)
         case atStart => exact ⟨0, by omega, rfl, (fun i hi => by omega), HS.out⟩
         case round =>
          clear HS c0 c1 c2 c3 c4 c5 hgl
          obtain ⟨j, hj, rfl, HLW, HS⟩ := hrel
          obtain ⟨c0, c1, c2, c3, c4, c5⟩ := HS.out.cells
          have hgl := HS.out.lt
          dsimp only at *
          by_cases hjl : j < us.length
          ·obtain ⟨b, off, rfl, hbl, r0, r1, hat⟩ := HS.out.at_.us.get hjl
           have K1 : UK w w.heap.size wr.heap.size ⟨now, hor, oa, op, oc, some ⟨b, off, none⟩, us, uc, sa, su, sc, ta, tb, tc⟩ us[j] (wr.alloc (.cells #[.string (us[j]).u, .slice (us[j]).a (us[j]).l.length (us[j]).c] 131)).drew := UK.new HS.out hat
           have HK0 : Hid (UK w w.heap.size wr.heap.size ⟨now, hor, oa, op, oc, some ⟨b, off, none⟩, us, uc, sa, su, sc, ta, tb, tc⟩ us[j] (wr.alloc (.cells #[.string (us[j]).u, .slice (us[j]).a (us[j]).l.length (us[j]).c] 131))) := UK.new0 HS.out hat
           have HX := Lib.hid (fun (h : R) => HUS.out h j hjl)
           have HN := Lib.hid (fun (h : UsOk now op us j hjl) => upto_next (P := fun i => ∀ (h : i < us.length), UsOk now op us i h) HLW.out (fun _ => h))
           have HNJ := Lib.hid (fun V => HNR.out j hjl V)
           have HYJ0 := Lib.hid (fun V h k => HSY.out j hjl V h k)
           by_cases hn : nameB (us[j]).u = true
           ·by_cases hp : StaysP now op (us[j]).l
            ·have HYJ := Lib.hid (fun V h k => (HYJ0.out V h k).mono fun e w' h => TellsB.yes h hp)
             have HOK : Hid (OkU now op (us[j]).m) := ⟨hn, hp.2.1, hp.2.2, hp.1⟩
             by_cases hj0 : 0 < j
             ·obtain ⟨i, hi⟩ : ∃ i, i + 1 = j := ⟨j - 1, by omega⟩
              have hil : i < us.length := by omega
              have HC := Lib.hid (fun V => HCM.out i j hil hjl V)
              have hpj : IntKind.i64.wrap ((j : Int) - 1) = (i : Int) := by rw [IntWalk.i64_in] <;> omega
              have hdj : decide ((0 : Int) < (j : Int)) = true := decide_eq_true (by omega)
              have hdj2 : decide (0 < j) = true := decide_eq_true hj0
              have hiI : (i : Int) < (us.length : Int) := by omega
              have hi0 : (0 : Int) ≤ (i : Int) := by omega
              have eij : us[j - 1]'(by omega) = us[i] := by congr 1; omega
              have HY2 : Hid (cmpS (us[i]).u (us[j]).u < 0 → UsOk now op us j hjl) := fun h => ⟨HOK.out, fun _ => by rw [eij]; exact h⟩
              have HY3 : Hid (¬ cmpS (us[i]).u (us[j]).u < 0 → ¬ R) := fun h q => h (by have := (HX.out q).2 hj0; rw [eij] at this; exact this)
              have HXB : Hid (∀ V, UK w w.heap.size wr.heap.size ⟨now, hor, oa, op, oc, some ⟨b, off, none⟩, us, uc, sa, su, sc, ta, tb, tc⟩ us[j] V → V.cell? ⟨w.heap.size, 0, none⟩ = some (.int .i64 now) ∧ V.cell? ⟨w.heap.size, 2, none⟩ = some (.slice oa op.length oc) ∧ V.cell? ⟨w.heap.size, 3, none⟩ = some (.slice (some ⟨b, off, none⟩) us.length uc) ∧ V.cell? ⟨wr.heap.size, 0, none⟩ = some (.string (us[j]).u) ∧ V.cell? ⟨wr.heap.size, 1, none⟩ = some (.slice (us[j]).a (us[j]).l.length (us[j]).c) ∧ V.cell? ⟨b, off + i * 2, none⟩ = some (.string (us[i]).u)) := fun V h => by
               obtain ⟨k0, k1, k2, k3, k4, k5⟩ := h.s.cells
               obtain ⟨b', off', e1, -, p0, -, -⟩ := h.s.at_.us.get hil
               cases e1
               exact ⟨k0, k2, k3, (pcell2 h.t).1, (pcell2 h.t).2, p0⟩
              have Q1 := K1
              have HQF := Lib.hid (fun V (q : UK w w.heap.size wr.heap.size ⟨now, hor, oa, op, oc, some ⟨b, off, none⟩, us, uc, sa, su, sc, ta, tb, tc⟩ us[j] V) => q.s)
              clear HNR HSY HCM HYJ0 hp HOK HX eij HLW hat hi hj0 K1 HK0 HNW HNT HCT HALL HUS HTS
              generalize us[j] = y at *
              generalize us[i] = z at *
              generalize cmpS z.u y.u = q at *
              generalize nameB y.u = nb at *
              subst hn
              by_cases hq : q < 0
              ·have HN2 := Lib.hid (HN.out (HY2.out hq))
               have dq : decide (0 ≤ q) = false := decide_eq_false (by omega)
               clear HY2 HY3 HN hq
               go_wp2_with fail
               go_region_held3 (fun V => V.cell? ⟨w.heap.size, 0, none⟩ = some (.int .i64 now) ∧ V.cell? ⟨w.heap.size, 2, none⟩ = some (.slice oa op.length oc) ∧ V.cell? ⟨w.heap.size, 3, none⟩ = some (.slice (some ⟨b, off, none⟩) us.length uc) ∧ V.cell? ⟨wr.heap.size, 0, none⟩ = some (.string y.u) ∧ V.cell? ⟨wr.heap.size, 1, none⟩ = some (.slice y.a y.l.length y.c) ∧ V.cell? ⟨b, off + i * 2, none⟩ = some (.string z.u))
                (first | with_reducible exact HXB.out _ Q3 | with_reducible exact HXB.out _ Q2 | with_reducible exact HXB.out _ Q1)
                (first | (have hseen := Q2; clear hseen; go_at_call 69; refine (HC.out _).mono ?_; rintro e w5 ⟨rfl, h5⟩; have Q3 := Q2.below h5) | (go_at_call 68; refine (HYJ.out _ Q1.at_.st Q1.s.at_.op).mono ?_; rintro e w4 ⟨rfl, h4⟩; have Q2 := Q1.below h4) | (go_at_call 36; refine (HNJ.out _).mono ?_; rintro e w3 ⟨rfl, rfl⟩))
               all_goals
                have HS3 := Lib.hid (HQF.out _ Q3)
                clear HC HYJ HNJ HXB Q1 Q2 Q3 HQF
                go_wp2
                go_roundw
                case rel => exact ⟨j + 1, by omega, by go_num, HN2.out, HS3.out⟩
                case measure => simp [intOf]; omega
              ·have HP := Lib.hid (HY3.out hq)
               have dq : decide (0 ≤ q) = true := decide_eq_true (by omega)
               clear HY2 HY3 HN hq
               go_wp2_with fail
               go_region_held3 (fun V => V.cell? ⟨w.heap.size, 0, none⟩ = some (.int .i64 now) ∧ V.cell? ⟨w.heap.size, 2, none⟩ = some (.slice oa op.length oc) ∧ V.cell? ⟨w.heap.size, 3, none⟩ = some (.slice (some ⟨b, off, none⟩) us.length uc) ∧ V.cell? ⟨wr.heap.size, 0, none⟩ = some (.string y.u) ∧ V.cell? ⟨wr.heap.size, 1, none⟩ = some (.slice y.a y.l.length y.c) ∧ V.cell? ⟨b, off + i * 2, none⟩ = some (.string z.u))
                (first | with_reducible exact HXB.out _ Q3 | with_reducible exact HXB.out _ Q2 | with_reducible exact HXB.out _ Q1)
                (first | (have hseen := Q2; clear hseen; go_at_call 69; refine (HC.out _).mono ?_; rintro e w5 ⟨rfl, h5⟩; have Q3 := Q2.below h5) | (go_at_call 68; refine (HYJ.out _ Q1.at_.st Q1.s.at_.op).mono ?_; rintro e w4 ⟨rfl, h4⟩; have Q2 := Q1.below h4) | (go_at_call 36; refine (HNJ.out _).mono ?_; rintro e w3 ⟨rfl, rfl⟩))
               all_goals
                have HF := Lib.hid (HQF.out _ Q3).frame
                clear HC HYJ HNJ HXB Q1 Q2 Q3 HQF
                go_wp2
                go_ret
                exact ⟨false, rfl, ⟨(fun h => by cases h), fun h => absurd h HP.out⟩, HF.out⟩
             ·have HN2 := Lib.hid (HN.out ⟨HOK.out, fun h => absurd h hj0⟩)
              have hdj : decide ((0 : Int) < (j : Int)) = false := decide_eq_false (by omega)
              have hdj2 : decide (0 < j) = false := decide_eq_false hj0
              have HXB : Hid (∀ V, UK w w.heap.size wr.heap.size ⟨now, hor, oa, op, oc, some ⟨b, off, none⟩, us, uc, sa, su, sc, ta, tb, tc⟩ us[j] V → V.cell? ⟨w.heap.size, 0, none⟩ = some (.int .i64 now) ∧ V.cell? ⟨w.heap.size, 2, none⟩ = some (.slice oa op.length oc) ∧ V.cell? ⟨w.heap.size, 3, none⟩ = some (.slice (some ⟨b, off, none⟩) us.length uc) ∧ V.cell? ⟨wr.heap.size, 0, none⟩ = some (.string (us[j]).u) ∧ V.cell? ⟨wr.heap.size, 1, none⟩ = some (.slice (us[j]).a (us[j]).l.length (us[j]).c)) := fun V h => by
               obtain ⟨k0, k1, k2, k3, k4, k5⟩ := h.s.cells
               exact ⟨k0, k2, k3, (pcell2 h.t).1, (pcell2 h.t).2⟩
              have Q1 := K1
              have HQF := Lib.hid (fun V (q : UK w w.heap.size wr.heap.size ⟨now, hor, oa, op, oc, some ⟨b, off, none⟩, us, uc, sa, su, sc, ta, tb, tc⟩ us[j] V) => q.s)
              clear HNR HSY HCM HYJ0 hp HOK HX HLW hat hj0 K1 HK0 HNW HNT HCT HALL HUS HTS HN
              generalize us[j] = y at *
              generalize nameB y.u = nb at *
              subst hn
              go_wp2_with fail
              refine wp_region_held_drew (S := (fun V => V.cell? ⟨w.heap.size, 0, none⟩ = some (.int .i64 now) ∧ V.cell? ⟨w.heap.size, 2, none⟩ = some (.slice oa op.length oc) ∧ V.cell? ⟨w.heap.size, 3, none⟩ = some (.slice (some ⟨b, off, none⟩) us.length uc) ∧ V.cell? ⟨wr.heap.size, 0, none⟩ = some (.string y.u) ∧ V.cell? ⟨wr.heap.size, 1, none⟩ = some (.slice y.a y.l.length y.c))) (by kernel_rfl) ?_ (fun hHeld => ?_)
              ·exact HXB.out _ Q1
              refine tV 0 68 ?_
              refine tV 1 69 ?_
              refine wpAnyH_ready (rs := [2]) (by kernel_rfl) (by simp) ?_
              refine AllReadyH.cons (o := ⟨some 70, _, _, _, _, _⟩) rfl (fun K hK => ?_) AllReadyH.nil
              go_simp
              refine (HNJ.out _).mono ?_
              rintro e w3 ⟨rfl, rfl⟩
              go_wp2_with fail
              refine hK.out _ _ ?_ (fun hH2 => ?_)
              ·exact HXB.out _ Q1
              clear hK K
              (try simp only [Act.put, List.setIfInBounds_toArray, List.set_cons_zero, List.set_cons_succ])
              refine tV 3 71 ?_
              refine tV 4 72 ?_
              refine tV 5 73 ?_
              refine tV 6 74 ?_
              refine tV 7 75 ?_
              refine tV 8 76 ?_
              refine tV 9 77 ?_
              refine tV 10 78 ?_
              refine wpAnyH_ready (rs := [11]) (by kernel_rfl) (by simp) ?_
              refine AllReadyH.cons (o := ⟨some 79, _, _, _, _, _⟩) rfl (fun K hK => ?_) AllReadyH.nil
              go_simp
              refine (HYJ.out _ Q1.at_.st Q1.s.at_.op).mono ?_
              rintro e w4 ⟨rfl, h4⟩
              have Q2 := Q1.below h4
              go_wp2_with fail
              refine hK.out _ _ ?_ (fun hH11 => ?_)
              ·exact HXB.out _ Q2
              clear hK K
              (try simp only [Act.put, List.setIfInBounds_toArray, List.set_cons_zero, List.set_cons_succ])
              refine tV 12 80 ?_
              refine tV 13 81 ?_
              refine tV 14 82 ?_
              refine tV 15 83 ?_
              refine tV 16 84 ?_
              refine tV 17 85 ?_
              refine tU 18 86 ?_
              refine tU 19 87 ?_
              refine tU 20 88 ?_
              refine tU 21 89 ?_
              refine tU 22 90 ?_
              refine tU 23 91 ?_
              refine tU 24 92 ?_
              refine tU 25 93 ?_
              refine tU 26 94 ?_
              refine tU 27 95 ?_
              refine tU 28 96 ?_
              refine tV 29 97 ?_
              refine tV 30 98 ?_
              refine wpAnyH_done (by kernel_rfl) ?_ _
              all_goals
               have HS3 := Lib.hid (HQF.out _ Q2)
               clear HYJ HNJ HXB Q1 Q2 HQF
               go_wp2
               go_roundw
               case rel => exact ⟨j + 1, by omega, by go_num, HN2.out, HS3.out⟩
               case measure => simp [intOf]; omega
            ·have HYJ := Lib.hid (fun V h k => (HYJ0.out V h k).mono fun e w' h => TellsB.no h hp)
             have HP : Hid (¬ R) := fun h => hp (by have := (HX.out h).1; exact ⟨this.2.2.2, this.2.1, this.2.2.1⟩)
             have HXB : Hid (∀ V, UK w w.heap.size wr.heap.size ⟨now, hor, oa, op, oc, some ⟨b, off, none⟩, us, uc, sa, su, sc, ta, tb, tc⟩ us[j] V → V.cell? ⟨w.heap.size, 0, none⟩ = some (.int .i64 now) ∧ V.cell? ⟨w.heap.size, 2, none⟩ = some (.slice oa op.length oc) ∧ V.cell? ⟨w.heap.size, 3, none⟩ = some (.slice (some ⟨b, off, none⟩) us.length uc) ∧ V.cell? ⟨wr.heap.size, 0, none⟩ = some (.string (us[j]).u) ∧ V.cell? ⟨wr.heap.size, 1, none⟩ = some (.slice (us[j]).a (us[j]).l.length (us[j]).c)) := fun V h => by
              obtain ⟨k0, k1, k2, k3, k4, k5⟩ := h.s.cells
              exact ⟨k0, k2, k3, (pcell2 h.t).1, (pcell2 h.t).2⟩
             have Q1 := K1
             have HQF := Lib.hid (fun V (q : UK w w.heap.size wr.heap.size ⟨now, hor, oa, op, oc, some ⟨b, off, none⟩, us, uc, sa, su, sc, ta, tb, tc⟩ us[j] V) => q.s)
             clear HNR HSY HCM HYJ0 hp HX HLW hat K1 HK0 HNW HNT HCT HALL HUS HTS HN
             generalize us[j] = y at *
             generalize nameB y.u = nb at *
             subst hn
             go_wp2_with fail
             refine wp_region_held_drew (S := (fun V => V.cell? ⟨w.heap.size, 0, none⟩ = some (.int .i64 now) ∧ V.cell? ⟨w.heap.size, 2, none⟩ = some (.slice oa op.length oc) ∧ V.cell? ⟨w.heap.size, 3, none⟩ = some (.slice (some ⟨b, off, none⟩) us.length uc) ∧ V.cell? ⟨wr.heap.size, 0, none⟩ = some (.string y.u) ∧ V.cell? ⟨wr.heap.size, 1, none⟩ = some (.slice y.a y.l.length y.c))) (by kernel_rfl) ?_ (fun hHeld => ?_)
             ·exact HXB.out _ Q1
             refine tV 0 68 ?_
             refine tV 1 69 ?_
             refine wpAnyH_ready (rs := [2]) (by kernel_rfl) (by simp) ?_
             refine AllReadyH.cons (o := ⟨some 70, _, _, _, _, _⟩) rfl (fun K hK => ?_) AllReadyH.nil
             go_simp
             refine (HNJ.out _).mono ?_
             rintro e w3 ⟨rfl, rfl⟩
             go_wp2_with fail
             refine hK.out _ _ ?_ (fun hH2 => ?_)
             ·exact HXB.out _ Q1
             clear hK K
             (try simp only [Act.put, List.setIfInBounds_toArray, List.set_cons_zero, List.set_cons_succ])
             refine tV 3 71 ?_
             refine tV 4 72 ?_
             refine tV 5 73 ?_
             refine tV 6 74 ?_
             refine tV 7 75 ?_
             refine tV 8 76 ?_
             refine tV 9 77 ?_
             refine tV 10 78 ?_
             refine wpAnyH_ready (rs := [11]) (by kernel_rfl) (by simp) ?_
             refine AllReadyH.cons (o := ⟨some 79, _, _, _, _, _⟩) rfl (fun K hK => ?_) AllReadyH.nil
             go_simp
             refine (HYJ.out _ Q1.at_.st Q1.s.at_.op).mono ?_
             rintro e w4 ⟨rfl, h4⟩
             have Q2 := Q1.below h4
             go_wp2_with fail
             refine hK.out _ _ ?_ (fun hH11 => ?_)
             ·exact HXB.out _ Q2
             clear hK K
             (try simp only [Act.put, List.setIfInBounds_toArray, List.set_cons_zero, List.set_cons_succ])
             refine tV 12 80 ?_
             refine tV 13 81 ?_
             refine tV 14 82 ?_
             refine tU 15 83 ?_
             refine tU 16 84 ?_
             refine tU 17 85 ?_
             refine tU 18 86 ?_
             refine tU 19 87 ?_
             refine tU 20 88 ?_
             refine tU 21 89 ?_
             refine tU 22 90 ?_
             refine tU 23 91 ?_
             refine tU 24 92 ?_
             refine tU 25 93 ?_
             refine tU 26 94 ?_
             refine tU 27 95 ?_
             refine tU 28 96 ?_
             refine tU 29 97 ?_
             refine tV 30 98 ?_
             refine wpAnyH_done (by kernel_rfl) ?_ _
             all_goals
              have HF := Lib.hid (HQF.out _ Q2).frame
              clear HYJ HNJ HXB Q1 Q2 HQF
              go_wp2
              go_ret
              exact ⟨false, rfl, ⟨(fun h => by cases h), fun h => absurd h HP.out⟩, HF.out⟩
           ·have HP : Hid (¬ R) := fun h => hn (HX.out h).1.1
            have hn2 : nameB (us[j]).u = false := Bool.eq_false_iff.2 hn
            have HXB : Hid (∀ V, UK w w.heap.size wr.heap.size ⟨now, hor, oa, op, oc, some ⟨b, off, none⟩, us, uc, sa, su, sc, ta, tb, tc⟩ us[j] V → V.cell? ⟨w.heap.size, 0, none⟩ = some (.int .i64 now) ∧ V.cell? ⟨w.heap.size, 2, none⟩ = some (.slice oa op.length oc) ∧ V.cell? ⟨w.heap.size, 3, none⟩ = some (.slice (some ⟨b, off, none⟩) us.length uc) ∧ V.cell? ⟨wr.heap.size, 0, none⟩ = some (.string (us[j]).u) ∧ V.cell? ⟨wr.heap.size, 1, none⟩ = some (.slice (us[j]).a (us[j]).l.length (us[j]).c)) := fun V h => by
             obtain ⟨k0, k1, k2, k3, k4, k5⟩ := h.s.cells
             exact ⟨k0, k2, k3, (pcell2 h.t).1, (pcell2 h.t).2⟩
            have Q1 := K1
            have HQF := Lib.hid (fun V (q : UK w w.heap.size wr.heap.size ⟨now, hor, oa, op, oc, some ⟨b, off, none⟩, us, uc, sa, su, sc, ta, tb, tc⟩ us[j] V) => q.s)
            clear HNR HSY HCM HYJ0 HX HLW hat K1 HK0 HNW HNT HCT HALL HUS HTS HN hn
            generalize us[j] = y at *
            generalize nameB y.u = nb at *
            subst hn2
            go_wp2_with fail
            refine wp_region_held_drew (S := (fun V => V.cell? ⟨w.heap.size, 0, none⟩ = some (.int .i64 now) ∧ V.cell? ⟨w.heap.size, 2, none⟩ = some (.slice oa op.length oc) ∧ V.cell? ⟨w.heap.size, 3, none⟩ = some (.slice (some ⟨b, off, none⟩) us.length uc) ∧ V.cell? ⟨wr.heap.size, 0, none⟩ = some (.string y.u) ∧ V.cell? ⟨wr.heap.size, 1, none⟩ = some (.slice y.a y.l.length y.c))) (by kernel_rfl) ?_ (fun hHeld => ?_)
            ·exact HXB.out _ Q1
            refine tV 0 68 ?_
            refine tV 1 69 ?_
            refine wpAnyH_ready (rs := [2]) (by kernel_rfl) (by simp) ?_
            refine AllReadyH.cons (o := ⟨some 70, _, _, _, _, _⟩) rfl (fun K hK => ?_) AllReadyH.nil
            go_simp
            refine (HNJ.out _).mono ?_
            rintro e w3 ⟨rfl, rfl⟩
            go_wp2_with fail
            refine hK.out _ _ ?_ (fun hH2 => ?_)
            ·exact HXB.out _ Q1
            clear hK K
            (try simp only [Act.put, List.setIfInBounds_toArray, List.set_cons_zero, List.set_cons_succ])
            refine tV 3 71 ?_
            refine tV 4 72 ?_
            refine tU 5 73 ?_
            refine tU 6 74 ?_
            refine tU 7 75 ?_
            refine tU 8 76 ?_
            refine tU 9 77 ?_
            refine tU 10 78 ?_
            refine tU 11 79 ?_
            refine tU 12 80 ?_
            refine tV 13 81 ?_
            refine tV 14 82 ?_
            refine tU 15 83 ?_
            refine tU 16 84 ?_
            refine tU 17 85 ?_
            refine tU 18 86 ?_
            refine tU 19 87 ?_
            refine tU 20 88 ?_
            refine tU 21 89 ?_
            refine tU 22 90 ?_
            refine tU 23 91 ?_
            refine tU 24 92 ?_
            refine tU 25 93 ?_
            refine tU 26 94 ?_
            refine tU 27 95 ?_
            refine tU 28 96 ?_
            refine tU 29 97 ?_
            refine tV 30 98 ?_
            refine wpAnyH_done (by kernel_rfl) ?_ _
            all_goals
             have HF := Lib.hid (HQF.out _ Q1).frame
             clear HNJ HXB Q1 HQF
             go_wp2
             go_ret
             exact ⟨false, rfl, ⟨(fun h => by cases h), fun h => absurd h HP.out⟩, HF.out⟩
          ·obtain rfl : j = us.length := by omega
           have HF2 : Hid (∀ i (h : i < us.length), UsOk now op us i h) := fun i h => HLW.out i h h
           clear HLW
           go_wp2
           go_loopw [6, 7] (fun iv pv wr => ∃ (j : Nat), j ≤ su.length ∧ iv = .int .i64 j ∧ Hid (∀ i, i < j → ∀ (h : i < su.length), SuOk now (su[i])) ∧ Hid (SB w w.heap.size 27 ⟨now, hor, oa, op, oc, ua, us, uc, sa, su, sc, ta, tb, tc⟩ wr)) (fun iv _ _ => su.length - (intOf iv).toNat)
           case atStart => exact ⟨0, by omega, rfl, (fun i hi => by omega), HS.out⟩
           case round =>
            clear HS c0 c1 c2 c3 c4 c5 hgl
            obtain ⟨j, hj, rfl, HLW, HS⟩ := hrel
            obtain ⟨c0, c1, c2, c3, c4, c5⟩ := HS.out.cells
            have hgl := HS.out.lt
            dsimp only at *
            by_cases hjl : j < su.length
            ·obtain ⟨b, off, rfl, hbl, r0, r1, r2, r3⟩ := HS.out.at_.su j hjl
             have HX := Lib.hid (fun (h : R) => (HNW.out h).2.2.2.2.2 _ (List.getElem_mem hjl))
             have HN := Lib.hid (fun (h : SuOk now su[j]) => upto_next (P := fun i => ∀ (h : i < su.length), SuOk now (su[i])) HLW.out (fun _ => h))
             have HB1 := Lib.hid (HS.out.alloc (.cells #[.string (su[j]).w, .string (su[j]).u, .int .i64 (su[j]).f, .int .i64 (su[j]).t] 135))
             obtain ⟨s0, s1, s2, s3⟩ := cells4e (heap_alloc_new wr (.cells #[.string (su[j]).w, .string (su[j]).u, .int .i64 (su[j]).f, .int .i64 (su[j]).t] 135))
             obtain ⟨b0, b1, b2, b3, b4, b5⟩ := HB1.out.cells
             clear HLW HNR HSY HCM HNT HCT HALL HUS HTS HNW HS
             generalize su[j] = e at *
             by_cases q0 : e.f < 0
             ·have HP : Hid (¬ R) := fun h => by have := (HX.out h).1; omega
              have d0 : decide (e.f < 0) = true := decide_eq_true q0
              have HF := Lib.hid HB1.out.frame
              clear HX HN HB1
              go_wp2
              go_ret
              exact ⟨false, rfl, ⟨(fun h => by cases h), fun h => absurd h HP.out⟩, HF.out⟩
             ·have d0 : decide (e.f < 0) = false := decide_eq_false q0
              by_cases q1 : now < e.f
              ·have HP : Hid (¬ R) := fun h => by have := (HX.out h).2.1; omega
               have d1 : decide (now < e.f) = true := decide_eq_true q1
               have HF := Lib.hid HB1.out.frame
               clear HX HN HB1
               go_wp2
               go_ret
               exact ⟨false, rfl, ⟨(fun h => by cases h), fun h => absurd h HP.out⟩, HF.out⟩
              ·have d1 : decide (now < e.f) = false := decide_eq_false q1
               by_cases q2 : now < e.t
               ·have d2 : decide (now < e.t) = true := decide_eq_true q2
                by_cases q3 : e.t = 1099511627776
                ·have HN2 := Lib.hid (HN.out ⟨by omega, by omega, .inl q3⟩)
                 clear HX HN
                 obtain ⟨ew, eu, ef, et⟩ := e
                 dsimp only at *
                 subst q3
                 go_wp2
                 go_roundw
                 case rel => exact ⟨j + 1, by omega, by go_num, HN2.out, HB1.out⟩
                 case measure => simp [intOf]; omega
                ·have HP : Hid (¬ R) := fun h => by have := (HX.out h).2.2; omega
                 have d3 : (e.t == 1099511627776) = false := beq_eq_false_iff_ne.2 q3
                 have d4 : (e.t != 1099511627776) = true := by rw [bne, d3]; rfl
                 have HF := Lib.hid HB1.out.frame
                 clear HX HN HB1
                 go_wp2
                 go_ret
                 exact ⟨false, rfl, ⟨(fun h => by cases h), fun h => absurd h HP.out⟩, HF.out⟩
               ·have d2 : decide (now < e.t) = false := decide_eq_false q2
                have HN2 := Lib.hid (HN.out ⟨by omega, by omega, .inr (by omega)⟩)
                clear HX HN
                go_wp2
                go_roundw
                case rel => exact ⟨j + 1, by omega, by go_num, HN2.out, HB1.out⟩
                case measure => simp [intOf]; omega
            ·obtain rfl : j = su.length := by omega
             have HF3 : Hid (∀ i (h : i < su.length), SuOk now (su[i])) := fun i h => HLW.out i h h
             clear HLW
             go_wp2
             go_loopw [8, 9] (fun iv pv wr => ∃ (j : Nat), j ≤ tb.length ∧ iv = .int .i64 j ∧ Hid (∀ i, i < j → ∀ (h : i < tb.length), TbOk now tb i h) ∧ Hid (SB w w.heap.size 27 ⟨now, hor, oa, op, oc, ua, us, uc, sa, su, sc, ta, tb, tc⟩ wr)) (fun iv _ _ => tb.length - (intOf iv).toNat)
             case atStart => exact ⟨0, by omega, rfl, (fun i hi => by omega), HS.out⟩
             case round =>
              clear HS c0 c1 c2 c3 c4 c5 hgl
              obtain ⟨j, hj, rfl, HLW, HS⟩ := hrel
              obtain ⟨c0, c1, c2, c3, c4, c5⟩ := HS.out.cells
              have hgl := HS.out.lt
              dsimp only at *
              by_cases hjl : j < tb.length
              ·obtain ⟨b, off, rfl, hbl, r0, r1⟩ := HS.out.at_.tb.get hjl
               have K1 : TK w w.heap.size wr.heap.size ⟨now, hor, oa, op, oc, ua, us, uc, sa, su, sc, some ⟨b, off, none⟩, tb, tc⟩ tb[j] (wr.alloc (.cells #[.string (tb[j]).u, .int .i64 (tb[j]).a] 137)).drew := TK.new HS.out
               have HX := Lib.hid (fun (h : R) => HTS.out h j hjl)
               have HN := Lib.hid (fun (h : TbOk now tb j hjl) => upto_next (P := fun i => ∀ (h : i < tb.length), TbOk now tb i h) HLW.out (fun _ => h))
               have HNJ := Lib.hid (fun V => HNT.out j hjl V)
               by_cases hn : nameB (tb[j]).u = true
               ·by_cases qa : (tb[j]).a < 0
                ·have HP : Hid (¬ R) := fun h => by have := (HX.out h).1.2.1; omega
                 have da : decide ((tb[j]).a < 0) = true := decide_eq_true qa
                 have HXB : Hid (∀ V, TK w w.heap.size wr.heap.size ⟨now, hor, oa, op, oc, ua, us, uc, sa, su, sc, some ⟨b, off, none⟩, tb, tc⟩ tb[j] V → V.cell? ⟨w.heap.size, 0, none⟩ = some (.int .i64 now) ∧ V.cell? ⟨w.heap.size, 5, none⟩ = some (.slice (some ⟨b, off, none⟩) tb.length tc) ∧ V.cell? ⟨wr.heap.size, 0, none⟩ = some (.string (tb[j]).u) ∧ V.cell? ⟨wr.heap.size, 1, none⟩ = some (.int .i64 (tb[j]).a)) := fun V h => by
                  obtain ⟨k0, k1, k2, k3, k4, k5⟩ := h.s.cells
                  exact ⟨k0, k5, (pcell2 h.t).1, (pcell2 h.t).2⟩
                 have Q1 := K1
                 have HQF := Lib.hid (fun V (q : TK w w.heap.size wr.heap.size ⟨now, hor, oa, op, oc, ua, us, uc, sa, su, sc, some ⟨b, off, none⟩, tb, tc⟩ tb[j] V) => q.s)
                 clear HNT HCT HX HLW K1 HALL HTS HN qa
                 generalize tb[j] = y at *
                 generalize nameB y.u = nb at *
                 subst hn
                 go_wp2_with fail
                 refine wp_region_held_drew (S := (fun V => V.cell? ⟨w.heap.size, 0, none⟩ = some (.int .i64 now) ∧ V.cell? ⟨w.heap.size, 5, none⟩ = some (.slice (some ⟨b, off, none⟩) tb.length tc) ∧ V.cell? ⟨wr.heap.size, 0, none⟩ = some (.string y.u) ∧ V.cell? ⟨wr.heap.size, 1, none⟩ = some (.int .i64 y.a))) (by kernel_rfl) ?_ (fun hHeld => ?_)
                 ·exact HXB.out _ Q1
                 refine tV 0 145 ?_
                 refine tV 1 146 ?_
                 refine wpAnyH_ready (rs := [2]) (by kernel_rfl) (by simp) ?_
                 refine AllReadyH.cons (o := ⟨some 147, _, _, _, _, _⟩) rfl (fun K hK => ?_) AllReadyH.nil
                 go_simp
                 refine (HNJ.out _).mono ?_
                 rintro e w3 ⟨rfl, rfl⟩
                 go_wp2_with fail
                 refine hK.out _ _ ?_ (fun hH2 => ?_)
                 ·exact HXB.out _ Q1
                 clear hK K
                 (try simp only [Act.put, List.setIfInBounds_toArray, List.set_cons_zero, List.set_cons_succ])
                 refine tV 3 148 ?_
                 refine tV 4 149 ?_
                 refine tV 5 150 ?_
                 refine tV 6 151 ?_
                 refine tV 7 152 ?_
                 refine tV 8 153 ?_
                 refine tV 9 154 ?_
                 refine tU 10 155 ?_
                 refine tU 11 156 ?_
                 refine tU 12 157 ?_
                 refine tU 13 158 ?_
                 refine tU 14 159 ?_
                 refine tV 15 160 ?_
                 refine tV 16 161 ?_
                 refine tU 17 162 ?_
                 refine tU 18 163 ?_
                 refine tU 19 164 ?_
                 refine tU 20 165 ?_
                 refine tU 21 166 ?_
                 refine tU 22 167 ?_
                 refine tU 23 168 ?_
                 refine tU 24 169 ?_
                 refine tU 25 170 ?_
                 refine tU 26 171 ?_
                 refine tU 27 172 ?_
                 refine tU 28 173 ?_
                 refine tU 29 174 ?_
                 refine tU 30 175 ?_
                 refine tU 31 176 ?_
                 refine tV 32 177 ?_
                 refine wpAnyH_done (by kernel_rfl) ?_ _
                 all_goals
                  have HF := Lib.hid (HQF.out _ Q1).frame
                  clear HNJ HXB Q1 HQF
                  go_wp2
                  go_ret
                  exact ⟨false, rfl, ⟨(fun h => by cases h), fun h => absurd h HP.out⟩, HF.out⟩
                ·have da : decide ((tb[j]).a < 0) = false := decide_eq_false qa
                 by_cases qb : now < (tb[j]).a
                 ·have HP : Hid (¬ R) := fun h => by have := (HX.out h).1.2.2; omega
                  have db : decide (now < (tb[j]).a) = true := decide_eq_true qb
                  have HXB : Hid (∀ V, TK w w.heap.size wr.heap.size ⟨now, hor, oa, op, oc, ua, us, uc, sa, su, sc, some ⟨b, off, none⟩, tb, tc⟩ tb[j] V → V.cell? ⟨w.heap.size, 0, none⟩ = some (.int .i64 now) ∧ V.cell? ⟨w.heap.size, 5, none⟩ = some (.slice (some ⟨b, off, none⟩) tb.length tc) ∧ V.cell? ⟨wr.heap.size, 0, none⟩ = some (.string (tb[j]).u) ∧ V.cell? ⟨wr.heap.size, 1, none⟩ = some (.int .i64 (tb[j]).a)) := fun V h => by
                   obtain ⟨k0, k1, k2, k3, k4, k5⟩ := h.s.cells
                   exact ⟨k0, k5, (pcell2 h.t).1, (pcell2 h.t).2⟩
                  have Q1 := K1
                  have HQF := Lib.hid (fun V (q : TK w w.heap.size wr.heap.size ⟨now, hor, oa, op, oc, ua, us, uc, sa, su, sc, some ⟨b, off, none⟩, tb, tc⟩ tb[j] V) => q.s)
                  clear HNT HCT HX HLW K1 HALL HTS HN qa qb
                  generalize tb[j] = y at *
                  generalize nameB y.u = nb at *
                  subst hn
                  go_wp2_with fail
                  refine wp_region_held_drew (S := (fun V => V.cell? ⟨w.heap.size, 0, none⟩ = some (.int .i64 now) ∧ V.cell? ⟨w.heap.size, 5, none⟩ = some (.slice (some ⟨b, off, none⟩) tb.length tc) ∧ V.cell? ⟨wr.heap.size, 0, none⟩ = some (.string y.u) ∧ V.cell? ⟨wr.heap.size, 1, none⟩ = some (.int .i64 y.a))) (by kernel_rfl) ?_ (fun hHeld => ?_)
                  ·exact HXB.out _ Q1
                  refine tV 0 145 ?_
                  refine tV 1 146 ?_
                  refine wpAnyH_ready (rs := [2]) (by kernel_rfl) (by simp) ?_
                  refine AllReadyH.cons (o := ⟨some 147, _, _, _, _, _⟩) rfl (fun K hK => ?_) AllReadyH.nil
                  go_simp
                  refine (HNJ.out _).mono ?_
                  rintro e w3 ⟨rfl, rfl⟩
                  go_wp2_with fail
                  refine hK.out _ _ ?_ (fun hH2 => ?_)
                  ·exact HXB.out _ Q1
                  clear hK K
                  (try simp only [Act.put, List.setIfInBounds_toArray, List.set_cons_zero, List.set_cons_succ])
                  refine tV 3 148 ?_
                  refine tV 4 149 ?_
                  refine tV 5 150 ?_
                  refine tV 6 151 ?_
                  refine tV 7 152 ?_
                  refine tV 8 153 ?_
                  refine tV 9 154 ?_
                  refine tV 10 155 ?_
                  refine tV 11 156 ?_
                  refine tV 12 157 ?_
                  refine tV 13 158 ?_
                  refine tV 14 159 ?_
                  refine tV 15 160 ?_
                  refine tV 16 161 ?_
                  refine tU 17 162 ?_
                  refine tU 18 163 ?_
                  refine tU 19 164 ?_
                  refine tU 20 165 ?_
                  refine tU 21 166 ?_
                  refine tU 22 167 ?_
                  refine tU 23 168 ?_
                  refine tU 24 169 ?_
                  refine tU 25 170 ?_
                  refine tU 26 171 ?_
                  refine tU 27 172 ?_
                  refine tU 28 173 ?_
                  refine tU 29 174 ?_
                  refine tU 30 175 ?_
                  refine tU 31 176 ?_
                  refine tV 32 177 ?_
                  refine wpAnyH_done (by kernel_rfl) ?_ _
                  all_goals
                   have HF := Lib.hid (HQF.out _ Q1).frame
                   clear HNJ HXB Q1 HQF
                   go_wp2
                   go_ret
                   exact ⟨false, rfl, ⟨(fun h => by cases h), fun h => absurd h HP.out⟩, HF.out⟩
                 ·have db : decide (now < (tb[j]).a) = false := decide_eq_false qb
                  by_cases hj0 : 0 < j
                  ·skip
                   obtain ⟨i, hi⟩ : ∃ i, i + 1 = j := ⟨j - 1, by omega⟩
                   have hil : i < tb.length := by omega
                   have HC := Lib.hid (fun V => HCT.out i j hil hjl V)
                   have hpj : IntKind.i64.wrap ((j : Int) - 1) = (i : Int) := by rw [IntWalk.i64_in] <;> omega
                   have hdj : decide ((0 : Int) < (j : Int)) = true := decide_eq_true (by omega)
                   have hdj2 : decide (0 < j) = true := decide_eq_true hj0
                   have hiI : (i : Int) < (tb.length : Int) := by omega
                   have hi0 : (0 : Int) ≤ (i : Int) := by omega
                   have eij : tb[j - 1]'(by omega) = tb[i] := by congr 1; omega
                   have HY2 : Hid (cmpS (tb[i]).u (tb[j]).u < 0 → TbOk now tb j hjl) := fun h => ⟨⟨hn, by omega, by omega⟩, fun _ => by rw [eij]; exact h⟩
                   have HY3 : Hid (¬ cmpS (tb[i]).u (tb[j]).u < 0 → ¬ R) := fun h q => h (by have := (HX.out q).2 hj0; rw [eij] at this; exact this)
                   have HXB : Hid (∀ V, TK w w.heap.size wr.heap.size ⟨now, hor, oa, op, oc, ua, us, uc, sa, su, sc, some ⟨b, off, none⟩, tb, tc⟩ tb[j] V → V.cell? ⟨w.heap.size, 0, none⟩ = some (.int .i64 now) ∧ V.cell? ⟨w.heap.size, 5, none⟩ = some (.slice (some ⟨b, off, none⟩) tb.length tc) ∧ V.cell? ⟨wr.heap.size, 0, none⟩ = some (.string (tb[j]).u) ∧ V.cell? ⟨wr.heap.size, 1, none⟩ = some (.int .i64 (tb[j]).a) ∧ V.cell? ⟨b, off + i * 2, none⟩ = some (.string (tb[i]).u)) := fun V h => by
                    obtain ⟨k0, k1, k2, k3, k4, k5⟩ := h.s.cells
                    obtain ⟨b', off', e1, -, p0, -⟩ := h.s.at_.tb.get hil
                    cases e1
                    exact ⟨k0, k5, (pcell2 h.t).1, (pcell2 h.t).2, p0⟩
                   have Q1 := K1
                   have HQF := Lib.hid (fun V (q : TK w w.heap.size wr.heap.size ⟨now, hor, oa, op, oc, ua, us, uc, sa, su, sc, some ⟨b, off, none⟩, tb, tc⟩ tb[j] V) => q.s)
                   clear HNT HCT HX eij HLW hi hj0 K1 HALL HTS
                   generalize tb[j] = y at *
                   generalize tb[i] = z at *
                   generalize cmpS z.u y.u = q at *
                   generalize nameB y.u = nb at *
                   subst hn
                   by_cases hq : q < 0
                   ·have HN2 := Lib.hid (HN.out (HY2.out hq))
                    have dq : decide (0 ≤ q) = false := decide_eq_false (by omega)
                    clear HY2 HY3 HN hq
                    go_wp2_with fail
                    go_region_held3 (fun V => V.cell? ⟨w.heap.size, 0, none⟩ = some (.int .i64 now) ∧ V.cell? ⟨w.heap.size, 5, none⟩ = some (.slice (some ⟨b, off, none⟩) tb.length tc) ∧ V.cell? ⟨wr.heap.size, 0, none⟩ = some (.string y.u) ∧ V.cell? ⟨wr.heap.size, 1, none⟩ = some (.int .i64 y.a) ∧ V.cell? ⟨b, off + i * 2, none⟩ = some (.string z.u))
                     (first | with_reducible exact HXB.out _ Q3 | with_reducible exact HXB.out _ Q1)
                     (first | (go_at_call 69; refine (HC.out _).mono ?_; rintro e w5 ⟨rfl, h5⟩; have Q3 := Q1.below h5) | (go_at_call 36; refine (HNJ.out _).mono ?_; rintro e w3 ⟨rfl, rfl⟩))
                    all_goals
                     have HS3 := Lib.hid (HQF.out _ Q3)
                     clear HC HNJ HXB Q1 Q3 HQF
                     go_wp2
                     go_roundw
                     case rel => exact ⟨j + 1, by omega, by go_num, HN2.out, HS3.out⟩
                     case measure => simp [intOf]; omega
                   ·have HP := Lib.hid (HY3.out hq)
                    have dq : decide (0 ≤ q) = true := decide_eq_true (by omega)
                    clear HY2 HY3 HN hq
                    go_wp2_with fail
                    go_region_held3 (fun V => V.cell? ⟨w.heap.size, 0, none⟩ = some (.int .i64 now) ∧ V.cell? ⟨w.heap.size, 5, none⟩ = some (.slice (some ⟨b, off, none⟩) tb.length tc) ∧ V.cell? ⟨wr.heap.size, 0, none⟩ = some (.string y.u) ∧ V.cell? ⟨wr.heap.size, 1, none⟩ = some (.int .i64 y.a) ∧ V.cell? ⟨b, off + i * 2, none⟩ = some (.string z.u))
                     (first | with_reducible exact HXB.out _ Q3 | with_reducible exact HXB.out _ Q1)
                     (first | (go_at_call 69; refine (HC.out _).mono ?_; rintro e w5 ⟨rfl, h5⟩; have Q3 := Q1.below h5) | (go_at_call 36; refine (HNJ.out _).mono ?_; rintro e w3 ⟨rfl, rfl⟩))
                    all_goals
                     have HF := Lib.hid (HQF.out _ Q3).frame
                     clear HC HNJ HXB Q1 Q3 HQF
                     go_wp2
                     go_ret
                     exact ⟨false, rfl, ⟨(fun h => by cases h), fun h => absurd h HP.out⟩, HF.out⟩
                  ·skip
                   have HN2 := Lib.hid (HN.out ⟨⟨hn, by omega, by omega⟩, fun h => absurd h hj0⟩)
                   have hdj : decide ((0 : Int) < (j : Int)) = false := decide_eq_false (by omega)
                   have hdj2 : decide (0 < j) = false := decide_eq_false hj0
                   have HXB : Hid (∀ V, TK w w.heap.size wr.heap.size ⟨now, hor, oa, op, oc, ua, us, uc, sa, su, sc, some ⟨b, off, none⟩, tb, tc⟩ tb[j] V → V.cell? ⟨w.heap.size, 0, none⟩ = some (.int .i64 now) ∧ V.cell? ⟨w.heap.size, 5, none⟩ = some (.slice (some ⟨b, off, none⟩) tb.length tc) ∧ V.cell? ⟨wr.heap.size, 0, none⟩ = some (.string (tb[j]).u) ∧ V.cell? ⟨wr.heap.size, 1, none⟩ = some (.int .i64 (tb[j]).a)) := fun V h => by
                    obtain ⟨k0, k1, k2, k3, k4, k5⟩ := h.s.cells
                    exact ⟨k0, k5, (pcell2 h.t).1, (pcell2 h.t).2⟩
                   have Q1 := K1
                   have HQF := Lib.hid (fun V (q : TK w w.heap.size wr.heap.size ⟨now, hor, oa, op, oc, ua, us, uc, sa, su, sc, some ⟨b, off, none⟩, tb, tc⟩ tb[j] V) => q.s)
                   clear HNT HCT HX HLW K1 HALL HTS HN hj0
                   generalize tb[j] = y at *
                   generalize nameB y.u = nb at *
                   subst hn
                   go_wp2_with fail
                   refine wp_region_held_drew (S := (fun V => V.cell? ⟨w.heap.size, 0, none⟩ = some (.int .i64 now) ∧ V.cell? ⟨w.heap.size, 5, none⟩ = some (.slice (some ⟨b, off, none⟩) tb.length tc) ∧ V.cell? ⟨wr.heap.size, 0, none⟩ = some (.string y.u) ∧ V.cell? ⟨wr.heap.size, 1, none⟩ = some (.int .i64 y.a))) (by kernel_rfl) ?_ (fun hHeld => ?_)
                   ·exact HXB.out _ Q1
                   refine tV 0 145 ?_
                   refine tV 1 146 ?_
                   refine wpAnyH_ready (rs := [2]) (by kernel_rfl) (by simp) ?_
                   refine AllReadyH.cons (o := ⟨some 147, _, _, _, _, _⟩) rfl (fun K hK => ?_) AllReadyH.nil
                   go_simp
                   refine (HNJ.out _).mono ?_
                   rintro e w3 ⟨rfl, rfl⟩
                   go_wp2_with fail
                   refine hK.out _ _ ?_ (fun hH2 => ?_)
                   ·exact HXB.out _ Q1
                   clear hK K
                   (try simp only [Act.put, List.setIfInBounds_toArray, List.set_cons_zero, List.set_cons_succ])
                   refine tV 3 148 ?_
                   refine tV 4 149 ?_
                   refine tV 5 150 ?_
                   refine tV 6 151 ?_
                   refine tV 7 152 ?_
                   refine tV 8 153 ?_
                   refine tV 9 154 ?_
                   refine tV 10 155 ?_
                   refine tV 11 156 ?_
                   refine tV 12 157 ?_
                   refine tV 13 158 ?_
                   refine tV 14 159 ?_
                   refine tV 15 160 ?_
                   refine tV 16 161 ?_
                   refine tV 17 162 ?_
                   refine tV 18 163 ?_
                   refine tV 19 164 ?_
                   refine tU 20 165 ?_
                   refine tU 21 166 ?_
                   refine tU 22 167 ?_
                   refine tU 23 168 ?_
                   refine tU 24 169 ?_
                   refine tU 25 170 ?_
                   refine tU 26 171 ?_
                   refine tU 27 172 ?_
                   refine tU 28 173 ?_
                   refine tU 29 174 ?_
                   refine tU 30 175 ?_
                   refine tV 31 176 ?_
                   refine tV 32 177 ?_
                   refine wpAnyH_done (by kernel_rfl) ?_ _
                   all_goals
                    have HS3 := Lib.hid (HQF.out _ Q1)
                    clear HNJ HXB Q1 HQF
                    go_wp2
                    go_roundw
                    case rel => exact ⟨j + 1, by omega, by go_num, HN2.out, HS3.out⟩
                    case measure => simp [intOf]; omega
               ·have HP : Hid (¬ R) := fun h => hn (HX.out h).1.1
                have hn2 : nameB (tb[j]).u = false := Bool.eq_false_iff.2 hn
                have HXB : Hid (∀ V, TK w w.heap.size wr.heap.size ⟨now, hor, oa, op, oc, ua, us, uc, sa, su, sc, some ⟨b, off, none⟩, tb, tc⟩ tb[j] V → V.cell? ⟨w.heap.size, 0, none⟩ = some (.int .i64 now) ∧ V.cell? ⟨w.heap.size, 5, none⟩ = some (.slice (some ⟨b, off, none⟩) tb.length tc) ∧ V.cell? ⟨wr.heap.size, 0, none⟩ = some (.string (tb[j]).u) ∧ V.cell? ⟨wr.heap.size, 1, none⟩ = some (.int .i64 (tb[j]).a)) := fun V h => by
                 obtain ⟨k0, k1, k2, k3, k4, k5⟩ := h.s.cells
                 exact ⟨k0, k5, (pcell2 h.t).1, (pcell2 h.t).2⟩
                have Q1 := K1
                have HQF := Lib.hid (fun V (q : TK w w.heap.size wr.heap.size ⟨now, hor, oa, op, oc, ua, us, uc, sa, su, sc, some ⟨b, off, none⟩, tb, tc⟩ tb[j] V) => q.s)
                clear HNT HCT HX HLW K1 HALL HTS HN hn
                generalize tb[j] = y at *
                generalize nameB y.u = nb at *
                subst hn2
                go_wp2_with fail
                refine wp_region_held_drew (S := (fun V => V.cell? ⟨w.heap.size, 0, none⟩ = some (.int .i64 now) ∧ V.cell? ⟨w.heap.size, 5, none⟩ = some (.slice (some ⟨b, off, none⟩) tb.length tc) ∧ V.cell? ⟨wr.heap.size, 0, none⟩ = some (.string y.u) ∧ V.cell? ⟨wr.heap.size, 1, none⟩ = some (.int .i64 y.a))) (by kernel_rfl) ?_ (fun hHeld => ?_)
                ·exact HXB.out _ Q1
                refine tV 0 145 ?_
                refine tV 1 146 ?_
                refine wpAnyH_ready (rs := [2]) (by kernel_rfl) (by simp) ?_
                refine AllReadyH.cons (o := ⟨some 147, _, _, _, _, _⟩) rfl (fun K hK => ?_) AllReadyH.nil
                go_simp
                refine (HNJ.out _).mono ?_
                rintro e w3 ⟨rfl, rfl⟩
                go_wp2_with fail
                refine hK.out _ _ ?_ (fun hH2 => ?_)
                ·exact HXB.out _ Q1
                clear hK K
                (try simp only [Act.put, List.setIfInBounds_toArray, List.set_cons_zero, List.set_cons_succ])
                refine tV 3 148 ?_
                refine tV 4 149 ?_
                refine tU 5 150 ?_
                refine tU 6 151 ?_
                refine tU 7 152 ?_
                refine tV 8 153 ?_
                refine tV 9 154 ?_
                refine tU 10 155 ?_
                refine tU 11 156 ?_
                refine tU 12 157 ?_
                refine tU 13 158 ?_
                refine tU 14 159 ?_
                refine tV 15 160 ?_
                refine tV 16 161 ?_
                refine tU 17 162 ?_
                refine tU 18 163 ?_
                refine tU 19 164 ?_
                refine tU 20 165 ?_
                refine tU 21 166 ?_
                refine tU 22 167 ?_
                refine tU 23 168 ?_
                refine tU 24 169 ?_
                refine tU 25 170 ?_
                refine tU 26 171 ?_
                refine tU 27 172 ?_
                refine tU 28 173 ?_
                refine tU 29 174 ?_
                refine tU 30 175 ?_
                refine tU 31 176 ?_
                refine tV 32 177 ?_
                refine wpAnyH_done (by kernel_rfl) ?_ _
                all_goals
                 have HF := Lib.hid (HQF.out _ Q1).frame
                 clear HNJ HXB Q1 HQF
                 go_wp2
                 go_ret
                 exact ⟨false, rfl, ⟨(fun h => by cases h), fun h => absurd h HP.out⟩, HF.out⟩
              ·obtain rfl : j = tb.length := by omega
               have HR : Hid R := HALL.out HQ.out.1 HQ.out.2 HR1.out HR2.out HF1.out HF2.out HF3.out (fun i h => HLW.out i h h)
               have HF := Lib.hid HS.out.frame
               clear HLW HALL HTS HNT HCT HS
               go_wp2
               go_ret
               exact ⟨true, rfl, ⟨fun _ => HR.out, fun _ => rfl⟩, HF.out⟩
      ·have HP : Hid (¬ R) := fun h => hre (HNW.out h).2.2.2.1
       have dre : decide (RiseE su) = false := decide_eq_false hre
       have HF := Lib.hid HS2.out.frame
       clear HS2 HNR HSY HCM HNT HCT HALL HUS HTS HNW hre
       generalize decide (RiseE su) = bre at *
       subst dre
       go_wp2
       go_ret
       exact ⟨false, rfl, ⟨(fun h => by cases h), fun h => absurd h HP.out⟩, HF.out⟩
     ·have HP : Hid (¬ R) := fun h => hro (HNW.out h).2.2.1
      have dro : decide (RiseO op) = false := decide_eq_false hro
      have HF := Lib.hid HS1.out.frame
      clear HS1 HRE HNR HSY HCM HNT HCT HALL HUS HTS HNW hro
      generalize decide (RiseO op) = bro at *
      subst dro
      go_wp2
      go_ret
      exact ⟨false, rfl, ⟨(fun h => by cases h), fun h => absurd h HP.out⟩, HF.out⟩
end Go.Proofs.YtapacckmgmdnoaaGreat
