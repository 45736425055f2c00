/- Texts of mine, one behind the other, of each what is wanted. -/
import Derived.Test.YtjhdhfokhkcamaaGreatQ00
import Derived.Test.YtjhdhfokhkcamaaGreatShelf
import Derived.Test.YtjhdhfokhkcamaaGreatRows
import Derived.Test.YtjhdhfokhkcamaaGreatQ01
import Derived.Test.YtjhdhfokhkcamaaGreatQ02
import Derived.Test.YtjhdhfokhkcamaaGreatQ05
import Derived.Test.YtjhdhfokhkcamaaGreatQ06
import Derived.Test.YtjhdhfokhkcamaaGreatQ07
import Derived.Test.YtjhdhfokhkcamaaGreatQ09
import Derived.Test.YtjhdhfokhkcamaaGreatQ10
import Derived.Test.YtjhdhfokhkcamaaGreatQ11
import Derived.Test.YtjhdhfokhkcamaaGreatQ13
import Derived.Test.YtjhdhfokhkcamaaGreatQ14
import Derived.Test.YtjhdhfokhkcamaaGreatQ18
import Derived.Test.YtjhdhfokhkcamaaGreatQ28
import Derived.Test.YtjhdhfokhkcamaaGreatQ33
import Derived.Test.YtjhdhfokhkcamaaGreatQ34
import Derived.Test.YtjhdhfokhkcamaaGreatQ35
import Derived.Test.YtjhdhfokhkcamaaGreatQ37
namespace Go.Proofs.YtjhdhfokhkcamaaGreat
open Go.RowKit Go.Proofs
set_option linter.unusedVariables false
set_option maxRecDepth 100000
theorem tbv_snoc (D : List TbM) (y : TbM) : tbv (D ++ [y]) = tbv D ++ [.string y.u, .int .i64 y.a] := by
 unfold tbv
 rw [List.map_append]
 exact pps_snoc _ _
structure PutT (w : World) (u : ByteArray) (m D E : List TbM) (j : Nat) (done : Bool) (v : Value) (W : World) : Prop where
 own : W.ownsRow w.heap.size 69 2 v E.length (tbv E)
 ins : InsAt TbM.u u m D j done E
 frame : Below w.heap.size w W
theorem own_tomb {w W W' : World} {E : List TbM} {v v' : Value} {y : TbM} (ho : W.ownsRow w.heap.size 69 2 v E.length (tbv E)) (hf : Below w.heap.size w W) (h : W'.ownsRow w.heap.size 69 2 v' (E.length + 1) (tbv E ++ [.string y.u, .int .i64 y.a])) (hg : W.grownBy W' v.ownBlock) :
  W'.ownsRow w.heap.size 69 2 v' (E ++ [y]).length (tbv (E ++ [y])) ∧ Below w.heap.size w W' :=
 ⟨by rw [tbv_snoc, List.length_append]; exact h, app_below hf hf.size ho hg⟩
set_option maxHeartbeats 8000000 in
theorem rtombs_any (a : Option Addr) (c : Nat) (D : List TbM) (u : ByteArray) (n : Int) (w : World) (hD : TbSl w a D) (hk : RiseK TbM.u D) (hl : D.length ≤ 1000) (hu : u.size ≤ maxLen) (hs : ∀ y ∈ D, y.u.size ≤ maxLen) :
  Calls Tryz.prog 53 #[.slice a D.length c, .string u, .int .i64 n] w fun e w' => ∃ x q, e = .returned (.slice x (tombU D u n).length q) ∧ TbSl w' x (tombU D u n) ∧ Cp x (tombU D u n).length q ∧ Below w.heap.size w w' := by
 obtain ⟨i0, hi, hz0, hz1, hz2⟩ := info_parts infoTbR
 have HST : Hid (InsAt TbM.u u [⟨u, n⟩] D 0 false []) := InsAt.start fun h => by cases h
 have HEND : Hid (∀ E : List TbM, InsAt TbM.u u [⟨u, n⟩] D D.length true E → E = tombU D u n) := fun E h => h.done
 have HMIS : Hid (∀ E : List TbM, InsAt TbM.u u [⟨u, n⟩] D D.length false E → E ++ [⟨u, n⟩] = tombU D u n) := fun E h => h.miss
 have HD := Lib.hid hD
 have HK := Lib.hid hk
 have HSZ := Lib.hid hs
 have HC := Lib.hid (fun (b : ByteArray) V (hb : b.size ≤ maxLen) => rcmp11 u b V hu hb)
 clear hD hk hs
 go_enter Tryz.func53, Tryz.ntmps53
 go_wp2
 go_loopw [7, 8, 9] (fun v dn iv wr => ∃ (j : Nat) (done : Bool) (E : List TbM), j ≤ D.length ∧ iv = .int .i64 j ∧ dn = .bool done ∧ Hid (PutT w u [⟨u, n⟩] D E j done v wr)) (fun _ _ iv _ => D.length - (intOf iv).toNat)
 case atStart => exact ⟨0, false, [], by omega, rfl, rfl, ⟨⟨rfl, .inl ⟨rfl, rfl⟩⟩, HST.out, Below.refl _ _⟩⟩
 case round =>
  clear HST
  obtain ⟨j, done, E, hj, rfl, rfl, HG⟩ := hrel
  have hlen : E.length ≤ j + 1 := HG.out.ins.len
  by_cases hjl : j < D.length
  ·obtain ⟨b, off, rfl, hbl, r0, r1⟩ := (HD.out.below HG.out.frame).get hjl
   have HC1 := Lib.hid (HC.out (D[j]).u wr (HSZ.out _ (List.getElem_mem hjl)))
   have HROW : Hid (∀ V, Below w.heap.size w V → V.cell? ⟨b, off + j * 2, none⟩ = some (.string (D[j]).u) ∧ V.cell? ⟨b, off + j * 2 + 1, none⟩ = some (.int .i64 (D[j]).a)) := fun V q => by
    obtain ⟨b', off', e, -, k0, k1⟩ := (HD.out.below q).get hjl
    cases e
    exact ⟨k0, k1⟩
   have HSAM : Hid (done = true → (D[j]).u = u → InsAt TbM.u u [⟨u, n⟩] D (j + 1) true E) := fun h1 h2 => by subst h1; exact HG.out.ins.same hjl h2
   have HBEL : Hid (cmpS (D[j]).u u < 0 → InsAt TbM.u u [⟨u, n⟩] D (j + 1) done (E ++ [D[j]])) := fun h => HG.out.ins.below HK.out hjl h
   have HABV : Hid (done = true → cmpS u (D[j]).u < 0 → InsAt TbM.u u [⟨u, n⟩] D (j + 1) true (E ++ [D[j]])) := fun h1 h => by subst h1; exact HG.out.ins.above hjl h
   have HLAY : Hid (done = false → ¬ cmpS (D[j]).u u < 0 → ((D[j]).u = u → InsAt TbM.u u [⟨u, n⟩] D (j + 1) true (E ++ [⟨u, n⟩])) ∧ (cmpS u (D[j]).u < 0 → InsAt TbM.u u [⟨u, n⟩] D (j + 1) true ((E ++ [⟨u, n⟩]) ++ [D[j]]))) := fun h1 h => by
    subst h1
    exact HG.out.ins.lay HK.out hjl h
   have htri := cmpS_tri (D[j]).u u
   have hirr := @cmpS_irr u
   have hasy2 : cmpS u (D[j]).u < 0 → ¬ cmpS (D[j]).u u < 0 := cmpS_asym
   have hne1 : cmpS (D[j]).u u < 0 → (D[j]).u ≠ u := cmpS_ne
   have hne2 : cmpS u (D[j]).u < 0 → (D[j]).u ≠ u := fun h e => cmpS_ne h e.symm
   have hpos : cmpS (D[j]).u u < 0 → 0 < cmpS u (D[j]).u := fun h => by rw [cmpS_neg]; omega
   have hzero : (D[j]).u = u → cmpS u (D[j]).u = 0 := fun h => by rw [h]; exact cmpS_self _
   clear HC HSZ HD HK r0 r1 HEND HMIS
   generalize D[j] = y at *
   cases done
   ·rcases htri with h | h | h
    ·have HN := Lib.hid (HBEL.out h)
     have heq := txt_ne (hne1 h)
     have hp := hpos h
     clear HSAM HBEL HABV HLAY hirr hasy2 hne1 hne2 hpos hzero h
     generalize cmpS u y.u = cv at *
     obtain ⟨k0, k1⟩ := HROW.out _ HG.out.frame
     go_wp2_with fail
     refine HC1.out.mono ?_
     rintro e w1 ⟨rfl, h1⟩
     have HG1 := Lib.hid (own_below HG.out.own h1)
     have HF1 := Lib.hid (HG.out.frame.trans (h1.mono HG.out.frame.size))
     clear k0 k1
     obtain ⟨k0, k1⟩ := HROW.out _ HF1.out
     clear HG h1 HC1
     go_wp2_with (at_builtin; refine wpList_append_own _ rfl (.tmp 41) (.tmp 46) 25 rfl w.heap.size 69 i0 _ 2 24 Tryz.underlying25 hi hz0 hz1 hz2 rfl (by decide) _ _ _ rfl (own_below HG1.out (below_one _ (.cells #[.string y.u, .int .i64 y.a] 69))) ⟨(w1).heap.size, 0, none⟩ 1 1 [.string y.u, .int .i64 y.a] rfl rfl (news_at _ _ _ _ rfl) (by intro u hu; simp at hu; rcases hu with rfl | rfl <;> rfl) (by unfold maxLen; omega) (by omega) (Nat.le_trans HF1.out.size (below_one _ _).size) ?_; intro v2 w2 hown2 hgrow2 hiff2; obtain ⟨o2, f2⟩ := own_tomb (y := y) (own_below HG1.out (below_one _ (.cells #[.string y.u, .int .i64 y.a] 69))) (HF1.out.trans ((below_one _ _).mono HF1.out.size)) hown2 hgrow2)
     have HG2 : Hid (PutT w u [⟨u, n⟩] D (E ++ [y]) (j + 1) false v2 w2) := ⟨o2, HN.out, f2⟩
     clear hown2 hgrow2 hiff2 o2 f2 HG1 HF1 HN
     go_wp2
     go_roundw
     case rel => exact ⟨j + 1, false, E ++ [y], by omega, by go_num, rfl, HG2.out⟩
     case measure => simp [intOf]; omega
    ·have HN := Lib.hid ((HLAY.out rfl (by rw [h]; exact hirr)).1 h)
     have hp := hzero h
     clear HSAM HBEL HABV HLAY hirr hasy2 hne1 hne2 hpos hzero
     generalize cmpS u y.u = cv at *
     subst hp
     subst h
     have he1 := txt_eq y.u
     obtain ⟨k0, k1⟩ := HROW.out _ HG.out.frame
     go_wp2_with fail
     refine HC1.out.mono ?_
     rintro e w1 ⟨rfl, h1⟩
     have HG1 := Lib.hid (own_below HG.out.own h1)
     have HF1 := Lib.hid (HG.out.frame.trans (h1.mono HG.out.frame.size))
     clear k0 k1
     obtain ⟨k0, k1⟩ := HROW.out _ HF1.out
     clear HG h1 HC1
     go_wp2_with (at_builtin; refine wpList_append_own _ rfl (.tmp 28) (.tmp 32) 25 rfl w.heap.size 69 i0 _ 2 24 Tryz.underlying25 hi hz0 hz1 hz2 rfl (by decide) _ _ _ rfl (own_below HG1.out (below_one _ (.cells #[.string y.u, .int .i64 n] 69))) ⟨(w1).heap.size, 0, none⟩ 1 1 [.string y.u, .int .i64 n] rfl rfl (news_at _ _ _ _ rfl) (by intro u hu; simp at hu; rcases hu with rfl | rfl <;> rfl) (by unfold maxLen; omega) (by omega) (Nat.le_trans HF1.out.size (below_one _ _).size) ?_; intro v2 w2 hown2 hgrow2 hiff2; obtain ⟨o2, f2⟩ := own_tomb (y := (⟨y.u, n⟩ : TbM)) (own_below HG1.out (below_one _ (.cells #[.string y.u, .int .i64 n] 69))) (HF1.out.trans ((below_one _ _).mono HF1.out.size)) hown2 hgrow2; obtain ⟨m0, m1⟩ := HROW.out _ f2; clear k0 k1)
     have HG2 : Hid (PutT w y.u [⟨y.u, n⟩] D (E ++ [⟨y.u, n⟩]) (j + 1) true v2 w2) := ⟨o2, HN.out, f2⟩
     clear hown2 hgrow2 hiff2 o2 f2 HG1 HF1 HN HROW
     go_wp2
     go_roundw
     case rel => exact ⟨j + 1, true, _, by omega, by go_num, rfl, HG2.out⟩
     case measure => simp [intOf]; omega
    ·have HN := Lib.hid ((HLAY.out rfl (hasy2 h)).2 h)
     have heq := txt_ne (hne2 h)
     have hp := h
     clear HSAM HBEL HABV HLAY hirr hasy2 hne1 hne2 hpos hzero h
     generalize cmpS u y.u = cv at *
     obtain ⟨k0, k1⟩ := HROW.out _ HG.out.frame
     go_wp2_with fail
     refine HC1.out.mono ?_
     rintro e w1 ⟨rfl, h1⟩
     have HG1 := Lib.hid (own_below HG.out.own h1)
     have HF1 := Lib.hid (HG.out.frame.trans (h1.mono HG.out.frame.size))
     clear k0 k1
     obtain ⟨k0, k1⟩ := HROW.out _ HF1.out
     clear HG h1 HC1
     go_wp2_with (first | (at_builtin; refine wpList_append_own _ rfl (.tmp 28) (.tmp 32) 25 rfl w.heap.size 69 i0 _ 2 24 Tryz.underlying25 hi hz0 hz1 hz2 rfl (by decide) _ _ _ rfl (own_below HG1.out (below_one _ (.cells #[.string u, .int .i64 n] 69))) ⟨(w1).heap.size, 0, none⟩ 1 1 [.string u, .int .i64 n] rfl rfl (news_at _ _ _ _ rfl) (by intro u hu; simp at hu; rcases hu with rfl | rfl <;> rfl) (by unfold maxLen; omega) (by omega) (Nat.le_trans HF1.out.size (below_one _ _).size) ?_; intro v2 w2 hown2 hgrow2 hiff2; obtain ⟨o2, f2⟩ := own_tomb (y := (⟨u, n⟩ : TbM)) (own_below HG1.out (below_one _ (.cells #[.string u, .int .i64 n] 69))) (HF1.out.trans ((below_one _ _).mono HF1.out.size)) hown2 hgrow2; have G2 := Lib.hid o2; have F2 := Lib.hid f2; obtain ⟨m0, m1⟩ := HROW.out _ f2; clear hown2 hgrow2 hiff2 o2 f2 k0 k1; have hEl : (E ++ [(⟨u, n⟩ : TbM)]).length ≤ j + 2 := (by rw [List.length_append, List.length_singleton]; omega)) | (at_builtin; refine wpList_append_own _ rfl (.tmp 41) (.tmp 46) 25 rfl w.heap.size 69 i0 _ 2 24 Tryz.underlying25 hi hz0 hz1 hz2 rfl (by decide) _ _ _ rfl (own_below G2.out (below_one _ (.cells #[.string y.u, .int .i64 y.a] 69))) ⟨(w2).heap.size, 0, none⟩ 1 1 [.string y.u, .int .i64 y.a] rfl rfl (news_at _ _ _ _ rfl) (by intro u hu; simp at hu; rcases hu with rfl | rfl <;> rfl) (by unfold maxLen; omega) (by omega) (Nat.le_trans F2.out.size (below_one _ _).size) ?_; intro v3 w3 hown3 hgrow3 hiff3; obtain ⟨o3, f3⟩ := own_tomb (y := y) (own_below G2.out (below_one _ (.cells #[.string y.u, .int .i64 y.a] 69))) (F2.out.trans ((below_one _ _).mono F2.out.size)) hown3 hgrow3))
     have HG2 : Hid (PutT w u [⟨u, n⟩] D ((E ++ [(⟨u, n⟩ : TbM)]) ++ [y]) (j + 1) true v3 w3) := ⟨o3, HN.out, f3⟩
     clear hown3 hgrow3 hiff3 o3 f3 HG1 HF1 HN HROW G2 F2
     go_wp2
     go_roundw
     case rel => exact ⟨j + 1, true, _, by omega, by go_num, rfl, HG2.out⟩
     case measure => simp [intOf]; omega
   ·by_cases he : y.u = u
    ·have HN := Lib.hid (HSAM.out rfl he)
     have HG2 := Lib.hid (PutT.mk HG.out.own HN.out HG.out.frame)
     obtain ⟨k0, k1⟩ := HROW.out _ HG.out.frame
     clear HSAM HBEL HABV HLAY HC1 HG HN HROW hirr hasy2 hne1 hne2 hpos hzero htri
     subst he
     have he1 := txt_eq y.u
     go_wp2
     go_roundw
     case rel => exact ⟨j + 1, true, E, by omega, by go_num, rfl, HG2.out⟩
     case measure => simp [intOf]; omega
    ·have HN : Hid (InsAt TbM.u u [⟨u, n⟩] D (j + 1) true (E ++ [y])) := by
      rcases htri with h | h | h
      ·exact HBEL.out h
      ·exact absurd h he
      ·exact HABV.out rfl h
     have heq := txt_ne he
     have HG1 := Lib.hid HG.out.own
     have HF1 := Lib.hid HG.out.frame
     obtain ⟨k0, k1⟩ := HROW.out _ HG.out.frame
     clear HSAM HBEL HABV HLAY HC1 HG HROW hirr hasy2 hne1 hne2 hpos hzero htri he
     go_wp2_with (at_builtin; refine wpList_append_own _ rfl (.tmp 41) (.tmp 46) 25 rfl w.heap.size 69 i0 _ 2 24 Tryz.underlying25 hi hz0 hz1 hz2 rfl (by decide) _ _ _ rfl (own_below HG1.out (below_one _ (.cells #[.string y.u, .int .i64 y.a] 69))) ⟨(wr).heap.size, 0, none⟩ 1 1 [.string y.u, .int .i64 y.a] rfl rfl (news_at _ _ _ _ rfl) (by intro u hu; simp at hu; rcases hu with rfl | rfl <;> rfl) (by unfold maxLen; omega) (by omega) (Nat.le_trans HF1.out.size (below_one _ _).size) ?_; intro v2 w2 hown2 hgrow2 hiff2; obtain ⟨o2, f2⟩ := own_tomb (y := y) (own_below HG1.out (below_one _ (.cells #[.string y.u, .int .i64 y.a] 69))) (HF1.out.trans ((below_one _ _).mono HF1.out.size)) hown2 hgrow2)
     have HG2 : Hid (PutT w u [⟨u, n⟩] D (E ++ [y]) (j + 1) true v2 w2) := ⟨o2, HN.out, f2⟩
     clear hown2 hgrow2 hiff2 o2 f2 HG1 HF1 HN
     go_wp2
     go_roundw
     case rel => exact ⟨j + 1, true, E ++ [y], by omega, by go_num, rfl, HG2.out⟩
     case measure => simp [intOf]; omega
  ·obtain rfl : j = D.length := by omega
   cases done
   ·have HX := Lib.hid (HMIS.out E HG.out.ins)
    have HG1 := Lib.hid HG.out.own
    have HF1 := Lib.hid HG.out.frame
    clear HG HMIS HEND HC
    go_wp2_with (at_builtin; refine wpList_append_own _ rfl (.tmp 50) (.tmp 54) 25 rfl w.heap.size 69 i0 _ 2 24 Tryz.underlying25 hi hz0 hz1 hz2 rfl (by decide) _ _ _ rfl (own_below HG1.out (below_one _ (.cells #[.string u, .int .i64 n] 69))) ⟨(wr).heap.size, 0, none⟩ 1 1 [.string u, .int .i64 n] rfl rfl (news_at _ _ _ _ rfl) (by intro u hu; simp at hu; rcases hu with rfl | rfl <;> rfl) (by unfold maxLen; omega) (by omega) (Nat.le_trans HF1.out.size (below_one _ _).size) ?_; intro v2 w2 hown2 hgrow2 hiff2; obtain ⟨o2, f2⟩ := own_tomb (y := (⟨u, n⟩ : TbM)) (own_below HG1.out (below_one _ (.cells #[.string u, .int .i64 n] 69))) (HF1.out.trans ((below_one _ _).mono HF1.out.size)) hown2 hgrow2)
    obtain ⟨xu, qu, rfl, hlu, hmu, hru, hnu⟩ := own_tb o2
    have HU := Lib.hid hru
    have HF2 := Lib.hid f2
    have HCP := Lib.hid (Cp.mk hlu hmu hnu)
    clear hown2 hgrow2 hiff2 o2 f2 HG1 HF1 hru
    rw [HX.out] at HU HCP
    have HLE := Lib.hid (congrArg List.length HX.out)
    go_wp2
    go_ret
    exact ⟨xu, qu, by rw [← HLE.out]; rfl, HU.out, HCP.out, HF2.out⟩
   ·have HX := Lib.hid (HEND.out E HG.out.ins)
    obtain ⟨xu, qu, rfl, hlu, hmu, hru, hnu⟩ := own_tb HG.out.own
    have HU := Lib.hid hru
    have HF2 := Lib.hid HG.out.frame
    have HCP := Lib.hid (Cp.mk hlu hmu hnu)
    clear HG HMIS HEND HC hru
    rw [HX.out] at HU HCP
    have HLE := Lib.hid (congrArg List.length HX.out)
    go_wp2
    go_ret
    exact ⟨xu, qu, by rw [← HLE.out]; rfl, HU.out, HCP.out, HF2.out⟩
set_option maxHeartbeats 8000000 in
theorem rap4 (x : SaL) (a n st : Int) (u o : ByteArray) (w : World) (h : SaAt w x) (hf : Few x.m 400) (hk : RiseK UsM.u (umS x.us)) (ht : RiseK TbM.u x.tb) (hz : SzS x.m) (hu : u.size ≤ maxLen) (ho : o.size ≤ maxLen) (hv : RightV 4 a n st u o) (hle : ¬ a < x.now) :
  Calls Tryz.prog 17 #[saV x, evV ⟨4, a, u, o, n, st⟩] w (Tells w (tellS x.m 4 a n st u o) (errS x.m 4 a n st u o)) := by
 obtain ⟨HK, HE, HZ⟩ := three_SB h ⟨4, a, u, o, n, st⟩ 27 29 27
 have HR := Lib.hid (fun V => evrefRight_any ⟨4, a, u, o, n, st⟩ ⟨hu, ho⟩ V)
 rw [(rightE_iff 4 a n st u o).2 hv] at HR
 have hus : ∀ y ∈ x.us, y.u.size ≤ maxLen := fun y hy => hz.us y.m (List.mem_map_of_mem hy)
 obtain ⟨hes, htg, htz⟩ := tellS_ok hv (show ¬ a < x.m.now from hle)
 rw [hes]
 obtain ⟨now, hor, oa, op, oc, ua, us, uc, sa, su, sc, ta, tb, tc⟩ := x
 have HCL := Lib.hid (fun V (h : EnSl V sa su) => e_rgrant2 sa sc su u o a V h (fun e he => hz.su e he) hu ho HK.at_.sc (Nat.le_trans hf.su (by decide)))
 have HERR : Hid (errK (⟨now, hor, oa, op, oc, ua, us, uc, sa, su, sc, ta, tb, tc⟩ : SaL).m 4 a n st u o = (if su.any (infE u o) = true then 90 else 0)) := rfl
 generalize errK _ 4 a n st u o = er0 at *
 generalize tellS _ 4 a n st u o = R at *
 have HS := Lib.hid HK
 have HZZ := Lib.hid HZ
 have HEE := Lib.hid HE
 obtain ⟨c0, c1, c2, c3, c4, c5⟩ := HK.cells
 obtain ⟨⟨e0, e1, e2, e3, e4, e5⟩, -⟩ := cells6 HE.blk
 unfold saV evV saC at *
 dsimp only at *
 clear h hf HK HZ HE hv hus hk ht hz hu ho hes
 go_enter Tryz.func17, Tryz.ntmps17
 go_wp2_with fail
 refine (HR.out _).mono ?_
 rintro e w1 ⟨rfl, h1⟩
 have hbp := below_one w1 (.cells #[.string u, .string o] 96)
 have PB := pcell2 (heap_alloc_new w1 (.cells #[.string u, .string o] 96))
 have A0 := HS.out.below h1
 have E0 := HEE.out.below h1
 have A1 := A0.below hbp
 have B1 := (HZZ.out.below h1).below hbp
 have E1 := E0.below hbp
 clear c0 c1 c2 c3 c4 c5 e0 e1 e2 e3 e4 e5
 obtain ⟨b0, b1, b2, b3, b4, b5⟩ := A0.cells
 obtain ⟨⟨m0, m1, m2, m3, m4, m5⟩, -⟩ := cells6 E0.blk
 obtain ⟨c0, c1, c2, c3, c4, c5⟩ := A1.cells
 obtain ⟨⟨e0, e1, e2, e3, e4, e5⟩, -⟩ := cells6 E1.blk
 obtain ⟨p0, p1⟩ := PB
 have HS1 := Lib.hid A1
 have HZ1 := Lib.hid B1
 have HE1 := Lib.hid E1
 dsimp only at *
 clear HS HZZ HEE A0 E0 A1 B1 E1 hbp h1 HR
 go_wp2_with fail
 refine (HCL.out _ HS1.out.at_.su).mono ?_
 rintro e w2 ⟨x1, q1, m, er, rfl, i1, j1, k1, l1, h2⟩
 have hee : er = er0 := i1.trans HERR.out.symm
 subst hee
 have A2 := HS1.out.below h2
 have B2 := HZ1.out.below h2
 have E2 := HE1.out.below h2
 have A3 := A2.setSu rfl l1 k1
 have B3 := B2.far A2 (by omega) 4 (.slice x1 m.length q1)
 have E3 := E2.far (i := 4) (v := .slice x1 m.length q1) (show w.heap.size + 1 ≠ w.heap.size by omega)
 clear b0 b1 b2 b3 b4 b5 m0 m1 m2 m3 m4 m5 c0 c1 c2 c3 c4 c5 e0 e1 e2 e3 e4 e5 p0 p1
 obtain ⟨c0, c1, c2, c3, c4, c5⟩ := A2.cells
 obtain ⟨f0, f1, f2, f3, f4, f5⟩ := A2.free
 have hg2 := A2.lt
 have hone : er = 0 ∨ er = 90 := by rw [i1]; split <;> simp
 dsimp only at *
 clear A2 B2 E2 HS1 HZ1 HE1 h2 HCL l1 k1 i1 HERR
 by_cases he : er = 0
 ·have hR := htg he
  have hm := j1 he
  have hym : (⟨a, hor, oa, op, oc, ua, us, uc, x1, m, q1, ta, tb, tc⟩ : SaL).m = R := by rw [hR, hm]; rfl
  subst he
  clear htz htg hone j1 hm hR
  have A8 := A3.setNow a
  have B8 := B3.far A3 (by omega) 0 (.int .i64 a)
  have hfin := A8.finR B8
  obtain ⟨d0, d1, d2, d3, d4, d5⟩ := A8.cells
  obtain ⟨z0, z1, z2, z3, z4, z5⟩ := B8.cells
  obtain ⟨y0, y1, y2, y3, y4, y5⟩ := B8.free
  obtain ⟨g0, g1, g2, g3, g4, g5⟩ := A3.free
  obtain ⟨r0, r1, r2, r3, r4, r5⟩ := A3.cells
  obtain ⟨⟨e0, e1, e2, e3, e4, e5⟩, -⟩ := cells6 E3.blk
  have hzl := B8.lt
  have hgl := A3.lt
  have HL := Lib.hid hfin.1
  have HFN := Lib.hid (And.intro hfin.2.1 (And.intro hym hfin.2.2))
  unfold setS saV saC at HL
  (try unfold setS at *)
  unfold saO at z0 z1 z2 z3 z4 z5
  dsimp only at *
  clear A8 B8 hfin A3 B3 E3 hym
  go_wp2
  refine bodyPost_ret (v := .tuple #[saV ⟨a, hor, oa, op, oc, ua, us, uc, x1, m, q1, ta, tb, tc⟩, .int .i64 0]) ?_ rfl ⟨_, rfl, HFN.out⟩
  rw [results_cellT rfl]
  unfold saV saC
  simp [asAddr, Result.andThen, HL.out]
 ·clear j1
  have hfin := B3.finZR
  have hR := htz he
  subst hR
  obtain ⟨z0, z1, z2, z3, z4, z5⟩ := B3.cells
  obtain ⟨y0, y1, y2, y3, y4, y5⟩ := B3.free
  have hzl := B3.lt
  have HL := Lib.hid hfin.1
  have HFN := Lib.hid hfin.2
  (try unfold setS at *)
  unfold saO at z0 z1 z2 z3 z4 z5
  dsimp only at *
  clear hfin htz htg A3 B3 E3
  rcases hone with h9 | h9
  ·exact absurd h9 he
  clear he
  subst h9
  go_wp2
  refine bodyPost_ret (v := .tuple #[saV saO, .int .i64 _]) ?_ rfl ⟨_, rfl, HFN.out.1, rfl, HFN.out.2⟩
  rw [results_cellT rfl]
  unfold saV saC saO
  simp [asAddr, Result.andThen, HL.out]
set_option maxHeartbeats 8000000 in
theorem rap5 (x : SaL) (a n st : Int) (u o : ByteArray) (w : World) (h : SaAt w x) (hf : Few x.m 400) (hk : RiseK UsM.u (umS x.us)) (ht : RiseK TbM.u x.tb) (hz : SzS x.m) (hu : u.size ≤ maxLen) (ho : o.size ≤ maxLen) (hv : RightV 5 a n st u o) (hle : ¬ a < x.now) :
  Calls Tryz.prog 17 #[saV x, evV ⟨5, a, u, o, n, st⟩] w (Tells w (tellS x.m 5 a n st u o) (errS x.m 5 a n st u o)) := by
 obtain ⟨HK, HE, HZ⟩ := three_SB h ⟨5, a, u, o, n, st⟩ 27 29 27
 have HR := Lib.hid (fun V => evrefRight_any ⟨5, a, u, o, n, st⟩ ⟨hu, ho⟩ V)
 rw [(rightE_iff 5 a n st u o).2 hv] at HR
 have hus : ∀ y ∈ x.us, y.u.size ≤ maxLen := fun y hy => hz.us y.m (List.mem_map_of_mem hy)
 obtain ⟨hes, htg, htz⟩ := tellS_ok hv (show ¬ a < x.m.now from hle)
 rw [hes]
 obtain ⟨now, hor, oa, op, oc, ua, us, uc, sa, su, sc, ta, tb, tc⟩ := x
 have HCL := Lib.hid (fun V (h : EnSl V sa su) => e_rrevoke2 sa sc su u o a V h (Nat.le_trans hf.su (by decide)))
 have HERR : Hid (errK (⟨now, hor, oa, op, oc, ua, us, uc, sa, su, sc, ta, tb, tc⟩ : SaL).m 5 a n st u o = (if su.any (infE u o) = true then 0 else 91)) := rfl
 generalize errK _ 5 a n st u o = er0 at *
 generalize tellS _ 5 a n st u o = R at *
 have HS := Lib.hid HK
 have HZZ := Lib.hid HZ
 have HEE := Lib.hid HE
 obtain ⟨c0, c1, c2, c3, c4, c5⟩ := HK.cells
 obtain ⟨⟨e0, e1, e2, e3, e4, e5⟩, -⟩ := cells6 HE.blk
 unfold saV evV saC at *
 dsimp only at *
 clear h hf HK HZ HE hv hus hk ht hz hu ho hes
 go_enter Tryz.func17, Tryz.ntmps17
 go_wp2_with fail
 refine (HR.out _).mono ?_
 rintro e w1 ⟨rfl, h1⟩
 have hbp := below_one w1 (.cells #[.string u, .string o] 96)
 have PB := pcell2 (heap_alloc_new w1 (.cells #[.string u, .string o] 96))
 have A0 := HS.out.below h1
 have E0 := HEE.out.below h1
 have A1 := A0.below hbp
 have B1 := (HZZ.out.below h1).below hbp
 have E1 := E0.below hbp
 clear c0 c1 c2 c3 c4 c5 e0 e1 e2 e3 e4 e5
 obtain ⟨b0, b1, b2, b3, b4, b5⟩ := A0.cells
 obtain ⟨⟨m0, m1, m2, m3, m4, m5⟩, -⟩ := cells6 E0.blk
 obtain ⟨c0, c1, c2, c3, c4, c5⟩ := A1.cells
 obtain ⟨⟨e0, e1, e2, e3, e4, e5⟩, -⟩ := cells6 E1.blk
 obtain ⟨p0, p1⟩ := PB
 have HS1 := Lib.hid A1
 have HZ1 := Lib.hid B1
 have HE1 := Lib.hid E1
 dsimp only at *
 clear HS HZZ HEE A0 E0 A1 B1 E1 hbp h1 HR
 go_wp2_with fail
 refine (HCL.out _ HS1.out.at_.su).mono ?_
 rintro e w2 ⟨x1, q1, m, er, rfl, i1, j1, k1, l1, h2⟩
 have hee : er = er0 := i1.trans HERR.out.symm
 subst hee
 have A2 := HS1.out.below h2
 have B2 := HZ1.out.below h2
 have E2 := HE1.out.below h2
 have A3 := A2.setSu rfl l1 k1
 have B3 := B2.far A2 (by omega) 4 (.slice x1 m.length q1)
 have E3 := E2.far (i := 4) (v := .slice x1 m.length q1) (show w.heap.size + 1 ≠ w.heap.size by omega)
 clear b0 b1 b2 b3 b4 b5 m0 m1 m2 m3 m4 m5 c0 c1 c2 c3 c4 c5 e0 e1 e2 e3 e4 e5 p0 p1
 obtain ⟨c0, c1, c2, c3, c4, c5⟩ := A2.cells
 obtain ⟨f0, f1, f2, f3, f4, f5⟩ := A2.free
 have hg2 := A2.lt
 have hone : er = 0 ∨ er = 91 := by rw [i1]; split <;> simp
 dsimp only at *
 clear A2 B2 E2 HS1 HZ1 HE1 h2 HCL l1 k1 i1 HERR
 by_cases he : er = 0
 ·have hR := htg he
  have hm := j1 he
  have hym : (⟨a, hor, oa, op, oc, ua, us, uc, x1, m, q1, ta, tb, tc⟩ : SaL).m = R := by rw [hR, hm]; rfl
  subst he
  clear htz htg hone j1 hm hR
  have A8 := A3.setNow a
  have B8 := B3.far A3 (by omega) 0 (.int .i64 a)
  have hfin := A8.finR B8
  obtain ⟨d0, d1, d2, d3, d4, d5⟩ := A8.cells
  obtain ⟨z0, z1, z2, z3, z4, z5⟩ := B8.cells
  obtain ⟨y0, y1, y2, y3, y4, y5⟩ := B8.free
  obtain ⟨g0, g1, g2, g3, g4, g5⟩ := A3.free
  obtain ⟨r0, r1, r2, r3, r4, r5⟩ := A3.cells
  obtain ⟨⟨e0, e1, e2, e3, e4, e5⟩, -⟩ := cells6 E3.blk
  have hzl := B8.lt
  have hgl := A3.lt
  have HL := Lib.hid hfin.1
  have HFN := Lib.hid (And.intro hfin.2.1 (And.intro hym hfin.2.2))
  unfold setS saV saC at HL
  (try unfold setS at *)
  unfold saO at z0 z1 z2 z3 z4 z5
  dsimp only at *
  clear A8 B8 hfin A3 B3 E3 hym
  go_wp2
  refine bodyPost_ret (v := .tuple #[saV ⟨a, hor, oa, op, oc, ua, us, uc, x1, m, q1, ta, tb, tc⟩, .int .i64 0]) ?_ rfl ⟨_, rfl, HFN.out⟩
  rw [results_cellT rfl]
  unfold saV saC
  simp [asAddr, Result.andThen, HL.out]
 ·clear j1
  have hfin := B3.finZR
  have hR := htz he
  subst hR
  obtain ⟨z0, z1, z2, z3, z4, z5⟩ := B3.cells
  obtain ⟨y0, y1, y2, y3, y4, y5⟩ := B3.free
  have hzl := B3.lt
  have HL := Lib.hid hfin.1
  have HFN := Lib.hid hfin.2
  (try unfold setS at *)
  unfold saO at z0 z1 z2 z3 z4 z5
  dsimp only at *
  clear hfin htz htg A3 B3 E3
  rcases hone with h9 | h9
  ·exact absurd h9 he
  clear he
  subst h9
  go_wp2
  refine bodyPost_ret (v := .tuple #[saV saO, .int .i64 _]) ?_ rfl ⟨_, rfl, HFN.out.1, rfl, HFN.out.2⟩
  rw [results_cellT rfl]
  unfold saV saC saO
  simp [asAddr, Result.andThen, HL.out]
end Go.Proofs.YtjhdhfokhkcamaaGreat
