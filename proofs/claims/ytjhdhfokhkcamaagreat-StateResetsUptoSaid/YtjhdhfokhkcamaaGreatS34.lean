/- Texts of mine, one behind the other, of each what is wanted. -/
import Derived.Test.YtjhdhfokhkcamaaGreatS00
import Derived.Test.YtjhdhfokhkcamaaGreatShelf
import Derived.Test.YtjhdhfokhkcamaaGreatRows
import Derived.Test.YtjhdhfokhkcamaaGreatS01
import Derived.Test.YtjhdhfokhkcamaaGreatS02
import Derived.Test.YtjhdhfokhkcamaaGreatS03
import Derived.Test.YtjhdhfokhkcamaaGreatS06
import Derived.Test.YtjhdhfokhkcamaaGreatS07
import Derived.Test.YtjhdhfokhkcamaaGreatS08
import Derived.Test.YtjhdhfokhkcamaaGreatS09
import Derived.Test.YtjhdhfokhkcamaaGreatS11
import Derived.Test.YtjhdhfokhkcamaaGreatS13
import Derived.Test.YtjhdhfokhkcamaaGreatS14
import Derived.Test.YtjhdhfokhkcamaaGreatS17
import Derived.Test.YtjhdhfokhkcamaaGreatS32
namespace Go.Proofs.YtjhdhfokhkcamaaGreat
open Go.RowKit Go.Proofs
set_option linter.unusedVariables false
set_option maxRecDepth 100000
theorem umS_snoc (E : List UsL) (y : UsL) : umS (E ++ [y]) = umS E ++ [y.m] := by unfold umS; rw [List.map_append]; rfl
theorem rcmp11 (a b : ByteArray) (w : World) (ha : a.size ≤ maxLen) (hb : b.size ≤ maxLen) :
  Calls Tryz.prog 39 #[.string a, .string b] w fun e w' => e = .returned (.int .i64 (cmpS a b)) ∧ Below w.heap.size w w' :=
 (refCmp_any a b w ha hb).mono fun e w' ⟨h1, h2⟩ => ⟨h1, Drew.below h2 _⟩
structure PutU (w : World) (u : ByteArray) (m : List UsM) (D E : List UsL) (j : Nat) (done : Bool) (v : Value) (W : World) : Prop where
 own : W.ownsRow w.heap.size 77 2 v E.length (usv E)
 ins : InsAt UsM.u u m (umS D) j done (umS E)
 at_ : ∀ y ∈ E, UsAt w y
 frame : Below w.heap.size w W
theorem PutU.len {w W : World} {u : ByteArray} {m : List UsM} {D E : List UsL} {j : Nat} {done : Bool} {v : Value} (h : PutU w u m D E j done v W) (hm : m.length ≤ 1) : E.length ≤ j + 1 := by
 have := h.ins.len
 rw [umS_len] at this
 omega
theorem own_user {w W W' : World} {E : List UsL} {v v' : Value} {y : UsL} (ho : W.ownsRow w.heap.size 77 2 v E.length (usv E)) (hf : Below w.heap.size w W) (h : W'.ownsRow w.heap.size 77 2 v' (E.length + 1) (usv E ++ [.string y.u, .slice y.a y.l.length y.c])) (hg : W.grownBy W' v.ownBlock) :
  W'.ownsRow w.heap.size 77 2 v' (E ++ [y]).length (usv (E ++ [y])) ∧ Below w.heap.size w W' :=
 ⟨by rw [usv_snoc, List.length_append]; exact h, app_below hf hf.size ho hg⟩
set_option maxHeartbeats 8000000 in
theorem rput_any (a : Option Addr) (c : Nat) (D : List UsL) (u : ByteArray) (sa : Option Addr) (sc : Nat) (l : List StM) (w : World) (hD : UsSl w a D) (hp : UsAt w ⟨u, sa, l, sc⟩) (hk : RiseK UsM.u (umS D)) (hl : D.length ≤ 1000) (hu : u.size ≤ maxLen) (hs : ∀ y ∈ D, y.u.size ≤ maxLen) :
  Calls Tryz.prog 52 #[.slice a D.length c, .string u, .slice sa l.length sc] w fun e w' => ∃ x q L, e = .returned (.slice x L.length q) ∧ UsSl w' x L ∧ Cp x L.length q ∧ umS L = putU (umS D) u l ∧ Below w.heap.size w w' := by
 obtain ⟨i0, hi, hz0, hz1, hz2⟩ := info_parts infoUsR
 obtain ⟨m, hm⟩ : ∃ m, m = rowU u l := ⟨_, rfl⟩
 have hm1 : m.length ≤ 1 := by rw [hm]; unfold rowU; split <;> simp
 have hmf : l ≠ [] → m = [⟨u, l⟩] := fun h => by rw [hm]; unfold rowU; simp [h]
 have hme : l = [] → m = [] := fun h => by rw [hm]; unfold rowU; simp [h]
 obtain ⟨d0, hd0⟩ : ∃ d0, d0 = decide (l.length = 0) := ⟨_, rfl⟩
 have HST : Hid (InsAt UsM.u u m (umS D) 0 d0 []) := InsAt.start fun h => hme (by rw [hd0, decide_eq_true_iff] at h; exact List.eq_nil_of_length_eq_zero h)
 have HDF : Hid (d0 = false → m = [⟨u, l⟩]) := fun h => hmf (by rw [hd0, decide_eq_false_iff_not] at h; intro e; rw [e] at h; exact h rfl)
 have HEND : Hid (∀ E : List UsL, InsAt UsM.u u m (umS D) D.length true (umS E) → umS E = putU (umS D) u l) := fun E h => by
  rw [← umS_len] at h
  rw [h.done, hm]
  rfl
 have HMIS : Hid (∀ E : List UsL, m = [⟨u, l⟩] → InsAt UsM.u u m (umS D) D.length false (umS E) → umS (E ++ [⟨u, sa, l, sc⟩]) = putU (umS D) u l) := fun E h2 h => by
  rw [← umS_len] at h
  have h1 := h.miss
  rw [umS_snoc]
  rw [h2] at h1
  rw [show (⟨u, sa, l, sc⟩ : UsL).m = ⟨u, l⟩ from rfl, h1, ← h2, hm]
  rfl
 have HD := Lib.hid hD
 have HP := Lib.hid hp
 have HK := Lib.hid hk
 have HSZ := Lib.hid hs
 have HC := Lib.hid (fun (b : ByteArray) V (hb : b.size ≤ maxLen) => rcmp11 u b V hu hb)
 have HM1 := Lib.hid hm1
 clear hm1 hmf hme hm hD hp hk hs
 go_enter Tryz.func52, Tryz.ntmps52
 go_wp2
 go_loopw [7, 8, 9] (fun v dn iv wr => ∃ (j : Nat) (done : Bool) (E : List UsL), j ≤ D.length ∧ iv = .int .i64 j ∧ dn = .bool done ∧ Hid (PutU w u m D E j done v wr) ∧ Hid (done = false → m = [⟨u, l⟩])) (fun _ _ iv _ => D.length - (intOf iv).toNat)
 case atStart => exact ⟨0, d0, [], by omega, rfl, (by rw [hd0]; congr 1; rw [Bool.eq_iff_iff]; simp), ⟨⟨rfl, .inl ⟨rfl, rfl⟩⟩, HST.out, (fun y h => by cases h), Below.refl _ _⟩, HDF.out⟩
 case round =>
  clear HST HDF hd0
  obtain ⟨j, done, E, hj, rfl, rfl, HG, HMD⟩ := hrel
  by_cases hjl : j < D.length
  ·have hjm : j < (umS D).length := by rw [umS_len]; exact hjl
   have hkey : UsM.u ((umS D)[j]) = (D[j]).u := by simp [umS, UsL.m]
   have hel : (umS D)[j] = (D[j]).m := by simp [umS]
   have hlen := HG.out.len HM1.out
   obtain ⟨b, off, rfl, hbl, r0, r1, -⟩ := (HD.out.below HG.out.frame).get hjl
   have HYA := Lib.hid (HD.out.at_ _ (List.getElem_mem hjl))
   have HC1 := Lib.hid (HC.out (D[j]).u wr (HSZ.out _ (List.getElem_mem hjl)))
   have HROW : Hid (∀ V, Below w.heap.size w V → V.cell? ⟨b, off + j * 2, none⟩ = some (.string (D[j]).u) ∧ V.cell? ⟨b, off + j * 2 + 1, none⟩ = some (.slice (D[j]).a (D[j]).l.length (D[j]).c)) := fun V q => by
    obtain ⟨b', off', e, -, k0, k1, -⟩ := (HD.out.below q).get hjl
    cases e
    exact ⟨k0, k1⟩
   have HSAM : Hid (done = true → (D[j]).u = u → InsAt UsM.u u m (umS D) (j + 1) true (umS E)) := fun h1 h2 => by subst h1; exact HG.out.ins.same hjm (hkey.trans h2)
   have HBEL : Hid (cmpS (D[j]).u u < 0 → InsAt UsM.u u m (umS D) (j + 1) done (umS (E ++ [D[j]]))) := fun h => by rw [umS_snoc, ← hel]; exact HG.out.ins.below HK.out hjm (by rw [hkey]; exact h)
   have HABV : Hid (done = true → cmpS u (D[j]).u < 0 → InsAt UsM.u u m (umS D) (j + 1) true (umS (E ++ [D[j]]))) := fun h1 h => by subst h1; rw [umS_snoc, ← hel]; exact HG.out.ins.above hjm (by rw [hkey]; exact h)
   have HLAY : Hid (done = false → ¬ cmpS (D[j]).u u < 0 → ((D[j]).u = u → InsAt UsM.u u m (umS D) (j + 1) true (umS (E ++ [⟨u, sa, l, sc⟩]))) ∧ (cmpS u (D[j]).u < 0 → InsAt UsM.u u m (umS D) (j + 1) true (umS ((E ++ [⟨u, sa, l, sc⟩]) ++ [D[j]])))) := fun h1 h => by
    have hm2 := HMD.out h1
    subst h1
    have h3 := HG.out.ins.lay HK.out hjm (by rw [hkey]; exact h)
    rw [hkey, hel] at h3
    rw [umS_snoc, umS_snoc, umS_snoc, show (⟨u, sa, l, sc⟩ : UsL).m = ⟨u, l⟩ from rfl]
    rw [show m = [⟨u, l⟩] from hm2] at h3 ⊢
    exact h3
   have htri := cmpS_tri (D[j]).u u
   have hirr := @cmpS_irr u
   have hasy : cmpS (D[j]).u u < 0 → ¬ cmpS u (D[j]).u < 0 := cmpS_asym
   have hasy2 : cmpS u (D[j]).u < 0 → ¬ cmpS (D[j]).u u < 0 := cmpS_asym
   have hne1 : cmpS (D[j]).u u < 0 → (D[j]).u ≠ u := cmpS_ne
   have hne2 : cmpS u (D[j]).u < 0 → (D[j]).u ≠ u := fun h e => cmpS_ne h e.symm
   have hpos : cmpS (D[j]).u u < 0 → 0 < cmpS u (D[j]).u := fun h => by rw [cmpS_neg]; omega
   have hzero : (D[j]).u = u → cmpS u (D[j]).u = 0 := fun h => by rw [h]; exact cmpS_self _
   clear hjm hkey hel HC HSZ HD HK r0 r1
   generalize D[j] = y at *
   cases done
   ·rcases htri with h | h | h
    ·have HN := Lib.hid (HBEL.out h)
     have heq := txt_ne (hne1 h)
     have hp := hpos h
     clear HSAM HBEL HABV HLAY hirr hasy hasy2 hne1 hne2 hpos hzero h
     generalize cmpS u y.u = cv at *
     obtain ⟨k0, k1⟩ := HROW.out _ HG.out.frame
     go_wp2_with fail
     refine HC1.out.mono ?_
     rintro e w1 ⟨rfl, h1⟩
     have HG1 := Lib.hid (own_below HG.out.own h1)
     have HF1 := Lib.hid (HG.out.frame.trans (h1.mono HG.out.frame.size))
     have HA1 : Hid (∀ z ∈ E ++ [y], UsAt w z) := fun z hz => by
      rcases List.mem_append.1 hz with h | h
      ·exact HG.out.at_ z h
      ·rw [List.mem_singleton.1 h]; exact HYA.out
     clear k0 k1
     obtain ⟨k0, k1⟩ := HROW.out _ HF1.out
     clear HG h1 HC1 HYA
     go_wp2_with (at_builtin; refine wpList_append_own _ rfl (.tmp 61) (.tmp 66) 23 rfl w.heap.size 77 i0 _ 2 40 Tryz.underlying23 hi hz0 hz1 hz2 rfl (by decide) _ _ _ rfl (own_below HG1.out (below_one _ (.cells #[.string y.u, .slice y.a y.l.length y.c] 77))) ⟨(w1).heap.size, 0, none⟩ 1 1 [.string y.u, .slice y.a y.l.length y.c] rfl rfl (news_at _ _ _ _ rfl) (by intro u hu; simp at hu; rcases hu with rfl | rfl <;> rfl) (by unfold maxLen; omega) (by omega) (Nat.le_trans HF1.out.size (below_one _ _).size) ?_; intro v2 w2 hown2 hgrow2 hiff2; obtain ⟨o2, f2⟩ := own_user (y := y) (own_below HG1.out (below_one _ (.cells #[.string y.u, .slice y.a y.l.length y.c] 77))) (HF1.out.trans ((below_one _ _).mono HF1.out.size)) hown2 hgrow2)
     have HG2 : Hid (PutU w u m D (E ++ [y]) (j + 1) false v2 w2) := ⟨o2, HN.out, HA1.out, f2⟩
     clear hown2 hgrow2 hiff2 o2 f2 HG1 HF1 HA1 HN
     go_wp2
     go_roundw
     case rel => exact ⟨j + 1, false, E ++ [y], by omega, by go_num, rfl, HG2.out, fun _ => HMD.out (by trivial)⟩
     case measure => simp [intOf]; omega
    ·have HN := Lib.hid ((HLAY.out rfl (by rw [h]; exact hirr)).1 h)
     have hp := hzero h
     clear HSAM HBEL HABV HLAY hirr hasy hasy2 hne1 hne2 hpos hzero
     generalize cmpS u y.u = cv at *
     subst hp
     subst h
     have he1 := txt_eq y.u
     obtain ⟨k0, k1⟩ := HROW.out _ HG.out.frame
     go_wp2_with fail
     refine HC1.out.mono ?_
     rintro e w1 ⟨rfl, h1⟩
     have HG1 := Lib.hid (own_below HG.out.own h1)
     have HF1 := Lib.hid (HG.out.frame.trans (h1.mono HG.out.frame.size))
     have HA1 : Hid (∀ z ∈ E ++ [(⟨y.u, sa, l, sc⟩ : UsL)], UsAt w z) := fun z hz => by
      rcases List.mem_append.1 hz with h | h
      ·exact HG.out.at_ z h
      ·rw [List.mem_singleton.1 h]; exact HP.out
     clear k0 k1
     obtain ⟨k0, k1⟩ := HROW.out _ HF1.out
     clear HG h1 HC1 HYA
     go_wp2_with (at_builtin; refine wpList_append_own _ rfl (.tmp 48) (.tmp 52) 23 rfl w.heap.size 77 i0 _ 2 40 Tryz.underlying23 hi hz0 hz1 hz2 rfl (by decide) _ _ _ rfl (own_below HG1.out (below_one _ (.cells #[.string y.u, .slice sa l.length sc] 77))) ⟨(w1).heap.size, 0, none⟩ 1 1 [.string y.u, .slice sa l.length sc] rfl rfl (news_at _ _ _ _ rfl) (by intro u hu; simp at hu; rcases hu with rfl | rfl <;> rfl) (by unfold maxLen; omega) (by omega) (Nat.le_trans HF1.out.size (below_one _ _).size) ?_; intro v2 w2 hown2 hgrow2 hiff2; obtain ⟨o2, f2⟩ := own_user (y := (⟨y.u, sa, l, sc⟩ : UsL)) (own_below HG1.out (below_one _ (.cells #[.string y.u, .slice sa l.length sc] 77))) (HF1.out.trans ((below_one _ _).mono HF1.out.size)) hown2 hgrow2)
     have HG2 : Hid (PutU w y.u m D (E ++ [(⟨y.u, sa, l, sc⟩ : UsL)]) (j + 1) true v2 w2) := ⟨o2, HN.out, HA1.out, f2⟩
     obtain ⟨k0, k1⟩ := HROW.out _ f2
     clear hown2 hgrow2 hiff2 o2 f2 HG1 HF1 HA1 HN HROW
     go_wp2
     go_roundw
     case rel => exact ⟨j + 1, true, _, by omega, by go_num, rfl, HG2.out, (fun h => by cases h)⟩
     case measure => simp [intOf]; omega
    ·have HN := Lib.hid ((HLAY.out rfl (hasy2 h)).2 h)
     have heq := txt_ne (hne2 h)
     have hp := h
     clear HSAM HBEL HABV HLAY hirr hasy hasy2 hne1 hne2 hpos hzero h
     generalize cmpS u y.u = cv at *
     have HYB := Lib.hid HYA.out
     obtain ⟨k0, k1⟩ := HROW.out _ HG.out.frame
     go_wp2_with fail
     refine HC1.out.mono ?_
     rintro e w1 ⟨rfl, h1⟩
     have HG1 := Lib.hid (own_below HG.out.own h1)
     have HF1 := Lib.hid (HG.out.frame.trans (h1.mono HG.out.frame.size))
     have HA1 : Hid (∀ z ∈ E ++ [(⟨u, sa, l, sc⟩ : UsL)], UsAt w z) := fun z hz => by
      rcases List.mem_append.1 hz with h | h
      ·exact HG.out.at_ z h
      ·rw [List.mem_singleton.1 h]; exact HP.out
     clear k0 k1
     obtain ⟨k0, k1⟩ := HROW.out _ HF1.out
     clear HG h1 HC1 HYA
     go_wp2_with (first | (at_builtin; refine wpList_append_own _ rfl (.tmp 31) (.tmp 35) 23 rfl w.heap.size 77 i0 _ 2 40 Tryz.underlying23 hi hz0 hz1 hz2 rfl (by decide) _ _ _ rfl (own_below HG1.out (below_one _ (.cells #[.string u, .slice sa l.length sc] 77))) ⟨(w1).heap.size, 0, none⟩ 1 1 [.string u, .slice sa l.length sc] rfl rfl (news_at _ _ _ _ rfl) (by intro u hu; simp at hu; rcases hu with rfl | rfl <;> rfl) (by unfold maxLen; omega) (by omega) (Nat.le_trans HF1.out.size (below_one _ _).size) ?_; intro v2 w2 hown2 hgrow2 hiff2; obtain ⟨o2, f2⟩ := own_user (y := (⟨u, sa, l, sc⟩ : UsL)) (own_below HG1.out (below_one _ (.cells #[.string u, .slice sa l.length sc] 77))) (HF1.out.trans ((below_one _ _).mono HF1.out.size)) hown2 hgrow2; have G2 := Lib.hid o2; have F2 := Lib.hid f2; obtain ⟨m0, m1⟩ := HROW.out _ f2; clear hown2 hgrow2 hiff2 o2 f2 k0 k1; have hEl : (E ++ [(⟨u, sa, l, sc⟩ : UsL)]).length ≤ j + 2 := (by rw [List.length_append, List.length_singleton]; omega)) | (at_builtin; refine wpList_append_own _ rfl (.tmp 61) (.tmp 66) 23 rfl w.heap.size 77 i0 _ 2 40 Tryz.underlying23 hi hz0 hz1 hz2 rfl (by decide) _ _ _ rfl (own_below G2.out (below_one _ (.cells #[.string y.u, .slice y.a y.l.length y.c] 77))) ⟨(w2).heap.size, 0, none⟩ 1 1 [.string y.u, .slice y.a y.l.length y.c] rfl rfl (news_at _ _ _ _ rfl) (by intro u hu; simp at hu; rcases hu with rfl | rfl <;> rfl) (by unfold maxLen; omega) (by omega) (Nat.le_trans F2.out.size (below_one _ _).size) ?_; intro v3 w3 hown3 hgrow3 hiff3; obtain ⟨o3, f3⟩ := own_user (y := y) (own_below G2.out (below_one _ (.cells #[.string y.u, .slice y.a y.l.length y.c] 77))) (F2.out.trans ((below_one _ _).mono F2.out.size)) hown3 hgrow3))
     have HG2 : Hid (PutU w u m D ((E ++ [(⟨u, sa, l, sc⟩ : UsL)]) ++ [y]) (j + 1) true v3 w3) := ⟨o3, HN.out, (fun z hz => by
      rcases List.mem_append.1 hz with h | h
      ·exact HA1.out z h
      ·rw [List.mem_singleton.1 h]; exact HYB.out), f3⟩
     clear hown3 hgrow3 hiff3 o3 f3 HG1 HF1 HA1 HN HROW G2 F2
     go_wp2
     go_roundw
     case rel => exact ⟨j + 1, true, _, by omega, by go_num, rfl, HG2.out, (fun h => by cases h)⟩
     case measure => simp [intOf]; omega
   ·by_cases he : y.u = u
    ·have HN := Lib.hid (HSAM.out rfl he)
     have HG2 := Lib.hid (PutU.mk HG.out.own HN.out HG.out.at_ HG.out.frame)
     obtain ⟨k0, k1⟩ := HROW.out _ HG.out.frame
     clear HSAM HBEL HABV HLAY HC1 HG HN HROW hirr hasy hasy2 hne1 hne2 hpos hzero htri HYA
     subst he
     have he1 := txt_eq y.u
     go_wp2
     go_roundw
     case rel => exact ⟨j + 1, true, E, by omega, by go_num, rfl, HG2.out, HMD.out⟩
     case measure => simp [intOf]; omega
    ·have HN : Hid (InsAt UsM.u u m (umS D) (j + 1) true (umS (E ++ [y]))) := by
      rcases htri with h | h | h
      ·exact HBEL.out h
      ·exact absurd h he
      ·exact HABV.out rfl h
     have heq := txt_ne he
     have HG1 := Lib.hid HG.out.own
     have HF1 := Lib.hid HG.out.frame
     have HA1 : Hid (∀ z ∈ E ++ [y], UsAt w z) := fun z hz => by
      rcases List.mem_append.1 hz with h | h
      ·exact HG.out.at_ z h
      ·rw [List.mem_singleton.1 h]; exact HYA.out
     obtain ⟨k0, k1⟩ := HROW.out _ HG.out.frame
     clear HSAM HBEL HABV HLAY HC1 HG HROW hirr hasy hasy2 hne1 hne2 hpos hzero htri HYA he
     go_wp2_with (at_builtin; refine wpList_append_own _ rfl (.tmp 61) (.tmp 66) 23 rfl w.heap.size 77 i0 _ 2 40 Tryz.underlying23 hi hz0 hz1 hz2 rfl (by decide) _ _ _ rfl (own_below HG1.out (below_one _ (.cells #[.string y.u, .slice y.a y.l.length y.c] 77))) ⟨(wr).heap.size, 0, none⟩ 1 1 [.string y.u, .slice y.a y.l.length y.c] rfl rfl (news_at _ _ _ _ rfl) (by intro u hu; simp at hu; rcases hu with rfl | rfl <;> rfl) (by unfold maxLen; omega) (by omega) (Nat.le_trans HF1.out.size (below_one _ _).size) ?_; intro v2 w2 hown2 hgrow2 hiff2; obtain ⟨o2, f2⟩ := own_user (y := y) (own_below HG1.out (below_one _ (.cells #[.string y.u, .slice y.a y.l.length y.c] 77))) (HF1.out.trans ((below_one _ _).mono HF1.out.size)) hown2 hgrow2)
     have HG2 : Hid (PutU w u m D (E ++ [y]) (j + 1) true v2 w2) := ⟨o2, HN.out, HA1.out, f2⟩
     clear hown2 hgrow2 hiff2 o2 f2 HG1 HF1 HA1 HN
     go_wp2
     go_roundw
     case rel => exact ⟨j + 1, true, E ++ [y], by omega, by go_num, rfl, HG2.out, HMD.out⟩
     case measure => simp [intOf]; omega
  ·obtain rfl : j = D.length := by omega
   have hlen := HG.out.len HM1.out
   cases done
   ·have HX := Lib.hid (HMIS.out E (HMD.out rfl) HG.out.ins)
    have HG1 := Lib.hid HG.out.own
    have HF1 := Lib.hid HG.out.frame
    have HA1 : Hid (∀ z ∈ E ++ [(⟨u, sa, l, sc⟩ : UsL)], UsAt w z) := fun z hz => by
     rcases List.mem_append.1 hz with h | h
     ·exact HG.out.at_ z h
     ·rw [List.mem_singleton.1 h]; exact HP.out
    clear HG HMIS HEND HMD HP HC
    go_wp2_with (at_builtin; refine wpList_append_own _ rfl (.tmp 70) (.tmp 74) 23 rfl w.heap.size 77 i0 _ 2 40 Tryz.underlying23 hi hz0 hz1 hz2 rfl (by decide) _ _ _ rfl (own_below HG1.out (below_one _ (.cells #[.string u, .slice sa l.length sc] 77))) ⟨(wr).heap.size, 0, none⟩ 1 1 [.string u, .slice sa l.length sc] rfl rfl (news_at _ _ _ _ rfl) (by intro u hu; simp at hu; rcases hu with rfl | rfl <;> rfl) (by unfold maxLen; omega) (by omega) (Nat.le_trans HF1.out.size (below_one _ _).size) ?_; intro v2 w2 hown2 hgrow2 hiff2; obtain ⟨o2, f2⟩ := own_user (y := (⟨u, sa, l, sc⟩ : UsL)) (own_below HG1.out (below_one _ (.cells #[.string u, .slice sa l.length sc] 77))) (HF1.out.trans ((below_one _ _).mono HF1.out.size)) hown2 hgrow2)
    obtain ⟨xu, qu, rfl, hlu, hmu, hru, hnu⟩ := own_us o2
    have HU := Lib.hid (show UsSl w2 xu (E ++ [(⟨u, sa, l, sc⟩ : UsL)]) from ⟨hru, fun z hz => (HA1.out z hz).below f2⟩)
    have HF2 := Lib.hid f2
    have HCP := Lib.hid (Cp.mk hlu hmu hnu)
    clear hown2 hgrow2 hiff2 o2 f2 HG1 HF1 HA1 hru
    go_wp2
    go_ret
    exact ⟨xu, qu, _, rfl, HU.out, HCP.out, HX.out, HF2.out⟩
   ·have HX := Lib.hid (HEND.out E HG.out.ins)
    obtain ⟨xu, qu, rfl, hlu, hmu, hru, hnu⟩ := own_us HG.out.own
    have HU := Lib.hid (show UsSl wr xu E from ⟨hru, fun z hz => (HG.out.at_ z hz).below HG.out.frame⟩)
    have HF2 := Lib.hid HG.out.frame
    have HCP := Lib.hid (Cp.mk hlu hmu hnu)
    clear HG HMIS HEND HMD HP HC hru
    go_wp2
    go_ret
    exact ⟨xu, qu, _, rfl, HU.out, HCP.out, HX.out, HF2.out⟩
end Go.Proofs.YtjhdhfokhkcamaaGreat
