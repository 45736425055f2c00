/- FoldErased: events that were taken, and an erasure of a user behind them: the state is that of the events that do not bear it, and the erasure; and so it is with whatever comes behind; for all rows of events and all texts. No condition. -/
import Derived.JoinedCond
import Derived.Deep.RegionHeld3
import Derived.OrdersHeld
import Derived.Test.YtapacckmgmdnoaaGreatR00
import Derived.Test.YtapacckmgmdnoaaGreatRows
import Derived.Test.YtapacckmgmdnoaaGreatTQ
import Derived.Test.YtapacckmgmdnoaaGreatR01
import Derived.Test.YtapacckmgmdnoaaGreatR03
import Derived.Test.YtapacckmgmdnoaaGreatR04
import Derived.Test.YtapacckmgmdnoaaGreatR07
import Derived.Test.YtapacckmgmdnoaaGreatR14
import Derived.Test.YtapacckmgmdnoaaGreatR18
import Derived.Test.YtapacckmgmdnoaaGreatR19
import Derived.Test.YtapacckmgmdnoaaGreatR20
import Derived.Test.YtapacckmgmdnoaaGreatR26
import Derived.Test.YtapacckmgmdnoaaGreatR29
import Derived.Test.YtapacckmgmdnoaaGreatR30
import Derived.Test.YtapacckmgmdnoaaGreatR39
import Derived.Test.YtapacckmgmdnoaaGreatR42
import Derived.Test.YtapacckmgmdnoaaGreatR43
import Derived.Test.YtapacckmgmdnoaaGreatR44
import Derived.Test.YtapacckmgmdnoaaGreatR47
import Derived.Test.YtapacckmgmdnoaaGreatR48
namespace Go.Proofs.YtapacckmgmdnoaaGreat.foldErased
open Go.ChangeShapes Go.WideShapes Go.ChangeAt Go.RowKit Go.Proofs
open Go.ChangeMaps (open_string shut_string)
set_option linter.unusedVariables false
set_option maxRecDepth 100000

structure FdK (w : World) (a : Option Addr) (l : List EvM) (a2 : Option Addr) (m : List EvM) (W : World) : Prop where
 fs : SB w w.heap.size 39 saO W
 fl : EvSl W a l
 m : EvSl W a2 m
theorem FdK.below {w W W' : World} {a : Option Addr} {l : List EvM} {a2 : Option Addr} {m : List EvM} (h : FdK w a l a2 m W) (qB : Below W.heap.size W W') : FdK w a l a2 m W' := ⟨h.fs.below qB, h.fl.below qB, h.m.below qB⟩
theorem FdK.over {w T : World} {a : Option Addr} {l : List EvM} {a2 : Option Addr} {m : List EvM} {gz : Nat} {zz : SaL} (h : FdK w a l a2 m T) (hZ : SB w gz 39 saO T) (hy : SaAt T zz) (nfs : w.heap.size ≠ gz) : FdK w a l a2 m (setS T gz zz) ∧ SB w gz 39 zz (setS T gz zz) :=
 ⟨⟨(hZ.over hy h.fs nfs).2, evsl_setS hZ hy h.fl, evsl_setS hZ hy h.m⟩, hZ.set hy⟩
structure FeK (w : World) (g1 : Nat) (y : SaL) (g2 : Nat) (v : EvM) (t1 : Option Addr) (TT : List EvM) (a2 : Option Addr) (m : List EvM) (W : World) : Prop where
 fs : SB w w.heap.size 39 saO W
 fy : SB w g1 39 y W
 fe : EB w g2 64 v W
 fn : EvSl W t1 TT
 m : EvSl W a2 m
theorem FeK.below {w W W' : World} {g1 : Nat} {y : SaL} {g2 : Nat} {v : EvM} {t1 : Option Addr} {TT : List EvM} {a2 : Option Addr} {m : List EvM} (h : FeK w g1 y g2 v t1 TT a2 m W) (qB : Below W.heap.size W W') : FeK w g1 y g2 v t1 TT a2 m W' := ⟨h.fs.below qB, h.fy.below qB, h.fe.below qB, h.fn.below qB, h.m.below qB⟩
theorem FeK.over {w T : World} {g1 : Nat} {y : SaL} {g2 : Nat} {v : EvM} {t1 : Option Addr} {TT : List EvM} {a2 : Option Addr} {m : List EvM} {gz : Nat} {zz : SaL} (h : FeK w g1 y g2 v t1 TT a2 m T) (hZ : SB w gz 39 saO T) (hy : SaAt T zz) (nfs : w.heap.size ≠ gz) (nfy : g1 ≠ gz) (nfe : g2 ≠ gz) : FeK w g1 y g2 v t1 TT a2 m (setS T gz zz) ∧ SB w gz 39 zz (setS T gz zz) :=
 ⟨⟨(hZ.over hy h.fs nfs).2, (hZ.over hy h.fy nfy).2, h.fe.set nfe, evsl_setS hZ hy h.fn, evsl_setS hZ hy h.m⟩, hZ.set hy⟩
structure FfK (w : World) (g1 : Nat) (y : SaL) (g2 : Nat) (v : EvM) (t1 : Option Addr) (TT : List EvM) (a2 : Option Addr) (m : List EvM) (g3 : Nat) (za : SaL) (b3 : Option Addr) (EA : List Int) (B3 : Nat) (W : World) : Prop where
 fs : SB w w.heap.size 39 saO W
 fy : SB w g1 39 y W
 fe : EB w g2 64 v W
 fn : EvSl W t1 TT
 fa : SB w g3 39 za W
 fx : ErB W b3 EA B3
 m : EvSl W a2 m
theorem FfK.below {w W W' : World} {g1 : Nat} {y : SaL} {g2 : Nat} {v : EvM} {t1 : Option Addr} {TT : List EvM} {a2 : Option Addr} {m : List EvM} {g3 : Nat} {za : SaL} {b3 : Option Addr} {EA : List Int} {B3 : Nat} (h : FfK w g1 y g2 v t1 TT a2 m g3 za b3 EA B3 W) (qB : Below W.heap.size W W') : FfK w g1 y g2 v t1 TT a2 m g3 za b3 EA B3 W' := ⟨h.fs.below qB, h.fy.below qB, h.fe.below qB, h.fn.below qB, h.fa.below qB, h.fx.below qB, h.m.below qB⟩
theorem FfK.over {w T : World} {g1 : Nat} {y : SaL} {g2 : Nat} {v : EvM} {t1 : Option Addr} {TT : List EvM} {a2 : Option Addr} {m : List EvM} {g3 : Nat} {za : SaL} {b3 : Option Addr} {EA : List Int} {B3 : Nat} {gz : Nat} {zz : SaL} (h : FfK w g1 y g2 v t1 TT a2 m g3 za b3 EA B3 T) (hZ : SB w gz 39 saO T) (hy : SaAt T zz) (nfs : w.heap.size ≠ gz) (nfy : g1 ≠ gz) (nfe : g2 ≠ gz) (nfa : g3 ≠ gz) (nfx : B3 ≤ gz) : FfK w g1 y g2 v t1 TT a2 m g3 za b3 EA B3 (setS T gz zz) ∧ SB w gz 39 zz (setS T gz zz) :=
 ⟨⟨(hZ.over hy h.fs nfs).2, (hZ.over hy h.fy nfy).2, h.fe.set nfe, evsl_setS hZ hy h.fn, (hZ.over hy h.fa nfa).2, h.fx.setS nfx zz, evsl_setS hZ hy h.m⟩, hZ.set hy⟩
structure FgK (w : World) (g1 : Nat) (y : SaL) (g2 : Nat) (v : EvM) (t1 : Option Addr) (TT : List EvM) (a2 : Option Addr) (m : List EvM) (g3 : Nat) (za : SaL) (b3 : Option Addr) (EA : List Int) (B3 : Nat) (g4 : Nat) (zb : SaL) (b4 : Option Addr) (E0 : List Int) (B4 : Nat) (W : World) : Prop where
 fs : SB w w.heap.size 39 saO W
 fy : SB w g1 39 y W
 fe : EB w g2 64 v W
 fn : EvSl W t1 TT
 fa : SB w g3 39 za W
 fx : ErB W b3 EA B3
 fz : SB w g4 39 zb W
 fo : ErB W b4 E0 B4
 m : EvSl W a2 m
theorem FgK.below {w W W' : World} {g1 : Nat} {y : SaL} {g2 : Nat} {v : EvM} {t1 : Option Addr} {TT : List EvM} {a2 : Option Addr} {m : List EvM} {g3 : Nat} {za : SaL} {b3 : Option Addr} {EA : List Int} {B3 : Nat} {g4 : Nat} {zb : SaL} {b4 : Option Addr} {E0 : List Int} {B4 : Nat} (h : FgK w g1 y g2 v t1 TT a2 m g3 za b3 EA B3 g4 zb b4 E0 B4 W) (qB : Below W.heap.size W W') : FgK w g1 y g2 v t1 TT a2 m g3 za b3 EA B3 g4 zb b4 E0 B4 W' := ⟨h.fs.below qB, h.fy.below qB, h.fe.below qB, h.fn.below qB, h.fa.below qB, h.fx.below qB, h.fz.below qB, h.fo.below qB, h.m.below qB⟩
theorem FgK.over {w T : World} {g1 : Nat} {y : SaL} {g2 : Nat} {v : EvM} {t1 : Option Addr} {TT : List EvM} {a2 : Option Addr} {m : List EvM} {g3 : Nat} {za : SaL} {b3 : Option Addr} {EA : List Int} {B3 : Nat} {g4 : Nat} {zb : SaL} {b4 : Option Addr} {E0 : List Int} {B4 : Nat} {gz : Nat} {zz : SaL} (h : FgK w g1 y g2 v t1 TT a2 m g3 za b3 EA B3 g4 zb b4 E0 B4 T) (hZ : SB w gz 39 saO T) (hy : SaAt T zz) (nfs : w.heap.size ≠ gz) (nfy : g1 ≠ gz) (nfe : g2 ≠ gz) (nfa : g3 ≠ gz) (nfx : B3 ≤ gz) (nfz : g4 ≠ gz) (nfo : B4 ≤ gz) : FgK w g1 y g2 v t1 TT a2 m g3 za b3 EA B3 g4 zb b4 E0 B4 (setS T gz zz) ∧ SB w gz 39 zz (setS T gz zz) :=
 ⟨⟨(hZ.over hy h.fs nfs).2, (hZ.over hy h.fy nfy).2, h.fe.set nfe, evsl_setS hZ hy h.fn, (hZ.over hy h.fa nfa).2, h.fx.setS nfx zz, (hZ.over hy h.fz nfz).2, h.fo.setS nfo zz, evsl_setS hZ hy h.m⟩, hZ.set hy⟩
theorem ErSl.setNe {V : World} {a : Option Addr} {E : List Int} {g : Nat} (h : ErSl V a E) (hf : ∀ k o, a = some ⟨k, o, none⟩ → E ≠ [] → k ≠ g) (y : SaL) : ErSl (Go.Proofs.YtapacckmgmdnoaaGreat.setS V g y) a E := fun k hk => by
 obtain ⟨b, off, e, hlt, hc⟩ := h k hk
 have hE : E ≠ [] := fun e => by subst e; exact absurd hk (by simp [ers])
 have hne := hf b off e hE
 have s1 : ∀ (W : World) (i : Nat) (v : Value), (W.setCell ⟨g, i, none⟩ v).cell? ⟨b, off + k, none⟩ = W.cell? ⟨b, off + k, none⟩ := fun W i v => cell_far (p := ⟨b, off + k, none⟩) hne
 refine ⟨b, off, e, ?_, ?_⟩
 ·unfold Go.Proofs.YtapacckmgmdnoaaGreat.setS; rw [size_set, size_set, size_set, size_set, size_set, size_set]; exact hlt
 ·unfold Go.Proofs.YtapacckmgmdnoaaGreat.setS; rw [s1, s1, s1, s1, s1, s1]; exact hc
theorem funnel7 {G : Prop} {F P : World → Nat → SaL → Option Addr → Nat → Option Addr → Nat → Prop} (tree : (∀ T g y b q b' q', F T g y b q b' q' → P T g y b q b' q') → G) (main : ∀ T g y b q b' q', F T g y b q b' q' → P T g y b q b' q') : G := tree main
theorem funnelE {G : Prop} {F P : World → Nat → SaL → Option Addr → Nat → Nat → Option Addr → Nat → Option Addr → Nat → Prop} (tree : (∀ T gz z b q gs b3 q3 x5 q5, F T gz z b q gs b3 q3 x5 q5 → P T gz z b q gs b3 q3 x5 q5) → G) (main : ∀ T gz z b q gs b3 q3 x5 q5, F T gz z b q gs b3 q3 x5 q5 → P T gz z b q gs b3 q3 x5 q5) : G := tree main
set_option maxHeartbeats 8000000 in
theorem walk (w : World) (a : Option Addr) (c : Nat) (l : List EvM) (hs : EvSl w a l) (hf : FitsV l) (hlc : l.length ≤ c) (hcm : c ≤ maxLen) (hn : a = none → c = 0) (u : ByteArray) (hu : u.size ≤ maxLen) (a2 : Option Addr) (c2 : Nat) (m : List EvM) (hs2 : EvSl w a2 m) (hf2 : FitsV m) (hlc2 : m.length ≤ c2) (hcm2 : c2 ≤ maxLen) (hn2 : a2 = none → c2 = 0) :
  Calls Tryz.prog 5 #[.slice a l.length c, .string u, .slice a2 m.length c2] w fun e w' => e = .returned (.bool true) ∧ Below w.heap.size w w' := by
 have HAL := Lib.hid alive12
 have HRU : Hid (∀ V, Calls Tryz.prog 36 #[.string u] V fun e w' => e = .returned (.bool (isN u)) ∧ w' = V) := Lib.hid fun V => (refRightN_any u V hu).mono fun e w' q => ⟨q.1, by first | exact q.2 | exact q.2.symm⟩
 by_cases g1 : 40 < l.length
 ·have d1 : decide ((40 : Int) < (l.length : Int)) = true := decide_eq_true (by omega)
  clear hs hf hlc hcm hn hs2 hf2 hlc2 hcm2 hn2 hu g1
  go_enter Tryz.func5, Tryz.ntmps5
  go_wp2_with fail
  refine (HAL.out _).mono ?_
  rintro r1 w1 ⟨rfl, h1⟩
  go_wp2
  go_ret
  exact ⟨rfl, h1⟩
 have d1 : decide ((40 : Int) < (l.length : Int)) = false := decide_eq_false (by omega)
 by_cases g2 : 20 < m.length
 ·have d2 : decide ((20 : Int) < (m.length : Int)) = true := decide_eq_true (by omega)
  clear hs hf hlc hcm hn hs2 hf2 hlc2 hcm2 hn2 hu g1
  go_enter Tryz.func5, Tryz.ntmps5
  go_wp2_with fail
  refine (HAL.out _).mono ?_
  rintro r1 w1 ⟨rfl, h1⟩
  go_wp2
  go_ret
  exact ⟨rfl, h1⟩
 have d2 : decide ((20 : Int) < (m.length : Int)) = false := decide_eq_false (by omega)
 by_cases hun : isN u = true
 case neg =>
  rw [Bool.eq_false_iff.2 hun] at HRU
  clear hs hf hlc hcm hn hs2 hf2 hlc2 hcm2 hn2 hu g1 g2 hun
  go_enter Tryz.func5, Tryz.ntmps5
  go_wp2_with fail
  refine (HRU.out _).mono ?_
  rintro r0 w0 ⟨rfl, h0⟩
  rw [h0]
  clear h0
  go_wp2_with fail
  refine (HAL.out _).mono ?_
  rintro r1 w1 ⟨rfl, h1⟩
  have HF := Lib.hid h1
  clear h1
  go_wp2
  go_ret
  exact ⟨rfl, HF.out⟩
 rw [hun] at HRU
 have hun2 : nameB u = true := hun
 obtain ⟨ta1, ta2, -⟩ := taken_again l saZ
 have hTr := right_fold l RightS.zero
 have hTc := cnt_fold l saZ
 have hTl : (takenE saZ l).length ≤ 40 := Nat.le_trans (takenE_len l saZ) (by omega)
 have hWl : (withoutV u (takenE saZ l)).length ≤ 40 := Nat.le_trans (without_len u _) hTl
 have hfT : FitsV (takenE saZ l) := fits_taken hf
 obtain ⟨v, hv⟩ : ∃ v : EvM, v = ⟨7, (foldE saZ l).now, u, ⟨#[]⟩, 0, 0⟩ := ⟨_, rfl⟩
 obtain ⟨fe1, fe2, fe3, fe4⟩ := fold_erased (takenE saZ l) hun2 ta2
 rw [ta1] at fe2 fe3 fe4
 rw [show eraseV u (foldE saZ l).now = v from hv.symm] at fe2 fe3 fe4
 have hN2r := right_fold (withoutV u (takenE saZ l)) RightS.zero
 have hN2c := cnt_fold (withoutV u (takenE saZ l)) saZ
 have hz0 : stCnt saZ = 0 := rfl
 have hfm : FitsV (v :: m) := fun e he => by
  rcases List.mem_cons.1 he with he | he
  ·rw [he, hv]; exact ⟨hu, Nat.zero_le _⟩
  ·exact hf2 e he
 have hlen : (v :: m).length = 1 + m.length := by rw [List.length_cons, Nat.add_comm]
 have hEA : errsE (foldE saZ l) (v :: m) = 0 :: errsE (goE (foldE saZ l) v) m := by
  show errE _ v :: errsE (nxE _ v) m = _
  rw [fe2, nxE_ok fe2]
 have hEB : errsE (foldE saZ (withoutV u (takenE saZ l))) (v :: m) = errsE (foldE saZ l) (v :: m) := by
  rw [hEA]
  show errE _ v :: errsE (nxE _ v) m = _
  rw [fe3, nxE_ok fe3, fe4]
 have hNB : foldE (foldE saZ (withoutV u (takenE saZ l))) (v :: m) = foldE (foldE saZ l) (v :: m) := by
  rw [foldE_cons, foldE_cons, nxE_ok fe3, nxE_ok fe2, fe4]
 have HNV := Lib.hid (fun V (h : EvSl V a l) => h_news a c l V h (by omega))
 have HNM := Lib.hid (fun V (h : EvSl V a2 m) => h_news a2 c2 m V h (by omega))
 have HTK := Lib.hid (fun b q V (h : SaAt V saO) (k : EvSl V b l) => h_taken saO saO_m b q l V h RightS.zero k hf (by omega))
 have HF1 := Lib.hid (fun b q V (h : SaAt V saO) (k : EvSl V b (takenE saZ l)) => h_fold saO saO_m b q (takenE saZ l) V h RightS.zero k hfT (by omega))
 rw [ta1] at HF1
 have HFA : Hid (∀ y (hm : y.m = foldE saZ l) b q V, SaAt V y → EvSl V b (v :: m) → Calls Tryz.prog 22 #[saV y, .slice b (1 + m.length) q] V (FoldsV2 V (foldE (foldE saZ l) (v :: m)) (errsE (foldE saZ l) (v :: m)))) := Lib.hid (fun y hm b q V h s => by
  have h1 := h_fold2 y hm b q (v :: m) V h hTr s hfm (by omega)
  rwa [hlen] at h1)
 have HWO := Lib.hid (fun b q V (h : EvSl V b (takenE saZ l)) => pwithout_any u b q (takenE saZ l) V h (by omega))
 have HF2 := Lib.hid (fun b q V (h : SaAt V saO) (k : EvSl V b (withoutV u (takenE saZ l))) => h_fold2 saO saO_m b q (withoutV u (takenE saZ l)) V h RightS.zero k (fits_without hfT) (by omega))
 have HFB : Hid (∀ y (hm : y.m = foldE saZ (withoutV u (takenE saZ l))) b q V, SaAt V y → EvSl V b (v :: m) → Calls Tryz.prog 22 #[saV y, .slice b (1 + m.length) q] V (FoldsV2 V (foldE (foldE saZ l) (v :: m)) (errsE (foldE saZ l) (v :: m)))) := Lib.hid (fun y hm b q V h s => by
  have h1 := h_fold2 y hm b q (v :: m) V h hN2r s hfm (by omega)
  rwa [hlen, hEB, hNB] at h1)
 have hNr := right_fold (v :: m) hTr
 have hNc := cnt_fold (v :: m) (foldE saZ l)
 have hNf : Few (foldE (foldE saZ l) (v :: m)) 400 := (few_of hNr hNc).mono (by omega)
 have HSM := Lib.hid (fun p q V (h : SaAt V p) (k : SaAt V q) hm km => g_same (M := foldE (foldE saZ l) (v :: m)) p q V h k hm km (hNf.mono (by decide)))
 have hel : (errsE (foldE saZ l) (v :: m)).length ≤ 1000 := by rw [errsE_len]; omega
 have HTD := Lib.hid (fun b b' q q' V (h : ErSl V b (errsE (foldE saZ l) (v :: m))) (k : ErSl V b' (errsE (foldE saZ l) (v :: m))) => dtold_any b b' q q' (errsE (foldE saZ l) (v :: m)) V h k hel)
 have HEA : Hid (∃ h : 0 < (errsE (foldE saZ l) (v :: m)).length, (errsE (foldE saZ l) (v :: m))[0] = 0) := by
  rw [hEA]
  exact ⟨Nat.succ_pos _, rfl⟩
 have HE0 : Hid (∀ j (h : j < (errsE saZ (withoutV u (takenE saZ l))).length), (errsE saZ (withoutV u (takenE saZ l)))[j] = 0) := Lib.hid fun j h => fe1 _ (List.getElem_mem h)
 have HE0L : Hid ((errsE saZ (withoutV u (takenE saZ l))).length ≤ 1000) := Lib.hid (by rw [errsE_len]; omega)
 have HML : Hid ([v].length + m.length ≤ 1000000) := Lib.hid (by rw [List.length_singleton]; omega)
 have HYN : Hid (∀ y : SaL, y.m = foldE saZ l → (⟨7, y.now, u, ⟨#[]⟩, 0, 0⟩ : EvM) = v) := Lib.hid fun y hy => by rw [hv, ← hy]; rfl
 have S0 : FdK w a l a2 m (w.alloc (.cells (saC saO) 39)) := ⟨SB.new (Below.refl w.heap.size w) (SaAt.zero w) 39, hs.below (below_one w _), hs2.below (below_one w _)⟩
 unfold FoldsV at HF1
 unfold FoldsV2 at HFA HF2 HFB
 unfold RowsTo at HNV HNM HTK HWO
 clear hs hf hlc hcm hn hs2 hf2 hlc2 hcm2 hn2 hu g1 g2 hun hun2 ta1 ta2 hTr hTc hTl hWl hfT hv fe1 fe2 fe3 fe4 hN2r hN2c hz0 hfm hlen hEA hEB hNB hNr hNc hNf hel
 generalize errsE (foldE saZ l) (v :: m) = EA at *
 generalize foldE (foldE saZ l) (v :: m) = NA at *
 generalize foldE saZ (withoutV u (takenE saZ l)) = N2 at *
 generalize errsE saZ (withoutV u (takenE saZ l)) = E0 at *
 generalize withoutV u (takenE saZ l) = WW at *
 generalize foldE saZ l = N at *
 generalize errsE saZ (takenE saZ l) = ET at *
 generalize takenE saZ l = TT at *
 unfold saV saC saO at HTK HF1 HF2 S0
 unfold saV saC at HFA HFB
 simp only [List.length_nil] at HTK HF1 HF2 S0
 go_enter Tryz.func5, Tryz.ntmps5
 go_wp2_with fail
 refine (HRU.out _).mono ?_
 rintro r1 w1 ⟨rfl, h1⟩
 rw [h1]
 clear h1 w1 HRU
 go_upto_region 4 with fail
 generalize (w.alloc (.cells #[.int .i64 0, .int .i64 0, .slice none 0 0, .slice none 0 0, .slice none 0 0, .slice none 0 0] 39)) = U0 at *
 have HSC : Hid (∀ V, FdK w a l a2 m V → V.cell? ⟨w.heap.size, 0, none⟩ = some (.int .i64 0) ∧ V.cell? ⟨w.heap.size, 1, none⟩ = some (.int .i64 0) ∧ V.cell? ⟨w.heap.size, 2, none⟩ = some (.slice none 0 0) ∧ V.cell? ⟨w.heap.size, 3, none⟩ = some (.slice none 0 0) ∧ V.cell? ⟨w.heap.size, 4, none⟩ = some (.slice none 0 0) ∧ V.cell? ⟨w.heap.size, 5, none⟩ = some (.slice none 0 0)) := Lib.hid fun V h => by
  obtain ⟨qfs0, qfs1, qfs2, qfs3, qfs4, qfs5⟩ := h.fs.cells
  exact ⟨qfs0, qfs1, qfs2, qfs3, qfs4, qfs5⟩
 have HBL : Hid (∀ V V', FdK w a l a2 m V → Below V.heap.size V V' → FdK w a l a2 m V') := Lib.hid fun V V' h q => h.below q
 obtain ⟨k0, k1, k2, k3, k4, k5⟩ := HSC.out _ S0
 have K0 := S0.below (Below.refl _ _).drew
 clear S0
 go_wp2_with fail
 go_region_held3 (fun V => V.cell? ⟨w.heap.size, 0, none⟩ = some (.int .i64 0) ∧ V.cell? ⟨w.heap.size, 1, none⟩ = some (.int .i64 0) ∧ V.cell? ⟨w.heap.size, 2, none⟩ = some (.slice none 0 0) ∧ V.cell? ⟨w.heap.size, 3, none⟩ = some (.slice none 0 0) ∧ V.cell? ⟨w.heap.size, 4, none⟩ = some (.slice none 0 0) ∧ V.cell? ⟨w.heap.size, 5, none⟩ = some (.slice none 0 0))
  (first | with_reducible exact HSC.out _ K2 | with_reducible exact HSC.out _ K1 | with_reducible exact HSC.out _ K0)
  (first | (have hseen := K1; clear hseen; go_at_call 31; refine (HTK.out b1 q1 _ K1.fs.at_ p1).mono ?_; rintro r v2 ⟨t1, tq, rfl, r2, -, -, -, h2⟩; have K2 := HBL.out _ _ K1 h2) | (have hseen := K0; clear hseen; go_at_call 21; refine (HNV.out _ K0.fl).mono ?_; rintro r v1 ⟨b1, q1, rfl, p1, -, -, -, h1⟩; have K1 := HBL.out _ _ K0 h1))
 all_goals
  clear k0 k1 k2 k3 k4 k5 K0 K1 p1 h1 h2 HNV HTK
  obtain ⟨k0, k1, k2, k3, k4, k5⟩ := HSC.out _ K2
  go_wp2_with fail
  refine (HF1.out t1 tq _ K2.fs.at_ r2).mono ?_
  rintro r w5 ⟨y, b5, q5, rfl, hy, hym, -, -, -, h5⟩
  have hev := HYN.out y hym
  have hb := (below_one w5 (.cells #[.int .i64 y.now, .int .i64 y.hor, .slice y.oa y.op.length y.oc, .slice y.ua y.us.length y.uc, .slice y.sa y.su.length y.sc, .slice y.ta y.tb.length y.tc] 39)).trans ((below_one (w5.alloc (.cells #[.int .i64 y.now, .int .i64 y.hor, .slice y.oa y.op.length y.oc, .slice y.ua y.us.length y.uc, .slice y.sa y.su.length y.sc, .slice y.ta y.tb.length y.tc] 39)) (.cells #[.int .i64 7, .int .i64 y.now, .string u, .string ⟨#[]⟩, .int .i64 0, .int .i64 0] 64)).mono (below_one w5 (.cells #[.int .i64 y.now, .int .i64 y.hor, .slice y.oa y.op.length y.oc, .slice y.ua y.us.length y.uc, .slice y.sa y.su.length y.sc, .slice y.ta y.tb.length y.tc] 39)).size)
  have e1 : EB w (w5.heap.size + 1) 64 ⟨7, y.now, u, ⟨#[]⟩, 0, 0⟩ ((w5.alloc (.cells #[.int .i64 y.now, .int .i64 y.hor, .slice y.oa y.op.length y.oc, .slice y.ua y.us.length y.uc, .slice y.sa y.su.length y.sc, .slice y.ta y.tb.length y.tc] 39)).alloc (.cells #[.int .i64 7, .int .i64 y.now, .string u, .string ⟨#[]⟩, .int .i64 0, .int .i64 0] 64)) := ⟨by have := heap_alloc_new (w5.alloc (.cells #[.int .i64 y.now, .int .i64 y.hor, .slice y.oa y.op.length y.oc, .slice y.ua y.us.length y.uc, .slice y.sa y.su.length y.sc, .slice y.ta y.tb.length y.tc] 39)) (.cells #[.int .i64 7, .int .i64 y.now, .string u, .string ⟨#[]⟩, .int .i64 0, .int .i64 0] 64); rw [size1] at this; exact this, by have := K2.fs.frame.size; have := h5.size; omega⟩
  rw [hev] at e1
  have KK : FeK w w5.heap.size y (w5.heap.size + 1) v t1 TT a2 m ((w5.alloc (.cells #[.int .i64 y.now, .int .i64 y.hor, .slice y.oa y.op.length y.oc, .slice y.ua y.us.length y.uc, .slice y.sa y.su.length y.sc, .slice y.ta y.tb.length y.tc] 39)).alloc (.cells #[.int .i64 7, .int .i64 y.now, .string u, .string ⟨#[]⟩, .int .i64 0, .int .i64 0] 64)) := ⟨(K2.fs.below h5).below hb, (SB.new (K2.fs.frame.trans (h5.mono K2.fs.frame.size)) hy 39).below (below_one _ _), e1, (r2.below h5).below hb, (K2.m.below h5).below hb⟩
  clear k0 k1 k2 k3 k4 k5 K2 r2 h5 hy hev hb e1 HF1 HYN HSC HBL
  go_upto_region 7 with fail
  generalize ((w5.alloc (.cells #[.int .i64 y.now, .int .i64 y.hor, .slice y.oa y.op.length y.oc, .slice y.ua y.us.length y.uc, .slice y.sa y.su.length y.sc, .slice y.ta y.tb.length y.tc] 39)).alloc (.cells #[.int .i64 7, .int .i64 y.now, .string u, .string ⟨#[]⟩, .int .i64 0, .int .i64 0] 64)) = U7 at *
  generalize w5.heap.size + 1 = g2 at *
  generalize w5.heap.size = g1 at *
  have HSC : Hid (∀ V, FeK w g1 y g2 v t1 TT a2 m V → V.cell? ⟨g1, 0, none⟩ = some (.int .i64 y.now) ∧ V.cell? ⟨g1, 1, none⟩ = some (.int .i64 y.hor) ∧ V.cell? ⟨g1, 2, none⟩ = some (.slice y.oa y.op.length y.oc) ∧ V.cell? ⟨g1, 3, none⟩ = some (.slice y.ua y.us.length y.uc) ∧ V.cell? ⟨g1, 4, none⟩ = some (.slice y.sa y.su.length y.sc) ∧ V.cell? ⟨g1, 5, none⟩ = some (.slice y.ta y.tb.length y.tc) ∧ V.cell? ⟨g2, 0, none⟩ = some (.int .i64 v.kind) ∧ V.cell? ⟨g2, 1, none⟩ = some (.int .i64 v.at_) ∧ V.cell? ⟨g2, 2, none⟩ = some (.string v.user) ∧ V.cell? ⟨g2, 3, none⟩ = some (.string v.other) ∧ V.cell? ⟨g2, 4, none⟩ = some (.int .i64 v.n) ∧ V.cell? ⟨g2, 5, none⟩ = some (.int .i64 v.status)) := Lib.hid fun V h => by
   obtain ⟨qfy0, qfy1, qfy2, qfy3, qfy4, qfy5⟩ := h.fy.cells
   obtain ⟨qfe0, qfe1, qfe2, qfe3, qfe4, qfe5⟩ := h.fe.cells
   exact ⟨qfy0, qfy1, qfy2, qfy3, qfy4, qfy5, qfe0, qfe1, qfe2, qfe3, qfe4, qfe5⟩
  refine wp_region_held_drew (S := (fun V => V.cell? ⟨g1, 0, none⟩ = some (.int .i64 y.now) ∧ V.cell? ⟨g1, 1, none⟩ = some (.int .i64 y.hor) ∧ V.cell? ⟨g1, 2, none⟩ = some (.slice y.oa y.op.length y.oc) ∧ V.cell? ⟨g1, 3, none⟩ = some (.slice y.ua y.us.length y.uc) ∧ V.cell? ⟨g1, 4, none⟩ = some (.slice y.sa y.su.length y.sc) ∧ V.cell? ⟨g1, 5, none⟩ = some (.slice y.ta y.tb.length y.tc) ∧ V.cell? ⟨g2, 0, none⟩ = some (.int .i64 v.kind) ∧ V.cell? ⟨g2, 1, none⟩ = some (.int .i64 v.at_) ∧ V.cell? ⟨g2, 2, none⟩ = some (.string v.user) ∧ V.cell? ⟨g2, 3, none⟩ = some (.string v.other) ∧ V.cell? ⟨g2, 4, none⟩ = some (.int .i64 v.n) ∧ V.cell? ⟨g2, 5, none⟩ = some (.int .i64 v.status))) (by kernel_rfl) ?_ (fun HH => ?_)
  ·exact HSC.out _ (KK.below (Below.refl _ _).drew)
  have K0 := KK.below (Below.refl U7.heap.size U7).drew
  generalize U7.drew = V0 at *
  apply funnelE (F := fun T g3 za b3 ex gs n3 n4 x5 x6 => FeK w g1 y g2 v t1 TT a2 m T ∧ SB w g3 39 saO T ∧ SaAt T za ∧ za.m = NA ∧ ErSl T b3 EA ∧ EA.length ≤ ex ∧ ex ≤ maxLen ∧ (∀ k o, b3 = some ⟨k, o, none⟩ → EA ≠ [] → k ≠ g3) ∧ w.heap.size ≠ g3 ∧ g1 ≠ g3 ∧ g2 ≠ g3)
  ·intro main
   refine tV 0 49 ?_
   refine tV 1 50 ?_
   refine tV 3 52 ?_
   refine wpAnyH_ready (rs := [2, 4, 10]) (by kernel_rfl) (by simp) ?_
   refine AllReadyH.cons (o := ⟨some 51, _, _, _, _, _⟩) rfl (fun K hK => ?_) (AllReadyH.cons (o := ⟨some 53, _, _, _, _, _⟩) rfl (fun K hK => ?_) (AllReadyH.cons (o := ⟨some 12, _, _, _, _, _⟩) rfl (fun K hK => ?_) AllReadyH.nil))
   ·go_simp
    refine hK.out _ _ ?_ (fun HH => ?_)
    ·exact HSC.out _ (K0.below (below_one _ (.cells #[.int .i64 v.kind, .int .i64 v.at_, .string v.user, .string v.other, .int .i64 v.n, .int .i64 v.status] 64)))
    clear hK K
    (try simp only [Act.put, List.setIfInBounds_toArray, List.set_cons_zero, List.set_cons_succ])
    have RB : EvSl (V0.alloc (.cells #[.int .i64 v.kind, .int .i64 v.at_, .string v.user, .string v.other, .int .i64 v.n, .int .i64 v.status] 64)) (some ⟨V0.heap.size, 0, none⟩) [v] := EvSl.lit V0 _ _ [v] [] _ rfl rfl
    have K1 := K0.below (below_one V0 (.cells #[.int .i64 v.kind, .int .i64 v.at_, .string v.user, .string v.other, .int .i64 v.n, .int .i64 v.status] 64))
    generalize V0.alloc (.cells #[.int .i64 v.kind, .int .i64 v.at_, .string v.user, .string v.other, .int .i64 v.n, .int .i64 v.status] 64) = V1 at *
    generalize V0.heap.size = gs at *
    clear HH
    refine wpAnyH_ready (rs := [4, 10]) (by kernel_rfl) (by simp) ?_
    refine AllReadyH.cons (o := ⟨some 53, _, _, _, _, _⟩) rfl (fun K hK => ?_) (AllReadyH.cons (o := ⟨some 12, _, _, _, _, _⟩) rfl (fun K hK => ?_) AllReadyH.nil)
    ·go_simp
     refine (HNM.out _ K1.m).mono ?_
     rintro r11 V2 ⟨b3, q3, rfl, RM, -, -, -, h1⟩
     have K2 := K1.below h1
     replace RB := RB.below h1
     go_wp2_with fail
     refine hK.out _ _ ?_ (fun HH => ?_)
     ·exact HSC.out _ K2
     clear hK K h1 K1
     (try simp only [Act.put, List.setIfInBounds_toArray, List.set_cons_zero, List.set_cons_succ])
     clear HH
     refine wpAnyH_ready (rs := [5, 10]) (by kernel_rfl) (by simp) ?_
     refine AllReadyH.cons (o := ⟨some 54, _, _, _, _, _⟩) rfl (fun K hK => ?_) (AllReadyH.cons (o := ⟨some 12, _, _, _, _, _⟩) rfl (fun K hK => ?_) AllReadyH.nil)
     ·obtain ⟨x5, q5, V3, hr5, R5, h2⟩ := ev_join V2 32 ⟨gs, 0, none⟩ b3 [v] m q3 RB RM HML.out
      have hr6 : (Builtin.append_ #[32, 32] 32 #[.slice (some ⟨gs, 0, none⟩) 1 1, .slice b3 m.length q3]).run Tryz.prog V2 = .ok (.slice x5 (1 + m.length) q5) V3 := hr5
      clear hr5
      refine step_run rfl (.tmp 51) (.tmp 53) _ _ rfl _ _ rfl rfl _ _ hr6 ?_
      have K3 := K2.below h2
      replace RB := RB.below h2
      replace RM := RM.below h2
      refine hK.out _ _ ?_ (fun HH => ?_)
      ·exact HSC.out _ K3
      clear hK K hr6 RB RM h2 K2
      (try simp only [Act.put, List.setIfInBounds_toArray, List.set_cons_zero, List.set_cons_succ])
      clear HH
      refine wpAnyH_ready (rs := [6, 10]) (by kernel_rfl) (by simp) ?_
      refine AllReadyH.cons (o := ⟨some 55, _, _, _, _, _⟩) rfl (fun K hK => ?_) (AllReadyH.cons (o := ⟨some 12, _, _, _, _, _⟩) rfl (fun K hK => ?_) AllReadyH.nil)
      ·go_simp
       refine (HFA.out y hym x5 q5 _ K3.fy.at_ R5).mono ?_
       rintro r13 V4 ⟨z, b, q, rfl, HZ, ZM, RE, HLE, HQM, LOW, h3⟩
       have K4 := K3.below h3
       replace R5 := R5.below h3
       clear R5 LOW
       go_wp2_with fail
       refine hK.out _ _ ?_ (fun HH => ?_)
       ·exact HSC.out _ K4
       clear hK K h3 K3
       (try simp only [Act.put, List.setIfInBounds_toArray, List.set_cons_zero, List.set_cons_succ])
       refine tV 7 48 ?_
       refine tV 8 56 ?_
       refine tV 9 57 ?_
       clear HH
       refine wpAnyH_ready (rs := [10]) (by kernel_rfl) (by simp) ?_
       refine AllReadyH.cons (o := ⟨some 12, _, _, _, _, _⟩) rfl (fun K hK => ?_) AllReadyH.nil
       go_simp
       refine hK.out _ _ ?_ (fun HH => ?_)
       ·exact HSC.out _ (K4.below (below_one _ (.cells #[.int .i64 0, .int .i64 0, .slice none 0 0, .slice none 0 0, .slice none 0 0, .slice none 0 0] 39)))
       clear hK K
       (try simp only [Act.put, List.setIfInBounds_toArray, List.set_cons_zero, List.set_cons_succ])
       have ZB : SB w V4.heap.size 39 saO (V4.alloc (.cells #[.int .i64 0, .int .i64 0, .slice none 0 0, .slice none 0 0, .slice none 0 0, .slice none 0 0] 39)) := SB.new K4.fs.frame (SaAt.zero V4) 39
       have NG : w.heap.size ≠ V4.heap.size ∧ g1 ≠ V4.heap.size ∧ g2 ≠ V4.heap.size := ⟨Nat.ne_of_lt K4.fs.lt, Nat.ne_of_lt K4.fy.lt, Nat.ne_of_lt (heap_lt K4.fe.blk)⟩
       have HFAR : ∀ k o, b = some ⟨k, o, none⟩ → EA ≠ [] → k ≠ V4.heap.size := fun k o e hE h => by obtain ⟨b', o', e', hlt, -⟩ := RE 0 (by rw [ers_len]; exact List.length_pos_iff.2 hE); rw [e] at e'; injection e' with e'; injection e' with e1 e2; omega
       have K5 := K4.below (below_one V4 (.cells #[.int .i64 0, .int .i64 0, .slice none 0 0, .slice none 0 0, .slice none 0 0, .slice none 0 0] 39))
       replace HZ := HZ.below (below_one V4 (.cells #[.int .i64 0, .int .i64 0, .slice none 0 0, .slice none 0 0, .slice none 0 0, .slice none 0 0] 39))
       replace RE := RE.below (below_one V4 (.cells #[.int .i64 0, .int .i64 0, .slice none 0 0, .slice none 0 0, .slice none 0 0, .slice none 0 0] 39))
       clear K4
       generalize V4.alloc (.cells #[.int .i64 0, .int .i64 0, .slice none 0 0, .slice none 0 0, .slice none 0 0, .slice none 0 0] 39) = V5 at *
       generalize V4.heap.size = gz at *
       exact main V5 gz z b q gs b3 q3 x5 q5 ⟨K5, ZB, HZ, ZM, RE, HLE, HQM, HFAR, NG⟩
      ·go_simp
       refine hK.out _ _ ?_ (fun HH => ?_)
       ·exact HSC.out _ (K3.below (below_one _ (.cells #[.int .i64 0, .int .i64 0, .slice none 0 0, .slice none 0 0, .slice none 0 0, .slice none 0 0] 39)))
       clear hK K
       (try simp only [Act.put, List.setIfInBounds_toArray, List.set_cons_zero, List.set_cons_succ])
       have ZB : SB w V3.heap.size 39 saO (V3.alloc (.cells #[.int .i64 0, .int .i64 0, .slice none 0 0, .slice none 0 0, .slice none 0 0, .slice none 0 0] 39)) := SB.new K3.fs.frame (SaAt.zero V3) 39
       have NG : w.heap.size ≠ V3.heap.size ∧ g1 ≠ V3.heap.size ∧ g2 ≠ V3.heap.size := ⟨Nat.ne_of_lt K3.fs.lt, Nat.ne_of_lt K3.fy.lt, Nat.ne_of_lt (heap_lt K3.fe.blk)⟩
       have K4 := K3.below (below_one V3 (.cells #[.int .i64 0, .int .i64 0, .slice none 0 0, .slice none 0 0, .slice none 0 0, .slice none 0 0] 39))
       replace R5 := R5.below (below_one V3 (.cells #[.int .i64 0, .int .i64 0, .slice none 0 0, .slice none 0 0, .slice none 0 0, .slice none 0 0] 39))
       clear K3
       generalize V3.alloc (.cells #[.int .i64 0, .int .i64 0, .slice none 0 0, .slice none 0 0, .slice none 0 0, .slice none 0 0] 39) = V4 at *
       generalize V3.heap.size = gz at *
       clear HH
       refine wpAnyH_ready (rs := [6]) (by kernel_rfl) (by simp) ?_
       refine AllReadyH.cons (o := ⟨some 55, _, _, _, _, _⟩) rfl (fun K hK => ?_) AllReadyH.nil
       go_simp
       refine (HFA.out y hym x5 q5 _ K4.fy.at_ R5).mono ?_
       rintro r14 V5 ⟨z, b, q, rfl, HZ, ZM, RE, HLE, HQM, LOW, h4⟩
       have K5 := K4.below h4
       have HFAR : ∀ k o, b = some ⟨k, o, none⟩ → EA ≠ [] → k ≠ gz := fun k o e _ h => by have h1 := LOW k o e; have h2 := ZB.lt; omega
       replace ZB := ZB.below h4
       replace R5 := R5.below h4
       clear R5 LOW
       go_wp2_with fail
       refine hK.out _ _ ?_ (fun HH => ?_)
       ·exact HSC.out _ K5
       clear hK K h4 K4
       (try simp only [Act.put, List.setIfInBounds_toArray, List.set_cons_zero, List.set_cons_succ])
       refine tV 7 48 ?_
       refine tV 8 56 ?_
       refine tV 9 57 ?_
       exact main V5 gz z b q gs b3 q3 x5 q5 ⟨K5, ZB, HZ, ZM, RE, HLE, HQM, HFAR, NG⟩
     ·go_simp
      refine hK.out _ _ ?_ (fun HH => ?_)
      ·exact HSC.out _ (K2.below (below_one _ (.cells #[.int .i64 0, .int .i64 0, .slice none 0 0, .slice none 0 0, .slice none 0 0, .slice none 0 0] 39)))
      clear hK K
      (try simp only [Act.put, List.setIfInBounds_toArray, List.set_cons_zero, List.set_cons_succ])
      have ZB : SB w V2.heap.size 39 saO (V2.alloc (.cells #[.int .i64 0, .int .i64 0, .slice none 0 0, .slice none 0 0, .slice none 0 0, .slice none 0 0] 39)) := SB.new K2.fs.frame (SaAt.zero V2) 39
      have NG : w.heap.size ≠ V2.heap.size ∧ g1 ≠ V2.heap.size ∧ g2 ≠ V2.heap.size := ⟨Nat.ne_of_lt K2.fs.lt, Nat.ne_of_lt K2.fy.lt, Nat.ne_of_lt (heap_lt K2.fe.blk)⟩
      have K3 := K2.below (below_one V2 (.cells #[.int .i64 0, .int .i64 0, .slice none 0 0, .slice none 0 0, .slice none 0 0, .slice none 0 0] 39))
      replace RB := RB.below (below_one V2 (.cells #[.int .i64 0, .int .i64 0, .slice none 0 0, .slice none 0 0, .slice none 0 0, .slice none 0 0] 39))
      replace RM := RM.below (below_one V2 (.cells #[.int .i64 0, .int .i64 0, .slice none 0 0, .slice none 0 0, .slice none 0 0, .slice none 0 0] 39))
      clear K2
      generalize V2.alloc (.cells #[.int .i64 0, .int .i64 0, .slice none 0 0, .slice none 0 0, .slice none 0 0, .slice none 0 0] 39) = V3 at *
      generalize V2.heap.size = gz at *
      clear HH
      refine wpAnyH_ready (rs := [5]) (by kernel_rfl) (by simp) ?_
      refine AllReadyH.cons (o := ⟨some 54, _, _, _, _, _⟩) rfl (fun K hK => ?_) AllReadyH.nil
      obtain ⟨x5, q5, V4, hr5, R5, h3⟩ := ev_join V3 32 ⟨gs, 0, none⟩ b3 [v] m q3 RB RM HML.out
      have hr6 : (Builtin.append_ #[32, 32] 32 #[.slice (some ⟨gs, 0, none⟩) 1 1, .slice b3 m.length q3]).run Tryz.prog V3 = .ok (.slice x5 (1 + m.length) q5) V4 := hr5
      clear hr5
      refine step_run rfl (.tmp 51) (.tmp 53) _ _ rfl _ _ rfl rfl _ _ hr6 ?_
      have K4 := K3.below h3
      replace ZB := ZB.below h3
      replace RB := RB.below h3
      replace RM := RM.below h3
      refine hK.out _ _ ?_ (fun HH => ?_)
      ·exact HSC.out _ K4
      clear hK K hr6 RB RM h3 K3
      (try simp only [Act.put, List.setIfInBounds_toArray, List.set_cons_zero, List.set_cons_succ])
      clear HH
      refine wpAnyH_ready (rs := [6]) (by kernel_rfl) (by simp) ?_
      refine AllReadyH.cons (o := ⟨some 55, _, _, _, _, _⟩) rfl (fun K hK => ?_) AllReadyH.nil
      go_simp
      refine (HFA.out y hym x5 q5 _ K4.fy.at_ R5).mono ?_
      rintro r14 V5 ⟨z, b, q, rfl, HZ, ZM, RE, HLE, HQM, LOW, h4⟩
      have K5 := K4.below h4
      have HFAR : ∀ k o, b = some ⟨k, o, none⟩ → EA ≠ [] → k ≠ gz := fun k o e _ h => by have h1 := LOW k o e; have h2 := ZB.lt; omega
      replace ZB := ZB.below h4
      replace R5 := R5.below h4
      clear R5 LOW
      go_wp2_with fail
      refine hK.out _ _ ?_ (fun HH => ?_)
      ·exact HSC.out _ K5
      clear hK K h4 K4
      (try simp only [Act.put, List.setIfInBounds_toArray, List.set_cons_zero, List.set_cons_succ])
      refine tV 7 48 ?_
      refine tV 8 56 ?_
      refine tV 9 57 ?_
      exact main V5 gz z b q gs b3 q3 x5 q5 ⟨K5, ZB, HZ, ZM, RE, HLE, HQM, HFAR, NG⟩
    ·go_simp
     refine hK.out _ _ ?_ (fun HH => ?_)
     ·exact HSC.out _ (K1.below (below_one _ (.cells #[.int .i64 0, .int .i64 0, .slice none 0 0, .slice none 0 0, .slice none 0 0, .slice none 0 0] 39)))
     clear hK K
     (try simp only [Act.put, List.setIfInBounds_toArray, List.set_cons_zero, List.set_cons_succ])
     have ZB : SB w V1.heap.size 39 saO (V1.alloc (.cells #[.int .i64 0, .int .i64 0, .slice none 0 0, .slice none 0 0, .slice none 0 0, .slice none 0 0] 39)) := SB.new K1.fs.frame (SaAt.zero V1) 39
     have NG : w.heap.size ≠ V1.heap.size ∧ g1 ≠ V1.heap.size ∧ g2 ≠ V1.heap.size := ⟨Nat.ne_of_lt K1.fs.lt, Nat.ne_of_lt K1.fy.lt, Nat.ne_of_lt (heap_lt K1.fe.blk)⟩
     have K2 := K1.below (below_one V1 (.cells #[.int .i64 0, .int .i64 0, .slice none 0 0, .slice none 0 0, .slice none 0 0, .slice none 0 0] 39))
     replace RB := RB.below (below_one V1 (.cells #[.int .i64 0, .int .i64 0, .slice none 0 0, .slice none 0 0, .slice none 0 0, .slice none 0 0] 39))
     clear K1
     generalize V1.alloc (.cells #[.int .i64 0, .int .i64 0, .slice none 0 0, .slice none 0 0, .slice none 0 0, .slice none 0 0] 39) = V2 at *
     generalize V1.heap.size = gz at *
     clear HH
     refine wpAnyH_ready (rs := [4]) (by kernel_rfl) (by simp) ?_
     refine AllReadyH.cons (o := ⟨some 53, _, _, _, _, _⟩) rfl (fun K hK => ?_) AllReadyH.nil
     go_simp
     refine (HNM.out _ K2.m).mono ?_
     rintro r12 V3 ⟨b3, q3, rfl, RM, -, -, -, h2⟩
     have K3 := K2.below h2
     replace ZB := ZB.below h2
     replace RB := RB.below h2
     go_wp2_with fail
     refine hK.out _ _ ?_ (fun HH => ?_)
     ·exact HSC.out _ K3
     clear hK K h2 K2
     (try simp only [Act.put, List.setIfInBounds_toArray, List.set_cons_zero, List.set_cons_succ])
     clear HH
     refine wpAnyH_ready (rs := [5]) (by kernel_rfl) (by simp) ?_
     refine AllReadyH.cons (o := ⟨some 54, _, _, _, _, _⟩) rfl (fun K hK => ?_) AllReadyH.nil
     obtain ⟨x5, q5, V4, hr5, R5, h3⟩ := ev_join V3 32 ⟨gs, 0, none⟩ b3 [v] m q3 RB RM HML.out
     have hr6 : (Builtin.append_ #[32, 32] 32 #[.slice (some ⟨gs, 0, none⟩) 1 1, .slice b3 m.length q3]).run Tryz.prog V3 = .ok (.slice x5 (1 + m.length) q5) V4 := hr5
     clear hr5
     refine step_run rfl (.tmp 51) (.tmp 53) _ _ rfl _ _ rfl rfl _ _ hr6 ?_
     have K4 := K3.below h3
     replace ZB := ZB.below h3
     replace RB := RB.below h3
     replace RM := RM.below h3
     refine hK.out _ _ ?_ (fun HH => ?_)
     ·exact HSC.out _ K4
     clear hK K hr6 RB RM h3 K3
     (try simp only [Act.put, List.setIfInBounds_toArray, List.set_cons_zero, List.set_cons_succ])
     clear HH
     refine wpAnyH_ready (rs := [6]) (by kernel_rfl) (by simp) ?_
     refine AllReadyH.cons (o := ⟨some 55, _, _, _, _, _⟩) rfl (fun K hK => ?_) AllReadyH.nil
     go_simp
     refine (HFA.out y hym x5 q5 _ K4.fy.at_ R5).mono ?_
     rintro r14 V5 ⟨z, b, q, rfl, HZ, ZM, RE, HLE, HQM, LOW, h4⟩
     have K5 := K4.below h4
     have HFAR : ∀ k o, b = some ⟨k, o, none⟩ → EA ≠ [] → k ≠ gz := fun k o e _ h => by have h1 := LOW k o e; have h2 := ZB.lt; omega
     replace ZB := ZB.below h4
     replace R5 := R5.below h4
     clear R5 LOW
     go_wp2_with fail
     refine hK.out _ _ ?_ (fun HH => ?_)
     ·exact HSC.out _ K5
     clear hK K h4 K4
     (try simp only [Act.put, List.setIfInBounds_toArray, List.set_cons_zero, List.set_cons_succ])
     refine tV 7 48 ?_
     refine tV 8 56 ?_
     refine tV 9 57 ?_
     exact main V5 gz z b q gs b3 q3 x5 q5 ⟨K5, ZB, HZ, ZM, RE, HLE, HQM, HFAR, NG⟩
   ·go_simp
    refine (HNM.out _ K0.m).mono ?_
    rintro r10 V1 ⟨b3, q3, rfl, RM, -, -, -, h0⟩
    have K1 := K0.below h0
    go_wp2_with fail
    refine hK.out _ _ ?_ (fun HH => ?_)
    ·exact HSC.out _ K1
    clear hK K h0
    (try simp only [Act.put, List.setIfInBounds_toArray, List.set_cons_zero, List.set_cons_succ])
    clear HH
    refine wpAnyH_ready (rs := [2, 10]) (by kernel_rfl) (by simp) ?_
    refine AllReadyH.cons (o := ⟨some 51, _, _, _, _, _⟩) rfl (fun K hK => ?_) (AllReadyH.cons (o := ⟨some 12, _, _, _, _, _⟩) rfl (fun K hK => ?_) AllReadyH.nil)
    ·go_simp
     refine hK.out _ _ ?_ (fun HH => ?_)
     ·exact HSC.out _ (K1.below (below_one _ (.cells #[.int .i64 v.kind, .int .i64 v.at_, .string v.user, .string v.other, .int .i64 v.n, .int .i64 v.status] 64)))
     clear hK K
     (try simp only [Act.put, List.setIfInBounds_toArray, List.set_cons_zero, List.set_cons_succ])
     have RB : EvSl (V1.alloc (.cells #[.int .i64 v.kind, .int .i64 v.at_, .string v.user, .string v.other, .int .i64 v.n, .int .i64 v.status] 64)) (some ⟨V1.heap.size, 0, none⟩) [v] := EvSl.lit V1 _ _ [v] [] _ rfl rfl
     have K2 := K1.below (below_one V1 (.cells #[.int .i64 v.kind, .int .i64 v.at_, .string v.user, .string v.other, .int .i64 v.n, .int .i64 v.status] 64))
     replace RM := RM.below (below_one V1 (.cells #[.int .i64 v.kind, .int .i64 v.at_, .string v.user, .string v.other, .int .i64 v.n, .int .i64 v.status] 64))
     clear K1
     generalize V1.alloc (.cells #[.int .i64 v.kind, .int .i64 v.at_, .string v.user, .string v.other, .int .i64 v.n, .int .i64 v.status] 64) = V2 at *
     generalize V1.heap.size = gs at *
     clear HH
     refine wpAnyH_ready (rs := [5, 10]) (by kernel_rfl) (by simp) ?_
     refine AllReadyH.cons (o := ⟨some 54, _, _, _, _, _⟩) rfl (fun K hK => ?_) (AllReadyH.cons (o := ⟨some 12, _, _, _, _, _⟩) rfl (fun K hK => ?_) AllReadyH.nil)
     ·obtain ⟨x5, q5, V3, hr5, R5, h2⟩ := ev_join V2 32 ⟨gs, 0, none⟩ b3 [v] m q3 RB RM HML.out
      have hr6 : (Builtin.append_ #[32, 32] 32 #[.slice (some ⟨gs, 0, none⟩) 1 1, .slice b3 m.length q3]).run Tryz.prog V2 = .ok (.slice x5 (1 + m.length) q5) V3 := hr5
      clear hr5
      refine step_run rfl (.tmp 51) (.tmp 53) _ _ rfl _ _ rfl rfl _ _ hr6 ?_
      have K3 := K2.below h2
      replace RB := RB.below h2
      replace RM := RM.below h2
      refine hK.out _ _ ?_ (fun HH => ?_)
      ·exact HSC.out _ K3
      clear hK K hr6 RB RM h2 K2
      (try simp only [Act.put, List.setIfInBounds_toArray, List.set_cons_zero, List.set_cons_succ])
      clear HH
      refine wpAnyH_ready (rs := [6, 10]) (by kernel_rfl) (by simp) ?_
      refine AllReadyH.cons (o := ⟨some 55, _, _, _, _, _⟩) rfl (fun K hK => ?_) (AllReadyH.cons (o := ⟨some 12, _, _, _, _, _⟩) rfl (fun K hK => ?_) AllReadyH.nil)
      ·go_simp
       refine (HFA.out y hym x5 q5 _ K3.fy.at_ R5).mono ?_
       rintro r13 V4 ⟨z, b, q, rfl, HZ, ZM, RE, HLE, HQM, LOW, h3⟩
       have K4 := K3.below h3
       replace R5 := R5.below h3
       clear R5 LOW
       go_wp2_with fail
       refine hK.out _ _ ?_ (fun HH => ?_)
       ·exact HSC.out _ K4
       clear hK K h3 K3
       (try simp only [Act.put, List.setIfInBounds_toArray, List.set_cons_zero, List.set_cons_succ])
       refine tV 7 48 ?_
       refine tV 8 56 ?_
       refine tV 9 57 ?_
       clear HH
       refine wpAnyH_ready (rs := [10]) (by kernel_rfl) (by simp) ?_
       refine AllReadyH.cons (o := ⟨some 12, _, _, _, _, _⟩) rfl (fun K hK => ?_) AllReadyH.nil
       go_simp
       refine hK.out _ _ ?_ (fun HH => ?_)
       ·exact HSC.out _ (K4.below (below_one _ (.cells #[.int .i64 0, .int .i64 0, .slice none 0 0, .slice none 0 0, .slice none 0 0, .slice none 0 0] 39)))
       clear hK K
       (try simp only [Act.put, List.setIfInBounds_toArray, List.set_cons_zero, List.set_cons_succ])
       have ZB : SB w V4.heap.size 39 saO (V4.alloc (.cells #[.int .i64 0, .int .i64 0, .slice none 0 0, .slice none 0 0, .slice none 0 0, .slice none 0 0] 39)) := SB.new K4.fs.frame (SaAt.zero V4) 39
       have NG : w.heap.size ≠ V4.heap.size ∧ g1 ≠ V4.heap.size ∧ g2 ≠ V4.heap.size := ⟨Nat.ne_of_lt K4.fs.lt, Nat.ne_of_lt K4.fy.lt, Nat.ne_of_lt (heap_lt K4.fe.blk)⟩
       have HFAR : ∀ k o, b = some ⟨k, o, none⟩ → EA ≠ [] → k ≠ V4.heap.size := fun k o e hE h => by obtain ⟨b', o', e', hlt, -⟩ := RE 0 (by rw [ers_len]; exact List.length_pos_iff.2 hE); rw [e] at e'; injection e' with e'; injection e' with e1 e2; omega
       have K5 := K4.below (below_one V4 (.cells #[.int .i64 0, .int .i64 0, .slice none 0 0, .slice none 0 0, .slice none 0 0, .slice none 0 0] 39))
       replace HZ := HZ.below (below_one V4 (.cells #[.int .i64 0, .int .i64 0, .slice none 0 0, .slice none 0 0, .slice none 0 0, .slice none 0 0] 39))
       replace RE := RE.below (below_one V4 (.cells #[.int .i64 0, .int .i64 0, .slice none 0 0, .slice none 0 0, .slice none 0 0, .slice none 0 0] 39))
       clear K4
       generalize V4.alloc (.cells #[.int .i64 0, .int .i64 0, .slice none 0 0, .slice none 0 0, .slice none 0 0, .slice none 0 0] 39) = V5 at *
       generalize V4.heap.size = gz at *
       exact main V5 gz z b q gs b3 q3 x5 q5 ⟨K5, ZB, HZ, ZM, RE, HLE, HQM, HFAR, NG⟩
      ·go_simp
       refine hK.out _ _ ?_ (fun HH => ?_)
       ·exact HSC.out _ (K3.below (below_one _ (.cells #[.int .i64 0, .int .i64 0, .slice none 0 0, .slice none 0 0, .slice none 0 0, .slice none 0 0] 39)))
       clear hK K
       (try simp only [Act.put, List.setIfInBounds_toArray, List.set_cons_zero, List.set_cons_succ])
       have ZB : SB w V3.heap.size 39 saO (V3.alloc (.cells #[.int .i64 0, .int .i64 0, .slice none 0 0, .slice none 0 0, .slice none 0 0, .slice none 0 0] 39)) := SB.new K3.fs.frame (SaAt.zero V3) 39
       have NG : w.heap.size ≠ V3.heap.size ∧ g1 ≠ V3.heap.size ∧ g2 ≠ V3.heap.size := ⟨Nat.ne_of_lt K3.fs.lt, Nat.ne_of_lt K3.fy.lt, Nat.ne_of_lt (heap_lt K3.fe.blk)⟩
       have K4 := K3.below (below_one V3 (.cells #[.int .i64 0, .int .i64 0, .slice none 0 0, .slice none 0 0, .slice none 0 0, .slice none 0 0] 39))
       replace R5 := R5.below (below_one V3 (.cells #[.int .i64 0, .int .i64 0, .slice none 0 0, .slice none 0 0, .slice none 0 0, .slice none 0 0] 39))
       clear K3
       generalize V3.alloc (.cells #[.int .i64 0, .int .i64 0, .slice none 0 0, .slice none 0 0, .slice none 0 0, .slice none 0 0] 39) = V4 at *
       generalize V3.heap.size = gz at *
       clear HH
       refine wpAnyH_ready (rs := [6]) (by kernel_rfl) (by simp) ?_
       refine AllReadyH.cons (o := ⟨some 55, _, _, _, _, _⟩) rfl (fun K hK => ?_) AllReadyH.nil
       go_simp
       refine (HFA.out y hym x5 q5 _ K4.fy.at_ R5).mono ?_
       rintro r14 V5 ⟨z, b, q, rfl, HZ, ZM, RE, HLE, HQM, LOW, h4⟩
       have K5 := K4.below h4
       have HFAR : ∀ k o, b = some ⟨k, o, none⟩ → EA ≠ [] → k ≠ gz := fun k o e _ h => by have h1 := LOW k o e; have h2 := ZB.lt; omega
       replace ZB := ZB.below h4
       replace R5 := R5.below h4
       clear R5 LOW
       go_wp2_with fail
       refine hK.out _ _ ?_ (fun HH => ?_)
       ·exact HSC.out _ K5
       clear hK K h4 K4
       (try simp only [Act.put, List.setIfInBounds_toArray, List.set_cons_zero, List.set_cons_succ])
       refine tV 7 48 ?_
       refine tV 8 56 ?_
       refine tV 9 57 ?_
       exact main V5 gz z b q gs b3 q3 x5 q5 ⟨K5, ZB, HZ, ZM, RE, HLE, HQM, HFAR, NG⟩
     ·go_simp
      refine hK.out _ _ ?_ (fun HH => ?_)
      ·exact HSC.out _ (K2.below (below_one _ (.cells #[.int .i64 0, .int .i64 0, .slice none 0 0, .slice none 0 0, .slice none 0 0, .slice none 0 0] 39)))
      clear hK K
      (try simp only [Act.put, List.setIfInBounds_toArray, List.set_cons_zero, List.set_cons_succ])
      have ZB : SB w V2.heap.size 39 saO (V2.alloc (.cells #[.int .i64 0, .int .i64 0, .slice none 0 0, .slice none 0 0, .slice none 0 0, .slice none 0 0] 39)) := SB.new K2.fs.frame (SaAt.zero V2) 39
      have NG : w.heap.size ≠ V2.heap.size ∧ g1 ≠ V2.heap.size ∧ g2 ≠ V2.heap.size := ⟨Nat.ne_of_lt K2.fs.lt, Nat.ne_of_lt K2.fy.lt, Nat.ne_of_lt (heap_lt K2.fe.blk)⟩
      have K3 := K2.below (below_one V2 (.cells #[.int .i64 0, .int .i64 0, .slice none 0 0, .slice none 0 0, .slice none 0 0, .slice none 0 0] 39))
      replace RB := RB.below (below_one V2 (.cells #[.int .i64 0, .int .i64 0, .slice none 0 0, .slice none 0 0, .slice none 0 0, .slice none 0 0] 39))
      replace RM := RM.below (below_one V2 (.cells #[.int .i64 0, .int .i64 0, .slice none 0 0, .slice none 0 0, .slice none 0 0, .slice none 0 0] 39))
      clear K2
      generalize V2.alloc (.cells #[.int .i64 0, .int .i64 0, .slice none 0 0, .slice none 0 0, .slice none 0 0, .slice none 0 0] 39) = V3 at *
      generalize V2.heap.size = gz at *
      clear HH
      refine wpAnyH_ready (rs := [5]) (by kernel_rfl) (by simp) ?_
      refine AllReadyH.cons (o := ⟨some 54, _, _, _, _, _⟩) rfl (fun K hK => ?_) AllReadyH.nil
      obtain ⟨x5, q5, V4, hr5, R5, h3⟩ := ev_join V3 32 ⟨gs, 0, none⟩ b3 [v] m q3 RB RM HML.out
      have hr6 : (Builtin.append_ #[32, 32] 32 #[.slice (some ⟨gs, 0, none⟩) 1 1, .slice b3 m.length q3]).run Tryz.prog V3 = .ok (.slice x5 (1 + m.length) q5) V4 := hr5
      clear hr5
      refine step_run rfl (.tmp 51) (.tmp 53) _ _ rfl _ _ rfl rfl _ _ hr6 ?_
      have K4 := K3.below h3
      replace ZB := ZB.below h3
      replace RB := RB.below h3
      replace RM := RM.below h3
      refine hK.out _ _ ?_ (fun HH => ?_)
      ·exact HSC.out _ K4
      clear hK K hr6 RB RM h3 K3
      (try simp only [Act.put, List.setIfInBounds_toArray, List.set_cons_zero, List.set_cons_succ])
      clear HH
      refine wpAnyH_ready (rs := [6]) (by kernel_rfl) (by simp) ?_
      refine AllReadyH.cons (o := ⟨some 55, _, _, _, _, _⟩) rfl (fun K hK => ?_) AllReadyH.nil
      go_simp
      refine (HFA.out y hym x5 q5 _ K4.fy.at_ R5).mono ?_
      rintro r14 V5 ⟨z, b, q, rfl, HZ, ZM, RE, HLE, HQM, LOW, h4⟩
      have K5 := K4.below h4
      have HFAR : ∀ k o, b = some ⟨k, o, none⟩ → EA ≠ [] → k ≠ gz := fun k o e _ h => by have h1 := LOW k o e; have h2 := ZB.lt; omega
      replace ZB := ZB.below h4
      replace R5 := R5.below h4
      clear R5 LOW
      go_wp2_with fail
      refine hK.out _ _ ?_ (fun HH => ?_)
      ·exact HSC.out _ K5
      clear hK K h4 K4
      (try simp only [Act.put, List.setIfInBounds_toArray, List.set_cons_zero, List.set_cons_succ])
      refine tV 7 48 ?_
      refine tV 8 56 ?_
      refine tV 9 57 ?_
      exact main V5 gz z b q gs b3 q3 x5 q5 ⟨K5, ZB, HZ, ZM, RE, HLE, HQM, HFAR, NG⟩
    ·go_simp
     refine hK.out _ _ ?_ (fun HH => ?_)
     ·exact HSC.out _ (K1.below (below_one _ (.cells #[.int .i64 0, .int .i64 0, .slice none 0 0, .slice none 0 0, .slice none 0 0, .slice none 0 0] 39)))
     clear hK K
     (try simp only [Act.put, List.setIfInBounds_toArray, List.set_cons_zero, List.set_cons_succ])
     have ZB : SB w V1.heap.size 39 saO (V1.alloc (.cells #[.int .i64 0, .int .i64 0, .slice none 0 0, .slice none 0 0, .slice none 0 0, .slice none 0 0] 39)) := SB.new K1.fs.frame (SaAt.zero V1) 39
     have NG : w.heap.size ≠ V1.heap.size ∧ g1 ≠ V1.heap.size ∧ g2 ≠ V1.heap.size := ⟨Nat.ne_of_lt K1.fs.lt, Nat.ne_of_lt K1.fy.lt, Nat.ne_of_lt (heap_lt K1.fe.blk)⟩
     have K2 := K1.below (below_one V1 (.cells #[.int .i64 0, .int .i64 0, .slice none 0 0, .slice none 0 0, .slice none 0 0, .slice none 0 0] 39))
     replace RM := RM.below (below_one V1 (.cells #[.int .i64 0, .int .i64 0, .slice none 0 0, .slice none 0 0, .slice none 0 0, .slice none 0 0] 39))
     clear K1
     generalize V1.alloc (.cells #[.int .i64 0, .int .i64 0, .slice none 0 0, .slice none 0 0, .slice none 0 0, .slice none 0 0] 39) = V2 at *
     generalize V1.heap.size = gz at *
     clear HH
     refine wpAnyH_ready (rs := [2]) (by kernel_rfl) (by simp) ?_
     refine AllReadyH.cons (o := ⟨some 51, _, _, _, _, _⟩) rfl (fun K hK => ?_) AllReadyH.nil
     go_simp
     refine hK.out _ _ ?_ (fun HH => ?_)
     ·exact HSC.out _ (K2.below (below_one _ (.cells #[.int .i64 v.kind, .int .i64 v.at_, .string v.user, .string v.other, .int .i64 v.n, .int .i64 v.status] 64)))
     clear hK K
     (try simp only [Act.put, List.setIfInBounds_toArray, List.set_cons_zero, List.set_cons_succ])
     have RB : EvSl (V2.alloc (.cells #[.int .i64 v.kind, .int .i64 v.at_, .string v.user, .string v.other, .int .i64 v.n, .int .i64 v.status] 64)) (some ⟨V2.heap.size, 0, none⟩) [v] := EvSl.lit V2 _ _ [v] [] _ rfl rfl
     have K3 := K2.below (below_one V2 (.cells #[.int .i64 v.kind, .int .i64 v.at_, .string v.user, .string v.other, .int .i64 v.n, .int .i64 v.status] 64))
     replace ZB := ZB.below (below_one V2 (.cells #[.int .i64 v.kind, .int .i64 v.at_, .string v.user, .string v.other, .int .i64 v.n, .int .i64 v.status] 64))
     replace RM := RM.below (below_one V2 (.cells #[.int .i64 v.kind, .int .i64 v.at_, .string v.user, .string v.other, .int .i64 v.n, .int .i64 v.status] 64))
     clear K2
     generalize V2.alloc (.cells #[.int .i64 v.kind, .int .i64 v.at_, .string v.user, .string v.other, .int .i64 v.n, .int .i64 v.status] 64) = V3 at *
     generalize V2.heap.size = gs at *
     clear HH
     refine wpAnyH_ready (rs := [5]) (by kernel_rfl) (by simp) ?_
     refine AllReadyH.cons (o := ⟨some 54, _, _, _, _, _⟩) rfl (fun K hK => ?_) AllReadyH.nil
     obtain ⟨x5, q5, V4, hr5, R5, h3⟩ := ev_join V3 32 ⟨gs, 0, none⟩ b3 [v] m q3 RB RM HML.out
     have hr6 : (Builtin.append_ #[32, 32] 32 #[.slice (some ⟨gs, 0, none⟩) 1 1, .slice b3 m.length q3]).run Tryz.prog V3 = .ok (.slice x5 (1 + m.length) q5) V4 := hr5
     clear hr5
     refine step_run rfl (.tmp 51) (.tmp 53) _ _ rfl _ _ rfl rfl _ _ hr6 ?_
     have K4 := K3.below h3
     replace ZB := ZB.below h3
     replace RB := RB.below h3
     replace RM := RM.below h3
     refine hK.out _ _ ?_ (fun HH => ?_)
     ·exact HSC.out _ K4
     clear hK K hr6 RB RM h3 K3
     (try simp only [Act.put, List.setIfInBounds_toArray, List.set_cons_zero, List.set_cons_succ])
     clear HH
     refine wpAnyH_ready (rs := [6]) (by kernel_rfl) (by simp) ?_
     refine AllReadyH.cons (o := ⟨some 55, _, _, _, _, _⟩) rfl (fun K hK => ?_) AllReadyH.nil
     go_simp
     refine (HFA.out y hym x5 q5 _ K4.fy.at_ R5).mono ?_
     rintro r14 V5 ⟨z, b, q, rfl, HZ, ZM, RE, HLE, HQM, LOW, h4⟩
     have K5 := K4.below h4
     have HFAR : ∀ k o, b = some ⟨k, o, none⟩ → EA ≠ [] → k ≠ gz := fun k o e _ h => by have h1 := LOW k o e; have h2 := ZB.lt; omega
     replace ZB := ZB.below h4
     replace R5 := R5.below h4
     clear R5 LOW
     go_wp2_with fail
     refine hK.out _ _ ?_ (fun HH => ?_)
     ·exact HSC.out _ K5
     clear hK K h4 K4
     (try simp only [Act.put, List.setIfInBounds_toArray, List.set_cons_zero, List.set_cons_succ])
     refine tV 7 48 ?_
     refine tV 8 56 ?_
     refine tV 9 57 ?_
     exact main V5 gz z b q gs b3 q3 x5 q5 ⟨K5, ZB, HZ, ZM, RE, HLE, HQM, HFAR, NG⟩
   ·go_simp
    refine hK.out _ _ ?_ (fun HH => ?_)
    ·exact HSC.out _ (K0.below (below_one _ (.cells #[.int .i64 0, .int .i64 0, .slice none 0 0, .slice none 0 0, .slice none 0 0, .slice none 0 0] 39)))
    clear hK K
    (try simp only [Act.put, List.setIfInBounds_toArray, List.set_cons_zero, List.set_cons_succ])
    have ZB : SB w V0.heap.size 39 saO (V0.alloc (.cells #[.int .i64 0, .int .i64 0, .slice none 0 0, .slice none 0 0, .slice none 0 0, .slice none 0 0] 39)) := SB.new K0.fs.frame (SaAt.zero V0) 39
    have NG : w.heap.size ≠ V0.heap.size ∧ g1 ≠ V0.heap.size ∧ g2 ≠ V0.heap.size := ⟨Nat.ne_of_lt K0.fs.lt, Nat.ne_of_lt K0.fy.lt, Nat.ne_of_lt (heap_lt K0.fe.blk)⟩
    have K1 := K0.below (below_one V0 (.cells #[.int .i64 0, .int .i64 0, .slice none 0 0, .slice none 0 0, .slice none 0 0, .slice none 0 0] 39))
    generalize V0.alloc (.cells #[.int .i64 0, .int .i64 0, .slice none 0 0, .slice none 0 0, .slice none 0 0, .slice none 0 0] 39) = V1 at *
    generalize V0.heap.size = gz at *
    clear HH
    refine wpAnyH_ready (rs := [2, 4]) (by kernel_rfl) (by simp) ?_
    refine AllReadyH.cons (o := ⟨some 51, _, _, _, _, _⟩) rfl (fun K hK => ?_) (AllReadyH.cons (o := ⟨some 53, _, _, _, _, _⟩) rfl (fun K hK => ?_) AllReadyH.nil)
    ·go_simp
     refine hK.out _ _ ?_ (fun HH => ?_)
     ·exact HSC.out _ (K1.below (below_one _ (.cells #[.int .i64 v.kind, .int .i64 v.at_, .string v.user, .string v.other, .int .i64 v.n, .int .i64 v.status] 64)))
     clear hK K
     (try simp only [Act.put, List.setIfInBounds_toArray, List.set_cons_zero, List.set_cons_succ])
     have RB : EvSl (V1.alloc (.cells #[.int .i64 v.kind, .int .i64 v.at_, .string v.user, .string v.other, .int .i64 v.n, .int .i64 v.status] 64)) (some ⟨V1.heap.size, 0, none⟩) [v] := EvSl.lit V1 _ _ [v] [] _ rfl rfl
     have K2 := K1.below (below_one V1 (.cells #[.int .i64 v.kind, .int .i64 v.at_, .string v.user, .string v.other, .int .i64 v.n, .int .i64 v.status] 64))
     replace ZB := ZB.below (below_one V1 (.cells #[.int .i64 v.kind, .int .i64 v.at_, .string v.user, .string v.other, .int .i64 v.n, .int .i64 v.status] 64))
     clear K1
     generalize V1.alloc (.cells #[.int .i64 v.kind, .int .i64 v.at_, .string v.user, .string v.other, .int .i64 v.n, .int .i64 v.status] 64) = V2 at *
     generalize V1.heap.size = gs at *
     clear HH
     refine wpAnyH_ready (rs := [4]) (by kernel_rfl) (by simp) ?_
     refine AllReadyH.cons (o := ⟨some 53, _, _, _, _, _⟩) rfl (fun K hK => ?_) AllReadyH.nil
     go_simp
     refine (HNM.out _ K2.m).mono ?_
     rintro r12 V3 ⟨b3, q3, rfl, RM, -, -, -, h2⟩
     have K3 := K2.below h2
     replace ZB := ZB.below h2
     replace RB := RB.below h2
     go_wp2_with fail
     refine hK.out _ _ ?_ (fun HH => ?_)
     ·exact HSC.out _ K3
     clear hK K h2 K2
     (try simp only [Act.put, List.setIfInBounds_toArray, List.set_cons_zero, List.set_cons_succ])
     clear HH
     refine wpAnyH_ready (rs := [5]) (by kernel_rfl) (by simp) ?_
     refine AllReadyH.cons (o := ⟨some 54, _, _, _, _, _⟩) rfl (fun K hK => ?_) AllReadyH.nil
     obtain ⟨x5, q5, V4, hr5, R5, h3⟩ := ev_join V3 32 ⟨gs, 0, none⟩ b3 [v] m q3 RB RM HML.out
     have hr6 : (Builtin.append_ #[32, 32] 32 #[.slice (some ⟨gs, 0, none⟩) 1 1, .slice b3 m.length q3]).run Tryz.prog V3 = .ok (.slice x5 (1 + m.length) q5) V4 := hr5
     clear hr5
     refine step_run rfl (.tmp 51) (.tmp 53) _ _ rfl _ _ rfl rfl _ _ hr6 ?_
     have K4 := K3.below h3
     replace ZB := ZB.below h3
     replace RB := RB.below h3
     replace RM := RM.below h3
     refine hK.out _ _ ?_ (fun HH => ?_)
     ·exact HSC.out _ K4
     clear hK K hr6 RB RM h3 K3
     (try simp only [Act.put, List.setIfInBounds_toArray, List.set_cons_zero, List.set_cons_succ])
     clear HH
     refine wpAnyH_ready (rs := [6]) (by kernel_rfl) (by simp) ?_
     refine AllReadyH.cons (o := ⟨some 55, _, _, _, _, _⟩) rfl (fun K hK => ?_) AllReadyH.nil
     go_simp
     refine (HFA.out y hym x5 q5 _ K4.fy.at_ R5).mono ?_
     rintro r14 V5 ⟨z, b, q, rfl, HZ, ZM, RE, HLE, HQM, LOW, h4⟩
     have K5 := K4.below h4
     have HFAR : ∀ k o, b = some ⟨k, o, none⟩ → EA ≠ [] → k ≠ gz := fun k o e _ h => by have h1 := LOW k o e; have h2 := ZB.lt; omega
     replace ZB := ZB.below h4
     replace R5 := R5.below h4
     clear R5 LOW
     go_wp2_with fail
     refine hK.out _ _ ?_ (fun HH => ?_)
     ·exact HSC.out _ K5
     clear hK K h4 K4
     (try simp only [Act.put, List.setIfInBounds_toArray, List.set_cons_zero, List.set_cons_succ])
     refine tV 7 48 ?_
     refine tV 8 56 ?_
     refine tV 9 57 ?_
     exact main V5 gz z b q gs b3 q3 x5 q5 ⟨K5, ZB, HZ, ZM, RE, HLE, HQM, HFAR, NG⟩
    ·go_simp
     refine (HNM.out _ K1.m).mono ?_
     rintro r11 V2 ⟨b3, q3, rfl, RM, -, -, -, h1⟩
     have K2 := K1.below h1
     replace ZB := ZB.below h1
     go_wp2_with fail
     refine hK.out _ _ ?_ (fun HH => ?_)
     ·exact HSC.out _ K2
     clear hK K h1 K1
     (try simp only [Act.put, List.setIfInBounds_toArray, List.set_cons_zero, List.set_cons_succ])
     clear HH
     refine wpAnyH_ready (rs := [2]) (by kernel_rfl) (by simp) ?_
     refine AllReadyH.cons (o := ⟨some 51, _, _, _, _, _⟩) rfl (fun K hK => ?_) AllReadyH.nil
     go_simp
     refine hK.out _ _ ?_ (fun HH => ?_)
     ·exact HSC.out _ (K2.below (below_one _ (.cells #[.int .i64 v.kind, .int .i64 v.at_, .string v.user, .string v.other, .int .i64 v.n, .int .i64 v.status] 64)))
     clear hK K
     (try simp only [Act.put, List.setIfInBounds_toArray, List.set_cons_zero, List.set_cons_succ])
     have RB : EvSl (V2.alloc (.cells #[.int .i64 v.kind, .int .i64 v.at_, .string v.user, .string v.other, .int .i64 v.n, .int .i64 v.status] 64)) (some ⟨V2.heap.size, 0, none⟩) [v] := EvSl.lit V2 _ _ [v] [] _ rfl rfl
     have K3 := K2.below (below_one V2 (.cells #[.int .i64 v.kind, .int .i64 v.at_, .string v.user, .string v.other, .int .i64 v.n, .int .i64 v.status] 64))
     replace ZB := ZB.below (below_one V2 (.cells #[.int .i64 v.kind, .int .i64 v.at_, .string v.user, .string v.other, .int .i64 v.n, .int .i64 v.status] 64))
     replace RM := RM.below (below_one V2 (.cells #[.int .i64 v.kind, .int .i64 v.at_, .string v.user, .string v.other, .int .i64 v.n, .int .i64 v.status] 64))
     clear K2
     generalize V2.alloc (.cells #[.int .i64 v.kind, .int .i64 v.at_, .string v.user, .string v.other, .int .i64 v.n, .int .i64 v.status] 64) = V3 at *
     generalize V2.heap.size = gs at *
     clear HH
     refine wpAnyH_ready (rs := [5]) (by kernel_rfl) (by simp) ?_
     refine AllReadyH.cons (o := ⟨some 54, _, _, _, _, _⟩) rfl (fun K hK => ?_) AllReadyH.nil
     obtain ⟨x5, q5, V4, hr5, R5, h3⟩ := ev_join V3 32 ⟨gs, 0, none⟩ b3 [v] m q3 RB RM HML.out
     have hr6 : (Builtin.append_ #[32, 32] 32 #[.slice (some ⟨gs, 0, none⟩) 1 1, .slice b3 m.length q3]).run Tryz.prog V3 = .ok (.slice x5 (1 + m.length) q5) V4 := hr5
     clear hr5
     refine step_run rfl (.tmp 51) (.tmp 53) _ _ rfl _ _ rfl rfl _ _ hr6 ?_
     have K4 := K3.below h3
     replace ZB := ZB.below h3
     replace RB := RB.below h3
     replace RM := RM.below h3
     refine hK.out _ _ ?_ (fun HH => ?_)
     ·exact HSC.out _ K4
     clear hK K hr6 RB RM h3 K3
     (try simp only [Act.put, List.setIfInBounds_toArray, List.set_cons_zero, List.set_cons_succ])
     clear HH
     refine wpAnyH_ready (rs := [6]) (by kernel_rfl) (by simp) ?_
     refine AllReadyH.cons (o := ⟨some 55, _, _, _, _, _⟩) rfl (fun K hK => ?_) AllReadyH.nil
     go_simp
     refine (HFA.out y hym x5 q5 _ K4.fy.at_ R5).mono ?_
     rintro r14 V5 ⟨z, b, q, rfl, HZ, ZM, RE, HLE, HQM, LOW, h4⟩
     have K5 := K4.below h4
     have HFAR : ∀ k o, b = some ⟨k, o, none⟩ → EA ≠ [] → k ≠ gz := fun k o e _ h => by have h1 := LOW k o e; have h2 := ZB.lt; omega
     replace ZB := ZB.below h4
     replace R5 := R5.below h4
     clear R5 LOW
     go_wp2_with fail
     refine hK.out _ _ ?_ (fun HH => ?_)
     ·exact HSC.out _ K5
     clear hK K h4 K4
     (try simp only [Act.put, List.setIfInBounds_toArray, List.set_cons_zero, List.set_cons_succ])
     refine tV 7 48 ?_
     refine tV 8 56 ?_
     refine tV 9 57 ?_
     exact main V5 gz z b q gs b3 q3 x5 q5 ⟨K5, ZB, HZ, ZM, RE, HLE, HQM, HFAR, NG⟩
  ·intro T g3 za b3 ex gs n3 n4 x5 x6 hF
   obtain ⟨KS, ZA, hz, zm, RE, hle, hqm, hfar, NG⟩ := hF
   have ZA2 := ZA
   unfold saO at ZA2
   obtain ⟨z0, z1, z2, z3, z4, z5⟩ := ZA2.cells
   obtain ⟨f0, f1, f2, f3, f4, f5⟩ := ZA2.free
   have zl := ZA2.lt
   dsimp only [List.length_nil] at z0 z1 z2 z3 z4 z5
   obtain ⟨KT, OB⟩ := KS.over ZA hz NG.1 NG.2.1 NG.2.2
   have RE2 := ErSl.setNe RE hfar za
   unfold setS at KT OB RE2
   clear ZA2
   refine wpAnyH_ready (rs := [11]) (by kernel_rfl) (by simp) ?_
   refine AllReadyH.cons (o := ⟨none, _, _, _, _, _⟩) rfl (fun K hK => ?_) AllReadyH.nil
   go_simp
   refine hK.out _ _ ?_ (fun HH => ?_)
   ·exact HSC.out _ KT
   clear hK K z0 z1 z2 z3 z4 z5 f0 f1 f2 f3 f4 f5 zl KS ZA hz RE hle hqm hfar NG
   (try simp only [Act.put, List.setIfInBounds_toArray, List.set_cons_zero, List.set_cons_succ])
   refine tV 12 13 ?_
   refine wpAnyH_done (by kernel_rfl) ?_ _
   clear HH HSC KK K0
   generalize ((((((T.setCell ⟨g3, 0, none⟩ (.int .i64 za.now)).setCell ⟨g3, 1, none⟩ (.int .i64 za.hor)).setCell ⟨g3, 2, none⟩ (.slice za.oa za.op.length za.oc)).setCell ⟨g3, 3, none⟩ (.slice za.ua za.us.length za.uc)).setCell ⟨g3, 4, none⟩ (.slice za.sa za.su.length za.sc)).setCell ⟨g3, 5, none⟩ (.slice za.ta za.tb.length za.tc)) = T7 at *
   have zam := zm
   obtain ⟨B3, hB3⟩ : ∃ B, B = T7.heap.size := ⟨_, rfl⟩
   have KK : FfK w g1 y g2 v t1 TT a2 m g3 za b3 EA B3 T7 := ⟨KT.fs, KT.fy, KT.fe, KT.fn, OB, hB3 ▸ ErB.of RE2, KT.m⟩
   clear KT OB RE2 hB3 zm HFA
   go_wp2_with fail
   have HSC : Hid (∀ V, FfK w g1 y g2 v t1 TT a2 m g3 za b3 EA B3 V → V.cell? ⟨w.heap.size, 0, none⟩ = some (.int .i64 0) ∧ V.cell? ⟨w.heap.size, 1, none⟩ = some (.int .i64 0) ∧ V.cell? ⟨w.heap.size, 2, none⟩ = some (.slice none 0 0) ∧ V.cell? ⟨w.heap.size, 3, none⟩ = some (.slice none 0 0) ∧ V.cell? ⟨w.heap.size, 4, none⟩ = some (.slice none 0 0) ∧ V.cell? ⟨w.heap.size, 5, none⟩ = some (.slice none 0 0)) := Lib.hid fun V h => by
    obtain ⟨qfs0, qfs1, qfs2, qfs3, qfs4, qfs5⟩ := h.fs.cells
    exact ⟨qfs0, qfs1, qfs2, qfs3, qfs4, qfs5⟩
   have HBL : Hid (∀ V V', FfK w g1 y g2 v t1 TT a2 m g3 za b3 EA B3 V → Below V.heap.size V V' → FfK w g1 y g2 v t1 TT a2 m g3 za b3 EA B3 V') := Lib.hid fun V V' h q => h.below q
   apply funnel7 (F := fun T8 g4 zb b8 q8 b4 q4 => FfK w g1 y g2 v t1 TT a2 m g3 za b3 EA B3 T8 ∧ SB w g4 39 zb T8 ∧ ErSl T8 b4 E0 ∧ zb.m = N2)
   ·intro main
    have K0 := KK.below (Below.refl T7.heap.size T7).drew
    have K0b := (KK.below (below_one T7 (.cells #[.int .i64 0, .int .i64 0, .slice none 0 0, .slice none 0 0, .slice none 0 0, .slice none 0 0] 39))).below (Below.refl _ _).drew
    have Z0b : SB w T7.heap.size 39 saO (T7.alloc (.cells #[.int .i64 0, .int .i64 0, .slice none 0 0, .slice none 0 0, .slice none 0 0, .slice none 0 0] 39)).drew := SB.drew (SB.new KK.fs.frame (SaAt.zero T7) 39)
    have NG0 : w.heap.size ≠ T7.heap.size ∧ g1 ≠ T7.heap.size ∧ g2 ≠ T7.heap.size ∧ g3 ≠ T7.heap.size ∧ B3 ≤ T7.heap.size := ⟨Nat.ne_of_lt KK.fs.lt, Nat.ne_of_lt KK.fy.lt, Nat.ne_of_lt (heap_lt KK.fe.blk), Nat.ne_of_lt KK.fa.lt, KK.fx.sz⟩
    go_region_held3 (fun V => V.cell? ⟨w.heap.size, 0, none⟩ = some (.int .i64 0) ∧ V.cell? ⟨w.heap.size, 1, none⟩ = some (.int .i64 0) ∧ V.cell? ⟨w.heap.size, 2, none⟩ = some (.slice none 0 0) ∧ V.cell? ⟨w.heap.size, 3, none⟩ = some (.slice none 0 0) ∧ V.cell? ⟨w.heap.size, 4, none⟩ = some (.slice none 0 0) ∧ V.cell? ⟨w.heap.size, 5, none⟩ = some (.slice none 0 0))
     (first | with_reducible exact HSC.out _ KT | with_reducible exact HSC.out _ K2b | with_reducible exact HSC.out _ K2 | with_reducible exact HSC.out _ K1b | with_reducible exact HSC.out _ K1 | with_reducible exact HSC.out _ K0b | with_reducible exact HSC.out _ K0)
     (first | (have hseen := K1; clear hseen; go_at_call 22; (first | ((try have ZL2 := Z1.lt); refine (HF2.out b8 q8 _ K1.fs.at_ p8).mono ?_; rintro r v2 ⟨zb, b4, q4, rfl, hzb, hzbm, p9, le9, qm9, l9, h2⟩; have K2 := HBL.out _ _ K1 h2; (try have Z2 := Z1.below h2); have p8 := p8.below h2) | (have ZL2 := Z1b.lt; refine (HF2.out b8 q8 _ K1b.fs.at_ p8b).mono ?_; rintro r v2 ⟨zb, b4, q4, rfl, hzb, hzbm, p9, le9, qm9, l9, h2⟩; have K2 := HBL.out _ _ K1b h2; have Z2 := Z1b.below h2; have p8 := p8b.below h2)); have NG2 : w.heap.size ≠ v2.heap.size ∧ g1 ≠ v2.heap.size ∧ g2 ≠ v2.heap.size ∧ g3 ≠ v2.heap.size ∧ B3 ≤ v2.heap.size := ⟨Nat.ne_of_lt K2.fs.lt, Nat.ne_of_lt K2.fy.lt, Nat.ne_of_lt (heap_lt K2.fe.blk), Nat.ne_of_lt K2.fa.lt, K2.fx.sz⟩; (first | (have hzz := Z2; unfold saO at hzz; obtain ⟨z0, z1, z2, z3, z4, z5⟩ := hzz.cells; obtain ⟨f0, f1, f2, f3, f4, f5⟩ := hzz.free; have hzl := hzz.lt; dsimp only [List.length_nil] at z0 z1 z2 z3 z4 z5; clear hzz; (first | (have OV := K2.over Z2 hzb NG0.1 NG0.2.1 NG0.2.2.1 NG0.2.2.2.1 NG0.2.2.2.2; have NE := Lib.hid NG0) | (have OV := K2.over Z2 hzb NG1.1 NG1.2.1 NG1.2.2.1 NG1.2.2.2.1 NG1.2.2.2.2; have NE := Lib.hid NG1)); have Tp9 := ErSl.setFar p9 (fun k o e => Nat.lt_of_lt_of_le ZL2 (l9 k o e)) zb; unfold setS at Tp9; (try dsimp only at Tp9); obtain ⟨KT, OB⟩ := OV; unfold setS at OB KT; (try dsimp only at OB KT)) | (have K2b := K2.below (below_one v2 (.cells #[.int .i64 0, .int .i64 0, .slice none 0 0, .slice none 0 0, .slice none 0 0, .slice none 0 0] 39)); have OB : SB w v2.heap.size 39 zb (v2.alloc (.cells #[.int .i64 zb.now, .int .i64 zb.hor, .slice zb.oa zb.op.length zb.oc, .slice zb.ua zb.us.length zb.uc, .slice zb.sa zb.su.length zb.sc, .slice zb.ta zb.tb.length zb.tc] 39)) := SB.new K2.fs.frame hzb 39; have KT := K2.below (below_one v2 (.cells #[.int .i64 zb.now, .int .i64 zb.hor, .slice zb.oa zb.op.length zb.oc, .slice zb.ua zb.us.length zb.uc, .slice zb.sa zb.su.length zb.sc, .slice zb.ta zb.tb.length zb.tc] 39)); have NE := Lib.hid NG2; have Tp9 := p9.below (below_one v2 (.cells #[.int .i64 zb.now, .int .i64 zb.hor, .slice zb.oa zb.op.length zb.oc, .slice zb.ua zb.us.length zb.uc, .slice zb.sa zb.su.length zb.sc, .slice zb.ta zb.tb.length zb.tc] 39))))) | (have hseen := K0; clear hseen; go_at_call 33; (first | ((try have ZL1 := Z0.lt); refine (HWO.out t1 tq _ K0.fn).mono ?_; rintro r v1 ⟨b8, q8, rfl, p8, -, -, -, h1⟩; have K1 := HBL.out _ _ K0 h1; (try have Z1 := Z0.below h1)) | (have ZL1 := Z0b.lt; refine (HWO.out t1 tq _ K0b.fn).mono ?_; rintro r v1 ⟨b8, q8, rfl, p8, -, -, -, h1⟩; have K1 := HBL.out _ _ K0b h1; have Z1 := Z0b.below h1)); have NG1 : w.heap.size ≠ v1.heap.size ∧ g1 ≠ v1.heap.size ∧ g2 ≠ v1.heap.size ∧ g3 ≠ v1.heap.size ∧ B3 ≤ v1.heap.size := ⟨Nat.ne_of_lt K1.fs.lt, Nat.ne_of_lt K1.fy.lt, Nat.ne_of_lt (heap_lt K1.fe.blk), Nat.ne_of_lt K1.fa.lt, K1.fx.sz⟩; (first | (have hzz := Z1; clear hzz) | (have K1b := K1.below (below_one v1 (.cells #[.int .i64 0, .int .i64 0, .slice none 0 0, .slice none 0 0, .slice none 0 0, .slice none 0 0] 39)); have Z1b : SB w v1.heap.size 39 saO (v1.alloc (.cells #[.int .i64 0, .int .i64 0, .slice none 0 0, .slice none 0 0, .slice none 0 0, .slice none 0 0] 39)) := SB.new K1.fs.frame (SaAt.zero v1) 39; have p8b := p8.below (below_one v1 (.cells #[.int .i64 0, .int .i64 0, .slice none 0 0, .slice none 0 0, .slice none 0 0, .slice none 0 0] 39))))))
    all_goals
     have TK := Lib.hid KT
     have TO := Lib.hid OB
     replace Tp9 := Lib.hid Tp9
     clear KT OB K0 K0b Z0b NG0
     clear K1 NG1 h1
     (try clear K1b)
     (try clear Z1b)
     (try clear Z1)
     (try clear ZL1)
     clear K2 NG2 h2
     (try clear K2b)
     (try clear Z2b)
     (try clear Z2)
     (try clear ZL2)
     (try clear z0 z1 z2 z3 z4 z5 f0 f1 f2 f3 f4 f5 hzl)
     (try clear p8b)
     clear hzb p8 p9 l9 NE
     (first
      | (generalize ((((((v2.setCell ⟨T7.heap.size, 0, none⟩ (.int .i64 zb.now)).setCell ⟨T7.heap.size, 1, none⟩ (.int .i64 zb.hor)).setCell ⟨T7.heap.size, 2, none⟩ (.slice zb.oa zb.op.length zb.oc)).setCell ⟨T7.heap.size, 3, none⟩ (.slice zb.ua zb.us.length zb.uc)).setCell ⟨T7.heap.size, 4, none⟩ (.slice zb.sa zb.su.length zb.sc)).setCell ⟨T7.heap.size, 5, none⟩ (.slice zb.ta zb.tb.length zb.tc)) = T8 at *; generalize T7.heap.size = g4 at *; (have hseen : SB w g4 39 zb T8 := TO.out; clear hseen))
      | (generalize ((((((v2.setCell ⟨v1.heap.size, 0, none⟩ (.int .i64 zb.now)).setCell ⟨v1.heap.size, 1, none⟩ (.int .i64 zb.hor)).setCell ⟨v1.heap.size, 2, none⟩ (.slice zb.oa zb.op.length zb.oc)).setCell ⟨v1.heap.size, 3, none⟩ (.slice zb.ua zb.us.length zb.uc)).setCell ⟨v1.heap.size, 4, none⟩ (.slice zb.sa zb.su.length zb.sc)).setCell ⟨v1.heap.size, 5, none⟩ (.slice zb.ta zb.tb.length zb.tc)) = T8 at *; generalize v1.heap.size = g4 at *; (have hseen : SB w g4 39 zb T8 := TO.out; clear hseen))
      | (generalize v2.alloc (.cells #[.int .i64 zb.now, .int .i64 zb.hor, .slice zb.oa zb.op.length zb.oc, .slice zb.ua zb.us.length zb.uc, .slice zb.sa zb.su.length zb.sc, .slice zb.ta zb.tb.length zb.tc] 39) = T8 at *; generalize v2.heap.size = g4 at *; (have hseen : SB w g4 39 zb T8 := TO.out; clear hseen)))
     exact main T8 g4 zb b8 q8 b4 q4 ⟨TK.out, TO.out, Tp9.out, hzbm⟩
   ·intro T8 g4 zb b8 q8 b4 q4 hF
    clear HSC HBL KK
    obtain ⟨TK, TO, Tp9, hzbm⟩ := hF
    obtain ⟨B4, hB4⟩ : ∃ B, B = T8.heap.size := ⟨_, rfl⟩
    have KK : FgK w g1 y g2 v t1 TT a2 m g3 za b3 EA B3 g4 zb b4 E0 B4 T8 := ⟨TK.fs, TK.fy, TK.fe, TK.fn, TK.fa, TK.fx, TO, hB4 ▸ ErB.of Tp9, TK.m⟩
    clear TK TO Tp9 hB4 HWO HF2
    go_wp2_with fail
    have HSC : Hid (∀ V, FgK w g1 y g2 v t1 TT a2 m g3 za b3 EA B3 g4 zb b4 E0 B4 V → V.cell? ⟨g4, 0, none⟩ = some (.int .i64 zb.now) ∧ V.cell? ⟨g4, 1, none⟩ = some (.int .i64 zb.hor) ∧ V.cell? ⟨g4, 2, none⟩ = some (.slice zb.oa zb.op.length zb.oc) ∧ V.cell? ⟨g4, 3, none⟩ = some (.slice zb.ua zb.us.length zb.uc) ∧ V.cell? ⟨g4, 4, none⟩ = some (.slice zb.sa zb.su.length zb.sc) ∧ V.cell? ⟨g4, 5, none⟩ = some (.slice zb.ta zb.tb.length zb.tc) ∧ V.cell? ⟨g2, 0, none⟩ = some (.int .i64 v.kind) ∧ V.cell? ⟨g2, 1, none⟩ = some (.int .i64 v.at_) ∧ V.cell? ⟨g2, 2, none⟩ = some (.string v.user) ∧ V.cell? ⟨g2, 3, none⟩ = some (.string v.other) ∧ V.cell? ⟨g2, 4, none⟩ = some (.int .i64 v.n) ∧ V.cell? ⟨g2, 5, none⟩ = some (.int .i64 v.status)) := Lib.hid fun V h => by
     obtain ⟨qfz0, qfz1, qfz2, qfz3, qfz4, qfz5⟩ := h.fz.cells
     obtain ⟨qfe0, qfe1, qfe2, qfe3, qfe4, qfe5⟩ := h.fe.cells
     exact ⟨qfz0, qfz1, qfz2, qfz3, qfz4, qfz5, qfe0, qfe1, qfe2, qfe3, qfe4, qfe5⟩
    refine wp_region_held_drew (S := (fun V => V.cell? ⟨g4, 0, none⟩ = some (.int .i64 zb.now) ∧ V.cell? ⟨g4, 1, none⟩ = some (.int .i64 zb.hor) ∧ V.cell? ⟨g4, 2, none⟩ = some (.slice zb.oa zb.op.length zb.oc) ∧ V.cell? ⟨g4, 3, none⟩ = some (.slice zb.ua zb.us.length zb.uc) ∧ V.cell? ⟨g4, 4, none⟩ = some (.slice zb.sa zb.su.length zb.sc) ∧ V.cell? ⟨g4, 5, none⟩ = some (.slice zb.ta zb.tb.length zb.tc) ∧ V.cell? ⟨g2, 0, none⟩ = some (.int .i64 v.kind) ∧ V.cell? ⟨g2, 1, none⟩ = some (.int .i64 v.at_) ∧ V.cell? ⟨g2, 2, none⟩ = some (.string v.user) ∧ V.cell? ⟨g2, 3, none⟩ = some (.string v.other) ∧ V.cell? ⟨g2, 4, none⟩ = some (.int .i64 v.n) ∧ V.cell? ⟨g2, 5, none⟩ = some (.int .i64 v.status))) (by kernel_rfl) ?_ (fun HH => ?_)
    ·exact HSC.out _ (KK.below (Below.refl _ _).drew)
    have K0 := KK.below (Below.refl T8.heap.size T8).drew
    generalize T8.drew = V0 at *
    apply funnelE (F := fun T g5 zc b5 ey gs m3 m4 x7 x8 => FgK w g1 y g2 v t1 TT a2 m g3 za b3 EA B3 g4 zb b4 E0 B4 T ∧ SB w g5 39 saO T ∧ SaAt T zc ∧ zc.m = NA ∧ ErSl T b5 EA ∧ EA.length ≤ ey ∧ ey ≤ maxLen ∧ (∀ k o, b5 = some ⟨k, o, none⟩ → EA ≠ [] → k ≠ g5) ∧ w.heap.size ≠ g5 ∧ g1 ≠ g5 ∧ g2 ≠ g5 ∧ g3 ≠ g5 ∧ B3 ≤ g5 ∧ g4 ≠ g5 ∧ B4 ≤ g5)
    ·intro main
     refine tV 0 67 ?_
     refine tV 1 68 ?_
     refine tV 3 70 ?_
     refine wpAnyH_ready (rs := [2, 4, 10]) (by kernel_rfl) (by simp) ?_
     refine AllReadyH.cons (o := ⟨some 69, _, _, _, _, _⟩) rfl (fun K hK => ?_) (AllReadyH.cons (o := ⟨some 71, _, _, _, _, _⟩) rfl (fun K hK => ?_) (AllReadyH.cons (o := ⟨some 16, _, _, _, _, _⟩) rfl (fun K hK => ?_) AllReadyH.nil))
     ·go_simp
      refine hK.out _ _ ?_ (fun HH => ?_)
      ·exact HSC.out _ (K0.below (below_one _ (.cells #[.int .i64 v.kind, .int .i64 v.at_, .string v.user, .string v.other, .int .i64 v.n, .int .i64 v.status] 64)))
      clear hK K
      (try simp only [Act.put, List.setIfInBounds_toArray, List.set_cons_zero, List.set_cons_succ])
      have RB : EvSl (V0.alloc (.cells #[.int .i64 v.kind, .int .i64 v.at_, .string v.user, .string v.other, .int .i64 v.n, .int .i64 v.status] 64)) (some ⟨V0.heap.size, 0, none⟩) [v] := EvSl.lit V0 _ _ [v] [] _ rfl rfl
      have K1 := K0.below (below_one V0 (.cells #[.int .i64 v.kind, .int .i64 v.at_, .string v.user, .string v.other, .int .i64 v.n, .int .i64 v.status] 64))
      generalize V0.alloc (.cells #[.int .i64 v.kind, .int .i64 v.at_, .string v.user, .string v.other, .int .i64 v.n, .int .i64 v.status] 64) = V1 at *
      generalize V0.heap.size = gs at *
      clear HH
      refine wpAnyH_ready (rs := [4, 10]) (by kernel_rfl) (by simp) ?_
      refine AllReadyH.cons (o := ⟨some 71, _, _, _, _, _⟩) rfl (fun K hK => ?_) (AllReadyH.cons (o := ⟨some 16, _, _, _, _, _⟩) rfl (fun K hK => ?_) AllReadyH.nil)
      ·go_simp
       refine (HNM.out _ K1.m).mono ?_
       rintro r11 V2 ⟨b3, q3, rfl, RM, -, -, -, h1⟩
       have K2 := K1.below h1
       replace RB := RB.below h1
       go_wp2_with fail
       refine hK.out _ _ ?_ (fun HH => ?_)
       ·exact HSC.out _ K2
       clear hK K h1 K1
       (try simp only [Act.put, List.setIfInBounds_toArray, List.set_cons_zero, List.set_cons_succ])
       clear HH
       refine wpAnyH_ready (rs := [5, 10]) (by kernel_rfl) (by simp) ?_
       refine AllReadyH.cons (o := ⟨some 72, _, _, _, _, _⟩) rfl (fun K hK => ?_) (AllReadyH.cons (o := ⟨some 16, _, _, _, _, _⟩) rfl (fun K hK => ?_) AllReadyH.nil)
       ·obtain ⟨x5, q5, V3, hr5, R5, h2⟩ := ev_join V2 32 ⟨gs, 0, none⟩ b3 [v] m q3 RB RM HML.out
        have hr6 : (Builtin.append_ #[32, 32] 32 #[.slice (some ⟨gs, 0, none⟩) 1 1, .slice b3 m.length q3]).run Tryz.prog V2 = .ok (.slice x5 (1 + m.length) q5) V3 := hr5
        clear hr5
        refine step_run rfl (.tmp 69) (.tmp 71) _ _ rfl _ _ rfl rfl _ _ hr6 ?_
        have K3 := K2.below h2
        replace RB := RB.below h2
        replace RM := RM.below h2
        refine hK.out _ _ ?_ (fun HH => ?_)
        ·exact HSC.out _ K3
        clear hK K hr6 RB RM h2 K2
        (try simp only [Act.put, List.setIfInBounds_toArray, List.set_cons_zero, List.set_cons_succ])
        clear HH
        refine wpAnyH_ready (rs := [6, 10]) (by kernel_rfl) (by simp) ?_
        refine AllReadyH.cons (o := ⟨some 73, _, _, _, _, _⟩) rfl (fun K hK => ?_) (AllReadyH.cons (o := ⟨some 16, _, _, _, _, _⟩) rfl (fun K hK => ?_) AllReadyH.nil)
        ·go_simp
         refine (HFB.out zb hzbm x5 q5 _ K3.fz.at_ R5).mono ?_
         rintro r13 V4 ⟨z, b, q, rfl, HZ, ZM, RE, HLE, HQM, LOW, h3⟩
         have K4 := K3.below h3
         replace R5 := R5.below h3
         clear R5 LOW
         go_wp2_with fail
         refine hK.out _ _ ?_ (fun HH => ?_)
         ·exact HSC.out _ K4
         clear hK K h3 K3
         (try simp only [Act.put, List.setIfInBounds_toArray, List.set_cons_zero, List.set_cons_succ])
         refine tV 7 66 ?_
         refine tV 8 74 ?_
         refine tV 9 75 ?_
         clear HH
         refine wpAnyH_ready (rs := [10]) (by kernel_rfl) (by simp) ?_
         refine AllReadyH.cons (o := ⟨some 16, _, _, _, _, _⟩) rfl (fun K hK => ?_) AllReadyH.nil
         go_simp
         refine hK.out _ _ ?_ (fun HH => ?_)
         ·exact HSC.out _ (K4.below (below_one _ (.cells #[.int .i64 0, .int .i64 0, .slice none 0 0, .slice none 0 0, .slice none 0 0, .slice none 0 0] 39)))
         clear hK K
         (try simp only [Act.put, List.setIfInBounds_toArray, List.set_cons_zero, List.set_cons_succ])
         have ZB : SB w V4.heap.size 39 saO (V4.alloc (.cells #[.int .i64 0, .int .i64 0, .slice none 0 0, .slice none 0 0, .slice none 0 0, .slice none 0 0] 39)) := SB.new K4.fs.frame (SaAt.zero V4) 39
         have NG : w.heap.size ≠ V4.heap.size ∧ g1 ≠ V4.heap.size ∧ g2 ≠ V4.heap.size ∧ g3 ≠ V4.heap.size ∧ B3 ≤ V4.heap.size ∧ g4 ≠ V4.heap.size ∧ B4 ≤ V4.heap.size := ⟨Nat.ne_of_lt K4.fs.lt, Nat.ne_of_lt K4.fy.lt, Nat.ne_of_lt (heap_lt K4.fe.blk), Nat.ne_of_lt K4.fa.lt, K4.fx.sz, Nat.ne_of_lt K4.fz.lt, K4.fo.sz⟩
         have HFAR : ∀ k o, b = some ⟨k, o, none⟩ → EA ≠ [] → k ≠ V4.heap.size := fun k o e hE h => by obtain ⟨b', o', e', hlt, -⟩ := RE 0 (by rw [ers_len]; exact List.length_pos_iff.2 hE); rw [e] at e'; injection e' with e'; injection e' with e1 e2; omega
         have K5 := K4.below (below_one V4 (.cells #[.int .i64 0, .int .i64 0, .slice none 0 0, .slice none 0 0, .slice none 0 0, .slice none 0 0] 39))
         replace HZ := HZ.below (below_one V4 (.cells #[.int .i64 0, .int .i64 0, .slice none 0 0, .slice none 0 0, .slice none 0 0, .slice none 0 0] 39))
         replace RE := RE.below (below_one V4 (.cells #[.int .i64 0, .int .i64 0, .slice none 0 0, .slice none 0 0, .slice none 0 0, .slice none 0 0] 39))
         clear K4
         generalize V4.alloc (.cells #[.int .i64 0, .int .i64 0, .slice none 0 0, .slice none 0 0, .slice none 0 0, .slice none 0 0] 39) = V5 at *
         generalize V4.heap.size = gz at *
         exact main V5 gz z b q gs b3 q3 x5 q5 ⟨K5, ZB, HZ, ZM, RE, HLE, HQM, HFAR, NG⟩
        ·go_simp
         refine hK.out _ _ ?_ (fun HH => ?_)
         ·exact HSC.out _ (K3.below (below_one _ (.cells #[.int .i64 0, .int .i64 0, .slice none 0 0, .slice none 0 0, .slice none 0 0, .slice none 0 0] 39)))
         clear hK K
         (try simp only [Act.put, List.setIfInBounds_toArray, List.set_cons_zero, List.set_cons_succ])
         have ZB : SB w V3.heap.size 39 saO (V3.alloc (.cells #[.int .i64 0, .int .i64 0, .slice none 0 0, .slice none 0 0, .slice none 0 0, .slice none 0 0] 39)) := SB.new K3.fs.frame (SaAt.zero V3) 39
         have NG : w.heap.size ≠ V3.heap.size ∧ g1 ≠ V3.heap.size ∧ g2 ≠ V3.heap.size ∧ g3 ≠ V3.heap.size ∧ B3 ≤ V3.heap.size ∧ g4 ≠ V3.heap.size ∧ B4 ≤ V3.heap.size := ⟨Nat.ne_of_lt K3.fs.lt, Nat.ne_of_lt K3.fy.lt, Nat.ne_of_lt (heap_lt K3.fe.blk), Nat.ne_of_lt K3.fa.lt, K3.fx.sz, Nat.ne_of_lt K3.fz.lt, K3.fo.sz⟩
         have K4 := K3.below (below_one V3 (.cells #[.int .i64 0, .int .i64 0, .slice none 0 0, .slice none 0 0, .slice none 0 0, .slice none 0 0] 39))
         replace R5 := R5.below (below_one V3 (.cells #[.int .i64 0, .int .i64 0, .slice none 0 0, .slice none 0 0, .slice none 0 0, .slice none 0 0] 39))
         clear K3
         generalize V3.alloc (.cells #[.int .i64 0, .int .i64 0, .slice none 0 0, .slice none 0 0, .slice none 0 0, .slice none 0 0] 39) = V4 at *
         generalize V3.heap.size = gz at *
         clear HH
         refine wpAnyH_ready (rs := [6]) (by kernel_rfl) (by simp) ?_
         refine AllReadyH.cons (o := ⟨some 73, _, _, _, _, _⟩) rfl (fun K hK => ?_) AllReadyH.nil
         go_simp
         refine (HFB.out zb hzbm x5 q5 _ K4.fz.at_ R5).mono ?_
         rintro r14 V5 ⟨z, b, q, rfl, HZ, ZM, RE, HLE, HQM, LOW, h4⟩
         have K5 := K4.below h4
         have HFAR : ∀ k o, b = some ⟨k, o, none⟩ → EA ≠ [] → k ≠ gz := fun k o e _ h => by have h1 := LOW k o e; have h2 := ZB.lt; omega
         replace ZB := ZB.below h4
         replace R5 := R5.below h4
         clear R5 LOW
         go_wp2_with fail
         refine hK.out _ _ ?_ (fun HH => ?_)
         ·exact HSC.out _ K5
         clear hK K h4 K4
         (try simp only [Act.put, List.setIfInBounds_toArray, List.set_cons_zero, List.set_cons_succ])
         refine tV 7 66 ?_
         refine tV 8 74 ?_
         refine tV 9 75 ?_
         exact main V5 gz z b q gs b3 q3 x5 q5 ⟨K5, ZB, HZ, ZM, RE, HLE, HQM, HFAR, NG⟩
       ·go_simp
        refine hK.out _ _ ?_ (fun HH => ?_)
        ·exact HSC.out _ (K2.below (below_one _ (.cells #[.int .i64 0, .int .i64 0, .slice none 0 0, .slice none 0 0, .slice none 0 0, .slice none 0 0] 39)))
        clear hK K
        (try simp only [Act.put, List.setIfInBounds_toArray, List.set_cons_zero, List.set_cons_succ])
        have ZB : SB w V2.heap.size 39 saO (V2.alloc (.cells #[.int .i64 0, .int .i64 0, .slice none 0 0, .slice none 0 0, .slice none 0 0, .slice none 0 0] 39)) := SB.new K2.fs.frame (SaAt.zero V2) 39
        have NG : w.heap.size ≠ V2.heap.size ∧ g1 ≠ V2.heap.size ∧ g2 ≠ V2.heap.size ∧ g3 ≠ V2.heap.size ∧ B3 ≤ V2.heap.size ∧ g4 ≠ V2.heap.size ∧ B4 ≤ V2.heap.size := ⟨Nat.ne_of_lt K2.fs.lt, Nat.ne_of_lt K2.fy.lt, Nat.ne_of_lt (heap_lt K2.fe.blk), Nat.ne_of_lt K2.fa.lt, K2.fx.sz, Nat.ne_of_lt K2.fz.lt, K2.fo.sz⟩
        have K3 := K2.below (below_one V2 (.cells #[.int .i64 0, .int .i64 0, .slice none 0 0, .slice none 0 0, .slice none 0 0, .slice none 0 0] 39))
        replace RB := RB.below (below_one V2 (.cells #[.int .i64 0, .int .i64 0, .slice none 0 0, .slice none 0 0, .slice none 0 0, .slice none 0 0] 39))
        replace RM := RM.below (below_one V2 (.cells #[.int .i64 0, .int .i64 0, .slice none 0 0, .slice none 0 0, .slice none 0 0, .slice none 0 0] 39))
        clear K2
        generalize V2.alloc (.cells #[.int .i64 0, .int .i64 0, .slice none 0 0, .slice none 0 0, .slice none 0 0, .slice none 0 0] 39) = V3 at *
        generalize V2.heap.size = gz at *
        clear HH
        refine wpAnyH_ready (rs := [5]) (by kernel_rfl) (by simp) ?_
        refine AllReadyH.cons (o := ⟨some 72, _, _, _, _, _⟩) rfl (fun K hK => ?_) AllReadyH.nil
        obtain ⟨x5, q5, V4, hr5, R5, h3⟩ := ev_join V3 32 ⟨gs, 0, none⟩ b3 [v] m q3 RB RM HML.out
        have hr6 : (Builtin.append_ #[32, 32] 32 #[.slice (some ⟨gs, 0, none⟩) 1 1, .slice b3 m.length q3]).run Tryz.prog V3 = .ok (.slice x5 (1 + m.length) q5) V4 := hr5
        clear hr5
        refine step_run rfl (.tmp 69) (.tmp 71) _ _ rfl _ _ rfl rfl _ _ hr6 ?_
        have K4 := K3.below h3
        replace ZB := ZB.below h3
        replace RB := RB.below h3
        replace RM := RM.below h3
        refine hK.out _ _ ?_ (fun HH => ?_)
        ·exact HSC.out _ K4
        clear hK K hr6 RB RM h3 K3
        (try simp only [Act.put, List.setIfInBounds_toArray, List.set_cons_zero, List.set_cons_succ])
        clear HH
        refine wpAnyH_ready (rs := [6]) (by kernel_rfl) (by simp) ?_
        refine AllReadyH.cons (o := ⟨some 73, _, _, _, _, _⟩) rfl (fun K hK => ?_) AllReadyH.nil
        go_simp
        refine (HFB.out zb hzbm x5 q5 _ K4.fz.at_ R5).mono ?_
        rintro r14 V5 ⟨z, b, q, rfl, HZ, ZM, RE, HLE, HQM, LOW, h4⟩
        have K5 := K4.below h4
        have HFAR : ∀ k o, b = some ⟨k, o, none⟩ → EA ≠ [] → k ≠ gz := fun k o e _ h => by have h1 := LOW k o e; have h2 := ZB.lt; omega
        replace ZB := ZB.below h4
        replace R5 := R5.below h4
        clear R5 LOW
        go_wp2_with fail
        refine hK.out _ _ ?_ (fun HH => ?_)
        ·exact HSC.out _ K5
        clear hK K h4 K4
        (try simp only [Act.put, List.setIfInBounds_toArray, List.set_cons_zero, List.set_cons_succ])
        refine tV 7 66 ?_
        refine tV 8 74 ?_
        refine tV 9 75 ?_
        exact main V5 gz z b q gs b3 q3 x5 q5 ⟨K5, ZB, HZ, ZM, RE, HLE, HQM, HFAR, NG⟩
      ·go_simp
       refine hK.out _ _ ?_ (fun HH => ?_)
       ·exact HSC.out _ (K1.below (below_one _ (.cells #[.int .i64 0, .int .i64 0, .slice none 0 0, .slice none 0 0, .slice none 0 0, .slice none 0 0] 39)))
       clear hK K
       (try simp only [Act.put, List.setIfInBounds_toArray, List.set_cons_zero, List.set_cons_succ])
       have ZB : SB w V1.heap.size 39 saO (V1.alloc (.cells #[.int .i64 0, .int .i64 0, .slice none 0 0, .slice none 0 0, .slice none 0 0, .slice none 0 0] 39)) := SB.new K1.fs.frame (SaAt.zero V1) 39
       have NG : w.heap.size ≠ V1.heap.size ∧ g1 ≠ V1.heap.size ∧ g2 ≠ V1.heap.size ∧ g3 ≠ V1.heap.size ∧ B3 ≤ V1.heap.size ∧ g4 ≠ V1.heap.size ∧ B4 ≤ V1.heap.size := ⟨Nat.ne_of_lt K1.fs.lt, Nat.ne_of_lt K1.fy.lt, Nat.ne_of_lt (heap_lt K1.fe.blk), Nat.ne_of_lt K1.fa.lt, K1.fx.sz, Nat.ne_of_lt K1.fz.lt, K1.fo.sz⟩
       have K2 := K1.below (below_one V1 (.cells #[.int .i64 0, .int .i64 0, .slice none 0 0, .slice none 0 0, .slice none 0 0, .slice none 0 0] 39))
       replace RB := RB.below (below_one V1 (.cells #[.int .i64 0, .int .i64 0, .slice none 0 0, .slice none 0 0, .slice none 0 0, .slice none 0 0] 39))
       clear K1
       generalize V1.alloc (.cells #[.int .i64 0, .int .i64 0, .slice none 0 0, .slice none 0 0, .slice none 0 0, .slice none 0 0] 39) = V2 at *
       generalize V1.heap.size = gz at *
       clear HH
       refine wpAnyH_ready (rs := [4]) (by kernel_rfl) (by simp) ?_
       refine AllReadyH.cons (o := ⟨some 71, _, _, _, _, _⟩) rfl (fun K hK => ?_) AllReadyH.nil
       go_simp
       refine (HNM.out _ K2.m).mono ?_
       rintro r12 V3 ⟨b3, q3, rfl, RM, -, -, -, h2⟩
       have K3 := K2.below h2
       replace ZB := ZB.below h2
       replace RB := RB.below h2
       go_wp2_with fail
       refine hK.out _ _ ?_ (fun HH => ?_)
       ·exact HSC.out _ K3
       clear hK K h2 K2
       (try simp only [Act.put, List.setIfInBounds_toArray, List.set_cons_zero, List.set_cons_succ])
       clear HH
       refine wpAnyH_ready (rs := [5]) (by kernel_rfl) (by simp) ?_
       refine AllReadyH.cons (o := ⟨some 72, _, _, _, _, _⟩) rfl (fun K hK => ?_) AllReadyH.nil
       obtain ⟨x5, q5, V4, hr5, R5, h3⟩ := ev_join V3 32 ⟨gs, 0, none⟩ b3 [v] m q3 RB RM HML.out
       have hr6 : (Builtin.append_ #[32, 32] 32 #[.slice (some ⟨gs, 0, none⟩) 1 1, .slice b3 m.length q3]).run Tryz.prog V3 = .ok (.slice x5 (1 + m.length) q5) V4 := hr5
       clear hr5
       refine step_run rfl (.tmp 69) (.tmp 71) _ _ rfl _ _ rfl rfl _ _ hr6 ?_
       have K4 := K3.below h3
       replace ZB := ZB.below h3
       replace RB := RB.below h3
       replace RM := RM.below h3
       refine hK.out _ _ ?_ (fun HH => ?_)
       ·exact HSC.out _ K4
       clear hK K hr6 RB RM h3 K3
       (try simp only [Act.put, List.setIfInBounds_toArray, List.set_cons_zero, List.set_cons_succ])
       clear HH
       refine wpAnyH_ready (rs := [6]) (by kernel_rfl) (by simp) ?_
       refine AllReadyH.cons (o := ⟨some 73, _, _, _, _, _⟩) rfl (fun K hK => ?_) AllReadyH.nil
       go_simp
       refine (HFB.out zb hzbm x5 q5 _ K4.fz.at_ R5).mono ?_
       rintro r14 V5 ⟨z, b, q, rfl, HZ, ZM, RE, HLE, HQM, LOW, h4⟩
       have K5 := K4.below h4
       have HFAR : ∀ k o, b = some ⟨k, o, none⟩ → EA ≠ [] → k ≠ gz := fun k o e _ h => by have h1 := LOW k o e; have h2 := ZB.lt; omega
       replace ZB := ZB.below h4
       replace R5 := R5.below h4
       clear R5 LOW
       go_wp2_with fail
       refine hK.out _ _ ?_ (fun HH => ?_)
       ·exact HSC.out _ K5
       clear hK K h4 K4
       (try simp only [Act.put, List.setIfInBounds_toArray, List.set_cons_zero, List.set_cons_succ])
       refine tV 7 66 ?_
       refine tV 8 74 ?_
       refine tV 9 75 ?_
       exact main V5 gz z b q gs b3 q3 x5 q5 ⟨K5, ZB, HZ, ZM, RE, HLE, HQM, HFAR, NG⟩
     ·go_simp
      refine (HNM.out _ K0.m).mono ?_
      rintro r10 V1 ⟨b3, q3, rfl, RM, -, -, -, h0⟩
      have K1 := K0.below h0
      go_wp2_with fail
      refine hK.out _ _ ?_ (fun HH => ?_)
      ·exact HSC.out _ K1
      clear hK K h0
      (try simp only [Act.put, List.setIfInBounds_toArray, List.set_cons_zero, List.set_cons_succ])
      clear HH
      refine wpAnyH_ready (rs := [2, 10]) (by kernel_rfl) (by simp) ?_
      refine AllReadyH.cons (o := ⟨some 69, _, _, _, _, _⟩) rfl (fun K hK => ?_) (AllReadyH.cons (o := ⟨some 16, _, _, _, _, _⟩) rfl (fun K hK => ?_) AllReadyH.nil)
      ·go_simp
       refine hK.out _ _ ?_ (fun HH => ?_)
       ·exact HSC.out _ (K1.below (below_one _ (.cells #[.int .i64 v.kind, .int .i64 v.at_, .string v.user, .string v.other, .int .i64 v.n, .int .i64 v.status] 64)))
       clear hK K
       (try simp only [Act.put, List.setIfInBounds_toArray, List.set_cons_zero, List.set_cons_succ])
       have RB : EvSl (V1.alloc (.cells #[.int .i64 v.kind, .int .i64 v.at_, .string v.user, .string v.other, .int .i64 v.n, .int .i64 v.status] 64)) (some ⟨V1.heap.size, 0, none⟩) [v] := EvSl.lit V1 _ _ [v] [] _ rfl rfl
       have K2 := K1.below (below_one V1 (.cells #[.int .i64 v.kind, .int .i64 v.at_, .string v.user, .string v.other, .int .i64 v.n, .int .i64 v.status] 64))
       replace RM := RM.below (below_one V1 (.cells #[.int .i64 v.kind, .int .i64 v.at_, .string v.user, .string v.other, .int .i64 v.n, .int .i64 v.status] 64))
       clear K1
       generalize V1.alloc (.cells #[.int .i64 v.kind, .int .i64 v.at_, .string v.user, .string v.other, .int .i64 v.n, .int .i64 v.status] 64) = V2 at *
       generalize V1.heap.size = gs at *
       clear HH
       refine wpAnyH_ready (rs := [5, 10]) (by kernel_rfl) (by simp) ?_
       refine AllReadyH.cons (o := ⟨some 72, _, _, _, _, _⟩) rfl (fun K hK => ?_) (AllReadyH.cons (o := ⟨some 16, _, _, _, _, _⟩) rfl (fun K hK => ?_) AllReadyH.nil)
       ·obtain ⟨x5, q5, V3, hr5, R5, h2⟩ := ev_join V2 32 ⟨gs, 0, none⟩ b3 [v] m q3 RB RM HML.out
        have hr6 : (Builtin.append_ #[32, 32] 32 #[.slice (some ⟨gs, 0, none⟩) 1 1, .slice b3 m.length q3]).run Tryz.prog V2 = .ok (.slice x5 (1 + m.length) q5) V3 := hr5
        clear hr5
        refine step_run rfl (.tmp 69) (.tmp 71) _ _ rfl _ _ rfl rfl _ _ hr6 ?_
        have K3 := K2.below h2
        replace RB := RB.below h2
        replace RM := RM.below h2
        refine hK.out _ _ ?_ (fun HH => ?_)
        ·exact HSC.out _ K3
        clear hK K hr6 RB RM h2 K2
        (try simp only [Act.put, List.setIfInBounds_toArray, List.set_cons_zero, List.set_cons_succ])
        clear HH
        refine wpAnyH_ready (rs := [6, 10]) (by kernel_rfl) (by simp) ?_
        refine AllReadyH.cons (o := ⟨some 73, _, _, _, _, _⟩) rfl (fun K hK => ?_) (AllReadyH.cons (o := ⟨some 16, _, _, _, _, _⟩) rfl (fun K hK => ?_) AllReadyH.nil)
        ·go_simp
         refine (HFB.out zb hzbm x5 q5 _ K3.fz.at_ R5).mono ?_
         rintro r13 V4 ⟨z, b, q, rfl, HZ, ZM, RE, HLE, HQM, LOW, h3⟩
         have K4 := K3.below h3
         replace R5 := R5.below h3
         clear R5 LOW
         go_wp2_with fail
         refine hK.out _ _ ?_ (fun HH => ?_)
         ·exact HSC.out _ K4
         clear hK K h3 K3
         (try simp only [Act.put, List.setIfInBounds_toArray, List.set_cons_zero, List.set_cons_succ])
         refine tV 7 66 ?_
         refine tV 8 74 ?_
         refine tV 9 75 ?_
         clear HH
         refine wpAnyH_ready (rs := [10]) (by kernel_rfl) (by simp) ?_
         refine AllReadyH.cons (o := ⟨some 16, _, _, _, _, _⟩) rfl (fun K hK => ?_) AllReadyH.nil
         go_simp
         refine hK.out _ _ ?_ (fun HH => ?_)
         ·exact HSC.out _ (K4.below (below_one _ (.cells #[.int .i64 0, .int .i64 0, .slice none 0 0, .slice none 0 0, .slice none 0 0, .slice none 0 0] 39)))
         clear hK K
         (try simp only [Act.put, List.setIfInBounds_toArray, List.set_cons_zero, List.set_cons_succ])
         have ZB : SB w V4.heap.size 39 saO (V4.alloc (.cells #[.int .i64 0, .int .i64 0, .slice none 0 0, .slice none 0 0, .slice none 0 0, .slice none 0 0] 39)) := SB.new K4.fs.frame (SaAt.zero V4) 39
         have NG : w.heap.size ≠ V4.heap.size ∧ g1 ≠ V4.heap.size ∧ g2 ≠ V4.heap.size ∧ g3 ≠ V4.heap.size ∧ B3 ≤ V4.heap.size ∧ g4 ≠ V4.heap.size ∧ B4 ≤ V4.heap.size := ⟨Nat.ne_of_lt K4.fs.lt, Nat.ne_of_lt K4.fy.lt, Nat.ne_of_lt (heap_lt K4.fe.blk), Nat.ne_of_lt K4.fa.lt, K4.fx.sz, Nat.ne_of_lt K4.fz.lt, K4.fo.sz⟩
         have HFAR : ∀ k o, b = some ⟨k, o, none⟩ → EA ≠ [] → k ≠ V4.heap.size := fun k o e hE h => by obtain ⟨b', o', e', hlt, -⟩ := RE 0 (by rw [ers_len]; exact List.length_pos_iff.2 hE); rw [e] at e'; injection e' with e'; injection e' with e1 e2; omega
         have K5 := K4.below (below_one V4 (.cells #[.int .i64 0, .int .i64 0, .slice none 0 0, .slice none 0 0, .slice none 0 0, .slice none 0 0] 39))
         replace HZ := HZ.below (below_one V4 (.cells #[.int .i64 0, .int .i64 0, .slice none 0 0, .slice none 0 0, .slice none 0 0, .slice none 0 0] 39))
         replace RE := RE.below (below_one V4 (.cells #[.int .i64 0, .int .i64 0, .slice none 0 0, .slice none 0 0, .slice none 0 0, .slice none 0 0] 39))
         clear K4
         generalize V4.alloc (.cells #[.int .i64 0, .int .i64 0, .slice none 0 0, .slice none 0 0, .slice none 0 0, .slice none 0 0] 39) = V5 at *
         generalize V4.heap.size = gz at *
         exact main V5 gz z b q gs b3 q3 x5 q5 ⟨K5, ZB, HZ, ZM, RE, HLE, HQM, HFAR, NG⟩
        ·go_simp
         refine hK.out _ _ ?_ (fun HH => ?_)
         ·exact HSC.out _ (K3.below (below_one _ (.cells #[.int .i64 0, .int .i64 0, .slice none 0 0, .slice none 0 0, .slice none 0 0, .slice none 0 0] 39)))
         clear hK K
         (try simp only [Act.put, List.setIfInBounds_toArray, List.set_cons_zero, List.set_cons_succ])
         have ZB : SB w V3.heap.size 39 saO (V3.alloc (.cells #[.int .i64 0, .int .i64 0, .slice none 0 0, .slice none 0 0, .slice none 0 0, .slice none 0 0] 39)) := SB.new K3.fs.frame (SaAt.zero V3) 39
         have NG : w.heap.size ≠ V3.heap.size ∧ g1 ≠ V3.heap.size ∧ g2 ≠ V3.heap.size ∧ g3 ≠ V3.heap.size ∧ B3 ≤ V3.heap.size ∧ g4 ≠ V3.heap.size ∧ B4 ≤ V3.heap.size := ⟨Nat.ne_of_lt K3.fs.lt, Nat.ne_of_lt K3.fy.lt, Nat.ne_of_lt (heap_lt K3.fe.blk), Nat.ne_of_lt K3.fa.lt, K3.fx.sz, Nat.ne_of_lt K3.fz.lt, K3.fo.sz⟩
         have K4 := K3.below (below_one V3 (.cells #[.int .i64 0, .int .i64 0, .slice none 0 0, .slice none 0 0, .slice none 0 0, .slice none 0 0] 39))
         replace R5 := R5.below (below_one V3 (.cells #[.int .i64 0, .int .i64 0, .slice none 0 0, .slice none 0 0, .slice none 0 0, .slice none 0 0] 39))
         clear K3
         generalize V3.alloc (.cells #[.int .i64 0, .int .i64 0, .slice none 0 0, .slice none 0 0, .slice none 0 0, .slice none 0 0] 39) = V4 at *
         generalize V3.heap.size = gz at *
         clear HH
         refine wpAnyH_ready (rs := [6]) (by kernel_rfl) (by simp) ?_
         refine AllReadyH.cons (o := ⟨some 73, _, _, _, _, _⟩) rfl (fun K hK => ?_) AllReadyH.nil
         go_simp
         refine (HFB.out zb hzbm x5 q5 _ K4.fz.at_ R5).mono ?_
         rintro r14 V5 ⟨z, b, q, rfl, HZ, ZM, RE, HLE, HQM, LOW, h4⟩
         have K5 := K4.below h4
         have HFAR : ∀ k o, b = some ⟨k, o, none⟩ → EA ≠ [] → k ≠ gz := fun k o e _ h => by have h1 := LOW k o e; have h2 := ZB.lt; omega
         replace ZB := ZB.below h4
         replace R5 := R5.below h4
         clear R5 LOW
         go_wp2_with fail
         refine hK.out _ _ ?_ (fun HH => ?_)
         ·exact HSC.out _ K5
         clear hK K h4 K4
         (try simp only [Act.put, List.setIfInBounds_toArray, List.set_cons_zero, List.set_cons_succ])
         refine tV 7 66 ?_
         refine tV 8 74 ?_
         refine tV 9 75 ?_
         exact main V5 gz z b q gs b3 q3 x5 q5 ⟨K5, ZB, HZ, ZM, RE, HLE, HQM, HFAR, NG⟩
       ·go_simp
        refine hK.out _ _ ?_ (fun HH => ?_)
        ·exact HSC.out _ (K2.below (below_one _ (.cells #[.int .i64 0, .int .i64 0, .slice none 0 0, .slice none 0 0, .slice none 0 0, .slice none 0 0] 39)))
        clear hK K
        (try simp only [Act.put, List.setIfInBounds_toArray, List.set_cons_zero, List.set_cons_succ])
        have ZB : SB w V2.heap.size 39 saO (V2.alloc (.cells #[.int .i64 0, .int .i64 0, .slice none 0 0, .slice none 0 0, .slice none 0 0, .slice none 0 0] 39)) := SB.new K2.fs.frame (SaAt.zero V2) 39
        have NG : w.heap.size ≠ V2.heap.size ∧ g1 ≠ V2.heap.size ∧ g2 ≠ V2.heap.size ∧ g3 ≠ V2.heap.size ∧ B3 ≤ V2.heap.size ∧ g4 ≠ V2.heap.size ∧ B4 ≤ V2.heap.size := ⟨Nat.ne_of_lt K2.fs.lt, Nat.ne_of_lt K2.fy.lt, Nat.ne_of_lt (heap_lt K2.fe.blk), Nat.ne_of_lt K2.fa.lt, K2.fx.sz, Nat.ne_of_lt K2.fz.lt, K2.fo.sz⟩
        have K3 := K2.below (below_one V2 (.cells #[.int .i64 0, .int .i64 0, .slice none 0 0, .slice none 0 0, .slice none 0 0, .slice none 0 0] 39))
        replace RB := RB.below (below_one V2 (.cells #[.int .i64 0, .int .i64 0, .slice none 0 0, .slice none 0 0, .slice none 0 0, .slice none 0 0] 39))
        replace RM := RM.below (below_one V2 (.cells #[.int .i64 0, .int .i64 0, .slice none 0 0, .slice none 0 0, .slice none 0 0, .slice none 0 0] 39))
        clear K2
        generalize V2.alloc (.cells #[.int .i64 0, .int .i64 0, .slice none 0 0, .slice none 0 0, .slice none 0 0, .slice none 0 0] 39) = V3 at *
        generalize V2.heap.size = gz at *
        clear HH
        refine wpAnyH_ready (rs := [5]) (by kernel_rfl) (by simp) ?_
        refine AllReadyH.cons (o := ⟨some 72, _, _, _, _, _⟩) rfl (fun K hK => ?_) AllReadyH.nil
        obtain ⟨x5, q5, V4, hr5, R5, h3⟩ := ev_join V3 32 ⟨gs, 0, none⟩ b3 [v] m q3 RB RM HML.out
        have hr6 : (Builtin.append_ #[32, 32] 32 #[.slice (some ⟨gs, 0, none⟩) 1 1, .slice b3 m.length q3]).run Tryz.prog V3 = .ok (.slice x5 (1 + m.length) q5) V4 := hr5
        clear hr5
        refine step_run rfl (.tmp 69) (.tmp 71) _ _ rfl _ _ rfl rfl _ _ hr6 ?_
        have K4 := K3.below h3
        replace ZB := ZB.below h3
        replace RB := RB.below h3
        replace RM := RM.below h3
        refine hK.out _ _ ?_ (fun HH => ?_)
        ·exact HSC.out _ K4
        clear hK K hr6 RB RM h3 K3
        (try simp only [Act.put, List.setIfInBounds_toArray, List.set_cons_zero, List.set_cons_succ])
        clear HH
        refine wpAnyH_ready (rs := [6]) (by kernel_rfl) (by simp) ?_
        refine AllReadyH.cons (o := ⟨some 73, _, _, _, _, _⟩) rfl (fun K hK => ?_) AllReadyH.nil
        go_simp
        refine (HFB.out zb hzbm x5 q5 _ K4.fz.at_ R5).mono ?_
        rintro r14 V5 ⟨z, b, q, rfl, HZ, ZM, RE, HLE, HQM, LOW, h4⟩
        have K5 := K4.below h4
        have HFAR : ∀ k o, b = some ⟨k, o, none⟩ → EA ≠ [] → k ≠ gz := fun k o e _ h => by have h1 := LOW k o e; have h2 := ZB.lt; omega
        replace ZB := ZB.below h4
        replace R5 := R5.below h4
        clear R5 LOW
        go_wp2_with fail
        refine hK.out _ _ ?_ (fun HH => ?_)
        ·exact HSC.out _ K5
        clear hK K h4 K4
        (try simp only [Act.put, List.setIfInBounds_toArray, List.set_cons_zero, List.set_cons_succ])
        refine tV 7 66 ?_
        refine tV 8 74 ?_
        refine tV 9 75 ?_
        exact main V5 gz z b q gs b3 q3 x5 q5 ⟨K5, ZB, HZ, ZM, RE, HLE, HQM, HFAR, NG⟩
      ·go_simp
       refine hK.out _ _ ?_ (fun HH => ?_)
       ·exact HSC.out _ (K1.below (below_one _ (.cells #[.int .i64 0, .int .i64 0, .slice none 0 0, .slice none 0 0, .slice none 0 0, .slice none 0 0] 39)))
       clear hK K
       (try simp only [Act.put, List.setIfInBounds_toArray, List.set_cons_zero, List.set_cons_succ])
       have ZB : SB w V1.heap.size 39 saO (V1.alloc (.cells #[.int .i64 0, .int .i64 0, .slice none 0 0, .slice none 0 0, .slice none 0 0, .slice none 0 0] 39)) := SB.new K1.fs.frame (SaAt.zero V1) 39
       have NG : w.heap.size ≠ V1.heap.size ∧ g1 ≠ V1.heap.size ∧ g2 ≠ V1.heap.size ∧ g3 ≠ V1.heap.size ∧ B3 ≤ V1.heap.size ∧ g4 ≠ V1.heap.size ∧ B4 ≤ V1.heap.size := ⟨Nat.ne_of_lt K1.fs.lt, Nat.ne_of_lt K1.fy.lt, Nat.ne_of_lt (heap_lt K1.fe.blk), Nat.ne_of_lt K1.fa.lt, K1.fx.sz, Nat.ne_of_lt K1.fz.lt, K1.fo.sz⟩
       have K2 := K1.below (below_one V1 (.cells #[.int .i64 0, .int .i64 0, .slice none 0 0, .slice none 0 0, .slice none 0 0, .slice none 0 0] 39))
       replace RM := RM.below (below_one V1 (.cells #[.int .i64 0, .int .i64 0, .slice none 0 0, .slice none 0 0, .slice none 0 0, .slice none 0 0] 39))
       clear K1
       generalize V1.alloc (.cells #[.int .i64 0, .int .i64 0, .slice none 0 0, .slice none 0 0, .slice none 0 0, .slice none 0 0] 39) = V2 at *
       generalize V1.heap.size = gz at *
       clear HH
       refine wpAnyH_ready (rs := [2]) (by kernel_rfl) (by simp) ?_
       refine AllReadyH.cons (o := ⟨some 69, _, _, _, _, _⟩) rfl (fun K hK => ?_) AllReadyH.nil
       go_simp
       refine hK.out _ _ ?_ (fun HH => ?_)
       ·exact HSC.out _ (K2.below (below_one _ (.cells #[.int .i64 v.kind, .int .i64 v.at_, .string v.user, .string v.other, .int .i64 v.n, .int .i64 v.status] 64)))
       clear hK K
       (try simp only [Act.put, List.setIfInBounds_toArray, List.set_cons_zero, List.set_cons_succ])
       have RB : EvSl (V2.alloc (.cells #[.int .i64 v.kind, .int .i64 v.at_, .string v.user, .string v.other, .int .i64 v.n, .int .i64 v.status] 64)) (some ⟨V2.heap.size, 0, none⟩) [v] := EvSl.lit V2 _ _ [v] [] _ rfl rfl
       have K3 := K2.below (below_one V2 (.cells #[.int .i64 v.kind, .int .i64 v.at_, .string v.user, .string v.other, .int .i64 v.n, .int .i64 v.status] 64))
       replace ZB := ZB.below (below_one V2 (.cells #[.int .i64 v.kind, .int .i64 v.at_, .string v.user, .string v.other, .int .i64 v.n, .int .i64 v.status] 64))
       replace RM := RM.below (below_one V2 (.cells #[.int .i64 v.kind, .int .i64 v.at_, .string v.user, .string v.other, .int .i64 v.n, .int .i64 v.status] 64))
       clear K2
       generalize V2.alloc (.cells #[.int .i64 v.kind, .int .i64 v.at_, .string v.user, .string v.other, .int .i64 v.n, .int .i64 v.status] 64) = V3 at *
       generalize V2.heap.size = gs at *
       clear HH
       refine wpAnyH_ready (rs := [5]) (by kernel_rfl) (by simp) ?_
       refine AllReadyH.cons (o := ⟨some 72, _, _, _, _, _⟩) rfl (fun K hK => ?_) AllReadyH.nil
       obtain ⟨x5, q5, V4, hr5, R5, h3⟩ := ev_join V3 32 ⟨gs, 0, none⟩ b3 [v] m q3 RB RM HML.out
       have hr6 : (Builtin.append_ #[32, 32] 32 #[.slice (some ⟨gs, 0, none⟩) 1 1, .slice b3 m.length q3]).run Tryz.prog V3 = .ok (.slice x5 (1 + m.length) q5) V4 := hr5
       clear hr5
       refine step_run rfl (.tmp 69) (.tmp 71) _ _ rfl _ _ rfl rfl _ _ hr6 ?_
       have K4 := K3.below h3
       replace ZB := ZB.below h3
       replace RB := RB.below h3
       replace RM := RM.below h3
       refine hK.out _ _ ?_ (fun HH => ?_)
       ·exact HSC.out _ K4
       clear hK K hr6 RB RM h3 K3
       (try simp only [Act.put, List.setIfInBounds_toArray, List.set_cons_zero, List.set_cons_succ])
       clear HH
       refine wpAnyH_ready (rs := [6]) (by kernel_rfl) (by simp) ?_
       refine AllReadyH.cons (o := ⟨some 73, _, _, _, _, _⟩) rfl (fun K hK => ?_) AllReadyH.nil
       go_simp
       refine (HFB.out zb hzbm x5 q5 _ K4.fz.at_ R5).mono ?_
       rintro r14 V5 ⟨z, b, q, rfl, HZ, ZM, RE, HLE, HQM, LOW, h4⟩
       have K5 := K4.below h4
       have HFAR : ∀ k o, b = some ⟨k, o, none⟩ → EA ≠ [] → k ≠ gz := fun k o e _ h => by have h1 := LOW k o e; have h2 := ZB.lt; omega
       replace ZB := ZB.below h4
       replace R5 := R5.below h4
       clear R5 LOW
       go_wp2_with fail
       refine hK.out _ _ ?_ (fun HH => ?_)
       ·exact HSC.out _ K5
       clear hK K h4 K4
       (try simp only [Act.put, List.setIfInBounds_toArray, List.set_cons_zero, List.set_cons_succ])
       refine tV 7 66 ?_
       refine tV 8 74 ?_
       refine tV 9 75 ?_
       exact main V5 gz z b q gs b3 q3 x5 q5 ⟨K5, ZB, HZ, ZM, RE, HLE, HQM, HFAR, NG⟩
     ·go_simp
      refine hK.out _ _ ?_ (fun HH => ?_)
      ·exact HSC.out _ (K0.below (below_one _ (.cells #[.int .i64 0, .int .i64 0, .slice none 0 0, .slice none 0 0, .slice none 0 0, .slice none 0 0] 39)))
      clear hK K
      (try simp only [Act.put, List.setIfInBounds_toArray, List.set_cons_zero, List.set_cons_succ])
      have ZB : SB w V0.heap.size 39 saO (V0.alloc (.cells #[.int .i64 0, .int .i64 0, .slice none 0 0, .slice none 0 0, .slice none 0 0, .slice none 0 0] 39)) := SB.new K0.fs.frame (SaAt.zero V0) 39
      have NG : w.heap.size ≠ V0.heap.size ∧ g1 ≠ V0.heap.size ∧ g2 ≠ V0.heap.size ∧ g3 ≠ V0.heap.size ∧ B3 ≤ V0.heap.size ∧ g4 ≠ V0.heap.size ∧ B4 ≤ V0.heap.size := ⟨Nat.ne_of_lt K0.fs.lt, Nat.ne_of_lt K0.fy.lt, Nat.ne_of_lt (heap_lt K0.fe.blk), Nat.ne_of_lt K0.fa.lt, K0.fx.sz, Nat.ne_of_lt K0.fz.lt, K0.fo.sz⟩
      have K1 := K0.below (below_one V0 (.cells #[.int .i64 0, .int .i64 0, .slice none 0 0, .slice none 0 0, .slice none 0 0, .slice none 0 0] 39))
      generalize V0.alloc (.cells #[.int .i64 0, .int .i64 0, .slice none 0 0, .slice none 0 0, .slice none 0 0, .slice none 0 0] 39) = V1 at *
      generalize V0.heap.size = gz at *
      clear HH
      refine wpAnyH_ready (rs := [2, 4]) (by kernel_rfl) (by simp) ?_
      refine AllReadyH.cons (o := ⟨some 69, _, _, _, _, _⟩) rfl (fun K hK => ?_) (AllReadyH.cons (o := ⟨some 71, _, _, _, _, _⟩) rfl (fun K hK => ?_) AllReadyH.nil)
      ·go_simp
       refine hK.out _ _ ?_ (fun HH => ?_)
       ·exact HSC.out _ (K1.below (below_one _ (.cells #[.int .i64 v.kind, .int .i64 v.at_, .string v.user, .string v.other, .int .i64 v.n, .int .i64 v.status] 64)))
       clear hK K
       (try simp only [Act.put, List.setIfInBounds_toArray, List.set_cons_zero, List.set_cons_succ])
       have RB : EvSl (V1.alloc (.cells #[.int .i64 v.kind, .int .i64 v.at_, .string v.user, .string v.other, .int .i64 v.n, .int .i64 v.status] 64)) (some ⟨V1.heap.size, 0, none⟩) [v] := EvSl.lit V1 _ _ [v] [] _ rfl rfl
       have K2 := K1.below (below_one V1 (.cells #[.int .i64 v.kind, .int .i64 v.at_, .string v.user, .string v.other, .int .i64 v.n, .int .i64 v.status] 64))
       replace ZB := ZB.below (below_one V1 (.cells #[.int .i64 v.kind, .int .i64 v.at_, .string v.user, .string v.other, .int .i64 v.n, .int .i64 v.status] 64))
       clear K1
       generalize V1.alloc (.cells #[.int .i64 v.kind, .int .i64 v.at_, .string v.user, .string v.other, .int .i64 v.n, .int .i64 v.status] 64) = V2 at *
       generalize V1.heap.size = gs at *
       clear HH
       refine wpAnyH_ready (rs := [4]) (by kernel_rfl) (by simp) ?_
       refine AllReadyH.cons (o := ⟨some 71, _, _, _, _, _⟩) rfl (fun K hK => ?_) AllReadyH.nil
       go_simp
       refine (HNM.out _ K2.m).mono ?_
       rintro r12 V3 ⟨b3, q3, rfl, RM, -, -, -, h2⟩
       have K3 := K2.below h2
       replace ZB := ZB.below h2
       replace RB := RB.below h2
       go_wp2_with fail
       refine hK.out _ _ ?_ (fun HH => ?_)
       ·exact HSC.out _ K3
       clear hK K h2 K2
       (try simp only [Act.put, List.setIfInBounds_toArray, List.set_cons_zero, List.set_cons_succ])
       clear HH
       refine wpAnyH_ready (rs := [5]) (by kernel_rfl) (by simp) ?_
       refine AllReadyH.cons (o := ⟨some 72, _, _, _, _, _⟩) rfl (fun K hK => ?_) AllReadyH.nil
       obtain ⟨x5, q5, V4, hr5, R5, h3⟩ := ev_join V3 32 ⟨gs, 0, none⟩ b3 [v] m q3 RB RM HML.out
       have hr6 : (Builtin.append_ #[32, 32] 32 #[.slice (some ⟨gs, 0, none⟩) 1 1, .slice b3 m.length q3]).run Tryz.prog V3 = .ok (.slice x5 (1 + m.length) q5) V4 := hr5
       clear hr5
       refine step_run rfl (.tmp 69) (.tmp 71) _ _ rfl _ _ rfl rfl _ _ hr6 ?_
       have K4 := K3.below h3
       replace ZB := ZB.below h3
       replace RB := RB.below h3
       replace RM := RM.below h3
       refine hK.out _ _ ?_ (fun HH => ?_)
       ·exact HSC.out _ K4
       clear hK K hr6 RB RM h3 K3
       (try simp only [Act.put, List.setIfInBounds_toArray, List.set_cons_zero, List.set_cons_succ])
       clear HH
       refine wpAnyH_ready (rs := [6]) (by kernel_rfl) (by simp) ?_
       refine AllReadyH.cons (o := ⟨some 73, _, _, _, _, _⟩) rfl (fun K hK => ?_) AllReadyH.nil
       go_simp
       refine (HFB.out zb hzbm x5 q5 _ K4.fz.at_ R5).mono ?_
       rintro r14 V5 ⟨z, b, q, rfl, HZ, ZM, RE, HLE, HQM, LOW, h4⟩
       have K5 := K4.below h4
       have HFAR : ∀ k o, b = some ⟨k, o, none⟩ → EA ≠ [] → k ≠ gz := fun k o e _ h => by have h1 := LOW k o e; have h2 := ZB.lt; omega
       replace ZB := ZB.below h4
       replace R5 := R5.below h4
       clear R5 LOW
       go_wp2_with fail
       refine hK.out _ _ ?_ (fun HH => ?_)
       ·exact HSC.out _ K5
       clear hK K h4 K4
       (try simp only [Act.put, List.setIfInBounds_toArray, List.set_cons_zero, List.set_cons_succ])
       refine tV 7 66 ?_
       refine tV 8 74 ?_
       refine tV 9 75 ?_
       exact main V5 gz z b q gs b3 q3 x5 q5 ⟨K5, ZB, HZ, ZM, RE, HLE, HQM, HFAR, NG⟩
      ·go_simp
       refine (HNM.out _ K1.m).mono ?_
       rintro r11 V2 ⟨b3, q3, rfl, RM, -, -, -, h1⟩
       have K2 := K1.below h1
       replace ZB := ZB.below h1
       go_wp2_with fail
       refine hK.out _ _ ?_ (fun HH => ?_)
       ·exact HSC.out _ K2
       clear hK K h1 K1
       (try simp only [Act.put, List.setIfInBounds_toArray, List.set_cons_zero, List.set_cons_succ])
       clear HH
       refine wpAnyH_ready (rs := [2]) (by kernel_rfl) (by simp) ?_
       refine AllReadyH.cons (o := ⟨some 69, _, _, _, _, _⟩) rfl (fun K hK => ?_) AllReadyH.nil
       go_simp
       refine hK.out _ _ ?_ (fun HH => ?_)
       ·exact HSC.out _ (K2.below (below_one _ (.cells #[.int .i64 v.kind, .int .i64 v.at_, .string v.user, .string v.other, .int .i64 v.n, .int .i64 v.status] 64)))
       clear hK K
       (try simp only [Act.put, List.setIfInBounds_toArray, List.set_cons_zero, List.set_cons_succ])
       have RB : EvSl (V2.alloc (.cells #[.int .i64 v.kind, .int .i64 v.at_, .string v.user, .string v.other, .int .i64 v.n, .int .i64 v.status] 64)) (some ⟨V2.heap.size, 0, none⟩) [v] := EvSl.lit V2 _ _ [v] [] _ rfl rfl
       have K3 := K2.below (below_one V2 (.cells #[.int .i64 v.kind, .int .i64 v.at_, .string v.user, .string v.other, .int .i64 v.n, .int .i64 v.status] 64))
       replace ZB := ZB.below (below_one V2 (.cells #[.int .i64 v.kind, .int .i64 v.at_, .string v.user, .string v.other, .int .i64 v.n, .int .i64 v.status] 64))
       replace RM := RM.below (below_one V2 (.cells #[.int .i64 v.kind, .int .i64 v.at_, .string v.user, .string v.other, .int .i64 v.n, .int .i64 v.status] 64))
       clear K2
       generalize V2.alloc (.cells #[.int .i64 v.kind, .int .i64 v.at_, .string v.user, .string v.other, .int .i64 v.n, .int .i64 v.status] 64) = V3 at *
       generalize V2.heap.size = gs at *
       clear HH
       refine wpAnyH_ready (rs := [5]) (by kernel_rfl) (by simp) ?_
       refine AllReadyH.cons (o := ⟨some 72, _, _, _, _, _⟩) rfl (fun K hK => ?_) AllReadyH.nil
       obtain ⟨x5, q5, V4, hr5, R5, h3⟩ := ev_join V3 32 ⟨gs, 0, none⟩ b3 [v] m q3 RB RM HML.out
       have hr6 : (Builtin.append_ #[32, 32] 32 #[.slice (some ⟨gs, 0, none⟩) 1 1, .slice b3 m.length q3]).run Tryz.prog V3 = .ok (.slice x5 (1 + m.length) q5) V4 := hr5
       clear hr5
       refine step_run rfl (.tmp 69) (.tmp 71) _ _ rfl _ _ rfl rfl _ _ hr6 ?_
       have K4 := K3.below h3
       replace ZB := ZB.below h3
       replace RB := RB.below h3
       replace RM := RM.below h3
       refine hK.out _ _ ?_ (fun HH => ?_)
       ·exact HSC.out _ K4
       clear hK K hr6 RB RM h3 K3
       (try simp only [Act.put, List.setIfInBounds_toArray, List.set_cons_zero, List.set_cons_succ])
       clear HH
       refine wpAnyH_ready (rs := [6]) (by kernel_rfl) (by simp) ?_
       refine AllReadyH.cons (o := ⟨some 73, _, _, _, _, _⟩) rfl (fun K hK => ?_) AllReadyH.nil
       go_simp
       refine (HFB.out zb hzbm x5 q5 _ K4.fz.at_ R5).mono ?_
       rintro r14 V5 ⟨z, b, q, rfl, HZ, ZM, RE, HLE, HQM, LOW, h4⟩
       have K5 := K4.below h4
       have HFAR : ∀ k o, b = some ⟨k, o, none⟩ → EA ≠ [] → k ≠ gz := fun k o e _ h => by have h1 := LOW k o e; have h2 := ZB.lt; omega
       replace ZB := ZB.below h4
       replace R5 := R5.below h4
       clear R5 LOW
       go_wp2_with fail
       refine hK.out _ _ ?_ (fun HH => ?_)
       ·exact HSC.out _ K5
       clear hK K h4 K4
       (try simp only [Act.put, List.setIfInBounds_toArray, List.set_cons_zero, List.set_cons_succ])
       refine tV 7 66 ?_
       refine tV 8 74 ?_
       refine tV 9 75 ?_
       exact main V5 gz z b q gs b3 q3 x5 q5 ⟨K5, ZB, HZ, ZM, RE, HLE, HQM, HFAR, NG⟩
    ·intro T g5 zc b5 ey gs m3 m4 x7 x8 hF
     obtain ⟨KS, ZA, hz, zm, RE, hle, hqm, hfar, NG⟩ := hF
     have ZA2 := ZA
     unfold saO at ZA2
     obtain ⟨z0, z1, z2, z3, z4, z5⟩ := ZA2.cells
     obtain ⟨f0, f1, f2, f3, f4, f5⟩ := ZA2.free
     have zl := ZA2.lt
     dsimp only [List.length_nil] at z0 z1 z2 z3 z4 z5
     obtain ⟨KT, OB⟩ := KS.over ZA hz NG.1 NG.2.1 NG.2.2.1 NG.2.2.2.1 NG.2.2.2.2.1 NG.2.2.2.2.2.1 NG.2.2.2.2.2.2
     have RE2 := ErSl.setNe RE hfar zc
     unfold setS at KT OB RE2
     clear ZA2
     refine wpAnyH_ready (rs := [11]) (by kernel_rfl) (by simp) ?_
     refine AllReadyH.cons (o := ⟨none, _, _, _, _, _⟩) rfl (fun K hK => ?_) AllReadyH.nil
     go_simp
     refine hK.out _ _ ?_ (fun HH => ?_)
     ·exact HSC.out _ KT
     clear hK K z0 z1 z2 z3 z4 z5 f0 f1 f2 f3 f4 f5 zl KS ZA hz RE hle hqm hfar NG
     (try simp only [Act.put, List.setIfInBounds_toArray, List.set_cons_zero, List.set_cons_succ])
     refine tV 12 17 ?_
     refine wpAnyH_done (by kernel_rfl) ?_ _
     clear HH HSC KK K0
     generalize ((((((T.setCell ⟨g5, 0, none⟩ (.int .i64 zc.now)).setCell ⟨g5, 1, none⟩ (.int .i64 zc.hor)).setCell ⟨g5, 2, none⟩ (.slice zc.oa zc.op.length zc.oc)).setCell ⟨g5, 3, none⟩ (.slice zc.ua zc.us.length zc.uc)).setCell ⟨g5, 4, none⟩ (.slice zc.sa zc.su.length zc.sc)).setCell ⟨g5, 5, none⟩ (.slice zc.ta zc.tb.length zc.tc)) = T9 at *
     have KG : Hid (FgK w g1 y g2 v t1 TT a2 m g3 za b3 EA B3 g4 zb b4 E0 B4 T9) := Lib.hid KT
     have KO : Hid (SB w g5 39 zc T9) := Lib.hid OB
     have KR : Hid (ErSl T9 b5 EA) := Lib.hid RE2
     have RE : Hid (ErSl T9 b4 E0) := Lib.hid KT.fo.row
     clear KT OB RE2 HFB HNM HML
     go_wp2
     go_loopw [78] (fun iv wr => ∃ (j : Nat), j ≤ E0.length ∧ iv = .int .i64 j ∧ Hid (FgK w g1 y g2 v t1 TT a2 m g3 za b3 EA B3 g4 zb b4 E0 B4 wr) ∧ Hid (SB w g5 39 zc wr) ∧ Hid (ErSl wr b5 EA) ∧ Hid (ErSl wr b4 E0)) (fun iv _ => E0.length - (intOf iv).toNat)
     case atStart => exact ⟨0, by omega, rfl, KG.out, KO.out, KR.out, RE.out⟩
     case round =>
      clear KG KO KR RE
      obtain ⟨j, hj, rfl, KG, KO, KR, RE⟩ := hrel
      by_cases hjl : j < E0.length
      ·obtain ⟨b, off, hb4, hbl, r0⟩ := RE.out.at_ hjl
       subst hb4
       rw [HE0.out j hjl] at r0
       have hlen := HE0L.out
       clear HSM HTD HAL HEA HE0 HE0L
       go_wp2
       go_roundw
       case rel => exact ⟨j + 1, by omega, by go_num, KG.out, KO.out, KR.out, RE.out⟩
       case measure => simp [intOf]; omega
      ·obtain rfl : j = E0.length := by omega
       clear RE hj hjl HE0 HE0L
       obtain ⟨ca0, ca1, ca2, ca3, ca4, ca5⟩ := KG.out.fa.cells
       obtain ⟨cc0, cc1, cc2, cc3, cc4, cc5⟩ := KO.out.cells
       go_wp2_with fail
       refine (HAL.out _).mono ?_
       rintro r x1 ⟨rfl, h1⟩
       clear ca0 ca1 ca2 ca3 ca4 ca5 cc0 cc1 cc2 cc3 cc4 cc5
       replace KG := Lib.hid (KG.out.below h1)
       replace KO := Lib.hid (KO.out.below h1)
       replace KR := Lib.hid (KR.out.below h1)
       clear h1
       obtain ⟨hpos, hea⟩ := HEA.out
       obtain ⟨b, off, hb3, hbl, r0⟩ := KG.out.fx.row.at_ hpos
       rw [hea] at r0
       subst hb3
       have r1 := r0
       simp only [Nat.add_zero] at r1
       have hpi : (0 : Int) < (EA.length : Int) := by omega
       have hpd : decide (0 < EA.length) = true := decide_eq_true hpos
       have hpe : decide ((0 : Int) < (EA.length : Int)) = true := decide_eq_true hpi
       obtain ⟨ca0, ca1, ca2, ca3, ca4, ca5⟩ := KG.out.fa.cells
       obtain ⟨cc0, cc1, cc2, cc3, cc4, cc5⟩ := KO.out.cells
       go_wp2_with fail
       refine (HSM.out za zc _ KG.out.fa.at_ KO.out.at_ zam zm).mono ?_
       rintro r x2 ⟨rfl, h2⟩
       clear ca0 ca1 ca2 ca3 ca4 ca5 cc0 cc1 cc2 cc3 cc4 cc5
       replace KG := Lib.hid (KG.out.below h2)
       replace KO := Lib.hid (KO.out.below h2)
       replace KR := Lib.hid (KR.out.below h2)
       clear h2
       clear r0 r1 hpi hpd hpe hpos hea hbl HEA HSM
       go_wp2_with fail
       refine (HTD.out _ b5 ex ey _ KG.out.fx.row KR.out).mono ?_
       rintro r x5 ⟨rfl, h5⟩
       have HF := Lib.hid (KO.out.below h5).frame
       clear h5 KG KO KR HTD
       go_wp2
       go_ret
       exact ⟨rfl, HF.out⟩
set_option maxRecDepth 100000 in
theorem lifted (os : Os) (started : os.Started) (H : Type) (enc : TypeId × Value → H) :
  ReturnsInHanded {} Tryz.checked os 5 .any (Rows.foldErasedSpec.pre6 enc Tryz.prog Tryz.f5 Rows.foldErasedRow.domain false) (Rows.foldErasedSpec.post enc Tryz.prog Tryz.f5 false true false false) := by
 refine returnsInHanded_of_change (C := Tryz.checked) own started (by kernel_rfl) Tryz.func5
  (ChangeSpec.witness6 (enc := enc) (C := Tryz.checked) false ⟨#[], #[.slice none 0 0, .string ByteArray.empty, .slice none 0 0], []⟩ 8 (by kernel_rfl) (by kernel_rfl) (by kernel_rfl) (by kernel_rfl)) ?_
 intro W base args ds gs before hval0 hW hcnd _
 have hval : ∀ (j : Nat) t v, Tryz.f5.params[j]? = some t → args[j]? = some v → Value.okWide Tryz.prog W .any base t v := hval0
 have hW' := hW
 have hlt := hW.lt
 obtain ⟨p, q, hA0, hV, rfl, hfz, hnd⟩ := hW
 have hA : DataW.TrodAll enc Tryz.prog W 0 (fun _ => true) true Tryz.f5.params.toList args.toList ds p := hA0
 rw [Tryz.params5] at hA hval
 obtain ⟨v0, vs0, d0, ds0, p0, q0, hargs, rfl, rfl, h0, r0⟩ := trodAll_cons hA
 obtain ⟨v1, vs1, d1, ds1, p1, q1, rfl, rfl, rfl, h1, r1⟩ := trodAll_cons r0
 obtain ⟨v2, vs2, d2, ds2, p2, q2, rfl, rfl, rfl, h2, r2⟩ := trodAll_cons r1
 obtain ⟨rfl, rfl, rfl⟩ := trodAll_nil r2
 obtain rfl : args = #[v0, v1, v2] := by cases args; simp_all
 obtain ⟨a0, c0, l0, rfl, s0, f0, m0, n0, o0⟩ := open_events (hval 0 28 v0 rfl rfl) h0
 obtain ⟨a1, rfl, -, -, w1⟩ := open_string Tryz.underlying9 (hval 1 9 v1 rfl rfl) h1
 obtain ⟨a2, c2, l2, rfl, s2, f2, m2, n2, o2⟩ := open_events (hval 2 28 v2 rfl rfl) h2
 refine (walk W a0 c0 l0 s0 f0 m0 n0 o0 a1 w1 a2 c2 l2 s2 f2 m2 n2 o2).mono fun e W' ⟨he, hb⟩ => ?_
 subst he
 exact ⟨_, rfl, law_post rfl hW' (fun ds h => by match ds, h with | [_, _, _], _ => rfl) (by kernel_rfl) (by kernel_rfl) (by kernel_rfl) hb⟩

theorem over : Rows.foldErasedRow.holds Tryz.pinned (OpenSpec.ofChange Rows.foldErasedSpec) :=
 OpenClaim.holds_of_wide 5 Tryz.f5 rfl rfl rfl rfl rfl rfl rfl ⟨rfl, rfl, rfl, rfl, rfl⟩ rfl rfl rfl rfl rfl (by kernel_rfl) Tryz.func5 closedFoldErased
  (of_decide_eq_true (by kernel_rfl)) (by unfold Func.isWrapper; first | (rw [if_pos (by decide +kernel)]; kernel_rfl) | (rw [if_neg (by decide +kernel)]; exact ⟨rfl, rfl⟩))
  (fun os started H enc _ => lifted os started H enc)

theorem proved : Rows.FoldErasedSaid := over
end Go.Proofs.YtapacckmgmdnoaaGreat.foldErased
