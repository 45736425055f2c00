/- Texts of mine, one behind the other, of each what is wanted. -/
import Derived.Test.YtapacckmgmdnoaaGreatR00
import Derived.Test.YtapacckmgmdnoaaGreatShelf
import Derived.Test.YtapacckmgmdnoaaGreatR01
import Derived.Test.YtapacckmgmdnoaaGreatR03
import Derived.Test.YtapacckmgmdnoaaGreatR04
import Derived.Test.YtapacckmgmdnoaaGreatR09
import Derived.Test.YtapacckmgmdnoaaGreatR12
import Derived.Test.YtapacckmgmdnoaaGreatR13
import Derived.Test.YtapacckmgmdnoaaGreatR16
import Derived.Test.YtapacckmgmdnoaaGreatTQ
namespace Go.Proofs.YtapacckmgmdnoaaGreat
open Go.RowKit Go.Proofs
set_option linter.unusedVariables false
set_option maxRecDepth 100000
set_option maxRecDepth 100000
theorem EnSl.snil {w : World} {l : List EnM} (h : EnSl w none l) : l = [] := by
 cases l with
 | nil => rfl
 | cons y m => obtain ⟨_, _, e, _⟩ := h 0 (by simp); cases e
theorem sl_drew3 (W : World) (xs : Array Value) (t : TypeId) : Sl (W.alloc (.cells xs t)).drew (some ⟨W.heap.size, 0, none⟩) xs.toList := (sl_lit W xs t).drewN 1
theorem econcat3 (x y : Option Addr) (A B : List EnM) (c1 c2 n1 n2 : Nat) (s : EnM) (W : World) (g1 g2 : Nat) (T : TypeId) (h1 : n1 = A.length) (h2 : n2 = B.length) (hA : EnSl W x A) (hB : EnSl W y B) (k1 : x = none → c1 = 0) (k2 : y = none → c2 = 0) (hg1 : g1 = W.heap.size) (hg2 : g2 = W.heap.size + 1) (hl : A.length + B.length ≤ 1000) :
  Calls Tryz.prog 233 #[.slice (some ⟨g2, 0, none⟩) 3 3] ((W.alloc (.cells #[.string s.w, .string s.u, .int .i64 s.f, .int .i64 s.t] 165)).alloc (.cells #[.slice x n1 c1, .slice (some ⟨g1, 0, none⟩) 1 1, .slice y n2 c2] T)).drew fun e w' => ∃ v, e = .returned v ∧ w'.ownsRow W.heap.size 165 4 v (A ++ s :: B).length (ens (A ++ s :: B)) ∧ Below W.heap.size W w' := by
 subst hg1 h1 h2
 have hcat : catE [⟨x, A, c1⟩, ⟨some ⟨W.heap.size, 0, none⟩, [s], 1⟩, ⟨y, B, c2⟩] = A ++ s :: B := by simp [catE]
 have hb1 := ebelow_one W (.cells #[.string s.w, .string s.u, .int .i64 s.f, .int .i64 s.t] 165)
 have hS := cells_en W [s] #[.string s.w, .string s.u, .int .i64 s.f, .int .i64 s.t] 165 _ rfl rfl
 generalize hW1 : W.alloc (.cells #[.string s.w, .string s.u, .int .i64 s.f, .int .i64 s.t] 165) = W1 at *
 have hz : W1.heap.size = W.heap.size + 1 := by rw [← hW1, size1]
 have hb2 := ebelow_one W1 (.cells #[.slice x A.length c1, .slice (some ⟨W.heap.size, 0, none⟩) 1 1, .slice y B.length c2] T)
 have hb2 := hb2.drew
 have hb := hb1.trans (hb2.mono hb1.size)
 have hlen : (catE [⟨x, A, c1⟩, ⟨some ⟨W.heap.size, 0, none⟩, [s], 1⟩, ⟨y, B, c2⟩]).length ≤ 100000 := by rw [hcat, List.length_append, List.length_cons]; omega
 rw [hg2, ← hz]
 refine (econcat_any (some ⟨W1.heap.size, 0, none⟩) 3 [⟨x, A, c1⟩, ⟨some ⟨W.heap.size, 0, none⟩, [s], 1⟩, ⟨y, B, c2⟩] _ (sl_drew3 W1 #[.slice x A.length c1, .slice (some ⟨W.heap.size, 0, none⟩) 1 1, .slice y B.length c2] T) ?_ (by show 3 ≤ _; decide) hlen).mono ?_
 ·intro r hr
  simp only [List.mem_cons, List.mem_nil_iff, or_false] at hr
  rcases hr with rfl | rfl | rfl
  ·exact ⟨hA.below hb, k1⟩
  ·exact ⟨hS.below hb2, fun h => by cases h⟩
  ·exact ⟨hB.below hb, k2⟩
 ·rintro e w' ⟨v, rfl, ho, hbb⟩
  rw [hcat] at ho
  exact ⟨v, rfl, own_low ho hb.size, hb.trans (hbb.mono hb.size)⟩
set_option maxHeartbeats 8000000 in
theorem grant_any (a : Option Addr) (c : Nat) (l : List EnM) (p u : ByteArray) (n : Int) (w : World) (hr : EnSl w a l) (hn : a = none → c = 0) (hl : l.length ≤ 500) (hc : l.length ≤ c) (hcm : c ≤ maxLen) :
  Calls Tryz.prog 196 #[.slice a l.length c, pr p u, .int .i64 n] w fun e w' => (l.any (infE p u) = true ∧ e = .returned (.tuple #[.slice none 0 0, .int .i64 90]) ∧ Below w.heap.size w w') ∨
   (l.any (infE p u) = false ∧ ∃ v, e = .returned (.tuple #[v, .int .i64 0]) ∧ w'.ownsRow w.heap.size 165 4 v (grantS l (mkE p u n)).length (ens (grantS l (mkE p u n))) ∧ Below w.heap.size w w') := by
 have HPC := Lib.hid (PK.new hr p u 79)
 have HIF := Lib.hid (fun W (h : EnSl W a l) => inForce_any a c l p u W h (by omega))
 have HAB : Hid (∀ (x : EnM) W, Calls Tryz.prog 221 #[.agg #[.string x.w, .string x.u, .int .i64 x.f, .int .i64 x.t], .agg #[.string p, .string u, .int .i64 n, .int .i64 1099511627776]] W fun e w' => e = .returned (.bool (decide (aheadE (mkE p u n) x))) ∧ Below W.heap.size W w') := fun x W => above_any x (mkE p u n) W
 have HNil := Lib.hid hn
 have HGA := Lib.hid (fun k (h : IsFirst (fun x => decide (aheadE (mkE p u n) x)) l k) => grant_at h)
 unfold maxLen at hcm
 unfold pr at *
 generalize hG : grantS l (mkE p u n) = G at *
 clear hr hn hG
 cases hi : l.any (infE p u) with
 | true =>
  rw [hi] at HIF
  go_enter Tryz.func196, Tryz.ntmps196
  go_wp2_with fail
  refine (HIF.out _ HPC.out.row).mono ?_
  rintro e w1 ⟨rfl, hB⟩
  have K1 := Lib.hid (HPC.out.below hB)
  go_wp2
  go_ret2
  exact Or.inl ⟨by trivial, rfl, K1.out.frame⟩
 | false =>
  rw [hi] at HIF
  go_enter Tryz.func196, Tryz.ntmps196
  go_wp2_with fail
  refine (HIF.out _ HPC.out.row).mono ?_
  rintro e w1 ⟨rfl, hB⟩
  have K1 := Lib.hid (HPC.out.below hB)
  obtain ⟨c0, c1, -⟩ := K1.out.pc
  have HK0 : Hid (RsE w w1.heap.size (mkE p u n) a l (w1.alloc (.cells #[.string p, .string u, .int .i64 n, .int .i64 1099511627776] 165))) := RsE.new (x := mkE p u n) K1.out.row K1.out.frame 165
  have HSB : Hid (∀ W, RsE w w1.heap.size (mkE p u n) a l W → W.cell? ⟨w1.heap.size, 0, none⟩ = some (.string p) ∧ W.cell? ⟨w1.heap.size, 1, none⟩ = some (.string u) ∧ W.cell? ⟨w1.heap.size, 2, none⟩ = some (.int .i64 n) ∧ W.cell? ⟨w1.heap.size, 3, none⟩ = some (.int .i64 1099511627776)) := fun W h => h.box
  have HSC : Hid (∀ b off j (hj : j < l.length) W, a = some ⟨b, off, none⟩ → RsE w w1.heap.size (mkE p u n) a l W → W.cell? ⟨w1.heap.size, 0, none⟩ = some (.string p) ∧ W.cell? ⟨w1.heap.size, 1, none⟩ = some (.string u) ∧ W.cell? ⟨w1.heap.size, 2, none⟩ = some (.int .i64 n) ∧ W.cell? ⟨w1.heap.size, 3, none⟩ = some (.int .i64 1099511627776) ∧ W.cell? ⟨b, off + j * 4, none⟩ = some (.string l[j].w) ∧ W.cell? ⟨b, off + j * 4 + 1, none⟩ = some (.string l[j].u) ∧ W.cell? ⟨b, off + j * 4 + 2, none⟩ = some (.int .i64 l[j].f) ∧ W.cell? ⟨b, off + j * 4 + 3, none⟩ = some (.int .i64 l[j].t)) := fun b off j hj W e h => by subst e; exact h.at_ hj
  clear hB HPC HIF
  go_wp2
  generalize w1.heap.size = g at *
  go_loopw [9] (fun i wr => ∃ (j : Nat), j ≤ l.length ∧ i = .int .i64 j ∧ Hid (LowTo (fun x => decide (aheadE (mkE p u n) x)) l j) ∧ Hid (RsE w g (mkE p u n) a l wr)) (fun i _ => l.length - (intOf i).toNat)
  case atStart => exact ⟨0, by omega, rfl, fun k _ h => absurd h (by omega), HK0.out⟩
  case round =>
   obtain ⟨j, hj, rfl, HO, HK⟩ := hrel
   by_cases hjl : j < l.length
   ·obtain ⟨b, off, rfl, -, -, -, -, -⟩ := HK.out.row.at_ hjl
    have HNX := Lib.hid (HO.out.next hjl)
    have HHT := Lib.hid (HO.out.hit hjl)
    have HP0 : Hid (∀ W, RsE w g (mkE p u n) (some ⟨b, off, none⟩) l W → W.cell? ⟨g, 0, none⟩ = some (.string p) ∧ W.cell? ⟨g, 1, none⟩ = some (.string u) ∧ W.cell? ⟨g, 2, none⟩ = some (.int .i64 n) ∧ W.cell? ⟨g, 3, none⟩ = some (.int .i64 1099511627776) ∧ W.cell? ⟨b, off + j * 4, none⟩ = some (.string l[j].w) ∧ W.cell? ⟨b, off + j * 4 + 1, none⟩ = some (.string l[j].u) ∧ W.cell? ⟨b, off + j * 4 + 2, none⟩ = some (.int .i64 l[j].f) ∧ W.cell? ⟨b, off + j * 4 + 3, none⟩ = some (.int .i64 l[j].t)) := fun W h => HSC.out b off j hjl W rfl h
    have HCX := Lib.hid (HAB.out l[j])
    have K1 := HK.out.below (Below.refl _ _).drew
    generalize l[j] = x at *
    by_cases h3 : aheadE (mkE p u n) x
    ·have HP := Lib.hid (HHT.out (decide_eq_true h3))
     rw [decide_eq_true h3] at HCX
     clear HNX HHT HO h3 HAB HSC HNil
     go_wp2_with fail
     go_region_held3 (fun W => W.cell? ⟨g, 0, none⟩ = some (.string p) ∧ W.cell? ⟨g, 1, none⟩ = some (.string u) ∧ W.cell? ⟨g, 2, none⟩ = some (.int .i64 n) ∧ W.cell? ⟨g, 3, none⟩ = some (.int .i64 1099511627776) ∧ W.cell? ⟨b, off + j * 4, none⟩ = some (.string x.w) ∧ W.cell? ⟨b, off + j * 4 + 1, none⟩ = some (.string x.u) ∧ W.cell? ⟨b, off + j * 4 + 2, none⟩ = some (.int .i64 x.f) ∧ W.cell? ⟨b, off + j * 4 + 3, none⟩ = some (.int .i64 x.t))
      (first | exact HP0.out _ K1 | exact HP0.out _ K3)
      (first | (go_at_call 221; refine (HCX.out _).mono ?_; rintro e w3 ⟨rfl, h3⟩; have K3 := K1.below h3))
     have KD := K3.below (Below.refl _ _).drew
     have hcj : ¬ c = j := by omega
     have hcj2 : j < c := by omega
     have hpc : j ≤ c := by omega
     have hz1 : (0 : Int) ≤ (j : Int) := by omega
     have hz2 : (j : Int) ≤ (l.length : Int) := by omega
     have hz3 : (j : Int) ≤ (c : Int) := by omega
     have hz4 : (l.length : Int) ≤ (c : Int) := by omega
     have HAC : Hid (∀ W g1 g2 T, EnSl W (some ⟨b, off, none⟩) l → g1 = W.heap.size → g2 = W.heap.size + 1 → Calls Tryz.prog 233 #[.slice (some ⟨g2, 0, none⟩) 3 3] ((W.alloc (.cells #[.string p, .string u, .int .i64 n, .int .i64 1099511627776] 165)).alloc (.cells #[.slice (some ⟨b, off, none⟩) j c, .slice (some ⟨g1, 0, none⟩) 1 1, .slice (some ⟨b, off + j * 4, none⟩) (l.length - j) (c - j)] T)).drew fun e w' => ∃ v, e = .returned v ∧ w'.ownsRow W.heap.size 165 4 v G.length (ens G) ∧ Below W.heap.size W w') := fun W g1 g2 T hs e1 e2 => by
      have h := econcat3 (some ⟨b, off, none⟩) (some ⟨b, off + j * 4, none⟩) (l.take j) (l.drop j) c (c - j) j (l.length - j) (mkE p u n) W g1 g2 T (by rw [List.length_take]; omega) (by rw [List.length_drop]) (hs.take j) (hs.drop j) (fun h => by cases h) (fun h => by cases h) e1 e2 (by rw [List.length_take, List.length_drop]; omega)
      rw [← HGA.out j HP.out] at h
      exact h
     clear HGA HP HP0
     go_wp2_with fail
     go_region_held3 (fun W => W.cell? ⟨g, 0, none⟩ = some (.string p) ∧ W.cell? ⟨g, 1, none⟩ = some (.string u) ∧ W.cell? ⟨g, 2, none⟩ = some (.int .i64 n) ∧ W.cell? ⟨g, 3, none⟩ = some (.int .i64 1099511627776))
      (first | with_reducible exact HSB.out _ (KD.below (ebelow_one _ _)) | with_reducible exact HSB.out _ ((KD.below (ebelow_one _ _)).below (ebelow_one _ _)) | with_reducible exact HSB.out _ KD | with_reducible exact HSB.out _ KE)
      (first | (go_at_call 233; refine (HAC.out _ _ _ _ K3.row rfl rfl).mono ?_; rintro e w5 ⟨v, rfl, ho5, hb5⟩; have KE := K3.below hb5; have HO5 := Lib.hid ho5; have HB5 := Lib.hid hb5; clear ho5 hb5))
     go_wp2
     go_ret2
     exact Or.inr ⟨by trivial, v, rfl, own_low HO5.out K3.frame.size, KE.frame⟩
    ·have HN := Lib.hid (HNX.out (decide_eq_false h3))
     rw [decide_eq_false h3] at HCX
     clear HNX HHT HO h3 HAB HSC HNil HGA
     go_wp2_with fail
     go_region_held3 (fun W => W.cell? ⟨g, 0, none⟩ = some (.string p) ∧ W.cell? ⟨g, 1, none⟩ = some (.string u) ∧ W.cell? ⟨g, 2, none⟩ = some (.int .i64 n) ∧ W.cell? ⟨g, 3, none⟩ = some (.int .i64 1099511627776) ∧ W.cell? ⟨b, off + j * 4, none⟩ = some (.string x.w) ∧ W.cell? ⟨b, off + j * 4 + 1, none⟩ = some (.string x.u) ∧ W.cell? ⟨b, off + j * 4 + 2, none⟩ = some (.int .i64 x.f) ∧ W.cell? ⟨b, off + j * 4 + 3, none⟩ = some (.int .i64 x.t))
      (first | exact HP0.out _ K1 | exact HP0.out _ K3)
      (first | (go_at_call 221; refine (HCX.out _).mono ?_; rintro e w3 ⟨rfl, h3⟩; have K3 := K1.below h3))
     go_wp2
     go_roundw
     case rel => exact ⟨j + 1, by omega, by go_num, HN, K3⟩
     case measure => simp [intOf]; omega
   ·have hje : j = l.length := by omega
    have HP : Hid (IsFirst (fun x => decide (aheadE (mkE p u n) x)) l j) := by rw [hje] at HO ⊢; exact HO.out.miss
    have hlt : decide ((j : Int) < (l.length : Int)) = false := decide_eq_false (by omega)
    clear HAB HSC HO
    go_wp2_with fail
    refine wp_region_held_drew (S := (fun W => W.cell? ⟨g, 0, none⟩ = some (.string p) ∧ W.cell? ⟨g, 1, none⟩ = some (.string u) ∧ W.cell? ⟨g, 2, none⟩ = some (.int .i64 n) ∧ W.cell? ⟨g, 3, none⟩ = some (.int .i64 1099511627776))) (by kernel_rfl) ?_ (fun hHeld => ?_)
    ·exact HSB.out _ (HK.out.below (Below.refl _ _).drew)
    refine tV 0 17 ?_
    refine tV 1 18 ?_
    refine tV 2 19 ?_
    refine tV 3 20 ?_
    refine tV 4 21 ?_
    refine tU 5 22 ?_
    refine tU 6 23 ?_
    refine tU 7 24 ?_
    refine tU 8 25 ?_
    refine tU 9 26 ?_
    refine tU 10 27 ?_
    refine tU 11 28 ?_
    refine tV 12 29 ?_
    refine wpAnyH_done (by kernel_rfl) ?_ _
    have K3 := HK.out.below (Below.refl _ _).drew
    generalize wr.drew = w3 at *
    clear hlt
    cases a with
    | none =>
     have hc0 := HNil.out rfl
     have hl0 := K3.row.snil
     subst hc0 hl0
     obtain rfl : j = 0 := by simpa using hje
     have KD := K3.below (Below.refl _ _).drew
     have HAC : Hid (∀ W g1 g2 T, EnSl W none [] → g1 = W.heap.size → g2 = W.heap.size + 1 → Calls Tryz.prog 233 #[.slice (some ⟨g2, 0, none⟩) 3 3] ((W.alloc (.cells #[.string p, .string u, .int .i64 n, .int .i64 1099511627776] 165)).alloc (.cells #[.slice none 0 0, .slice (some ⟨g1, 0, none⟩) 1 1, .slice none 0 0] T)).drew fun e w' => ∃ v, e = .returned v ∧ w'.ownsRow W.heap.size 165 4 v G.length (ens G) ∧ Below W.heap.size W w') := fun W g1 g2 T hs e1 e2 => by
      have h := econcat3 none none [] [] 0 0 0 0 (mkE p u n) W g1 g2 T rfl rfl (EnSl.nil _ _) (EnSl.nil _ _) (fun _ => rfl) (fun _ => rfl) e1 e2 (by simp)
      have e0 := HGA.out 0 HP.out
      rw [List.take_nil, List.drop_nil] at e0
      rw [← e0] at h
      exact h
     clear HGA HP HNil hje
     go_wp2_with fail
     go_region_held3 (fun W => W.cell? ⟨g, 0, none⟩ = some (.string p) ∧ W.cell? ⟨g, 1, none⟩ = some (.string u) ∧ W.cell? ⟨g, 2, none⟩ = some (.int .i64 n) ∧ W.cell? ⟨g, 3, none⟩ = some (.int .i64 1099511627776))
      (first | with_reducible exact HSB.out _ (KD.below (ebelow_one _ _)) | with_reducible exact HSB.out _ ((KD.below (ebelow_one _ _)).below (ebelow_one _ _)) | with_reducible exact HSB.out _ KD | with_reducible exact HSB.out _ KE)
      (first | (go_at_call 233; refine (HAC.out _ _ _ _ K3.row rfl rfl).mono ?_; rintro e w5 ⟨v, rfl, ho5, hb5⟩; have KE := K3.below hb5; have HO5 := Lib.hid ho5; have HB5 := Lib.hid hb5; clear ho5 hb5))
     go_wp2
     go_ret2
     exact Or.inr ⟨by trivial, v, rfl, own_low HO5.out K3.frame.size, KE.frame⟩
    | some ad =>
     by_cases hlz : 0 < l.length
     ·obtain ⟨b, off, e, -, -, -, -, -⟩ := K3.row.at_ hlz
      cases e
      have KD := K3.below (Below.refl _ _).drew
      by_cases hcj : c = j
      ·subst hje
       subst hcj
       have HAC : Hid (∀ W g1 g2 T, EnSl W (some ⟨b, off, none⟩) l → g1 = W.heap.size → g2 = W.heap.size + 1 → Calls Tryz.prog 233 #[.slice (some ⟨g2, 0, none⟩) 3 3] ((W.alloc (.cells #[.string p, .string u, .int .i64 n, .int .i64 1099511627776] 165)).alloc (.cells #[.slice (some ⟨b, off, none⟩) l.length l.length, .slice (some ⟨g1, 0, none⟩) 1 1, .slice (some ⟨b, off, none⟩) 0 0] T)).drew fun e w' => ∃ v, e = .returned v ∧ w'.ownsRow W.heap.size 165 4 v G.length (ens G) ∧ Below W.heap.size W w') := fun W g1 g2 T hs e1 e2 => by
        have h := econcat3 (some ⟨b, off, none⟩) (some ⟨b, off, none⟩) l [] l.length 0 l.length 0 (mkE p u n) W g1 g2 T rfl rfl hs (EnSl.nil _ _) (fun h => by cases h) (fun h => by cases h) e1 e2 (by simp; omega)
        have e0 := HGA.out l.length HP.out
        rw [List.take_of_length_le (Nat.le_refl _), List.drop_of_length_le (Nat.le_refl _)] at e0
        rw [← e0] at h
        exact h
       have hz2 : (l.length : Int) ≤ (l.length : Int) := Int.le_refl _
       have hz1 : (0 : Int) ≤ (l.length : Int) := by omega
       clear HGA HP HNil
       go_wp2_with fail
       go_region_held3 (fun W => W.cell? ⟨g, 0, none⟩ = some (.string p) ∧ W.cell? ⟨g, 1, none⟩ = some (.string u) ∧ W.cell? ⟨g, 2, none⟩ = some (.int .i64 n) ∧ W.cell? ⟨g, 3, none⟩ = some (.int .i64 1099511627776))
        (first | with_reducible exact HSB.out _ (KD.below (ebelow_one _ _)) | with_reducible exact HSB.out _ ((KD.below (ebelow_one _ _)).below (ebelow_one _ _)) | with_reducible exact HSB.out _ KD | with_reducible exact HSB.out _ KE)
        (first | (go_at_call 233; refine (HAC.out _ _ _ _ K3.row rfl rfl).mono ?_; rintro e w5 ⟨v, rfl, ho5, hb5⟩; have KE := K3.below hb5; have HO5 := Lib.hid ho5; have HB5 := Lib.hid hb5; clear ho5 hb5))
       go_wp2
       go_ret2
       exact Or.inr ⟨by trivial, v, rfl, own_low HO5.out K3.frame.size, KE.frame⟩
      ·have hcj2 : j < c := by omega
       have hpc : j ≤ c := by omega
       have hz1 : (0 : Int) ≤ (j : Int) := by omega
       have hz2 : (j : Int) ≤ (l.length : Int) := by omega
       have hz3 : (j : Int) ≤ (c : Int) := by omega
       have hz4 : (l.length : Int) ≤ (c : Int) := by omega
       have HAC : Hid (∀ W g1 g2 T, EnSl W (some ⟨b, off, none⟩) l → g1 = W.heap.size → g2 = W.heap.size + 1 → Calls Tryz.prog 233 #[.slice (some ⟨g2, 0, none⟩) 3 3] ((W.alloc (.cells #[.string p, .string u, .int .i64 n, .int .i64 1099511627776] 165)).alloc (.cells #[.slice (some ⟨b, off, none⟩) j c, .slice (some ⟨g1, 0, none⟩) 1 1, .slice (some ⟨b, off + j * 4, none⟩) (l.length - j) (c - j)] T)).drew fun e w' => ∃ v, e = .returned v ∧ w'.ownsRow W.heap.size 165 4 v G.length (ens G) ∧ Below W.heap.size W w') := fun W g1 g2 T hs e1 e2 => by
        have h := econcat3 (some ⟨b, off, none⟩) (some ⟨b, off + j * 4, none⟩) (l.take j) (l.drop j) c (c - j) j (l.length - j) (mkE p u n) W g1 g2 T (by rw [List.length_take]; omega) (by rw [List.length_drop]) (hs.take j) (hs.drop j) (fun h => by cases h) (fun h => by cases h) e1 e2 (by rw [List.length_take, List.length_drop]; omega)
        rw [← HGA.out j HP.out] at h
        exact h
       clear HGA HP HNil hje
       go_wp2_with fail
       go_region_held3 (fun W => W.cell? ⟨g, 0, none⟩ = some (.string p) ∧ W.cell? ⟨g, 1, none⟩ = some (.string u) ∧ W.cell? ⟨g, 2, none⟩ = some (.int .i64 n) ∧ W.cell? ⟨g, 3, none⟩ = some (.int .i64 1099511627776))
        (first | with_reducible exact HSB.out _ (KD.below (ebelow_one _ _)) | with_reducible exact HSB.out _ ((KD.below (ebelow_one _ _)).below (ebelow_one _ _)) | with_reducible exact HSB.out _ KD | with_reducible exact HSB.out _ KE)
        (first | (go_at_call 233; refine (HAC.out _ _ _ _ K3.row rfl rfl).mono ?_; rintro e w5 ⟨v, rfl, ho5, hb5⟩; have KE := K3.below hb5; have HO5 := Lib.hid ho5; have HB5 := Lib.hid hb5; clear ho5 hb5))
       go_wp2
       go_ret2
       exact Or.inr ⟨by trivial, v, rfl, own_low HO5.out K3.frame.size, KE.frame⟩
     ·have hl0 : l = [] := List.eq_nil_of_length_eq_zero (by omega)
      subst hl0
      obtain rfl : j = 0 := by simpa using hje
      have KD := K3.below (Below.refl _ _).drew
      have hz : (0 : Int) ≤ (c : Int) := by omega
      obtain ⟨b, off, sp⟩ := ad
      have HAC : Hid (∀ W g1 g2 T (x y : Addr) (c1 c2 : Nat), EnSl W (some ⟨b, off, sp⟩) [] → g1 = W.heap.size → g2 = W.heap.size + 1 → Calls Tryz.prog 233 #[.slice (some ⟨g2, 0, none⟩) 3 3] ((W.alloc (.cells #[.string p, .string u, .int .i64 n, .int .i64 1099511627776] 165)).alloc (.cells #[.slice (some x) 0 c1, .slice (some ⟨g1, 0, none⟩) 1 1, .slice (some y) 0 c2] T)).drew fun e w' => ∃ v, e = .returned v ∧ w'.ownsRow W.heap.size 165 4 v G.length (ens G) ∧ Below W.heap.size W w') := fun W g1 g2 T x y c1 c2 hs e1 e2 => by
       have h := econcat3 (some x) (some y) [] [] c1 c2 0 0 (mkE p u n) W g1 g2 T rfl rfl (EnSl.nil _ _) (EnSl.nil _ _) (fun h => by cases h) (fun h => by cases h) e1 e2 (by simp)
       have e0 := HGA.out 0 HP.out
       rw [List.take_nil, List.drop_nil] at e0
       rw [← e0] at h
       exact h
      clear HGA HP HNil hje
      by_cases hcp : c = 0
      ·subst hcp
       go_wp2_with fail
       go_region_held3 (fun W => W.cell? ⟨g, 0, none⟩ = some (.string p) ∧ W.cell? ⟨g, 1, none⟩ = some (.string u) ∧ W.cell? ⟨g, 2, none⟩ = some (.int .i64 n) ∧ W.cell? ⟨g, 3, none⟩ = some (.int .i64 1099511627776))
        (first | with_reducible exact HSB.out _ (KD.below (ebelow_one _ _)) | with_reducible exact HSB.out _ ((KD.below (ebelow_one _ _)).below (ebelow_one _ _)) | with_reducible exact HSB.out _ KD | with_reducible exact HSB.out _ KE)
        (first | (go_at_call 233; refine (HAC.out _ _ _ _ _ _ _ _ K3.row rfl rfl).mono ?_; rintro e w5 ⟨v, rfl, ho5, hb5⟩; have KE := K3.below hb5; have HO5 := Lib.hid ho5; have HB5 := Lib.hid hb5; clear ho5 hb5))
       go_wp2
       go_ret2
       exact Or.inr ⟨by trivial, v, rfl, own_low HO5.out K3.frame.size, KE.frame⟩
      ·have hcp2 : 0 < c := by omega
       go_wp2_with fail
       go_region_held3 (fun W => W.cell? ⟨g, 0, none⟩ = some (.string p) ∧ W.cell? ⟨g, 1, none⟩ = some (.string u) ∧ W.cell? ⟨g, 2, none⟩ = some (.int .i64 n) ∧ W.cell? ⟨g, 3, none⟩ = some (.int .i64 1099511627776))
        (first | with_reducible exact HSB.out _ (KD.below (ebelow_one _ _)) | with_reducible exact HSB.out _ ((KD.below (ebelow_one _ _)).below (ebelow_one _ _)) | with_reducible exact HSB.out _ KD | with_reducible exact HSB.out _ KE)
        (first | (go_at_call 233; refine (HAC.out _ _ _ _ _ _ _ _ K3.row rfl rfl).mono ?_; rintro e w5 ⟨v, rfl, ho5, hb5⟩; have KE := K3.below hb5; have HO5 := Lib.hid ho5; have HB5 := Lib.hid hb5; clear ho5 hb5))
       go_wp2
       go_ret2
       exact Or.inr ⟨by trivial, v, rfl, own_low HO5.out K3.frame.size, KE.frame⟩
end Go.Proofs.YtapacckmgmdnoaaGreat
