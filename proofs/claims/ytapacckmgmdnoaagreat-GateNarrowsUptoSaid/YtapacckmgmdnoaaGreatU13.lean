/- Texts of mine, one behind the other, of each what is wanted. -/
import Derived.Test.YtapacckmgmdnoaaGreatU00
import Derived.Test.YtapacckmgmdnoaaGreatShelf
import Derived.Test.YtapacckmgmdnoaaGreatU01
import Derived.Test.YtapacckmgmdnoaaGreatU02
import Derived.Test.YtapacckmgmdnoaaGreatU04
import Derived.Test.YtapacckmgmdnoaaGreatU05
import Derived.Test.YtapacckmgmdnoaaGreatU07
import Derived.Test.YtapacckmgmdnoaaGreatU11
import Derived.Test.YtapacckmgmdnoaaGreatU12
namespace Go.Proofs.YtapacckmgmdnoaaGreat
open Go.RowKit Go.Proofs
set_option linter.unusedVariables false
set_option maxRecDepth 100000
set_option maxRecDepth 100000
set_option maxHeartbeats 8000000 in
theorem put_core_tb (a : Option Addr) (c : Nat) (l : List TbM) (p : TbM) (w : World) (hr : TbSl w a l) (hc : Cp a l.length c) (hl : l.length ≤ 1000) :
  Calls Tryz.prog 239 #[.slice a l.length c, .agg #[.string p.u, .int .i64 p.a], .func (.func 126) #[] #[]] w fun e w' => ∃ v L, e = .returned v ∧ w'.ownsRow w.heap.size 141 2 v (L.map tbp).length (pps (L.map tbp)) ∧ IsPut TbM.u l p L ∧ Below w.heap.size w w' := by
 have hb := below_two w (.cells #[.string p.u, .int .i64 p.a] 141) (.cells #[.func (.func 126) #[] #[]] 196)
 have K0 : Pttb w (w.heap.size + 1) w.heap.size p a l ((w.alloc (.cells #[.string p.u, .int .i64 p.a] 141)).alloc (.cells #[.func (.func 126) #[] #[]] 196)) := ⟨⟨by have := cell_of_row ((w.alloc (.cells #[.string p.u, .int .i64 p.a] 141)).alloc (.cells #[.func (.func 126) #[] #[]] 196)) (w.alloc (.cells #[.string p.u, .int .i64 p.a] 141)).heap.size 0 _ _ (0, 0) (heap_alloc_new _ _); rw [size1] at this; exact this, by rw [size1, size1]; omega⟩, ((below_one _ (.cells #[.func (.func 126) #[] #[]] 196)).block _ (by rw [size1]; omega)).trans (heap_alloc_new w _), hr.below hb, hb⟩
 have HF := Lib.hid (find_tb2 a c l 266 (w.heap.size + 1) w.heap.size (fun x => decide (0 ≤ cmpS (TbM.u x) (TbM.u p))) (fun V => Pttb w (w.heap.size + 1) w.heap.size p a l V) ((w.alloc (.cells #[.string p.u, .int .i64 p.a] 141)).alloc (.cells #[.func (.func 126) #[] #[]] 196)) (hr.below hb) K0 (by omega) (call_known Tryz.func266 rfl) (fun W W' h q => h.below q) (fun x hx V h => c_put_tb x p (w.heap.size + 1) w.heap.size V h.f h.p))
 have HIP : Hid (∀ L, ((L = l.take (l.findIdx (fun x => decide (0 ≤ cmpS (TbM.u x) (TbM.u p)))) ++ p :: l.drop (l.findIdx (fun x => decide (0 ≤ cmpS (TbM.u x) (TbM.u p)))) ∧ ∀ h : (l.findIdx (fun x => decide (0 ≤ cmpS (TbM.u x) (TbM.u p)))) < l.length, TbM.u l[l.findIdx (fun x => decide (0 ≤ cmpS (TbM.u x) (TbM.u p)))] ≠ TbM.u p) ∨ (∃ h : (l.findIdx (fun x => decide (0 ≤ cmpS (TbM.u x) (TbM.u p)))) < l.length, TbM.u l[l.findIdx (fun x => decide (0 ≤ cmpS (TbM.u x) (TbM.u p)))] = TbM.u p ∧ L = l.take (l.findIdx (fun x => decide (0 ≤ cmpS (TbM.u x) (TbM.u p)))) ++ p :: l.drop (l.findIdx (fun x => decide (0 ≤ cmpS (TbM.u x) (TbM.u p))) + 1))) → IsPut TbM.u l p L) := fun L h => ⟨_, rfl, h⟩
 have hjl : l.findIdx (fun x => decide (0 ≤ cmpS (TbM.u x) (TbM.u p))) ≤ l.length := List.findIdx_le_length
 have hcl := hc.le
 have hcm := hc.mx
 have HNil := Lib.hid hc.nil
 have HU := Lib.hid tombName_any
 have HK0 := Lib.hid K0
 unfold maxLen at hcm
 clear hr hc hb K0
 generalize l.findIdx (fun x => decide (0 ≤ cmpS (TbM.u x) (TbM.u p))) = j at *
 have HSB : Hid (∀ W, Pttb w (w.heap.size + 1) w.heap.size p a l W → W.cell? ⟨w.heap.size + 1, 0, none⟩ = some (.func (.func 126) #[] #[]) ∧ W.cell? ⟨w.heap.size, 0, none⟩ = some (.string p.u) ∧ W.cell? ⟨w.heap.size, 1, none⟩ = some (.int .i64 p.a)) := fun W h => h.cells
 go_enter Tryz.func239, Tryz.ntmps239
 go_wp2_with fail
 refine HF.out.mono ?_
 rintro e w2 ⟨rfl, hB2⟩
 have HK := Lib.hid (HK0.out.below hB2)
 clear hB2 HF HK0
 by_cases hjl2 : j < l.length
 ·obtain ⟨b, off, rfl, -, -, -⟩ := HK.out.row.at_ (k := j) (by rw [List.length_map]; exact hjl2)
  have hcj : ¬ c = j := by omega
  have hcj2 : j < c := by omega
  have HP0 : Hid (∀ W, Pttb w (w.heap.size + 1) w.heap.size p (some ⟨b, off, none⟩) l W → W.cell? ⟨w.heap.size + 1, 0, none⟩ = some (.func (.func 126) #[] #[]) ∧ W.cell? ⟨w.heap.size, 0, none⟩ = some (.string p.u) ∧ W.cell? ⟨w.heap.size, 1, none⟩ = some (.int .i64 p.a) ∧ W.cell? ⟨b, off + j * 2, none⟩ = some (.string l[j].u) ∧ W.cell? ⟨b, off + j * 2 + 1, none⟩ = some (.int .i64 l[j].a)) := fun W h => ⟨h.f.1, (pcell2 h.p).1, (pcell2 h.p).2, (h.at_ hjl2).1, (h.at_ hjl2).2⟩
  have hpos : decide (0 < l.length - j) = true := decide_eq_true (by omega)
  have hposI : (0 : Int) < ((l.length - j : Nat) : Int) := by omega
  have hposN : 0 < l.length - j := by omega
  have K1 := HK.out.below (Below.refl _ _).drew
  have hpc : j ≤ c := by omega
  have hz1 : (0 : Int) ≤ (j : Int) := by omega
  have hz2 : (j : Int) ≤ (l.length : Int) := by omega
  have hz3 : (j : Int) ≤ (c : Int) := by omega
  have hz4 : (l.length : Int) ≤ (c : Int) := by omega
  by_cases he : TbM.u l[j] = TbM.u p
  ·have HIQ := Lib.hid (HIP.out _ (.inr ⟨hjl2, he, rfl⟩))
   have hq : ((TbM.u l[j]).toList == (TbM.u p).toList) = true := by rw [he]; exact txt_eq _
   have HAC : Hid (∀ W (g1 g2 T : Nat) (x y : Option Addr) (n1 c1 n2 c2 : Nat), PpSl W (some ⟨b, off, none⟩) (l.map tbp) → g1 = W.heap.size → g2 = W.heap.size + 1 → n1 = j → n2 = l.length - (j + 1) → (n1 = 0 ∨ x = some ⟨b, off, none⟩) → (x = none → c1 = 0) → (n2 = 0 ∨ ∃ b2 off2, (some ⟨b, off, none⟩ : Option Addr) = some ⟨b2, off2, none⟩ ∧ y = some ⟨b2, off2 + (j + 1) * 2, none⟩) → (y = none → c2 = 0) →
     Calls Tryz.prog 267 #[.slice (some ⟨g2, 0, none⟩) 3 3] ((W.alloc (.cells #[.string p.u, .int .i64 p.a] 141)).alloc (.cells #[.slice x n1 c1, .slice (some ⟨g1, 0, none⟩) 1 1, .slice y n2 c2] T)).drew fun e w' => ∃ v, e = .returned v ∧ w'.ownsRow W.heap.size 141 2 v ((l.take j ++ p :: l.drop (j + 1)).map tbp).length (pps ((l.take j ++ p :: l.drop (j + 1)).map tbp)) ∧ Below W.heap.size W w') := fun W g1 g2 T x y n1 c1 n2 c2 hs e1 e2 q1 q2 q3 q4 q5 q6 => by
    have hA : PpSl W x ((l.take j).map tbp) := by
     rw [List.map_take]
     rcases q3 with q3 | q3
     ·have : j = 0 := by omega
      subst this
      rw [List.take_zero]
      exact PpSl.nil _ _
     ·rw [q3]; exact hs.take j
    have hB : PpSl W y ((l.drop ((j + 1))).map tbp) := by
     rw [List.map_drop]
     rcases q5 with q5 | ⟨b, off, q5, q7⟩
     ·rw [List.drop_of_length_le (by rw [List.length_map]; omega)]
      exact PpSl.nil _ _
     ·cases q5; rw [q7]; exact hs.drop ((j + 1))
    have h := pconcat3_tb x y ((l.take j).map tbp) ((l.drop ((j + 1))).map tbp) c1 c2 n1 n2 (.string p.u) (.int .i64 p.a) rfl rfl W g1 g2 T (by rw [List.length_map, List.length_take]; omega) (by rw [List.length_map, List.length_drop]; omega) hA hB (by exact tbp_one _) (by exact tbp_one _) q4 q6 e1 e2 (by rw [List.length_map, List.length_map, List.length_take, List.length_drop]; omega)
    have e0 : ((l.take j ++ p :: l.drop (j + 1))).map tbp = (l.take j).map tbp ++ (.string p.u, .int .i64 p.a) :: (l.drop ((j + 1))).map tbp := by rw [List.map_append, List.map_cons]; rfl
    rw [e0]
    exact h
   clear he HIP
   have he2 : (TbM.u l[j]).toList = (TbM.u p).toList := by simpa using hq
   generalize l[j] = x at *
   go_wp2_with fail
   go_region_held3 (fun W => W.cell? ⟨w.heap.size + 1, 0, none⟩ = some (.func (.func 126) #[] #[]) ∧ W.cell? ⟨w.heap.size, 0, none⟩ = some (.string p.u) ∧ W.cell? ⟨w.heap.size, 1, none⟩ = some (.int .i64 p.a) ∧ W.cell? ⟨b, off + j * 2, none⟩ = some (.string x.u) ∧ W.cell? ⟨b, off + j * 2 + 1, none⟩ = some (.int .i64 x.a))
    (first | exact HP0.out _ K3 | exact HP0.out _ K2 | exact HP0.out _ K1)
    (first | (have hseen := K2; clear hseen; go_at_call 126; refine (HU.out _ _ _).mono ?_; rintro e w4 ⟨rfl, h4⟩; have K3 := K2.below h4) | (have hseen := K1; clear hseen; go_at_call 126; refine (HU.out _ _ _).mono ?_; rintro e w3 ⟨rfl, h3⟩; have K2 := K1.below h3))
   have K4 := K3
   have KD := K4.below (Below.refl _ _).drew
   clear HP0 K1 K2 hpos hposI hposN
   by_cases hc1 : c - j = 1
   ·have hl1 : l.length - j = 1 := by omega
    go_wp2_with fail
    go_region_held3 (fun W => W.cell? ⟨w.heap.size + 1, 0, none⟩ = some (.func (.func 126) #[] #[]) ∧ W.cell? ⟨w.heap.size, 0, none⟩ = some (.string p.u) ∧ W.cell? ⟨w.heap.size, 1, none⟩ = some (.int .i64 p.a))
     (first | with_reducible exact HSB.out _ (KD.below (below_one _ _)) | with_reducible exact HSB.out _ ((KD.below (below_one _ _)).below (below_one _ _)) | with_reducible exact HSB.out _ KD | with_reducible exact HSB.out _ KE)
     (first | (go_at_call 267; refine Calls.mono (HAC.out _ _ _ _ _ _ _ _ _ _ K4.row rfl rfl ?_ ?_ ?_ ?_ ?_ ?_) ?_; omega; omega; (first | exact Or.inr rfl | (refine Or.inl ?_; omega)); (intro h; first | rfl | cases h); (first | (refine Or.inl ?_; omega) | (refine Or.inr ⟨_, _, rfl, congrArg (fun o => some (Addr.mk _ o none)) ?_⟩; omega)); (intro h; first | rfl | cases h); rintro e w5 ⟨v, rfl, ho5, hb5⟩; have KE := K4.below hb5; have HO5 := Lib.hid ho5; have HB5 := Lib.hid hb5; clear ho5 hb5))
    go_wp2
    go_ret
    exact ⟨v, _, rfl, own_low2 HO5.out K4.frame.size, HIQ.out, KE.frame⟩
   ·have hc2 : 1 < c - j := by omega
    go_wp2_with fail
    go_region_held3 (fun W => W.cell? ⟨w.heap.size + 1, 0, none⟩ = some (.func (.func 126) #[] #[]) ∧ W.cell? ⟨w.heap.size, 0, none⟩ = some (.string p.u) ∧ W.cell? ⟨w.heap.size, 1, none⟩ = some (.int .i64 p.a))
     (first | with_reducible exact HSB.out _ (KD.below (below_one _ _)) | with_reducible exact HSB.out _ ((KD.below (below_one _ _)).below (below_one _ _)) | with_reducible exact HSB.out _ KD | with_reducible exact HSB.out _ KE)
     (first | (go_at_call 267; refine Calls.mono (HAC.out _ _ _ _ _ _ _ _ _ _ K4.row rfl rfl ?_ ?_ ?_ ?_ ?_ ?_) ?_; omega; omega; (first | exact Or.inr rfl | (refine Or.inl ?_; omega)); (intro h; first | rfl | cases h); (first | (refine Or.inl ?_; omega) | (refine Or.inr ⟨_, _, rfl, congrArg (fun o => some (Addr.mk _ o none)) ?_⟩; omega)); (intro h; first | rfl | cases h); rintro e w5 ⟨v, rfl, ho5, hb5⟩; have KE := K4.below hb5; have HO5 := Lib.hid ho5; have HB5 := Lib.hid hb5; clear ho5 hb5))
    go_wp2
    go_ret
    exact ⟨v, _, rfl, own_low2 HO5.out K4.frame.size, HIQ.out, KE.frame⟩
  ·have HIQ := Lib.hid (HIP.out _ (.inl ⟨rfl, fun _ => he⟩))
   have hq : ((TbM.u l[j]).toList == (TbM.u p).toList) = false := txt_ne he
   have HAC : Hid (∀ W (g1 g2 T : Nat) (x y : Option Addr) (n1 c1 n2 c2 : Nat), PpSl W (some ⟨b, off, none⟩) (l.map tbp) → g1 = W.heap.size → g2 = W.heap.size + 1 → n1 = j → n2 = l.length - j → (n1 = 0 ∨ x = some ⟨b, off, none⟩) → (x = none → c1 = 0) → (n2 = 0 ∨ ∃ b2 off2, (some ⟨b, off, none⟩ : Option Addr) = some ⟨b2, off2, none⟩ ∧ y = some ⟨b2, off2 + j * 2, none⟩) → (y = none → c2 = 0) →
     Calls Tryz.prog 267 #[.slice (some ⟨g2, 0, none⟩) 3 3] ((W.alloc (.cells #[.string p.u, .int .i64 p.a] 141)).alloc (.cells #[.slice x n1 c1, .slice (some ⟨g1, 0, none⟩) 1 1, .slice y n2 c2] T)).drew fun e w' => ∃ v, e = .returned v ∧ w'.ownsRow W.heap.size 141 2 v ((l.take j ++ p :: l.drop j).map tbp).length (pps ((l.take j ++ p :: l.drop j).map tbp)) ∧ Below W.heap.size W w') := fun W g1 g2 T x y n1 c1 n2 c2 hs e1 e2 q1 q2 q3 q4 q5 q6 => by
    have hA : PpSl W x ((l.take j).map tbp) := by
     rw [List.map_take]
     rcases q3 with q3 | q3
     ·have : j = 0 := by omega
      subst this
      rw [List.take_zero]
      exact PpSl.nil _ _
     ·rw [q3]; exact hs.take j
    have hB : PpSl W y ((l.drop (j)).map tbp) := by
     rw [List.map_drop]
     rcases q5 with q5 | ⟨b, off, q5, q7⟩
     ·rw [List.drop_of_length_le (by rw [List.length_map]; omega)]
      exact PpSl.nil _ _
     ·cases q5; rw [q7]; exact hs.drop (j)
    have h := pconcat3_tb x y ((l.take j).map tbp) ((l.drop (j)).map tbp) c1 c2 n1 n2 (.string p.u) (.int .i64 p.a) rfl rfl W g1 g2 T (by rw [List.length_map, List.length_take]; omega) (by rw [List.length_map, List.length_drop]; omega) hA hB (by exact tbp_one _) (by exact tbp_one _) q4 q6 e1 e2 (by rw [List.length_map, List.length_map, List.length_take, List.length_drop]; omega)
    have e0 : ((l.take j ++ p :: l.drop j)).map tbp = (l.take j).map tbp ++ (.string p.u, .int .i64 p.a) :: (l.drop (j)).map tbp := by rw [List.map_append, List.map_cons]; rfl
    rw [e0]
    exact h
   clear he HIP
   generalize l[j] = x at *
   go_wp2_with fail
   go_region_held3 (fun W => W.cell? ⟨w.heap.size + 1, 0, none⟩ = some (.func (.func 126) #[] #[]) ∧ W.cell? ⟨w.heap.size, 0, none⟩ = some (.string p.u) ∧ W.cell? ⟨w.heap.size, 1, none⟩ = some (.int .i64 p.a) ∧ W.cell? ⟨b, off + j * 2, none⟩ = some (.string x.u) ∧ W.cell? ⟨b, off + j * 2 + 1, none⟩ = some (.int .i64 x.a))
    (first | exact HP0.out _ K3 | exact HP0.out _ K2 | exact HP0.out _ K1)
    (first | (have hseen := K2; clear hseen; go_at_call 126; refine (HU.out _ _ _).mono ?_; rintro e w4 ⟨rfl, h4⟩; have K3 := K2.below h4) | (have hseen := K1; clear hseen; go_at_call 126; refine (HU.out _ _ _).mono ?_; rintro e w3 ⟨rfl, h3⟩; have K2 := K1.below h3))
   have K4 := K3
   have KD := K4.below (Below.refl _ _).drew
   clear HP0 K1 K2 hpos hposI hposN
   go_wp2_with fail
   go_region_held3 (fun W => W.cell? ⟨w.heap.size + 1, 0, none⟩ = some (.func (.func 126) #[] #[]) ∧ W.cell? ⟨w.heap.size, 0, none⟩ = some (.string p.u) ∧ W.cell? ⟨w.heap.size, 1, none⟩ = some (.int .i64 p.a))
    (first | with_reducible exact HSB.out _ (KD.below (below_one _ _)) | with_reducible exact HSB.out _ ((KD.below (below_one _ _)).below (below_one _ _)) | with_reducible exact HSB.out _ KD | with_reducible exact HSB.out _ KE)
    (first | (go_at_call 267; refine Calls.mono (HAC.out _ _ _ _ _ _ _ _ _ _ K4.row rfl rfl ?_ ?_ ?_ ?_ ?_ ?_) ?_; omega; omega; (first | exact Or.inr rfl | (refine Or.inl ?_; omega)); (intro h; first | rfl | cases h); (first | (refine Or.inl ?_; omega) | (refine Or.inr ⟨_, _, rfl, congrArg (fun o => some (Addr.mk _ o none)) ?_⟩; omega)); (intro h; first | rfl | cases h); rintro e w5 ⟨v, rfl, ho5, hb5⟩; have KE := K4.below hb5; have HO5 := Lib.hid ho5; have HB5 := Lib.hid hb5; clear ho5 hb5))
   go_wp2
   go_ret
   exact ⟨v, _, rfl, own_low2 HO5.out K4.frame.size, HIQ.out, KE.frame⟩
 ·have hje : j = l.length := by omega
  have HIQ := Lib.hid (HIP.out _ (.inl ⟨rfl, fun h => absurd h hjl2⟩))
  subst hje
  have hln : l.length - l.length = 0 := Nat.sub_self _
  have HAC : Hid (∀ W (g1 g2 T : Nat) (x y : Option Addr) (n1 c1 n2 c2 : Nat), PpSl W a (l.map tbp) → g1 = W.heap.size → g2 = W.heap.size + 1 → n1 = l.length → n2 = l.length - l.length → (n1 = 0 ∨ x = a) → (x = none → c1 = 0) → (n2 = 0 ∨ ∃ b off, a = some ⟨b, off, none⟩ ∧ y = some ⟨b, off + l.length * 2, none⟩) → (y = none → c2 = 0) →
    Calls Tryz.prog 267 #[.slice (some ⟨g2, 0, none⟩) 3 3] ((W.alloc (.cells #[.string p.u, .int .i64 p.a] 141)).alloc (.cells #[.slice x n1 c1, .slice (some ⟨g1, 0, none⟩) 1 1, .slice y n2 c2] T)).drew fun e w' => ∃ v, e = .returned v ∧ w'.ownsRow W.heap.size 141 2 v ((l.take l.length ++ p :: l.drop l.length).map tbp).length (pps ((l.take l.length ++ p :: l.drop l.length).map tbp)) ∧ Below W.heap.size W w') := fun W g1 g2 T x y n1 c1 n2 c2 hs e1 e2 q1 q2 q3 q4 q5 q6 => by
   have hA : PpSl W x ((l.take l.length).map tbp) := by
    rw [List.map_take]
    rcases q3 with q3 | q3
    ·have h0 : l.length = 0 := by omega
     have h1 : l = [] := List.eq_nil_of_length_eq_zero h0
     subst h1
     exact PpSl.nil _ _
    ·rw [q3]; exact hs.take l.length
   have hB : PpSl W y ((l.drop (l.length)).map tbp) := by
    rw [List.map_drop]
    rcases q5 with q5 | ⟨b, off, q5, q7⟩
    ·rw [List.drop_of_length_le (by rw [List.length_map]; omega)]
     exact PpSl.nil _ _
    ·rw [q7]; rw [q5] at hs; exact hs.drop (l.length)
   have h := pconcat3_tb x y ((l.take l.length).map tbp) ((l.drop (l.length)).map tbp) c1 c2 n1 n2 (.string p.u) (.int .i64 p.a) rfl rfl W g1 g2 T (by rw [List.length_map, List.length_take]; omega) (by rw [List.length_map, List.length_drop]; omega) hA hB (by exact tbp_one _) (by exact tbp_one _) q4 q6 e1 e2 (by rw [List.length_map, List.length_map, List.length_take, List.length_drop]; omega)
   have e0 : ((l.take l.length ++ p :: l.drop l.length)).map tbp = (l.take l.length).map tbp ++ (.string p.u, .int .i64 p.a) :: (l.drop (l.length)).map tbp := by rw [List.map_append, List.map_cons]; rfl
   rw [e0]
   exact h
  clear HIP hjl2
  have K1 := HK.out
  have hz0 : (0 : Int) ≤ (l.length : Int) := by omega
  have hz4 : (l.length : Int) ≤ (c : Int) := by omega
  cases a with
  | none =>
   have hc0 := HNil.out rfl
   subst hc0
   have hl0 : l = [] := List.eq_nil_of_length_eq_zero (by omega)
   subst hl0
   go_wp2_with fail
   go_quiet (fail)
   have K4 := K1.below (Drew.below (w := w2) (w' := w2.drewN nq) ⟨nq, rfl⟩ _)
   generalize w2.drewN nq = w4 at *
   have KD := K4.below (Below.refl _ _).drew
   go_wp2_with fail
   go_region_held3 (fun W => W.cell? ⟨w.heap.size + 1, 0, none⟩ = some (.func (.func 126) #[] #[]) ∧ W.cell? ⟨w.heap.size, 0, none⟩ = some (.string p.u) ∧ W.cell? ⟨w.heap.size, 1, none⟩ = some (.int .i64 p.a))
    (first | with_reducible exact HSB.out _ (KD.below (below_one _ _)) | with_reducible exact HSB.out _ ((KD.below (below_one _ _)).below (below_one _ _)) | with_reducible exact HSB.out _ KD | with_reducible exact HSB.out _ KE)
    (first | (go_at_call 267; refine Calls.mono (HAC.out _ _ _ _ _ _ _ _ _ _ K4.row rfl rfl ?_ ?_ ?_ ?_ ?_ ?_) ?_; omega; omega; (first | exact Or.inr rfl | (refine Or.inl ?_; omega)); (intro h; first | rfl | cases h); (first | (refine Or.inl ?_; omega) | (refine Or.inr ⟨_, _, rfl, congrArg (fun o => some (Addr.mk _ o none)) ?_⟩; omega)); (intro h; first | rfl | cases h); rintro e w5 ⟨v, rfl, ho5, hb5⟩; have KE := K4.below hb5; have HO5 := Lib.hid ho5; have HB5 := Lib.hid hb5; clear ho5 hb5))
   go_wp2
   go_ret
   exact ⟨v, _, rfl, own_low2 HO5.out K4.frame.size, HIQ.out, KE.frame⟩
  | some ad =>
   by_cases hcj : c = l.length
   ·subst hcj
    go_wp2_with fail
    go_quiet (fail)
    have K4 := K1.below (Drew.below (w := w2) (w' := w2.drewN nq) ⟨nq, rfl⟩ _)
    generalize w2.drewN nq = w4 at *
    have KD := K4.below (Below.refl _ _).drew
    go_wp2_with fail
    go_region_held3 (fun W => W.cell? ⟨w.heap.size + 1, 0, none⟩ = some (.func (.func 126) #[] #[]) ∧ W.cell? ⟨w.heap.size, 0, none⟩ = some (.string p.u) ∧ W.cell? ⟨w.heap.size, 1, none⟩ = some (.int .i64 p.a))
     (first | with_reducible exact HSB.out _ (KD.below (below_one _ _)) | with_reducible exact HSB.out _ ((KD.below (below_one _ _)).below (below_one _ _)) | with_reducible exact HSB.out _ KD | with_reducible exact HSB.out _ KE)
     (first | (go_at_call 267; refine Calls.mono (HAC.out _ _ _ _ _ _ _ _ _ _ K4.row rfl rfl ?_ ?_ ?_ ?_ ?_ ?_) ?_; omega; omega; (first | exact Or.inr rfl | (refine Or.inl ?_; omega)); (intro h; first | rfl | cases h); (first | (refine Or.inl ?_; omega) | (refine Or.inr ⟨_, _, rfl, congrArg (fun o => some (Addr.mk _ o none)) ?_⟩; omega)); (intro h; first | rfl | cases h); rintro e w5 ⟨v, rfl, ho5, hb5⟩; have KE := K4.below hb5; have HO5 := Lib.hid ho5; have HB5 := Lib.hid hb5; clear ho5 hb5))
    go_wp2
    go_ret
    exact ⟨v, _, rfl, own_low2 HO5.out K4.frame.size, HIQ.out, KE.frame⟩
   ·have hcj2 : l.length < c := by omega
    go_wp2_with fail
    go_quiet (fail)
    have K4 := K1.below (Drew.below (w := w2) (w' := w2.drewN nq) ⟨nq, rfl⟩ _)
    generalize w2.drewN nq = w4 at *
    have KD := K4.below (Below.refl _ _).drew
    go_wp2_with fail
    go_region_held3 (fun W => W.cell? ⟨w.heap.size + 1, 0, none⟩ = some (.func (.func 126) #[] #[]) ∧ W.cell? ⟨w.heap.size, 0, none⟩ = some (.string p.u) ∧ W.cell? ⟨w.heap.size, 1, none⟩ = some (.int .i64 p.a))
     (first | with_reducible exact HSB.out _ (KD.below (below_one _ _)) | with_reducible exact HSB.out _ ((KD.below (below_one _ _)).below (below_one _ _)) | with_reducible exact HSB.out _ KD | with_reducible exact HSB.out _ KE)
     (first | (go_at_call 267; refine Calls.mono (HAC.out _ _ _ _ _ _ _ _ _ _ K4.row rfl rfl ?_ ?_ ?_ ?_ ?_ ?_) ?_; omega; omega; (first | exact Or.inr rfl | (refine Or.inl ?_; omega)); (intro h; first | rfl | cases h); (first | (refine Or.inl ?_; omega) | (refine Or.inr ⟨_, _, rfl, congrArg (fun o => some (Addr.mk _ o none)) ?_⟩; omega)); (intro h; first | rfl | cases h); rintro e w5 ⟨v, rfl, ho5, hb5⟩; have KE := K4.below hb5; have HO5 := Lib.hid ho5; have HB5 := Lib.hid hb5; clear ho5 hb5))
    go_wp2
    go_ret
    exact ⟨v, _, rfl, own_low2 HO5.out K4.frame.size, HIQ.out, KE.frame⟩
end Go.Proofs.YtapacckmgmdnoaaGreat
