/- Texts of mine, one behind the other, of each what is wanted. -/
import Derived.Test.YtmfpjapiijgdgaaGreatQ00
import Derived.Test.YtmfpjapiijgdgaaGreatShelf
import Derived.Test.YtmfpjapiijgdgaaGreatRows
import Derived.Test.YtmfpjapiijgdgaaGreatQ01
import Derived.Test.YtmfpjapiijgdgaaGreatQ04
import Derived.Test.YtmfpjapiijgdgaaGreatQ05
import Derived.Test.YtmfpjapiijgdgaaGreatQ06
import Derived.Test.YtmfpjapiijgdgaaGreatQ11
import Derived.Test.YtmfpjapiijgdgaaGreatQ15
import Derived.Test.YtmfpjapiijgdgaaGreatQ17
import Derived.Test.YtmfpjapiijgdgaaGreatQ27
import Derived.Test.YtmfpjapiijgdgaaGreatQ31
namespace Go.Proofs.YtmfpjapiijgdgaaGreat
open Go.RowKit Go.Proofs
set_option linter.unusedVariables false
set_option maxRecDepth 100000
set_option maxRecDepth 100000
set_option maxHeartbeats 8000000 in
theorem put_core_tb (a : Option Addr) (c : Nat) (l : List TbM) (p : TbM) (w : World) (hr : TbSl w a l) (hc : Cp a l.length c) (hl : l.length ≤ 1000) :
  Calls Tryz.prog 239 #[.slice a l.length c, .agg #[.string p.u, .int .i64 p.a], .func (.func 126) #[] #[]] w fun e w' => ∃ v L, e = .returned v ∧ w'.ownsRow w.heap.size 141 2 v (L.map tbp).length (pps (L.map tbp)) ∧ IsPut TbM.u l p L ∧ Below w.heap.size w w' := by
 have hb := below_two w (.cells #[.string p.u, .int .i64 p.a] 141) (.cells #[.func (.func 126) #[] #[]] 196)
 have K0 : Pttb w (w.heap.size + 1) w.heap.size p a l ((w.alloc (.cells #[.string p.u, .int .i64 p.a] 141)).alloc (.cells #[.func (.func 126) #[] #[]] 196)) := ⟨⟨by have := cell_of_row ((w.alloc (.cells #[.string p.u, .int .i64 p.a] 141)).alloc (.cells #[.func (.func 126) #[] #[]] 196)) (w.alloc (.cells #[.string p.u, .int .i64 p.a] 141)).heap.size 0 _ _ (0, 0) (heap_alloc_new _ _); rw [size1] at this; exact this, by rw [size1, size1]; omega⟩, ((below_one _ (.cells #[.func (.func 126) #[] #[]] 196)).block _ (by rw [size1]; omega)).trans (heap_alloc_new w _), hr.below hb, hb⟩
 have HF := Lib.hid (find_tb2 a c l 266 (w.heap.size + 1) w.heap.size (fun x => decide (0 ≤ cmpS (TbM.u x) (TbM.u p))) (fun V => Pttb w (w.heap.size + 1) w.heap.size p a l V) ((w.alloc (.cells #[.string p.u, .int .i64 p.a] 141)).alloc (.cells #[.func (.func 126) #[] #[]] 196)) (hr.below hb) K0 (by omega) (call_known Tryz.func266 rfl) (fun W W' h q => h.below q) (fun x hx V h => c_put_tb x p (w.heap.size + 1) w.heap.size V h.f h.p))
 have HIP : Hid (∀ L, ((L = l.take (l.findIdx (fun x => decide (0 ≤ cmpS (TbM.u x) (TbM.u p)))) ++ p :: l.drop (l.findIdx (fun x => decide (0 ≤ cmpS (TbM.u x) (TbM.u p)))) ∧ ∀ h : (l.findIdx (fun x => decide (0 ≤ cmpS (TbM.u x) (TbM.u p)))) < l.length, TbM.u l[l.findIdx (fun x => decide (0 ≤ cmpS (TbM.u x) (TbM.u p)))] ≠ TbM.u p) ∨ (∃ h : (l.findIdx (fun x => decide (0 ≤ cmpS (TbM.u x) (TbM.u p)))) < l.length, TbM.u l[l.findIdx (fun x => decide (0 ≤ cmpS (TbM.u x) (TbM.u p)))] = TbM.u p ∧ L = l.take (l.findIdx (fun x => decide (0 ≤ cmpS (TbM.u x) (TbM.u p)))) ++ p :: l.drop (l.findIdx (fun x => decide (0 ≤ cmpS (TbM.u x) (TbM.u p))) + 1))) → IsPut TbM.u l p L) := fun L h => ⟨_, rfl, h⟩
 have hjl : l.findIdx (fun x => decide (0 ≤ cmpS (TbM.u x) (TbM.u p))) ≤ l.length := List.findIdx_le_length
 have hcl := hc.le
 have hcm := hc.mx
 have HNil := Lib.hid hc.nil
 have HU := Lib.hid tombName_any
 have HK0 := Lib.hid K0
 unfold maxLen at hcm
 clear hr hc hb K0
 generalize l.findIdx (fun x => decide (0 ≤ cmpS (TbM.u x) (TbM.u p))) = j at *
 have HSB : Hid (∀ W, Pttb w (w.heap.size + 1) w.heap.size p a l W → W.cell? ⟨w.heap.size + 1, 0, none⟩ = some (.func (.func 126) #[] #[]) ∧ W.cell? ⟨w.heap.size, 0, none⟩ = some (.string p.u) ∧ W.cell? ⟨w.heap.size, 1, none⟩ = some (.int .i64 p.a)) := fun W h => h.cells
 go_enter Tryz.func239, Tryz.ntmps239
 go_wp2_with fail
 refine HF.out.mono ?_
 rintro e w2 ⟨rfl, hB2⟩
 have HK := Lib.hid (HK0.out.below hB2)
 clear hB2 HF HK0
 by_cases hjl2 : j < l.length
 ·obtain ⟨b, off, rfl, -, -, -⟩ := HK.out.row.at_ (k := j) (by rw [List.length_map]; exact hjl2)
  have hcj : ¬ c = j := by omega
  have hcj2 : j < c := by omega
  have HP0 : Hid (∀ W, Pttb w (w.heap.size + 1) w.heap.size p (some ⟨b, off, none⟩) l W → W.cell? ⟨w.heap.size + 1, 0, none⟩ = some (.func (.func 126) #[] #[]) ∧ W.cell? ⟨w.heap.size, 0, none⟩ = some (.string p.u) ∧ W.cell? ⟨w.heap.size, 1, none⟩ = some (.int .i64 p.a) ∧ W.cell? ⟨b, off + j * 2, none⟩ = some (.string l[j].u) ∧ W.cell? ⟨b, off + j * 2 + 1, none⟩ = some (.int .i64 l[j].a)) := fun W h => ⟨h.f.1, (pcell2 h.p).1, (pcell2 h.p).2, (h.at_ hjl2).1, (h.at_ hjl2).2⟩
  have hpos : decide (0 < l.length - j) = true := decide_eq_true (by omega)
  have hposI : (0 : Int) < ((l.length - j : Nat) : Int) := by omega
  have hposN : 0 < l.length - j := by omega
  have K1 := HK.out.below (Below.refl _ _).drew
  have hpc : j ≤ c := by omega
  have hz1 : (0 : Int) ≤ (j : Int) := by omega
  have hz2 : (j : Int) ≤ (l.length : Int) := by omega
  have hz3 : (j : Int) ≤ (c : Int) := by omega
  have hz4 : (l.length : Int) ≤ (c : Int) := by omega
  by_cases he : TbM.u l[j] = TbM.u p
  ·have HIQ := Lib.hid (HIP.out _ (.inr ⟨hjl2, he, rfl⟩))
   have hq : ((TbM.u l[j]).toList == (TbM.u p).toList) = true := by rw [he]; exact txt_eq _
   have HAC : Hid (∀ W (g1 g2 T : Nat) (x y : Option Addr) (n1 c1 n2 c2 : Nat), PpSl W (some ⟨b, off, none⟩) (l.map tbp) → g1 = W.heap.size → g2 = W.heap.size + 1 → n1 = j → n2 = l.length - (j + 1) → (n1 = 0 ∨ x = some ⟨b, off, none⟩) → (x = none → c1 = 0) → (n2 = 0 ∨ ∃ b2 off2, (some ⟨b, off, none⟩ : Option Addr) = some ⟨b2, off2, none⟩ ∧ y = some ⟨b2, off2 + (j + 1) * 2, none⟩) → (y = none → c2 = 0) →
     Calls Tryz.prog 267 #[.slice (some ⟨g2, 0, none⟩) 3 3] ((W.alloc (.cells #[.string p.u, .int .i64 p.a] 141)).alloc (.cells #[.slice x n1 c1, .slice (some ⟨g1, 0, none⟩) 1 1, .slice y n2 c2] T)).drew fun e w' => ∃ v, e = .returned v ∧ w'.ownsRow W.heap.size 141 2 v ((l.take j ++ p :: l.drop (j + 1)).map tbp).length (pps ((l.take j ++ p :: l.drop (j + 1)).map tbp)) ∧ Below W.heap.size W w') := fun W g1 g2 T x y n1 c1 n2 c2 hs e1 e2 q1 q2 q3 q4 q5 q6 => by
    have hA : PpSl W x ((l.take j).map tbp) := by
     rw [List.map_take]
     rcases q3 with q3 | q3
     ·have : j = 0 := by omega
      subst this
      rw [List.take_zero]
      exact PpSl.nil _ _
     ·rw [q3]; exact hs.take j
    have hB : PpSl W y ((l.drop ((j + 1))).map tbp) := by
     rw [List.map_drop]
     rcases q5 with q5 | ⟨b, off, q5, q7⟩
     ·rw [List.drop_of_length_le (by rw [List.length_map]; omega)]
      exact PpSl.nil _ _
     ·cases q5; rw [q7]; exact hs.drop ((j + 1))
    have h := pconcat3_tb x y ((l.take j).map tbp) ((l.drop ((j + 1))).map tbp) c1 c2 n1 n2 (.string p.u) (.int .i64 p.a) rfl rfl W g1 g2 T (by rw [List.length_map, List.length_take]; omega) (by rw [List.length_map, List.length_drop]; omega) hA hB (by exact tbp_one _) (by exact tbp_one _) q4 q6 e1 e2 (by rw [List.length_map, List.length_map, List.length_take, List.length_drop]; omega)
    have e0 : ((l.take j ++ p :: l.drop (j + 1))).map tbp = (l.take j).map tbp ++ (.string p.u, .int .i64 p.a) :: (l.drop ((j + 1))).map tbp := by rw [List.map_append, List.map_cons]; rfl
    rw [e0]
    exact h
   clear he HIP
   have he2 : (TbM.u l[j]).toList = (TbM.u p).toList := by simpa using hq
   generalize l[j] = x at *
   go_wp2_with fail
   go_region_held3 (fun W => W.cell? ⟨w.heap.size + 1, 0, none⟩ = some (.func (.func 126) #[] #[]) ∧ W.cell? ⟨w.heap.size, 0, none⟩ = some (.string p.u) ∧ W.cell? ⟨w.heap.size, 1, none⟩ = some (.int .i64 p.a) ∧ W.cell? ⟨b, off + j * 2, none⟩ = some (.string x.u) ∧ W.cell? ⟨b, off + j * 2 + 1, none⟩ = some (.int .i64 x.a))
    (first | exact HP0.out _ K3 | exact HP0.out _ K2 | exact HP0.out _ K1)
    (first | (have hseen := K2; clear hseen; go_at_call 126; refine (HU.out _ _ _).mono ?_; rintro e w4 ⟨rfl, h4⟩; have K3 := K2.below h4) | (have hseen := K1; clear hseen; go_at_call 126; refine (HU.out _ _ _).mono ?_; rintro e w3 ⟨rfl, h3⟩; have K2 := K1.below h3))
   have K4 := K3
   have KD := K4.below (Below.refl _ _).drew
   clear HP0 K1 K2 hpos hposI hposN
   by_cases hc1 : c - j = 1
   ·have hl1 : l.length - j = 1 := by omega
    go_wp2_with fail
    go_region_held3 (fun W => W.cell? ⟨w.heap.size + 1, 0, none⟩ = some (.func (.func 126) #[] #[]) ∧ W.cell? ⟨w.heap.size, 0, none⟩ = some (.string p.u) ∧ W.cell? ⟨w.heap.size, 1, none⟩ = some (.int .i64 p.a))
     (first | with_reducible exact HSB.out _ (KD.below (below_one _ _)) | with_reducible exact HSB.out _ ((KD.below (below_one _ _)).below (below_one _ _)) | with_reducible exact HSB.out _ KD | with_reducible exact HSB.out _ KE)
     (first | (go_at_call 267; refine Calls.mono (HAC.out _ _ _ _ _ _ _ _ _ _ K4.row rfl rfl ?_ ?_ ?_ ?_ ?_ ?_) ?_; omega; omega; (first | exact Or.inr rfl | (refine Or.inl ?_; omega)); (intro h; first | rfl | cases h); (first | (refine Or.inl ?_; omega) | (refine Or.inr ⟨_, _, rfl, congrArg (fun o => some (Addr.mk _ o none)) ?_⟩; omega)); (intro h; first | rfl | cases h); rintro e w5 ⟨v, rfl, ho5, hb5⟩; have KE := K4.below hb5; have HO5 := Lib.hid ho5; have HB5 := Lib.hid hb5; clear ho5 hb5))
    go_wp2
    go_ret
    exact ⟨v, _, rfl, own_low2 HO5.out K4.frame.size, HIQ.out, KE.frame⟩
   ·have hc2 : 1 < c - j := by omega
    go_wp2_with fail
    go_region_held3 (fun W => W.cell? ⟨w.heap.size + 1, 0, none⟩ = some (.func (.func 126) #[] #[]) ∧ W.cell? ⟨w.heap.size, 0, none⟩ = some (.string p.u) ∧ W.cell? ⟨w.heap.size, 1, none⟩ = some (.int .i64 p.a))
     (first | with_reducible exact HSB.out _ (KD.below (below_one _ _)) | with_reducible exact HSB.out _ ((KD.below (below_one _ _)).below (below_one _ _)) | with_reducible exact HSB.out _ KD | with_reducible exact HSB.out _ KE)
     (first | (go_at_call 267; refine Calls.mono (HAC.out _ _ _ _ _ _ _ _ _ _ K4.row rfl rfl ?_ ?_ ?_ ?_ ?_ ?_) ?_; omega; omega; (first | exact Or.inr rfl | (refine Or.inl ?_; omega)); (intro h; first | rfl | cases h); (first | (refine Or.inl ?_; omega) | (refine Or.inr ⟨_, _, rfl, congrArg (fun o => some (Addr.mk _ o none)) ?_⟩; omega)); (intro h; first | rfl | cases h); rintro e w5 ⟨v, rfl, ho5, hb5⟩; have KE := K4.below hb5; have HO5 := Lib.hid ho5; have HB5 := Lib.hid hb5; clear ho5 hb5))
    go_wp2
    go_ret
    exact ⟨v, _, rfl, own_low2 HO5.out K4.frame.size, HIQ.out, KE.frame⟩
  ·have HIQ := Lib.hid (HIP.out _ (.inl ⟨rfl, fun _ => he⟩))
   have hq : ((TbM.u l[j]).toList == (TbM.u p).toList) = false := txt_ne he
   have HAC : Hid (∀ W (g1 g2 T : Nat) (x y : Option Addr) (n1 c1 n2 c2 : Nat), PpSl W (some ⟨b, off, none⟩) (l.map tbp) → g1 = W.heap.size → g2 = W.heap.size + 1 → n1 = j → n2 = l.length - j → (n1 = 0 ∨ x = some ⟨b, off, none⟩) → (x = none → c1 = 0) → (n2 = 0 ∨ ∃ b2 off2, (some ⟨b, off, none⟩ : Option Addr) = some ⟨b2, off2, none⟩ ∧ y = some ⟨b2, off2 + j * 2, none⟩) → (y = none → c2 = 0) →
     Calls Tryz.prog 267 #[.slice (some ⟨g2, 0, none⟩) 3 3] ((W.alloc (.cells #[.string p.u, .int .i64 p.a] 141)).alloc (.cells #[.slice x n1 c1, .slice (some ⟨g1, 0, none⟩) 1 1, .slice y n2 c2] T)).drew fun e w' => ∃ v, e = .returned v ∧ w'.ownsRow W.heap.size 141 2 v ((l.take j ++ p :: l.drop j).map tbp).length (pps ((l.take j ++ p :: l.drop j).map tbp)) ∧ Below W.heap.size W w') := fun W g1 g2 T x y n1 c1 n2 c2 hs e1 e2 q1 q2 q3 q4 q5 q6 => by
    have hA : PpSl W x ((l.take j).map tbp) := by
     rw [List.map_take]
     rcases q3 with q3 | q3
     ·have : j = 0 := by omega
      subst this
      rw [List.take_zero]
      exact PpSl.nil _ _
     ·rw [q3]; exact hs.take j
    have hB : PpSl W y ((l.drop (j)).map tbp) := by
     rw [List.map_drop]
     rcases q5 with q5 | ⟨b, off, q5, q7⟩
     ·rw [List.drop_of_length_le (by rw [List.length_map]; omega)]
      exact PpSl.nil _ _
     ·cases q5; rw [q7]; exact hs.drop (j)
    have h := pconcat3_tb x y ((l.take j).map tbp) ((l.drop (j)).map tbp) c1 c2 n1 n2 (.string p.u) (.int .i64 p.a) rfl rfl W g1 g2 T (by rw [List.length_map, List.length_take]; omega) (by rw [List.length_map, List.length_drop]; omega) hA hB (by exact tbp_one _) (by exact tbp_one _) q4 q6 e1 e2 (by rw [List.length_map, List.length_map, List.length_take, List.length_drop]; omega)
    have e0 : ((l.take j ++ p :: l.drop j)).map tbp = (l.take j).map tbp ++ (.string p.u, .int .i64 p.a) :: (l.drop (j)).map tbp := by rw [List.map_append, List.map_cons]; rfl
    rw [e0]
    exact h
   clear he HIP
   generalize l[j] = x at *
   go_wp2_with fail
   go_region_held3 (fun W => W.cell? ⟨w.heap.size + 1, 0, none⟩ = some (.func (.func 126) #[] #[]) ∧ W.cell? ⟨w.heap.size, 0, none⟩ = some (.string p.u) ∧ W.cell? ⟨w.heap.size, 1, none⟩ = some (.int .i64 p.a) ∧ W.cell? ⟨b, off + j * 2, none⟩ = some (.string x.u) ∧ W.cell? ⟨b, off + j * 2 + 1, none⟩ = some (.int .i64 x.a))
    (first | exact HP0.out _ K3 | exact HP0.out _ K2 | exact HP0.out _ K1)
    (first | (have hseen := K2; clear hseen; go_at_call 126; refine (HU.out _ _ _).mono ?_; rintro e w4 ⟨rfl, h4⟩; have K3 := K2.below h4) | (have hseen := K1; clear hseen; go_at_call 126; refine (HU.out _ _ _).mono ?_; rintro e w3 ⟨rfl, h3⟩; have K2 := K1.below h3))
   have K4 := K3
   have KD := K4.below (Below.refl _ _).drew
   clear HP0 K1 K2 hpos hposI hposN
   go_wp2_with fail
   go_region_held3 (fun W => W.cell? ⟨w.heap.size + 1, 0, none⟩ = some (.func (.func 126) #[] #[]) ∧ W.cell? ⟨w.heap.size, 0, none⟩ = some (.string p.u) ∧ W.cell? ⟨w.heap.size, 1, none⟩ = some (.int .i64 p.a))
    (first | with_reducible exact HSB.out _ (KD.below (below_one _ _)) | with_reducible exact HSB.out _ ((KD.below (below_one _ _)).below (below_one _ _)) | with_reducible exact HSB.out _ KD | with_reducible exact HSB.out _ KE)
    (first | (go_at_call 267; refine Calls.mono (HAC.out _ _ _ _ _ _ _ _ _ _ K4.row rfl rfl ?_ ?_ ?_ ?_ ?_ ?_) ?_; omega; omega; (first | exact Or.inr rfl | (refine Or.inl ?_; omega)); (intro h; first | rfl | cases h); (first | (refine Or.inl ?_; omega) | (refine Or.inr ⟨_, _, rfl, congrArg (fun o => some (Addr.mk _ o none)) ?_⟩; omega)); (intro h; first | rfl | cases h); rintro e w5 ⟨v, rfl, ho5, hb5⟩; have KE := K4.below hb5; have HO5 := Lib.hid ho5; have HB5 := Lib.hid hb5; clear ho5 hb5))
   go_wp2
   go_ret
   exact ⟨v, _, rfl, own_low2 HO5.out K4.frame.size, HIQ.out, KE.frame⟩
 ·have hje : j = l.length := by omega
  have HIQ := Lib.hid (HIP.out _ (.inl ⟨rfl, fun h => absurd h hjl2⟩))
  subst hje
  have hln : l.length - l.length = 0 := Nat.sub_self _
  have HAC : Hid (∀ W (g1 g2 T : Nat) (x y : Option Addr) (n1 c1 n2 c2 : Nat), PpSl W a (l.map tbp) → g1 = W.heap.size → g2 = W.heap.size + 1 → n1 = l.length → n2 = l.length - l.length → (n1 = 0 ∨ x = a) → (x = none → c1 = 0) → (n2 = 0 ∨ ∃ b off, a = some ⟨b, off, none⟩ ∧ y = some ⟨b, off + l.length * 2, none⟩) → (y = none → c2 = 0) →
    Calls Tryz.prog 267 #[.slice (some ⟨g2, 0, none⟩) 3 3] ((W.alloc (.cells #[.string p.u, .int .i64 p.a] 141)).alloc (.cells #[.slice x n1 c1, .slice (some ⟨g1, 0, none⟩) 1 1, .slice y n2 c2] T)).drew fun e w' => ∃ v, e = .returned v ∧ w'.ownsRow W.heap.size 141 2 v ((l.take l.length ++ p :: l.drop l.length).map tbp).length (pps ((l.take l.length ++ p :: l.drop l.length).map tbp)) ∧ Below W.heap.size W w') := fun W g1 g2 T x y n1 c1 n2 c2 hs e1 e2 q1 q2 q3 q4 q5 q6 => by
   have hA : PpSl W x ((l.take l.length).map tbp) := by
    rw [List.map_take]
    rcases q3 with q3 | q3
    ·have h0 : l.length = 0 := by omega
     have h1 : l = [] := List.eq_nil_of_length_eq_zero h0
     subst h1
     exact PpSl.nil _ _
    ·rw [q3]; exact hs.take l.length
   have hB : PpSl W y ((l.drop (l.length)).map tbp) := by
    rw [List.map_drop]
    rcases q5 with q5 | ⟨b, off, q5, q7⟩
    ·rw [List.drop_of_length_le (by rw [List.length_map]; omega)]
     exact PpSl.nil _ _
    ·rw [q7]; rw [q5] at hs; exact hs.drop (l.length)
   have h := pconcat3_tb x y ((l.take l.length).map tbp) ((l.drop (l.length)).map tbp) c1 c2 n1 n2 (.string p.u) (.int .i64 p.a) rfl rfl W g1 g2 T (by rw [List.length_map, List.length_take]; omega) (by rw [List.length_map, List.length_drop]; omega) hA hB (by exact tbp_one _) (by exact tbp_one _) q4 q6 e1 e2 (by rw [List.length_map, List.length_map, List.length_take, List.length_drop]; omega)
   have e0 : ((l.take l.length ++ p :: l.drop l.length)).map tbp = (l.take l.length).map tbp ++ (.string p.u, .int .i64 p.a) :: (l.drop (l.length)).map tbp := by rw [List.map_append, List.map_cons]; rfl
   rw [e0]
   exact h
  clear HIP hjl2
  have K1 := HK.out
  have hz0 : (0 : Int) ≤ (l.length : Int) := by omega
  have hz4 : (l.length : Int) ≤ (c : Int) := by omega
  cases a with
  | none =>
   have hc0 := HNil.out rfl
   subst hc0
   have hl0 : l = [] := List.eq_nil_of_length_eq_zero (by omega)
   subst hl0
   go_wp2_with fail
   go_quiet (fail)
   have K4 := K1.below (Drew.below (w := w2) (w' := w2.drewN nq) ⟨nq, rfl⟩ _)
   generalize w2.drewN nq = w4 at *
   have KD := K4.below (Below.refl _ _).drew
   go_wp2_with fail
   go_region_held3 (fun W => W.cell? ⟨w.heap.size + 1, 0, none⟩ = some (.func (.func 126) #[] #[]) ∧ W.cell? ⟨w.heap.size, 0, none⟩ = some (.string p.u) ∧ W.cell? ⟨w.heap.size, 1, none⟩ = some (.int .i64 p.a))
    (first | with_reducible exact HSB.out _ (KD.below (below_one _ _)) | with_reducible exact HSB.out _ ((KD.below (below_one _ _)).below (below_one _ _)) | with_reducible exact HSB.out _ KD | with_reducible exact HSB.out _ KE)
    (first | (go_at_call 267; refine Calls.mono (HAC.out _ _ _ _ _ _ _ _ _ _ K4.row rfl rfl ?_ ?_ ?_ ?_ ?_ ?_) ?_; omega; omega; (first | exact Or.inr rfl | (refine Or.inl ?_; omega)); (intro h; first | rfl | cases h); (first | (refine Or.inl ?_; omega) | (refine Or.inr ⟨_, _, rfl, congrArg (fun o => some (Addr.mk _ o none)) ?_⟩; omega)); (intro h; first | rfl | cases h); rintro e w5 ⟨v, rfl, ho5, hb5⟩; have KE := K4.below hb5; have HO5 := Lib.hid ho5; have HB5 := Lib.hid hb5; clear ho5 hb5))
   go_wp2
   go_ret
   exact ⟨v, _, rfl, own_low2 HO5.out K4.frame.size, HIQ.out, KE.frame⟩
  | some ad =>
   by_cases hcj : c = l.length
   ·subst hcj
    go_wp2_with fail
    go_quiet (fail)
    have K4 := K1.below (Drew.below (w := w2) (w' := w2.drewN nq) ⟨nq, rfl⟩ _)
    generalize w2.drewN nq = w4 at *
    have KD := K4.below (Below.refl _ _).drew
    go_wp2_with fail
    go_region_held3 (fun W => W.cell? ⟨w.heap.size + 1, 0, none⟩ = some (.func (.func 126) #[] #[]) ∧ W.cell? ⟨w.heap.size, 0, none⟩ = some (.string p.u) ∧ W.cell? ⟨w.heap.size, 1, none⟩ = some (.int .i64 p.a))
     (first | with_reducible exact HSB.out _ (KD.below (below_one _ _)) | with_reducible exact HSB.out _ ((KD.below (below_one _ _)).below (below_one _ _)) | with_reducible exact HSB.out _ KD | with_reducible exact HSB.out _ KE)
     (first | (go_at_call 267; refine Calls.mono (HAC.out _ _ _ _ _ _ _ _ _ _ K4.row rfl rfl ?_ ?_ ?_ ?_ ?_ ?_) ?_; omega; omega; (first | exact Or.inr rfl | (refine Or.inl ?_; omega)); (intro h; first | rfl | cases h); (first | (refine Or.inl ?_; omega) | (refine Or.inr ⟨_, _, rfl, congrArg (fun o => some (Addr.mk _ o none)) ?_⟩; omega)); (intro h; first | rfl | cases h); rintro e w5 ⟨v, rfl, ho5, hb5⟩; have KE := K4.below hb5; have HO5 := Lib.hid ho5; have HB5 := Lib.hid hb5; clear ho5 hb5))
    go_wp2
    go_ret
    exact ⟨v, _, rfl, own_low2 HO5.out K4.frame.size, HIQ.out, KE.frame⟩
   ·have hcj2 : l.length < c := by omega
    go_wp2_with fail
    go_quiet (fail)
    have K4 := K1.below (Drew.below (w := w2) (w' := w2.drewN nq) ⟨nq, rfl⟩ _)
    generalize w2.drewN nq = w4 at *
    have KD := K4.below (Below.refl _ _).drew
    go_wp2_with fail
    go_region_held3 (fun W => W.cell? ⟨w.heap.size + 1, 0, none⟩ = some (.func (.func 126) #[] #[]) ∧ W.cell? ⟨w.heap.size, 0, none⟩ = some (.string p.u) ∧ W.cell? ⟨w.heap.size, 1, none⟩ = some (.int .i64 p.a))
     (first | with_reducible exact HSB.out _ (KD.below (below_one _ _)) | with_reducible exact HSB.out _ ((KD.below (below_one _ _)).below (below_one _ _)) | with_reducible exact HSB.out _ KD | with_reducible exact HSB.out _ KE)
     (first | (go_at_call 267; refine Calls.mono (HAC.out _ _ _ _ _ _ _ _ _ _ K4.row rfl rfl ?_ ?_ ?_ ?_ ?_ ?_) ?_; omega; omega; (first | exact Or.inr rfl | (refine Or.inl ?_; omega)); (intro h; first | rfl | cases h); (first | (refine Or.inl ?_; omega) | (refine Or.inr ⟨_, _, rfl, congrArg (fun o => some (Addr.mk _ o none)) ?_⟩; omega)); (intro h; first | rfl | cases h); rintro e w5 ⟨v, rfl, ho5, hb5⟩; have KE := K4.below hb5; have HO5 := Lib.hid ho5; have HB5 := Lib.hid hb5; clear ho5 hb5))
    go_wp2
    go_ret
    exact ⟨v, _, rfl, own_low2 HO5.out K4.frame.size, HIQ.out, KE.frame⟩
theorem IsPut.mem {α : Type} {key : α → ByteArray} {l L : List α} {p : α} (h : IsPut key l p L) : (∀ y ∈ L, y = p ∨ y ∈ l) ∧ L.length ≤ l.length + 1 := by
 obtain ⟨k, _, ⟨rfl, _⟩ | ⟨hk, _, rfl⟩⟩ := h
 ·refine ⟨fun y hy => ?_, ?_⟩
  ·rcases List.mem_append.1 hy with h1 | h1
   ·exact .inr (List.mem_of_mem_take h1)
   ·rcases List.mem_cons.1 h1 with h1 | h1
    ·exact .inl h1
    ·exact .inr (List.mem_of_mem_drop h1)
  ·rw [List.length_append, List.length_cons, List.length_take, List.length_drop]; omega
 ·refine ⟨fun y hy => ?_, ?_⟩
  ·rcases List.mem_append.1 hy with h1 | h1
   ·exact .inr (List.mem_of_mem_take h1)
   ·rcases List.mem_cons.1 h1 with h1 | h1
    ·exact .inl h1
    ·exact .inr (List.mem_of_mem_drop h1)
  ·rw [List.length_append, List.length_cons, List.length_take, List.length_drop]; omega
theorem IsPut.us {D L : List UsL} {p : UsL} (h : IsPut UsL.u D p L) (hr : RiseK UsM.u (umS D)) : umS L = insK UsM.u p.u [p.m] (umS D) := by
 obtain ⟨k, hk, ⟨rfl, hn⟩ | ⟨hk, he, rfl⟩⟩ := h
 ·exact put_new hr hk hn
 ·exact put_old hr hk he
theorem IsPut.tb {D L : List TbM} {p : TbM} (h : IsPut TbM.u D p L) (hr : RiseK TbM.u D) : L = insK TbM.u p.u [p] D := by
 obtain ⟨k, hk, ⟨rfl, hn⟩ | ⟨hk, he, rfl⟩⟩ := h
 ·exact tput_new hr hk hn
 ·exact tput_old hr hk he
theorem put_us (a : Option Addr) (c : Nat) (D : List UsL) (p : UsL) (w : World) (hr : UsSl w a D) (hp : UsAt w p) (hc : Cp a D.length c) (hl : D.length ≤ 1000) :
  Calls Tryz.prog 230 #[.slice a D.length c, .agg #[.string p.u, .slice p.a p.l.length p.c], .func (.func 117) #[] #[]] w fun e w' => ∃ x q L, e = .returned (.slice x L.length q) ∧ UsSl w' x L ∧ Cp x L.length q ∧ IsPut UsL.u D p L ∧ Below w.heap.size w w' := by
 refine (put_core_us a c D p w hr hc hl).mono ?_
 rintro e w' ⟨v, L, rfl, ho, hi, hb⟩
 rw [List.length_map] at ho
 obtain ⟨x, q, rfl, h1, h2, h3, h4⟩ := own_us ho
 exact ⟨x, q, L, rfl, ⟨h3, fun y hy => by
  rcases hi.mem.1 y hy with rfl | h5
  ·exact hp.below hb
  ·exact (hr.at_ y h5).below hb⟩, ⟨h1, h2, h4⟩, hi, hb⟩
theorem put_tb (a : Option Addr) (c : Nat) (D : List TbM) (p : TbM) (w : World) (hr : TbSl w a D) (hc : Cp a D.length c) (hl : D.length ≤ 1000) :
  Calls Tryz.prog 239 #[.slice a D.length c, .agg #[.string p.u, .int .i64 p.a], .func (.func 126) #[] #[]] w fun e w' => ∃ x q L, e = .returned (.slice x L.length q) ∧ TbSl w' x L ∧ Cp x L.length q ∧ IsPut TbM.u D p L ∧ Below w.heap.size w w' := by
 refine (put_core_tb a c D p w hr hc hl).mono ?_
 rintro e w' ⟨v, L, rfl, ho, hi, hb⟩
 rw [List.length_map] at ho
 obtain ⟨x, q, rfl, h1, h2, h3, h4⟩ := own_tb ho
 exact ⟨x, q, L, rfl, h3, ⟨h1, h2, h4⟩, hi, hb⟩
theorem ins_same {l : List UsM} (hr : RiseK UsM.u l) {u : ByteArray} (h : ofU l u ≠ []) : insK UsM.u u [⟨u, ofU l u⟩] l = l := by
 have hm : (⟨u, ofU l u⟩ : UsM) ∈ l := by
  rcases ofU_cases l u with h1 | h1
  ·exact absurd h1 h
  ·exact h1
 refine riseK_ext (insK_rise hr (fun x hx => by rw [List.mem_singleton.1 hx]) (by simp)) hr fun x => ?_
 rw [insK_mem, List.mem_singleton]
 constructor
 ·rintro (rfl | ⟨h1, _⟩)
  ·exact hm
  ·exact h1
 ·intro hx
  by_cases hu : x.u = u
  ·exact .inl (riseK_one hr hx hm hu)
  ·exact .inr ⟨hx, hu⟩
theorem with_addU {l : List UsM} (hr : RiseK UsM.u l) {u : ByteArray} {x : StM} (h : addS (ofU l u) x ≠ []) : insK UsM.u u [⟨u, addS (ofU l u) x⟩] l = addU l u x := by
 unfold addU
 split
 ·rename_i h1
  unfold putU rowU
  rw [if_neg (by simpa using h)]
 ·rename_i h1
  have e : addS (ofU l u) x = ofU l u := by unfold addS; rw [if_pos (by omega)]
  rw [e] at h ⊢
  exact ins_same hr h
theorem with_none {l : List UsM} {u : ByteArray} {x : StM} (h : addS (ofU l u) x = []) : addU l u x = l := by
 unfold addU
 rw [if_neg]
 intro h1
 exact addS_some h1 h
structure WsK (w : World) (g : Nat) (s : StM) (a : Option Addr) (D : List UsL) (W : World) : Prop where
 s : W.heap[g]? = some (.cells #[.int .i64 s.f, .int .i64 s.t, .int .i64 s.n, .int .i64 s.s] 111 (0, 0))
 row : UsSl W a D
 frame : Below w.heap.size w W
theorem WsK.below {w W W' : World} {g : Nat} {s : StM} {a : Option Addr} {D : List UsL} (h : WsK w g s a D W) (q : Below W.heap.size W W') : WsK w g s a D W' := ⟨(q.block _ (heap_lt h.s)).trans h.s, h.row.below q, h.frame.trans (q.mono h.frame.size)⟩
set_option maxHeartbeats 4000000 in
theorem withStay_any (a : Option Addr) (c : Nat) (D : List UsL) (u : ByteArray) (s : StM) (w : World) (hr : UsSl w a D) (hc : Cp a D.length c) (hk : RiseK UsM.u (umS D)) (hl : D.length ≤ 900) (hs : ∀ y ∈ D, y.l.length ≤ 900) :
  Calls Tryz.prog 194 #[.slice a D.length c, .string u, stV s] w fun e w' => ∃ x q L, e = .returned (.slice x L.length q) ∧ UsSl w' x L ∧ Cp x L.length q ∧ umS L = addU (umS D) u s ∧ Below w.heap.size w w' := by
 have hb := below_one w (.cells #[.int .i64 s.f, .int .i64 s.t, .int .i64 s.n, .int .i64 s.s] 111)
 have K0 : WsK w w.heap.size s a D (w.alloc (.cells #[.int .i64 s.f, .int .i64 s.t, .int .i64 s.n, .int .i64 s.s] 111)) := ⟨heap_alloc_new w _, hr.below hb, hb⟩
 have HSO := Lib.hid (fun V (h : UsSl V a D) => staysOf_any a c D u V h (by omega))
 have hlen : (ofU (umS D) u).length ≤ 900 := by
  rcases fst_key (D := D) (u := u) rfl with ⟨_, h2⟩ | ⟨h1, h2, _⟩
  ·rw [h2]; simp
  ·rw [h2]; exact hs _ (List.getElem_mem h1)
 have HAD := Lib.hid (fun x q V (h : StSl V x (ofU (umS D) u)) (k : Cp x (ofU (umS D) u).length q) => add8_any x q (ofU (umS D) u) s V h k.nil (by omega) k.le k.mx)
 have HPU := Lib.hid (fun p V (h : UsSl V a D) (k : UsAt V p) => put_us a c D p V h k hc (by omega))
 have HW1 := Lib.hid (fun h => with_addU (u := u) (x := s) hk h)
 have HW2 := Lib.hid (fun h => with_none (l := umS D) (u := u) (x := s) h)
 have HSC : Hid (∀ V, WsK w w.heap.size s a D V → V.cell? ⟨w.heap.size, 0, none⟩ = some (.int .i64 s.f) ∧ V.cell? ⟨w.heap.size, 1, none⟩ = some (.int .i64 s.t) ∧ V.cell? ⟨w.heap.size, 2, none⟩ = some (.int .i64 s.n) ∧ V.cell? ⟨w.heap.size, 3, none⟩ = some (.int .i64 s.s)) := fun V h => cells4 h.s
 have HCP := Lib.hid hc
 have K1 := K0.below (Below.refl _ _).drew
 unfold stV at *
 clear hr hc hs hb K0
 generalize hO : ofU (umS D) u = o at *
 clear hlen
 go_enter Tryz.func194, Tryz.ntmps194
 go_wp2_with fail
 go_region_held3 (fun V => V.cell? ⟨w.heap.size, 0, none⟩ = some (.int .i64 s.f) ∧ V.cell? ⟨w.heap.size, 1, none⟩ = some (.int .i64 s.t) ∧ V.cell? ⟨w.heap.size, 2, none⟩ = some (.int .i64 s.n) ∧ V.cell? ⟨w.heap.size, 3, none⟩ = some (.int .i64 s.s))
  (first | with_reducible exact HSC.out _ K3 | with_reducible exact HSC.out _ K2 | with_reducible exact HSC.out _ K1)
  (first | (have hseen := K2; clear hseen; go_at_call 56; refine (HAD.out x2 q2 _ z2 p2).mono ?_; rintro e w3 ⟨v3, rfl, ho3, h3⟩; have K3 := K2.below h3) | (have hseen := K1; clear hseen; go_at_call 90; refine (HSO.out _ K1.row).mono ?_; rintro e w2 ⟨x2, q2, rfl, z2, p2, h2⟩; have K2 := K1.below h2))
 obtain ⟨x3, q3, rfl, i1, i2, i3, i4⟩ := own_st ho3
 have HI : Hid (UsAt w3 ⟨u, x3, addS o s, q3⟩) := ⟨i3, i1, i2, i4⟩
 have HK := Lib.hid K3
 clear K1 K2 K3 z2 p2 h2 h3 ho3 i1 i2 i3 i4 HSO HAD HSC
 by_cases hz : addS o s = []
 ·have HE := Lib.hid (HW2.out hz)
  have hl0 : ((addS o s).length == 0) = true := by rw [hz]; rfl
  have hl1 : (((addS o s).length : Int) == 0) = true := by rw [hz]; rfl
  clear HW1 HW2 HPU HI hz
  generalize (addS o s).length = n at *
  go_wp2
  go_ret
  exact ⟨a, c, D, rfl, HK.out.row, HCP.out, HE.out.symm, HK.out.frame⟩
 ·have HE := Lib.hid (HW1.out hz)
  have hn : ¬ (addS o s).length = 0 := fun h => hz (List.eq_nil_of_length_eq_zero h)
  have hl0 : ((addS o s).length == 0) = false := beq_eq_false_iff_ne.2 hn
  have hl1 : (((addS o s).length : Int) == 0) = false := beq_eq_false_iff_ne.2 (by omega)
  have HP2 := Lib.hid (HPU.out ⟨u, x3, addS o s, q3⟩)
  have HFI : Hid (∀ L, IsPut UsL.u D ⟨u, x3, addS o s, q3⟩ L → umS L = addU (umS D) u s) := fun L h => (h.us hk).trans HE.out
  dsimp only at HP2
  clear HW1 HW2 HPU HE hz hn
  generalize addS o s = r at *
  go_wp2_with fail
  refine (HP2.out _ HK.out.row HI.out).mono ?_
  rintro e w4 ⟨x4, q4, L, rfl, h1, h2, h3, h4⟩
  have HR := Lib.hid (And.intro h1 (And.intro h2 (And.intro (HFI.out L h3) (HK.out.below h4).frame)))
  clear h1 h2 h3 h4 HK HI HP2 HFI
  go_wp2
  go_ret
  exact ⟨x4, q4, L, rfl, HR.out.1, HR.out.2.1, HR.out.2.2.1, HR.out.2.2.2⟩
theorem SB.fin {w T : World} {g r : Nat} {t t' : TypeId} {y z : SaL} (hK : SB w g t y T) (hZ : SB w r t' z T) : (loadVar 39 ⟨r, 0, none⟩).run Tryz.prog (setS T r y) = .ok (saV y) (setS T r y) ∧ SaAt (setS T r y) y ∧ Below w.heap.size w (setS T r y) := by
 have hF := hZ.set hK.at_
 exact ⟨loadS6 hF.blk, hF.at_, hF.frame⟩
theorem SB.finV {w T : World} {r : Nat} {t' : TypeId} {y z : SaL} (hy : SaAt T y) (hZ : SB w r t' z T) : (loadVar 39 ⟨r, 0, none⟩).run Tryz.prog (setS T r y) = .ok (saV y) (setS T r y) ∧ SaAt (setS T r y) y ∧ Below w.heap.size w (setS T r y) := by
 have hF := hZ.set hy
 exact ⟨loadS6 hF.blk, hF.at_, hF.frame⟩
theorem two_SB {w : World} {x : SaL} (h : SaAt w x) (t t' : TypeId) : SB w w.heap.size t x ((w.alloc (.cells (saC x) t)).alloc (.cells (saC saO) t')) ∧ SB w (w.heap.size + 1) t' saO ((w.alloc (.cells (saC x) t)).alloc (.cells (saC saO) t')) := by
 have S0 := SB.new (Below.refl w.heap.size w) h t
 have Z0 := SB.new (S0.frame) (SaAt.zero (w.alloc (.cells (saC x) t))) t'
 rw [size1] at Z0
 exact ⟨S0.alloc _, Z0⟩
theorem umS_st {D : List UsL} {n : Nat} (h : ∀ u ∈ umS D, u.l.length ≤ n) : ∀ y ∈ D, y.l.length ≤ n := fun y hy => h y.m (List.mem_map_of_mem hy)
set_option maxHeartbeats 4000000 in
theorem closed_any (x : SaL) (n : Int) (u : ByteArray) (at_ : Int) (w : World) (h : SaAt w x) (hf : Few x.m 450) (hk : RiseK UsM.u (umS x.us)) :
  Calls Tryz.prog 195 #[saV x, .int .i64 n, .string u, .int .i64 at_] w fun e w' => ∃ y, e = .returned (.tuple #[saV y, .int .i64 (findC x.op n u)]) ∧ SaAt w' y ∧ y.m = { x.m with op := cloR x.op n u, us := addU (umS x.us) u (fndS x.op n u at_) } ∧ Below w.heap.size w w' := by
 obtain ⟨HK, HZ⟩ := two_SB h 39 39
 obtain ⟨now, hor, oa, op, oc, ua, us, uc, sa, su, sc, ta, tb, tc⟩ := x
 have hun : us.length ≤ 450 := by have := hf.us; unfold SaL.m at this; simp only at this; rwa [umS_len] at this
 have HCL := Lib.hid (fun V (h : OpSl V oa op) => o_close oa oc op n u at_ V h (Nat.le_trans hf.op (by decide)) HK.at_.oc.le HK.at_.oc.mx)
 have HWS := Lib.hid (fun V (h : UsSl V ua us) => withStay_any ua uc us u (fndS op n u at_) V h HK.at_.uc hk (by omega) (fun y hy => by have := umS_st hf.st y hy; omega))
 have HS := Lib.hid HK
 have HZZ := Lib.hid HZ
 obtain ⟨c0, c1, c2, c3, c4, c5⟩ := HK.cells
 unfold stV at HWS
 unfold saV saC at *
 dsimp only at *
 clear h hf HK HZ
 go_enter Tryz.func195, Tryz.ntmps195
 go_wp2_with fail
 refine (HCL.out _ HS.out.at_.op).mono ?_
 rintro e w1 ⟨x1, q1, rfl, i1, j1, k1, l1, h1⟩
 generalize hst : fndS op n u at_ = st at *
 have hb := below_one w1 (.cells #[.int .i64 st.f, .int .i64 st.t, .int .i64 st.n, .int .i64 st.s] 111)
 have S1 := (HS.out.below h1).below hb
 have Z1 := (HZZ.out.below h1).below hb
 have L1 := l1.below hb
 clear c0 c1 c2 c3 c4 c5
 obtain ⟨c0, c1, c2, c3, c4, c5⟩ := S1.cells
 obtain ⟨s0, s1, s2, s3⟩ := cells4 (heap_alloc_new w1 (.cells #[.int .i64 st.f, .int .i64 st.t, .int .i64 st.n, .int .i64 st.s] 111))
 have HS1 := Lib.hid S1
 have HZ1 := Lib.hid Z1
 have HL1 := Lib.hid L1
 have HC1 := Lib.hid (Cp.mk i1 j1 k1)
 dsimp only at *
 clear HS HZZ S1 Z1 L1 h1 hb l1 i1 j1 k1
 go_wp2_with fail
 refine (HWS.out _ HS1.out.at_.us).mono ?_
 rintro e w2 ⟨x2, q2, L, rfl, z2, p2, m2, h2⟩
 have S2 := HS1.out.below h2
 have Z2 := HZ1.out.below h2
 have S3 := S2.setOp rfl (HL1.out.below h2) HC1.out
 have S4 := S3.setUs rfl (z2.setB S2.blk 2 (.slice x1 (cloR op n u).length q1)) p2
 have Z3 := Z2.far S2 (by omega) 2 (.slice x1 (cloR op n u).length q1)
 have Z4 := Z3.far S3 (by omega) 3 (.slice x2 L.length q2)
 have hfin := S4.fin Z4
 clear c0 c1 c2 c3 c4 c5 s0 s1 s2 s3
 obtain ⟨c0, c1, c2, c3, c4, c5⟩ := S2.cells
 obtain ⟨f0, f1, f2, f3, f4, f5⟩ := S2.free
 obtain ⟨d0, d1, d2, d3, d4, d5⟩ := S4.cells
 obtain ⟨z0, z1, z2', z3, z4, z5⟩ := Z4.cells
 obtain ⟨y0, y1, y2, y3, y4, y5⟩ := Z4.free
 have hgl := S2.lt
 have hzl := Z4.lt
 have HL := Lib.hid hfin.1
 have HFN := Lib.hid (And.intro hfin.2.1 (And.intro (show SaL.m ⟨now, hor, x1, cloR op n u, q1, x2, L, q2, sa, su, sc, ta, tb, tc⟩ = ⟨now, hor, cloR op n u, addU (umS us) u (fndS op n u at_), su, tb⟩ by unfold SaL.m; simp only; rw [m2, hst]) hfin.2.2))
 unfold setS saV saC at HL
 unfold saO at z0 z1 z2' z3 z4 z5
 dsimp only at *
 clear S2 Z2 S3 S4 Z3 Z4 hfin HS1 HZ1 HL1 HC1 HCL HWS z2 p2 m2 h2
 go_wp2
 refine bodyPost_ret (v := .tuple #[saV ⟨now, hor, x1, cloR op n u, q1, x2, L, q2, sa, su, sc, ta, tb, tc⟩, .int .i64 (findC op n u)]) ?_ rfl ⟨_, rfl, HFN.out⟩
 rw [results_cellT rfl]
 unfold saV saC
 simp [asAddr, Result.andThen, HL.out]
set_option maxHeartbeats 4000000 in
theorem erased_any (x : SaL) (u : ByteArray) (at_ : Int) (w : World) (h : SaAt w x) (hf : Few x.m 450) (hk : RiseK UsM.u (umS x.us)) (ht : RiseK TbM.u x.tb) :
  Calls Tryz.prog 198 #[saV x, .string u, .int .i64 at_] w fun e w' => ∃ y, e = .returned (saV y) ∧ SaAt w' y ∧ y.m = { x.m with op := x.op.filter (notU u), us := putU (umS x.us) u [], su := withoutS x.su u, tb := tombU x.tb u at_ } ∧ Below w.heap.size w w' := by
 have S0 := SB.new (Below.refl w.heap.size w) h 39
 have hbu := below_one (w.alloc (.cells (saC x) 39)) (.cells #[.string u] 9)
 have S1 := S0.below hbu
 have Z0 := SB.new S1.frame (SaAt.zero ((w.alloc (.cells (saC x) 39)).alloc (.cells #[.string u] 9))) 39
 have hcap : CapO ((w.alloc (.cells (saC x) 39)).alloc (.cells #[.string u] 9)) (w.heap.size + 1) (.string u) := ⟨by have := cell_of_row ((w.alloc (.cells (saC x) 39)).alloc (.cells #[.string u] 9)) (w.alloc (.cells (saC x) 39)).heap.size 0 _ _ (0, 0) (heap_alloc_new _ _); rw [size1] at this; exact this, by rw [size1, size1]; omega⟩
 rw [size1, size1] at Z0
 have HK := S1.alloc (.cells (saC saO) 39)
 have HCA := Lib.hid (hcap.below (below_one _ (.cells (saC saO) 39)))
 obtain ⟨now, hor, oa, op, oc, ua, us, uc, sa, su, sc, ta, tb, tc⟩ := x
 have hun : us.length ≤ 450 := by have := hf.us; unfold SaL.m at this; simp only at this; rwa [umS_len] at this
 have HWO := Lib.hid (fun V (h : OpSl V oa op) => o_without oa oc op u V h (Nat.le_trans hf.op (by decide)))
 have HTH := Lib.hid (fun V (h : UsSl V ua us) (k : CapO V (w.heap.size + 1) (.string u)) => those_any ua uc us u (w.heap.size + 1) V h HK.at_.uc (by omega) k)
 have HWE := Lib.hid (fun V (h : EnSl V sa su) => e_without sa sc su u V h (Nat.le_trans hf.su (by decide)))
 have HPT := Lib.hid (fun V (h : TbSl V ta tb) => put_tb ta tc tb ⟨u, at_⟩ V h HK.at_.tc (Nat.le_trans hf.tb (by decide)))
 have HPI := Lib.hid (fun L (h : IsPut TbM.u tb ⟨u, at_⟩ L) => h.tb ht)
 have HKU : Hid (umS (butU u us) = putU (umS us) u []) := by
  unfold Hid
  rw [butU_m]
  exact (ins_out hk).symm
 have HS := Lib.hid HK
 have HZZ := Lib.hid Z0
 obtain ⟨c0, c1, c2, c3, c4, c5⟩ := HK.cells
 obtain ⟨f0, f1, f2, f3, f4, f5⟩ := HK.free
 obtain ⟨k0, hkl⟩ := HCA.out
 unfold saV saC at *
 dsimp only at *
 have hgl := HK.lt
 clear h hf HK Z0 S0 S1 hbu hcap
 go_enter Tryz.func198, Tryz.ntmps198
 go_wp2_with fail
 refine (HWO.out _ HS.out.at_.op).mono ?_
 rintro e w1 ⟨x1, q1, rfl, i1, j1, k1, l1, h1⟩
 have A1 := HS.out.below h1
 have B1 := HZZ.out.below h1
 have C1 := HCA.out.below h1
 have A2 := A1.setOp rfl l1 ⟨i1, j1, k1⟩
 have B2 := B1.far A1 (by omega) 2 (.slice x1 (op.filter (notU u)).length q1)
 have C2 : CapO (w1.setCell ⟨w.heap.size, 2, none⟩ (.slice x1 (op.filter (notU u)).length q1)) (w.heap.size + 1) (.string u) := ⟨(cell_far (p := ⟨w.heap.size + 1, 0, none⟩) (by show w.heap.size + 1 ≠ w.heap.size; omega)).trans C1.1, by rw [size_set]; exact C1.2⟩
 clear c0 c1 c2 c3 c4 c5 f0 f1 f2 f3 f4 f5 hgl k0 hkl
 obtain ⟨c0, c1, c2, c3, c4, c5⟩ := A1.cells
 obtain ⟨f0, f1, f2, f3, f4, f5⟩ := A1.free
 have hgl := A1.lt
 obtain ⟨d0, d1, d2, d3, d4, d5⟩ := A2.cells
 have HS2 := Lib.hid A2
 have HZ2 := Lib.hid B2
 have HC2 := Lib.hid C2
 dsimp only at *
 clear HS HZZ HCA A1 B1 C1 A2 B2 C2 h1 i1 j1 k1 l1
 go_wp2_with fail
 refine (HTH.out _ HS2.out.at_.us HC2.out).mono ?_
 rintro e w2 ⟨x2, q2, rfl, l2, p2, h2⟩
 have A1 := HS2.out.below h2
 have B1 := HZ2.out.below h2
 have C1 := HC2.out.below h2
 have A2 := A1.setUs rfl l2 p2
 have B2 := B1.far A1 (by omega) 3 (.slice x2 (butU u us).length q2)
 have C2 : CapO (w2.setCell ⟨w.heap.size, 3, none⟩ (.slice x2 (butU u us).length q2)) (w.heap.size + 1) (.string u) := ⟨(cell_far (p := ⟨w.heap.size + 1, 0, none⟩) (by show w.heap.size + 1 ≠ w.heap.size; omega)).trans C1.1, by rw [size_set]; exact C1.2⟩
 clear c0 c1 c2 c3 c4 c5 f0 f1 f2 f3 f4 f5 hgl d0 d1 d2 d3 d4 d5
 obtain ⟨c0, c1, c2, c3, c4, c5⟩ := A1.cells
 obtain ⟨f0, f1, f2, f3, f4, f5⟩ := A1.free
 have hgl := A1.lt
 obtain ⟨d0, d1, d2, d3, d4, d5⟩ := A2.cells
 have HC3 := Lib.hid C2
 obtain ⟨k0, hkl⟩ := C2
 have HS3 := Lib.hid A2
 have HZ3 := Lib.hid B2
 dsimp only at *
 clear HS2 HZ2 HC2 A1 B1 C1 A2 B2 h2 l2 p2
 go_wp2_with fail
 refine (HWE.out _ HS3.out.at_.su).mono ?_
 rintro e w3 ⟨x3, q3, rfl, i3, j3, k3, l3, h3⟩
 have A1 := HS3.out.below h3
 have B1 := HZ3.out.below h3
 have C1 := HC3.out.below h3
 have A2 := A1.setSu rfl l3 ⟨i3, j3, k3⟩
 have B2 := B1.far A1 (by omega) 4 (.slice x3 (su.filter (wiE u)).length q3)
 have C2 : CapO (w3.setCell ⟨w.heap.size, 4, none⟩ (.slice x3 (su.filter (wiE u)).length q3)) (w.heap.size + 1) (.string u) := ⟨(cell_far (p := ⟨w.heap.size + 1, 0, none⟩) (by show w.heap.size + 1 ≠ w.heap.size; omega)).trans C1.1, by rw [size_set]; exact C1.2⟩
 clear c0 c1 c2 c3 c4 c5 f0 f1 f2 f3 f4 f5 hgl d0 d1 d2 d3 d4 d5 k0 hkl
 obtain ⟨c0, c1, c2, c3, c4, c5⟩ := A1.cells
 obtain ⟨f0, f1, f2, f3, f4, f5⟩ := A1.free
 have hgl := A1.lt
 obtain ⟨d0, d1, d2, d3, d4, d5⟩ := A2.cells
 obtain ⟨k0, hkl⟩ := C2
 have HS4 := Lib.hid A2
 have HZ4 := Lib.hid B2
 dsimp only at *
 clear HS3 HZ3 HC3 A1 B1 C1 A2 B2 h3 i3 j3 k3 l3
 go_wp2_with fail
 refine (HPT.out _ HS4.out.at_.tb).mono ?_
 rintro e w4 ⟨x4, q4, L, rfl, l4, p4, m4, h4⟩
 have A1 := HS4.out.below h4
 have B1 := HZ4.out.below h4
 have A2 := A1.setTb rfl l4 p4
 have B2 := B1.far A1 (by omega) 5 (.slice x4 L.length q4)
 have hfin := A2.fin B2
 have hL := HPI.out L m4
 clear c0 c1 c2 c3 c4 c5 f0 f1 f2 f3 f4 f5 hgl d0 d1 d2 d3 d4 d5 k0 hkl
 obtain ⟨c0, c1, c2, c3, c4, c5⟩ := A1.cells
 obtain ⟨f0, f1, f2, f3, f4, f5⟩ := A1.free
 have hgl := A1.lt
 obtain ⟨d0, d1, d2, d3, d4, d5⟩ := A2.cells
 obtain ⟨z0, z1, z2, z3, z4, z5⟩ := B2.cells
 obtain ⟨y0, y1, y2, y3, y4, y5⟩ := B2.free
 have hzl := B2.lt
 have HL := Lib.hid hfin.1
 have HFN := Lib.hid (And.intro hfin.2.1 (And.intro (show SaL.m ⟨now, hor, x1, op.filter (notU u), q1, x2, butU u us, q2, x3, su.filter (wiE u), q3, x4, L, q4⟩ = ⟨now, hor, op.filter (notU u), putU (umS us) u [], withoutS su u, tombU tb u at_⟩ by unfold SaL.m; simp only; rw [HKU.out, hL]; rfl) hfin.2.2))
 unfold setS saV saC at HL
 unfold saO at z0 z1 z2 z3 z4 z5
 dsimp only at *
 clear HS4 HZ4 A1 B1 A2 B2 hfin hL m4 l4 p4 h4 HWO HTH HWE HPT HPI HKU
 go_wp2
 refine bodyPost_ret (v := saV ⟨now, hor, x1, op.filter (notU u), q1, x2, butU u us, q2, x3, su.filter (wiE u), q3, x4, L, q4⟩) ?_ rfl ⟨_, rfl, HFN.out⟩
 rw [results_cell1 rfl]
 unfold saV saC
 simp [asAddr, Result.andThen, HL.out]
structure EB (w : World) (g : Nat) (t : TypeId) (e : EvM) (W : World) : Prop where
 blk : W.heap[g]? = some (.cells #[.int .i64 e.kind, .int .i64 e.at_, .string e.user, .string e.other, .int .i64 e.n, .int .i64 e.status] t (0, 0))
 ge : w.heap.size ≤ g
theorem EB.below {w W W' : World} {g : Nat} {t : TypeId} {e : EvM} (h : EB w g t e W) (q : Below W.heap.size W W') : EB w g t e W' := ⟨(q.block g (heap_lt h.blk)).trans h.blk, h.ge⟩
theorem EB.far {w W : World} {g g' i : Nat} {t : TypeId} {e : EvM} {v : Value} (h : EB w g t e W) (hne : g ≠ g') : EB w g t e (W.setCell ⟨g', i, none⟩ v) := ⟨(block_far hne).trans h.blk, h.ge⟩
theorem three_SB {w : World} {x : SaL} (h : SaAt w x) (e : EvM) (t te t' : TypeId) : SB w w.heap.size t x (((w.alloc (.cells (saC x) t)).alloc (.cells #[.int .i64 e.kind, .int .i64 e.at_, .string e.user, .string e.other, .int .i64 e.n, .int .i64 e.status] te)).alloc (.cells (saC saO) t'))
  ∧ EB w (w.heap.size + 1) te e (((w.alloc (.cells (saC x) t)).alloc (.cells #[.int .i64 e.kind, .int .i64 e.at_, .string e.user, .string e.other, .int .i64 e.n, .int .i64 e.status] te)).alloc (.cells (saC saO) t'))
  ∧ SB w (w.heap.size + 2) t' saO (((w.alloc (.cells (saC x) t)).alloc (.cells #[.int .i64 e.kind, .int .i64 e.at_, .string e.user, .string e.other, .int .i64 e.n, .int .i64 e.status] te)).alloc (.cells (saC saO) t')) := by
 have S0 := SB.new (Below.refl w.heap.size w) h t
 have E0 : EB w (w.heap.size + 1) te e ((w.alloc (.cells (saC x) t)).alloc (.cells #[.int .i64 e.kind, .int .i64 e.at_, .string e.user, .string e.other, .int .i64 e.n, .int .i64 e.status] te)) := ⟨by have := heap_alloc_new (w.alloc (.cells (saC x) t)) (.cells #[.int .i64 e.kind, .int .i64 e.at_, .string e.user, .string e.other, .int .i64 e.n, .int .i64 e.status] te); rwa [size1] at this, by omega⟩
 have S1 := S0.alloc (.cells #[.int .i64 e.kind, .int .i64 e.at_, .string e.user, .string e.other, .int .i64 e.n, .int .i64 e.status] te)
 have Z0 := SB.new (S1.frame) (SaAt.zero _) t'
 rw [size1, size1] at Z0
 exact ⟨S1.alloc _, E0.below (below_one _ _), Z0⟩
theorem SB.over {w T : World} {g r : Nat} {t t' : TypeId} {x y z : SaL} (hK : SB w g t x T) (hy : SaAt T y) (hZ : SB w r t' z T) (hne : r ≠ g) : SB w g t y (setS T g y) ∧ SB w r t' z (setS T g y) := by
 have h0 := hK.setNow y.now
 have y0 := hy.setB hK.blk 0 (.int .i64 y.now)
 have h1 := h0.setHor y.hor
 have y1 := y0.setB h0.blk 1 (.int .i64 y.hor)
 have h2 := h1.setOp rfl y1.op y1.oc
 have y2 := y1.setB h1.blk 2 (.slice y.oa y.op.length y.oc)
 have h3 := h2.setUs rfl y2.us y2.uc
 have y3 := y2.setB h2.blk 3 (.slice y.ua y.us.length y.uc)
 have h4 := h3.setSu rfl y3.su y3.sc
 exact ⟨hK.set hy, (((((hZ.far hK hne 0 _).far h0 hne 1 _).far h1 hne 2 _).far h2 hne 3 _).far h3 hne 4 _).far h4 hne 5 _⟩
theorem e_grant2 (a : Option Addr) (c : Nat) (l : List EnM) (p u : ByteArray) (n : Int) (W : World) (h : EnSl W a l) (hc : Cp a l.length c) (hl : l.length ≤ 500) : Calls Tryz.prog 196 #[.slice a l.length c, .agg #[.string p, .string u], .int .i64 n] W fun e w' => ∃ x q m er, e = .returned (.tuple #[.slice x m.length q, .int .i64 er]) ∧ er = (if l.any (infE p u) = true then 90 else 0) ∧ (er = 0 → m = grantS l (mkE p u n)) ∧ Cp x m.length q ∧ EnSl w' x m ∧ Below W.heap.size W w' := by
 by_cases hi : l.any (infE p u) = true
 ·refine (e_grant_no a c l p u n W h hc.nil hl hc.le hc.mx hi).mono ?_
  rintro e w' ⟨rfl, hb⟩
  exact ⟨none, 0, [], 90, rfl, (if_pos hi).symm, fun h => absurd h (by decide), Cp.none, EnSl.nil _ _, hb⟩
 ·refine (e_grant a c l p u n W h hc.nil hl hc.le hc.mx (Bool.eq_false_iff.2 hi)).mono ?_
  rintro e w' ⟨x, q, rfl, i1, i2, i3, i4, hb⟩
  exact ⟨x, q, _, 0, rfl, (if_neg hi).symm, fun _ => rfl, ⟨i1, i2, i3⟩, i4, hb⟩
theorem e_revoke2 (a : Option Addr) (c : Nat) (l : List EnM) (p u : ByteArray) (n : Int) (W : World) (h : EnSl W a l) (hc : Cp a l.length c) (hl : l.length ≤ 500) : Calls Tryz.prog 197 #[.slice a l.length c, .agg #[.string p, .string u], .int .i64 n] W fun e w' => ∃ x q m er, e = .returned (.tuple #[.slice x m.length q, .int .i64 er]) ∧ er = (if l.any (infE p u) = true then 0 else 91) ∧ (er = 0 → m = revokeS l p u n) ∧ Cp x m.length q ∧ EnSl w' x m ∧ Below W.heap.size W w' := by
 by_cases hi : l.any (infE p u) = true
 ·refine (e_revoke a c l p u n W h hl hc.le hc.mx hi).mono ?_
  rintro e w' ⟨x, q, rfl, i1, i2, i3, i4, hb⟩
  exact ⟨x, q, _, 0, rfl, (if_pos hi).symm, fun _ => rfl, ⟨i1, i2, i3⟩, i4, hb⟩
 ·refine (e_revoke_no a c l p u n W h hl hc.le hc.mx (Bool.eq_false_iff.2 hi)).mono ?_
  rintro e w' ⟨rfl, hb⟩
  exact ⟨none, 0, [], 91, rfl, (if_neg hi).symm, fun h => absurd h (by decide), Cp.none, EnSl.nil _ _, hb⟩
theorem o_open2 (a : Option Addr) (c : Nat) (l : List OpM) (e0 : OpM) (W : World) (h : OpSl W a l) (hc : Cp a l.length c) (hl : l.length ≤ 500) : Calls Tryz.prog 192 #[.slice a l.length c, .agg #[.int .i64 e0.n, .string e0.u, .int .i64 e0.s, .int .i64 e0.f]] W fun e w' => ∃ x q m er, e = .returned (.tuple #[.slice x m.length q, .int .i64 er]) ∧ er = openC l e0 ∧ (er = 0 → m = openR l e0) ∧ Cp x m.length q ∧ OpSl w' x m ∧ Below W.heap.size W w' := by
 refine (o_open a c l e0 W h hc.nil hl hc.le hc.mx).mono ?_
 rintro e w' ⟨x, q, rfl, i1, i2, i3, i4, hb⟩
 exact ⟨x, q, _, _, rfl, rfl, fun _ => rfl, ⟨i1, i2, i3⟩, i4, hb⟩
def Told (w : World) (x : SaL) (er : Int) (s : SaM) (r : Ending) (w' : World) : Prop := ∃ y, r = .returned (.tuple #[saV y, .int .i64 er]) ∧ SaAt w' y ∧ (er = 0 → y.m = s) ∧ Below w.heap.size w w'
set_option maxHeartbeats 8000000 in
theorem behind1 (x : SaL) (a n st : Int) (u o : ByteArray) (w : World) (h : SaAt w x) (hf : Few x.m 400) (hk : RiseK UsM.u (umS x.us)) (ht : RiseK TbM.u x.tb) :
  Calls Tryz.prog 134 #[saV x, evV ⟨1, a, u, o, n, st⟩] w (Told w x (errK x.m 1 a n st u o) { goS x.m 1 a n st u o with now := x.now }) := by
 obtain ⟨HK, HE, HZ⟩ := three_SB h ⟨1, a, u, o, n, st⟩ 39 64 39
 obtain ⟨now, hor, oa, op, oc, ua, us, uc, sa, su, sc, ta, tb, tc⟩ := x
 have HCL := Lib.hid (fun V (h : OpSl V oa op) => o_open2 oa oc op ⟨n, u, st, a⟩ V h HK.at_.oc (Nat.le_trans hf.op (by decide)))
 have HS := Lib.hid HK
 have HZZ := Lib.hid HZ
 have HEE := Lib.hid HE
 obtain ⟨c0, c1, c2, c3, c4, c5⟩ := HK.cells
 obtain ⟨f0, f1, f2, f3, f4, f5⟩ := HK.free
 obtain ⟨⟨e0, e1, e2, e3, e4, e5⟩, -⟩ := cells6 HE.blk
 have hgl := HK.lt
 unfold saV evV saC at *
 dsimp only at *
 clear h hf HK HZ HE
 go_enter Tryz.func134, Tryz.ntmps134
 go_wp2_with fail
 refine (HCL.out _ HS.out.at_.op).mono ?_
 rintro e w1 ⟨x1, q1, m, er, rfl, i1, j1, k1, l1, h1⟩
 have A1 := HS.out.below h1
 have B1 := HZZ.out.below h1
 have A2 := A1.setOp rfl l1 k1
 have B2 := B1.far A1 (by omega) 2 (.slice x1 m.length q1)
 have hfin := A2.fin B2
 clear c0 c1 c2 c3 c4 c5 f0 f1 f2 f3 f4 f5 hgl e0 e1 e2 e3 e4 e5
 obtain ⟨c0, c1, c2, c3, c4, c5⟩ := A1.cells
 obtain ⟨f0, f1, f2, f3, f4, f5⟩ := A1.free
 obtain ⟨⟨e0, e1, e2, e3, e4, e5⟩, -⟩ := cells6 (HEE.out.below h1).blk
 have hgl := A1.lt
 obtain ⟨d0, d1, d2, d3, d4, d5⟩ := A2.cells
 obtain ⟨z0, z1, z2, z3, z4, z5⟩ := B2.cells
 obtain ⟨y0, y1, y2, y3, y4, y5⟩ := B2.free
 have hzl := B2.lt
 have HL := Lib.hid hfin.1
 have HFN := Lib.hid (And.intro hfin.2.1 (And.intro i1 (And.intro j1 hfin.2.2)))
 unfold setS saV saC at HL
 unfold saO at z0 z1 z2 z3 z4 z5
 dsimp only at *
 clear HS HZZ HEE A1 B1 A2 B2 hfin l1 k1 h1 HCL i1 j1
 go_wp2
 refine bodyPost_ret (v := .tuple #[saV ⟨now, hor, x1, m, q1, ua, us, uc, sa, su, sc, ta, tb, tc⟩, .int .i64 er]) ?_ rfl ?_
 ·rw [results_cellT rfl]
  unfold saV saC
  simp [asAddr, Result.andThen, HL.out]
 ·obtain ⟨g1, g2, g3, g4⟩ := HFN.out
  subst g2
  exact ⟨_, rfl, g1, fun he => by rw [g3 he]; rfl, g4⟩
set_option maxHeartbeats 8000000 in
theorem behind4 (x : SaL) (a n st : Int) (u o : ByteArray) (w : World) (h : SaAt w x) (hf : Few x.m 400) (hk : RiseK UsM.u (umS x.us)) (ht : RiseK TbM.u x.tb) :
  Calls Tryz.prog 134 #[saV x, evV ⟨4, a, u, o, n, st⟩] w (Told w x (errK x.m 4 a n st u o) { goS x.m 4 a n st u o with now := x.now }) := by
 obtain ⟨HK, HE, HZ⟩ := three_SB h ⟨4, a, u, o, n, st⟩ 39 64 39
 obtain ⟨now, hor, oa, op, oc, ua, us, uc, sa, su, sc, ta, tb, tc⟩ := x
 have HCL := Lib.hid (fun V (h : EnSl V sa su) => e_grant2 sa sc su u o a V h HK.at_.sc (Nat.le_trans hf.su (by decide)))
 have HS := Lib.hid HK
 have HZZ := Lib.hid HZ
 have HEE := Lib.hid HE
 obtain ⟨c0, c1, c2, c3, c4, c5⟩ := HK.cells
 obtain ⟨f0, f1, f2, f3, f4, f5⟩ := HK.free
 obtain ⟨⟨e0, e1, e2, e3, e4, e5⟩, -⟩ := cells6 HE.blk
 have hgl := HK.lt
 unfold saV evV saC at *
 dsimp only at *
 clear h hf HK HZ HE
 go_enter Tryz.func134, Tryz.ntmps134
 go_wp2_with fail
 refine (HCL.out _ HS.out.at_.su).mono ?_
 rintro e w1 ⟨x1, q1, m, er, rfl, i1, j1, k1, l1, h1⟩
 have A1 := HS.out.below h1
 have B1 := HZZ.out.below h1
 have A2 := A1.setSu rfl l1 k1
 have B2 := B1.far A1 (by omega) 4 (.slice x1 m.length q1)
 have hfin := A2.fin B2
 clear c0 c1 c2 c3 c4 c5 f0 f1 f2 f3 f4 f5 hgl e0 e1 e2 e3 e4 e5
 obtain ⟨c0, c1, c2, c3, c4, c5⟩ := A1.cells
 obtain ⟨f0, f1, f2, f3, f4, f5⟩ := A1.free
 obtain ⟨⟨e0, e1, e2, e3, e4, e5⟩, -⟩ := cells6 (HEE.out.below h1).blk
 have hgl := A1.lt
 obtain ⟨d0, d1, d2, d3, d4, d5⟩ := A2.cells
 obtain ⟨z0, z1, z2, z3, z4, z5⟩ := B2.cells
 obtain ⟨y0, y1, y2, y3, y4, y5⟩ := B2.free
 have hzl := B2.lt
 have HL := Lib.hid hfin.1
 have HFN := Lib.hid (And.intro hfin.2.1 (And.intro i1 (And.intro j1 hfin.2.2)))
 unfold setS saV saC at HL
 unfold saO at z0 z1 z2 z3 z4 z5
 dsimp only at *
 clear HS HZZ HEE A1 B1 A2 B2 hfin l1 k1 h1 HCL i1 j1
 go_wp2
 refine bodyPost_ret (v := .tuple #[saV ⟨now, hor, oa, op, oc, ua, us, uc, x1, m, q1, ta, tb, tc⟩, .int .i64 er]) ?_ rfl ?_
 ·rw [results_cellT rfl]
  unfold saV saC
  simp [asAddr, Result.andThen, HL.out]
 ·obtain ⟨g1, g2, g3, g4⟩ := HFN.out
  subst g2
  exact ⟨_, rfl, g1, fun he => by rw [g3 he]; rfl, g4⟩
set_option maxHeartbeats 8000000 in
theorem behind5 (x : SaL) (a n st : Int) (u o : ByteArray) (w : World) (h : SaAt w x) (hf : Few x.m 400) (hk : RiseK UsM.u (umS x.us)) (ht : RiseK TbM.u x.tb) :
  Calls Tryz.prog 134 #[saV x, evV ⟨5, a, u, o, n, st⟩] w (Told w x (errK x.m 5 a n st u o) { goS x.m 5 a n st u o with now := x.now }) := by
 obtain ⟨HK, HE, HZ⟩ := three_SB h ⟨5, a, u, o, n, st⟩ 39 64 39
 obtain ⟨now, hor, oa, op, oc, ua, us, uc, sa, su, sc, ta, tb, tc⟩ := x
 have HCL := Lib.hid (fun V (h : EnSl V sa su) => e_revoke2 sa sc su u o a V h HK.at_.sc (Nat.le_trans hf.su (by decide)))
 have HS := Lib.hid HK
 have HZZ := Lib.hid HZ
 have HEE := Lib.hid HE
 obtain ⟨c0, c1, c2, c3, c4, c5⟩ := HK.cells
 obtain ⟨f0, f1, f2, f3, f4, f5⟩ := HK.free
 obtain ⟨⟨e0, e1, e2, e3, e4, e5⟩, -⟩ := cells6 HE.blk
 have hgl := HK.lt
 unfold saV evV saC at *
 dsimp only at *
 clear h hf HK HZ HE
 go_enter Tryz.func134, Tryz.ntmps134
 go_wp2_with fail
 refine (HCL.out _ HS.out.at_.su).mono ?_
 rintro e w1 ⟨x1, q1, m, er, rfl, i1, j1, k1, l1, h1⟩
 have A1 := HS.out.below h1
 have B1 := HZZ.out.below h1
 have A2 := A1.setSu rfl l1 k1
 have B2 := B1.far A1 (by omega) 4 (.slice x1 m.length q1)
 have hfin := A2.fin B2
 clear c0 c1 c2 c3 c4 c5 f0 f1 f2 f3 f4 f5 hgl e0 e1 e2 e3 e4 e5
 obtain ⟨c0, c1, c2, c3, c4, c5⟩ := A1.cells
 obtain ⟨f0, f1, f2, f3, f4, f5⟩ := A1.free
 obtain ⟨⟨e0, e1, e2, e3, e4, e5⟩, -⟩ := cells6 (HEE.out.below h1).blk
 have hgl := A1.lt
 obtain ⟨d0, d1, d2, d3, d4, d5⟩ := A2.cells
 obtain ⟨z0, z1, z2, z3, z4, z5⟩ := B2.cells
 obtain ⟨y0, y1, y2, y3, y4, y5⟩ := B2.free
 have hzl := B2.lt
 have HL := Lib.hid hfin.1
 have HFN := Lib.hid (And.intro hfin.2.1 (And.intro i1 (And.intro j1 hfin.2.2)))
 unfold setS saV saC at HL
 unfold saO at z0 z1 z2 z3 z4 z5
 dsimp only at *
 clear HS HZZ HEE A1 B1 A2 B2 hfin l1 k1 h1 HCL i1 j1
 go_wp2
 refine bodyPost_ret (v := .tuple #[saV ⟨now, hor, oa, op, oc, ua, us, uc, x1, m, q1, ta, tb, tc⟩, .int .i64 er]) ?_ rfl ?_
 ·rw [results_cellT rfl]
  unfold saV saC
  simp [asAddr, Result.andThen, HL.out]
 ·obtain ⟨g1, g2, g3, g4⟩ := HFN.out
  subst g2
  exact ⟨_, rfl, g1, fun he => by rw [g3 he]; rfl, g4⟩
set_option maxHeartbeats 8000000 in
theorem behind3 (x : SaL) (a n st : Int) (u o : ByteArray) (w : World) (h : SaAt w x) (hf : Few x.m 400) (hk : RiseK UsM.u (umS x.us)) (ht : RiseK TbM.u x.tb) :
  Calls Tryz.prog 134 #[saV x, evV ⟨3, a, u, o, n, st⟩] w (Told w x (errK x.m 3 a n st u o) { goS x.m 3 a n st u o with now := x.now }) := by
 obtain ⟨HK, HE, HZ⟩ := three_SB h ⟨3, a, u, o, n, st⟩ 39 64 39
 obtain ⟨now, hor, oa, op, oc, ua, us, uc, sa, su, sc, ta, tb, tc⟩ := x
 have HCL := Lib.hid (fun V (h : SaAt V ⟨now, hor, oa, op, oc, ua, us, uc, sa, su, sc, ta, tb, tc⟩) => closed_any ⟨now, hor, oa, op, oc, ua, us, uc, sa, su, sc, ta, tb, tc⟩ n u a V h ⟨Nat.le_trans hf.op (by decide), Nat.le_trans hf.us (by decide), Nat.le_trans hf.su (by decide), Nat.le_trans hf.tb (by decide), fun y hy => Nat.le_trans (hf.st y hy) (by decide)⟩ hk)
 have HGE := Lib.hid (HZ.ge)
 have HS := Lib.hid HK
 have HZZ := Lib.hid HZ
 have HEE := Lib.hid HE
 obtain ⟨c0, c1, c2, c3, c4, c5⟩ := HK.cells
 obtain ⟨f0, f1, f2, f3, f4, f5⟩ := HK.free
 obtain ⟨⟨e0, e1, e2, e3, e4, e5⟩, -⟩ := cells6 HE.blk
 have hgl := HK.lt
 unfold saV evV saC at *
 dsimp only at *
 clear h hf HK HZ HE
 go_enter Tryz.func134, Tryz.ntmps134
 go_wp2_with fail
 refine (HCL.out _ HS.out.at_).mono ?_
 rintro e w1 ⟨x1, rfl, l1, j1, h1⟩
 have A1 := HS.out.below h1
 have B1 := HZZ.out.below h1
 obtain ⟨A2, B2⟩ := A1.over l1 B1 (by omega)
 have hfin := A2.fin B2
 clear c0 c1 c2 c3 c4 c5 f0 f1 f2 f3 f4 f5 hgl e0 e1 e2 e3 e4 e5
 obtain ⟨c0, c1, c2, c3, c4, c5⟩ := A1.cells
 obtain ⟨f0, f1, f2, f3, f4, f5⟩ := A1.free
 obtain ⟨⟨e0, e1, e2, e3, e4, e5⟩, -⟩ := cells6 (HEE.out.below h1).blk
 have hgl := A1.lt
 obtain ⟨d0, d1, d2, d3, d4, d5⟩ := A2.cells
 obtain ⟨z0, z1, z2, z3, z4, z5⟩ := B2.cells
 obtain ⟨y0, y1, y2, y3, y4, y5⟩ := B2.free
 have hzl := B2.lt
 have HL := Lib.hid hfin.1
 have HFN := Lib.hid (And.intro hfin.2.1 (And.intro j1 hfin.2.2))
 obtain ⟨now1, hor1, oa1, op1, oc1, ua1, us1, uc1, sa1, su1, sc1, ta1, tb1, tc1⟩ := x1
 unfold setS saV saC at *
 unfold saO at z0 z1 z2 z3 z4 z5
 dsimp only at *
 clear HS HZZ HEE A1 B1 A2 B2 hfin l1 h1 HCL j1
 go_wp2
 refine bodyPost_ret (v := .tuple #[saV ⟨now1, hor1, oa1, op1, oc1, ua1, us1, uc1, sa1, su1, sc1, ta1, tb1, tc1⟩, .int .i64 (findC op n u)]) ?_ rfl ?_
 ·rw [results_cellT rfl]
  unfold saV saC
  simp [asAddr, Result.andThen, HL.out]
 ·obtain ⟨g1, g2, g3⟩ := HFN.out
  exact ⟨_, rfl, g1, fun he => by rw [g2]; rfl, g3⟩
set_option maxHeartbeats 8000000 in
theorem behind7 (x : SaL) (a n st : Int) (u o : ByteArray) (w : World) (h : SaAt w x) (hf : Few x.m 400) (hk : RiseK UsM.u (umS x.us)) (ht : RiseK TbM.u x.tb) :
  Calls Tryz.prog 134 #[saV x, evV ⟨7, a, u, o, n, st⟩] w (Told w x (errK x.m 7 a n st u o) { goS x.m 7 a n st u o with now := x.now }) := by
 obtain ⟨HK, HE, HZ⟩ := three_SB h ⟨7, a, u, o, n, st⟩ 39 64 39
 obtain ⟨now, hor, oa, op, oc, ua, us, uc, sa, su, sc, ta, tb, tc⟩ := x
 have HCL := Lib.hid (fun V (h : SaAt V ⟨now, hor, oa, op, oc, ua, us, uc, sa, su, sc, ta, tb, tc⟩) => erased_any ⟨now, hor, oa, op, oc, ua, us, uc, sa, su, sc, ta, tb, tc⟩ u a V h ⟨Nat.le_trans hf.op (by decide), Nat.le_trans hf.us (by decide), Nat.le_trans hf.su (by decide), Nat.le_trans hf.tb (by decide), fun y hy => Nat.le_trans (hf.st y hy) (by decide)⟩ hk ht)
 have HGE := Lib.hid (HZ.ge)
 have HS := Lib.hid HK
 have HZZ := Lib.hid HZ
 have HEE := Lib.hid HE
 obtain ⟨c0, c1, c2, c3, c4, c5⟩ := HK.cells
 obtain ⟨f0, f1, f2, f3, f4, f5⟩ := HK.free
 obtain ⟨⟨e0, e1, e2, e3, e4, e5⟩, -⟩ := cells6 HE.blk
 have hgl := HK.lt
 unfold saV evV saC at *
 dsimp only at *
 clear h hf HK HZ HE
 go_enter Tryz.func134, Tryz.ntmps134
 go_wp2_with fail
 refine (HCL.out _ HS.out.at_).mono ?_
 rintro e w1 ⟨x1, rfl, l1, j1, h1⟩
 have A1 := HS.out.below h1
 have B1 := HZZ.out.below h1
 obtain ⟨A2, B2⟩ := A1.over l1 B1 (by omega)
 have hfin := A2.fin B2
 clear c0 c1 c2 c3 c4 c5 f0 f1 f2 f3 f4 f5 hgl e0 e1 e2 e3 e4 e5
 obtain ⟨c0, c1, c2, c3, c4, c5⟩ := A1.cells
 obtain ⟨f0, f1, f2, f3, f4, f5⟩ := A1.free
 obtain ⟨⟨e0, e1, e2, e3, e4, e5⟩, -⟩ := cells6 (HEE.out.below h1).blk
 have hgl := A1.lt
 obtain ⟨d0, d1, d2, d3, d4, d5⟩ := A2.cells
 obtain ⟨z0, z1, z2, z3, z4, z5⟩ := B2.cells
 obtain ⟨y0, y1, y2, y3, y4, y5⟩ := B2.free
 have hzl := B2.lt
 have HL := Lib.hid hfin.1
 have HFN := Lib.hid (And.intro hfin.2.1 (And.intro j1 hfin.2.2))
 obtain ⟨now1, hor1, oa1, op1, oc1, ua1, us1, uc1, sa1, su1, sc1, ta1, tb1, tc1⟩ := x1
 unfold setS saV saC at *
 unfold saO at z0 z1 z2 z3 z4 z5
 dsimp only at *
 clear HS HZZ HEE A1 B1 A2 B2 hfin l1 h1 HCL j1
 go_wp2
 refine bodyPost_ret (v := .tuple #[saV ⟨now1, hor1, oa1, op1, oc1, ua1, us1, uc1, sa1, su1, sc1, ta1, tb1, tc1⟩, .int .i64 (0)]) ?_ rfl ?_
 ·rw [results_cellT rfl]
  unfold saV saC
  simp [asAddr, Result.andThen, HL.out]
 ·obtain ⟨g1, g2, g3⟩ := HFN.out
  exact ⟨_, rfl, g1, fun he => by rw [g2]; rfl, g3⟩
def IntB (W : World) (g : Nat) (t : TypeId) (a b c d : Int) : Prop := W.heap[g]? = some (.cells #[.int .i64 a, .int .i64 b, .int .i64 c, .int .i64 d] t (0, 0))
theorem four_string {W : World} {g : Nat} {t : TypeId} {a b c d : Int} (h : IntB W g t a b c d) {j : Nat} {s : ByteArray} : ¬ W.cell? ⟨g, j, none⟩ = some (.string s) := fun e => by
 rw [cell_of_row _ _ _ _ _ (0, 0) h] at e
 match j with
 | 0 => cases e
 | 1 => cases e
 | 2 => cases e
 | 3 => cases e
 | j + 4 => simp at e
theorem OpSl.setI {W : World} {g : Nat} {t : TypeId} {a b c d : Int} (h : IntB W g t a b c d) {r : Option Addr} {l : List OpM} (ho : OpSl W r l) (i : Nat) (v : Value) : OpSl (W.setCell ⟨g, i, none⟩ v) r l := fun k hk => by
 obtain ⟨b, off, e, hlt, h0, h1, h2, h3⟩ := ho k hk
 have hne : b ≠ g := fun e => by subst e; exact four_string h h1
 exact ⟨b, off, e, by rw [size_set]; exact hlt, (cell_far (p := ⟨b, off + k * 4, none⟩) hne).trans h0, (cell_far (p := ⟨b, off + k * 4 + 1, none⟩) hne).trans h1, (cell_far (p := ⟨b, off + k * 4 + 2, none⟩) hne).trans h2, (cell_far (p := ⟨b, off + k * 4 + 3, none⟩) hne).trans h3⟩
theorem EnSl.setT {T W : World} {g : Nat} (hg : T.heap.size ≤ g) {a : Option Addr} {l : List EnM} (hT : EnSl T a l) (ho : EnSl W a l) (i : Nat) (v : Value) : EnSl (W.setCell ⟨g, i, none⟩ v) a l := fun k hk => by
 obtain ⟨b, off, e, hlt, h0, h1, h2, h3⟩ := ho k hk
 obtain ⟨b', off', e', hlt', -⟩ := hT k hk
 rw [e] at e'; cases e'
 have hne : b ≠ g := by omega
 exact ⟨b, off, e, by rw [size_set]; exact hlt, (cell_far (p := ⟨b, off + k * 4, none⟩) hne).trans h0, (cell_far (p := ⟨b, off + k * 4 + 1, none⟩) hne).trans h1, (cell_far (p := ⟨b, off + k * 4 + 2, none⟩) hne).trans h2, (cell_far (p := ⟨b, off + k * 4 + 3, none⟩) hne).trans h3⟩
theorem StSl.setT {T W : World} {g : Nat} (hg : T.heap.size ≤ g) {a : Option Addr} {l : List StM} (hT : StSl T a l) (ho : StSl W a l) (i : Nat) (v : Value) : StSl (W.setCell ⟨g, i, none⟩ v) a l := fun k hk => by
 obtain ⟨b, off, e, hlt, h0, h1, h2, h3⟩ := ho k hk
 obtain ⟨b', off', e', hlt', -⟩ := hT k hk
 rw [e] at e'; cases e'
 have hne : b ≠ g := by omega
 exact ⟨b, off, e, by rw [size_set]; exact hlt, (cell_far (p := ⟨b, off + k * 4, none⟩) hne).trans h0, (cell_far (p := ⟨b, off + k * 4 + 1, none⟩) hne).trans h1, (cell_far (p := ⟨b, off + k * 4 + 2, none⟩) hne).trans h2, (cell_far (p := ⟨b, off + k * 4 + 3, none⟩) hne).trans h3⟩
theorem PpSl.setT {T W : World} {g : Nat} (hg : T.heap.size ≤ g) {a : Option Addr} {l : List (Value × Value)} (hT : PpSl T a l) (ho : PpSl W a l) (i : Nat) (v : Value) : PpSl (W.setCell ⟨g, i, none⟩ v) a l := fun k hk => by
 obtain ⟨b, off, e, hlt, h0, h1⟩ := ho k hk
 obtain ⟨b', off', e', hlt', -⟩ := hT k hk
 rw [e] at e'; cases e'
 have hne : b ≠ g := by omega
 exact ⟨b, off, e, by rw [size_set]; exact hlt, (cell_far (p := ⟨b, off + k * 2, none⟩) hne).trans h0, (cell_far (p := ⟨b, off + k * 2 + 1, none⟩) hne).trans h1⟩
theorem UsSl.setT {T W : World} {g : Nat} (hg : T.heap.size ≤ g) {a : Option Addr} {D : List UsL} (hT : UsSl T a D) (ho : UsSl W a D) (i : Nat) (v : Value) : UsSl (W.setCell ⟨g, i, none⟩ v) a D :=
 ⟨hT.row.setT hg ho.row i v, fun y hy => ⟨(hT.at_ y hy).st.setT hg (ho.at_ y hy).st i v, (ho.at_ y hy).le, (ho.at_ y hy).mx, (ho.at_ y hy).nil⟩⟩
structure SaT (T : World) (x : SaL) : Prop where
 us : UsSl T x.ua x.us
 su : EnSl T x.sa x.su
 tb : TbSl T x.ta x.tb
def setSt (W : World) (g : Nat) (s : StM) : World := (((W.setCell ⟨g, 0, none⟩ (.int .i64 s.f)).setCell ⟨g, 1, none⟩ (.int .i64 s.t)).setCell ⟨g, 2, none⟩ (.int .i64 s.n)).setCell ⟨g, 3, none⟩ (.int .i64 s.s)
theorem SB.setI {w T W : World} {r g : Nat} {t t' : TypeId} {x : SaL} {a b c d : Int} (hI : IntB W g t' a b c d) (h : SB w r t x W) (hT : SaT T x) (hg : T.heap.size ≤ g) (hw : w.heap.size ≤ g) (hne : r ≠ g) (i : Nat) (v : Value) : SB w r t x (W.setCell ⟨g, i, none⟩ v) :=
 ⟨(block_far hne).trans h.blk, h.ge, h.frame.setCell (p := ⟨g, i, none⟩) hw _, ⟨h.at_.op.setI hI i v, hT.us.setT hg h.at_.us i v, hT.su.setT hg h.at_.su i v, PpSl.setT hg hT.tb h.at_.tb i v, h.at_.oc, h.at_.uc, h.at_.sc, h.at_.tc⟩⟩
theorem SB.setSt {w T W : World} {r g : Nat} {t t' : TypeId} {x : SaL} {a b c d : Int} (hI : IntB W g t' a b c d) (h : SB w r t x W) (hT : SaT T x) (hg : T.heap.size ≤ g) (hw : w.heap.size ≤ g) (hne : r ≠ g) (s : StM) : SB w r t x (setSt W g s) ∧ IntB (YtmfpjapiijgdgaaGreat.setSt W g s) g t' s.f s.t s.n s.s := by
 have i0 : IntB _ g t' s.f b c d := heap_setCell_at hI 0 (.int .i64 s.f)
 have i1 : IntB _ g t' s.f s.t c d := heap_setCell_at i0 1 (.int .i64 s.t)
 have i2 : IntB _ g t' s.f s.t s.n d := heap_setCell_at i1 2 (.int .i64 s.n)
 have i3 : IntB _ g t' s.f s.t s.n s.s := heap_setCell_at i2 3 (.int .i64 s.s)
 exact ⟨((((h.setI hI hT hg hw hne 0 _).setI i0 hT hg hw hne 1 _).setI i1 hT hg hw hne 2 _).setI i2 hT hg hw hne 3 _), i3⟩
theorem SaT.zero (T : World) : SaT T saO := ⟨UsSl.nil _ _, EnSl.nil _ _, TbSl.nil _ _⟩
set_option maxHeartbeats 8000000 in
theorem behind2 (x : SaL) (a n st : Int) (u o : ByteArray) (w : World) (h : SaAt w x) (hf : Few x.m 400) (hk : RiseK UsM.u (umS x.us)) (ht : RiseK TbM.u x.tb) :
  Calls Tryz.prog 134 #[saV x, evV ⟨2, a, u, o, n, st⟩] w (Told w x (errK x.m 2 a n st u o) { goS x.m 2 a n st u o with now := x.now }) := by
 obtain ⟨HK, HE, HZ⟩ := three_SB h ⟨2, a, u, o, n, st⟩ 39 64 39
 obtain ⟨now, hor, oa, op, oc, ua, us, uc, sa, su, sc, ta, tb, tc⟩ := x
 have hun : us.length ≤ 400 := by have := hf.us; unfold SaL.m at this; simp only at this; rwa [umS_len] at this
 have HCL := Lib.hid (fun V (h : OpSl V oa op) => o_change oa oc op n u st a V h (Nat.le_trans hf.op (by decide)) HK.at_.oc.le HK.at_.oc.mx)
 have HWS := Lib.hid (fun V (h : UsSl V ua us) => withStay_any ua uc us u (fndS op n u a) V h HK.at_.uc hk (by omega) (fun y hy => by have := umS_st hf.st y hy; omega))
 unfold stV at HWS
 generalize hst : fndS op n u a = s at HCL HWS
 have HT := Lib.hid HK.at_
 have hwg := HK.ge
 have HS := Lib.hid HK
 have HZZ := Lib.hid HZ
 have HEE := Lib.hid HE
 obtain ⟨c0, c1, c2, c3, c4, c5⟩ := HK.cells
 obtain ⟨f0, f1, f2, f3, f4, f5⟩ := HK.free
 obtain ⟨⟨e0, e1, e2, e3, e4, e5⟩, -⟩ := cells6 HE.blk
 have hgl := HK.lt
 unfold saV evV saC at *
 dsimp only at *
 clear h hf HK HZ HE
 go_enter Tryz.func134, Tryz.ntmps134
 go_wp2_with fail
 have hbs := below_one (((w.alloc (.cells #[.int .i64 now, .int .i64 hor, .slice oa op.length oc, .slice ua us.length uc, .slice sa su.length sc, .slice ta tb.length tc] 39)).alloc (.cells #[.int .i64 2, .int .i64 a, .string u, .string o, .int .i64 n, .int .i64 st] 64)).alloc (.cells (saC saO) 39)) (.cells #[.int .i64 0, .int .i64 0, .int .i64 0, .int .i64 0] 111)
 have ST := heap_alloc_new (((w.alloc (.cells #[.int .i64 now, .int .i64 hor, .slice oa op.length oc, .slice ua us.length uc, .slice sa su.length sc, .slice ta tb.length tc] 39)).alloc (.cells #[.int .i64 2, .int .i64 a, .string u, .string o, .int .i64 n, .int .i64 st] 64)).alloc (.cells (saC saO) 39)) (.cells #[.int .i64 0, .int .i64 0, .int .i64 0, .int .i64 0] 111)
 have HTS : ((((w.alloc (.cells #[.int .i64 now, .int .i64 hor, .slice oa op.length oc, .slice ua us.length uc, .slice sa su.length sc, .slice ta tb.length tc] 39)).alloc (.cells #[.int .i64 2, .int .i64 a, .string u, .string o, .int .i64 n, .int .i64 st] 64)).alloc (.cells (saC saO) 39))).heap.size = w.heap.size + 3 := by rw [size1, size1, size1]
 unfold saC at hbs ST HTS
 try dsimp only at hbs ST HTS
 rw [HTS] at ST
 have A0 := HS.out.below hbs
 have B0 := HZZ.out.below hbs
 have E0 := HEE.out.below hbs
 refine (HCL.out _ A0.at_.op).mono ?_
 rintro e w1 ⟨x1, q1, rfl, i1, j1, k1, l1, h1⟩
 have A1 := A0.below h1
 have B1 := B0.below h1
 have I1 : IntB w1 (w.heap.size + 3) 111 0 0 0 0 := (h1.block _ (heap_lt ST)).trans ST
 have A2 := A1.setOp rfl l1 ⟨i1, j1, k1⟩
 have B2 := B1.far A1 (by omega) 2 (.slice x1 (chgR op n u st a).length q1)
 have I2 : IntB (w1.setCell ⟨w.heap.size, 2, none⟩ (.slice x1 (chgR op n u st a).length q1)) (w.heap.size + 3) 111 0 0 0 0 := (block_far (by omega)).trans I1
 have E2 := (E0.below h1).far (i := 2) (v := .slice x1 (chgR op n u st a).length q1) (show w.heap.size + 1 ≠ w.heap.size by omega)
 obtain ⟨A3, I3⟩ := A2.setSt I2 (T := _) ⟨HT.out.us, HT.out.su, HT.out.tb⟩ (Nat.le_of_eq HTS) (by omega) (by omega) s
 obtain ⟨B3, -⟩ := B2.setSt I2 (SaT.zero _) (Nat.le_of_eq HTS) (by omega) (by omega) s
 have E3 := (((E2.far (i := 0) (v := .int .i64 s.f) (show w.heap.size + 1 ≠ w.heap.size + 3 by omega)).far (i := 1) (v := .int .i64 s.t) (show w.heap.size + 1 ≠ w.heap.size + 3 by omega)).far (i := 2) (v := .int .i64 s.n) (show w.heap.size + 1 ≠ w.heap.size + 3 by omega)).far (i := 3) (v := .int .i64 s.s) (show w.heap.size + 1 ≠ w.heap.size + 3 by omega)
 clear c0 c1 c2 c3 c4 c5 f0 f1 f2 f3 f4 f5 hgl e0 e1 e2 e3 e4 e5
 obtain ⟨f0, f1, f2, f3, f4, f5⟩ := A1.free
 have hgl := A1.lt
 have hg3 := heap_lt I1
 have n0 := frozen_of_row _ _ 0 _ _ I1
 have n1 := frozen_of_row _ _ 1 _ _ I1
 have n2 := frozen_of_row _ _ 2 _ _ I1
 have n3 := frozen_of_row _ _ 3 _ _ I1
 obtain ⟨s0, s1, s2, s3⟩ := cells4 I3
 obtain ⟨p0, p1, p2, p3⟩ := cells4 I1
 obtain ⟨b0, b1, b2, b3, b4, b5⟩ := A1.cells
 obtain ⟨c0, c1, c2, c3, c4, c5⟩ := A3.cells
 obtain ⟨⟨e0, e1, e2, e3, e4, e5⟩, -⟩ := cells6 E3.blk
 have HS3 := Lib.hid A3
 have HZ3 := Lib.hid B3
 have HE3 := Lib.hid E3
 unfold setSt at A3 I3 B3 c0 c1 c2 c3 c4 c5 s0 s1 s2 s3 HS3 HZ3
 dsimp only at c0 c1 c2 c3 c4 c5 e0 e1 e2 e3 e4 e5 b0 b1 b2 b3 b4 b5
 clear HS HZZ HEE A0 B0 E0 A1 B1 A2 B2 A3 B3 E2 E3 I1 I2 I3 ST hbs HTS l1 k1 h1 HCL i1 j1 HT
 go_wp2_with fail
 refine (HWS.out _ HS3.out.at_.us).mono ?_
 rintro e w2 ⟨x2, q2, L, rfl, z2, p2, m2, h2⟩
 have A4 := HS3.out.below h2
 have B4 := HZ3.out.below h2
 have A5 := A4.setUs rfl z2 p2
 have B5 := B4.far A4 (by omega) 3 (.slice x2 L.length q2)
 have hfin := A5.fin B5
 clear s0 s1 s2 s3 c0 c1 c2 c3 c4 c5 f0 f1 f2 f3 f4 f5 hgl e0 e1 e2 e3 e4 e5
 obtain ⟨c0, c1, c2, c3, c4, c5⟩ := A4.cells
 obtain ⟨f0, f1, f2, f3, f4, f5⟩ := A4.free
 obtain ⟨⟨e0, e1, e2, e3, e4, e5⟩, -⟩ := cells6 (HE3.out.below h2).blk
 have hgl := A4.lt
 obtain ⟨d0, d1, d2, d3, d4, d5⟩ := A5.cells
 obtain ⟨t0, t1, t2, t3, t4, t5⟩ := B5.cells
 obtain ⟨y0, y1, y2, y3, y4, y5⟩ := B5.free
 have hzl := B5.lt
 have HL := Lib.hid hfin.1
 have HFN := Lib.hid (And.intro hfin.2.1 (And.intro m2 hfin.2.2))
 unfold setS saV saC at HL
 unfold saO at t0 t1 t2 t3 t4 t5
 dsimp only at *
 clear HS3 HZ3 HE3 A4 B4 A5 B5 hfin z2 p2 m2 h2 HWS
 go_wp2
 refine bodyPost_ret (v := .tuple #[saV ⟨now, hor, x1, chgR op n u st a, q1, x2, L, q2, sa, su, sc, ta, tb, tc⟩, .int .i64 (findC op n u)]) ?_ rfl ?_
 ·rw [results_cellT rfl]
  unfold saV saC
  simp [asAddr, Result.andThen, HL.out]
 ·obtain ⟨g1, g2, g3⟩ := HFN.out
  exact ⟨_, rfl, g1, fun he => by unfold SaL.m; simp only; rw [g2, ← hst]; rfl, g3⟩
theorem fin_new {w : World} {y : SaL} (h : SaAt w y) (o1 o2 : Obj) (t : TypeId) : (loadVar 39 ⟨w.heap.size + 2, 0, none⟩).run Tryz.prog (((w.alloc o1).alloc o2).alloc (.cells (saC y) t)) = .ok (saV y) (((w.alloc o1).alloc o2).alloc (.cells (saC y) t)) ∧ SaAt (((w.alloc o1).alloc o2).alloc (.cells (saC y) t)) y ∧ Below w.heap.size w (((w.alloc o1).alloc o2).alloc (.cells (saC y) t)) := by
 have h1 := below_one w o1
 have h2 := h1.trans ((below_one (w.alloc o1) o2).mono h1.size)
 have h3 := h2.trans ((below_one ((w.alloc o1).alloc o2) (.cells (saC y) t)).mono h2.size)
 have h4 := heap_alloc_new ((w.alloc o1).alloc o2) (.cells (saC y) t)
 rw [size1, size1] at h4
 exact ⟨loadS6 h4, h.below h3, h3⟩
set_option maxHeartbeats 8000000 in
theorem behind6 (x : SaL) (a n st : Int) (u o : ByteArray) (w : World) (h : SaAt w x) (hf : Few x.m 400) (hk : RiseK UsM.u (umS x.us)) (ht : RiseK TbM.u x.tb) :
  Calls Tryz.prog 134 #[saV x, evV ⟨6, a, u, o, n, st⟩] w (Told w x (errK x.m 6 a n st u o) { goS x.m 6 a n st u o with now := x.now }) := by
 obtain ⟨HK, HE, HZ⟩ := three_SB h ⟨6, a, u, o, n, st⟩ 39 64 39
 obtain ⟨now, hor, oa, op, oc, ua, us, uc, sa, su, sc, ta, tb, tc⟩ := x
 have HFN := Lib.hid (fun o1 o2 => fin_new (y := ⟨now, max hor n, oa, op, oc, ua, us, uc, sa, su, sc, ta, tb, tc⟩) ⟨h.op, h.us, h.su, h.tb, h.oc, h.uc, h.sc, h.tc⟩ o1 o2 39)
 have HS := Lib.hid HK
 have HZZ := Lib.hid HZ
 have HEE := Lib.hid HE
 obtain ⟨c0, c1, c2, c3, c4, c5⟩ := HK.cells
 obtain ⟨f0, f1, f2, f3, f4, f5⟩ := HK.free
 obtain ⟨⟨e0, e1, e2, e3, e4, e5⟩, -⟩ := cells6 HE.blk
 have hgl := HK.lt
 unfold saV evV saC at *
 dsimp only at *
 clear h hf HK HZ HE
 go_enter Tryz.func134, Tryz.ntmps134
 obtain ⟨z0, z1, z2, z3, z4, z5⟩ := HZZ.out.cells
 obtain ⟨y0, y1, y2, y3, y4, y5⟩ := HZZ.out.free
 have hzl := HZZ.out.lt
 unfold saO at z0 z1 z2 z3 z4 z5
 dsimp only at *
 clear HS HZZ HEE
 go_wp2
 refine bodyPost_ret (v := .tuple #[saV ⟨now, max hor n, oa, op, oc, ua, us, uc, sa, su, sc, ta, tb, tc⟩, .int .i64 0]) ?_ rfl ?_
 ·rw [results_cellT rfl]
  unfold saV saC
  simp [asAddr, Result.andThen, (HFN.out _ _).1]
 ·exact ⟨_, rfl, (HFN.out _ _).2.1, fun he => rfl, (HFN.out _ _).2.2⟩
def Is (w : World) (s : SaM) (r : Ending) (w' : World) : Prop := ∃ y, r = .returned (saV y) ∧ SaAt w' y ∧ y.m = s ∧ Below w.heap.size w w'
end Go.Proofs.YtmfpjapiijgdgaaGreat
