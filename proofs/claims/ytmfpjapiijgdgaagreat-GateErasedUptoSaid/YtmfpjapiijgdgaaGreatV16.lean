/- Texts of mine, one behind the other, of each what is wanted. -/
import Derived.Test.YtmfpjapiijgdgaaGreatV00
import Derived.Test.YtmfpjapiijgdgaaGreatShelf
import Derived.Test.YtmfpjapiijgdgaaGreatV01
import Derived.Test.YtmfpjapiijgdgaaGreatV03
import Derived.Test.YtmfpjapiijgdgaaGreatV05
import Derived.Test.YtmfpjapiijgdgaaGreatV07
import Derived.Test.YtmfpjapiijgdgaaGreatV08
import Derived.Test.YtmfpjapiijgdgaaGreatV09
import Derived.Test.YtmfpjapiijgdgaaGreatV10
import Derived.Test.YtmfpjapiijgdgaaGreatV11
import Derived.Test.YtmfpjapiijgdgaaGreatV12
namespace Go.Proofs.YtmfpjapiijgdgaaGreat
open Go.RowKit Go.Proofs
set_option linter.unusedVariables false
set_option maxRecDepth 100000
set_option maxRecDepth 100000
def IsPut {α : Type} (key : α → ByteArray) (l : List α) (p : α) (L : List α) : Prop :=
 ∃ k, l.findIdx (fun x => decide (0 ≤ cmpS (key x) (key p))) = k ∧ ((L = l.take k ++ p :: l.drop k ∧ ∀ h : k < l.length, key l[k] ≠ key p) ∨ (∃ h : k < l.length, key l[k] = key p ∧ L = l.take k ++ p :: l.drop (k + 1)))
set_option maxHeartbeats 8000000 in
theorem put_core_us (a : Option Addr) (c : Nat) (l : List UsL) (p : UsL) (w : World) (hr : UsSl w a l) (hc : Cp a l.length c) (hl : l.length ≤ 1000) :
  Calls Tryz.prog 230 #[.slice a l.length c, .agg #[.string p.u, .slice p.a p.l.length p.c], .func (.func 117) #[] #[]] w fun e w' => ∃ v L, e = .returned v ∧ w'.ownsRow w.heap.size 108 2 v (L.map usp).length (pps (L.map usp)) ∧ IsPut UsL.u l p L ∧ Below w.heap.size w w' := by
 have hb := below_two w (.cells #[.string p.u, .slice p.a p.l.length p.c] 108) (.cells #[.func (.func 117) #[] #[]] 187)
 have K0 : Ptus w (w.heap.size + 1) w.heap.size p a l ((w.alloc (.cells #[.string p.u, .slice p.a p.l.length p.c] 108)).alloc (.cells #[.func (.func 117) #[] #[]] 187)) := ⟨⟨by have := cell_of_row ((w.alloc (.cells #[.string p.u, .slice p.a p.l.length p.c] 108)).alloc (.cells #[.func (.func 117) #[] #[]] 187)) (w.alloc (.cells #[.string p.u, .slice p.a p.l.length p.c] 108)).heap.size 0 _ _ (0, 0) (heap_alloc_new _ _); rw [size1] at this; exact this, by rw [size1, size1]; omega⟩, ((below_one _ (.cells #[.func (.func 117) #[] #[]] 187)).block _ (by rw [size1]; omega)).trans (heap_alloc_new w _), hr.row.below hb, hb⟩
 have HF := Lib.hid (find_us2 a c l 257 (w.heap.size + 1) w.heap.size (fun x => decide (0 ≤ cmpS (UsL.u x) (UsL.u p))) (fun V => Ptus w (w.heap.size + 1) w.heap.size p a l V) ((w.alloc (.cells #[.string p.u, .slice p.a p.l.length p.c] 108)).alloc (.cells #[.func (.func 117) #[] #[]] 187)) (hr.below hb) K0 (by omega) (call_known Tryz.func257 rfl) (fun W W' h q => h.below q) (fun x hx V _ h => c_put_us x p (w.heap.size + 1) w.heap.size V h.f h.p))
 have HIP : Hid (∀ L, ((L = l.take (l.findIdx (fun x => decide (0 ≤ cmpS (UsL.u x) (UsL.u p)))) ++ p :: l.drop (l.findIdx (fun x => decide (0 ≤ cmpS (UsL.u x) (UsL.u p)))) ∧ ∀ h : (l.findIdx (fun x => decide (0 ≤ cmpS (UsL.u x) (UsL.u p)))) < l.length, UsL.u l[l.findIdx (fun x => decide (0 ≤ cmpS (UsL.u x) (UsL.u p)))] ≠ UsL.u p) ∨ (∃ h : (l.findIdx (fun x => decide (0 ≤ cmpS (UsL.u x) (UsL.u p)))) < l.length, UsL.u l[l.findIdx (fun x => decide (0 ≤ cmpS (UsL.u x) (UsL.u p)))] = UsL.u p ∧ L = l.take (l.findIdx (fun x => decide (0 ≤ cmpS (UsL.u x) (UsL.u p)))) ++ p :: l.drop (l.findIdx (fun x => decide (0 ≤ cmpS (UsL.u x) (UsL.u p))) + 1))) → IsPut UsL.u l p L) := fun L h => ⟨_, rfl, h⟩
 have hjl : l.findIdx (fun x => decide (0 ≤ cmpS (UsL.u x) (UsL.u p))) ≤ l.length := List.findIdx_le_length
 have hcl := hc.le
 have hcm := hc.mx
 have HNil := Lib.hid hc.nil
 have HU := Lib.hid userName_any
 have HK0 := Lib.hid K0
 unfold maxLen at hcm
 clear hr hc hb K0
 generalize l.findIdx (fun x => decide (0 ≤ cmpS (UsL.u x) (UsL.u p))) = j at *
 have HSB : Hid (∀ W, Ptus w (w.heap.size + 1) w.heap.size p a l W → W.cell? ⟨w.heap.size + 1, 0, none⟩ = some (.func (.func 117) #[] #[]) ∧ W.cell? ⟨w.heap.size, 0, none⟩ = some (.string p.u) ∧ W.cell? ⟨w.heap.size, 1, none⟩ = some (.slice p.a p.l.length p.c)) := fun W h => h.cells
 go_enter Tryz.func230, Tryz.ntmps230
 go_wp2_with fail
 refine HF.out.mono ?_
 rintro e w2 ⟨rfl, hB2⟩
 have HK := Lib.hid (HK0.out.below hB2)
 clear hB2 HF HK0
 by_cases hjl2 : j < l.length
 ·obtain ⟨b, off, rfl, -, -, -⟩ := HK.out.row.at_ (k := j) (by rw [List.length_map]; exact hjl2)
  have hcj : ¬ c = j := by omega
  have hcj2 : j < c := by omega
  have HP0 : Hid (∀ W, Ptus w (w.heap.size + 1) w.heap.size p (some ⟨b, off, none⟩) l W → W.cell? ⟨w.heap.size + 1, 0, none⟩ = some (.func (.func 117) #[] #[]) ∧ W.cell? ⟨w.heap.size, 0, none⟩ = some (.string p.u) ∧ W.cell? ⟨w.heap.size, 1, none⟩ = some (.slice p.a p.l.length p.c) ∧ W.cell? ⟨b, off + j * 2, none⟩ = some (.string l[j].u) ∧ W.cell? ⟨b, off + j * 2 + 1, none⟩ = some (.slice l[j].a l[j].l.length l[j].c)) := fun W h => ⟨h.f.1, (pcell2 h.p).1, (pcell2 h.p).2, (h.at_ hjl2).1, (h.at_ hjl2).2⟩
  have hpos : decide (0 < l.length - j) = true := decide_eq_true (by omega)
  have hposI : (0 : Int) < ((l.length - j : Nat) : Int) := by omega
  have hposN : 0 < l.length - j := by omega
  have K1 := HK.out.below (Below.refl _ _).drew
  have hpc : j ≤ c := by omega
  have hz1 : (0 : Int) ≤ (j : Int) := by omega
  have hz2 : (j : Int) ≤ (l.length : Int) := by omega
  have hz3 : (j : Int) ≤ (c : Int) := by omega
  have hz4 : (l.length : Int) ≤ (c : Int) := by omega
  by_cases he : UsL.u l[j] = UsL.u p
  ·have HIQ := Lib.hid (HIP.out _ (.inr ⟨hjl2, he, rfl⟩))
   have hq : ((UsL.u l[j]).toList == (UsL.u p).toList) = true := by rw [he]; exact txt_eq _
   have HAC : Hid (∀ W (g1 g2 T : Nat) (x y : Option Addr) (n1 c1 n2 c2 : Nat), PpSl W (some ⟨b, off, none⟩) (l.map usp) → g1 = W.heap.size → g2 = W.heap.size + 1 → n1 = j → n2 = l.length - (j + 1) → (n1 = 0 ∨ x = some ⟨b, off, none⟩) → (x = none → c1 = 0) → (n2 = 0 ∨ ∃ b2 off2, (some ⟨b, off, none⟩ : Option Addr) = some ⟨b2, off2, none⟩ ∧ y = some ⟨b2, off2 + (j + 1) * 2, none⟩) → (y = none → c2 = 0) →
     Calls Tryz.prog 258 #[.slice (some ⟨g2, 0, none⟩) 3 3] ((W.alloc (.cells #[.string p.u, .slice p.a p.l.length p.c] 108)).alloc (.cells #[.slice x n1 c1, .slice (some ⟨g1, 0, none⟩) 1 1, .slice y n2 c2] T)).drew fun e w' => ∃ v, e = .returned v ∧ w'.ownsRow W.heap.size 108 2 v ((l.take j ++ p :: l.drop (j + 1)).map usp).length (pps ((l.take j ++ p :: l.drop (j + 1)).map usp)) ∧ Below W.heap.size W w') := fun W g1 g2 T x y n1 c1 n2 c2 hs e1 e2 q1 q2 q3 q4 q5 q6 => by
    have hA : PpSl W x ((l.take j).map usp) := by
     rw [List.map_take]
     rcases q3 with q3 | q3
     ·have : j = 0 := by omega
      subst this
      rw [List.take_zero]
      exact PpSl.nil _ _
     ·rw [q3]; exact hs.take j
    have hB : PpSl W y ((l.drop ((j + 1))).map usp) := by
     rw [List.map_drop]
     rcases q5 with q5 | ⟨b, off, q5, q7⟩
     ·rw [List.drop_of_length_le (by rw [List.length_map]; omega)]
      exact PpSl.nil _ _
     ·cases q5; rw [q7]; exact hs.drop ((j + 1))
    have h := pconcat3_us x y ((l.take j).map usp) ((l.drop ((j + 1))).map usp) c1 c2 n1 n2 (.string p.u) (.slice p.a p.l.length p.c) rfl rfl W g1 g2 T (by rw [List.length_map, List.length_take]; omega) (by rw [List.length_map, List.length_drop]; omega) hA hB (by exact usp_one _) (by exact usp_one _) q4 q6 e1 e2 (by rw [List.length_map, List.length_map, List.length_take, List.length_drop]; omega)
    have e0 : ((l.take j ++ p :: l.drop (j + 1))).map usp = (l.take j).map usp ++ (.string p.u, .slice p.a p.l.length p.c) :: (l.drop ((j + 1))).map usp := by rw [List.map_append, List.map_cons]; rfl
    rw [e0]
    exact h
   clear he HIP
   have he2 : (UsL.u l[j]).toList = (UsL.u p).toList := by simpa using hq
   generalize l[j] = x at *
   go_wp2_with fail
   go_region_held3 (fun W => W.cell? ⟨w.heap.size + 1, 0, none⟩ = some (.func (.func 117) #[] #[]) ∧ W.cell? ⟨w.heap.size, 0, none⟩ = some (.string p.u) ∧ W.cell? ⟨w.heap.size, 1, none⟩ = some (.slice p.a p.l.length p.c) ∧ W.cell? ⟨b, off + j * 2, none⟩ = some (.string x.u) ∧ W.cell? ⟨b, off + j * 2 + 1, none⟩ = some (.slice x.a x.l.length x.c))
    (first | exact HP0.out _ K3 | exact HP0.out _ K2 | exact HP0.out _ K1)
    (first | (have hseen := K2; clear hseen; go_at_call 117; refine (HU.out _ _ _ _ _).mono ?_; rintro e w4 ⟨rfl, h4⟩; have K3 := K2.below h4) | (have hseen := K1; clear hseen; go_at_call 117; refine (HU.out _ _ _ _ _).mono ?_; rintro e w3 ⟨rfl, h3⟩; have K2 := K1.below h3))
   have K4 := K3
   have KD := K4.below (Below.refl _ _).drew
   clear HP0 K1 K2 hpos hposI hposN
   by_cases hc1 : c - j = 1
   ·have hl1 : l.length - j = 1 := by omega
    go_wp2_with fail
    go_region_held3 (fun W => W.cell? ⟨w.heap.size + 1, 0, none⟩ = some (.func (.func 117) #[] #[]) ∧ W.cell? ⟨w.heap.size, 0, none⟩ = some (.string p.u) ∧ W.cell? ⟨w.heap.size, 1, none⟩ = some (.slice p.a p.l.length p.c))
     (first | with_reducible exact HSB.out _ (KD.below (below_one _ _)) | with_reducible exact HSB.out _ ((KD.below (below_one _ _)).below (below_one _ _)) | with_reducible exact HSB.out _ KD | with_reducible exact HSB.out _ KE)
     (first | (go_at_call 258; refine Calls.mono (HAC.out _ _ _ _ _ _ _ _ _ _ K4.row rfl rfl ?_ ?_ ?_ ?_ ?_ ?_) ?_; omega; omega; (first | exact Or.inr rfl | (refine Or.inl ?_; omega)); (intro h; first | rfl | cases h); (first | (refine Or.inl ?_; omega) | (refine Or.inr ⟨_, _, rfl, congrArg (fun o => some (Addr.mk _ o none)) ?_⟩; omega)); (intro h; first | rfl | cases h); rintro e w5 ⟨v, rfl, ho5, hb5⟩; have KE := K4.below hb5; have HO5 := Lib.hid ho5; have HB5 := Lib.hid hb5; clear ho5 hb5))
    go_wp2
    go_ret
    exact ⟨v, _, rfl, own_low2 HO5.out K4.frame.size, HIQ.out, KE.frame⟩
   ·have hc2 : 1 < c - j := by omega
    go_wp2_with fail
    go_region_held3 (fun W => W.cell? ⟨w.heap.size + 1, 0, none⟩ = some (.func (.func 117) #[] #[]) ∧ W.cell? ⟨w.heap.size, 0, none⟩ = some (.string p.u) ∧ W.cell? ⟨w.heap.size, 1, none⟩ = some (.slice p.a p.l.length p.c))
     (first | with_reducible exact HSB.out _ (KD.below (below_one _ _)) | with_reducible exact HSB.out _ ((KD.below (below_one _ _)).below (below_one _ _)) | with_reducible exact HSB.out _ KD | with_reducible exact HSB.out _ KE)
     (first | (go_at_call 258; refine Calls.mono (HAC.out _ _ _ _ _ _ _ _ _ _ K4.row rfl rfl ?_ ?_ ?_ ?_ ?_ ?_) ?_; omega; omega; (first | exact Or.inr rfl | (refine Or.inl ?_; omega)); (intro h; first | rfl | cases h); (first | (refine Or.inl ?_; omega) | (refine Or.inr ⟨_, _, rfl, congrArg (fun o => some (Addr.mk _ o none)) ?_⟩; omega)); (intro h; first | rfl | cases h); rintro e w5 ⟨v, rfl, ho5, hb5⟩; have KE := K4.below hb5; have HO5 := Lib.hid ho5; have HB5 := Lib.hid hb5; clear ho5 hb5))
    go_wp2
    go_ret
    exact ⟨v, _, rfl, own_low2 HO5.out K4.frame.size, HIQ.out, KE.frame⟩
  ·have HIQ := Lib.hid (HIP.out _ (.inl ⟨rfl, fun _ => he⟩))
   have hq : ((UsL.u l[j]).toList == (UsL.u p).toList) = false := txt_ne he
   have HAC : Hid (∀ W (g1 g2 T : Nat) (x y : Option Addr) (n1 c1 n2 c2 : Nat), PpSl W (some ⟨b, off, none⟩) (l.map usp) → g1 = W.heap.size → g2 = W.heap.size + 1 → n1 = j → n2 = l.length - j → (n1 = 0 ∨ x = some ⟨b, off, none⟩) → (x = none → c1 = 0) → (n2 = 0 ∨ ∃ b2 off2, (some ⟨b, off, none⟩ : Option Addr) = some ⟨b2, off2, none⟩ ∧ y = some ⟨b2, off2 + j * 2, none⟩) → (y = none → c2 = 0) →
     Calls Tryz.prog 258 #[.slice (some ⟨g2, 0, none⟩) 3 3] ((W.alloc (.cells #[.string p.u, .slice p.a p.l.length p.c] 108)).alloc (.cells #[.slice x n1 c1, .slice (some ⟨g1, 0, none⟩) 1 1, .slice y n2 c2] T)).drew fun e w' => ∃ v, e = .returned v ∧ w'.ownsRow W.heap.size 108 2 v ((l.take j ++ p :: l.drop j).map usp).length (pps ((l.take j ++ p :: l.drop j).map usp)) ∧ Below W.heap.size W w') := fun W g1 g2 T x y n1 c1 n2 c2 hs e1 e2 q1 q2 q3 q4 q5 q6 => by
    have hA : PpSl W x ((l.take j).map usp) := by
     rw [List.map_take]
     rcases q3 with q3 | q3
     ·have : j = 0 := by omega
      subst this
      rw [List.take_zero]
      exact PpSl.nil _ _
     ·rw [q3]; exact hs.take j
    have hB : PpSl W y ((l.drop (j)).map usp) := by
     rw [List.map_drop]
     rcases q5 with q5 | ⟨b, off, q5, q7⟩
     ·rw [List.drop_of_length_le (by rw [List.length_map]; omega)]
      exact PpSl.nil _ _
     ·cases q5; rw [q7]; exact hs.drop (j)
    have h := pconcat3_us x y ((l.take j).map usp) ((l.drop (j)).map usp) c1 c2 n1 n2 (.string p.u) (.slice p.a p.l.length p.c) rfl rfl W g1 g2 T (by rw [List.length_map, List.length_take]; omega) (by rw [List.length_map, List.length_drop]; omega) hA hB (by exact usp_one _) (by exact usp_one _) q4 q6 e1 e2 (by rw [List.length_map, List.length_map, List.length_take, List.length_drop]; omega)
    have e0 : ((l.take j ++ p :: l.drop j)).map usp = (l.take j).map usp ++ (.string p.u, .slice p.a p.l.length p.c) :: (l.drop (j)).map usp := by rw [List.map_append, List.map_cons]; rfl
    rw [e0]
    exact h
   clear he HIP
   generalize l[j] = x at *
   go_wp2_with fail
   go_region_held3 (fun W => W.cell? ⟨w.heap.size + 1, 0, none⟩ = some (.func (.func 117) #[] #[]) ∧ W.cell? ⟨w.heap.size, 0, none⟩ = some (.string p.u) ∧ W.cell? ⟨w.heap.size, 1, none⟩ = some (.slice p.a p.l.length p.c) ∧ W.cell? ⟨b, off + j * 2, none⟩ = some (.string x.u) ∧ W.cell? ⟨b, off + j * 2 + 1, none⟩ = some (.slice x.a x.l.length x.c))
    (first | exact HP0.out _ K3 | exact HP0.out _ K2 | exact HP0.out _ K1)
    (first | (have hseen := K2; clear hseen; go_at_call 117; refine (HU.out _ _ _ _ _).mono ?_; rintro e w4 ⟨rfl, h4⟩; have K3 := K2.below h4) | (have hseen := K1; clear hseen; go_at_call 117; refine (HU.out _ _ _ _ _).mono ?_; rintro e w3 ⟨rfl, h3⟩; have K2 := K1.below h3))
   have K4 := K3
   have KD := K4.below (Below.refl _ _).drew
   clear HP0 K1 K2 hpos hposI hposN
   go_wp2_with fail
   go_region_held3 (fun W => W.cell? ⟨w.heap.size + 1, 0, none⟩ = some (.func (.func 117) #[] #[]) ∧ W.cell? ⟨w.heap.size, 0, none⟩ = some (.string p.u) ∧ W.cell? ⟨w.heap.size, 1, none⟩ = some (.slice p.a p.l.length p.c))
    (first | with_reducible exact HSB.out _ (KD.below (below_one _ _)) | with_reducible exact HSB.out _ ((KD.below (below_one _ _)).below (below_one _ _)) | with_reducible exact HSB.out _ KD | with_reducible exact HSB.out _ KE)
    (first | (go_at_call 258; refine Calls.mono (HAC.out _ _ _ _ _ _ _ _ _ _ K4.row rfl rfl ?_ ?_ ?_ ?_ ?_ ?_) ?_; omega; omega; (first | exact Or.inr rfl | (refine Or.inl ?_; omega)); (intro h; first | rfl | cases h); (first | (refine Or.inl ?_; omega) | (refine Or.inr ⟨_, _, rfl, congrArg (fun o => some (Addr.mk _ o none)) ?_⟩; omega)); (intro h; first | rfl | cases h); rintro e w5 ⟨v, rfl, ho5, hb5⟩; have KE := K4.below hb5; have HO5 := Lib.hid ho5; have HB5 := Lib.hid hb5; clear ho5 hb5))
   go_wp2
   go_ret
   exact ⟨v, _, rfl, own_low2 HO5.out K4.frame.size, HIQ.out, KE.frame⟩
 ·have hje : j = l.length := by omega
  have HIQ := Lib.hid (HIP.out _ (.inl ⟨rfl, fun h => absurd h hjl2⟩))
  subst hje
  have hln : l.length - l.length = 0 := Nat.sub_self _
  have HAC : Hid (∀ W (g1 g2 T : Nat) (x y : Option Addr) (n1 c1 n2 c2 : Nat), PpSl W a (l.map usp) → g1 = W.heap.size → g2 = W.heap.size + 1 → n1 = l.length → n2 = l.length - l.length → (n1 = 0 ∨ x = a) → (x = none → c1 = 0) → (n2 = 0 ∨ ∃ b off, a = some ⟨b, off, none⟩ ∧ y = some ⟨b, off + l.length * 2, none⟩) → (y = none → c2 = 0) →
    Calls Tryz.prog 258 #[.slice (some ⟨g2, 0, none⟩) 3 3] ((W.alloc (.cells #[.string p.u, .slice p.a p.l.length p.c] 108)).alloc (.cells #[.slice x n1 c1, .slice (some ⟨g1, 0, none⟩) 1 1, .slice y n2 c2] T)).drew fun e w' => ∃ v, e = .returned v ∧ w'.ownsRow W.heap.size 108 2 v ((l.take l.length ++ p :: l.drop l.length).map usp).length (pps ((l.take l.length ++ p :: l.drop l.length).map usp)) ∧ Below W.heap.size W w') := fun W g1 g2 T x y n1 c1 n2 c2 hs e1 e2 q1 q2 q3 q4 q5 q6 => by
   have hA : PpSl W x ((l.take l.length).map usp) := by
    rw [List.map_take]
    rcases q3 with q3 | q3
    ·have h0 : l.length = 0 := by omega
     have h1 : l = [] := List.eq_nil_of_length_eq_zero h0
     subst h1
     exact PpSl.nil _ _
    ·rw [q3]; exact hs.take l.length
   have hB : PpSl W y ((l.drop (l.length)).map usp) := by
    rw [List.map_drop]
    rcases q5 with q5 | ⟨b, off, q5, q7⟩
    ·rw [List.drop_of_length_le (by rw [List.length_map]; omega)]
     exact PpSl.nil _ _
    ·rw [q7]; rw [q5] at hs; exact hs.drop (l.length)
   have h := pconcat3_us x y ((l.take l.length).map usp) ((l.drop (l.length)).map usp) c1 c2 n1 n2 (.string p.u) (.slice p.a p.l.length p.c) rfl rfl W g1 g2 T (by rw [List.length_map, List.length_take]; omega) (by rw [List.length_map, List.length_drop]; omega) hA hB (by exact usp_one _) (by exact usp_one _) q4 q6 e1 e2 (by rw [List.length_map, List.length_map, List.length_take, List.length_drop]; omega)
   have e0 : ((l.take l.length ++ p :: l.drop l.length)).map usp = (l.take l.length).map usp ++ (.string p.u, .slice p.a p.l.length p.c) :: (l.drop (l.length)).map usp := by rw [List.map_append, List.map_cons]; rfl
   rw [e0]
   exact h
  clear HIP hjl2
  have K1 := HK.out
  have hz0 : (0 : Int) ≤ (l.length : Int) := by omega
  have hz4 : (l.length : Int) ≤ (c : Int) := by omega
  cases a with
  | none =>
   have hc0 := HNil.out rfl
   subst hc0
   have hl0 : l = [] := List.eq_nil_of_length_eq_zero (by omega)
   subst hl0
   go_wp2_with fail
   go_quiet (fail)
   have K4 := K1.below (Drew.below (w := w2) (w' := w2.drewN nq) ⟨nq, rfl⟩ _)
   generalize w2.drewN nq = w4 at *
   have KD := K4.below (Below.refl _ _).drew
   go_wp2_with fail
   go_region_held3 (fun W => W.cell? ⟨w.heap.size + 1, 0, none⟩ = some (.func (.func 117) #[] #[]) ∧ W.cell? ⟨w.heap.size, 0, none⟩ = some (.string p.u) ∧ W.cell? ⟨w.heap.size, 1, none⟩ = some (.slice p.a p.l.length p.c))
    (first | with_reducible exact HSB.out _ (KD.below (below_one _ _)) | with_reducible exact HSB.out _ ((KD.below (below_one _ _)).below (below_one _ _)) | with_reducible exact HSB.out _ KD | with_reducible exact HSB.out _ KE)
    (first | (go_at_call 258; refine Calls.mono (HAC.out _ _ _ _ _ _ _ _ _ _ K4.row rfl rfl ?_ ?_ ?_ ?_ ?_ ?_) ?_; omega; omega; (first | exact Or.inr rfl | (refine Or.inl ?_; omega)); (intro h; first | rfl | cases h); (first | (refine Or.inl ?_; omega) | (refine Or.inr ⟨_, _, rfl, congrArg (fun o => some (Addr.mk _ o none)) ?_⟩; omega)); (intro h; first | rfl | cases h); rintro e w5 ⟨v, rfl, ho5, hb5⟩; have KE := K4.below hb5; have HO5 := Lib.hid ho5; have HB5 := Lib.hid hb5; clear ho5 hb5))
   go_wp2
   go_ret
   exact ⟨v, _, rfl, own_low2 HO5.out K4.frame.size, HIQ.out, KE.frame⟩
  | some ad =>
   by_cases hcj : c = l.length
   ·subst hcj
    go_wp2_with fail
    go_quiet (fail)
    have K4 := K1.below (Drew.below (w := w2) (w' := w2.drewN nq) ⟨nq, rfl⟩ _)
    generalize w2.drewN nq = w4 at *
    have KD := K4.below (Below.refl _ _).drew
    go_wp2_with fail
    go_region_held3 (fun W => W.cell? ⟨w.heap.size + 1, 0, none⟩ = some (.func (.func 117) #[] #[]) ∧ W.cell? ⟨w.heap.size, 0, none⟩ = some (.string p.u) ∧ W.cell? ⟨w.heap.size, 1, none⟩ = some (.slice p.a p.l.length p.c))
     (first | with_reducible exact HSB.out _ (KD.below (below_one _ _)) | with_reducible exact HSB.out _ ((KD.below (below_one _ _)).below (below_one _ _)) | with_reducible exact HSB.out _ KD | with_reducible exact HSB.out _ KE)
     (first | (go_at_call 258; refine Calls.mono (HAC.out _ _ _ _ _ _ _ _ _ _ K4.row rfl rfl ?_ ?_ ?_ ?_ ?_ ?_) ?_; omega; omega; (first | exact Or.inr rfl | (refine Or.inl ?_; omega)); (intro h; first | rfl | cases h); (first | (refine Or.inl ?_; omega) | (refine Or.inr ⟨_, _, rfl, congrArg (fun o => some (Addr.mk _ o none)) ?_⟩; omega)); (intro h; first | rfl | cases h); rintro e w5 ⟨v, rfl, ho5, hb5⟩; have KE := K4.below hb5; have HO5 := Lib.hid ho5; have HB5 := Lib.hid hb5; clear ho5 hb5))
    go_wp2
    go_ret
    exact ⟨v, _, rfl, own_low2 HO5.out K4.frame.size, HIQ.out, KE.frame⟩
   ·have hcj2 : l.length < c := by omega
    go_wp2_with fail
    go_quiet (fail)
    have K4 := K1.below (Drew.below (w := w2) (w' := w2.drewN nq) ⟨nq, rfl⟩ _)
    generalize w2.drewN nq = w4 at *
    have KD := K4.below (Below.refl _ _).drew
    go_wp2_with fail
    go_region_held3 (fun W => W.cell? ⟨w.heap.size + 1, 0, none⟩ = some (.func (.func 117) #[] #[]) ∧ W.cell? ⟨w.heap.size, 0, none⟩ = some (.string p.u) ∧ W.cell? ⟨w.heap.size, 1, none⟩ = some (.slice p.a p.l.length p.c))
     (first | with_reducible exact HSB.out _ (KD.below (below_one _ _)) | with_reducible exact HSB.out _ ((KD.below (below_one _ _)).below (below_one _ _)) | with_reducible exact HSB.out _ KD | with_reducible exact HSB.out _ KE)
     (first | (go_at_call 258; refine Calls.mono (HAC.out _ _ _ _ _ _ _ _ _ _ K4.row rfl rfl ?_ ?_ ?_ ?_ ?_ ?_) ?_; omega; omega; (first | exact Or.inr rfl | (refine Or.inl ?_; omega)); (intro h; first | rfl | cases h); (first | (refine Or.inl ?_; omega) | (refine Or.inr ⟨_, _, rfl, congrArg (fun o => some (Addr.mk _ o none)) ?_⟩; omega)); (intro h; first | rfl | cases h); rintro e w5 ⟨v, rfl, ho5, hb5⟩; have KE := K4.below hb5; have HO5 := Lib.hid ho5; have HB5 := Lib.hid hb5; clear ho5 hb5))
    go_wp2
    go_ret
    exact ⟨v, _, rfl, own_low2 HO5.out K4.frame.size, HIQ.out, KE.frame⟩
set_option maxHeartbeats 8000000 in
theorem put_core_tb (a : Option Addr) (c : Nat) (l : List TbM) (p : TbM) (w : World) (hr : TbSl w a l) (hc : Cp a l.length c) (hl : l.length ≤ 1000) :
  Calls Tryz.prog 239 #[.slice a l.length c, .agg #[.string p.u, .int .i64 p.a], .func (.func 126) #[] #[]] w fun e w' => ∃ v L, e = .returned v ∧ w'.ownsRow w.heap.size 141 2 v (L.map tbp).length (pps (L.map tbp)) ∧ IsPut TbM.u l p L ∧ Below w.heap.size w w' := by
 have hb := below_two w (.cells #[.string p.u, .int .i64 p.a] 141) (.cells #[.func (.func 126) #[] #[]] 196)
 have K0 : Pttb w (w.heap.size + 1) w.heap.size p a l ((w.alloc (.cells #[.string p.u, .int .i64 p.a] 141)).alloc (.cells #[.func (.func 126) #[] #[]] 196)) := ⟨⟨by have := cell_of_row ((w.alloc (.cells #[.string p.u, .int .i64 p.a] 141)).alloc (.cells #[.func (.func 126) #[] #[]] 196)) (w.alloc (.cells #[.string p.u, .int .i64 p.a] 141)).heap.size 0 _ _ (0, 0) (heap_alloc_new _ _); rw [size1] at this; exact this, by rw [size1, size1]; omega⟩, ((below_one _ (.cells #[.func (.func 126) #[] #[]] 196)).block _ (by rw [size1]; omega)).trans (heap_alloc_new w _), hr.below hb, hb⟩
 have HF := Lib.hid (find_tb2 a c l 266 (w.heap.size + 1) w.heap.size (fun x => decide (0 ≤ cmpS (TbM.u x) (TbM.u p))) (fun V => Pttb w (w.heap.size + 1) w.heap.size p a l V) ((w.alloc (.cells #[.string p.u, .int .i64 p.a] 141)).alloc (.cells #[.func (.func 126) #[] #[]] 196)) (hr.below hb) K0 (by omega) (call_known Tryz.func266 rfl) (fun W W' h q => h.below q) (fun x hx V h => c_put_tb x p (w.heap.size + 1) w.heap.size V h.f h.p))
 have HIP : Hid (∀ L, ((L = l.take (l.findIdx (fun x => decide (0 ≤ cmpS (TbM.u x) (TbM.u p)))) ++ p :: l.drop (l.findIdx (fun x => decide (0 ≤ cmpS (TbM.u x) (TbM.u p)))) ∧ ∀ h : (l.findIdx (fun x => decide (0 ≤ cmpS (TbM.u x) (TbM.u p)))) < l.length, TbM.u l[l.findIdx (fun x => decide (0 ≤ cmpS (TbM.u x) (TbM.u p)))] ≠ TbM.u p) ∨ (∃ h : (l.findIdx (fun x => decide (0 ≤ cmpS (TbM.u x) (TbM.u p)))) < l.length, TbM.u l[l.findIdx (fun x => decide (0 ≤ cmpS (TbM.u x) (TbM.u p)))] = TbM.u p ∧ L = l.take (l.findIdx (fun x => decide (0 ≤ cmpS (TbM.u x) (TbM.u p)))) ++ p :: l.drop (l.findIdx (fun x => decide (0 ≤ cmpS (TbM.u x) (TbM.u p))) + 1))) → IsPut TbM.u l p L) := fun L h => ⟨_, rfl, h⟩
 have hjl : l.findIdx (fun x => decide (0 ≤ cmpS (TbM.u x) (TbM.u p))) ≤ l.length := List.findIdx_le_length
 have hcl := hc.le
 have hcm := hc.mx
 have HNil := Lib.hid hc.nil
 have HU := Lib.hid tombName_any
 have HK0 := Lib.hid K0
 unfold maxLen at hcm
 clear hr hc hb K0
 generalize l.findIdx (fun x => decide (0 ≤ cmpS (TbM.u x) (TbM.u p))) = j at *
 have HSB : Hid (∀ W, Pttb w (w.heap.size + 1) w.heap.size p a l W → W.cell? ⟨w.heap.size + 1, 0, none⟩ = some (.func (.func 126) #[] #[]) ∧ W.cell? ⟨w.heap.size, 0, none⟩ = some (.string p.u) ∧ W.cell? ⟨w.heap.size, 1, none⟩ = some (.int .i64 p.a)) := fun W h => h.cells
 go_enter Tryz.func239, Tryz.ntmps239
 go_wp2_with fail
 refine HF.out.mono ?_
 rintro e w2 ⟨rfl, hB2⟩
 have HK := Lib.hid (HK0.out.below hB2)
 clear hB2 HF HK0
 by_cases hjl2 : j < l.length
 ·obtain ⟨b, off, rfl, -, -, -⟩ := HK.out.row.at_ (k := j) (by rw [List.length_map]; exact hjl2)
  have hcj : ¬ c = j := by omega
  have hcj2 : j < c := by omega
  have HP0 : Hid (∀ W, Pttb w (w.heap.size + 1) w.heap.size p (some ⟨b, off, none⟩) l W → W.cell? ⟨w.heap.size + 1, 0, none⟩ = some (.func (.func 126) #[] #[]) ∧ W.cell? ⟨w.heap.size, 0, none⟩ = some (.string p.u) ∧ W.cell? ⟨w.heap.size, 1, none⟩ = some (.int .i64 p.a) ∧ W.cell? ⟨b, off + j * 2, none⟩ = some (.string l[j].u) ∧ W.cell? ⟨b, off + j * 2 + 1, none⟩ = some (.int .i64 l[j].a)) := fun W h => ⟨h.f.1, (pcell2 h.p).1, (pcell2 h.p).2, (h.at_ hjl2).1, (h.at_ hjl2).2⟩
  have hpos : decide (0 < l.length - j) = true := decide_eq_true (by omega)
  have hposI : (0 : Int) < ((l.length - j : Nat) : Int) := by omega
  have hposN : 0 < l.length - j := by omega
  have K1 := HK.out.below (Below.refl _ _).drew
  have hpc : j ≤ c := by omega
  have hz1 : (0 : Int) ≤ (j : Int) := by omega
  have hz2 : (j : Int) ≤ (l.length : Int) := by omega
  have hz3 : (j : Int) ≤ (c : Int) := by omega
  have hz4 : (l.length : Int) ≤ (c : Int) := by omega
  by_cases he : TbM.u l[j] = TbM.u p
  ·have HIQ := Lib.hid (HIP.out _ (.inr ⟨hjl2, he, rfl⟩))
   have hq : ((TbM.u l[j]).toList == (TbM.u p).toList) = true := by rw [he]; exact txt_eq _
   have HAC : Hid (∀ W (g1 g2 T : Nat) (x y : Option Addr) (n1 c1 n2 c2 : Nat), PpSl W (some ⟨b, off, none⟩) (l.map tbp) → g1 = W.heap.size → g2 = W.heap.size + 1 → n1 = j → n2 = l.length - (j + 1) → (n1 = 0 ∨ x = some ⟨b, off, none⟩) → (x = none → c1 = 0) → (n2 = 0 ∨ ∃ b2 off2, (some ⟨b, off, none⟩ : Option Addr) = some ⟨b2, off2, none⟩ ∧ y = some ⟨b2, off2 + (j + 1) * 2, none⟩) → (y = none → c2 = 0) →
     Calls Tryz.prog 267 #[.slice (some ⟨g2, 0, none⟩) 3 3] ((W.alloc (.cells #[.string p.u, .int .i64 p.a] 141)).alloc (.cells #[.slice x n1 c1, .slice (some ⟨g1, 0, none⟩) 1 1, .slice y n2 c2] T)).drew fun e w' => ∃ v, e = .returned v ∧ w'.ownsRow W.heap.size 141 2 v ((l.take j ++ p :: l.drop (j + 1)).map tbp).length (pps ((l.take j ++ p :: l.drop (j + 1)).map tbp)) ∧ Below W.heap.size W w') := fun W g1 g2 T x y n1 c1 n2 c2 hs e1 e2 q1 q2 q3 q4 q5 q6 => by
    have hA : PpSl W x ((l.take j).map tbp) := by
     rw [List.map_take]
     rcases q3 with q3 | q3
     ·have : j = 0 := by omega
      subst this
      rw [List.take_zero]
      exact PpSl.nil _ _
     ·rw [q3]; exact hs.take j
    have hB : PpSl W y ((l.drop ((j + 1))).map tbp) := by
     rw [List.map_drop]
     rcases q5 with q5 | ⟨b, off, q5, q7⟩
     ·rw [List.drop_of_length_le (by rw [List.length_map]; omega)]
      exact PpSl.nil _ _
     ·cases q5; rw [q7]; exact hs.drop ((j + 1))
    have h := pconcat3_tb x y ((l.take j).map tbp) ((l.drop ((j + 1))).map tbp) c1 c2 n1 n2 (.string p.u) (.int .i64 p.a) rfl rfl W g1 g2 T (by rw [List.length_map, List.length_take]; omega) (by rw [List.length_map, List.length_drop]; omega) hA hB (by exact tbp_one _) (by exact tbp_one _) q4 q6 e1 e2 (by rw [List.length_map, List.length_map, List.length_take, List.length_drop]; omega)
    have e0 : ((l.take j ++ p :: l.drop (j + 1))).map tbp = (l.take j).map tbp ++ (.string p.u, .int .i64 p.a) :: (l.drop ((j + 1))).map tbp := by rw [List.map_append, List.map_cons]; rfl
    rw [e0]
    exact h
   clear he HIP
   have he2 : (TbM.u l[j]).toList = (TbM.u p).toList := by simpa using hq
   generalize l[j] = x at *
   go_wp2_with fail
   go_region_held3 (fun W => W.cell? ⟨w.heap.size + 1, 0, none⟩ = some (.func (.func 126) #[] #[]) ∧ W.cell? ⟨w.heap.size, 0, none⟩ = some (.string p.u) ∧ W.cell? ⟨w.heap.size, 1, none⟩ = some (.int .i64 p.a) ∧ W.cell? ⟨b, off + j * 2, none⟩ = some (.string x.u) ∧ W.cell? ⟨b, off + j * 2 + 1, none⟩ = some (.int .i64 x.a))
    (first | exact HP0.out _ K3 | exact HP0.out _ K2 | exact HP0.out _ K1)
    (first | (have hseen := K2; clear hseen; go_at_call 126; refine (HU.out _ _ _).mono ?_; rintro e w4 ⟨rfl, h4⟩; have K3 := K2.below h4) | (have hseen := K1; clear hseen; go_at_call 126; refine (HU.out _ _ _).mono ?_; rintro e w3 ⟨rfl, h3⟩; have K2 := K1.below h3))
   have K4 := K3
   have KD := K4.below (Below.refl _ _).drew
   clear HP0 K1 K2 hpos hposI hposN
   by_cases hc1 : c - j = 1
   ·have hl1 : l.length - j = 1 := by omega
    go_wp2_with fail
    go_region_held3 (fun W => W.cell? ⟨w.heap.size + 1, 0, none⟩ = some (.func (.func 126) #[] #[]) ∧ W.cell? ⟨w.heap.size, 0, none⟩ = some (.string p.u) ∧ W.cell? ⟨w.heap.size, 1, none⟩ = some (.int .i64 p.a))
     (first | with_reducible exact HSB.out _ (KD.below (below_one _ _)) | with_reducible exact HSB.out _ ((KD.below (below_one _ _)).below (below_one _ _)) | with_reducible exact HSB.out _ KD | with_reducible exact HSB.out _ KE)
     (first | (go_at_call 267; refine Calls.mono (HAC.out _ _ _ _ _ _ _ _ _ _ K4.row rfl rfl ?_ ?_ ?_ ?_ ?_ ?_) ?_; omega; omega; (first | exact Or.inr rfl | (refine Or.inl ?_; omega)); (intro h; first | rfl | cases h); (first | (refine Or.inl ?_; omega) | (refine Or.inr ⟨_, _, rfl, congrArg (fun o => some (Addr.mk _ o none)) ?_⟩; omega)); (intro h; first | rfl | cases h); rintro e w5 ⟨v, rfl, ho5, hb5⟩; have KE := K4.below hb5; have HO5 := Lib.hid ho5; have HB5 := Lib.hid hb5; clear ho5 hb5))
    go_wp2
    go_ret
    exact ⟨v, _, rfl, own_low2 HO5.out K4.frame.size, HIQ.out, KE.frame⟩
   ·have hc2 : 1 < c - j := by omega
    go_wp2_with fail
    go_region_held3 (fun W => W.cell? ⟨w.heap.size + 1, 0, none⟩ = some (.func (.func 126) #[] #[]) ∧ W.cell? ⟨w.heap.size, 0, none⟩ = some (.string p.u) ∧ W.cell? ⟨w.heap.size, 1, none⟩ = some (.int .i64 p.a))
     (first | with_reducible exact HSB.out _ (KD.below (below_one _ _)) | with_reducible exact HSB.out _ ((KD.below (below_one _ _)).below (below_one _ _)) | with_reducible exact HSB.out _ KD | with_reducible exact HSB.out _ KE)
     (first | (go_at_call 267; refine Calls.mono (HAC.out _ _ _ _ _ _ _ _ _ _ K4.row rfl rfl ?_ ?_ ?_ ?_ ?_ ?_) ?_; omega; omega; (first | exact Or.inr rfl | (refine Or.inl ?_; omega)); (intro h; first | rfl | cases h); (first | (refine Or.inl ?_; omega) | (refine Or.inr ⟨_, _, rfl, congrArg (fun o => some (Addr.mk _ o none)) ?_⟩; omega)); (intro h; first | rfl | cases h); rintro e w5 ⟨v, rfl, ho5, hb5⟩; have KE := K4.below hb5; have HO5 := Lib.hid ho5; have HB5 := Lib.hid hb5; clear ho5 hb5))
    go_wp2
    go_ret
    exact ⟨v, _, rfl, own_low2 HO5.out K4.frame.size, HIQ.out, KE.frame⟩
  ·have HIQ := Lib.hid (HIP.out _ (.inl ⟨rfl, fun _ => he⟩))
   have hq : ((TbM.u l[j]).toList == (TbM.u p).toList) = false := txt_ne he
   have HAC : Hid (∀ W (g1 g2 T : Nat) (x y : Option Addr) (n1 c1 n2 c2 : Nat), PpSl W (some ⟨b, off, none⟩) (l.map tbp) → g1 = W.heap.size → g2 = W.heap.size + 1 → n1 = j → n2 = l.length - j → (n1 = 0 ∨ x = some ⟨b, off, none⟩) → (x = none → c1 = 0) → (n2 = 0 ∨ ∃ b2 off2, (some ⟨b, off, none⟩ : Option Addr) = some ⟨b2, off2, none⟩ ∧ y = some ⟨b2, off2 + j * 2, none⟩) → (y = none → c2 = 0) →
     Calls Tryz.prog 267 #[.slice (some ⟨g2, 0, none⟩) 3 3] ((W.alloc (.cells #[.string p.u, .int .i64 p.a] 141)).alloc (.cells #[.slice x n1 c1, .slice (some ⟨g1, 0, none⟩) 1 1, .slice y n2 c2] T)).drew fun e w' => ∃ v, e = .returned v ∧ w'.ownsRow W.heap.size 141 2 v ((l.take j ++ p :: l.drop j).map tbp).length (pps ((l.take j ++ p :: l.drop j).map tbp)) ∧ Below W.heap.size W w') := fun W g1 g2 T x y n1 c1 n2 c2 hs e1 e2 q1 q2 q3 q4 q5 q6 => by
    have hA : PpSl W x ((l.take j).map tbp) := by
     rw [List.map_take]
     rcases q3 with q3 | q3
     ·have : j = 0 := by omega
      subst this
      rw [List.take_zero]
      exact PpSl.nil _ _
     ·rw [q3]; exact hs.take j
    have hB : PpSl W y ((l.drop (j)).map tbp) := by
     rw [List.map_drop]
     rcases q5 with q5 | ⟨b, off, q5, q7⟩
     ·rw [List.drop_of_length_le (by rw [List.length_map]; omega)]
      exact PpSl.nil _ _
     ·cases q5; rw [q7]; exact hs.drop (j)
    have h := pconcat3_tb x y ((l.take j).map tbp) ((l.drop (j)).map tbp) c1 c2 n1 n2 (.string p.u) (.int .i64 p.a) rfl rfl W g1 g2 T (by rw [List.length_map, List.length_take]; omega) (by rw [List.length_map, List.length_drop]; omega) hA hB (by exact tbp_one _) (by exact tbp_one _) q4 q6 e1 e2 (by rw [List.length_map, List.length_map, List.length_take, List.length_drop]; omega)
    have e0 : ((l.take j ++ p :: l.drop j)).map tbp = (l.take j).map tbp ++ (.string p.u, .int .i64 p.a) :: (l.drop (j)).map tbp := by rw [List.map_append, List.map_cons]; rfl
    rw [e0]
    exact h
   clear he HIP
   generalize l[j] = x at *
   go_wp2_with fail
   go_region_held3 (fun W => W.cell? ⟨w.heap.size + 1, 0, none⟩ = some (.func (.func 126) #[] #[]) ∧ W.cell? ⟨w.heap.size, 0, none⟩ = some (.string p.u) ∧ W.cell? ⟨w.heap.size, 1, none⟩ = some (.int .i64 p.a) ∧ W.cell? ⟨b, off + j * 2, none⟩ = some (.string x.u) ∧ W.cell? ⟨b, off + j * 2 + 1, none⟩ = some (.int .i64 x.a))
    (first | exact HP0.out _ K3 | exact HP0.out _ K2 | exact HP0.out _ K1)
    (first | (have hseen := K2; clear hseen; go_at_call 126; refine (HU.out _ _ _).mono ?_; rintro e w4 ⟨rfl, h4⟩; have K3 := K2.below h4) | (have hseen := K1; clear hseen; go_at_call 126; refine (HU.out _ _ _).mono ?_; rintro e w3 ⟨rfl, h3⟩; have K2 := K1.below h3))
   have K4 := K3
   have KD := K4.below (Below.refl _ _).drew
   clear HP0 K1 K2 hpos hposI hposN
   go_wp2_with fail
   go_region_held3 (fun W => W.cell? ⟨w.heap.size + 1, 0, none⟩ = some (.func (.func 126) #[] #[]) ∧ W.cell? ⟨w.heap.size, 0, none⟩ = some (.string p.u) ∧ W.cell? ⟨w.heap.size, 1, none⟩ = some (.int .i64 p.a))
    (first | with_reducible exact HSB.out _ (KD.below (below_one _ _)) | with_reducible exact HSB.out _ ((KD.below (below_one _ _)).below (below_one _ _)) | with_reducible exact HSB.out _ KD | with_reducible exact HSB.out _ KE)
    (first | (go_at_call 267; refine Calls.mono (HAC.out _ _ _ _ _ _ _ _ _ _ K4.row rfl rfl ?_ ?_ ?_ ?_ ?_ ?_) ?_; omega; omega; (first | exact Or.inr rfl | (refine Or.inl ?_; omega)); (intro h; first | rfl | cases h); (first | (refine Or.inl ?_; omega) | (refine Or.inr ⟨_, _, rfl, congrArg (fun o => some (Addr.mk _ o none)) ?_⟩; omega)); (intro h; first | rfl | cases h); rintro e w5 ⟨v, rfl, ho5, hb5⟩; have KE := K4.below hb5; have HO5 := Lib.hid ho5; have HB5 := Lib.hid hb5; clear ho5 hb5))
   go_wp2
   go_ret
   exact ⟨v, _, rfl, own_low2 HO5.out K4.frame.size, HIQ.out, KE.frame⟩
 ·have hje : j = l.length := by omega
  have HIQ := Lib.hid (HIP.out _ (.inl ⟨rfl, fun h => absurd h hjl2⟩))
  subst hje
  have hln : l.length - l.length = 0 := Nat.sub_self _
  have HAC : Hid (∀ W (g1 g2 T : Nat) (x y : Option Addr) (n1 c1 n2 c2 : Nat), PpSl W a (l.map tbp) → g1 = W.heap.size → g2 = W.heap.size + 1 → n1 = l.length → n2 = l.length - l.length → (n1 = 0 ∨ x = a) → (x = none → c1 = 0) → (n2 = 0 ∨ ∃ b off, a = some ⟨b, off, none⟩ ∧ y = some ⟨b, off + l.length * 2, none⟩) → (y = none → c2 = 0) →
    Calls Tryz.prog 267 #[.slice (some ⟨g2, 0, none⟩) 3 3] ((W.alloc (.cells #[.string p.u, .int .i64 p.a] 141)).alloc (.cells #[.slice x n1 c1, .slice (some ⟨g1, 0, none⟩) 1 1, .slice y n2 c2] T)).drew fun e w' => ∃ v, e = .returned v ∧ w'.ownsRow W.heap.size 141 2 v ((l.take l.length ++ p :: l.drop l.length).map tbp).length (pps ((l.take l.length ++ p :: l.drop l.length).map tbp)) ∧ Below W.heap.size W w') := fun W g1 g2 T x y n1 c1 n2 c2 hs e1 e2 q1 q2 q3 q4 q5 q6 => by
   have hA : PpSl W x ((l.take l.length).map tbp) := by
    rw [List.map_take]
    rcases q3 with q3 | q3
    ·have h0 : l.length = 0 := by omega
     have h1 : l = [] := List.eq_nil_of_length_eq_zero h0
     subst h1
     exact PpSl.nil _ _
    ·rw [q3]; exact hs.take l.length
   have hB : PpSl W y ((l.drop (l.length)).map tbp) := by
    rw [List.map_drop]
    rcases q5 with q5 | ⟨b, off, q5, q7⟩
    ·rw [List.drop_of_length_le (by rw [List.length_map]; omega)]
     exact PpSl.nil _ _
    ·rw [q7]; rw [q5] at hs; exact hs.drop (l.length)
   have h := pconcat3_tb x y ((l.take l.length).map tbp) ((l.drop (l.length)).map tbp) c1 c2 n1 n2 (.string p.u) (.int .i64 p.a) rfl rfl W g1 g2 T (by rw [List.length_map, List.length_take]; omega) (by rw [List.length_map, List.length_drop]; omega) hA hB (by exact tbp_one _) (by exact tbp_one _) q4 q6 e1 e2 (by rw [List.length_map, List.length_map, List.length_take, List.length_drop]; omega)
   have e0 : ((l.take l.length ++ p :: l.drop l.length)).map tbp = (l.take l.length).map tbp ++ (.string p.u, .int .i64 p.a) :: (l.drop (l.length)).map tbp := by rw [List.map_append, List.map_cons]; rfl
   rw [e0]
   exact h
  clear HIP hjl2
  have K1 := HK.out
  have hz0 : (0 : Int) ≤ (l.length : Int) := by omega
  have hz4 : (l.length : Int) ≤ (c : Int) := by omega
  cases a with
  | none =>
   have hc0 := HNil.out rfl
   subst hc0
   have hl0 : l = [] := List.eq_nil_of_length_eq_zero (by omega)
   subst hl0
   go_wp2_with fail
   go_quiet (fail)
   have K4 := K1.below (Drew.below (w := w2) (w' := w2.drewN nq) ⟨nq, rfl⟩ _)
   generalize w2.drewN nq = w4 at *
   have KD := K4.below (Below.refl _ _).drew
   go_wp2_with fail
   go_region_held3 (fun W => W.cell? ⟨w.heap.size + 1, 0, none⟩ = some (.func (.func 126) #[] #[]) ∧ W.cell? ⟨w.heap.size, 0, none⟩ = some (.string p.u) ∧ W.cell? ⟨w.heap.size, 1, none⟩ = some (.int .i64 p.a))
    (first | with_reducible exact HSB.out _ (KD.below (below_one _ _)) | with_reducible exact HSB.out _ ((KD.below (below_one _ _)).below (below_one _ _)) | with_reducible exact HSB.out _ KD | with_reducible exact HSB.out _ KE)
    (first | (go_at_call 267; refine Calls.mono (HAC.out _ _ _ _ _ _ _ _ _ _ K4.row rfl rfl ?_ ?_ ?_ ?_ ?_ ?_) ?_; omega; omega; (first | exact Or.inr rfl | (refine Or.inl ?_; omega)); (intro h; first | rfl | cases h); (first | (refine Or.inl ?_; omega) | (refine Or.inr ⟨_, _, rfl, congrArg (fun o => some (Addr.mk _ o none)) ?_⟩; omega)); (intro h; first | rfl | cases h); rintro e w5 ⟨v, rfl, ho5, hb5⟩; have KE := K4.below hb5; have HO5 := Lib.hid ho5; have HB5 := Lib.hid hb5; clear ho5 hb5))
   go_wp2
   go_ret
   exact ⟨v, _, rfl, own_low2 HO5.out K4.frame.size, HIQ.out, KE.frame⟩
  | some ad =>
   by_cases hcj : c = l.length
   ·subst hcj
    go_wp2_with fail
    go_quiet (fail)
    have K4 := K1.below (Drew.below (w := w2) (w' := w2.drewN nq) ⟨nq, rfl⟩ _)
    generalize w2.drewN nq = w4 at *
    have KD := K4.below (Below.refl _ _).drew
    go_wp2_with fail
    go_region_held3 (fun W => W.cell? ⟨w.heap.size + 1, 0, none⟩ = some (.func (.func 126) #[] #[]) ∧ W.cell? ⟨w.heap.size, 0, none⟩ = some (.string p.u) ∧ W.cell? ⟨w.heap.size, 1, none⟩ = some (.int .i64 p.a))
     (first | with_reducible exact HSB.out _ (KD.below (below_one _ _)) | with_reducible exact HSB.out _ ((KD.below (below_one _ _)).below (below_one _ _)) | with_reducible exact HSB.out _ KD | with_reducible exact HSB.out _ KE)
     (first | (go_at_call 267; refine Calls.mono (HAC.out _ _ _ _ _ _ _ _ _ _ K4.row rfl rfl ?_ ?_ ?_ ?_ ?_ ?_) ?_; omega; omega; (first | exact Or.inr rfl | (refine Or.inl ?_; omega)); (intro h; first | rfl | cases h); (first | (refine Or.inl ?_; omega) | (refine Or.inr ⟨_, _, rfl, congrArg (fun o => some (Addr.mk _ o none)) ?_⟩; omega)); (intro h; first | rfl | cases h); rintro e w5 ⟨v, rfl, ho5, hb5⟩; have KE := K4.below hb5; have HO5 := Lib.hid ho5; have HB5 := Lib.hid hb5; clear ho5 hb5))
    go_wp2
    go_ret
    exact ⟨v, _, rfl, own_low2 HO5.out K4.frame.size, HIQ.out, KE.frame⟩
   ·have hcj2 : l.length < c := by omega
    go_wp2_with fail
    go_quiet (fail)
    have K4 := K1.below (Drew.below (w := w2) (w' := w2.drewN nq) ⟨nq, rfl⟩ _)
    generalize w2.drewN nq = w4 at *
    have KD := K4.below (Below.refl _ _).drew
    go_wp2_with fail
    go_region_held3 (fun W => W.cell? ⟨w.heap.size + 1, 0, none⟩ = some (.func (.func 126) #[] #[]) ∧ W.cell? ⟨w.heap.size, 0, none⟩ = some (.string p.u) ∧ W.cell? ⟨w.heap.size, 1, none⟩ = some (.int .i64 p.a))
     (first | with_reducible exact HSB.out _ (KD.below (below_one _ _)) | with_reducible exact HSB.out _ ((KD.below (below_one _ _)).below (below_one _ _)) | with_reducible exact HSB.out _ KD | with_reducible exact HSB.out _ KE)
     (first | (go_at_call 267; refine Calls.mono (HAC.out _ _ _ _ _ _ _ _ _ _ K4.row rfl rfl ?_ ?_ ?_ ?_ ?_ ?_) ?_; omega; omega; (first | exact Or.inr rfl | (refine Or.inl ?_; omega)); (intro h; first | rfl | cases h); (first | (refine Or.inl ?_; omega) | (refine Or.inr ⟨_, _, rfl, congrArg (fun o => some (Addr.mk _ o none)) ?_⟩; omega)); (intro h; first | rfl | cases h); rintro e w5 ⟨v, rfl, ho5, hb5⟩; have KE := K4.below hb5; have HO5 := Lib.hid ho5; have HB5 := Lib.hid hb5; clear ho5 hb5))
    go_wp2
    go_ret
    exact ⟨v, _, rfl, own_low2 HO5.out K4.frame.size, HIQ.out, KE.frame⟩
theorem IsPut.mem {α : Type} {key : α → ByteArray} {l L : List α} {p : α} (h : IsPut key l p L) : (∀ y ∈ L, y = p ∨ y ∈ l) ∧ L.length ≤ l.length + 1 := by
 obtain ⟨k, _, ⟨rfl, _⟩ | ⟨hk, _, rfl⟩⟩ := h
 ·refine ⟨fun y hy => ?_, ?_⟩
  ·rcases List.mem_append.1 hy with h1 | h1
   ·exact .inr (List.mem_of_mem_take h1)
   ·rcases List.mem_cons.1 h1 with h1 | h1
    ·exact .inl h1
    ·exact .inr (List.mem_of_mem_drop h1)
  ·rw [List.length_append, List.length_cons, List.length_take, List.length_drop]; omega
 ·refine ⟨fun y hy => ?_, ?_⟩
  ·rcases List.mem_append.1 hy with h1 | h1
   ·exact .inr (List.mem_of_mem_take h1)
   ·rcases List.mem_cons.1 h1 with h1 | h1
    ·exact .inl h1
    ·exact .inr (List.mem_of_mem_drop h1)
  ·rw [List.length_append, List.length_cons, List.length_take, List.length_drop]; omega
theorem IsPut.us {D L : List UsL} {p : UsL} (h : IsPut UsL.u D p L) (hr : RiseK UsM.u (umS D)) : umS L = insK UsM.u p.u [p.m] (umS D) := by
 obtain ⟨k, hk, ⟨rfl, hn⟩ | ⟨hk, he, rfl⟩⟩ := h
 ·exact put_new hr hk hn
 ·exact put_old hr hk he
theorem IsPut.tb {D L : List TbM} {p : TbM} (h : IsPut TbM.u D p L) (hr : RiseK TbM.u D) : L = insK TbM.u p.u [p] D := by
 obtain ⟨k, hk, ⟨rfl, hn⟩ | ⟨hk, he, rfl⟩⟩ := h
 ·exact tput_new hr hk hn
 ·exact tput_old hr hk he
theorem put_us (a : Option Addr) (c : Nat) (D : List UsL) (p : UsL) (w : World) (hr : UsSl w a D) (hp : UsAt w p) (hc : Cp a D.length c) (hl : D.length ≤ 1000) :
  Calls Tryz.prog 230 #[.slice a D.length c, .agg #[.string p.u, .slice p.a p.l.length p.c], .func (.func 117) #[] #[]] w fun e w' => ∃ x q L, e = .returned (.slice x L.length q) ∧ UsSl w' x L ∧ Cp x L.length q ∧ IsPut UsL.u D p L ∧ Below w.heap.size w w' := by
 refine (put_core_us a c D p w hr hc hl).mono ?_
 rintro e w' ⟨v, L, rfl, ho, hi, hb⟩
 rw [List.length_map] at ho
 obtain ⟨x, q, rfl, h1, h2, h3, h4⟩ := own_us ho
 exact ⟨x, q, L, rfl, ⟨h3, fun y hy => by
  rcases hi.mem.1 y hy with rfl | h5
  ·exact hp.below hb
  ·exact (hr.at_ y h5).below hb⟩, ⟨h1, h2, h4⟩, hi, hb⟩
theorem put_tb (a : Option Addr) (c : Nat) (D : List TbM) (p : TbM) (w : World) (hr : TbSl w a D) (hc : Cp a D.length c) (hl : D.length ≤ 1000) :
  Calls Tryz.prog 239 #[.slice a D.length c, .agg #[.string p.u, .int .i64 p.a], .func (.func 126) #[] #[]] w fun e w' => ∃ x q L, e = .returned (.slice x L.length q) ∧ TbSl w' x L ∧ Cp x L.length q ∧ IsPut TbM.u D p L ∧ Below w.heap.size w w' := by
 refine (put_core_tb a c D p w hr hc hl).mono ?_
 rintro e w' ⟨v, L, rfl, ho, hi, hb⟩
 rw [List.length_map] at ho
 obtain ⟨x, q, rfl, h1, h2, h3, h4⟩ := own_tb ho
 exact ⟨x, q, L, rfl, h3, ⟨h1, h2, h4⟩, hi, hb⟩
theorem ins_same {l : List UsM} (hr : RiseK UsM.u l) {u : ByteArray} (h : ofU l u ≠ []) : insK UsM.u u [⟨u, ofU l u⟩] l = l := by
 have hm : (⟨u, ofU l u⟩ : UsM) ∈ l := by
  rcases ofU_cases l u with h1 | h1
  ·exact absurd h1 h
  ·exact h1
 refine riseK_ext (insK_rise hr (fun x hx => by rw [List.mem_singleton.1 hx]) (by simp)) hr fun x => ?_
 rw [insK_mem, List.mem_singleton]
 constructor
 ·rintro (rfl | ⟨h1, _⟩)
  ·exact hm
  ·exact h1
 ·intro hx
  by_cases hu : x.u = u
  ·exact .inl (riseK_one hr hx hm hu)
  ·exact .inr ⟨hx, hu⟩
theorem with_addU {l : List UsM} (hr : RiseK UsM.u l) {u : ByteArray} {x : StM} (h : addS (ofU l u) x ≠ []) : insK UsM.u u [⟨u, addS (ofU l u) x⟩] l = addU l u x := by
 unfold addU
 split
 ·rename_i h1
  unfold putU rowU
  rw [if_neg (by simpa using h)]
 ·rename_i h1
  have e : addS (ofU l u) x = ofU l u := by unfold addS; rw [if_pos (by omega)]
  rw [e] at h ⊢
  exact ins_same hr h
theorem with_none {l : List UsM} {u : ByteArray} {x : StM} (h : addS (ofU l u) x = []) : addU l u x = l := by
 unfold addU
 rw [if_neg]
 intro h1
 exact addS_some h1 h
structure WsK (w : World) (g : Nat) (s : StM) (a : Option Addr) (D : List UsL) (W : World) : Prop where
 s : W.heap[g]? = some (.cells #[.int .i64 s.f, .int .i64 s.t, .int .i64 s.n, .int .i64 s.s] 111 (0, 0))
 row : UsSl W a D
 frame : Below w.heap.size w W
theorem WsK.below {w W W' : World} {g : Nat} {s : StM} {a : Option Addr} {D : List UsL} (h : WsK w g s a D W) (q : Below W.heap.size W W') : WsK w g s a D W' := ⟨(q.block _ (heap_lt h.s)).trans h.s, h.row.below q, h.frame.trans (q.mono h.frame.size)⟩
set_option maxHeartbeats 4000000 in
theorem withStay_any (a : Option Addr) (c : Nat) (D : List UsL) (u : ByteArray) (s : StM) (w : World) (hr : UsSl w a D) (hc : Cp a D.length c) (hk : RiseK UsM.u (umS D)) (hl : D.length ≤ 900) (hs : ∀ y ∈ D, y.l.length ≤ 900) :
  Calls Tryz.prog 194 #[.slice a D.length c, .string u, stV s] w fun e w' => ∃ x q L, e = .returned (.slice x L.length q) ∧ UsSl w' x L ∧ Cp x L.length q ∧ umS L = addU (umS D) u s ∧ Below w.heap.size w w' := by
 have hb := below_one w (.cells #[.int .i64 s.f, .int .i64 s.t, .int .i64 s.n, .int .i64 s.s] 111)
 have K0 : WsK w w.heap.size s a D (w.alloc (.cells #[.int .i64 s.f, .int .i64 s.t, .int .i64 s.n, .int .i64 s.s] 111)) := ⟨heap_alloc_new w _, hr.below hb, hb⟩
 have HSO := Lib.hid (fun V (h : UsSl V a D) => staysOf_any a c D u V h (by omega))
 have hlen : (ofU (umS D) u).length ≤ 900 := by
  rcases fst_key (D := D) (u := u) rfl with ⟨_, h2⟩ | ⟨h1, h2, _⟩
  ·rw [h2]; simp
  ·rw [h2]; exact hs _ (List.getElem_mem h1)
 have HAD := Lib.hid (fun x q V (h : StSl V x (ofU (umS D) u)) (k : Cp x (ofU (umS D) u).length q) => add8_any x q (ofU (umS D) u) s V h k.nil (by omega) k.le k.mx)
 have HPU := Lib.hid (fun p V (h : UsSl V a D) (k : UsAt V p) => put_us a c D p V h k hc (by omega))
 have HW1 := Lib.hid (fun h => with_addU (u := u) (x := s) hk h)
 have HW2 := Lib.hid (fun h => with_none (l := umS D) (u := u) (x := s) h)
 have HSC : Hid (∀ V, WsK w w.heap.size s a D V → V.cell? ⟨w.heap.size, 0, none⟩ = some (.int .i64 s.f) ∧ V.cell? ⟨w.heap.size, 1, none⟩ = some (.int .i64 s.t) ∧ V.cell? ⟨w.heap.size, 2, none⟩ = some (.int .i64 s.n) ∧ V.cell? ⟨w.heap.size, 3, none⟩ = some (.int .i64 s.s)) := fun V h => cells4 h.s
 have HCP := Lib.hid hc
 have K1 := K0.below (Below.refl _ _).drew
 unfold stV at *
 clear hr hc hs hb K0
 generalize hO : ofU (umS D) u = o at *
 clear hlen
 go_enter Tryz.func194, Tryz.ntmps194
 go_wp2_with fail
 go_region_held3 (fun V => V.cell? ⟨w.heap.size, 0, none⟩ = some (.int .i64 s.f) ∧ V.cell? ⟨w.heap.size, 1, none⟩ = some (.int .i64 s.t) ∧ V.cell? ⟨w.heap.size, 2, none⟩ = some (.int .i64 s.n) ∧ V.cell? ⟨w.heap.size, 3, none⟩ = some (.int .i64 s.s))
  (first | with_reducible exact HSC.out _ K3 | with_reducible exact HSC.out _ K2 | with_reducible exact HSC.out _ K1)
  (first | (have hseen := K2; clear hseen; go_at_call 56; refine (HAD.out x2 q2 _ z2 p2).mono ?_; rintro e w3 ⟨v3, rfl, ho3, h3⟩; have K3 := K2.below h3) | (have hseen := K1; clear hseen; go_at_call 90; refine (HSO.out _ K1.row).mono ?_; rintro e w2 ⟨x2, q2, rfl, z2, p2, h2⟩; have K2 := K1.below h2))
 obtain ⟨x3, q3, rfl, i1, i2, i3, i4⟩ := own_st ho3
 have HI : Hid (UsAt w3 ⟨u, x3, addS o s, q3⟩) := ⟨i3, i1, i2, i4⟩
 have HK := Lib.hid K3
 clear K1 K2 K3 z2 p2 h2 h3 ho3 i1 i2 i3 i4 HSO HAD HSC
 by_cases hz : addS o s = []
 ·have HE := Lib.hid (HW2.out hz)
  have hl0 : ((addS o s).length == 0) = true := by rw [hz]; rfl
  have hl1 : (((addS o s).length : Int) == 0) = true := by rw [hz]; rfl
  clear HW1 HW2 HPU HI hz
  generalize (addS o s).length = n at *
  go_wp2
  go_ret
  exact ⟨a, c, D, rfl, HK.out.row, HCP.out, HE.out.symm, HK.out.frame⟩
 ·have HE := Lib.hid (HW1.out hz)
  have hn : ¬ (addS o s).length = 0 := fun h => hz (List.eq_nil_of_length_eq_zero h)
  have hl0 : ((addS o s).length == 0) = false := beq_eq_false_iff_ne.2 hn
  have hl1 : (((addS o s).length : Int) == 0) = false := beq_eq_false_iff_ne.2 (by omega)
  have HP2 := Lib.hid (HPU.out ⟨u, x3, addS o s, q3⟩)
  have HFI : Hid (∀ L, IsPut UsL.u D ⟨u, x3, addS o s, q3⟩ L → umS L = addU (umS D) u s) := fun L h => (h.us hk).trans HE.out
  dsimp only at HP2
  clear HW1 HW2 HPU HE hz hn
  generalize addS o s = r at *
  go_wp2_with fail
  refine (HP2.out _ HK.out.row HI.out).mono ?_
  rintro e w4 ⟨x4, q4, L, rfl, h1, h2, h3, h4⟩
  have HR := Lib.hid (And.intro h1 (And.intro h2 (And.intro (HFI.out L h3) (HK.out.below h4).frame)))
  clear h1 h2 h3 h4 HK HI HP2 HFI
  go_wp2
  go_ret
  exact ⟨x4, q4, L, rfl, HR.out.1, HR.out.2.1, HR.out.2.2.1, HR.out.2.2.2⟩
end Go.Proofs.YtmfpjapiijgdgaaGreat
namespace Go.Proofs.YtmfpjapiijgdgaaGreat
open Go.RowKit
set_option linter.unusedVariables false
set_option maxRecDepth 100000
set_option maxRecDepth 100000
structure PK (w : World) (g : Nat) (p u : ByteArray) (a : Option Addr) (l : List EnM) (W : World) : Prop where
 pc : PcAt W g p u
 row : EnSl W a l
 frame : Below w.heap.size w W
theorem PK.below {w W W' : World} {g : Nat} {p u : ByteArray} {a : Option Addr} {l : List EnM} (h : PK w g p u a l W) (q : Below W.heap.size W W') : PK w g p u a l W' :=
 ⟨h.pc.below q, h.row.below q, h.frame.trans (q.mono h.frame.size)⟩
theorem PK.new {w : World} {a : Option Addr} {l : List EnM} (h : EnSl w a l) (p u : ByteArray) (t : TypeId) : PK w w.heap.size p u a l (w.alloc (.cells #[.string p, .string u] t)) :=
 ⟨PcAt.new _ _ _ _, h.below (ebelow_one _ _), ebelow_one _ _⟩
end Go.Proofs.YtmfpjapiijgdgaaGreat
