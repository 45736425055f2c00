/- Texts of mine, one behind the other, of each what is wanted. -/
import Derived.Test.YtapacckmgmdnoaaGreatU00
import Derived.Test.YtapacckmgmdnoaaGreatU01
import Derived.Test.YtapacckmgmdnoaaGreatU11
namespace Go.Proofs.YtapacckmgmdnoaaGreat
open Go.RowKit
set_option linter.unusedVariables false
set_option maxRecDepth 100000
set_option maxRecDepth 100000
theorem sizeSp (W : World) : (sizeOf (Tryz.prog.elem 76)).run Tryz.prog W = .ok 2 W := by rfl
theorem tail_slice (b off n c : Nat) (hn : n + 1 ≤ c) : ∃ x' : Option Addr, (∀ W : World, (Instr.slice 76 (.slice (some ⟨b, off, none⟩) (n + 1) c) (some (.int .i64 1)) none none).run Tryz.prog W = .ok (.slice x' n (c - 1)) W) ∧
  ∀ (W : World) (s : SpM) (l : List SpM), l.length = n → SpSl W (some ⟨b, off, none⟩) (s :: l) → SpSl W x' l := by
 refine ⟨if c = 1 then some ⟨b, off, none⟩ else some ⟨b, off + 2, none⟩, fun W => ?_, fun W s l hl h => ?_⟩
 ·rw [run_slice_l W 76 (some ⟨b, off, none⟩) (n + 1) c (by kernel_rfl) .i64 1 (by omega) (by omega), sizeSp]
  show Result.ok (sliced (some ⟨b, off, none⟩) 1 (n + 1) c 2) W = _
  unfold sliced
  by_cases hc : c = 1
  ·rw [if_pos hc, if_pos hc]; rfl
  ·rw [if_neg hc, if_neg hc]; rfl
 ·by_cases hc : c = 1
  ·have : l = [] := List.eq_nil_of_length_eq_zero (by omega)
   subst this
   exact SpSl.nil _ _
  ·rw [if_neg hc]
   exact h.tail
structure ComW (wr : World) (m : SpM) (G : Nat) (W : World) : Prop where
 blk : W.heap[G]? = some (.cells #[.int .i64 m.f, .int .i64 m.t] 90 (0, 0))
 low : wr.heap.size ≤ G
 frame : Below wr.heap.size wr W
theorem ComW.below {wr W W' : World} {m : SpM} {G : Nat} (h : ComW wr m G W) (q : Below W.heap.size W W') : ComW wr m G W' :=
 ⟨(q.block _ (heap_lt h.blk)).trans h.blk, h.low, h.frame.trans (q.mono h.frame.size)⟩
theorem set2_at {W : World} {G : Nat} {t : TypeId} {a0 b0 : Value} (h : W.heap[G]? = some (.cells #[a0, b0] t (0, 0))) (a b : Value) :
  ((W.setCell ⟨G, 0, none⟩ a).setCell ⟨G, 1, none⟩ b).heap[G]? = some (.cells #[a, b] t (0, 0)) := heap_setCell_at (heap_setCell_at h 0 a) 1 b
theorem cells2f {g : Nat} {a b : Value} {t : TypeId} {W : World} (h : W.heap[g]? = some (.cells #[a, b] t (0, 0))) : W.frozen? ⟨g, 0, none⟩ = false ∧ W.frozen? ⟨g, 1, none⟩ = false := ⟨frozen_of_row _ _ _ _ _ h, frozen_of_row _ _ _ _ _ h⟩
set_option maxHeartbeats 4000000 in
theorem common_any (xa : Option Addr) (ca : Nat) (xb : Option Addr) (cb : Nat) (A B : List SpM) (w : World) (ha : SpSl w xa A) (hb : SpSl w xb B) (ra : RowL A) (rb : RowL B) (hca : A.length ≤ ca) (hcb : B.length ≤ cb) (hcm : ca ≤ maxLen ∧ cb ≤ maxLen) (hl : A.length + B.length ≤ 1000000) :
  Calls Tryz.prog 212 #[.slice xa A.length ca, .slice xb B.length cb] w fun e w' => ∃ (v : Value) (l : List SpM), e = .returned v ∧ IsSet (fun x => HasL A x ∧ HasL B x) l ∧ w'.ownsRow w.heap.size 90 2 v l.length (sps l) ∧ l.length ≤ A.length + B.length ∧ Below w.heap.size w w' := by
 obtain ⟨i0, hi, hz0, hz1, hz2⟩ := info_parts infoSpan
 have HA := Lib.hid ha
 have HB := Lib.hid hb
 have HCM := Lib.hid smeet_any
 have HCN := Lib.hid none_any
 obtain ⟨hcm1, hcm2⟩ := hcm
 unfold maxLen at hcm1 hcm2
 have HST := Lib.hid (ComI.start ra rb)
 obtain ⟨N, hN⟩ : ∃ N, N = A.length + B.length := ⟨_, rfl⟩
 rw [← hN] at hl ⊢
 have HN := Lib.hid hN
 clear ha hb ra rb hN
 go_enter Tryz.func212, Tryz.ntmps212
 go_wp2
 go_loopw [0, 1, 5] (fun x y v wr => ∃ (a b l : List SpM) (pa pb : Option Addr) (qa qb : Nat), x = .slice pa a.length qa ∧ y = .slice pb b.length qb ∧ a.length ≤ qa ∧ b.length ≤ qb ∧ qa ≤ 9223372036854775807 ∧ qb ≤ 9223372036854775807 ∧ l.length + a.length + b.length ≤ N ∧
  Hid (ComI A B l a b) ∧ Hid (SpSl w pa a) ∧ Hid (SpSl w pb b) ∧ Hid (wr.ownsRow w.heap.size 90 2 v l.length (sps l)) ∧ Hid (Below w.heap.size w wr)) (fun x y _ _ => (match x with | .slice _ n _ => n | _ => 0) + (match y with | .slice _ n _ => n | _ => 0))
 case atStart => exact ⟨A, B, [], xa, xb, ca, cb, rfl, rfl, hca, hcb, by omega, by omega, by rw [HN.out]; simp, HST.out, HA.out, HB.out, ⟨rfl, .inl ⟨rfl, rfl⟩⟩, Below.refl _ _⟩
 case round =>
  obtain ⟨a, b, l, pa, pb, qa, qb, rfl, rfl, hqa, hqb, hma, hmb, hlen, HI, HPA, HPB, HO, HW⟩ := hrel
  clear HA HB HST
  cases a with
  | nil =>
   have HD := Lib.hid (HI.out.done (.inl rfl))
   simp only [List.length_nil] at *
   go_wp2
   go_ret
   exact ⟨_, l, rfl, HD.out, HO.out, by omega, HW.out⟩
  | cons s a =>
   cases b with
   | nil =>
    have HD := Lib.hid (HI.out.done (.inr rfl))
    simp only [List.length_nil, List.length_cons] at *
    go_wp2
    go_ret
    exact ⟨_, l, rfl, HD.out, HO.out, by omega, HW.out⟩
   | cons o b =>
    obtain ⟨ba, oa, rfl, hba, _⟩ := HPA.out 0 (by simp)
    obtain ⟨bb, ob, rfl, hbb, _⟩ := HPB.out 0 (by simp)
    have HSW : Hid (∀ W, Below w.heap.size w W → W.cell? ⟨ba, oa, none⟩ = some (.int .i64 s.f) ∧ W.cell? ⟨ba, oa + 1, none⟩ = some (.int .i64 s.t) ∧ W.cell? ⟨bb, ob, none⟩ = some (.int .i64 o.f) ∧ W.cell? ⟨bb, ob + 1, none⟩ = some (.int .i64 o.t)) := fun W hwW => by
     obtain ⟨_, _, e1, _, h1, h2⟩ := (HPA.out.below hwW) 0 (by simp)
     obtain ⟨_, _, e2, _, h3, h4⟩ := (HPB.out.below hwW) 0 (by simp)
     cases e1
     cases e2
     exact ⟨by simpa using h1, by simpa using h2, by simpa using h3, by simpa using h4⟩
    have HSC := Lib.hid (fun W (hW : Below wr.heap.size wr W) => HSW.out W (HW.out.trans (hW.mono HW.out.size)))
    have HMT := Lib.hid (fun W => HCM.out s o W)
    unfold spV at HMT
    have HNN := Lib.hid (fun W => HCN.out (meetS s o).f (meetS s o).t W)
    have HL1 := Lib.hid (fun h => HI.out.left h)
    have HL2 := Lib.hid (fun h => HI.out.right h)
    obtain ⟨ta, hta, HTA⟩ := tail_slice ba oa a.length qa (by simpa using hqa)
    obtain ⟨tb, htb, HTB⟩ := tail_slice bb ob b.length qb (by simpa using hqb)
    have HTA2 := Lib.hid (HTA w s a rfl HPA.out)
    have HTB2 := Lib.hid (HTB w o b rfl HPB.out)
    clear HTA HTB HI HCM HCN
    simp only [List.length_cons] at *
    have hps : pushS l (meetS s o) = if (meetS s o).t ≤ (meetS s o).f then l else l ++ [meetS s o] := rfl
    generalize meetS s o = m at *
    go_wp2
    have HX : Hid (Below wr.heap.size wr wr.drew) := (Below.refl _ _).drew
    have HAL : Hid (∀ W ob, Below wr.heap.size wr W → Below wr.heap.size wr (W.alloc ob)) := fun W ob h => h.alloc h.size _
    have HTR : Hid (∀ W W', Below wr.heap.size wr W → Below W.heap.size W W' → Below wr.heap.size wr W') := fun W W' h q => h.trans (q.mono h.size)
    have HSET : Hid (∀ W x y, Below wr.heap.size wr W → Below wr.heap.size wr ((W.setCell ⟨wr.heap.size, 0, none⟩ x).setCell ⟨wr.heap.size, 1, none⟩ y)) := fun W x y h => (h.setCell (p := ⟨wr.heap.size, 0, none⟩) (Nat.le_refl _) _).setCell (p := ⟨wr.heap.size, 1, none⟩) (Nat.le_refl _) _
    have hX := HX.out
    have HNB : Hid (∀ w2, Below (wr.alloc (.cells #[.int .i64 0, .int .i64 0] 90)).drew.heap.size (wr.alloc (.cells #[.int .i64 0, .int .i64 0] 90)).drew w2 → w2.heap[wr.heap.size]? = some (.cells #[.int .i64 0, .int .i64 0] 90 (0, 0))) := fun w2 q => (q.block _ (by show _ < (wr.alloc _).heap.size; rw [size1]; omega)).trans (heap_alloc_new wr _)
    have hXd := HX.out
    have hXA : Below wr.heap.size wr (wr.alloc (.cells #[.int .i64 0, .int .i64 0] 90)).drew := (HAL.out _ _ (Below.refl _ _)).drew
    go_region_held3 (fun W => W.cell? ⟨ba, oa, none⟩ = some (.int .i64 s.f) ∧ W.cell? ⟨ba, oa + 1, none⟩ = some (.int .i64 s.t) ∧ W.cell? ⟨bb, ob, none⟩ = some (.int .i64 o.f) ∧ W.cell? ⟨bb, ob + 1, none⟩ = some (.int .i64 o.t))
     (first | with_reducible exact HSC.out _ hX | with_reducible exact HSC.out _ hXA | with_reducible exact HSC.out _ (HSET.out _ _ _ hY) | with_reducible exact HSC.out _ hY | with_reducible exact HSC.out _ (HAL.out _ _ hY) | with_reducible exact HSC.out _ (HAL.out _ _ hX) | assumption)
     (first | (go_at_call 163; refine (HMT.out _).mono ?_; rintro r w2 ⟨rfl, h2⟩; first | (have hqq : Below (wr.alloc (.cells #[.int .i64 0, .int .i64 0] 90)).drew.heap.size (wr.alloc (.cells #[.int .i64 0, .int .i64 0] 90)).drew w2 := (by with_reducible exact h2); have hY := HTR.out _ _ hXA hqq; have eb := HNB.out _ hqq; obtain ⟨e0, e1⟩ := cells2 eb; obtain ⟨p0, p1⟩ := cells2f eb; clear hqq h2) | (have hY := HTR.out _ _ hX h2; clear h2)))
    all_goals
     first
      | (have hC : ComW wr m wr.heap.size ((w2.setCell ⟨wr.heap.size, 0, none⟩ (.int .i64 m.f)).setCell ⟨wr.heap.size, 1, none⟩ (.int .i64 m.t)) := ⟨set2_at eb _ _, Nat.le_refl _, HSET.out _ _ _ hY⟩
         clear eb e0 e1 p0 p1
         generalize ((w2.setCell ⟨wr.heap.size, 0, none⟩ (.int .i64 m.f)).setCell ⟨wr.heap.size, 1, none⟩ (.int .i64 m.t)) = WV at hC ⊢
         obtain ⟨G, hG⟩ : ∃ G, G = wr.heap.size := ⟨_, rfl⟩
         rw [← hG] at hC ⊢
         clear hG)
      | (have hC : ComW wr m w2.heap.size (w2.alloc (.cells #[.int .i64 m.f, .int .i64 m.t] 90)) := ⟨heap_alloc_new w2 _, hY.size, HAL.out _ _ hY⟩
         generalize (w2.alloc (.cells #[.int .i64 m.f, .int .i64 m.t] 90)) = WV at *
         generalize w2.heap.size = G at *)
     clear HSET HNB HTR HMT hX hXA hXd HX HAL hY
     have HC := Lib.hid hC
     obtain ⟨g0, g1⟩ := cells2 hC.blk
     clear hC
     by_cases hm : m.t ≤ m.f
     ·have hd : decide (m.t ≤ m.f) = true := decide_eq_true hm
      rw [hd] at HNN
      rw [if_pos hm] at hps
      rw [hps] at HL1 HL2
      clear hps hm hd
      go_wp2_with fail
      refine (HNN.out _).mono ?_
      rintro r w3 ⟨rfl, h3⟩
      have HC3 := Lib.hid (HC.out.below h3)
      have HO3 := Lib.hid (own_below HO.out HC3.out.frame)
      have HW3 := Lib.hid (HW.out.trans (HC3.out.frame.mono HW.out.size))
      obtain ⟨k0, k1, k2, k3⟩ := HSW.out _ HW3.out
      clear h3 HC g0 g1 HNN HC3 HO
      by_cases ht : s.t < o.t
      ·have HR := Lib.hid (HL1.out ht)
       clear HL1 HL2
       go_wp2
       go_quiet (fail)
       go_wp2
       go_roundw
       case rel => exact ⟨a, o :: b, l, ta, some ⟨bb, ob, none⟩, qa - 1, qb, rfl, rfl, by omega, hqb, by omega, hmb, by simp only [List.length_cons]; omega, HR, HTA2, HPB, own_below HO3.out (Drew.below ⟨_, rfl⟩ _), HW3.out.trans (Drew.below ⟨_, rfl⟩ _)⟩
       case measure => simp; try omega
      ·have HR := Lib.hid (HL2.out (by first | exact ht | omega))
       clear HL1 HL2
       go_wp2
       go_quiet (fail)
       go_wp2
       go_roundw
       case rel => exact ⟨s :: a, b, l, some ⟨ba, oa, none⟩, tb, qa, qb - 1, rfl, rfl, hqa, by omega, hma, by omega, by simp only [List.length_cons]; omega, HR, HPA, HTB2, own_below HO3.out (Drew.below ⟨_, rfl⟩ _), HW3.out.trans (Drew.below ⟨_, rfl⟩ _)⟩
       case measure => simp; try omega
     ·have hd : decide (m.t ≤ m.f) = false := decide_eq_false hm
      rw [hd] at HNN
      rw [if_neg hm] at hps
      rw [hps] at HL1 HL2
      clear hps hm hd
      go_wp2_with fail
      refine (HNN.out _).mono ?_
      rintro r w3 ⟨rfl, h3⟩
      have HC3 := Lib.hid (HC.out.below h3)
      have HAL := Lib.hid ((Below.refl w3.heap.size w3).alloc (Nat.le_refl _) (.cells #[.int .i64 m.f, .int .i64 m.t] 90))
      have HO3 := Lib.hid (own_below (own_below HO.out HC3.out.frame) HAL.out)
      have HW3 := Lib.hid (HW.out.trans (HC3.out.frame.mono HW.out.size))
      have HW4 := Lib.hid (HW3.out.trans (HAL.out.mono HW3.out.size))
      have HS4 := Lib.hid HW4.out.size
      obtain ⟨g0, g1⟩ := cells2 HC3.out.blk
      clear h3 HC HNN HO
      by_cases ht : s.t < o.t
      ·have HR := Lib.hid (HL1.out ht)
       clear HL1 HL2
       go_wp2_with (at_builtin; refine wpList_append_own _ rfl (.tmp 25) (.tmp 27) 76 rfl w.heap.size 90 i0 _ 2 16 Tryz.underlying76 hi hz0 hz1 hz2 rfl (by decide) _ _ _ rfl HO3.out ⟨w3.heap.size, 0, none⟩ 1 1 [.int .i64 m.f, .int .i64 m.t] rfl rfl (news_at _ _ _ _ rfl) (two_one _ _) (by unfold maxLen; omega) (by omega) HS4.out ?_; intro v' w5 hown' hgrow hiff; obtain ⟨k0, k1, k2, k3⟩ := HSW.out _ (app_below HW4.out HS4.out HO3.out hgrow))
       have HW5 := Lib.hid (app_below HW4.out HS4.out HO3.out hgrow)
       have HO5 : Hid (w5.ownsRow w.heap.size 90 2 v' (l ++ [m]).length (sps (l ++ [m]))) := by unfold Hid; rw [sps_snoc, List.length_append]; exact hown'
       clear hown' hgrow hiff HO3 HW4 HS4 HW3
       go_wp2
       go_quiet (fail)
       go_wp2
       go_roundw
       case rel => exact ⟨a, o :: b, l ++ [m], ta, some ⟨bb, ob, none⟩, qa - 1, qb, rfl, rfl, by omega, hqb, by omega, hmb, by rw [List.length_append]; simp only [List.length_cons, List.length_nil]; omega, HR, HTA2, HPB, own_below HO5.out (Drew.below ⟨_, rfl⟩ _), HW5.out.trans (Drew.below ⟨_, rfl⟩ _)⟩
       case measure => simp; try omega
      ·have HR := Lib.hid (HL2.out (by first | exact ht | omega))
       clear HL1 HL2
       go_wp2_with (at_builtin; refine wpList_append_own _ rfl (.tmp 25) (.tmp 27) 76 rfl w.heap.size 90 i0 _ 2 16 Tryz.underlying76 hi hz0 hz1 hz2 rfl (by decide) _ _ _ rfl HO3.out ⟨w3.heap.size, 0, none⟩ 1 1 [.int .i64 m.f, .int .i64 m.t] rfl rfl (news_at _ _ _ _ rfl) (two_one _ _) (by unfold maxLen; omega) (by omega) HS4.out ?_; intro v' w5 hown' hgrow hiff; obtain ⟨k0, k1, k2, k3⟩ := HSW.out _ (app_below HW4.out HS4.out HO3.out hgrow))
       have HW5 := Lib.hid (app_below HW4.out HS4.out HO3.out hgrow)
       have HO5 : Hid (w5.ownsRow w.heap.size 90 2 v' (l ++ [m]).length (sps (l ++ [m]))) := by unfold Hid; rw [sps_snoc, List.length_append]; exact hown'
       clear hown' hgrow hiff HO3 HW4 HS4 HW3
       go_wp2
       go_quiet (fail)
       go_wp2
       go_roundw
       case rel => exact ⟨s :: a, b, l ++ [m], some ⟨ba, oa, none⟩, tb, qa, qb - 1, rfl, rfl, hqa, by omega, hma, by omega, by rw [List.length_append]; simp only [List.length_cons, List.length_nil]; omega, HR, HPA, HTB2, own_below HO5.out (Drew.below ⟨_, rfl⟩ _), HW5.out.trans (Drew.below ⟨_, rfl⟩ _)⟩
       case measure => simp; try omega
end Go.Proofs.YtapacckmgmdnoaaGreat
