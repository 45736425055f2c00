/- Texts of mine, one behind the other, of each what is wanted. -/
import Derived.Test.YtapacckmgmdnoaaGreatU00
import Derived.Test.YtapacckmgmdnoaaGreatShelf
import Derived.Test.YtapacckmgmdnoaaGreatRows
import Derived.Test.YtapacckmgmdnoaaGreatU01
import Derived.Test.YtapacckmgmdnoaaGreatU02
import Derived.Test.YtapacckmgmdnoaaGreatU07
import Derived.Test.YtapacckmgmdnoaaGreatU11
import Derived.Test.YtapacckmgmdnoaaGreatU16
import Derived.Test.YtapacckmgmdnoaaGreatU37
namespace Go.Proofs.YtapacckmgmdnoaaGreat
open Go.RowKit
set_option linter.unusedVariables false
set_option maxRecDepth 100000
set_option maxRecDepth 100000
theorem sizeSpR (W : World) : (sizeOf (Tryz.prog.elem 74)).run Tryz.prog W = .ok 2 W := by rfl
theorem add_zero' (a : Addr) : a.add 0 = a := by unfold Addr.add; rw [if_pos rfl]
theorem glue_front (a : Option Addr) (N c h : Nat) (hc : h ≤ c) (W : World) : (Instr.slice 74 (.slice a N c) none (some (.int .i64 (h : Int))) none).run Tryz.prog W = .ok (.slice a h c) W := by
 rw [run_slice_h W 74 a N c (by kernel_rfl) .i64 h (by omega) (by omega), sizeSpR]
 show Result.ok (sliced a 0 h c 2) W = _
 unfold sliced
 congr 2
 split
 ·rfl
 ·cases a
  ·rfl
  ·simp [add_zero']
structure GlA (W0 W : World) (b : Nat) : Prop where
 own : W.ownsRow W0.heap.size 106 2 (.slice (some ⟨b, 0, none⟩) 0 0) 0 []
 frame : Below W0.heap.size W0 W
theorem GlA.size {W0 W : World} {b : Nat} (h : GlA W0 W b) : W0.heap.size ≤ W.heap.size := h.frame.size
theorem far_news {W w2 : World} {b k : Nat} {xs : List Value} (hg : W.grownBy w2 (some b)) (hk : k < W.heap.size) (hne : k ≠ b) (h : ∀ j x, xs[j]? = some x → W.cell? ((⟨k, 0, none⟩ : Addr).add j) = some x) :
  ∀ j x, xs[j]? = some x → w2.cell? ((⟨k, 0, none⟩ : Addr).add j) = some x := fun j x hx => by
 have hb : ∀ j, ((⟨k, 0, none⟩ : Addr).add j).block = k := fun j => by unfold Addr.add; split <;> rfl
 rw [hg.cell_far _ (by rw [hb]; exact hk) (by rw [hb]; intro e; exact hne (Option.some.inj e))]
 exact h j x hx
set_option maxHeartbeats 4000000 in
theorem glue_any (B : Nat) (v : Value) (l : List SpM) (s : SpM) (w : World) (hB : B ≤ w.heap.size) (ho : w.ownsRow B 106 2 v l.length (sps l)) (hl : l.length ≤ 1000000) :
  Calls Tryz.prog 160 #[v, spV s] w fun e w' => ∃ (v' : Value), e = .returned v' ∧ w'.ownsRow B 106 2 v' (glueS l s).length (sps (glueS l s)) ∧ Below B w w' := by
 obtain ⟨i0, hi, hz0, hz1, hz2⟩ := info_parts infoSpanR
 have HO := Lib.hid ho
 rcases List.eq_nil_or_concat l with rfl | ⟨fr, u, hfu⟩
 ·rw [glueS_nil]
  obtain ⟨a, c, rfl, hc, _⟩ := own_sp ho
  clear ho
  unfold spV
  have HA1 : ∀ q, Hid (Below w.heap.size w (((w.alloc (.cells #[.int .i64 s.f, .int .i64 s.t] 106)).drewN q).alloc (.cells #[.int .i64 s.f, .int .i64 s.t] 106))) := fun q => (((Below.refl _ _).alloc (Nat.le_refl _) _).trans (Drew.below ⟨q, rfl⟩ _)).alloc (by show _ ≤ (w.alloc _).heap.size; rw [size1]; omega) _
  have HO1 := fun q => Lib.hid (own_below HO.out (HA1 q).out)
  have HS1 := fun q => Lib.hid (Nat.le_trans hB (HA1 q).out.size)
  go_enter Tryz.func160, Tryz.ntmps160
  go_wp2
  go_quiet (fail)
  go_wp2_with (at_builtin; refine wpList_append_own _ rfl (.tmp 38) (.tmp 40) 74 rfl B 106 i0 _ 2 16 Tryz.underlying74 hi hz0 hz1 hz2 rfl (by decide) _ _ _ rfl (HO1 _).out ⟨w.heap.size + 1, 0, none⟩ 1 1 [.int .i64 s.f, .int .i64 s.t] rfl rfl (news_at _ _ _ _ (by show _ = (w.alloc _).heap.size; rw [size1])) (two_one _ _) (by unfold maxLen; simp) (by simp) (HS1 _).out ?_; intro v' w2 hown' hgrow hiff)
  have HB3 := Lib.hid (app_below ((HA1 _).out.mono hB) (HS1 _).out (HO1 _).out hgrow)
  have HO3 : Hid (w2.ownsRow B 106 2 v' [s].length (sps [s])) := hown'
  clear hown' hgrow hiff
  go_wp2
  go_ret
  exact ⟨_, rfl, HO3.out, HB3.out⟩
 ·obtain rfl : l = fr ++ [u] := by rw [hfu, List.concat_eq_append]
  clear hfu
  obtain ⟨n, hn⟩ : ∃ n, n = fr.length := ⟨_, rfl⟩
  obtain ⟨N, hN⟩ : ∃ N, N = (fr ++ [u]).length := ⟨_, rfl⟩
  have hNn : N = n + 1 := by rw [hN, hn]; simp
  obtain ⟨a, cap, rfl, hcN, hsp⟩ := own_sp ho
  obtain ⟨g, off, rfl, hgw, hcx⟩ := hsp.at_ (k := n) (by rw [← hN]; omega)
  obtain rfl : off = 0 := by
   rcases ho.2 with ⟨h0, _⟩ | ⟨_, _, _, h0, _⟩
   ·cases h0
   ·cases h0; rfl
  have hcm : cap ≤ maxLen := by
   rcases ho.2 with ⟨h0, _⟩ | ⟨_, _, _, h0, _, _, _, h1, _⟩
   ·cases h0
   ·cases h0; exact h1
  have hgB : B ≤ g := (ho.lt g rfl).1
  have HCL : Hid (∀ W, Below w.heap.size w W → W.cell? ⟨g, n * 2, none⟩ = some (.int .i64 u.f) ∧ W.cell? ⟨g, n * 2 + 1, none⟩ = some (.int .i64 u.t)) := fun W hW => by
   obtain ⟨_, _, e1, _, h1, h2⟩ := (hsp.below hW).at_ (k := n) (by rw [← hN]; omega)
   cases e1
   have hx : (fr ++ [u])[n]'(by rw [← hN]; omega) = u := by subst hn; simp
   rw [hx] at h1 h2
   simp only [Nat.zero_add] at h1 h2
   exact ⟨h1, h2⟩
  have HFR : Hid (∀ W, Below w.heap.size w W → ∀ j x, (sps fr)[j]? = some x → W.cell? ((⟨g, 0, none⟩ : Addr).add j) = some x) := fun W hW j x hx => by
   refine (own_below ho hW).cells rfl j x ?_
   rw [sps_append, List.getElem?_append_left (by rcases List.getElem?_eq_some_iff.1 hx with ⟨h, _⟩; exact h)]
   exact hx
  have hNl : N ≤ 1000000 := by rw [hN]; exact hl
  have hcN' : N ≤ cap := by rw [hN]; exact hcN
  rw [← hN] at HO
  rw [← hN]
  clear ho hsp hl hcN hcx
  have HN := Lib.hid hN
  have HNL := Lib.hid hn
  clear hN hn
  unfold maxLen at hcm
  unfold spV
  rw [glueS_snoc]
  by_cases he : u.t = s.f
  ·rw [if_pos he]
   obtain ⟨c0, c1⟩ := HCL.out _ ((Below.refl w.heap.size w).alloc (Nat.le_refl _) (.cells #[.int .i64 s.f, .int .i64 s.t] 106))
   have hwr : IntKind.i64.wrap ((N : Int) - 1) = (n : Int) := by rw [IntWalk.i64_in] <;> omega
   have hb0 : (0 : Int) < (N : Int) := by omega
   have hb1 : (n : Int) < (N : Int) := by omega
   have hb2 : (0 : Int) ≤ (n : Int) := Int.natCast_nonneg _
   have hb3 : (n : Int) ≤ (cap : Int) := by omega
   have hg0 : decide (0 < N) = true := decide_eq_true (by omega)
   have hg1 : 0 < N := by omega
   have HNN := Lib.hid hNn
   have HNLE := Lib.hid hNl
   have HCN := Lib.hid hcN'
   clear hNn hNl hcN'
   go_enter Tryz.func160, Tryz.ntmps160
   go_wp2
   go_quiet (fail)
   go_wp2_with fail
   have HW0 : Hid (Below w.heap.size w ((w.alloc (.cells #[.int .i64 s.f, .int .i64 s.t] 106)).drewN nq)) := ((Below.refl _ _).alloc (Nat.le_refl _) _).trans (Drew.below ⟨nq, rfl⟩ _)
   have hP : ((w.alloc (.cells #[.int .i64 s.f, .int .i64 s.t] 106)).drewN nq).heap[w.heap.size]? = some (.cells #[.int .i64 s.f, .int .i64 s.t] 106 (0, 0)) := heap_alloc_new w _
   generalize ((w.alloc (.cells #[.int .i64 s.f, .int .i64 s.t] 106)).drewN nq) = W0 at HW0 hP ⊢
   clear c0 c1
   obtain ⟨c0, c1⟩ := HCL.out _ HW0.out
   obtain ⟨p0, p1⟩ := cells2 hP
   have HSC : Hid (∀ W, Below W0.heap.size W0 W → W.cell? ⟨g, n * 2, none⟩ = some (.int .i64 u.f) ∧ W.cell? ⟨w.heap.size, 1, none⟩ = some (.int .i64 s.t)) := fun W hW => ⟨(HCL.out _ (HW0.out.trans (hW.mono HW0.out.size))).1, (cells2 ((hW.block _ (heap_lt hP)).trans hP)).2⟩
   have HFW : Hid (∀ W, Below W0.heap.size W0 W → ∀ j x, (sps fr)[j]? = some x → W.cell? ((⟨g, 0, none⟩ : Addr).add j) = some x) := fun W hW => HFR.out W (HW0.out.trans (hW.mono HW0.out.size))
   have hX : Below W0.heap.size W0 W0.drew := (Below.refl _ _).drew
   have HAL : Hid (∀ W ob, Below W0.heap.size W0 W → Below W0.heap.size W0 (W.alloc ob)) := fun W ob h => h.alloc h.size _
   have HAS : Hid (∀ W, Below W0.heap.size W0 W → W0.heap.size ≤ (W.alloc (.cells #[.int .i64 u.f, .int .i64 s.t] 106)).heap.size) := fun W h => by rw [size1]; have := h.size; omega
   have hR : Below W0.heap.size W0 W0 := Below.refl _ _
   have hN0 : Below W0.heap.size W0 (W0.alloc (.cells #[.int .i64 u.f, .int .i64 s.t] 106)) := HAL.out _ _ hR
   have hE0 : Below W0.heap.size W0 (W0.alloc (.cells #[] 106)) := HAL.out _ _ hR
   have HG0 : Hid ((W0.alloc (.cells #[] 106)).ownsRow W0.heap.size 106 2 (.slice (some ⟨W0.heap.size, 0, none⟩) 0 0) 0 []) := World.ownsRow_lit W0 #[] 0 (Nat.le_refl _) (by unfold maxLen; omega) rfl
   have HGa : Hid (GlA W0 (W0.alloc (.cells #[] 106)).drew W0.heap.size) := ⟨HG0.out.drew, hE0.drew⟩
   have HGb : Hid (GlA W0 ((W0.alloc (.cells #[] 106)).alloc (.cells #[.int .i64 u.f, .int .i64 s.t] 106)).drew W0.heap.size) := ⟨(HG0.out.alloc _).drew, (HAL.out _ _ hE0).drew⟩
   have HGc : Hid (GlA W0 ((W0.alloc (.cells #[.int .i64 u.f, .int .i64 s.t] 106)).alloc (.cells #[] 106)).drew (W0.heap.size + 1)) := ⟨by
    have h := World.ownsRow_lit (base := W0.heap.size) (e := 106) (size := 2) (W0.alloc (.cells #[.int .i64 u.f, .int .i64 s.t] 106)) #[] 0 (by rw [size1]; omega) (by unfold maxLen; omega) rfl
    rw [size1] at h
    exact h.drew, (HAL.out _ _ hN0).drew⟩
   have HNB : Hid (∀ j x, [Value.int .i64 u.f, .int .i64 s.t][j]? = some x → ((W0.alloc (.cells #[] 106)).alloc (.cells #[.int .i64 u.f, .int .i64 s.t] 106)).drew.cell? ((⟨W0.heap.size + 1, 0, none⟩ : Addr).add j) = some x) := news_at (W0.alloc (.cells #[] 106)) _ _ _ (by rw [size1])
   have HNC : Hid (∀ j x, [Value.int .i64 u.f, .int .i64 s.t][j]? = some x → ((W0.alloc (.cells #[.int .i64 u.f, .int .i64 s.t] 106)).alloc (.cells #[] 106)).drew.cell? ((⟨W0.heap.size, 0, none⟩ : Addr).add j) = some x) := fun j x hx => by
    have hb : ((⟨W0.heap.size, 0, none⟩ : Addr).add j).block = W0.heap.size := by unfold Addr.add; split <;> rfl
    have h0 := news_at W0 #[Value.int .i64 u.f, .int .i64 s.t] 106 _ rfl j x hx
    have h1 : ((W0.alloc (.cells #[.int .i64 u.f, .int .i64 s.t] 106)).alloc (.cells #[] 106)).heap[W0.heap.size]? = (W0.alloc (.cells #[.int .i64 u.f, .int .i64 s.t] 106)).heap[W0.heap.size]? := heap_alloc_old _ _ (by rw [size1]; omega)
    exact (World.cell?_of_block (by rw [hb]; exact h1)).trans h0
   have HKB : Hid (W0.heap.size + 1 < ((W0.alloc (.cells #[] 106)).alloc (.cells #[.int .i64 u.f, .int .i64 s.t] 106)).drew.heap.size) := by unfold Hid; show _ < ((W0.alloc _).alloc _).heap.size; rw [size1, size1]; omega
   have HKC : Hid (W0.heap.size < ((W0.alloc (.cells #[.int .i64 u.f, .int .i64 s.t] 106)).alloc (.cells #[] 106)).drew.heap.size) := by unfold Hid; show _ < ((W0.alloc _).alloc _).heap.size; rw [size1, size1]; omega
   have hNa : Below W0.heap.size W0 (W0.alloc (.cells #[.int .i64 u.f, .int .i64 s.t] 106)).drew := hN0.drew
   have HLEN : Hid ((sps fr).length = n * 2) := by unfold Hid; rw [sps_len, ← HNL.out]
   have HONE : Hid (∀ x ∈ sps fr, x.oneCell' = true) := fun x hx => by
    unfold sps at hx
    obtain ⟨y, _, hy⟩ := List.mem_flatMap.1 hx
    exact two_one _ _ x hy
   have HM1 : Hid (0 + n ≤ maxLen) := by unfold Hid maxLen; have := HNN.out; have := HNLE.out; omega
   have HM2 : Hid ((0 + n) * 16 ≤ 140737488355328) := by unfold Hid; have := HNN.out; have := HNLE.out; omega
   have HM3 : Hid (0 + n + 1 ≤ maxLen) := by unfold Hid maxLen; have := HNN.out; have := HNLE.out; omega
   have HM4 : Hid ((0 + n + 1) * 16 ≤ 140737488355328) := by unfold Hid; have := HNN.out; have := HNLE.out; omega
   have HSI := glue_front (some ⟨g, 0, none⟩) N cap n (by omega)
   clear hR hN0 hE0
   go_region_held3 (fun W => W.cell? ⟨g, n * 2, none⟩ = some (.int .i64 u.f) ∧ W.cell? ⟨w.heap.size, 1, none⟩ = some (.int .i64 s.t))
    (first | with_reducible exact HSC.out _ hX | with_reducible exact HSC.out _ hZ | with_reducible exact HSC.out _ hY | with_reducible exact HSC.out _ (HAL.out _ _ hY) | with_reducible exact HSC.out _ HGa.out.frame | with_reducible exact HSC.out _ HGb.out.frame | with_reducible exact HSC.out _ HGc.out.frame | with_reducible exact HSC.out _ hNa | assumption)
    (first | (have hseen := hY; clear hseen; first | (refine step_own rfl (.tmp 26) (.tmp 36) 74 rfl W0.heap.size 106 i0 _ 2 16 Tryz.underlying74 hi hz0 hz1 hz2 rfl (by decide) v1 (0 + n) ([] ++ sps fr) rfl hown1 ⟨_, 0, none⟩ 1 1 [.int .i64 u.f, .int .i64 s.t] rfl rfl hN (two_one _ _) HM3.out HM4.out hY.size ?_; intro v3 w4 hown3 hgrow3; have hZ := app_below hY hY.size hown1 hgrow3) | (refine step_own rfl (.tmp 26) (.tmp 36) 74 rfl W0.heap.size 106 i0 _ 2 16 Tryz.underlying74 hi hz0 hz1 hz2 rfl (by decide) v1 (0 + n) ([] ++ sps fr) rfl (hown1.alloc _) ⟨w2.heap.size, 0, none⟩ 1 1 [.int .i64 u.f, .int .i64 s.t] rfl rfl (news_at _ _ _ _ rfl) (two_one _ _) HM3.out HM4.out (HAS.out _ hY) ?_; intro v3 w4 hown3 hgrow3; have hZ := app_below (HAL.out _ _ hY) (HAS.out _ hY) (hown1.alloc _) hgrow3)) | (refine step_own rfl (.tmp 21) (.tmp 25) 74 rfl W0.heap.size 106 i0 _ 2 16 Tryz.underlying74 hi hz0 hz1 hz2 rfl (by decide) _ 0 [] rfl HGa.out.own ⟨g, 0, none⟩ n cap (sps fr) rfl HLEN.out (HFW.out _ HGa.out.frame) HONE.out HM1.out HM2.out HGa.out.size ?_; intro v1 w2 hown1 hgrow; have hY := app_below HGa.out.frame HGa.out.size HGa.out.own hgrow) | (refine step_own rfl (.tmp 21) (.tmp 25) 74 rfl W0.heap.size 106 i0 _ 2 16 Tryz.underlying74 hi hz0 hz1 hz2 rfl (by decide) _ 0 [] rfl HGb.out.own ⟨g, 0, none⟩ n cap (sps fr) rfl HLEN.out (HFW.out _ HGb.out.frame) HONE.out HM1.out HM2.out HGb.out.size ?_; intro v1 w2 hown1 hgrow; have hY := app_below HGb.out.frame HGb.out.size HGb.out.own hgrow; have hN := far_news (b := W0.heap.size) (k := W0.heap.size + 1) hgrow HKB.out (Nat.succ_ne_self _) HNB.out) | (refine step_own rfl (.tmp 21) (.tmp 25) 74 rfl W0.heap.size 106 i0 _ 2 16 Tryz.underlying74 hi hz0 hz1 hz2 rfl (by decide) _ 0 [] rfl HGc.out.own ⟨g, 0, none⟩ n cap (sps fr) rfl HLEN.out (HFW.out _ HGc.out.frame) HONE.out HM1.out HM2.out HGc.out.size ?_; intro v1 w2 hown1 hgrow; have hY := app_below HGc.out.frame HGc.out.size HGc.out.own hgrow; have hN := far_news (b := W0.heap.size + 1) (k := W0.heap.size) hgrow HKC.out (Nat.ne_of_lt (Nat.lt_succ_self _)) HNC.out))
   all_goals
    have HO4 : Hid (w4.ownsRow B 106 2 v3 (fr ++ [(⟨u.f, s.t⟩ : SpM)]).length (sps (fr ++ [(⟨u.f, s.t⟩ : SpM)]))) := by
     unfold Hid
     rw [sps_snoc, List.length_append, ← HNL.out]
     have h := own_low hown3 (Nat.le_trans hB HW0.out.size)
     rw [Nat.zero_add] at h
     exact h
    have HB4 := Lib.hid ((HW0.out.mono hB).trans (hZ.mono (Nat.le_trans hB HW0.out.size)))
    clear hown3 hgrow3 hgrow hown1 hY hZ
    go_wp2
    go_ret
    exact ⟨_, rfl, HO4.out, HB4.out⟩
  ·rw [if_neg he]
   obtain ⟨c0, c1⟩ := HCL.out _ ((Below.refl w.heap.size w).alloc (Nat.le_refl _) (.cells #[.int .i64 s.f, .int .i64 s.t] 106))
   have hwr : IntKind.i64.wrap ((N : Int) - 1) = (n : Int) := by rw [IntWalk.i64_in] <;> omega
   have hb0 : (0 : Int) < (N : Int) := by omega
   have hb1 : (n : Int) < (N : Int) := by omega
   have hb2 : (0 : Int) ≤ (n : Int) := Int.natCast_nonneg _
   have hb3 : (n : Int) ≤ (cap : Int) := by omega
   have hg0 : decide (0 < N) = true := decide_eq_true (by omega)
   have hg1 : 0 < N := by omega
   have he0 : (u.t == s.f) = false := beq_eq_false_iff_ne.2 he
   have he1 : decide (u.t = s.f) = false := decide_eq_false he
   have HNN := Lib.hid hNn
   have HM3 : Hid (N + 1 ≤ maxLen) := by unfold Hid maxLen; omega
   have HM4 : Hid ((N + 1) * 16 ≤ 140737488355328) := by unfold Hid; omega
   have HA1 : ∀ q, Hid (Below w.heap.size w (((w.alloc (.cells #[.int .i64 s.f, .int .i64 s.t] 106)).drewN q).alloc (.cells #[.int .i64 s.f, .int .i64 s.t] 106))) := fun q => (((Below.refl _ _).alloc (Nat.le_refl _) _).trans (Drew.below ⟨q, rfl⟩ _)).alloc (by show _ ≤ (w.alloc _).heap.size; rw [size1]; omega) _
   have HO1 := fun q => Lib.hid (own_below HO.out (HA1 q).out)
   have HS1 := fun q => Lib.hid (Nat.le_trans hB (HA1 q).out.size)
   clear hNn hNl hcN'
   go_enter Tryz.func160, Tryz.ntmps160
   go_wp2
   go_quiet (fail)
   go_wp2_with (at_builtin; refine wpList_append_own _ rfl (.tmp 38) (.tmp 40) 74 rfl B 106 i0 _ 2 16 Tryz.underlying74 hi hz0 hz1 hz2 rfl (by decide) _ _ _ rfl (HO1 _).out ⟨w.heap.size + 1, 0, none⟩ 1 1 [.int .i64 s.f, .int .i64 s.t] rfl rfl (news_at _ _ _ _ (by show _ = (w.alloc _).heap.size; rw [size1])) (two_one _ _) HM3.out HM4.out (HS1 _).out ?_; intro v' w2 hown' hgrow hiff)
   have HB3 := Lib.hid (app_below ((HA1 _).out.mono hB) (HS1 _).out (HO1 _).out hgrow)
   have HO3 : Hid (w2.ownsRow B 106 2 v' (fr ++ [u] ++ [s]).length (sps (fr ++ [u] ++ [s]))) := by
    unfold Hid
    rw [sps_snoc, List.length_append, ← HN.out]
    exact hown'
   clear hown' hgrow hiff
   go_wp2
   go_ret
   exact ⟨_, rfl, HO3.out, HB3.out⟩
end Go.Proofs.YtapacckmgmdnoaaGreat
namespace Go.Proofs.YtapacckmgmdnoaaGreat
open Go.RowKit Go.Proofs
set_option linter.unusedVariables false
set_option maxRecDepth 100000
set_option maxRecDepth 100000
def stC (st : StM) : Array Value := #[.int .i64 st.f, .int .i64 st.t, .int .i64 st.n, .int .i64 st.s]
end Go.Proofs.YtapacckmgmdnoaaGreat
