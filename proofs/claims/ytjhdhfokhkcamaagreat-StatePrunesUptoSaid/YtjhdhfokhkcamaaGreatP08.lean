/- Texts of mine, one behind the other, of each what is wanted: AB15. -/
import Derived.Test.YtjhdhfokhkcamaaGreatP07
namespace Go.Proofs.YtjhdhfokhkcamaaGreat
open Go.RowKit Go.Proofs
set_option linter.unusedVariables false
set_option maxRecDepth 100000
set_option maxRecDepth 100000
theorem econcatR (x y z : Option Addr) (A B C : List EnM) (c1 c2 c3 n1 n2 n3 : Nat) (W : World) (g : Nat) (T : TypeId) (h1 : n1 = A.length) (h2 : n2 = B.length) (h3 : n3 = C.length) (hA : EnSl W x A) (hB : EnSl W y B) (hC : EnSl W z C) (k1 : x = none → c1 = 0) (k2 : y = none → c2 = 0) (k3 : z = none → c3 = 0) (hg : g = W.heap.size) (hl : A.length + (B.length + C.length) ≤ 1000) :
    Calls Tryz.prog 167 #[.slice (some ⟨g, 0, none⟩) 3 3] (W.alloc (.cells #[.slice x n1 c1, .slice y n2 c2, .slice z n3 c3] T)).drew fun e w' => ∃ v, e = .returned v ∧ w'.ownsRow W.heap.size 123 4 v (A ++ (B ++ C)).length (ens (A ++ (B ++ C))) ∧ Below W.heap.size W w' := by
  subst hg h1 h2 h3
  have hcat : catE [⟨x, A, c1⟩, ⟨y, B, c2⟩, ⟨z, C, c3⟩] = A ++ (B ++ C) := by simp [catE]
  have hb := (ebelow_one W (.cells #[.slice x A.length c1, .slice y B.length c2, .slice z C.length c3] T)).drew
  have hlen : (catE [⟨x, A, c1⟩, ⟨y, B, c2⟩, ⟨z, C, c3⟩]).length ≤ 100000 := by rw [hcat, List.length_append, List.length_append]; omega
  refine (econcat_any (some ⟨W.heap.size, 0, none⟩) 3 [⟨x, A, c1⟩, ⟨y, B, c2⟩, ⟨z, C, c3⟩] _ (sl_drew3 W #[.slice x A.length c1, .slice y B.length c2, .slice z C.length c3] T) ?_ (by show 3 ≤ _; decide) hlen).mono ?_
  · intro r hr
    simp only [List.mem_cons, List.mem_nil_iff, or_false] at hr
    rcases hr with rfl | rfl | rfl
    · exact ⟨hA.below hb, k1⟩
    · exact ⟨hB.below hb, k2⟩
    · exact ⟨hC.below hb, k3⟩
  · rintro e w' ⟨v, rfl, ho, hbb⟩
    rw [hcat] at ho
    exact ⟨v, rfl, own_low ho hb.size, hb.trans (hbb.mono hb.size)⟩
set_option maxHeartbeats 8000000 in
theorem revoke_any (a : Option Addr) (c : Nat) (l : List EnM) (p u : ByteArray) (n : Int) (w : World) (hr : EnSl w a l) (hl : l.length ≤ 500) (hc : l.length ≤ c) (hcm : c ≤ maxLen) :
    Calls Tryz.prog 114 #[.slice a l.length c, pr p u, .int .i64 n] w fun e w' => (l.any (infE p u) = false ∧ e = .returned (.tuple #[.slice none 0 0, .int .i64 91]) ∧ Below w.heap.size w w') ∨
      (l.any (infE p u) = true ∧ ∃ v, e = .returned (.tuple #[v, .int .i64 0]) ∧ w'.ownsRow w.heap.size 123 4 v (revokeS l p u n).length (ens (revokeS l p u n)) ∧ Below w.heap.size w w') := by
  obtain ⟨i0, hi, hz0, hz1', hz2'⟩ := info_parts infoEn
  have HPC := Lib.hid (PK.new hr p u 121)
  have HIF := Lib.hid (fun W (h : EnSl W a l) => inforce_any a c l p u W h (by omega))
  have HF := first_idx (infE p u) l
  have HREV := fun k (h : IsFirst (infE p u) l k) => revoke_at h n
  unfold maxLen at hcm
  unfold pr at *
  generalize hG : revokeS l p u n = G at *
  clear hr hG
  have hany := HF.any
  generalize l.findIdx (infE p u) = k at *
  by_cases hk : k < l.length
  · rw [decide_eq_true hk] at hany
    rw [hany]
    have hix := idx_hit HF hk
    have hG2 := HREV k HF
    rw [cut_at hk] at hG2
    rw [hix] at HIF
    clear HREV HF hix hany
    have hd0 : decide ((k : Int) < 0) = false := decide_eq_false (by omega)
    go_enter Tryz.func114, Tryz.ntmps114
    go_wp2_with fail
    refine (HIF.out _ HPC.out.row).mono ?_
    rintro e w1 ⟨rfl, hB⟩
    have K1 := Lib.hid (HPC.out.below hB)
    obtain ⟨b, off, rfl, hbl, hc0, hc1, hc2, hc3⟩ := K1.out.row.at_ hk
    generalize l[k] = x at *
    have HGH := Lib.hid hG2
    have HK2 : Hid (RsE w w1.heap.size ⟨x.w, x.u, x.f, n⟩ (some ⟨b, off, none⟩) l (w1.alloc (.cells #[.string x.w, .string x.u, .int .i64 x.f, .int .i64 n] 123))) := RsE.new (x := ⟨x.w, x.u, x.f, n⟩) K1.out.row K1.out.frame 123
    have HSB : Hid (∀ W, RsE w w1.heap.size ⟨x.w, x.u, x.f, n⟩ (some ⟨b, off, none⟩) l W → W.cell? ⟨w1.heap.size, 0, none⟩ = some (.string x.w) ∧ W.cell? ⟨w1.heap.size, 1, none⟩ = some (.string x.u) ∧ W.cell? ⟨w1.heap.size, 2, none⟩ = some (.int .i64 x.f) ∧ W.cell? ⟨w1.heap.size, 3, none⟩ = some (.int .i64 n)) := fun W h => h.box
    have HNO := Lib.hid (fun W => enone_any x.f n W)
    obtain ⟨k1, hk1⟩ : ∃ k1, k1 = k + 1 := ⟨_, rfl⟩
    have HK1 := Lib.hid hk1
    have hpw : IntKind.i64.wrap ((k : Int) + 1) = (k1 : Int) := by rw [IntWalk.i64_in] <;> omega
    have hk1l : k1 ≤ l.length := by omega
    have hkk : k < k1 := by omega
    have hz1 : (0 : Int) ≤ (k : Int) := by omega
    have hz2 : (k : Int) ≤ (l.length : Int) := by omega
    have hz3 : (k : Int) ≤ (c : Int) := by omega
    have hz4 : (l.length : Int) ≤ (c : Int) := by omega
    have hz5 : (0 : Int) ≤ (k1 : Int) := by omega
    have hz6 : (k1 : Int) ≤ (l.length : Int) := by omega
    have hz7 : (k1 : Int) ≤ (c : Int) := by omega
    have hz8 : k1 ≤ c := by omega
    have hz9 : k ≤ c := by omega
    clear hB HPC HIF hk1 hG2
    by_cases hn : n ≤ x.f
    · rw [decide_eq_true hn] at HNO
      have HGG : Hid (l.take k ++ ([] ++ l.drop (k + 1)) = G) := by have := HGH.out; unfold endS at this; rw [if_pos hn] at this; exact this.symm
      clear HGH hn
      go_wp2_with fail
      refine (HNO.out _).mono ?_
      rintro e w3 ⟨rfl, hB⟩
      have K3 := HK2.out.below hB
      clear HK2 HNO hB K1
      by_cases hck : c = k1
      · have hl1 : l.length = k1 := by omega
        subst hck
        rw [hl1] at *
        have HAC : Hid (∀ W g1 T0, EnSl W (some ⟨b, off, none⟩) l → g1 = W.heap.size → Calls Tryz.prog 167 #[.slice (some ⟨g1, 0, none⟩) 3 3] (W.alloc (.cells #[.slice (some ⟨b, off, none⟩) k c, .slice none 0 0, .slice (some ⟨b, off, none⟩) 0 0] T0)).drew fun e w' => ∃ v, e = .returned v ∧ w'.ownsRow W.heap.size 123 4 v G.length (ens G) ∧ Below W.heap.size W w') := fun W g1 T0 hs e1 => by
          have h := econcatR (some ⟨b, off, none⟩) none (some ⟨b, off, none⟩) (l.take k) [] (l.drop (k + 1)) c 0 0 k 0 0 W g1 T0 (by rw [List.length_take]; omega) rfl (by have := HK1.out; rw [List.length_drop]; omega) (hs.take k) (EnSl.nil _ _) (by have := HK1.out; rw [List.drop_of_length_le (by omega)]; exact EnSl.nil _ _) (fun h => by cases h) (fun _ => rfl) (fun h => by cases h) e1 (by have := HK1.out; rw [List.length_take, List.length_drop]; simp; omega)
          rw [HGG.out] at h
          exact h
        clear HGG HSB
        go_wp2_with fail
        go_region_held3 (fun W => True)
          (first | exact trivial)
          (first | (go_at_call 167; refine (HAC.out _ _ _ K3.row rfl).mono ?_; rintro e w9 ⟨v, rfl, ho9, hb9⟩; have HO9 := Lib.hid ho9; have HB9 := Lib.hid hb9; clear ho9 hb9))
        go_wp2
        go_ret2
        exact Or.inr ⟨by trivial, v, rfl, own_low HO9.out K3.frame.size, K3.frame.trans (HB9.out.mono K3.frame.size)⟩
      · have hck2 : k1 < c := by omega
        have HAC : Hid (∀ W g1 T0, EnSl W (some ⟨b, off, none⟩) l → g1 = W.heap.size → Calls Tryz.prog 167 #[.slice (some ⟨g1, 0, none⟩) 3 3] (W.alloc (.cells #[.slice (some ⟨b, off, none⟩) k c, .slice none 0 0, .slice (some ⟨b, off + k1 * 4, none⟩) (l.length - k1) (c - k1)] T0)).drew fun e w' => ∃ v, e = .returned v ∧ w'.ownsRow W.heap.size 123 4 v G.length (ens G) ∧ Below W.heap.size W w') := fun W g1 T0 hs e1 => by
          have h := econcatR (some ⟨b, off, none⟩) none (some ⟨b, off + k1 * 4, none⟩) (l.take k) [] (l.drop (k + 1)) c 0 (c - k1) k 0 (l.length - k1) W g1 T0 (by rw [List.length_take]; omega) rfl (by have := HK1.out; rw [List.length_drop]; omega) (hs.take k) (EnSl.nil _ _) (by rw [HK1.out]; exact hs.drop (k + 1)) (fun h => by cases h) (fun _ => rfl) (fun h => by cases h) e1 (by have := HK1.out; rw [List.length_take, List.length_drop]; simp; omega)
          rw [HGG.out] at h
          exact h
        clear HGG HSB
        go_wp2_with fail
        go_region_held3 (fun W => True)
          (first | exact trivial)
          (first | (go_at_call 167; refine (HAC.out _ _ _ K3.row rfl).mono ?_; rintro e w9 ⟨v, rfl, ho9, hb9⟩; have HO9 := Lib.hid ho9; have HB9 := Lib.hid hb9; clear ho9 hb9))
        go_wp2
        go_ret2
        exact Or.inr ⟨by trivial, v, rfl, own_low HO9.out K3.frame.size, K3.frame.trans (HB9.out.mono K3.frame.size)⟩
    · rw [decide_eq_false hn] at HNO
      have HGG : Hid (l.take k ++ ([⟨x.w, x.u, x.f, n⟩] ++ l.drop (k + 1)) = G) := by have := HGH.out; unfold endS at this; rw [if_neg hn] at this; exact this.symm
      clear HGH hn
      go_wp2_with fail
      refine (HNO.out _).mono ?_
      rintro e w3 ⟨rfl, hB⟩
      have K3 := HK2.out.below hB
      obtain ⟨d0, d1, d2, d3⟩ := HSB.out _ K3
      have HE3 : Hid ((w3.alloc (.cells #[.string x.w, .string x.u, .int .i64 x.f, .int .i64 n] 123)).ownsRow w3.heap.size 123 4 (.slice none 0 0) 0 []) := ⟨rfl, .inl ⟨rfl, rfl⟩⟩
      have HB3 := Lib.hid (ebelow_one w3 (.cells #[.string x.w, .string x.u, .int .i64 x.f, .int .i64 n] 123))
      have HS3 := Lib.hid HB3.out.size
      clear HK2 HNO hB K1
      go_wp2_with (at_builtin; refine wpList_append_own _ rfl (.tmp 27) (.tmp 29) 35 rfl w3.heap.size 123 i0 _ 4 48 Tryz.underlying35 hi hz0 hz1' hz2' rfl (by decide) _ _ _ rfl HE3.out ⟨w3.heap.size, 0, none⟩ 1 1 [.string x.w, .string x.u, .int .i64 x.f, .int .i64 n] rfl rfl (news_at _ _ _ _ rfl) (four_e _ _ _ _) (by unfold maxLen; omega) (by omega) HS3.out ?_; intro v1 w4 ho1 hgrow hiff)
      have hb4 := app_below HB3.out HS3.out HE3.out hgrow
      have ho4 : w4.ownsRow w3.heap.size 123 4 v1 [(⟨x.w, x.u, x.f, n⟩ : EnM)].length (ens [(⟨x.w, x.u, x.f, n⟩ : EnM)]) := ho1
      obtain ⟨xa, xc, hv, -, -, hsl, hnl⟩ := own_en ho4
      have hv2 : v1 = .slice xa 1 xc := hv
      subst hv2
      have K4 := K3.below hb4
      have HY := Lib.hid hsl
      have HYN := Lib.hid hnl
      clear hv ho4 ho1 hgrow hiff hb4 HE3 HB3 HS3 d0 d1 d2 d3 hsl hnl K3
      by_cases hck : c = k1
      · have hl1 : l.length = k1 := by omega
        subst hck
        rw [hl1] at *
        have HAC : Hid (∀ W g1 T0, EnSl W (some ⟨b, off, none⟩) l → EnSl W xa [⟨x.w, x.u, x.f, n⟩] → g1 = W.heap.size → Calls Tryz.prog 167 #[.slice (some ⟨g1, 0, none⟩) 3 3] (W.alloc (.cells #[.slice (some ⟨b, off, none⟩) k c, .slice xa 1 xc, .slice (some ⟨b, off, none⟩) 0 0] T0)).drew fun e w' => ∃ v, e = .returned v ∧ w'.ownsRow W.heap.size 123 4 v G.length (ens G) ∧ Below W.heap.size W w') := fun W g1 T0 hs hs2 e1 => by
          have h := econcatR (some ⟨b, off, none⟩) xa (some ⟨b, off, none⟩) (l.take k) [⟨x.w, x.u, x.f, n⟩] (l.drop (k + 1)) c xc 0 k 1 0 W g1 T0 (by rw [List.length_take]; omega) rfl (by have := HK1.out; rw [List.length_drop]; omega) (hs.take k) hs2 (by have := HK1.out; rw [List.drop_of_length_le (by omega)]; exact EnSl.nil _ _) (fun h => by cases h) HYN.out (fun h => by cases h) e1 (by have := HK1.out; rw [List.length_take, List.length_drop]; simp; omega)
          rw [HGG.out] at h
          exact h
        clear HGG HSB
        go_wp2_with fail
        go_region_held3 (fun W => True)
          (first | exact trivial)
          (first | (go_at_call 167; refine (HAC.out _ _ _ K4.row HY.out rfl).mono ?_; rintro e w9 ⟨v, rfl, ho9, hb9⟩; have HO9 := Lib.hid ho9; have HB9 := Lib.hid hb9; clear ho9 hb9))
        go_wp2
        go_ret2
        exact Or.inr ⟨by trivial, v, rfl, own_low HO9.out K4.frame.size, K4.frame.trans (HB9.out.mono K4.frame.size)⟩
      · have hck2 : k1 < c := by omega
        have HAC : Hid (∀ W g1 T0, EnSl W (some ⟨b, off, none⟩) l → EnSl W xa [⟨x.w, x.u, x.f, n⟩] → g1 = W.heap.size → Calls Tryz.prog 167 #[.slice (some ⟨g1, 0, none⟩) 3 3] (W.alloc (.cells #[.slice (some ⟨b, off, none⟩) k c, .slice xa 1 xc, .slice (some ⟨b, off + k1 * 4, none⟩) (l.length - k1) (c - k1)] T0)).drew fun e w' => ∃ v, e = .returned v ∧ w'.ownsRow W.heap.size 123 4 v G.length (ens G) ∧ Below W.heap.size W w') := fun W g1 T0 hs hs2 e1 => by
          have h := econcatR (some ⟨b, off, none⟩) xa (some ⟨b, off + k1 * 4, none⟩) (l.take k) [⟨x.w, x.u, x.f, n⟩] (l.drop (k + 1)) c xc (c - k1) k 1 (l.length - k1) W g1 T0 (by rw [List.length_take]; omega) rfl (by have := HK1.out; rw [List.length_drop]; omega) (hs.take k) hs2 (by rw [HK1.out]; exact hs.drop (k + 1)) (fun h => by cases h) HYN.out (fun h => by cases h) e1 (by have := HK1.out; rw [List.length_take, List.length_drop]; simp; omega)
          rw [HGG.out] at h
          exact h
        clear HGG HSB
        go_wp2_with fail
        go_region_held3 (fun W => True)
          (first | exact trivial)
          (first | (go_at_call 167; refine (HAC.out _ _ _ K4.row HY.out rfl).mono ?_; rintro e w9 ⟨v, rfl, ho9, hb9⟩; have HO9 := Lib.hid ho9; have HB9 := Lib.hid hb9; clear ho9 hb9))
        go_wp2
        go_ret2
        exact Or.inr ⟨by trivial, v, rfl, own_low HO9.out K4.frame.size, K4.frame.trans (HB9.out.mono K4.frame.size)⟩
  · rw [decide_eq_false hk] at hany
    rw [hany]
    have hix : idxI (infE p u) l = -1 := by
      obtain rfl : k = l.length := Nat.le_antisymm HF.le (by omega)
      exact idx_miss HF
    rw [hix] at HIF
    clear HREV HF hix hany hk
    go_enter Tryz.func114, Tryz.ntmps114
    go_wp2_with fail
    refine (HIF.out _ HPC.out.row).mono ?_
    rintro e w1 ⟨rfl, hB⟩
    have K1 := Lib.hid (HPC.out.below hB)
    go_wp2
    go_ret2
    exact Or.inl ⟨by trivial, rfl, K1.out.frame⟩
end Go.Proofs.YtjhdhfokhkcamaaGreat
