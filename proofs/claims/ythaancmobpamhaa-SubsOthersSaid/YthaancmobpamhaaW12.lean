/- Layer 7: the program's Norm: contract. -/
import Derived.Test.YthaancmobpamhaaW11
namespace Go.Proofs.Ythaancmobpamhaa
open Go.RowKit Go.Sort Go.Proofs
set_option linter.unusedVariables false
set_option maxRecDepth 100000
set_option maxRecDepth 100000

/-- the last span of a row of one's own, where it lies -/
theorem own_last {w : World} {B e n N cap g : Nat} {fr : List SpM} {u : SpM} (h : w.ownsRow B e 2 (.slice (some ⟨g, 0, none⟩) N cap) N (sps (fr ++ [u]))) (hn : n = fr.length) (hN : N = n + 1) :
    w.cell? ⟨g, n * 2, none⟩ = some (.int .i64 u.f) ∧ w.cell? ⟨g, n * 2 + 1, none⟩ = some (.int .i64 u.t) ∧ w.frozen? ⟨g, n * 2 + 1, none⟩ = false := by
  subst hN
  have hl : (fr ++ [u]).length = n + 1 := by rw [hn]; simp
  obtain ⟨g1, g2⟩ := sps_get (fr ++ [u]) n (by omega)
  have hx : (fr ++ [u])[n]'(by omega) = u := by subst hn; simp
  rw [hx] at g1 g2
  exact ⟨by rw [h.cellAt _ (by omega)]; exact g1, by rw [h.cellAt _ (by omega)]; exact g2, h.frozenAt _⟩
theorem sps_set (fr : List SpM) (u : SpM) (n : Nat) (hn : n = fr.length) (x : Int) : (sps (fr ++ [u])).set (n * 2 + 1) (.int .i64 x) = sps (fr ++ [(⟨u.f, x⟩ : SpM)]) := by
  rw [sps_snoc, sps_snoc, List.set_append_right _ _ (by rw [sps_len]; omega), sps_len]
  have : n * 2 + 1 - fr.length * 2 = 1 := by omega
  rw [this]
  rfl
/-- the last span ends elsewhere -/
theorem own_end {w : World} {B e n N cap g : Nat} {fr : List SpM} {u : SpM} (h : w.ownsRow B e 2 (.slice (some ⟨g, 0, none⟩) N cap) N (sps (fr ++ [u]))) (hn : n = fr.length) (hN : N = n + 1) (hB : B ≤ g) (x : Int) :
    (w.setCell ⟨g, n * 2 + 1, none⟩ (.int .i64 x)).ownsRow B e 2 (.slice (some ⟨g, 0, none⟩) N cap) (fr ++ [(⟨u.f, x⟩ : SpM)]).length (sps (fr ++ [(⟨u.f, x⟩ : SpM)])) := by
  subst hN
  have hl2 : (fr ++ [(⟨u.f, x⟩ : SpM)]).length = n + 1 := by rw [hn]; simp
  have := (h.stored (n * 2 + 1) (.int .i64 x)).1
  rw [sps_set fr u n hn x] at this
  rw [hl2]
  exact this
theorem mergeS_le (r : List SpM) (s : SpM) : (mergeS r s).length ≤ r.length + 1 := by
  rcases List.eq_nil_or_concat r with rfl | ⟨fr, u, hfu⟩
  · rw [mergeS_nil]; simp
  · rw [hfu, List.concat_eq_append, mergeS_snoc]
    split <;> simp
theorem merged_perm {m l r : List SpM} (hp : m.Perm (l.filter hasS)) (h : Merged m r) : IsSet (HasL l) r :=
  h.set.congr fun x => ⟨fun ⟨s, hs, h1⟩ => ⟨s, (List.mem_filter.1 (hp.mem_iff.1 hs)).1, h1⟩, fun ⟨s, hs, h1⟩ => ⟨s, hp.mem_iff.2 (List.mem_filter.2 ⟨hs, decide_eq_true (by omega)⟩), h1⟩⟩

set_option maxHeartbeats 4000000 in
theorem norm_any (a : Option Addr) (c : Nat) (l : List SpM) (w : World) (hr : SpSl w a l) (hl : l.length ≤ 100000) (hc : l.length ≤ c) (hcm : c ≤ maxLen) :
    Calls Try.prog 42 #[.slice a l.length c] w fun e w' => ∃ (v : Value) (r : List SpM), e = .returned v ∧ IsSet (HasL l) r ∧ r.length ≤ l.length ∧ w'.ownsRow w.heap.size 56 2 v r.length (sps r) ∧ Below w.heap.size w w' := by
  obtain ⟨i0, hi, hz0, hz1, hz2⟩ := info_parts infoSpan
  have HRI := Lib.hid (rising_any a c l w hr hl hc hcm)
  clear hr hc hcm
  go_enter Try.func42, Try.ntmps42
  go_wp2_with fail
  refine HRI.out.mono ?_
  rintro e w1 ⟨x, q, m, rfl, hp, hs, hsp, hB1⟩
  have hml : m.length ≤ l.length := by rw [hp.length_eq]; exact List.length_filter_le _ _
  have HP := Lib.hid hp
  have HS := Lib.hid hs
  have HSP := Lib.hid hsp
  have HB1 := Lib.hid hB1
  have HT : Hid (∀ s ∈ m, s.f < s.t) := fun s hs => of_decide_eq_true (List.mem_filter.1 (hp.mem_iff.1 hs)).2
  clear hp hs hsp hB1 HRI
  go_wp2
  go_loopw [3, 10] (fun v i wr => ∃ (j : Nat) (r : List SpM), j ≤ m.length ∧ i = .int .i64 j ∧ r.length ≤ j ∧ Hid (Merged (m.take j) r) ∧ Hid (wr.ownsRow w1.heap.size 56 2 v r.length (sps r)) ∧ Hid (Below w1.heap.size w1 wr)) (fun _ i _ => m.length - (intOf i).toNat)
  case atStart => exact ⟨0, [], by omega, rfl, by simp, Merged.nil, ⟨rfl, .inl ⟨rfl, rfl⟩⟩, Below.refl _ _⟩
  case round =>
    obtain ⟨j, r, hj, rfl, hrj, HM, HO, HB⟩ := hrel
    by_cases hjl : j < m.length
    · obtain ⟨b, off, rfl, hbl, hc0, hc1⟩ := (HSP.out.below HB.out).at_ hjl
      have HM2 : Hid (Merged (m.take (j + 1)) (mergeS r m[j])) := by
        unfold Hid
        rw [List.take_succ_eq_append_getElem hjl]
        refine HM.out.step (HT.out _ (List.getElem_mem hjl)) fun u hu => ?_
        obtain ⟨k, hk, rfl⟩ := List.getElem_of_mem hu
        rw [List.getElem_take]
        exact (List.pairwise_iff_getElem.1 HS.out) k j _ hjl (by simp at hk; omega)
      generalize m[j] = s at *
      have hle := mergeS_le r s
      have HA := Lib.hid ((Below.refl wr.heap.size wr).alloc (Nat.le_refl _) (.cells #[.int .i64 s.f, .int .i64 s.t] 56))
      have HBX : Hid ((wr.alloc (.cells #[.int .i64 s.f, .int .i64 s.t] 56)).heap[wr.heap.size]? = some (.cells #[.int .i64 s.f, .int .i64 s.t] 56 (0, 0))) := heap_alloc_new _ _
      have HAN : ∀ q, Hid (Below wr.heap.size wr (((wr.alloc (.cells #[.int .i64 s.f, .int .i64 s.t] 56)).drewN q).alloc (.cells #[.int .i64 s.f, .int .i64 s.t] 56))) := fun q => (HA.out.trans (Drew.below ⟨q, rfl⟩ _)).alloc (by show _ ≤ (wr.alloc _).heap.size; rw [size1]; omega) _
      have HON := fun q => Lib.hid (own_below HO.out (HAN q).out)
      have HBN := fun q => Lib.hid (HB.out.trans ((HAN q).out.mono HB.out.size))
      have HSN := fun q => Lib.hid (HBN q).out.size
      rcases List.eq_nil_or_concat r with hr0 | ⟨fr, u, hfu⟩
      · subst hr0
        rw [mergeS_nil] at HM2
        obtain ⟨av, cv, rfl, _, _⟩ := own_sp HO.out
        simp only [List.length_nil] at *
        go_wp2
        go_quiet (fail)
        go_wp2_with (at_builtin; refine wpList_append_own _ rfl (.tmp 41) (.tmp 43) 42 rfl w1.heap.size 56 i0 _ 2 16 Try.underlying42 hi hz0 hz1 hz2 rfl (by decide) _ _ _ rfl (HON _).out ⟨wr.heap.size + 1, 0, none⟩ 1 1 [.int .i64 s.f, .int .i64 s.t] rfl rfl (news_at _ _ _ _ (by show _ = (wr.alloc _).heap.size; rw [size1])) (two_one _ _) (by unfold maxLen; omega) (by omega) (HSN _).out ?_; intro v' w2 hown' hgrow hiff)
        have HB3 := Lib.hid (app_below (HBN _).out (HSN _).out (HON _).out hgrow)
        have HO3 : Hid (w2.ownsRow w1.heap.size 56 2 v' [s].length (sps [s])) := hown'
        clear hown' hgrow hiff
        go_wp2
        go_roundw
        case rel => exact ⟨j + 1, [s], by omega, by go_num, by simp, HM2, HO3, HB3⟩
        case measure => simp [intOf]; omega
      · obtain rfl : r = fr ++ [u] := by rw [hfu, List.concat_eq_append]
        clear hfu
        rw [mergeS_snoc] at HM2 hle
        obtain ⟨n, hn⟩ : ∃ n, n = fr.length := ⟨_, rfl⟩
        obtain ⟨N, hN⟩ : ∃ N, N = (fr ++ [u]).length := ⟨_, rfl⟩
        have hNn : N = n + 1 := by rw [hN, hn]; simp
        obtain ⟨ga, cap, rfl, hcN, hsp⟩ := own_sp HO.out
        obtain ⟨g, rfl, hcm⟩ : ∃ g, ga = some ⟨g, 0, none⟩ ∧ cap ≤ 9223372036854775807 := by
          rcases HO.out.2 with ⟨h0, _⟩ | ⟨g, cap', _, h0, _, _, _, h1, _⟩
          · injection h0 with e1 e2 e3
            simp at e2
          · injection h0 with e1 e2 e3
            exact ⟨g, e1, by rw [e3]; exact h1⟩
        have hgB : w1.heap.size ≤ g := (HO.out.lt g rfl).1
        rw [← hN] at HO hrj hle hcN HON
        rw [← hN]
        have HNL := Lib.hid hn
        have HNN := Lib.hid hN
        have HN1 := Lib.hid hNn
        have hwr : IntKind.i64.wrap ((N : Int) - 1) = (n : Int) := by rw [IntWalk.i64_in] <;> omega
        have hb1 : (n : Int) < (N : Int) := by omega
        have hb2 : (0 : Int) ≤ (n : Int) := Int.natCast_nonneg _
        have HHB := Lib.hid hgB
        have HOD := fun q => Lib.hid (own_below HO.out (HA.out.trans (Drew.below ⟨q, rfl⟩ wr.heap.size)))
        have HBD := fun q => Lib.hid (HB.out.trans ((HA.out.trans (Drew.below ⟨q, rfl⟩ wr.heap.size)).mono HB.out.size))
        obtain ⟨c0, c1, c2⟩ := own_last (own_below HO.out HA.out) hn hNn
        have hjN : N ≤ j := hrj
        have hN0 : 0 < N := by omega
        clear hN hn hNn hsp hgB
        by_cases hsu : s.f ≤ u.t
        · rw [if_pos hsu] at HM2 hle
          have hd0 : decide (s.f ≤ u.t) = true := decide_eq_true hsu
          have hd1 : decide ((0 : Int) ≤ (n : Int)) = true := decide_eq_true hb2
          obtain ⟨mx, hmx⟩ : ∃ mx, mx = max u.t s.t := ⟨_, rfl⟩
          rw [← hmx] at HM2 hle
          have p1 := (cells2 (W := (wr.alloc (.cells #[.int .i64 s.f, .int .i64 s.t] 56))) HBX.out).2
          rcases Int.lt_or_le u.t s.t with hm | hm
          · have e1 : max u.t s.t = s.t := by omega
            rw [e1] at hmx
            subst hmx
            go_wp2
            go_quiet (fail)
            go_wp2_with fail
            go_region
            have HO5 := Lib.hid (own_end (HOD nq).out.drew HNL.out HN1.out HHB.out s.t)
            have HB5 := Lib.hid ((HBD nq).out.drew.setCell (p := ⟨g, n * 2 + 1, none⟩) HHB.out (.int .i64 s.t))
            clear HOD HBD HON HBN HSN
            go_wp2
            go_roundw
            case rel => exact ⟨j + 1, fr ++ [(⟨u.f, s.t⟩ : SpM)], by omega, by go_num, by omega, HM2, HO5, HB5⟩
            case measure => simp [intOf]; omega
          · have e1 : max u.t s.t = u.t := by omega
            rw [e1] at hmx
            subst hmx
            go_wp2
            go_quiet (fail)
            go_wp2_with fail
            go_region
            have HO5 := Lib.hid (own_end (HOD nq).out.drew HNL.out HN1.out HHB.out u.t)
            have HB5 := Lib.hid ((HBD nq).out.drew.setCell (p := ⟨g, n * 2 + 1, none⟩) HHB.out (.int .i64 u.t))
            clear HOD HBD HON HBN HSN
            go_wp2
            go_roundw
            case rel => exact ⟨j + 1, fr ++ [(⟨u.f, u.t⟩ : SpM)], by omega, by go_num, by omega, HM2, HO5, HB5⟩
            case measure => simp [intOf]; omega
        · rw [if_neg hsu] at HM2 hle
          have hd0 : decide (s.f ≤ u.t) = false := decide_eq_false hsu
          have hd1 : decide ((0 : Int) ≤ (n : Int)) = true := decide_eq_true hb2
          clear HOD HBD
          go_wp2
          go_quiet (fail)
          go_wp2_with (at_builtin; refine wpList_append_own _ rfl (.tmp 41) (.tmp 43) 42 rfl w1.heap.size 56 i0 _ 2 16 Try.underlying42 hi hz0 hz1 hz2 rfl (by decide) _ _ _ rfl (HON _).out ⟨wr.heap.size + 1, 0, none⟩ 1 1 [.int .i64 s.f, .int .i64 s.t] rfl rfl (news_at _ _ _ _ (by show _ = (wr.alloc _).heap.size; rw [size1])) (two_one _ _) (by unfold maxLen; omega) (by omega) (HSN _).out ?_; intro v' w2 hown' hgrow hiff)
          have HB3 := Lib.hid (app_below (HBN _).out (HSN _).out (HON _).out hgrow)
          have HO3 : Hid (w2.ownsRow w1.heap.size 56 2 v' (fr ++ [u] ++ [s]).length (sps (fr ++ [u] ++ [s]))) := by
            unfold Hid
            rw [sps_snoc, List.length_append, ← HNN.out]
            exact hown'
          clear hown' hgrow hiff
          go_wp2
          go_roundw
          case rel => exact ⟨j + 1, fr ++ [u] ++ [s], by omega, by go_num, by omega, HM2, HO3, HB3⟩
          case measure => simp [intOf]; omega
    · obtain rfl : j = m.length := by omega
      rw [List.take_of_length_le (Nat.le_refl _)] at HM
      have HD := Lib.hid (merged_perm HP.out HM.out)
      go_wp2
      go_ret
      first | exact ⟨_, r, rfl, HD.out, by omega, own_low HO.out HB1.out.size, HB1.out.trans (HB.out.mono HB1.out.size)⟩ | exact ⟨_, rfl, r, HD.out, by omega, own_low HO.out HB1.out.size, HB1.out.trans (HB.out.mono HB1.out.size)⟩
end Go.Proofs.Ythaancmobpamhaa
