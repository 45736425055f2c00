/- Layer 8: the stays sorted, as the document has it: contract. -/
import Derived.Test.YtbcabbddgppkaaaZ10
namespace Go.Proofs.Ytbcabbddgppkaaa
open Go.RowKit Go.Sort Go.Proofs
set_option linter.unusedVariables false
set_option maxRecDepth 100000

theorem sorted_own {w' : World} {B B' : Nat} {v : Value} {M : List StM} {x : StM} {q : Nat} (h : putS M x = M.take q ++ x :: M.drop q) (ho : w'.ownsRow B 47 4 v ((([] ++ M.take q) ++ [x]) ++ M.drop q).length (sts ((([] ++ M.take q) ++ [x]) ++ M.drop q))) (hb : B' ≤ B) :
    w'.ownsRow B' 47 4 v (putS M x).length (sts (putS M x)) := by
  rw [List.nil_append, List.append_assoc, List.singleton_append, ← h] at ho
  exact own_low ho hb
theorem own_shape8 {w : World} {B e k n : Nat} {v : Value} {xs : List Value} (h : w.ownsRow B e k v n xs) : ∃ a c, v = .slice a n c ∧ ((a = none ∧ c = 0 ∧ n = 0) ∨ ∃ b off, a = some ⟨b, off, none⟩) ∧ n ≤ c ∧ c ≤ maxLen := by
  rcases h.2 with ⟨rfl, hn⟩ | ⟨g, cap, cur, rfl, hg, hh, hn, hc, hsz, ht⟩
  · subst hn
    exact ⟨none, 0, rfl, .inl ⟨rfl, rfl, rfl⟩, Nat.le_refl _, by unfold maxLen; omega⟩
  · exact ⟨_, cap, rfl, .inr ⟨_, _, rfl⟩, hn, hc⟩
theorem own_stsl {w : World} {B e c : Nat} {a : Option Addr} {l : List StM} (h : w.ownsRow B e 4 (.slice a l.length c) l.length (sts l)) : StSl w a l := by
  obtain ⟨a', c', e1, _, _, h1, _⟩ := own_st h
  injection e1 with e1 _ _
  rw [e1]; exact h1
theorem place_is {M : List StM} {x : StM} {q : Nat} (hs : SortedS M) (hq : q ≤ M.length) (hlo : ∀ i (h : i < M.length), i < q → ¬ ltSt x M[i]) (hup : ∀ h : q < M.length, ltSt x M[q]) : IsPos M x q := by
  refine ⟨hq, fun j hj hqj => ?_, fun h h1 => hlo _ h1 (by omega)⟩
  have h1 := hup (by omega)
  rcases Nat.eq_or_lt_of_le hqj with h2 | h2
  · subst h2; exact h1
  · exact ltSt_le h1 (List.pairwise_iff_getElem.1 hs q j (by omega) hj h2)
theorem put_take {l M : List StM} {j : Nat} (hj : j < l.length) (h : M.Perm (l.take j)) : (putS M l[j]).Perm (l.take (j + 1)) := by
  rw [List.take_succ_eq_append_getElem hj]
  exact (putS_perm _ _).trans ((h.cons _).trans (List.perm_append_singleton _ _).symm)

set_option maxHeartbeats 4000000 in
theorem sorted_any (a : Option Addr) (c : Nat) (l : List StM) (w : World) (hr : StSl w a l) (hl : l.length ≤ 400000) :
    Calls Try.prog 65 #[.slice a l.length c] w fun e w' => ∃ v m, e = .returned v ∧ m.Perm l ∧ SortedS m ∧ w'.ownsRow w.heap.size 47 4 v m.length (sts m) ∧ Below w.heap.size w w' := by
  obtain ⟨i0, hi, hz0, hz1, hz2⟩ := info_parts infoStayR
  have HCM := Lib.hid (fun x y W => (ahead_any x y W).mono fun e w' (h : _ ∧ Grew W w') => And.intro h.1 (h.2.below (Nat.le_refl _)))
  unfold stV at HCM
  have HR := Lib.hid hr
  clear hr
  go_enter Try.func65, Try.ntmps65
  go_wp2
  go_loopw [3, 4] (fun v i wr => ∃ (j : Nat) (M : List StM), j ≤ l.length ∧ i = .int .i64 j ∧ Hid (M.Perm (l.take j)) ∧ Hid (SortedS M) ∧ Hid (M = [] → v = .slice none 0 0) ∧ Hid (wr.ownsRow w.heap.size 47 4 v M.length (sts M)) ∧ Hid (Below w.heap.size w wr)) (fun _ i _ => l.length - (intOf i).toNat)
  case atStart => exact ⟨0, [], by omega, rfl, List.Perm.refl _, List.Pairwise.nil, fun _ => rfl, ⟨rfl, .inl ⟨rfl, rfl⟩⟩, Below.refl _ _⟩
  case round =>
    obtain ⟨j, M, hj, rfl, HP, HS, HN, HO, HF⟩ := hrel
    by_cases hjl : j < l.length
    · obtain ⟨lb, lo, rfl, hlb0, -, -, -, -⟩ := (HR.out.below HF.out).at_ hjl
      have hlb : lb < w.heap.size := by
        obtain ⟨_, _, e, h, _⟩ := HR.out.at_ hjl
        cases e; exact h
      have HLX0 : Hid (∀ W, Below w.heap.size w W → W.cell? ⟨lb, lo + j * 4, none⟩ = some (.int .i64 l[j].f) ∧ W.cell? ⟨lb, lo + j * 4 + 1, none⟩ = some (.int .i64 l[j].t) ∧ W.cell? ⟨lb, lo + j * 4 + 2, none⟩ = some (.int .i64 l[j].n) ∧ W.cell? ⟨lb, lo + j * 4 + 3, none⟩ = some (.int .i64 l[j].s)) := fun W h => by
        obtain ⟨_, _, e, _, h0, h1, h2, h3⟩ := (HR.out.below h).at_ hjl
        cases e
        exact ⟨h0, h1, h2, h3⟩
      have HPM0 := Lib.hid (put_take hjl HP.out)
      have hML : M.length ≤ 400000 := by rw [HP.out.length_eq]; simp; omega
      have HXL : Hid (∀ W, Below wr.heap.size wr W → lb < W.heap.size) := fun W h => Nat.lt_of_lt_of_le hlb (Nat.le_trans HF.out.size h.size)
      clear hlb0
      obtain ⟨x, hx⟩ : ∃ x, x = l[j] := ⟨_, rfl⟩
      have HLX : Hid (∀ W, Below w.heap.size w W → W.cell? ⟨lb, lo + j * 4, none⟩ = some (.int .i64 x.f) ∧ W.cell? ⟨lb, lo + j * 4 + 1, none⟩ = some (.int .i64 x.t) ∧ W.cell? ⟨lb, lo + j * 4 + 2, none⟩ = some (.int .i64 x.n) ∧ W.cell? ⟨lb, lo + j * 4 + 3, none⟩ = some (.int .i64 x.s)) := by rw [hx]; exact HLX0.out
      have HPM : Hid ((putS M x).Perm (l.take (j + 1))) := by rw [hx]; exact HPM0.out
      have HSO := Lib.hid (putS_sorted (s := x) HS.out)
      have HNN : Hid (∀ v, putS M x = [] → v = Value.slice none 0 0) := fun v h => by have := putS_len M x; rw [h] at this; simp at this
      have HPL := Lib.hid (fun q h1 h2 h3 => place_is (x := x) (q := q) HS.out h1 h2 h3)
      clear HLX0 HPM0 hx HP HS
      obtain ⟨a2, c2, rfl, hsh, hMc, hcm⟩ := own_shape8 HO.out
      have HM := Lib.hid (own_stsl HO.out)
      unfold maxLen at hcm
      generalize wr = w0 at *
      go_wp2
      go_loopw [5] (fun i wr => ∃ (q : Nat), q ≤ M.length ∧ i = .int .i64 q ∧ Hid (∀ i (h : i < M.length), i < q → ¬ ltSt x M[i]) ∧ Hid (Below w0.heap.size w0 wr)) (fun i _ => M.length - (intOf i).toNat)
      case atStart => exact ⟨0, Nat.zero_le _, rfl, fun i h h1 => absurd h1 (by omega), Below.refl _ _⟩
      case round =>
        obtain ⟨q, hq, rfl, HLO, HX⟩ := hrel
        by_cases hqM : q < M.length
        · obtain ⟨b, off, rfl⟩ : ∃ b off, a2 = some ⟨b, off, none⟩ := hsh.resolve_left (by omega)
          have HXY0 : Hid (∀ W, Below w0.heap.size w0 W → W.cell? ⟨lb, lo + j * 4, none⟩ = some (.int .i64 x.f) ∧ W.cell? ⟨lb, lo + j * 4 + 1, none⟩ = some (.int .i64 x.t) ∧ W.cell? ⟨lb, lo + j * 4 + 2, none⟩ = some (.int .i64 x.n) ∧ W.cell? ⟨lb, lo + j * 4 + 3, none⟩ = some (.int .i64 x.s) ∧ W.cell? ⟨b, off + q * 4, none⟩ = some (.int .i64 M[q].f) ∧ W.cell? ⟨b, off + q * 4 + 1, none⟩ = some (.int .i64 M[q].t) ∧ W.cell? ⟨b, off + q * 4 + 2, none⟩ = some (.int .i64 M[q].n) ∧ W.cell? ⟨b, off + q * 4 + 3, none⟩ = some (.int .i64 M[q].s)) := fun W h => by
            obtain ⟨_, _, e, _, h0, h1, h2, h3⟩ := (HM.out.below h).at_ hqM
            cases e
            obtain ⟨k0, k1, k2, k3⟩ := HLX.out W (HF.out.trans (h.mono HF.out.size))
            exact ⟨k0, k1, k2, k3, h0, h1, h2, h3⟩
          obtain ⟨y, hy⟩ : ∃ y, y = M[q] := ⟨_, rfl⟩
          have HXY : Hid (∀ W, Below w0.heap.size w0 W → W.cell? ⟨lb, lo + j * 4, none⟩ = some (.int .i64 x.f) ∧ W.cell? ⟨lb, lo + j * 4 + 1, none⟩ = some (.int .i64 x.t) ∧ W.cell? ⟨lb, lo + j * 4 + 2, none⟩ = some (.int .i64 x.n) ∧ W.cell? ⟨lb, lo + j * 4 + 3, none⟩ = some (.int .i64 x.s) ∧ W.cell? ⟨b, off + q * 4, none⟩ = some (.int .i64 y.f) ∧ W.cell? ⟨b, off + q * 4 + 1, none⟩ = some (.int .i64 y.t) ∧ W.cell? ⟨b, off + q * 4 + 2, none⟩ = some (.int .i64 y.n) ∧ W.cell? ⟨b, off + q * 4 + 3, none⟩ = some (.int .i64 y.s)) := by rw [hy]; exact HXY0.out
          have HC0 := Lib.hid (HCM.out x y)
          have K1 : Below w0.heap.size w0 wr.drew := HX.out.trans ((Below.refl _ _).drew.mono HX.out.size)
          have hlt : decide ((q : Int) < (M.length : Int)) = true := decide_eq_true (by omega)
          clear HXY0 HCM
          by_cases h3 : ltSt x y
          · have HPos : Hid (IsPos M x q) := HPL.out q hq HLO.out (fun _ => by rw [← hy]; exact h3)
            have HCX : Hid (∀ W, Calls Try.prog 30 #[.agg #[.int .i64 x.f, .int .i64 x.t, .int .i64 x.n, .int .i64 x.s], .agg #[.int .i64 y.f, .int .i64 y.t, .int .i64 y.n, .int .i64 y.s]] W fun e w' => e = .returned (.bool true) ∧ Below W.heap.size W w') := fun W => by
              have := HC0.out W
              rwa [decide_eq_true h3] at this
            clear HC0 h3 HLO HPL hy
            go_wp2_with fail
            go_region_held3 (fun W => W.cell? ⟨lb, lo + j * 4, none⟩ = some (.int .i64 x.f) ∧ W.cell? ⟨lb, lo + j * 4 + 1, none⟩ = some (.int .i64 x.t) ∧ W.cell? ⟨lb, lo + j * 4 + 2, none⟩ = some (.int .i64 x.n) ∧ W.cell? ⟨lb, lo + j * 4 + 3, none⟩ = some (.int .i64 x.s) ∧ W.cell? ⟨b, off + q * 4, none⟩ = some (.int .i64 y.f) ∧ W.cell? ⟨b, off + q * 4 + 1, none⟩ = some (.int .i64 y.t) ∧ W.cell? ⟨b, off + q * 4 + 2, none⟩ = some (.int .i64 y.n) ∧ W.cell? ⟨b, off + q * 4 + 3, none⟩ = some (.int .i64 y.s))
              (first | exact HXY.out _ K1 | exact HXY.out _ K3)
              (first | (go_at_call 30; refine (HCX.out _).mono ?_; rintro e w3 ⟨rfl, h3⟩; have K3 := K1.trans (h3.mono K1.size)))
            replace HX := Lib.hid K3
            generalize w3 = w5 at *
            clear K1 K3 HXY HCX
            have hpc : q ≤ c2 := by omega
            have hz1' : (0 : Int) ≤ (q : Int) := by omega
            have hz2' : (q : Int) ≤ (M.length : Int) := by omega
            have hz3' : (q : Int) ≤ (c2 : Int) := by omega
            have hz4' : (M.length : Int) ≤ (c2 : Int) := by omega
            have hck : ¬ c2 = q := by omega
            have HA : Hid (putS M x = M.take q ++ x :: M.drop q) := putS_at HPos.out
            have HMX := Lib.hid (HM.out.below HX.out)
            have O1 := Lib.hid (own_empty8 w5 47 4 w5.heap.size (Nat.le_refl _))
            have B1 := Lib.hid (below_one w5 (.cells #[] 47))
            have S1 := Lib.hid ((HMX.out.take q).below B1.out)
            go_wp2_with (at_builtin; first
              | (refine wpList_append_st _ rfl (.tmp 31) (.tmp 34) 49 rfl w5.heap.size 47 i0 _ Try.underlying49 hi hz0 hz1 hz2 rfl _ [] rfl O1.out (some ⟨b, off, none⟩) c2 (M.take q) (by rw [List.length_take, Nat.min_eq_left hq]; rfl) S1.out (fun h => by cases h) (by simp; omega) B1.out.size ?_; intro v2 w2 hown2 hB2; have BB := Lib.hid (B1.out.trans hB2); have OO := Lib.hid hown2; have hxx := HLX.out _ (HF.out.trans ((HX.out.trans (BB.out.mono HX.out.size)).mono HF.out.size)); obtain ⟨g0, g1, g2, g3⟩ := hxx; clear hown2 hB2)
              | (refine wpList_append_st _ rfl (.tmp 36) (.tmp 41) 49 rfl w5.heap.size 47 i0 _ Try.underlying49 hi hz0 hz1 hz2 rfl _ _ rfl (own_below OO.out (below_one w2 (.cells #[.int .i64 x.f, .int .i64 x.t, .int .i64 x.n, .int .i64 x.s] 47))) (some ⟨w2.heap.size, 0, none⟩) 1 [x] rfl (cells_st w2 [x] #[.int .i64 x.f, .int .i64 x.t, .int .i64 x.n, .int .i64 x.s] 47 _ rfl rfl) (fun h => by cases h) (by simp; omega) (BB.out.trans ((below_one w2 (.cells #[.int .i64 x.f, .int .i64 x.t, .int .i64 x.n, .int .i64 x.s] 47)).mono BB.out.size)).size ?_; intro v3 w3 hown3 hB3; have B3 := Lib.hid ((BB.out.trans ((below_one w2 (.cells #[.int .i64 x.f, .int .i64 x.t, .int .i64 x.n, .int .i64 x.s] 47)).mono BB.out.size)).trans hB3); have O3 := Lib.hid hown3; clear hown3 hB3 g0 g1 g2 g3)
              | (refine wpList_append_st _ rfl (.tmp 43) (.tmp 46) 49 rfl w5.heap.size 47 i0 _ Try.underlying49 hi hz0 hz1 hz2 rfl _ _ rfl O3.out (some ⟨b, off + q * 4, none⟩) (c2 - q) (M.drop q) (by rw [List.length_drop]; rfl) ((HMX.out.drop q).below B3.out) (fun h => by cases h) (by simp; omega) B3.out.size ?_; intro v4 w4 hown4 hB4; have B4 := Lib.hid (B3.out.trans hB4); have O4 := Lib.hid hown4; clear hown4 hB4))
            go_wp2
            go_roundw
            case rel => exact ⟨j + 1, putS M x, by omega, by go_num, HPM.out, HSO.out, HNN.out _, sorted_own HA.out O4.out (Nat.le_trans HF.out.size HX.out.size), HF.out.trans ((HX.out.trans (B4.out.mono HX.out.size)).mono HF.out.size)⟩
            case measure => simp [intOf]; omega
          · have HLO2 : Hid (∀ i (h : i < M.length), i < q + 1 → ¬ ltSt x M[i]) := fun i h h1 => by
              rcases Nat.lt_or_ge i q with h2 | h2
              · exact HLO.out i h h2
              · obtain rfl : i = q := by omega
                rw [← hy]; exact h3
            have HCX : Hid (∀ W, Calls Try.prog 30 #[.agg #[.int .i64 x.f, .int .i64 x.t, .int .i64 x.n, .int .i64 x.s], .agg #[.int .i64 y.f, .int .i64 y.t, .int .i64 y.n, .int .i64 y.s]] W fun e w' => e = .returned (.bool false) ∧ Below W.heap.size W w') := fun W => by
              have := HC0.out W
              rwa [decide_eq_false h3] at this
            clear HC0 h3 HLO HPL hy
            go_wp2_with fail
            go_region_held3 (fun W => W.cell? ⟨lb, lo + j * 4, none⟩ = some (.int .i64 x.f) ∧ W.cell? ⟨lb, lo + j * 4 + 1, none⟩ = some (.int .i64 x.t) ∧ W.cell? ⟨lb, lo + j * 4 + 2, none⟩ = some (.int .i64 x.n) ∧ W.cell? ⟨lb, lo + j * 4 + 3, none⟩ = some (.int .i64 x.s) ∧ W.cell? ⟨b, off + q * 4, none⟩ = some (.int .i64 y.f) ∧ W.cell? ⟨b, off + q * 4 + 1, none⟩ = some (.int .i64 y.t) ∧ W.cell? ⟨b, off + q * 4 + 2, none⟩ = some (.int .i64 y.n) ∧ W.cell? ⟨b, off + q * 4 + 3, none⟩ = some (.int .i64 y.s))
              (first | exact HXY.out _ K1 | exact HXY.out _ K3)
              (first | (go_at_call 30; refine (HCX.out _).mono ?_; rintro e w3 ⟨rfl, h3⟩; have K3 := K1.trans (h3.mono K1.size)))
            go_wp2
            go_roundw
            case rel => exact ⟨q + 1, by omega, by go_num, HLO2, K3⟩
            case measure => simp [intOf]; omega
        · obtain rfl : q = M.length := by omega
          have HPos : Hid (IsPos M x M.length) := HPL.out _ hq HLO.out (fun h => absurd h (by omega))
          have hlt : decide ((M.length : Int) < (M.length : Int)) = false := decide_eq_false (by omega)
          clear HPL HLO hqM HCM
          go_wp2_with fail
          refine wp_region_held_drew (S := (fun W => True)) (by kernel_rfl) ?_ (fun hHeld => ?_)
          · exact trivial
          refine wpAnyH_take (i := 0) (oi := ⟨some 13, _, _, _, _, _⟩) (v := ?_) rfl (by kernel_rfl) (by kernel_rfl) (by kernel_rfl) (fun _ _ _ h => h) (Or.inl ⟨by rfl, ?_⟩) (by assumption) ?_
          rotate_left
          · (intro wS hSw; (try dsimp only at hSw); (go_simp) <;> (with_reducible rfl))
          (try simp only [Act.put, List.setIfInBounds_toArray, List.set_cons_zero, List.set_cons_succ])
          refine wpAnyH_take (i := 1) (oi := ⟨some 14, _, _, _, _, _⟩) (v := ?_) rfl (by kernel_rfl) (by kernel_rfl) (by kernel_rfl) (fun _ _ _ h => h) (Or.inl ⟨by rfl, ?_⟩) (by assumption) ?_
          rotate_left
          · (intro wS hSw; (try dsimp only at hSw); (go_simp) <;> (with_reducible rfl))
          (try simp only [Act.put, List.setIfInBounds_toArray, List.set_cons_zero, List.set_cons_succ])
          refine wpAnyH_take (i := 2) (oi := ⟨some 15, _, _, _, _, _⟩) (v := ?_) rfl (by kernel_rfl) (by kernel_rfl) (by kernel_rfl) (fun _ _ _ h => h) (Or.inl ⟨by rfl, ?_⟩) (by assumption) ?_
          rotate_left
          · (intro wS hSw; (try dsimp only at hSw); (go_simp) <;> (with_reducible rfl))
          (try simp only [Act.put, List.setIfInBounds_toArray, List.set_cons_zero, List.set_cons_succ])
          refine wpAnyH_take (i := 3) (oi := ⟨some 16, _, _, _, _, _⟩) (v := ?_) rfl (by kernel_rfl) (by kernel_rfl) (by kernel_rfl) (fun _ _ _ h => h) (Or.inl ⟨by rfl, ?_⟩) (by assumption) ?_
          rotate_left
          · (intro wS hSw; (try dsimp only at hSw); (go_simp) <;> (with_reducible rfl))
          (try simp only [Act.put, List.setIfInBounds_toArray, List.set_cons_zero, List.set_cons_succ])
          refine wpAnyH_take (i := 4) (oi := ⟨some 17, _, _, _, _, _⟩) (v := ?_) rfl (by kernel_rfl) (by kernel_rfl) (by kernel_rfl) (fun _ _ _ h => h) (Or.inl ⟨by rfl, ?_⟩) (by assumption) ?_
          rotate_left
          · (intro wS hSw; (try dsimp only at hSw); (go_simp) <;> (with_reducible rfl))
          (try simp only [Act.put, List.setIfInBounds_toArray, List.set_cons_zero, List.set_cons_succ])
          refine wpAnyH_take (i := 5) (oi := ⟨some 18, _, _, _, _, _⟩) (v := undef) rfl (by kernel_rfl) (by kernel_rfl) (by kernel_rfl) (fun _ _ _ h => h) (Or.inr ⟨by rfl, rfl⟩) (by assumption) ?_
          (try simp only [Act.put, List.setIfInBounds_toArray, List.set_cons_zero, List.set_cons_succ])
          refine wpAnyH_take (i := 6) (oi := ⟨some 19, _, _, _, _, _⟩) (v := undef) rfl (by kernel_rfl) (by kernel_rfl) (by kernel_rfl) (fun _ _ _ h => h) (Or.inr ⟨by rfl, rfl⟩) (by assumption) ?_
          (try simp only [Act.put, List.setIfInBounds_toArray, List.set_cons_zero, List.set_cons_succ])
          refine wpAnyH_take (i := 7) (oi := ⟨some 20, _, _, _, _, _⟩) (v := undef) rfl (by kernel_rfl) (by kernel_rfl) (by kernel_rfl) (fun _ _ _ h => h) (Or.inr ⟨by rfl, rfl⟩) (by assumption) ?_
          (try simp only [Act.put, List.setIfInBounds_toArray, List.set_cons_zero, List.set_cons_succ])
          refine wpAnyH_take (i := 8) (oi := ⟨some 21, _, _, _, _, _⟩) (v := undef) rfl (by kernel_rfl) (by kernel_rfl) (by kernel_rfl) (fun _ _ _ h => h) (Or.inr ⟨by rfl, rfl⟩) (by assumption) ?_
          (try simp only [Act.put, List.setIfInBounds_toArray, List.set_cons_zero, List.set_cons_succ])
          refine wpAnyH_take (i := 9) (oi := ⟨some 22, _, _, _, _, _⟩) (v := undef) rfl (by kernel_rfl) (by kernel_rfl) (by kernel_rfl) (fun _ _ _ h => h) (Or.inr ⟨by rfl, rfl⟩) (by assumption) ?_
          (try simp only [Act.put, List.setIfInBounds_toArray, List.set_cons_zero, List.set_cons_succ])
          refine wpAnyH_take (i := 10) (oi := ⟨some 23, _, _, _, _, _⟩) (v := undef) rfl (by kernel_rfl) (by kernel_rfl) (by kernel_rfl) (fun _ _ _ h => h) (Or.inr ⟨by rfl, rfl⟩) (by assumption) ?_
          (try simp only [Act.put, List.setIfInBounds_toArray, List.set_cons_zero, List.set_cons_succ])
          refine wpAnyH_take (i := 11) (oi := ⟨some 24, _, _, _, _, _⟩) (v := undef) rfl (by kernel_rfl) (by kernel_rfl) (by kernel_rfl) (fun _ _ _ h => h) (Or.inr ⟨by rfl, rfl⟩) (by assumption) ?_
          (try simp only [Act.put, List.setIfInBounds_toArray, List.set_cons_zero, List.set_cons_succ])
          refine wpAnyH_take (i := 12) (oi := ⟨some 25, _, _, _, _, _⟩) (v := undef) rfl (by kernel_rfl) (by kernel_rfl) (by kernel_rfl) (fun _ _ _ h => h) (Or.inr ⟨by rfl, rfl⟩) (by assumption) ?_
          (try simp only [Act.put, List.setIfInBounds_toArray, List.set_cons_zero, List.set_cons_succ])
          refine wpAnyH_take (i := 13) (oi := ⟨some 26, _, _, _, _, _⟩) (v := undef) rfl (by kernel_rfl) (by kernel_rfl) (by kernel_rfl) (fun _ _ _ h => h) (Or.inr ⟨by rfl, rfl⟩) (by assumption) ?_
          (try simp only [Act.put, List.setIfInBounds_toArray, List.set_cons_zero, List.set_cons_succ])
          refine wpAnyH_take (i := 14) (oi := ⟨some 27, _, _, _, _, _⟩) (v := undef) rfl (by kernel_rfl) (by kernel_rfl) (by kernel_rfl) (fun _ _ _ h => h) (Or.inr ⟨by rfl, rfl⟩) (by assumption) ?_
          (try simp only [Act.put, List.setIfInBounds_toArray, List.set_cons_zero, List.set_cons_succ])
          refine wpAnyH_take (i := 15) (oi := ⟨some 28, _, _, _, _, _⟩) (v := ?_) rfl (by kernel_rfl) (by kernel_rfl) (by kernel_rfl) (fun _ _ _ h => h) (Or.inl ⟨by rfl, ?_⟩) (by assumption) ?_
          rotate_left
          · (intro wS hSw; (try dsimp only at hSw); (go_simp) <;> (with_reducible rfl))
          (try simp only [Act.put, List.setIfInBounds_toArray, List.set_cons_zero, List.set_cons_succ])
          refine wpAnyH_done (by kernel_rfl) ?_ _
          replace HX : Hid (Below w0.heap.size w0 wr.drew) := HX.out.trans ((Below.refl _ _).drew.mono HX.out.size)
          generalize wr.drew = w5 at *
          cases M with
          | nil =>
            have hv := HN.out rfl
            injection hv with ha hb hc
            subst ha hc
            clear HM hsh hMc hcm
            have HA : Hid (putS [] x = ([] : List StM).take 0 ++ x :: ([] : List StM).drop 0) := putS_at HPos.out
            have O1 := Lib.hid (own_empty8 w5 47 4 w5.heap.size (Nat.le_refl _))
            have B1 := Lib.hid (below_one w5 (.cells #[] 47))
            have O2 := Lib.hid (own_below O1.out (below_one _ (.cells #[.int .i64 x.f, .int .i64 x.t, .int .i64 x.n, .int .i64 x.s] 47)))
            have B2 := Lib.hid (B1.out.trans ((below_one _ (.cells #[.int .i64 x.f, .int .i64 x.t, .int .i64 x.n, .int .i64 x.s] 47)).mono B1.out.size))
            have S2 := Lib.hid (cells_st (w5.alloc (.cells #[] 47)) [x] #[.int .i64 x.f, .int .i64 x.t, .int .i64 x.n, .int .i64 x.s] 47 (w5.heap.size + 1) (size1 _ _).symm rfl)
            obtain ⟨g0, g1, g2, g3⟩ := HLX.out _ (HF.out.trans (HX.out.mono HF.out.size))
            have hgl : lb < w5.heap.size := Nat.lt_of_lt_of_le hlb (Nat.le_trans HF.out.size HX.out.size)
            clear O1
            go_wp2_with (at_builtin; first
              | (refine wpList_append_st _ rfl (.tmp 36) (.tmp 41) 49 rfl w5.heap.size 47 i0 _ Try.underlying49 hi hz0 hz1 hz2 rfl _ [] rfl O2.out (some ⟨w5.heap.size + 1, 0, none⟩) 1 [x] rfl S2.out (fun h => by cases h) (by simp) B2.out.size ?_; intro v3 w3 hown3 hB3; have B3 := Lib.hid (B2.out.trans hB3); have O3 := Lib.hid hown3; clear hown3 hB3 g0 g1 g2 g3 hgl)
              | (refine wpList_append_st _ rfl (.tmp 43) (.tmp 46) 49 rfl w5.heap.size 47 i0 _ Try.underlying49 hi hz0 hz1 hz2 rfl _ _ rfl O3.out none 0 [] rfl (StSl.nil _ _) (fun _ => rfl) (by simp) B3.out.size ?_; intro v4 w4 hown4 hB4; have B4 := Lib.hid (B3.out.trans hB4); have O4 := Lib.hid hown4; clear hown4 hB4))
            go_wp2
            go_roundw
            case rel => exact ⟨j + 1, putS [] x, by omega, by go_num, HPM.out, HSO.out, HNN.out _, sorted_own (M := []) (q := 0) HA.out O4.out (Nat.le_trans HF.out.size HX.out.size), HF.out.trans ((HX.out.trans (B4.out.mono HX.out.size)).mono HF.out.size)⟩
            case measure => simp [intOf]; omega
          | cons m0 M0 =>
            obtain ⟨b, off, rfl⟩ : ∃ b off, a2 = some ⟨b, off, none⟩ := hsh.resolve_left (by simp)
            generalize hMM : m0 :: M0 = M at *
            clear hMM hsh
            by_cases hck : c2 = M.length
            · subst hck
              have HA : Hid (putS M x = M.take M.length ++ x :: M.drop M.length) := putS_at HPos.out
              have HMX := Lib.hid (HM.out.below HX.out)
              have O1 := Lib.hid (own_empty8 w5 47 4 w5.heap.size (Nat.le_refl _))
              have B1 := Lib.hid (below_one w5 (.cells #[] 47))
              have S1 := Lib.hid ((HMX.out.take M.length).below B1.out)
              go_wp2_with (at_builtin; first
                | (refine wpList_append_st _ rfl (.tmp 31) (.tmp 34) 49 rfl w5.heap.size 47 i0 _ Try.underlying49 hi hz0 hz1 hz2 rfl _ [] rfl O1.out (some ⟨b, off, none⟩) M.length (M.take M.length) (by rw [List.length_take, Nat.min_self]; rfl) S1.out (fun h => by cases h) (by simp; omega) B1.out.size ?_; intro v2 w2 hown2 hB2; have BB := Lib.hid (B1.out.trans hB2); have OO := Lib.hid hown2; have hxx := HLX.out _ (HF.out.trans ((HX.out.trans (BB.out.mono HX.out.size)).mono HF.out.size)); obtain ⟨g0, g1, g2, g3⟩ := hxx; clear hown2 hB2)
                | (refine wpList_append_st _ rfl (.tmp 36) (.tmp 41) 49 rfl w5.heap.size 47 i0 _ Try.underlying49 hi hz0 hz1 hz2 rfl _ _ rfl (own_below OO.out (below_one w2 (.cells #[.int .i64 x.f, .int .i64 x.t, .int .i64 x.n, .int .i64 x.s] 47))) (some ⟨w2.heap.size, 0, none⟩) 1 [x] rfl (cells_st w2 [x] #[.int .i64 x.f, .int .i64 x.t, .int .i64 x.n, .int .i64 x.s] 47 _ rfl rfl) (fun h => by cases h) (by simp; omega) (BB.out.trans ((below_one w2 (.cells #[.int .i64 x.f, .int .i64 x.t, .int .i64 x.n, .int .i64 x.s] 47)).mono BB.out.size)).size ?_; intro v3 w3 hown3 hB3; have B3 := Lib.hid ((BB.out.trans ((below_one w2 (.cells #[.int .i64 x.f, .int .i64 x.t, .int .i64 x.n, .int .i64 x.s] 47)).mono BB.out.size)).trans hB3); have O3 := Lib.hid hown3; clear hown3 hB3 g0 g1 g2 g3)
                | (refine wpList_append_st _ rfl (.tmp 43) (.tmp 46) 49 rfl w5.heap.size 47 i0 _ Try.underlying49 hi hz0 hz1 hz2 rfl _ _ rfl O3.out (some ⟨b, off, none⟩) 0 (M.drop M.length) (by rw [List.drop_eq_nil_of_le (Nat.le_refl _)]; rfl) ((show StSl w5 (some ⟨b, off, none⟩) (M.drop M.length) by rw [List.drop_eq_nil_of_le (Nat.le_refl _)]; exact StSl.nil _ _).below B3.out) (fun h => by cases h) (by simp; omega) B3.out.size ?_; intro v4 w4 hown4 hB4; have B4 := Lib.hid (B3.out.trans hB4); have O4 := Lib.hid hown4; clear hown4 hB4))
              go_wp2
              go_roundw
              case rel => exact ⟨j + 1, putS M x, by omega, by go_num, HPM.out, HSO.out, HNN.out _, sorted_own HA.out O4.out (Nat.le_trans HF.out.size HX.out.size), HF.out.trans ((HX.out.trans (B4.out.mono HX.out.size)).mono HF.out.size)⟩
              case measure => simp [intOf]; omega
            · have hpc : M.length ≤ c2 := by omega
              have hz4' : (M.length : Int) ≤ (c2 : Int) := by omega
              have HA : Hid (putS M x = M.take M.length ++ x :: M.drop M.length) := putS_at HPos.out
              have HMX := Lib.hid (HM.out.below HX.out)
              have O1 := Lib.hid (own_empty8 w5 47 4 w5.heap.size (Nat.le_refl _))
              have B1 := Lib.hid (below_one w5 (.cells #[] 47))
              have S1 := Lib.hid ((HMX.out.take M.length).below B1.out)
              go_wp2_with (at_builtin; first
                | (refine wpList_append_st _ rfl (.tmp 31) (.tmp 34) 49 rfl w5.heap.size 47 i0 _ Try.underlying49 hi hz0 hz1 hz2 rfl _ [] rfl O1.out (some ⟨b, off, none⟩) c2 (M.take M.length) (by rw [List.length_take, Nat.min_self]; rfl) S1.out (fun h => by cases h) (by simp; omega) B1.out.size ?_; intro v2 w2 hown2 hB2; have BB := Lib.hid (B1.out.trans hB2); have OO := Lib.hid hown2; have hxx := HLX.out _ (HF.out.trans ((HX.out.trans (BB.out.mono HX.out.size)).mono HF.out.size)); obtain ⟨g0, g1, g2, g3⟩ := hxx; clear hown2 hB2)
                | (refine wpList_append_st _ rfl (.tmp 36) (.tmp 41) 49 rfl w5.heap.size 47 i0 _ Try.underlying49 hi hz0 hz1 hz2 rfl _ _ rfl (own_below OO.out (below_one w2 (.cells #[.int .i64 x.f, .int .i64 x.t, .int .i64 x.n, .int .i64 x.s] 47))) (some ⟨w2.heap.size, 0, none⟩) 1 [x] rfl (cells_st w2 [x] #[.int .i64 x.f, .int .i64 x.t, .int .i64 x.n, .int .i64 x.s] 47 _ rfl rfl) (fun h => by cases h) (by simp; omega) (BB.out.trans ((below_one w2 (.cells #[.int .i64 x.f, .int .i64 x.t, .int .i64 x.n, .int .i64 x.s] 47)).mono BB.out.size)).size ?_; intro v3 w3 hown3 hB3; have B3 := Lib.hid ((BB.out.trans ((below_one w2 (.cells #[.int .i64 x.f, .int .i64 x.t, .int .i64 x.n, .int .i64 x.s] 47)).mono BB.out.size)).trans hB3); have O3 := Lib.hid hown3; clear hown3 hB3 g0 g1 g2 g3)
                | (refine wpList_append_st _ rfl (.tmp 43) (.tmp 46) 49 rfl w5.heap.size 47 i0 _ Try.underlying49 hi hz0 hz1 hz2 rfl _ _ rfl O3.out (some ⟨b, off + M.length * 4, none⟩) (c2 - M.length) (M.drop M.length) (by rw [List.drop_eq_nil_of_le (Nat.le_refl _)]; rfl) ((HMX.out.drop M.length).below B3.out) (fun h => by cases h) (by simp; omega) B3.out.size ?_; intro v4 w4 hown4 hB4; have B4 := Lib.hid (B3.out.trans hB4); have O4 := Lib.hid hown4; clear hown4 hB4))
              go_wp2
              go_roundw
              case rel => exact ⟨j + 1, putS M x, by omega, by go_num, HPM.out, HSO.out, HNN.out _, sorted_own HA.out O4.out (Nat.le_trans HF.out.size HX.out.size), HF.out.trans ((HX.out.trans (B4.out.mono HX.out.size)).mono HF.out.size)⟩
              case measure => simp [intOf]; omega
    · obtain rfl : j = l.length := by omega
      have hp := HP.out
      rw [List.take_of_length_le (Nat.le_refl _)] at hp
      have HP2 := Lib.hid hp
      clear hp HP
      go_wp2
      go_ret
      exact ⟨_, M, rfl, HP2.out, HS.out, HO.out, HF.out⟩
end Go.Proofs.Ytbcabbddgppkaaa
