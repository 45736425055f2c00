/- Layer 8: what a stay has in common with each of some spans: contract. -/
import Derived.Test.YtbcabbddgppkaaaZ14
import Derived.Test.YtbcabbddgppkaaaW6
import Derived.Test.YtbcabbddgppkaaaShelf
namespace Go.Proofs.Ytbcabbddgppkaaa
open Go.RowKit Go.Sort Go.Proofs
set_option linter.unusedVariables false
set_option maxRecDepth 100000

/-- a stay in a block of its own, a row of spans, all else as it was -/
structure PcK (w : World) (g : Nat) (x : StM) (a : Option Addr) (l : List SpM) (W : World) : Prop where
  box : W.heap[g]? = some (.cells #[.int .i64 x.f, .int .i64 x.t, .int .i64 x.n, .int .i64 x.s] 52 (0, 0))
  row : SpSl W a l
  frame : Below w.heap.size w W
theorem PcK.below {w W W' : World} {g : Nat} {x : StM} {a : Option Addr} {l : List SpM} (h : PcK w g x a l W) (q : Below W.heap.size W W') : PcK w g x a l W' :=
  ⟨(q.block _ (heap_lt h.box)).trans h.box, h.row.below q, h.frame.trans (q.mono h.frame.size)⟩
theorem PcK.app {w w4 w5 : World} {x : StM} {X : Option Addr} {q : List SpM} {o : Obj} {v : Value} {e k n : Nat} {xs : List Value} (h : PcK w w.heap.size x X q w4) (hr : SpSl w X q) (hs : w.heap.size + 2 ≤ w4.heap.size) (ho : (w4.alloc o).ownsRow (w.heap.size + 2) e k v n xs) (hg : (w4.alloc o).grownBy w5 v.ownBlock) : PcK w w.heap.size x X q w5 ∧ w.heap.size + 2 ≤ w5.heap.size := by
  have hs' : w.heap.size + 2 ≤ (w4.alloc o).heap.size := by rw [size1]; omega
  have h1 := app_below (Below.refl _ _) hs' ho hg
  have h2 : Below w.heap.size w (w4.alloc o) := h.frame.trans ((below_one w4 o).mono h.frame.size)
  have h3 := app_below h2 h2.size (own_low ho (by omega)) hg
  refine ⟨⟨?_, hr.below h3, h3⟩, Nat.le_trans hs' h1.size⟩
  rw [h1.block _ (by omega), (below_one w4 o).block _ (heap_lt h.box)]
  exact h.box
theorem SpSl.sdrop {w : World} {b off : Nat} {l : List SpM} (h : SpSl w (some ⟨b, off, none⟩) l) (n : Nat) : SpSl w (some ⟨b, off + n * 2, none⟩) (l.drop n) := fun k hk => by
  obtain ⟨b', off', e, hlt, h0, h1⟩ := h (n + k) (by simp at hk; omega)
  cases e
  rw [List.getElem_drop]
  exact ⟨b, off + n * 2, rfl, hlt, by rw [show off + n * 2 + k * 2 = off + (n + k) * 2 by omega]; exact h0, by rw [show off + n * 2 + k * 2 + 1 = off + (n + k) * 2 + 1 by omega]; exact h1⟩
theorem pieces_take {x : StM} {q : List SpM} {j : Nat} (h : j < q.length) (k : (meetS x.sp q[j]).f < (meetS x.sp q[j]).t) : piecesS x (q.take (j + 1)) = piecesS x (q.take j) ++ [ofSp x (meetS x.sp q[j])] := by
  unfold piecesS
  rw [rowOf_take x.sp q j h, if_pos k, List.map_append]
  rfl
theorem enters8 : ∀ args w, (callFunc 74 args).run Try.prog w = .ok (.enter 74 args) w := enters_of Try.func74 (by kernel_rfl) rfl
theorem search_any (x : StM) (b off c p g : Nat) (r : List SpM) (W : World) (hn : NormL r) (hr : SpSl W (some ⟨b, off, none⟩) r) (hpl : p < W.heap.size) (hgl : g < W.heap.size)
    (hp : W.cell? ⟨p, 0, none⟩ = some (.slice (some ⟨b, off, none⟩) r.length c)) (hg : W.cell? ⟨g, 0, none⟩ = some (.int .i64 x.f)) (hl : r.length ≤ 1000000) :
    Calls Try.prog 73 #[.int .i64 r.length, .func (.func 74) #[] #[.pointer (some ⟨p, 0, none⟩), .pointer (some ⟨g, 0, none⟩)]] W fun e w' => e = .returned (.int .i64 (cntS x.f r : Nat)) ∧ Grew W w' :=
  Any.sort_Search Try.laysSearch 74 #[.pointer (some ⟨p, 0, none⟩), .pointer (some ⟨g, 0, none⟩)] r.length (pS x.f r) W enters8 (by omega)
    (fun m os i hi => by
      have hb := below_grown_sl W.heap.size W m os (Nat.le_refl _)
      exact closure8_any x b off c p g i r _ hi (hr.below hb) ((hb.cell (p := ⟨p, 0, none⟩) hpl).trans hp) ((hb.cell (p := ⟨g, 0, none⟩) hgl).trans hg) hl) (pS_mono hn)
theorem search_none (x : StM) (p g : Nat) (W : World) :
    Calls Try.prog 73 #[.int .i64 0, .func (.func 74) #[] #[.pointer (some ⟨p, 0, none⟩), .pointer (some ⟨g, 0, none⟩)]] W fun e w' => e = .returned (.int .i64 0) ∧ Grew W w' :=
  Any.sort_Search Try.laysSearch 74 #[.pointer (some ⟨p, 0, none⟩), .pointer (some ⟨g, 0, none⟩)] 0 (fun _ => false) W enters8 (by omega) (fun m os i hi => absurd hi (by omega)) (fun a b h hb => absurd hb (by omega))

set_option maxHeartbeats 4000000 in
theorem pieces_any (a : Option Addr) (c : Nat) (r : List SpM) (x : StM) (w : World) (hr : SpSl w a r) (hn : NormL r) (hsh : (a = none ∧ c = 0) ∨ ∃ b off, a = some ⟨b, off, none⟩) (hl : r.length ≤ 1000) (hc : r.length ≤ c) (hcm : c ≤ maxLen) :
    Calls Try.prog 63 #[stV x, .slice a r.length c] w fun e w' => ∃ v, e = .returned v ∧ w'.ownsRow w.heap.size 52 4 v (piecesS x r).length (sts (piecesS x r)) ∧ Below w.heap.size w w' := by
  obtain ⟨i0, hi, hz0, hz1, hz2⟩ := info_parts infoStay
  have HNO := Lib.hid none_any
  have HMT := Lib.hid (fun n W => smeet_any x.sp n W)
  unfold spV StM.sp at HMT
  unfold maxLen at hcm
  rcases hsh with ⟨rfl, rfl⟩ | ⟨b, off, rfl⟩
  · have hr0 : r = [] := List.eq_nil_of_length_eq_zero (by omega)
    subst hr0
    have HSE := Lib.hid search_none
    have HB := Lib.hid (below_two w (.cells #[.int .i64 x.f, .int .i64 x.t, .int .i64 x.n, .int .i64 x.s] 52) (.cells #[.slice none 0 0] 32))
    have HPC : Hid (∀ W, Below (w.heap.size + 2) ((w.alloc (.cells #[.int .i64 x.f, .int .i64 x.t, .int .i64 x.n, .int .i64 x.s] 52)).alloc (.cells #[.slice none 0 0] 32)) W → W.cell? ⟨w.heap.size + 1, 0, none⟩ = some (.slice none 0 0)) := fun W h => by
      have h1 := heap_alloc_new (w.alloc (.cells #[.int .i64 x.f, .int .i64 x.t, .int .i64 x.n, .int .i64 x.s] 52)) (.cells #[.slice none 0 0] 32)
      rw [size1] at h1
      exact cell_of_row _ _ _ _ _ _ ((h.block _ (by omega)).trans h1)
    unfold stV
    clear hr HNO HMT
    go_enter Try.func63, Try.ntmps63
    go_wp2_with fail
    refine (HSE.out x _ _ _).mono ?_
    rintro e w2 ⟨rfl, hg⟩
    have hpc := HPC.out w2 (hg.below (by rw [size1, size1]; omega))
    have HB2 := Lib.hid (HB.out.trans (hg.below HB.out.size))
    clear hg
    go_wp2
    go_loopw [6, 18] (fun v i wr => i = .int .i64 0 ∧ v = .slice none 0 0 ∧ Hid (Below w.heap.size w wr)) (fun _ i _ => 1)
    case atStart => exact ⟨rfl, rfl, HB2.out⟩
    case round =>
      obtain ⟨rfl, rfl, HB3⟩ := hrel
      go_wp2
      go_ret
      exact ⟨_, rfl, ⟨rfl, .inl ⟨rfl, rfl⟩⟩, HB3.out⟩
  · have K0 : Hid (PcK w w.heap.size x (some ⟨b, off, none⟩) r ((w.alloc (.cells #[.int .i64 x.f, .int .i64 x.t, .int .i64 x.n, .int .i64 x.s] 52)).alloc (.cells #[.slice (some ⟨b, off, none⟩) r.length c] 32))) :=
      ⟨(Below.heap_alloc _ _ _ (by rw [size1]; omega)).trans (heap_alloc_new w _), hr.below (below_two _ _ _), below_two _ _ _⟩
    have P0 : Hid (((w.alloc (.cells #[.int .i64 x.f, .int .i64 x.t, .int .i64 x.n, .int .i64 x.s] 52)).alloc (.cells #[.slice (some ⟨b, off, none⟩) r.length c] 32)).heap[w.heap.size + 1]? = some (.cells #[.slice (some ⟨b, off, none⟩) r.length c] 32 (0, 0))) := by
      have h1 := heap_alloc_new (w.alloc (.cells #[.int .i64 x.f, .int .i64 x.t, .int .i64 x.n, .int .i64 x.s] 52)) (.cells #[.slice (some ⟨b, off, none⟩) r.length c] 32)
      rwa [size1] at h1
    have HSE := Lib.hid (search_any x b off c (w.heap.size + 1) w.heap.size r _ hn K0.out.row (heap_lt P0.out) (heap_lt K0.out.box) (cell_of_row _ _ _ _ _ _ P0.out) (cells4 K0.out.box).1 (by omega))
    obtain ⟨hk, hrd, hrt⟩ := cntS_is (s := x.sp) hn
    change cntS x.f r ≤ r.length at hk
    change rowOf x.sp (r.drop (cntS x.f r)) = rowOf x.sp r at hrd
    change ∀ n ∈ r.drop (cntS x.f r), x.f < n.t at hrt
    have hqn := norm_drop (cntS x.f r) hn
    generalize cntS x.f r = k at *
    have HPR : Hid (piecesS x (r.drop k) = piecesS x r) := by unfold Hid piecesS; rw [hrd]
    have HST : Hid (∀ j (hj : j < (r.drop k).length), ¬ (meetS x.sp (r.drop k)[j]).f < (meetS x.sp (r.drop k)[j]).t → piecesS x ((r.drop k).take j) = piecesS x (r.drop k)) := fun j hj h => by
      unfold piecesS
      rw [rowOf_stop hqn hrt hj h]
    have HRW0 := Lib.hid (hr.sdrop k)
    clear hrd hrt hqn hr hn
    unfold stV
    go_enter Try.func63, Try.ntmps63
    go_wp2_with fail
    refine HSE.out.mono ?_
    rintro e w2 ⟨rfl, hg⟩
    have hb := hg.below (Nat.le_refl _)
    have hpc : w2.cell? ⟨w.heap.size + 1, 0, none⟩ = some (.slice (some ⟨b, off, none⟩) r.length c) := cell_of_row _ _ _ _ _ _ ((hb.block _ (heap_lt P0.out)).trans P0.out)
    have K2 := Lib.hid (K0.out.below hb)
    have HSZ : Hid (w.heap.size + 2 ≤ w2.heap.size) := by
      have := hb.size
      rw [size1, size1] at this
      exact this
    clear hg hb HSE P0 K0
    have hkc : k ≤ c := by omega
    by_cases hkr : k < r.length
    · have hck : ¬ c = k := by omega
      have HLQ : Hid ((r.drop k).length = r.length - k) := List.length_drop ..
      have KQ : Hid (PcK w w.heap.size x (some ⟨b, off + k * 2, none⟩) (r.drop k) w2) := ⟨K2.out.box, K2.out.row.sdrop k, K2.out.frame⟩
      clear K2
      go_wp2
      rw [← HLQ.out]
      generalize r.drop k = q at *
      have hql : q.length ≤ 1000 := by have := HLQ.out; omega
      have HRW := Lib.hid HRW0.out
      clear HLQ hpc HRW0
      generalize hX : (off + k * 2) = o2 at *
      clear hX
      go_loopw [6, 18] (fun v i wr => ∃ (j : Nat), j ≤ q.length ∧ i = .int .i64 j ∧ Hid ((piecesS x (q.take j)).length ≤ j) ∧ Hid (wr.ownsRow (w.heap.size + 2) 52 4 v (piecesS x (q.take j)).length (sts (piecesS x (q.take j)))) ∧ Hid (PcK w w.heap.size x (some ⟨b, o2, none⟩) q wr ∧ w.heap.size + 2 ≤ wr.heap.size)) (fun _ i _ => q.length - (intOf i).toNat)
      case atStart => exact ⟨0, by omega, rfl, by simp [Hid, piecesS, rowOf], ⟨rfl, .inl ⟨rfl, rfl⟩⟩, KQ.out, HSZ.out⟩
      case round =>
        obtain ⟨j, hj, rfl, HLN, HO, HKK⟩ := hrel
        have HK := Lib.hid HKK.out.1
        have HZ := Lib.hid HKK.out.2
        clear HKK
        by_cases hjl : j < q.length
        · obtain ⟨b1, off1, e1, hbl, hc0, hc1⟩ := HK.out.row.at_ hjl
          cases e1
          obtain ⟨g0, g1, g2, g3⟩ := cells4 HK.out.box
          have hgl := heap_lt HK.out.box
          have HM := Lib.hid (HMT.out q[j])
          have HN := Lib.hid (HNO.out (meetS x.sp q[j]).f (meetS x.sp q[j]).t)
          have HTK := Lib.hid (pieces_take (x := x) hjl)
          have HSP := Lib.hid (HST.out j hjl)
          change Hid (∀ W, Calls Try.prog 13 #[.agg #[.int .i64 x.f, .int .i64 x.t], .agg #[.int .i64 q[j].f, .int .i64 q[j].t]] W fun e w' => e = .returned (.agg #[.int .i64 (meetS x.sp q[j]).f, .int .i64 (meetS x.sp q[j]).t]) ∧ Below W.heap.size W w') at HM
          generalize meetS x.sp q[j] = m at *
          generalize q[j] = n at *
          obtain ⟨mf, mt⟩ := m
          dsimp only at HM HN HTK HSP
          have K1 := Lib.hid (HK.out.below (below_one wr (.cells #[.int .i64 n.f, .int .i64 n.t] 24)))
          have O1 := Lib.hid (own_below HO.out (below_one wr (.cells #[.int .i64 n.f, .int .i64 n.t] 24)))
          clear HMT HNO
          go_wp2_with fail
          refine (HM.out _).mono ?_
          rintro e w3 ⟨rfl, hb3⟩
          have HZ3 := Lib.hid (Nat.le_trans (Nat.le_trans HZ.out (below_one wr (.cells #[.int .i64 n.f, .int .i64 n.t] 24)).size) hb3.size)
          have K2 := Lib.hid ((K1.out.below hb3).below (below_one w3 (.cells #[.int .i64 mf, .int .i64 mt] 24)))
          have O2 := Lib.hid (own_below (own_below O1.out hb3) (below_one w3 (.cells #[.int .i64 mf, .int .i64 mt] 24)))
          have C2 := Lib.hid (heap_alloc_new w3 (.cells #[.int .i64 mf, .int .i64 mt] 24))
          clear hb3 K1 O1 g0 g1 g2 g3 hgl hc0 hc1 hbl
          by_cases h1 : mt ≤ mf
          · have HN1 : Hid (∀ W, Calls Try.prog 15 #[.agg #[.int .i64 mf, .int .i64 mt]] W fun e w' => e = .returned (.bool true) ∧ Below W.heap.size W w') := fun W => by
              have := HN.out W
              rwa [decide_eq_true h1] at this
            have HE := Lib.hid (HSP.out (by omega))
            clear HN HTK HSP h1
            go_wp2_with fail
            refine (HN1.out _).mono ?_
            rintro e w4 ⟨rfl, hb4⟩
            have K3 := Lib.hid (K2.out.below hb4)
            have O3 := Lib.hid (own_below O2.out hb4)
            go_wp2
            go_ret
            exact ⟨_, rfl, by rw [← HPR.out, ← HE.out]; exact own_low O3.out (Nat.le_add_right _ _), K3.out.frame⟩
          · have HN1 : Hid (∀ W, Calls Try.prog 15 #[.agg #[.int .i64 mf, .int .i64 mt]] W fun e w' => e = .returned (.bool false) ∧ Below W.heap.size W w') := fun W => by
              have := HN.out W
              rwa [decide_eq_false h1] at this
            have HE := Lib.hid (HTK.out (by omega))
            clear HN HTK HSP h1
            go_wp2_with fail
            refine (HN1.out _).mono ?_
            rintro e w4 ⟨rfl, hb4⟩
            have K3 := Lib.hid (K2.out.below hb4)
            have O3 := Lib.hid (own_below (own_below O2.out hb4) (below_one w4 (.cells #[.int .i64 mf, .int .i64 mt, .int .i64 x.n, .int .i64 x.s] 52)))
            have hcm2 := (hb4.block _ (heap_lt C2.out)).trans C2.out
            have hm0 : w4.cell? ⟨w3.heap.size, 0, none⟩ = some (.int .i64 mf) := cell_of_row _ _ _ _ _ _ hcm2
            have hm1 : w4.cell? ⟨w3.heap.size, 1, none⟩ = some (.int .i64 mt) := cell_of_row _ _ _ _ _ _ hcm2
            obtain ⟨g0, g1, g2, g3⟩ := cells4 K3.out.box
            have HZ4 := Lib.hid (Nat.le_trans (Nat.le_trans HZ3.out (below_one w3 (.cells #[.int .i64 mf, .int .i64 mt] 24)).size) hb4.size)
            have HS2 : Hid (w.heap.size + 2 ≤ (w4.alloc (.cells #[.int .i64 mf, .int .i64 mt, .int .i64 x.n, .int .i64 x.s] 52)).heap.size) := by
              have := HZ4.out
              unfold Hid
              rw [size1]
              omega
            have hlj := HLN.out
            clear hcm2 hb4 K2 O2 C2 HZ3 HZ
            generalize piecesS x (q.take j) = ps at *
            go_wp2_with (at_builtin; refine wpList_append_own _ rfl (.tmp 28) (.tmp 35) 56 rfl (w.heap.size + 2) 52 i0 _ 4 32 Try.underlying56 hi hz0 hz1 hz2 rfl (by decide) _ _ _ rfl O3.out ⟨w4.heap.size, 0, none⟩ 1 1 [.int .i64 mf, .int .i64 mt, .int .i64 x.n, .int .i64 x.s] rfl rfl (news_at _ _ _ _ rfl) (four_one _ _ _ _) (by unfold maxLen; omega) (by omega) HS2.out ?_; intro v' w5 hown' hgrow hiff)
            have HO4 := Lib.hid hown'
            have K4 := Lib.hid (K3.out.app HRW.out HZ4.out O3.out hgrow)
            have hpl : ps.length ≤ 1000 := by omega
            clear hown' hiff hgrow O3 K3 HS2 HZ4 g0 g1 g2 g3 hm0 hm1
            go_wp2
            go_roundw
            case rel => exact ⟨j + 1, by omega, by go_num, (by unfold Hid; rw [HE.out, List.length_append, List.length_singleton]; omega), (by unfold Hid; rw [HE.out, List.length_append, sts_snoc]; exact HO4.out), K4.out⟩
            case measure => simp [intOf]; omega
        · obtain rfl : j = q.length := by omega
          rw [List.take_of_length_le (Nat.le_refl _)] at HO
          go_wp2
          go_ret
          exact ⟨_, rfl, by rw [← HPR.out]; exact own_low HO.out (Nat.le_add_right _ _), HK.out.frame⟩
    · have hkl : k = r.length := by omega
      have HPN : Hid (piecesS x r = []) := by
        have := HPR.out
        rw [hkl, List.drop_eq_nil_of_le (Nat.le_refl _)] at this
        rw [Hid, ← this]
        rfl
      subst hkl
      clear HST HPR
      by_cases hck : c = r.length
      · subst hck
        go_wp2
        go_loopw [6, 18] (fun v i wr => i = .int .i64 0 ∧ v = .slice none 0 0 ∧ Hid (Below w.heap.size w wr)) (fun _ i _ => 1)
        case atStart => exact ⟨rfl, rfl, K2.out.frame⟩
        case round =>
          obtain ⟨rfl, rfl, HB3⟩ := hrel
          go_wp2
          go_ret
          rw [HPN.out]
          exact ⟨_, rfl, ⟨rfl, .inl ⟨rfl, rfl⟩⟩, HB3.out⟩
      · go_wp2
        go_loopw [6, 18] (fun v i wr => i = .int .i64 0 ∧ v = .slice none 0 0 ∧ Hid (Below w.heap.size w wr)) (fun _ i _ => 1)
        case atStart => exact ⟨rfl, rfl, K2.out.frame⟩
        case round =>
          obtain ⟨rfl, rfl, HB3⟩ := hrel
          go_wp2
          go_ret
          rw [HPN.out]
          exact ⟨_, rfl, ⟨rfl, .inl ⟨rfl, rfl⟩⟩, HB3.out⟩
end Go.Proofs.Ytbcabbddgppkaaa
