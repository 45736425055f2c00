/- Layer 8: what is left of some stays within some spans, as the program has it: contract. -/
import Derived.Test.YtbcabbddgppkaaaZ15
import Derived.Test.YtbcabbddgppkaaaZ13
import Derived.Test.YtbcabbddgppkaaaW12
namespace Go.Proofs.Ytbcabbddgppkaaa
open Go.RowKit Go.Sort Go.Proofs
set_option linter.unusedVariables false
set_option maxRecDepth 100000

theorem own_shape {w : World} {B e k n : Nat} {v : Value} {xs : List Value} (h : w.ownsRow B e k v n xs) : ∃ a c, v = .slice a n c ∧ ((a = none ∧ c = 0) ∨ ∃ b off, a = some ⟨b, off, none⟩) ∧ n ≤ c ∧ c ≤ maxLen := by
  rcases h.2 with ⟨rfl, hn⟩ | ⟨g, cap, cur, rfl, hg, hh, hn, hc, hsz, ht⟩
  · subst hn
    exact ⟨none, 0, rfl, .inl ⟨rfl, rfl⟩, Nat.le_refl _, by unfold maxLen; omega⟩
  · exact ⟨_, cap, rfl, .inr ⟨_, _, rfl⟩, hn, hc⟩

set_option maxHeartbeats 4000000 in
theorem cut_any (a : Option Addr) (c : Nat) (l : List StM) (xb : Option Addr) (cb : Nat) (by_ : List SpM) (w : World) (hr : StSl w a l) (hb : SpSl w xb by_) (hl : l.length ≤ 1000) (hlb : by_.length ≤ 1000) (hcb : by_.length ≤ cb) (hcm : cb ≤ maxLen) (hs : l.length * by_.length ≤ 100000) :
    Calls Try.prog 40 #[.slice a l.length c, .slice xb by_.length cb] w fun e w' => ∃ v m, e = .returned v ∧ IsCut l (HasL by_) m ∧ m.length ≤ l.length * by_.length ∧ w'.ownsRow w.heap.size 52 4 v m.length (sts m) ∧ Below w.heap.size w w' := by
  obtain ⟨i0, hi, hz0, hz1, hz2⟩ := info_parts infoStay
  have HR := Lib.hid hr
  have HN := Lib.hid (norm_any xb cb by_ w hb (by omega) hcb hcm)
  have HPI := Lib.hid pieces_any
  unfold stV at HPI
  have HSO := Lib.hid sort8_any
  clear hr hb
  have HSZ := Lib.hid hs
  clear hs
  unfold maxLen at hcm
  go_enter Try.func40, Try.ntmps40
  go_wp2_with fail
  refine HN.out.mono ?_
  rintro e w1 ⟨vn, r, rfl, hset, hrl, ho, hb1⟩
  obtain ⟨na, nc, rfl, hsh, hnc, hncm⟩ := own_shape ho
  have hsp : SpSl w1 na r := by
    obtain ⟨a', c', e1, _, h1⟩ := own_sp ho
    injection e1 with e1 _ _
    rw [e1]; exact h1
  have HW : Hid (∀ W x, Below w1.heap.size w1 W → Calls Try.prog 63 #[.agg #[.int .i64 x.f, .int .i64 x.t, .int .i64 x.n, .int .i64 x.s], .slice na r.length nc] W fun e w' => ∃ v, e = .returned v ∧ w'.ownsRow W.heap.size 52 4 v (piecesS x r).length (sts (piecesS x r)) ∧ Below W.heap.size W w') := fun W x h => HPI.out na nc r x W (hsp.below h) hset.1 hsh (by omega) hnc hncm
  have HSET := Lib.hid hset
  have HB1 := Lib.hid hb1
  have HRL : Hid (l.length * r.length ≤ l.length * by_.length) := Nat.mul_le_mul_left _ hrl
  have HRA := Lib.hid (fun j => raw_le r (l.take j))
  clear hset ho hsp hsh hb1 HN HPI hnc hncm hrl
  have hrl2 : Hid (∀ j, j ≤ l.length → (rawS (l.take j) r).length ≤ 100000) := fun j hj => by
    have h1 := HRA.out j
    have h2 : (l.take j).length * r.length ≤ l.length * r.length := Nat.mul_le_mul_right _ (by simp; omega)
    have := HRL.out
    have := HSZ.out
    omega
  go_wp2
  go_loopw [6, 13] (fun v i wr => ∃ (j : Nat), j ≤ l.length ∧ i = .int .i64 j ∧ Hid (wr.ownsRow w1.heap.size 52 4 v (rawS (l.take j) r).length (sts (rawS (l.take j) r))) ∧ Hid (Below w1.heap.size w1 wr)) (fun _ i _ => l.length - (intOf i).toNat)
  case atStart => exact ⟨0, by omega, rfl, ⟨rfl, .inl ⟨rfl, rfl⟩⟩, Below.refl _ _⟩
  case round =>
    obtain ⟨j, hj, rfl, HO, HB⟩ := hrel
    have HBW := Lib.hid (HB1.out.trans (HB.out.mono HB1.out.size))
    by_cases hjl : j < l.length
    · obtain ⟨b, off, rfl, hbl, hc0, hc1, hc2, hc3⟩ := (HR.out.below HBW.out).at_ hjl
      have HC := Lib.hid (raw_take l r j hjl)
      have HLJ := Lib.hid (hrl2.out (j + 1) (by omega))
      generalize l[j] = x at *
      have HX := Lib.hid (fun W h => HW.out W x h)
      have HB2 := Lib.hid (HB.out.trans ((below_one wr (.cells #[.int .i64 x.f, .int .i64 x.t, .int .i64 x.n, .int .i64 x.s] 52)).mono HB.out.size))
      have HO2 := Lib.hid (own_below HO.out (below_one wr (.cells #[.int .i64 x.f, .int .i64 x.t, .int .i64 x.n, .int .i64 x.s] 52)))
      rw [HC.out, List.length_append] at HLJ
      generalize hM : rawS (l.take j) r = M at *
      go_wp2_with fail
      refine (HX.out _ HB2.out).mono ?_
      rintro e w3 ⟨v3, rfl, ho3, hb3⟩
      have HB3 := Lib.hid (HB2.out.trans (hb3.mono HB2.out.size))
      have HO3 := Lib.hid (own_below HO2.out hb3)
      obtain ⟨pa, pc, rfl, _, _, hps, hpn⟩ := own_st ho3
      have HPS := Lib.hid hps
      have HPN := Lib.hid hpn
      generalize piecesS x r = ps at *
      have hlen : M.length + ps.length ≤ 1000000 := by have := HLJ.out; omega
      clear ho3 hb3 hps hpn HB2 HO2
      go_wp2_with (at_builtin; refine wpList_append_st _ rfl (.tmp 17) (.tmp 20) 56 rfl w1.heap.size 52 i0 _ Try.underlying56 hi hz0 hz1 hz2 rfl _ M rfl HO3.out pa pc ps rfl HPS.out HPN.out hlen HB3.out.size ?_; intro v4 w4 hown4 hB4)
      have HO4 := Lib.hid hown4
      have HB4 := Lib.hid (HB3.out.trans hB4)
      clear hown4 hB4
      go_wp2
      go_roundw
      case rel => exact ⟨j + 1, by omega, by go_num, (by unfold Hid; rw [HC.out]; exact HO4.out), HB4.out⟩
      case measure => simp [intOf]; omega
    · obtain rfl : j = l.length := by omega
      have HLJ := hrl2.out l.length (Nat.le_refl _)
      rw [List.take_of_length_le (Nat.le_refl _)] at HO HLJ
      have HRA2 := Lib.hid (HRA.out l.length)
      rw [List.take_of_length_le (Nat.le_refl _)] at HRA2
      generalize hM : rawS l r = M at *
      have HS := Lib.hid (HSO.out w1.heap.size _ M wr HB.out.size HO.out (by omega))
      clear HLJ
      go_wp2_with fail
      refine HS.out.mono ?_
      rintro e w5 ⟨rfl, m, hperm, hsort, ho5, hb5⟩
      go_wp2
      go_ret
      refine ⟨_, m, rfl, ⟨r, HSET.out, hM ▸ hperm, hsort⟩, ?_, own_low ho5 HB1.out.size, HB1.out.trans ((HB.out.trans hb5).mono HB1.out.size)⟩
      rw [hperm.length_eq]
      exact Nat.le_trans HRA2.out HRL.out
end Go.Proofs.Ytbcabbddgppkaaa
