/- Layer 9: a pair's periods, in the program and in the document: contracts. -/
import Derived.Test.YthaancmobpamhaaAB5
import Derived.Test.YthaancmobpamhaaAB9
import Derived.Test.YthaancmobpamhaaW13
import Derived.Test.YthaancmobpamhaaW8
import Derived.Deep.RegionHeld3
import Derived.Maps.AppendAt
namespace Go.Proofs.Ythaancmobpamhaa
open Go.RowKit Go.Proofs
set_option linter.unusedVariables false
set_option maxRecDepth 100000

theorem per_take (l : List EnM) (p u : ByteArray) (j : Nat) (h : j < l.length) : perS (l.take (j + 1)) p u = perS (l.take j) p u ++ (if ofE p u l[j] = true then [l[j].sp] else []) := by
  unfold perS
  rw [fil_take _ l j h, List.map_append]
  congr 1
  by_cases h1 : ofE p u l[j] = true
  · rw [if_pos h1, if_pos h1]; rfl
  · rw [if_neg h1, if_neg h1]; rfl
theorem per_tlen (l : List EnM) (p u : ByteArray) (j : Nat) : (perS (l.take j) p u).length ≤ j := by
  unfold perS
  rw [List.length_map]
  exact fil_len _ l j

theorem step_append_own {P : Program} {ops : Array Oper} {o : Oper} {a : Act} {w : World} {K : Act → World → Prop} {Q : Exit → Act → World → Prop} {E : Prop}
    (hg : o.guard = none) (s x : Operand) (t : TypeId) (hop : o.op = Op.call { callee := Callee.builtin Builtin.append, args := #[s, x], argTypes := #[t, t] })
    (base : Nat) (e : TypeId) (i : TypeInfo) (z : Value) (size bytes : Nat) (ht : P.underlying t = some (.slice e)) (hi : P.info? e = some i) (hz : i.zero = some z)
    (hsize : i.size = size) (hby : i.bytes = bytes) (hzs : z.cells.size = size) (hsz : 0 < size)
    (v : Value) (n : Nat) (xs : List Value) (hs : a.eval s = v) (hown : w.ownsRow base e size v n xs)
    (ad : Addr) (m c : Nat) (news : List Value) (hx : a.eval x = .slice (some ad) m c) (hl : news.length = m * size) (hnews : ∀ j u, news[j]? = some u → w.cell? (ad.add j) = some u) (h1 : ∀ u ∈ news, u.oneCell' = true)
    (h63 : n + m ≤ maxLen) (hbytes : (n + m) * bytes ≤ 140737488355328) (hbase : base ≤ w.heap.size)
    (hK : ∀ v' w', w'.ownsRow base e size v' (n + m) (xs ++ news) → w.grownBy w' v.ownBlock → K (a.put o.dst v') w') :
    if Region.wanted o (yielded ops a.tmps) = true then Oper.wp P o a w K Q else E := by
  have hw : Region.wanted o (yielded ops a.tmps) = true := by simp [Region.wanted, hg]
  rw [if_pos hw]
  obtain ⟨v', w', hrun, ho, hg, -, -⟩ := run_append_own_at (P := P) (w := w) base t o.type e i z size bytes ht hi hz hsize hby hzs hsz v n xs hown ad m c news hl hnews h1 h63 hbytes hbase
  unfold Oper.wp
  simp [execOp, hop, resolve, invoke, builtin, hs, hx, hrun, Result.andThen]
  exact hK v' w' ho hg

set_option maxHeartbeats 4000000 in
theorem periods_any (a : Option Addr) (c : Nat) (l : List EnM) (p u : ByteArray) (w : World) (hr : EnSl w a l) (hl : l.length ≤ 1000) :
    Calls Try.prog 22 #[.slice a l.length c, pr p u] w fun e w' => ∃ v r, e = .returned v ∧ IsSet (HasL (perS l p u)) r ∧ r.length ≤ l.length ∧ w'.ownsRow w.heap.size 56 2 v r.length (sps r) ∧ Below w.heap.size w w' := by
  obtain ⟨i0, hi, hz0, hz1, hz2⟩ := info_parts infoSpan
  have HK0 := Lib.hid (PK.new hr p u 31)
  have HNM := Lib.hid (fun x q W (h : SpSl W x (perS l p u)) h1 h2 => norm_any x q (perS l p u) W h (by have := per_len l p u; omega) h1 h2)
  have HPL := Lib.hid (per_len l p u)
  unfold pr
  clear hr
  go_enter Try.func22, Try.ntmps22
  go_wp2
  generalize w.alloc (.cells #[.string p, .string u] 31) = W0 at *
  generalize w.heap.size = g at *
  go_loopw [5, 10] (fun v i wr => ∃ (j : Nat), j ≤ l.length ∧ i = .int .i64 j ∧ Hid (wr.ownsRow W0.heap.size 56 2 v (perS (l.take j) p u).length (sps (perS (l.take j) p u))) ∧ Hid (Below W0.heap.size W0 wr)) (fun _ i _ => l.length - (intOf i).toNat)
  case atStart => exact ⟨0, by omega, rfl, ⟨rfl, .inl ⟨rfl, rfl⟩⟩, Below.refl _ _⟩
  case round =>
    obtain ⟨j, hj, rfl, HO, HB⟩ := hrel
    have HKW := Lib.hid (HK0.out.below HB.out)
    by_cases hjl : j < l.length
    · obtain ⟨b, off, rfl, hbl, hc0, hc1, hc2, hc3⟩ := HKW.out.row.at_ hjl
      have HT := Lib.hid (per_take l p u j hjl)
      have HLN := Lib.hid (per_tlen l p u j)
      generalize l[j] = x at *
      generalize perS (l.take j) p u = m at *
      have HTT : Hid (x.w = p ∧ x.u = u → perS (l.take (j + 1)) p u = m ++ [x.sp]) := fun h => by have := HT.out; rwa [if_pos (ofE_iff.2 h)] at this
      have HTF : Hid (¬ (x.w = p ∧ x.u = u) → perS (l.take (j + 1)) p u = m) := fun h => by have := HT.out; rwa [if_neg (fun k => h (ofE_iff.1 k)), List.append_nil] at this
      have hb0 := below_one wr (.cells #[.string x.w, .string x.u, .int .i64 x.f, .int .i64 x.t] 63)
      obtain ⟨c0, c1, -⟩ := (HKW.out.below hb0).pc
      obtain ⟨d0, d1, d2, d3⟩ := cells4 (heap_alloc_new wr (.cells #[.string x.w, .string x.u, .int .i64 x.f, .int .i64 x.t] 63))
      have HB0 := Lib.hid hb0
      have HO1 := Lib.hid (own_below HO.out hb0)
      have HB1 := Lib.hid (HB.out.trans (hb0.mono HB.out.size))
      clear hb0 HT
      by_cases h1 : x.w = p
      · have e1 : (x.w.toList == p.toList) = true := by rw [h1]; exact str_eq p
        by_cases h2 : x.u = u
        · have e2 : (x.u.toList == u.toList) = true := by rw [h2]; exact str_eq u
          have HC2 := Lib.hid (HTT.out ⟨h1, h2⟩)
          clear HTT HTF h1 h2
          generalize hW1 : wr.alloc (.cells #[.string x.w, .string x.u, .int .i64 x.f, .int .i64 x.t] 63) = W1 at *
          have HO2 := Lib.hid (own_below HO1.out (below_one W1 (.cells #[.int .i64 x.f, .int .i64 x.t] 56)))
          have HB2 : Hid (Below W0.heap.size W0 (W1.alloc (.cells #[.int .i64 x.f, .int .i64 x.t] 56))) := HB1.out.trans ((below_one W1 _).mono HB1.out.size)
          have HS2 := Lib.hid HB2.out.size
          have hlm := HLN.out
          rw [← hW1] at c0 c1 d0 d1 d2 d3 HO2 HB2 HS2
          clear hW1
          go_wp2_with (at_builtin; refine wpList_append_own _ rfl (.tmp 18) (.tmp 21) 42 rfl W0.heap.size 56 i0 _ 2 16 Try.underlying42 hi hz0 hz1 hz2 rfl (by decide) _ _ _ rfl HO2.out ⟨wr.heap.size + 1, 0, none⟩ 1 1 [.int .i64 x.f, .int .i64 x.t] rfl rfl (news_at _ _ _ _ (size1 _ _).symm) (two_one _ _) (by unfold maxLen; omega) (by omega) HS2.out ?_; intro v' w3 hown' hgrow hiff)
          have HB3 := Lib.hid (app_below HB2.out HS2.out HO2.out hgrow)
          have HO3 := Lib.hid hown'
          clear hown' hgrow hiff HB2 HS2 HO2
          go_wp2
          go_roundw
          case rel => exact ⟨j + 1, by omega, by go_num, (by unfold Hid; rw [HC2.out, List.length_append, sps_snoc]; exact HO3.out), HB3⟩
          case measure => simp [intOf]; omega
        · have e2 := str_ne h2
          have HC2 := Lib.hid (HTF.out (fun h => h2 h.2))
          clear HTT HTF h1 h2
          go_wp2
          go_roundw
          case rel => exact ⟨j + 1, by omega, by go_num, (by unfold Hid; rw [HC2.out]; exact HO1.out), HB1⟩
          case measure => simp [intOf]; omega
      · have e1 := str_ne h1
        have HC2 := Lib.hid (HTF.out (fun h => h1 h.1))
        clear HTT HTF h1
        go_wp2
        go_roundw
        case rel => exact ⟨j + 1, by omega, by go_num, (by unfold Hid; rw [HC2.out]; exact HO1.out), HB1⟩
        case measure => simp [intOf]; omega
    · obtain rfl : j = l.length := by omega
      rw [List.take_of_length_le (Nat.le_refl _)] at HO
      obtain ⟨x, q, rfl, h1, h2, h3, -⟩ := own_spm HO.out
      have HC := Lib.hid (HNM.out x q _ h3 h1 h2)
      have HF := Lib.hid (HKW.out.frame)
      clear h1 h2 h3 HNM HO
      go_wp2_with fail
      refine HC.out.mono ?_
      rintro e w2 ⟨v, r, rfl, hs, hrl, ho, hB⟩
      go_wp2
      go_ret
      exact ⟨v, r, rfl, hs, Nat.le_trans hrl HPL.out, own_low ho HF.out.size, HF.out.trans (hB.mono HF.out.size)⟩

set_option maxHeartbeats 4000000 in
theorem refPeriods_any (a : Option Addr) (c : Nat) (l : List EnM) (p u : ByteArray) (w : World) (hr : EnSl w a l) (hl : l.length ≤ 1000) :
    Calls Try.prog 23 #[.slice a l.length c, pr p u] w fun e w' => ∃ v r, e = .returned v ∧ IsSet (HasL (perS l p u)) r ∧ r.length ≤ 2 * l.length ∧ w'.ownsRow w.heap.size 70 2 v r.length (sps r) ∧ Below w.heap.size w w' := by
  obtain ⟨i0, hi, hz0, hz1, hz2⟩ := info_parts infoSpanR
  have HK0 := Lib.hid (PK.new hr p u 24)
  have HNM := Lib.hid (fun x q W (h : SpSl W x (perS l p u)) => refNorm_any x q (perS l p u) W h (by have := per_len l p u; omega))
  have HPL := Lib.hid (per_len l p u)
  have HC := Lib.hid (fun e W => of_any e p u W)
  unfold enV pr at HC
  unfold pr
  clear hr
  go_enter Try.func23, Try.ntmps23
  go_wp2
  generalize w.alloc (.cells #[.string p, .string u] 24) = W0 at *
  generalize w.heap.size = g at *
  go_loopw [5, 6] (fun v i wr => ∃ (j : Nat), j ≤ l.length ∧ i = .int .i64 j ∧ Hid (wr.ownsRow W0.heap.size 70 2 v (perS (l.take j) p u).length (sps (perS (l.take j) p u))) ∧ Hid (Below W0.heap.size W0 wr)) (fun _ i _ => l.length - (intOf i).toNat)
  case atStart => exact ⟨0, by omega, rfl, ⟨rfl, .inl ⟨rfl, rfl⟩⟩, Below.refl _ _⟩
  case round =>
    obtain ⟨j, hj, rfl, HO, HB⟩ := hrel
    have HKW := Lib.hid (HK0.out.below HB.out)
    by_cases hjl : j < l.length
    · obtain ⟨b, off, rfl, -, -, -, -, -⟩ := HKW.out.row.at_ hjl
      have HT := Lib.hid (per_take l p u j hjl)
      have HLN := Lib.hid (per_tlen l p u j)
      have HSC := Lib.hid (fun W (h : PK w g p u (some ⟨b, off, none⟩) l W) => h.cells hjl)
      generalize l[j] = x at *
      generalize perS (l.take j) p u = m at *
      have K1 := HKW.out.below (Below.refl _ _).drew
      have HCC := Lib.hid (HC.out x)
      clear HC
      cases hb : ofE p u x with
      | true =>
        have HC2 : Hid (perS (l.take (j + 1)) p u = m ++ [x.sp]) := by have := HT.out; rwa [if_pos hb] at this
        rw [hb] at HCC
        clear HT hb
        go_wp2_with fail
        go_region_held3 (fun W => W.cell? ⟨g, 0, none⟩ = some (.string p) ∧ W.cell? ⟨g, 1, none⟩ = some (.string u) ∧ W.cell? ⟨b, off + j * 4, none⟩ = some (.string x.w) ∧ W.cell? ⟨b, off + j * 4 + 1, none⟩ = some (.string x.u) ∧ W.cell? ⟨b, off + j * 4 + 2, none⟩ = some (.int .i64 x.f) ∧ W.cell? ⟨b, off + j * 4 + 3, none⟩ = some (.int .i64 x.t))
          (first | exact HSC.out _ K2 | exact HSC.out _ K1)
          (first | (go_at_call 41; refine (HCC.out _).mono ?_; rintro e w2 ⟨rfl, h2⟩; have K2 := K1.below h2))
        have hbW : Below wr.heap.size wr w2 := (Below.refl _ _).drew.trans h2
        have hbX : Below wr.heap.size wr (w2.alloc (.cells #[.int .i64 x.f, .int .i64 x.t] 70)).drew := (hbW.trans ((below_one w2 _).mono hbW.size)).drew
        have HO2 := Lib.hid (own_below HO.out hbX)
        have HB2 := Lib.hid (HB.out.trans (hbX.mono HB.out.size))
        have HS2 := Lib.hid HB2.out.size
        have HNW : Hid (∀ j u, [Value.int .i64 x.f, .int .i64 x.t][j]? = some u → (w2.alloc (.cells #[.int .i64 x.f, .int .i64 x.t] 70)).drew.cell? ((⟨w2.heap.size, 0, none⟩ : Addr).add j) = some u) := fun j u h => news_at w2 #[.int .i64 x.f, .int .i64 x.t] 70 _ rfl j u h
        have HS6 : Hid (∀ W, Below W0.heap.size W0 W → W.cell? ⟨b, off + j * 4 + 2, none⟩ = some (.int .i64 x.f) ∧ W.cell? ⟨b, off + j * 4 + 3, none⟩ = some (.int .i64 x.t)) := fun W h => (HSC.out W (HK0.out.below h)).2.2.2.2
        have HBD := Lib.hid (HB.out.trans (hbW.drew.mono HB.out.size))
        have HBE := Lib.hid (HB.out.trans ((hbW.trans ((below_one w2 (.cells #[.int .i64 x.f, .int .i64 x.t] 70)).mono hbW.size)).mono HB.out.size))
        have hlm := HLN.out
        clear hbW hbX h2 K1 K2 HCC HSC HO HB
        go_wp2_with fail
        go_region_held3 (fun W => W.cell? ⟨b, off + j * 4 + 2, none⟩ = some (.int .i64 x.f) ∧ W.cell? ⟨b, off + j * 4 + 3, none⟩ = some (.int .i64 x.t))
          (first | with_reducible exact HS6.out _ HBD.out | with_reducible exact HS6.out _ HB2.out | with_reducible exact HS6.out _ HBE.out | with_reducible exact HS6.out _ HB3.out | assumption)
          (first | (refine step_append_own rfl (.tmp 19) (.tmp 31) 40 rfl W0.heap.size 70 i0 _ 2 16 Try.underlying40 hi hz0 hz1 hz2 rfl (by decide) _ _ _ rfl HO2.out ⟨w2.heap.size, 0, none⟩ 1 1 [.int .i64 x.f, .int .i64 x.t] rfl rfl HNW.out (two_one _ _) (by unfold maxLen; omega) (by omega) HS2.out ?_; intro v' w4 hown' hgrow; have HB3 := Lib.hid (app_below HB2.out HS2.out HO2.out hgrow); have HO3 := Lib.hid hown'; clear hown' hgrow))
        go_wp2
        go_roundw
        case rel => exact ⟨j + 1, by omega, by go_num, (by unfold Hid; rw [HC2.out, List.length_append, sps_snoc]; exact HO3.out), HB3⟩
        case measure => simp [intOf]; omega
      | false =>
        have HC2 : Hid (perS (l.take (j + 1)) p u = m) := by have := HT.out; rwa [if_neg (by rw [hb]; exact Bool.false_ne_true), List.append_nil] at this
        rw [hb] at HCC
        clear HT hb
        go_wp2_with fail
        go_region_held3 (fun W => W.cell? ⟨g, 0, none⟩ = some (.string p) ∧ W.cell? ⟨g, 1, none⟩ = some (.string u) ∧ W.cell? ⟨b, off + j * 4, none⟩ = some (.string x.w) ∧ W.cell? ⟨b, off + j * 4 + 1, none⟩ = some (.string x.u) ∧ W.cell? ⟨b, off + j * 4 + 2, none⟩ = some (.int .i64 x.f) ∧ W.cell? ⟨b, off + j * 4 + 3, none⟩ = some (.int .i64 x.t))
          (first | exact HSC.out _ K2 | exact HSC.out _ K1)
          (first | (go_at_call 41; refine (HCC.out _).mono ?_; rintro e w2 ⟨rfl, h2⟩; have K2 := K1.below h2))
        have hbW : Below wr.heap.size wr w2 := (Below.refl _ _).drew.trans h2
        have HOD := Lib.hid (own_below HO.out hbW)
        have HBD := Lib.hid (HB.out.trans (hbW.mono HB.out.size))
        clear hbW h2 K1 K2 HCC HSC HO HB
        go_wp2
        go_roundw
        case rel => exact ⟨j + 1, by omega, by go_num, (by unfold Hid; rw [HC2.out]; exact HOD.out), HBD⟩
        case measure => simp [intOf]; omega
    · obtain rfl : j = l.length := by omega
      rw [List.take_of_length_le (Nat.le_refl _)] at HO
      obtain ⟨x, q, rfl, h1, h2, h3, -⟩ := own_spm HO.out
      have HC := Lib.hid (HNM.out x q _ h3)
      have HF := Lib.hid (HKW.out.frame)
      clear h1 h2 h3 HNM HO
      go_wp2_with fail
      refine HC.out.mono ?_
      rintro e w2 ⟨v, r, rfl, hs, hrl, ho, hB⟩
      go_wp2
      go_ret
      exact ⟨v, r, rfl, hs, Nat.le_trans hrl (Nat.mul_le_mul_left 2 HPL.out), own_low ho HF.out.size, HF.out.trans (hB.mono HF.out.size)⟩
end Go.Proofs.Ythaancmobpamhaa
