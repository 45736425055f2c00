/- CrcParts: the sum of texts is that of the one that they are together, and texts that are empty change nothing; for every row of texts. No condition. -/
import Derived.Test.YtmcjpncipinlkaaC9
import Derived.Test.YtmcjpncipinlkaaF3
namespace Go.Proofs.Ytmcjpncipinlkaa.crcParts
open Go.ChangeShapes Go.WideShapes Go.ChangeAt Go.RowKit
open Go.ChangeMaps (open_string shut_string)
set_option linter.unusedVariables false

theorem flat_size (l : List ByteArray) (n : Nat) (h : ∀ k (hk : k < l.length), k < n → l[k].size ≤ 200) : ∀ j, j ≤ n → j ≤ l.length → (flat (l.take j)).length ≤ 200 * j
  | 0, _, _ => by simp [flat]
  | j + 1, h1, h2 => by
    rw [flat_take l j (by omega), List.length_append, toL_length]
    have a := flat_size l n h j (by omega) (by omega)
    have b := h j (by omega) (by omega)
    omega
theorem add_next (l : List ByteArray) (j : Nat) (h : j < l.length) : tx (flat (l.take j)) ++ l[j] = tx (flat (l.take (j + 1))) := by
  rw [flat_take l j h, ← tx_append, tx_toL]

set_option maxHeartbeats 2000000 in
theorem walk (w : World) (a : Option Addr) (c : Nat) (l : List ByteArray) (hr : Sl w a (strs l)) (hf : Fits l) (hc : l.length ≤ c) (hcm : c ≤ maxLen) (hnil : a = none → c = 0) :
    Calls Try.prog 6 #[.slice a l.length c] w fun e w' => e = .returned (.bool true) ∧ Below w.heap.size w w' := by
  obtain ⟨i0, hi, hz0, hz1, hz2⟩ := info_parts Try.infoStr
  have HAL := Lib.hid alive_any
  have HR := Lib.hid hr
  have HF := Lib.hid hf
  have HNIL := Lib.hid hnil
  have hll := hf.1
  unfold maxLen at hll
  clear hr hf hcm hnil
  go_enter Try.func6, Try.ntmps6
  go_wp2
  go_loopw [3, 8] (fun o i wr => ∃ j : Nat, j ≤ l.length ∧ i = .int .i64 j ∧ o = .string (tx (flat (l.take j))) ∧ (j = 0 ∨ l.length ≤ 50) ∧ (∀ k (hk : k < l.length), k < j → l[k].size ≤ 200) ∧ w = wr) (fun _ i _ => l.length - (intOf i).toNat)
  case atStart => exact ⟨0, by omega, rfl, rfl, .inl rfl, fun k hk h => absurd h (by omega), rfl⟩
  case round =>
    obtain ⟨j, hj, rfl, rfl, h50, h200, rfl⟩ := hrel
    have HH := Lib.hid h200
    have HSZ := Lib.hid (flat_size l j h200 j (Nat.le_refl _) hj)
    clear h200
    by_cases hjl : j < l.length
    · obtain ⟨b, off, rfl, hbl, hcell⟩ := HR.out.str hjl
      have hsz := HF.out.2 l[j] (List.getElem_mem hjl)
      unfold maxLen at hsz
      have HN := Lib.hid (add_next l j hjl)
      obtain ⟨s, hs⟩ : ∃ s, l[j] = s := ⟨_, rfl⟩
      have HS := Lib.hid hs
      rw [hs] at hcell hsz HN
      clear hs
      by_cases hbig : 50 < l.length
      · go_wp2_with fail
        refine (HAL.out _).mono ?_
        rintro e w1 ⟨rfl, hB⟩
        go_wp2
        go_ret
        exact ⟨rfl, hB⟩
      · have hd : decide ((50 : Int) < (l.length : Int)) = false := decide_eq_false (by omega)
        by_cases hlong : 200 < s.size
        · go_wp2_with fail
          refine (HAL.out _).mono ?_
          rintro e w1 ⟨rfl, hB⟩
          go_wp2
          go_ret
          exact ⟨rfl, hB⟩
        · have hd2 : decide ((200 : Int) < (s.size : Int)) = false := decide_eq_false (by omega)
          have hts : (tx (flat (l.take j))).size ≤ 10000 := by rw [tx_size]; have := HSZ.out; omega
          generalize tx (flat (l.take j)) = o at *
          go_wp2
          go_roundw
          case rel => exact ⟨j + 1, by omega, by go_num, by rw [← HN.out], .inr (by omega), fun k hk h => by
            rcases Nat.lt_or_ge k j with h1 | h1
            · exact HH.out k hk h1
            · obtain rfl : k = j := by omega
              rw [HS.out]; omega, by trivial⟩
          case measure => simp [intOf]; omega
    · obtain rfl : j = l.length := by omega
      have hlen : l.length ≤ 50 := by omega
      have HSUM := Lib.hid (fun W h => sum_any a c l W h HF.out)
      have HTXT := Lib.hid (fun W h => text_any a c l W h HF.out)
      have hfl : flat (l.take l.length) = flat l := by rw [List.take_of_length_le (Nat.le_refl _)]
      rw [hfl] at HSZ
      rw [hfl]
      have hts : (tx (flat l)).size ≤ 10000 := by rw [tx_size]; have := HSZ.out; omega
      have hmx : (tx (flat l)).size ≤ maxLen := by unfold maxLen; omega
      have H1 := Lib.hid (fun W => sum_one W W.heap.size (tx (flat l)) hmx rfl)
      have H2 := Lib.hid (fun W => text_one W W.heap.size (tx (flat l)) hmx rfl)
      rw [toL_tx] at H1 H2
      have HE : Hid (∀ W a c, Sl W a (strs (l ++ [⟨#[]⟩])) → Calls Try.prog 15 #[.slice a (l.length + 1) c] W fun e w' => e = .returned (.int .u32 (sumN (flat l) : Int)) ∧ Below W.heap.size W w') := fun W a c h => by
        have := sum_any a c (l ++ [⟨#[]⟩]) W h ⟨by simp [maxLen]; omega, fun s hs => by
          rcases List.mem_append.1 hs with h1 | h1
          · exact HF.out.2 s h1
          · rw [List.mem_singleton.1 h1]; decide⟩
        rw [flat_snoc, show toL ⟨#[]⟩ = [] from rfl, List.append_nil, List.length_append] at this
        exact this
      have heq : ((textN (sumN (flat l))).toList == (textN (sumN (flat l))).toList) = true := beq_self_eq_true _
      clear hfl HSZ HH HF hmx h50 hj hjl
      generalize textN (sumN (flat l)) = t at *
      generalize sumN (flat l) = n at *
      generalize tx (flat l) = s at *
      go_wp2_with fail
      refine (HAL.out _).mono ?_
      rintro e w2 ⟨rfl, hB2⟩
      have HS2 := Lib.hid (HR.out.below hB2)
      have HB2 := Lib.hid hB2
      clear hB2
      go_wp2_with fail
      refine (HSUM.out _ HS2.out).mono ?_
      rintro e w3 ⟨rfl, hB3⟩
      have HB3 : Hid (Below w.heap.size w w3) := HB2.out.trans (hB3.mono HB2.out.size)
      clear hB3 HS2 HB2
      go_wp2_with fail
      refine (H1.out _).mono ?_
      rintro e w4 ⟨rfl, hB4⟩
      have HB4 : Hid (Below w.heap.size w w4) := HB3.out.trans (hB4.mono HB3.out.size)
      have HS4 := Lib.hid (HR.out.below HB4.out)
      clear hB4 HB3
      go_wp2_with fail
      refine (HTXT.out _ HS4.out).mono ?_
      rintro e w5 ⟨rfl, hB5⟩
      have HB5 : Hid (Below w.heap.size w w5) := HB4.out.trans (hB5.mono HB4.out.size)
      clear hB5 HS4 HB4
      go_wp2_with fail
      refine (H2.out _).mono ?_
      rintro e w6 ⟨rfl, hB6⟩
      have HB6 : Hid (Below w.heap.size w w6) := HB5.out.trans (hB6.mono HB5.out.size)
      have HS6 := Lib.hid (HR.out.below HB6.out)
      clear hB6 HB5
      have hsz6 := HB6.out.size
      go_wp2_with (first
        | (at_builtin; refine wpList_unguard (by rfl) ?_; refine wpList_append_sl _ rfl (.tmp 43) (.tmp 44) 36 rfl w6.heap.size 9 i0 (.string ⟨#[]⟩) 16 Try.underlying36 hi hz0 hz1 hz2 rfl (.slice (some ⟨w6.heap.size, 0, none⟩) 0 0) 0 [] rfl (own_empty w6 _ _ rfl) a l.length c (strs l) rfl (HS6.out.below ((Below.refl _ _).alloc (Nat.le_refl _) _)) (strs_length _) HNIL.out (strs_one _) (by unfold maxLen; omega) (by omega) (by simp) ?_; intro v7 w7 hown7 hg7; have hB7 : Below w6.heap.size w6 w7 := ((Below.refl w6.heap.size w6).alloc (Nat.le_refl _) _).grown hg7 (by simp) (fun k hk => by cases hk; exact Nat.le_refl _))
        | (at_builtin; refine wpList_unguard (by rfl) ?_; refine wpList_append_sl _ rfl (.tmp 45) (.tmp 46) 36 rfl w6.heap.size 9 i0 (.string ⟨#[]⟩) 16 Try.underlying36 hi hz0 hz1 hz2 rfl v7 _ _ rfl (hown7.alloc _) (some ⟨w7.heap.size, 0, none⟩) 1 1 [.string ⟨#[]⟩] rfl (sl_lit w7 #[.string ⟨#[]⟩] 9) rfl (fun h => by cases h) (strs_one [⟨#[]⟩]) (by unfold maxLen; omega) (by omega) (Nat.le_trans hB7.size (by simp)) ?_; intro v8 w8 hown8 hg8))
      have hB8 : Below w6.heap.size w6 w8 := (hB7.alloc hB7.size _).grown hg8 (Nat.le_trans hB7.size (by simp)) (fun k hk => (hown7.lt k hk).1)
      have e1 : 0 + l.length + 1 = l.length + 1 := by omega
      have e2 : [] ++ strs l ++ [.string ⟨#[]⟩] = strs (l ++ [⟨#[]⟩]) := by simp [strs]
      rw [e1, e2] at hown8
      obtain ⟨a8, c8, rfl, _, _, hs8, _⟩ := own_slice hown8
      have H8 := Lib.hid (HE.out w8 a8 c8 hs8)
      have HB8 : Hid (Below w.heap.size w w8) := HB6.out.trans (hB8.mono HB6.out.size)
      clear e1 e2 hown7 hown8 hg7 hg8 hB7 hB8 hs8 HS6 HB6 hsz6 HE
      refine H8.out.mono ?_
      rintro e w9 ⟨rfl, hB9⟩
      have HB9 : Hid (Below w.heap.size w w9) := HB8.out.trans (hB9.mono HB8.out.size)
      clear hB9 HB8 H8
      go_wp2_with fail
      refine (H1.out _).mono ?_
      rintro e w10 ⟨rfl, hB10⟩
      go_wp2
      go_ret
      exact ⟨rfl, HB9.out.trans (hB10.mono HB9.out.size)⟩

set_option maxRecDepth 100000 in
theorem lifted (os : Os) (started : os.Started) (H : Type) (enc : TypeId × Value → H) :
    ReturnsInHanded {} Try.checked os 6 .any (Rows.crcPartsSpec.pre6 enc Try.prog Try.f6 Rows.crcPartsRow.domain false) (Rows.crcPartsSpec.post enc Try.prog Try.f6 false true false false) := by
  refine returnsInHanded_of_change (C := Try.checked) own started (by kernel_rfl) Try.func6
    (ChangeSpec.witness6 (enc := enc) (C := Try.checked) false ⟨#[], #[.slice none 0 0], []⟩ 8 (by kernel_rfl) (by kernel_rfl) (by kernel_rfl) (by kernel_rfl)) ?_
  intro W base args ds gs before hval0 hW hcnd _
  have hval : ∀ (j : Nat) t v, Try.f6.params[j]? = some t → args[j]? = some v → Value.okWide Try.prog W .any base t v := hval0
  have hW' := hW
  have hlt := hW.lt
  obtain ⟨p, q, hA0, hV, rfl, hfz, hnd⟩ := hW
  have hA : DataW.TrodAll enc Try.prog W 0 (fun _ => true) true Try.f6.params.toList args.toList ds p := hA0
  rw [Try.params6] at hA hval
  obtain ⟨v0, vs0, d0, ds0, p0, q0, hargs, rfl, rfl, h0, r0⟩ := trodAll_cons hA
  obtain ⟨rfl, rfl, rfl⟩ := trodAll_nil r0
  obtain rfl : args = #[v0] := by cases args; simp_all
  obtain ⟨a0, c0, l0, rfl, s0, f0, m0, n0, o0⟩ := open_row (hval 0 36 v0 rfl rfl) h0 (fun x hx => hlt x (by simp [hx]))
  refine (walk W a0 c0 l0 s0 f0 m0 n0 o0).mono fun e W' ⟨he, hb⟩ => ?_
  subst he
  exact ⟨_, rfl, law_post rfl hW' (fun ds h => by match ds, h with | [_], _ => rfl) (by kernel_rfl) (by kernel_rfl) (by kernel_rfl) hb⟩

theorem over : Rows.crcPartsRow.holds Try.pinned (OpenSpec.ofChange Rows.crcPartsSpec) :=
  OpenClaim.holds_of_wide 6 Try.f6 rfl rfl rfl rfl rfl rfl rfl ⟨rfl, rfl, rfl, rfl, rfl⟩ rfl rfl rfl rfl rfl (by kernel_rfl) Try.func6 (by kernel_rfl)
    (of_decide_eq_true (by kernel_rfl)) (by unfold Func.isWrapper; first | (rw [if_pos (by decide +kernel)]; kernel_rfl) | (rw [if_neg (by decide +kernel)]; exact ⟨rfl, rfl⟩))
    (fun os started H enc _ => lifted os started H enc)

theorem proved : Rows.CrcPartsSaid := over
end Go.Proofs.Ytmcjpncipinlkaa.crcParts
