/- FrameApart: two rows of frames have one text, one behind the other, just if they are the same: for every two rows of frames. No condition. -/
import Derived.Test.YtkfddmbhokeofaaI9
namespace Go.Proofs.Ytkfddmbhokeofaa.frameApart
open Go.ChangeShapes Go.WideShapes Go.ChangeAt Go.RowKit
open Go.ChangeMaps (open_string shut_string)
set_option linter.unusedVariables false

/-- what the closure tells of a row -/
def AllR (l : List Fr) (e : Ending) : Prop := (e = .returned (.tuple #[.string (tx (flatP l)), .bool true]) ∧ ∀ x ∈ l, packE x.1 x.2 = 0) ∨ e = .returned (.tuple #[.string ⟨#[]⟩, .bool false])

set_option maxHeartbeats 2000000 in
theorem all_any (a : Option Addr) (c : Nat) (l : List Fr) (w : World) (hr : FrSl w a l) (hf : FitsF l) :
    Calls Try.prog 23 #[.slice a l.length c] w fun e w' => AllR l e ∧ Below w.heap.size w w' := by
  have HR := Lib.hid hr
  have HF := Lib.hid hf
  have hll := hf.1
  unfold maxLen at hll
  clear hr hf
  have HP := Lib.hid (fun k b hb W => pack_any k b hb W)
  obtain ⟨n, hn⟩ : ∃ n, n = l.length := ⟨_, rfl⟩
  rw [← hn] at hll ⊢
  have HN := Lib.hid hn
  clear hn
  go_enter Try.func23, Try.ntmps23
  go_wp2
  go_loopw [4, 11] (fun o i wr => ∃ (j : Nat), j ≤ n ∧ i = .int .i64 j ∧ o = .string (tx (flatP (l.take j))) ∧ (flatP (l.take j)).length ≤ 4100 ∧ Hid (∀ k (hk : k < l.length), k < j → packE l[k].1 l[k].2 = 0) ∧ Hid (Below w.heap.size w wr)) (fun _ i _ => n - (intOf i).toNat)
  case atStart => exact ⟨0, by omega, rfl, rfl, by simp [flatP], (fun k hk h => absurd h (by omega)), Below.refl _ _⟩
  case round =>
    obtain ⟨j, hj, rfl, rfl, hsz, HOK, HB⟩ := hrel
    have hs1 : (tx (flatP (l.take j))).size = (flatP (l.take j)).length := tx_size _
    by_cases hjn : j < n
    · have hjl : j < l.length := by have := HN.out; omega
      obtain ⟨b, off, rfl, hbl, hc0, hc1⟩ := (HR.out.below HB.out).at hjl
      have HFL := Lib.hid (flatP_take l j hjl)
      have hdl := HF.out.2 l[j] (List.getElem_mem hjl)
      have HNX : Hid (packE l[j].1 l[j].2 = 0 → ∀ k (hk : k < l.length), k < j + 1 → packE l[k].1 l[k].2 = 0) := fun h k hk hkj => by
        rcases Nat.lt_or_ge k j with h1 | h1
        · exact HOK.out k hk h1
        · obtain rfl : k = j := by omega
          exact h
      generalize l[j] = x at *
      obtain ⟨k, d⟩ := x
      have hd : (tx d).size ≤ maxLen := by rw [tx_size]; exact hdl
      have HP1 := Lib.hid (HP.out k (tx d) hd)
      rw [toL_tx] at HP1
      have hkb : 0 ≤ (k.toNat : Int) ∧ (k.toNat : Int) ≤ 255 := ⟨by omega, by have := k.toNat_lt; omega⟩
      have HB1 := Lib.hid (HB.out.alloc HB.out.size (.cells #[.int .u8 (k.toNat : Int), .string (tx d)] 23))
      clear hjl hdl hd HB HP hbl HR HF
      by_cases hE : packE k d = 0
      · have hS : packS k d = packT k d := by unfold packS; rw [if_pos hE]
        rw [hS, hE] at HP1
        have HOK2 := Lib.hid (HNX.out hE)
        have hts : (tx (packT k d)).size ≤ 2014 := by rw [tx_size, packT_len]; have := (packE_zero hE).2.1; omega
        have HCAT : Hid (tx (flatP (l.take j)) ++ tx (packT k d) = tx (flatP (l.take (j + 1)))) := by unfold Hid; rw [HFL.out, tx_append]
        have hs3 : (tx (flatP (l.take j)) ++ tx (packT k d)).size = (flatP (l.take (j + 1))).length := by rw [HCAT.out, tx_size]
        rw [ByteArray.size_append] at hs3
        clear hS hE HNX HFL HOK
        by_cases hbig : 2000 < (tx (flatP (l.take j))).size
        · generalize tx (packT k d) = t at *
          clear hs3 HCAT
          generalize tx (flatP (l.take j)) = S at *
          go_wp2_with fail
          refine (HP1.out _).mono ?_
          rintro e w2 ⟨rfl, hB2⟩
          have HB2 : Hid (Below w.heap.size w w2) := HB1.out.trans (hB2.mono HB1.out.size)
          clear hB2 HB1 HP1
          go_wp2
          go_ret2
          exact ⟨.inr rfl, HB2.out⟩
        · have hlen : (flatP (l.take (j + 1))).length ≤ 4100 := by omega
          generalize tx (packT k d) = t at *
          clear hs3
          generalize tx (flatP (l.take j)) = S at *
          go_wp2_with fail
          refine (HP1.out _).mono ?_
          rintro e w2 ⟨rfl, hB2⟩
          have HB2 : Hid (Below w.heap.size w w2) := HB1.out.trans (hB2.mono HB1.out.size)
          clear hB2 HB1 HP1
          go_wp2
          go_roundw
          case rel => exact ⟨j + 1, by omega, by go_num, (by rw [HCAT.out]), hlen, HOK2, HB2⟩
          case measure => simp [intOf]; omega
      · have hne : ((packE k d : Int) == 0) = false := beq_eq_false_iff_ne.2 (by omega)
        generalize packE k d = E at *
        generalize tx (packS k d) = t at *
        go_wp2_with fail
        refine (HP1.out _).mono ?_
        rintro e w2 ⟨rfl, hB2⟩
        have HB2 : Hid (Below w.heap.size w w2) := HB1.out.trans (hB2.mono HB1.out.size)
        clear hB2 HB1 HP1
        go_wp2
        go_ret2
        exact ⟨.inr rfl, HB2.out⟩
    · obtain rfl : j = n := by omega
      rw [List.take_of_length_le (Nat.le_of_eq HN.out.symm)]
      have HR2 : Hid (AllR l (.returned (.tuple #[.string (tx (flatP l)), .bool true]))) := by
        refine .inl ⟨rfl, fun x hx => ?_⟩
        obtain ⟨k, hk, rfl⟩ := List.mem_iff_getElem.1 hx
        exact HOK.out k hk (by rw [HN.out]; exact hk)
      go_wp2
      go_ret2
      exact ⟨HR2.out, HB.out⟩

set_option maxHeartbeats 2000000 in
theorem walk (w : World) (a : Option Addr) (ca : Nat) (l : List Fr) (hr : FrSl w a l) (hf : FitsF l) (b : Option Addr) (cb : Nat) (m : List Fr) (hr2 : FrSl w b m) (hf2 : FitsF m) :
    Calls Try.prog 10 #[.slice a l.length ca, .slice b m.length cb] w fun e w' => e = .returned (.bool true) ∧ Below w.heap.size w w' := by
  have HAL := Lib.hid alive_any
  have HR := Lib.hid hr
  have HR2 := Lib.hid hr2
  have H1 := Lib.hid (fun W (h : FrSl W a l) => all_any a ca l W h hf)
  have H2 := Lib.hid (fun W (h : FrSl W b m) => all_any b cb m W h hf2)
  have HS := Lib.hid (fun W (h : FrSl W a l) (h' : FrSl W b m) => same_any a b ca cb l m W h h' hf.1 hf2.1)
  clear hr hr2
  go_enter Try.func10, Try.ntmps10
  go_wp2_with fail
  refine (H1.out _ HR.out).mono ?_
  rintro e w1 ⟨he1, hB1⟩
  have HB1 := Lib.hid hB1
  clear hB1
  rcases he1 with ⟨rfl, hl⟩ | rfl
  · have HL := Lib.hid hl
    clear hl
    go_wp2_with fail
    refine (H2.out _ (HR2.out.below HB1.out)).mono ?_
    rintro e w2 ⟨he2, hB2⟩
    have HB2 : Hid (Below w.heap.size w w2) := HB1.out.trans (hB2.mono HB1.out.size)
    clear hB2 HB1
    rcases he2 with ⟨rfl, hm⟩ | rfl
    · have heq : ((tx (flatP l)).toList == (tx (flatP m)).toList) = decide (l = m) := by
        rw [eqT]
        exact decide_eq_decide.2 ⟨fun h => flatP_inj l m HL.out hm h, fun h => by rw [h]⟩
      clear hm
      generalize tx (flatP l) = s at *
      generalize tx (flatP m) = t at *
      generalize decide (l = m) = r at *
      go_wp2_with fail
      refine (HAL.out _).mono ?_
      rintro e w3 ⟨rfl, hB3⟩
      have HB3 : Hid (Below w.heap.size w w3) := HB2.out.trans (hB3.mono HB2.out.size)
      clear hB3 HB2
      go_wp2_with fail
      refine (HS.out _ (HR.out.below HB3.out) (HR2.out.below HB3.out)).mono ?_
      rintro e w4 ⟨rfl, hB4⟩
      go_wp2
      go_ret
      exact ⟨retB (by simp), HB3.out.trans (hB4.mono HB3.out.size)⟩
    · go_wp2_with fail
      refine (HAL.out _).mono ?_
      rintro e w3 ⟨rfl, hB3⟩
      go_wp2
      go_ret
      exact ⟨rfl, HB2.out.trans (hB3.mono HB2.out.size)⟩
  · go_wp2_with fail
    refine (H2.out _ (HR2.out.below HB1.out)).mono ?_
    rintro e w2 ⟨he2, hB2⟩
    have HB2 : Hid (Below w.heap.size w w2) := HB1.out.trans (hB2.mono HB1.out.size)
    clear hB2 HB1
    rcases he2 with ⟨rfl, -⟩ | rfl
    all_goals
      go_wp2_with fail
      refine (HAL.out _).mono ?_
      rintro e w3 ⟨rfl, hB3⟩
      go_wp2
      go_ret
      exact ⟨rfl, HB2.out.trans (hB3.mono HB2.out.size)⟩

set_option maxRecDepth 100000 in
theorem lifted (os : Os) (started : os.Started) (H : Type) (enc : TypeId × Value → H) :
    ReturnsInHanded {} Try.checked os 10 .any (Rows.frameApartSpec.pre6 enc Try.prog Try.f10 Rows.frameApartRow.domain false) (Rows.frameApartSpec.post enc Try.prog Try.f10 false true false false) := by
  refine returnsInHanded_of_change (C := Try.checked) own started (by kernel_rfl) Try.func10
    (ChangeSpec.witness6 (enc := enc) (C := Try.checked) false ⟨#[], #[.slice none 0 0, .slice none 0 0], []⟩ 8 (by kernel_rfl) (by kernel_rfl) (by kernel_rfl) (by kernel_rfl)) ?_
  intro W base args ds gs before hval0 hW hcnd _
  have hval : ∀ (j : Nat) t v, Try.f10.params[j]? = some t → args[j]? = some v → Value.okWide Try.prog W .any base t v := hval0
  have hW' := hW
  have hlt := hW.lt
  obtain ⟨p, q, hA0, hV, rfl, hfz, hnd⟩ := hW
  have hA : DataW.TrodAll enc Try.prog W 0 (fun _ => true) true Try.f10.params.toList args.toList ds p := hA0
  rw [Try.params10] at hA hval
  obtain ⟨v0, vs0, d0, ds0, p0, q0, hargs, rfl, rfl, h0, r0⟩ := trodAll_cons hA
  obtain ⟨v1, vs1, d1, ds1, p1, q1, rfl, rfl, rfl, h1, r1⟩ := trodAll_cons r0
  obtain ⟨rfl, rfl, rfl⟩ := trodAll_nil r1
  obtain rfl : args = #[v0, v1] := by cases args; simp_all
  obtain ⟨a0, c0, l0, rfl, s0, f0, m0, n0, o0⟩ := open_frames (hval 0 39 v0 rfl rfl) h0
  obtain ⟨a1, c1, l1, rfl, s1, f1, m1, n1, o1⟩ := open_frames (hval 1 39 v1 rfl rfl) h1
  refine (walk W a0 c0 l0 s0 f0 a1 c1 l1 s1 f1).mono fun e W' ⟨he, hb⟩ => ?_
  subst he
  exact ⟨_, rfl, law_post rfl hW' (fun ds h => by match ds, h with | [_, _], _ => rfl) (by kernel_rfl) (by kernel_rfl) (by kernel_rfl) hb⟩

theorem over : Rows.frameApartRow.holds Try.pinned (OpenSpec.ofChange Rows.frameApartSpec) :=
  OpenClaim.holds_of_wide 10 Try.f10 rfl rfl rfl rfl rfl rfl rfl ⟨rfl, rfl, rfl, rfl, rfl⟩ rfl rfl rfl rfl rfl (by kernel_rfl) Try.func10 (by kernel_rfl)
    (of_decide_eq_true (by kernel_rfl)) (by unfold Func.isWrapper; first | (rw [if_pos (by decide +kernel)]; kernel_rfl) | (rw [if_neg (by decide +kernel)]; exact ⟨rfl, rfl⟩))
    (fun os started H enc _ => lifted os started H enc)

theorem proved : Rows.FrameApartSaid := over
end Go.Proofs.Ytkfddmbhokeofaa.frameApart
