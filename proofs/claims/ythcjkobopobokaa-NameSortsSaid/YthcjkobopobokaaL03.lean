/- NameSorts: all texts, by their order, each once, are what the document says; the least is the first; what was given stays as it was: for every row of texts. No condition. -/
import Derived.Test.YthcjkobopobokaaA8
import Derived.Test.YthcjkobopobokaaF1
import Derived.Test.YthcjkobopobokaaB1
import Derived.Test.YthcjkobopobokaaM2
namespace Go.Proofs.Ythcjkobopobokaa.nameSorts
open Go.ChangeShapes Go.WideShapes Go.ChangeAt Go.RowKit
open Go.ChangeMaps (open_string shut_string)
set_option linter.unusedVariables false

theorem strs_one (l : List ByteArray) : ∀ u ∈ strs l, u.oneCell' = true := by
  intro u hu
  simp [strs] at hu
  obtain ⟨a, _, rfl⟩ := hu
  rfl
theorem own_empty (w : World) (e : TypeId) : (w.alloc (.cells #[] e)).ownsRow w.heap.size e 1 (.slice (some ⟨w.heap.size, 0, none⟩) 0 0) 0 [] :=
  World.ownsRow_made w #[] 0 (Nat.le_refl _) (by decide) (by simp)

set_option maxHeartbeats 400000 in
theorem walk_long (w : World) (a : Option Addr) (c : Nat) (l : List ByteArray) (hl : 200 < l.length) (hm : l.length ≤ maxLen) :
    Calls Try.prog 5 #[.slice a l.length c] w fun e w' => e = .returned (.bool true) ∧ Below w.heap.size w w' := by
  unfold maxLen at hm
  go_enter Try.func5, Try.ntmps5
  go_wp2_with fail
  refine (alive_any _).mono ?_
  rintro e w2 ⟨rfl, hB⟩
  go_wp2
  go_ret
  exact ⟨rfl, hB⟩

set_option maxHeartbeats 2000000 in
set_option maxRecDepth 100000 in
theorem walk_short (w : World) (a : Option Addr) (c : Nat) (l : List ByteArray) (hr : Sl w a (strs l)) (hf : Fits l) (hlc : l.length ≤ c) (hc : c ≤ maxLen) (hnil : a = none → c = 0) (hl : l.length ≤ 200) :
    Calls Try.prog 5 #[.slice a l.length c] w fun e w' => e = .returned (.bool true) ∧ Below w.heap.size w w' := by
  obtain ⟨i0, hi, hz0, hz1, hz2⟩ := info_parts Try.infoStr
  have HR := Lib.hid hr
  have HF := Lib.hid hf
  have HNIL := Lib.hid hnil
  have HC := Lib.hid hc
  clear hr hf hnil hc
  go_enter Try.func5, Try.ntmps5
  go_wp2_with (at_builtin; refine wpList_append_sl _ rfl (.tmp 14) (.tmp 15) 22 rfl w.heap.size 9 i0 (.string ⟨#[]⟩) 16 Try.underlying22 hi hz0 hz1 hz2 rfl (.slice (some ⟨w.heap.size, 0, none⟩) 0 0) 0 [] rfl (own_empty w _) a l.length c (strs l) rfl (HR.out.below ((Below.refl _ _).alloc (Nat.le_refl _) _)) (strs_length l) HNIL.out (strs_one l) (by unfold maxLen; omega) (by omega) (by simp) ?_; intro v3 w1 hown1 hg1)
  have hB1 : Below w.heap.size w w1 := ((Below.refl w.heap.size w).alloc (Nat.le_refl _) _).grown hg1 (by simp) (fun k hk => by cases hk; exact Nat.le_refl _)
  simp only [Nat.zero_add, List.nil_append] at hown1
  obtain ⟨a3, c3, rfl, _, _, hs3, _⟩ := own_slice hown1
  have HR1 := Lib.hid (HR.out.below hB1)
  have HW1 := Lib.hid hs3
  have HB1 := Lib.hid hB1
  clear hown1 hg1 hs3 hB1
  refine (sorted_any a c l w1 HR1.out (by omega)).mono ?_
  rintro e w2 ⟨v4, rfl, hown2, hB2⟩
  obtain ⟨a4, c4, rfl, _, _, hs4, _⟩ := own_slice hown2
  have HR2 := Lib.hid (HR1.out.below hB2)
  have HW2 := Lib.hid (HW1.out.below hB2)
  have HG2 := Lib.hid hs4
  have HB2 : Hid (Below w.heap.size w w2) := HB1.out.trans (hB2.mono HB1.out.size)
  clear hown2 hs4 hB2 HR1 HW1 HB1
  go_wp2_with fail
  refine (refSorted_any a c l w2 HR2.out HF.out (by omega)).mono ?_
  rintro e w3 ⟨v5, rfl, hown3, hB3⟩
  rw [srt_length, strs_srt] at hown3
  obtain ⟨a5, c5, rfl, _, _, hs5, _⟩ := own_slice hown3
  have HR := Lib.hid (HR2.out.below hB3)
  have HW := Lib.hid (HW2.out.below hB3)
  have HG := Lib.hid (HG2.out.below hB3)
  have HG5 := Lib.hid hs5
  have HB3 : Hid (Below w.heap.size w w3) := HB2.out.trans (hB3.mono HB2.out.size)
  clear hown3 hs5 hB3 HR2 HW2 HG2 HB2
  have hn : (sv l).length ≤ 200 := by rw [← srt_length]; exact Nat.le_trans (srt_len l) hl
  have hne : (((sv l).length : Int) != ((sv l).length : Int)) = false := by simp
  go_wp2
  go_loopw [28] (fun i wr => ∃ k : Nat, k ≤ (sv l).length ∧ i = .int .i64 k ∧ Drew w3 wr) (fun i _ => (sv l).length - (intOf i).toNat)
  case atStart => exact ⟨0, by omega, rfl, Drew.refl _⟩
  case round =>
    obtain ⟨k, hk, rfl, HD⟩ := hrel
    by_cases hlt : k < (sv l).length
    · obtain ⟨b4, o4, e4, _, hc4⟩ := HG.out k (by simpa using hlt)
      obtain ⟨b5, o5, e5, _, hc5⟩ := HG5.out k (by simpa using hlt)
      have hc4 := (HD.cell _).trans hc4
      have hc5 := (HD.cell _).trans hc5
      subst e4 e5
      simp only [List.getElem_map, encStr] at hc4 hc5
      generalize (⟨(sv l)[k].toArray⟩ : ByteArray) = x at *
      go_wp2
      go_quiet (fail)
      go_wp2
      go_roundw
      case rel => exact ⟨k + 1, by omega, by go_num, by obtain ⟨n, rfl⟩ := HD; exact ⟨_, by rw [World.drewN_drewN]⟩⟩
      case measure => simp [intOf]; omega
    · go_wp2
      go_loopw [43] (fun i wr => ∃ k : Nat, k ≤ l.length ∧ i = .int .i64 k ∧ Drew w3 wr) (fun i _ => l.length - (intOf i).toNat)
      case atStart => exact ⟨0, by omega, rfl, HD⟩
      case round =>
        clear HD
        obtain ⟨m, hm, rfl, HD⟩ := hrel
        by_cases hlt : m < l.length
        · obtain ⟨b4, o4, e4, _, hc4⟩ := HR.out.str hlt
          obtain ⟨b5, o5, e5, _, hc5⟩ := HW.out.str hlt
          have hc4 := (HD.cell _).trans hc4
          have hc5 := (HD.cell _).trans hc5
          subst e4 e5
          generalize l[m] = x at *
          go_wp2
          go_quiet (fail)
          go_wp2
          go_roundw
          case rel => exact ⟨m + 1, by omega, by go_num, by obtain ⟨n, rfl⟩ := HD; exact ⟨_, by rw [World.drewN_drewN]⟩⟩
          case measure => simp [intOf]; omega
        · have HRr := Lib.hid (HR.out.below (HD.below _))
          have HG5r := Lib.hid (HG5.out.below (HD.below _))
          have HBr : Hid (Below w.heap.size w wr) := HB3.out.trans (HD.below _)
          clear HR HW HG HG5 HB3 HD HF
          match l with
          | [] =>
            go_wp2_with fail
            refine (least_none a c _).mono ?_
            rintro e w4 ⟨rfl, rfl⟩
            go_wp2_with fail
            refine (alive_any _).mono ?_
            rintro e w5 ⟨rfl, hB5⟩
            go_wp2
            go_ret
            exact ⟨rfl, HBr.out.trans (hB5.mono HBr.out.size)⟩
          | x :: r =>
            obtain ⟨rest, hfirst⟩ := least_first x r
            have hgt : decide (0 < ((r.length : Int) + 1)) = true := by simp
            obtain ⟨b5, o5, e5, hb5, hc5⟩ := HG5r.out 0 (by rw [hfirst]; simp)
            subst e5
            have hc5' : wr.cell? ⟨b5, o5, none⟩ = some (.string (leastOf (x :: r))) := by
              rw [Nat.add_zero] at hc5
              rw [hc5]
              simp [hfirst, encStr, toL]
            have hpos : 0 < (sv (x :: r)).length := by rw [hfirst]; simp
            have HL := Lib.hid (least_some a c x r wr HRr.out (by unfold maxLen; simp at hl; omega) (by simpa using hlc) HC.out)
            clear hfirst hc5 HG5r
            generalize leastOf (x :: r) = y at *
            simp only [List.length_cons] at *
            go_wp2_with fail
            refine HL.out.mono ?_
            rintro e w4 ⟨rfl, rfl⟩
            go_wp2_with fail
            refine (alive_any _).mono ?_
            rintro e w5 ⟨rfl, hB5⟩
            have hc6 := (hB5.cell (p := ⟨b5, o5, none⟩) hb5).trans hc5'
            go_wp2
            go_ret
            exact ⟨rfl, HBr.out.trans (hB5.mono HBr.out.size)⟩

theorem walk (w : World) (a : Option Addr) (c : Nat) (l : List ByteArray) (hr : Sl w a (strs l)) (hf : Fits l) (hlc : l.length ≤ c) (hc : c ≤ maxLen) (hnil : a = none → c = 0) :
    Calls Try.prog 5 #[.slice a l.length c] w fun e w' => e = .returned (.bool true) ∧ Below w.heap.size w w' := by
  by_cases hl : l.length ≤ 200
  · exact walk_short w a c l hr hf hlc hc hnil hl
  · exact walk_long w a c l (by omega) hf.1

set_option maxRecDepth 100000 in
theorem lifted (os : Os) (started : os.Started) (H : Type) (enc : TypeId × Value → H) :
    ReturnsInHanded {} Try.checked os 5 .any (Rows.nameSortsSpec.pre6 enc Try.prog Try.f5 Rows.nameSortsRow.domain false) (Rows.nameSortsSpec.post enc Try.prog Try.f5 false true false false) := by
  refine returnsInHanded_of_change (C := Try.checked) own started (by kernel_rfl) Try.func5
    (ChangeSpec.witness6 (enc := enc) (C := Try.checked) false ⟨#[], #[.slice none 0 0], []⟩ 8 (by kernel_rfl) (by kernel_rfl) (by kernel_rfl) (by kernel_rfl)) ?_
  intro W base args ds gs before hval0 hW hcnd _
  have hval : ∀ (j : Nat) t v, Try.f5.params[j]? = some t → args[j]? = some v → Value.okWide Try.prog W .any base t v := hval0
  have hW' := hW
  have hlt := hW.lt
  obtain ⟨p, q, hA0, hV, rfl, hfz, hnd⟩ := hW
  have hA : DataW.TrodAll enc Try.prog W 0 (fun _ => true) true Try.f5.params.toList args.toList ds p := hA0
  rw [Try.params5] at hA hval
  obtain ⟨v0, vs0, d0, ds0, p0, q0, hargs, rfl, rfl, h0, r0⟩ := trodAll_cons hA
  obtain ⟨rfl, rfl, rfl⟩ := trodAll_nil r0
  obtain rfl : args = #[v0] := by cases args; simp_all
  obtain ⟨a0, c0, l0, rfl, s0, f0, m0, n0, o0⟩ := open_row (hval 0 22 v0 rfl rfl) h0 (fun x hx => hlt x (by simp [hx]))
  refine (walk W a0 c0 l0 s0 f0 m0 n0 o0).mono fun e W' ⟨he, hb⟩ => ?_
  subst he
  exact ⟨_, rfl, law_post rfl hW' (fun ds h => by match ds, h with | [_], _ => rfl) (by kernel_rfl) (by kernel_rfl) (by kernel_rfl) hb⟩

theorem over : Rows.nameSortsRow.holds Try.pinned (OpenSpec.ofChange Rows.nameSortsSpec) :=
  OpenClaim.holds_of_wide 5 Try.f5 rfl rfl rfl rfl rfl rfl rfl ⟨rfl, rfl, rfl, rfl, rfl⟩ rfl rfl rfl rfl rfl (by kernel_rfl) Try.func5 (by kernel_rfl)
    (of_decide_eq_true (by kernel_rfl)) (by unfold Func.isWrapper; first | (rw [if_pos (by decide +kernel)]; kernel_rfl) | (rw [if_neg (by decide +kernel)]; exact ⟨rfl, rfl⟩))
    (fun os started H enc _ => lifted os started H enc)

theorem proved : Rows.NameSortsSaid := over
end Go.Proofs.Ythcjkobopobokaa.nameSorts
