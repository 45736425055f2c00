/- CrcGoes: a sum of a text is gone on with, byte by byte, by Step; for every text and every byte. No condition. -/
import Derived.Test.YtmcjpncipinlkaaC9
import Derived.Test.YtmcjpncipinlkaaF3
namespace Go.Proofs.Ytmcjpncipinlkaa.crcGoes
open Go.ChangeShapes Go.WideShapes Go.ChangeAt Go.RowKit
open Go.ChangeMaps (open_string shut_string)
set_option linter.unusedVariables false

set_option maxHeartbeats 1000000 in
theorem walk_at (w : World) (s : ByteArray) (hm : s.size ≤ maxLen) (c : Nat) (hc : c < 256) :
    Calls Try.prog 7 #[.string s, .int .u8 c] w fun e w' => e = .returned (.bool true) ∧ Below w.heap.size w w' := by
  have HAL := Lib.hid alive_any
  by_cases hl : 300 < s.size
  · unfold maxLen at hm
    go_enter Try.func7, Try.ntmps7
    go_wp2_with fail
    refine (HAL.out _).mono ?_
    rintro e w1 ⟨rfl, hB⟩
    go_wp2
    go_ret
    exact ⟨rfl, hB⟩
  · obtain ⟨b, rfl⟩ : ∃ b : UInt8, c = b.toNat := ⟨UInt8.ofNat c, by simp; omega⟩
    have hcv := fun W => conv_one W (b.toNat : Int) b rfl
    have H1 := Lib.hid (fun W g hg => sum_two W g s ⟨#[b]⟩ hm (show 1 ≤ maxLen by decide) hg)
    rw [show toL ⟨#[b]⟩ = [b] from rfl, sumN_snoc] at H1
    have H2 := Lib.hid (fun W => sum_one W W.heap.size s hm rfl)
    have hlt := sumN_lt (toL s)
    have hx : 4294967295 ^^^ sumN (toL s) < 4294967296 := xor32 (by decide) hlt
    have H3 := Lib.hid (step_any _ _ hx hc)
    have hn := stepN_lt hx hc
    have e1 := b_ones _ hlt
    have e2 := b_ones _ hn
    have H4 := Lib.hid sum_nil
    clear hm hx
    generalize stepN (4294967295 ^^^ sumN (toL s)) b.toNat = z at *
    generalize sumN (toL s) = n at *
    generalize 4294967295 ^^^ n = y at *
    generalize 4294967295 ^^^ z = x at *
    go_enter Try.func7, Try.ntmps7
    go_wp2_with fail
    refine (HAL.out _).mono ?_
    rintro e w2 ⟨rfl, hB2⟩
    go_wp2_with fail
    refine (H1.out _ _ (size1 _ _).symm).mono ?_
    rintro e w3 ⟨rfl, hB3⟩
    have HB3 : Hid (Below w.heap.size w w3) := (hB2.alloc hB2.size _).trans (hB3.mono (Nat.le_trans hB2.size (by rw [size1]; omega)))
    clear hB2 hB3 hcv
    go_wp2_with fail
    refine (H2.out _).mono ?_
    rintro e w4 ⟨rfl, hB4⟩
    have HB4 : Hid (Below w.heap.size w w4) := HB3.out.trans (hB4.mono HB3.out.size)
    clear hB4 HB3
    go_wp2_with fail
    refine (H3.out _).mono ?_
    rintro e w5 ⟨rfl, rfl⟩
    go_wp2_with fail
    refine (H4.out _).mono ?_
    rintro e w5 ⟨rfl, hB5⟩
    go_wp2
    go_ret
    exact ⟨rfl, HB4.out.trans (hB5.mono HB4.out.size)⟩

theorem walk (w : World) (s : ByteArray) (hm : s.size ≤ maxLen) (b : Int) (k : (Lit.int .u8 b).wf = true) :
    Calls Try.prog 7 #[.string s, .int .u8 b] w fun e w' => e = .returned (.bool true) ∧ Below w.heap.size w w' := by
  obtain ⟨d, rfl, hd⟩ := wf8 k
  exact walk_at w s hm d hd

set_option maxRecDepth 100000 in
theorem lifted (os : Os) (started : os.Started) (H : Type) (enc : TypeId × Value → H) :
    ReturnsInHanded {} Try.checked os 7 .any (Rows.crcGoesSpec.pre6 enc Try.prog Try.f7 Rows.crcGoesRow.domain false) (Rows.crcGoesSpec.post enc Try.prog Try.f7 false true false false) := by
  refine returnsInHanded_of_change (C := Try.checked) own started (by kernel_rfl) Try.func7
    (ChangeSpec.witness6 (enc := enc) (C := Try.checked) false ⟨#[], #[.string ByteArray.empty, .int .u8 0], []⟩ 8 (by kernel_rfl) (by kernel_rfl) (by kernel_rfl) (by kernel_rfl)) ?_
  intro W base args ds gs before hval0 hW hcnd _
  have hval : ∀ (j : Nat) t v, Try.f7.params[j]? = some t → args[j]? = some v → Value.okWide Try.prog W .any base t v := hval0
  have hW' := hW
  have hlt := hW.lt
  obtain ⟨p, q, hA0, hV, rfl, hfz, hnd⟩ := hW
  have hA : DataW.TrodAll enc Try.prog W 0 (fun _ => true) true Try.f7.params.toList args.toList ds p := hA0
  rw [Try.params7] at hA hval
  obtain ⟨v0, vs0, d0, ds0, p0, q0, hargs, rfl, rfl, h0, r0⟩ := trodAll_cons hA
  obtain ⟨v1, vs1, d1, ds1, p1, q1, rfl, rfl, rfl, h1, r1⟩ := trodAll_cons r0
  obtain ⟨rfl, rfl, rfl⟩ := trodAll_nil r1
  obtain rfl : args = #[v0, v1] := by cases args; simp_all
  obtain ⟨a0, rfl, -, -, w0⟩ := open_string Try.underlying9 (hval 0 9 v0 rfl rfl) h0
  obtain ⟨a1, rfl, -, -, w1⟩ := open_int Try.underlying5 (hval 1 5 v1 rfl rfl) h1
  refine (walk W a0 w0 a1 w1).mono fun e W' ⟨he, hb⟩ => ?_
  subst he
  exact ⟨_, rfl, law_post rfl hW' (fun ds h => by match ds, h with | [_, _], _ => rfl) (by kernel_rfl) (by kernel_rfl) (by kernel_rfl) hb⟩

theorem over : Rows.crcGoesRow.holds Try.pinned (OpenSpec.ofChange Rows.crcGoesSpec) :=
  OpenClaim.holds_of_wide 7 Try.f7 rfl rfl rfl rfl rfl rfl rfl ⟨rfl, rfl, rfl, rfl, rfl⟩ rfl rfl rfl rfl rfl (by kernel_rfl) Try.func7 (by kernel_rfl)
    (of_decide_eq_true (by kernel_rfl)) (by unfold Func.isWrapper; first | (rw [if_pos (by decide +kernel)]; kernel_rfl) | (rw [if_neg (by decide +kernel)]; exact ⟨rfl, rfl⟩))
    (fun os started H enc _ => lifted os started H enc)

theorem proved : Rows.CrcGoesSaid := over
end Go.Proofs.Ytmcjpncipinlkaa.crcGoes
