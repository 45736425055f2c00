/- CrcLinear: where two bytes differ, so do their entries: the entry of the byte that has those bits is where the entries differ; for every two bytes. No condition. -/
import Derived.Test.YtmcjpncipinlkaaC9
import Derived.Test.YtmcjpncipinlkaaF3
namespace Go.Proofs.Ytmcjpncipinlkaa.crcLinear
open Go.ChangeShapes Go.WideShapes Go.ChangeAt Go.RowKit
open Go.ChangeMaps (open_string shut_string)
set_option linter.unusedVariables false

set_option maxHeartbeats 4000000 in
set_option maxRecDepth 100000 in
theorem walk_at (w : World) (a b : Nat) (ha : a < 256) (hb : b < 256) :
    Calls Try.prog 8 #[.int .u8 a, .int .u8 b] w fun e w' => e = .returned (.bool true) ∧ Below w.heap.size w w' := by
  have HT := Lib.hid table_any
  have HAL := Lib.hid alive_any
  have hz := zeroTab
  have hts := tab_size
  have hst := store_tab
  go_enter Try.func8, Try.ntmps8
  go_wp2_with fail
  refine (HT.out _).mono ?_
  rintro e w1 ⟨rfl, hB1⟩
  clear HT
  go_wp2
  clear hz hts hst
  have h0 := TabKs.new hB1
  clear hB1
  generalize w1.alloc (.cells tab 23) = W at *
  generalize w1.heap.size = tb at *
  have hx := xor8 ha hb
  have hi1 : (a : Int) < 256 := by omega
  have hi2 : (b : Int) < 256 := by omega
  have hi3 : ((a ^^^ b : Nat) : Int) < 256 := by omega
  have e1 := b_xor8 a b ha hb
  have e2 := b_xor32 (entryN a) (entryN b) (entryN_lt ha) (entryN_lt hb)
  rw [← entryN_xor] at e2
  have HC := Lib.hid (fun W' (h : TabKs w tb W') => (⟨h.1.2 a ha, h.1.2 b hb, h.1.2 _ hx, by rw [h.1.2 0 (by decide), entryN_zero]; rfl, h⟩ :
    W'.cell? ⟨tb, a, none⟩ = some (.int .u32 (entryN a : Int)) ∧ W'.cell? ⟨tb, b, none⟩ = some (.int .u32 (entryN b : Int)) ∧ W'.cell? ⟨tb, a ^^^ b, none⟩ = some (.int .u32 (entryN (a ^^^ b) : Int)) ∧ W'.cell? ⟨tb, 0, none⟩ = some (.int .u32 0) ∧ TabKs w tb W'))
  generalize entryN (a ^^^ b) = z at *
  generalize entryN a = x at *
  generalize entryN b = y at *
  clear hx ha hb
  generalize a ^^^ b = c at *
  go_region_held3 (fun w' => w'.cell? ⟨tb, a, none⟩ = some (.int .u32 (x : Int)) ∧ w'.cell? ⟨tb, b, none⟩ = some (.int .u32 (y : Int)) ∧ w'.cell? ⟨tb, c, none⟩ = some (.int .u32 (z : Int)) ∧ w'.cell? ⟨tb, 0, none⟩ = some (.int .u32 0) ∧ TabKs w tb w')
    (first | exact HC.out _ (TabKs.drew h0) | exact HC.out _ (TabKs.belowH4 (by assumption) (by assumption)) | assumption)
    (first | (go_at_call 10; refine (HAL.out _).mono ?_; rintro e w2 ⟨rfl, hB⟩)
           | (go_at_call 9; fail))
  go_wp2
  go_ret
  exact ⟨rfl, (show _ ∧ _ ∧ _ ∧ _ ∧ TabKs w tb _ by assumption).2.2.2.2.2⟩

theorem walk (w : World) (a : Int) (h : (Lit.int .u8 a).wf = true) (b : Int) (k : (Lit.int .u8 b).wf = true) :
    Calls Try.prog 8 #[.int .u8 a, .int .u8 b] w fun e w' => e = .returned (.bool true) ∧ Below w.heap.size w w' := by
  obtain ⟨c, rfl, hc⟩ := wf8 h
  obtain ⟨d, rfl, hd⟩ := wf8 k
  exact walk_at w c d hc hd

set_option maxRecDepth 100000 in
theorem lifted (os : Os) (started : os.Started) (H : Type) (enc : TypeId × Value → H) :
    ReturnsInHanded {} Try.checked os 8 .any (Rows.crcLinearSpec.pre6 enc Try.prog Try.f8 Rows.crcLinearRow.domain false) (Rows.crcLinearSpec.post enc Try.prog Try.f8 false true false false) := by
  refine returnsInHanded_of_change (C := Try.checked) own started (by kernel_rfl) Try.func8
    (ChangeSpec.witness6 (enc := enc) (C := Try.checked) false ⟨#[], #[.int .u8 0, .int .u8 0], []⟩ 8 (by kernel_rfl) (by kernel_rfl) (by kernel_rfl) (by kernel_rfl)) ?_
  intro W base args ds gs before hval0 hW hcnd _
  have hval : ∀ (j : Nat) t v, Try.f8.params[j]? = some t → args[j]? = some v → Value.okWide Try.prog W .any base t v := hval0
  have hW' := hW
  have hlt := hW.lt
  obtain ⟨p, q, hA0, hV, rfl, hfz, hnd⟩ := hW
  have hA : DataW.TrodAll enc Try.prog W 0 (fun _ => true) true Try.f8.params.toList args.toList ds p := hA0
  rw [Try.params8] at hA hval
  obtain ⟨v0, vs0, d0, ds0, p0, q0, hargs, rfl, rfl, h0, r0⟩ := trodAll_cons hA
  obtain ⟨v1, vs1, d1, ds1, p1, q1, rfl, rfl, rfl, h1, r1⟩ := trodAll_cons r0
  obtain ⟨rfl, rfl, rfl⟩ := trodAll_nil r1
  obtain rfl : args = #[v0, v1] := by cases args; simp_all
  obtain ⟨a0, rfl, -, -, w0⟩ := open_int Try.underlying5 (hval 0 5 v0 rfl rfl) h0
  obtain ⟨a1, rfl, -, -, w1⟩ := open_int Try.underlying5 (hval 1 5 v1 rfl rfl) h1
  refine (walk W a0 w0 a1 w1).mono fun e W' ⟨he, hb⟩ => ?_
  subst he
  exact ⟨_, rfl, law_post rfl hW' (fun ds h => by match ds, h with | [_, _], _ => rfl) (by kernel_rfl) (by kernel_rfl) (by kernel_rfl) hb⟩

theorem over : Rows.crcLinearRow.holds Try.pinned (OpenSpec.ofChange Rows.crcLinearSpec) :=
  OpenClaim.holds_of_wide 8 Try.f8 rfl rfl rfl rfl rfl rfl rfl ⟨rfl, rfl, rfl, rfl, rfl⟩ rfl rfl rfl rfl rfl (by kernel_rfl) Try.func8 (by kernel_rfl)
    (of_decide_eq_true (by kernel_rfl)) (by unfold Func.isWrapper; first | (rw [if_pos (by decide +kernel)]; kernel_rfl) | (rw [if_neg (by decide +kernel)]; exact ⟨rfl, rfl⟩))
    (fun os started H enc _ => lifted os started H enc)

theorem proved : Rows.CrcLinearSaid := over
end Go.Proofs.Ytmcjpncipinlkaa.crcLinear
