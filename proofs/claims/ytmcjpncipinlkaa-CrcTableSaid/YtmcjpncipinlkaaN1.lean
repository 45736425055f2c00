/- CrcTable: each entry of the table is what the document says, for every byte. No condition. -/
import Derived.Test.YtmcjpncipinlkaaC9
import Derived.Test.YtmcjpncipinlkaaF3
namespace Go.Proofs.Ytmcjpncipinlkaa.crcTable
open Go.ChangeShapes Go.WideShapes Go.ChangeAt Go.RowKit
open Go.ChangeMaps (open_string shut_string)
set_option linter.unusedVariables false

set_option maxHeartbeats 4000000 in
set_option maxRecDepth 100000 in
theorem walk_at (w : World) (c : Nat) (hc : c < 256) :
    Calls Try.prog 3 #[.int .u8 c] w fun e w' => e = .returned (.bool true) ∧ Below w.heap.size w w' := by
  have H1 := Lib.hid (refEntry_any c hc)
  have HT := Lib.hid table_any
  have HAL := Lib.hid alive_any
  have hz := zeroTab
  have hts := tab_size
  have hst := store_tab
  go_enter Try.func3, Try.ntmps3
  go_wp2_with fail
  refine (HT.out _).mono ?_
  rintro e w1 ⟨rfl, hB1⟩
  clear HT
  go_wp2
  clear hz hts hst
  have h0 := TabKs.new hB1
  clear hB1
  generalize w1.alloc (.cells tab 23) = W at *
  generalize w1.heap.size = tb at *
  have hi : (c : Int) < 256 := by omega
  have hlt := entryN_lt hc
  have HC := Lib.hid (fun W' (h : TabKs w tb W') => h.1.2 c hc)
  generalize entryN c = n at *
  have e1 : IntKind.i64.wrap (n : Int) = n := IntWalk.i64_in _ (by omega)
  have e2 : IntKind.i64.wrap (c : Int) = c := IntWalk.i64_in _ (by omega)
  clear hlt hc
  go_region_held3 (fun w' => w'.cell? ⟨tb, c, none⟩ = some (.int .u32 (n : Int)) ∧ TabKs w tb w')
    (first | exact ⟨HC.out _ (TabKs.drew h0), TabKs.drew h0⟩ | exact ⟨HC.out _ (TabKs.belowH (by assumption) (by assumption)), TabKs.belowH (by assumption) (by assumption)⟩ | assumption)
    (first | (go_at_call 10; refine (HAL.out _).mono ?_; rintro e w2 ⟨rfl, hB⟩)
           | (go_at_call 11; refine (H1.out _).mono ?_; rintro e w2 ⟨rfl, rfl⟩))
  go_wp2
  go_ret
  exact ⟨rfl, (show _ ∧ TabKs w tb _ by assumption).2.2⟩

theorem walk (w : World) (a : Int) (h : (Lit.int .u8 a).wf = true) :
    Calls Try.prog 3 #[.int .u8 a] w fun e w' => e = .returned (.bool true) ∧ Below w.heap.size w w' := by
  obtain ⟨c, rfl, hc⟩ := wf8 h
  exact walk_at w c hc

set_option maxRecDepth 100000 in
theorem lifted (os : Os) (started : os.Started) (H : Type) (enc : TypeId × Value → H) :
    ReturnsInHanded {} Try.checked os 3 .any (Rows.crcTableSpec.pre6 enc Try.prog Try.f3 Rows.crcTableRow.domain false) (Rows.crcTableSpec.post enc Try.prog Try.f3 false true false false) := by
  refine returnsInHanded_of_change (C := Try.checked) own started (by kernel_rfl) Try.func3
    (ChangeSpec.witness6 (enc := enc) (C := Try.checked) false ⟨#[], #[.int .u8 0], []⟩ 8 (by kernel_rfl) (by kernel_rfl) (by kernel_rfl) (by kernel_rfl)) ?_
  intro W base args ds gs before hval0 hW hcnd _
  have hval : ∀ (j : Nat) t v, Try.f3.params[j]? = some t → args[j]? = some v → Value.okWide Try.prog W .any base t v := hval0
  have hW' := hW
  have hlt := hW.lt
  obtain ⟨p, q, hA0, hV, rfl, hfz, hnd⟩ := hW
  have hA : DataW.TrodAll enc Try.prog W 0 (fun _ => true) true Try.f3.params.toList args.toList ds p := hA0
  rw [Try.params3] at hA hval
  obtain ⟨v0, vs0, d0, ds0, p0, q0, hargs, rfl, rfl, h0, r0⟩ := trodAll_cons hA
  obtain ⟨rfl, rfl, rfl⟩ := trodAll_nil r0
  obtain rfl : args = #[v0] := by cases args; simp_all
  obtain ⟨a0, rfl, -, -, w0⟩ := open_int Try.underlying5 (hval 0 5 v0 rfl rfl) h0
  refine (walk W a0 w0).mono fun e W' ⟨he, hb⟩ => ?_
  subst he
  exact ⟨_, rfl, law_post rfl hW' (fun ds h => by match ds, h with | [_], _ => rfl) (by kernel_rfl) (by kernel_rfl) (by kernel_rfl) hb⟩

theorem over : Rows.crcTableRow.holds Try.pinned (OpenSpec.ofChange Rows.crcTableSpec) :=
  OpenClaim.holds_of_wide 3 Try.f3 rfl rfl rfl rfl rfl rfl rfl ⟨rfl, rfl, rfl, rfl, rfl⟩ rfl rfl rfl rfl rfl (by kernel_rfl) Try.func3 (by kernel_rfl)
    (of_decide_eq_true (by kernel_rfl)) (by unfold Func.isWrapper; first | (rw [if_pos (by decide +kernel)]; kernel_rfl) | (rw [if_neg (by decide +kernel)]; exact ⟨rfl, rfl⟩))
    (fun os started H enc _ => lifted os started H enc)

theorem proved : Rows.CrcTableSaid := over
end Go.Proofs.Ytmcjpncipinlkaa.crcTable
