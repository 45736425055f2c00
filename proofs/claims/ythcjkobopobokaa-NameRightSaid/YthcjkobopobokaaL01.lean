/- NameRight: which texts are names, one by one and together, is what the document says, for every text and every row of texts. No condition. -/
import Derived.Test.YthcjkobopobokaaA8
import Derived.Test.YthcjkobopobokaaF1
namespace Go.Proofs.Ythcjkobopobokaa.nameRight
open Go.ChangeShapes Go.WideShapes Go.ChangeAt Go.RowKit
open Go.ChangeMaps (open_string shut_string)
set_option linter.unusedVariables false

theorem one_row (W : World) (s : ByteArray) (t : TypeId) (g : Nat) (hg : g = W.heap.size) (hs : s.size ≤ maxLen) :
    Calls Try.prog 12 #[.slice (some ⟨g, 0, none⟩) 1 1] (W.alloc (.cells #[.string s] t)) fun e w' => e = .returned (.bool (isName s.data.toList)) ∧ W.alloc (.cells #[.string s] t) = w' := by
  subst hg
  have h := all_any (some ⟨W.heap.size, 0, none⟩) 1 [s] _ (sl_lit W #[.string s] t) ⟨by simp [maxLen], by simpa using hs⟩
  simpa [nameB] using h

theorem all_next (l : List ByteArray) (k : Nat) (h : k < l.length) : (l.take (k + 1)).all nameB = ((l.take k).all nameB && isName l[k].data.toList) := by
  rw [List.take_succ_eq_append_getElem h, List.all_append]
  simp [nameB]

set_option maxHeartbeats 1000000 in
theorem walk (w : World) (s : ByteArray) (w0 : s.size ≤ maxLen) (a : Option Addr) (c : Nat) (l : List ByteArray) (hr : Sl w a (strs l)) (hf : Fits l) (_ : l.length ≤ c) (_ : c ≤ maxLen) (_ : a = none → c = 0) :
    Calls Try.prog 3 #[.string s, .slice a l.length c] w fun e w' => e = .returned (.bool true) ∧ Below w.heap.size w w' := by
  have hm := hf.1
  unfold maxLen at hm
  have HR := Lib.hid hr
  have HF := Lib.hid hf
  clear hr hf
  go_enter Try.func3, Try.ntmps3
  go_wp2
  go_loop [5, 10] (fun v i => ∃ k : Nat, k ≤ l.length ∧ i = .int .i64 k ∧ v = .bool ((l.take k).all nameB)) (fun _ i => l.length - (intOf i).toNat)
  case atStart => exact ⟨0, by omega, rfl, rfl⟩
  case round =>
    obtain ⟨k, hk, rfl, rfl⟩ := hrel
    by_cases hlt : k < l.length
    · obtain ⟨b, off, rfl, hbl, hcell⟩ := HR.out.str hlt
      have hsz : l[k].size ≤ maxLen := HF.out.2 _ (List.getElem_mem hlt)
      have HN := Lib.hid (all_next l k hlt)
      generalize (l.take k).all nameB = v at *
      cases v
      · go_wp2
        go_round
        case rel => exact ⟨k + 1, by omega, by go_num, by rw [HN.out]; rfl⟩
        case measure => simp [intOf]; omega
      · go_wp2_with (go_at_call 9; refine (refRight_any _ _ hsz).mono ?_; rintro e w' ⟨rfl, rfl⟩)
        go_round
        case rel => exact ⟨k + 1, by omega, by go_num, by rw [HN.out]; rfl⟩
        case measure => simp [intOf]; omega
    · have HE : Hid ((l.take k).all nameB = l.all nameB) := by unfold Hid; rw [List.take_of_length_le (by omega)]
      generalize (l.take k).all nameB = v at *
      have hE := HE.out
      subst hE
      have HA := Lib.hid (fun W (hW : Sl W a (strs l)) => all_any a c l W hW HF.out)
      generalize l.all nameB = x at *
      have HS := Lib.hid (fun W => right_any s W w0)
      have HT := Lib.hid (fun W => refRight_any s W w0)
      have HO := Lib.hid (fun W t g hg => one_row W s t g hg w0)
      generalize isName s.data.toList = y at *
      cases x <;> cases y
      all_goals
        go_wp2_with fail
        refine (alive_any _).mono ?_
        rintro e w2 ⟨rfl, hB⟩
        have HR2 := Lib.hid (HR.out.below hB)
        go_wp2_with fail
        refine (HS.out _).mono ?_
        rintro e w3 ⟨rfl, rfl⟩
        go_wp2_with fail
        refine (HT.out _).mono ?_
        rintro e w3 ⟨rfl, rfl⟩
        go_wp2_with fail
        refine (HA.out _ HR2.out).mono ?_
        rintro e w3 ⟨rfl, rfl⟩
        go_wp2_with fail
        refine (HO.out _ _ _ rfl).mono ?_
        rintro e w3 ⟨rfl, rfl⟩
        go_wp2_with fail
        refine (HT.out _).mono ?_
        rintro e w3 ⟨rfl, rfl⟩
        go_wp2
        go_ret
        exact ⟨rfl, hB.alloc hB.size _⟩

set_option maxRecDepth 100000 in
theorem lifted (os : Os) (started : os.Started) (H : Type) (enc : TypeId × Value → H) :
    ReturnsInHanded {} Try.checked os 3 .any (Rows.nameRightSpec.pre6 enc Try.prog Try.f3 Rows.nameRightRow.domain false) (Rows.nameRightSpec.post enc Try.prog Try.f3 false true false false) := by
  refine returnsInHanded_of_change (C := Try.checked) own started (by kernel_rfl) Try.func3
    (ChangeSpec.witness6 (enc := enc) (C := Try.checked) false ⟨#[], #[.string ByteArray.empty, .slice none 0 0], []⟩ 8 (by kernel_rfl) (by kernel_rfl) (by kernel_rfl) (by kernel_rfl)) ?_
  intro W base args ds gs before hval0 hW hcnd _
  have hval : ∀ (j : Nat) t v, Try.f3.params[j]? = some t → args[j]? = some v → Value.okWide Try.prog W .any base t v := hval0
  have hW' := hW
  have hlt := hW.lt
  obtain ⟨p, q, hA0, hV, rfl, hfz, hnd⟩ := hW
  have hA : DataW.TrodAll enc Try.prog W 0 (fun _ => true) true Try.f3.params.toList args.toList ds p := hA0
  rw [Try.params3] at hA hval
  obtain ⟨v0, vs0, d0, ds0, p0, q0, hargs, rfl, rfl, h0, r0⟩ := trodAll_cons hA
  obtain ⟨v1, vs1, d1, ds1, p1, q1, rfl, rfl, rfl, h1, r1⟩ := trodAll_cons r0
  obtain ⟨rfl, rfl, rfl⟩ := trodAll_nil r1
  obtain rfl : args = #[v0, v1] := by cases args; simp_all
  obtain ⟨a0, rfl, -, -, w0⟩ := open_string Try.underlying9 (hval 0 9 v0 rfl rfl) h0
  obtain ⟨a1, c1, l1, rfl, s1, f1, m1, n1, o1⟩ := open_row (hval 1 22 v1 rfl rfl) h1 (fun x hx => hlt x (by simp [hx]))
  refine (walk W a0 w0 a1 c1 l1 s1 f1 m1 n1 o1).mono fun e W' ⟨he, hb⟩ => ?_
  subst he
  exact ⟨_, rfl, law_post rfl hW' (fun ds h => by match ds, h with | [_, _], _ => rfl) (by kernel_rfl) (by kernel_rfl) (by kernel_rfl) hb⟩

theorem over : Rows.nameRightRow.holds Try.pinned (OpenSpec.ofChange Rows.nameRightSpec) :=
  OpenClaim.holds_of_wide 3 Try.f3 rfl rfl rfl rfl rfl rfl rfl ⟨rfl, rfl, rfl, rfl, rfl⟩ rfl rfl rfl rfl rfl (by kernel_rfl) Try.func3 (by kernel_rfl)
    (of_decide_eq_true (by kernel_rfl)) (by unfold Func.isWrapper; first | (rw [if_pos (by decide +kernel)]; kernel_rfl) | (rw [if_neg (by decide +kernel)]; exact ⟨rfl, rfl⟩))
    (fun os started H enc _ => lifted os started H enc)

theorem proved : Rows.NameRightSaid := over
end Go.Proofs.Ythcjkobopobokaa.nameRight
