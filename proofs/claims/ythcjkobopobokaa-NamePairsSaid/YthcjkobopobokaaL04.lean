/- NamePairs: which pairs are right, how two compare, and whom they have, is what the document says: for every two pairs, and every text. No condition. -/
import Derived.Test.YthcjkobopobokaaL04a
import Derived.Test.YthcjkobopobokaaL04b
import Derived.Test.YthcjkobopobokaaL04c
import Derived.Test.YthcjkobopobokaaL04d
namespace Go.Proofs.Ythcjkobopobokaa.namePairs
open Go.ChangeShapes Go.WideShapes Go.ChangeAt Go.RowKit
open Go.ChangeMaps (open_string shut_string)
set_option linter.unusedVariables false

theorem walk (w : World) (a b : ByteArray) (ha : a.size ≤ maxLen) (hb : b.size ≤ maxLen) (c d : ByteArray) (hc : c.size ≤ maxLen) (hd : d.size ≤ maxLen) (s : ByteArray) (hs : s.size ≤ maxLen) :
    Calls Try.prog 6 #[.agg #[.string a, .string b], .agg #[.string c, .string d], .string s] w fun e w' => e = .returned (.bool true) ∧ Below w.heap.size w w' := by
  have hn : -1 ≤ cmpP a b c d ∧ cmpP a b c d ≤ 1 := by
    have := cmpP_range a b c d
    omega
  have k1 : Keeps Try.prog 18 #[pr a b, pr c d] (.bool (decide (cmpP a b c d < 0))) := Keeps.of fun W => ahead_any a b c d W ha hb hc hd
  have k2 : Keeps Try.prog 18 #[pr c d, pr a b] (.bool (decide (0 < cmpP a b c d))) := Keeps.of fun W => by
    have h := ahead_any c d a b W hc hd ha hb
    rw [cmpP_neg] at h
    have e : decide (- cmpP a b c d < 0) = decide (0 < cmpP a b c d) := by
      rw [decide_eq_decide]; omega
    rwa [e] at h
  have k3 : Keeps Try.prog 10 #[] (.bool true) := Keeps.of fun W => alive_any W
  have k4 : Keeps Try.prog 19 #[pr a b] (.bool (nameB a && nameB b)) := Keeps.of fun W => pairRight_any a b W ha hb
  have k5 : Keeps Try.prog 9 #[.string a] (.bool (nameB a)) := Keeps.same fun W => refRight_any a W ha
  have k6 : Keeps Try.prog 9 #[.string b] (.bool (nameB b)) := Keeps.same fun W => refRight_any b W hb
  have k7 : Keeps Try.prog 20 #[pr a b, pr c d] (.int .i64 (cmpP a b c d)) := Keeps.of fun W => pairCmp_any a b c d W
  have k8 : Keeps Try.prog 20 #[pr c d, pr a b] (.int .i64 (- cmpP a b c d)) := Keeps.of fun W => by
    have h := pairCmp_any c d a b W
    rwa [cmpP_neg] at h
  have k9 : Keeps Try.prog 21 #[pr a b, .string s] (.bool (eqS s a || eqS s b)) := Keeps.of fun W => pairHas_any a b s W
  have k10 : Keeps Try.prog 21 #[pr a b, .string b] (.bool true) := Keeps.of fun W => by
    have h := pairHas_any a b b W
    rwa [(eqS_iff b b).2 rfl, Bool.or_true] at h
  have hz : (s.toList == a.toList) = eqS s a := rfl
  have hu : (s.toList == b.toList) = eqS s b := rfl
  generalize cmpP a b c d = n at *
  generalize nameB a = x at *
  generalize nameB b = y at *
  generalize eqS s a = z at *
  generalize eqS s b = u at *
  cases x <;> cases z
  · simp only [Bool.false_and, Bool.false_or] at k4 k9
    exact walk_a w a b c d s n hn y u k1 k2 k3 k4 k5 k6 k7 k8 k9 k10 hz hu
  · simp only [Bool.false_and, Bool.true_or] at k4 k9
    exact walk_b w a b c d s n hn y u k1 k2 k3 k4 k5 k6 k7 k8 k9 k10 hz
  · simp only [Bool.true_and, Bool.false_or] at k4 k9
    exact walk_c w a b c d s n hn y u k1 k2 k3 k4 k5 k6 k7 k8 k9 k10 hz hu
  · simp only [Bool.true_and, Bool.true_or] at k4 k9
    exact walk_d w a b c d s n hn y u k1 k2 k3 k4 k5 k6 k7 k8 k9 k10 hz

/-- a pair of texts that came in -/
theorem open_pair {H : Type} {enc : TypeId × Value → H} {W : World} {base : Nat} {t : TypeId} {f0 f1 : Field} {v : Value} {d : DataW H} {p : List MemPlace} (hs : Try.prog.underlying t = some (.struct #[f0, f1])) (h0 : Try.prog.underlying f0.type = some .string) (h1 : Try.prog.underlying f1.type = some .string) (hone : Go.Deep.oneCellFields Try.prog #[f0, f1] = true) (hC : Try.prog.cellsOf t = 2)
    (hok : Value.okWide Try.prog W .any base t v) (h : DataW.Trod enc Try.prog W 0 (fun _ => true) true t v d p) :
    ∃ a b : ByteArray, v = .agg #[.string a, .string b] ∧ a.size ≤ maxLen ∧ b.size ≤ maxLen := by
  obtain ⟨c0, c1, y0, y1, m, rfl, _, _, hy0, hy1⟩ := Go.Joins.open_agg2 hs hone hC hok h
  obtain ⟨a, e0, _, wa⟩ := DataW.trod_string h0 hy0
  obtain ⟨b, e1, _, wb⟩ := DataW.trod_string h1 hy1
  simp at e0 e1
  subst e0 e1
  exact ⟨a, b, rfl, wa, wb⟩

set_option maxRecDepth 100000 in
theorem lifted (os : Os) (started : os.Started) (H : Type) (enc : TypeId × Value → H) :
    ReturnsInHanded {} Try.checked os 6 .any (Rows.namePairsSpec.pre6 enc Try.prog Try.f6 Rows.namePairsRow.domain false) (Rows.namePairsSpec.post enc Try.prog Try.f6 false true false false) := by
  refine returnsInHanded_of_change (C := Try.checked) own started (by kernel_rfl) Try.func6
    (ChangeSpec.witness6 (enc := enc) (C := Try.checked) false ⟨#[], #[.agg #[.string ByteArray.empty, .string ByteArray.empty], .agg #[.string ByteArray.empty, .string ByteArray.empty], .string ByteArray.empty], []⟩ 8 (by kernel_rfl) (by kernel_rfl) (by kernel_rfl) (by kernel_rfl)) ?_
  intro W base args ds gs before hval0 hW hcnd _
  have hval : ∀ (j : Nat) t v, Try.f6.params[j]? = some t → args[j]? = some v → Value.okWide Try.prog W .any base t v := hval0
  have hW' := hW
  have hlt := hW.lt
  obtain ⟨p, q, hA0, hV, rfl, hfz, hnd⟩ := hW
  have hA : DataW.TrodAll enc Try.prog W 0 (fun _ => true) true Try.f6.params.toList args.toList ds p := hA0
  rw [Try.params6] at hA hval
  obtain ⟨v0, vs0, d0, ds0, p0, q0, hargs, rfl, rfl, h0, r0⟩ := trodAll_cons hA
  obtain ⟨v1, vs1, d1, ds1, p1, q1, rfl, rfl, rfl, h1, r1⟩ := trodAll_cons r0
  obtain ⟨v2, vs2, d2, ds2, p2, q2, rfl, rfl, rfl, h2, r2⟩ := trodAll_cons r1
  obtain ⟨rfl, rfl, rfl⟩ := trodAll_nil r2
  obtain rfl : args = #[v0, v1, v2] := by cases args; simp_all
  obtain ⟨a0, b0, rfl, w0, x0⟩ := open_pair Try.underlying35 (by kernel_rfl) (by kernel_rfl) (by kernel_rfl) (by kernel_rfl) (hval 0 35 v0 rfl rfl) h0
  obtain ⟨a1, b1, rfl, w1, x1⟩ := open_pair Try.underlying35 (by kernel_rfl) (by kernel_rfl) (by kernel_rfl) (by kernel_rfl) (hval 1 35 v1 rfl rfl) h1
  obtain ⟨a2, rfl, -, -, w2⟩ := open_string Try.underlying9 (hval 2 9 v2 rfl rfl) h2
  refine (walk W a0 b0 w0 x0 a1 b1 w1 x1 a2 w2).mono fun e W' ⟨he, hb⟩ => ?_
  subst he
  exact ⟨_, rfl, law_post rfl hW' (fun ds h => by match ds, h with | [_, _, _], _ => rfl) (by kernel_rfl) (by kernel_rfl) (by kernel_rfl) hb⟩

theorem over : Rows.namePairsRow.holds Try.pinned (OpenSpec.ofChange Rows.namePairsSpec) :=
  OpenClaim.holds_of_wide 6 Try.f6 rfl rfl rfl rfl rfl rfl rfl ⟨rfl, rfl, rfl, rfl, rfl⟩ rfl rfl rfl rfl rfl (by kernel_rfl) Try.func6 (by kernel_rfl)
    (of_decide_eq_true (by kernel_rfl)) (by unfold Func.isWrapper; first | (rw [if_pos (by decide +kernel)]; kernel_rfl) | (rw [if_neg (by decide +kernel)]; exact ⟨rfl, rfl⟩))
    (fun os started H enc _ => lifted os started H enc)

theorem proved : Rows.NamePairsSaid := over
end Go.Proofs.Ythcjkobopobokaa.namePairs
