/- NameLeast: the least of two rows together is the lesser one of both leasts: for every two rows of texts. No condition. -/
import Derived.Test.YthcjkobopobokaaA8
import Derived.Test.YthcjkobopobokaaF1
import Derived.Test.YthcjkobopobokaaB1
import Derived.Test.YthcjkobopobokaaM2
namespace Go.Proofs.Ythcjkobopobokaa.nameLeast
open Go.ChangeShapes Go.WideShapes Go.ChangeAt Go.RowKit
open Go.ChangeMaps (open_string shut_string)
set_option linter.unusedVariables false

theorem strs_one (l : List ByteArray) : ∀ u ∈ strs l, u.oneCell' = true := by
  intro u hu
  simp [strs] at hu
  obtain ⟨a, _, rfl⟩ := hu
  rfl
theorem own_empty (w : World) (e : TypeId) : (w.alloc (.cells #[] e)).ownsRow w.heap.size e 1 (.slice (some ⟨w.heap.size, 0, none⟩) 0 0) 0 [] :=
  World.ownsRow_made w #[] 0 (Nat.le_refl _) (by decide) (by simp)
theorem two_least (W : World) (x y : ByteArray) (t : TypeId) (g : Nat) (hg : g = W.heap.size) :
    Calls Try.prog 17 #[.slice (some ⟨g, 0, none⟩) 2 2] (W.alloc (.cells #[.string x, .string y] t)) fun e w' => e = .returned (.tuple #[.string (leastOf [x, y]), .bool true]) ∧ W.alloc (.cells #[.string x, .string y] t) = w' := by
  subst hg
  exact least_some (some ⟨W.heap.size, 0, none⟩) 2 x [y] _ (sl_lit W #[.string x, .string y] t) (by simp [maxLen]) (by simp) (by simp [maxLen])

set_option maxHeartbeats 1000000 in
theorem walk_skip (w : World) (a b : Option Addr) (c d m n : Nat) (hm : m ≤ maxLen) (hn : n ≤ maxLen) (h : 100 < m ∨ (m ≤ 100 ∧ 100 < n) ∨ (m = 0 ∧ n ≤ 100) ∨ (0 < m ∧ m ≤ 100 ∧ n = 0)) :
    Calls Try.prog 8 #[.slice a m c, .slice b n d] w fun e w' => e = .returned (.bool true) ∧ Below w.heap.size w w' := by
  unfold maxLen at hm hn
  rcases h with h | ⟨h, h'⟩ | ⟨rfl, h⟩ | ⟨h, h', rfl⟩
  all_goals
    go_enter Try.func8, Try.ntmps8
    go_wp2_with fail
    refine (alive_any _).mono ?_
    rintro e w2 ⟨rfl, hB⟩
    go_wp2
    go_ret
    exact ⟨rfl, hB⟩

set_option maxHeartbeats 2000000 in
set_option maxRecDepth 100000 in
theorem walk_main (w : World) (a b : Option Addr) (c d : Nat) (x y : ByteArray) (r s : List ByteArray) (hr1 : Sl w a (strs (x :: r))) (hr2 : Sl w b (strs (y :: s))) (hc1 : r.length + 1 ≤ c) (hd1 : s.length + 1 ≤ d) (hc : c ≤ maxLen) (hd : d ≤ maxLen)
    (ha : a = none → c = 0) (hb : b = none → d = 0) (hl1 : r.length + 1 ≤ 100) (hl2 : s.length + 1 ≤ 100) :
    Calls Try.prog 8 #[.slice a (r.length + 1) c, .slice b (s.length + 1) d] w fun e w' => e = .returned (.bool true) ∧ Below w.heap.size w w' := by
  obtain ⟨i0, hi, hz0, hz1, hz2⟩ := info_parts Try.infoStr
  have H1 := Lib.hid (least_some a c x r w hr1 (by unfold maxLen; omega) hc1 hc)
  have H2 := Lib.hid (least_some b d y s w hr2 (by unfold maxLen; omega) hd1 hd)
  have HBOTH := Lib.hid (least_both x y r s)
  have HR1 := Lib.hid hr1
  have HR2 := Lib.hid hr2
  have HA := Lib.hid ha
  have HB := Lib.hid hb
  have g1 : ((r.length : Int) + 1 == 0) = false := beq_eq_false_iff_ne.2 (by omega)
  have g2 : ((s.length : Int) + 1 == 0) = false := beq_eq_false_iff_ne.2 (by omega)
  clear hr1 hr2 ha hb hc hd
  go_enter Try.func8, Try.ntmps8
  go_wp2_with fail
  refine H1.out.mono ?_
  rintro e w1 ⟨rfl, rfl⟩
  go_wp2_with fail
  refine H2.out.mono ?_
  rintro e w1 ⟨rfl, rfl⟩
  clear H1 H2
  go_wp2_with (first
    | (at_builtin; refine wpList_append_sl _ rfl (.tmp 43) (.tmp 44) 22 rfl w.heap.size 9 i0 (.string ⟨#[]⟩) 16 Try.underlying22 hi hz0 hz1 hz2 rfl (.slice (some ⟨w.heap.size, 0, none⟩) 0 0) 0 [] rfl (own_empty w _) a (r.length + 1) c (strs (x :: r)) rfl (HR1.out.below ((Below.refl _ _).alloc (Nat.le_refl _) _)) (strs_length _) HA.out (strs_one _) (by unfold maxLen; omega) (by omega) (by simp) ?_; intro v1 w1 hown1 hg1; have hB1 : Below w.heap.size w w1 := ((Below.refl w.heap.size w).alloc (Nat.le_refl _) _).grown hg1 (by simp) (fun k hk => by cases hk; exact Nat.le_refl _))
    | (at_builtin; refine wpList_append_sl _ rfl (.tmp 45) (.tmp 46) 22 rfl w.heap.size 9 i0 (.string ⟨#[]⟩) 16 Try.underlying22 hi hz0 hz1 hz2 rfl v1 _ _ rfl hown1 b (s.length + 1) d (strs (y :: s)) rfl (HR2.out.below hB1) (strs_length _) HB.out (strs_one _) (by unfold maxLen; omega) (by omega) hB1.size ?_; intro v2 w2 hown2 hg2))
  have hB2 : Below w.heap.size w w2 := hB1.grown hg2 hB1.size (fun k hk => (hown1.lt k hk).1)
  have e1 : 0 + (r.length + 1) + (s.length + 1) = (r ++ y :: s).length + 1 := by simp; omega
  have e2 : [] ++ strs (x :: r) ++ strs (y :: s) = strs (x :: (r ++ y :: s)) := by simp [strs]
  rw [e1, e2] at hown2
  obtain ⟨a7, c7, rfl, hle, hcm, hs7, _⟩ := own_slice hown2
  have hlen : (r ++ y :: s).length + 1 ≤ maxLen := by unfold maxLen; simp; omega
  have H3 := Lib.hid (least_some a7 c7 x (r ++ y :: s) w2 hs7 hlen hle hcm)
  have HB2 := Lib.hid hB2
  clear e1 e2 hown1 hown2 hg1 hg2 hB1 hB2 hs7 hlen hle hcm
  refine H3.out.mono ?_
  rintro e w3 ⟨rfl, rfl⟩
  have HT := Lib.hid (fun W t g hg => two_least W (leastOf (x :: r)) (leastOf (y :: s)) t g hg)
  generalize leastOf (x :: (r ++ y :: s)) = z at *
  generalize leastOf (x :: r) = p at *
  generalize leastOf (y :: s) = q at *
  have hz : z = leastOf [p, q] := HBOTH.out.1
  have HC1 := Lib.hid (fun W => cmp_any z p W)
  have HC2 := Lib.hid (fun W => cmp_any z q W)
  have hle1 : Lib.compareBytes z.data.toList p.data.toList ≤ 0 := HBOTH.out.2.1
  have hle2 : Lib.compareBytes z.data.toList q.data.toList ≤ 0 := HBOTH.out.2.2
  rw [← hz] at HT
  clear hz HBOTH H3
  generalize Lib.compareBytes z.data.toList p.data.toList = n1 at *
  generalize Lib.compareBytes z.data.toList q.data.toList = n2 at *
  go_wp2_with fail
  refine (HT.out _ _ _ rfl).mono ?_
  rintro e w3 ⟨rfl, rfl⟩
  go_wp2_with fail
  refine (alive_any _).mono ?_
  rintro e w4 ⟨rfl, hB4⟩
  go_wp2_with fail
  refine (HC1.out _).mono ?_
  rintro e w5 ⟨rfl, rfl⟩
  go_wp2_with fail
  refine (HC2.out _).mono ?_
  rintro e w5 ⟨rfl, rfl⟩
  go_wp2
  go_ret
  have h3 := HB2.out.alloc HB2.out.size (Obj.cells #[.string p, .string q] 9)
  exact ⟨by first | rfl | simp, h3.trans (hB4.mono h3.size)⟩

theorem walk (w : World) (a : Option Addr) (c : Nat) (l : List ByteArray) (hr : Sl w a (strs l)) (hf : Fits l) (hlc : l.length ≤ c) (hc : c ≤ maxLen) (ha : a = none → c = 0)
    (b : Option Addr) (d : Nat) (m : List ByteArray) (hr2 : Sl w b (strs m)) (hf2 : Fits m) (hld : m.length ≤ d) (hd : d ≤ maxLen) (hb : b = none → d = 0) :
    Calls Try.prog 8 #[.slice a l.length c, .slice b m.length d] w fun e w' => e = .returned (.bool true) ∧ Below w.heap.size w w' := by
  by_cases h : 100 < l.length ∨ (l.length ≤ 100 ∧ 100 < m.length) ∨ (l.length = 0 ∧ m.length ≤ 100) ∨ (0 < l.length ∧ l.length ≤ 100 ∧ m.length = 0)
  · exact walk_skip w a b c d _ _ hf.1 hf2.1 h
  · match l, m with
    | [], _ => simp at h; omega
    | _ :: _, [] => simp at h; omega
    | x :: r, y :: s =>
      simp only [List.length_cons] at *
      exact walk_main w a b c d x y r s hr hr2 hlc hld hc hd ha hb (by omega) (by omega)

set_option maxRecDepth 100000 in
theorem lifted (os : Os) (started : os.Started) (H : Type) (enc : TypeId × Value → H) :
    ReturnsInHanded {} Try.checked os 8 .any (Rows.nameLeastSpec.pre6 enc Try.prog Try.f8 Rows.nameLeastRow.domain false) (Rows.nameLeastSpec.post enc Try.prog Try.f8 false true false false) := by
  refine returnsInHanded_of_change (C := Try.checked) own started (by kernel_rfl) Try.func8
    (ChangeSpec.witness6 (enc := enc) (C := Try.checked) false ⟨#[], #[.slice none 0 0, .slice none 0 0], []⟩ 8 (by kernel_rfl) (by kernel_rfl) (by kernel_rfl) (by kernel_rfl)) ?_
  intro W base args ds gs before hval0 hW hcnd _
  have hval : ∀ (j : Nat) t v, Try.f8.params[j]? = some t → args[j]? = some v → Value.okWide Try.prog W .any base t v := hval0
  have hW' := hW
  have hlt := hW.lt
  obtain ⟨p, q, hA0, hV, rfl, hfz, hnd⟩ := hW
  have hA : DataW.TrodAll enc Try.prog W 0 (fun _ => true) true Try.f8.params.toList args.toList ds p := hA0
  rw [Try.params8] at hA hval
  obtain ⟨v0, vs0, d0, ds0, p0, q0, hargs, rfl, rfl, h0, r0⟩ := trodAll_cons hA
  obtain ⟨v1, vs1, d1, ds1, p1, q1, rfl, rfl, rfl, h1, r1⟩ := trodAll_cons r0
  obtain ⟨rfl, rfl, rfl⟩ := trodAll_nil r1
  obtain rfl : args = #[v0, v1] := by cases args; simp_all
  obtain ⟨a0, c0, l0, rfl, s0, f0, m0, n0, o0⟩ := open_row (hval 0 22 v0 rfl rfl) h0 (fun x hx => hlt x (by simp [hx]))
  obtain ⟨a1, c1, l1, rfl, s1, f1, m1, n1, o1⟩ := open_row (hval 1 22 v1 rfl rfl) h1 (fun x hx => hlt x (by simp [hx]))
  refine (walk W a0 c0 l0 s0 f0 m0 n0 o0 a1 c1 l1 s1 f1 m1 n1 o1).mono fun e W' ⟨he, hb⟩ => ?_
  subst he
  exact ⟨_, rfl, law_post rfl hW' (fun ds h => by match ds, h with | [_, _], _ => rfl) (by kernel_rfl) (by kernel_rfl) (by kernel_rfl) hb⟩

theorem over : Rows.nameLeastRow.holds Try.pinned (OpenSpec.ofChange Rows.nameLeastSpec) :=
  OpenClaim.holds_of_wide 8 Try.f8 rfl rfl rfl rfl rfl rfl rfl ⟨rfl, rfl, rfl, rfl, rfl⟩ rfl rfl rfl rfl rfl (by kernel_rfl) Try.func8 (by kernel_rfl)
    (of_decide_eq_true (by kernel_rfl)) (by unfold Func.isWrapper; first | (rw [if_pos (by decide +kernel)]; kernel_rfl) | (rw [if_neg (by decide +kernel)]; exact ⟨rfl, rfl⟩))
    (fun os started H enc _ => lifted os started H enc)

theorem proved : Rows.NameLeastSaid := over
end Go.Proofs.Ythcjkobopobokaa.nameLeast
