/- Layer 7: the words by which each law shows that the package is alive. -/
import Derived.Test.YtbcabbddgppkaaaW15
namespace Go.Proofs.Ytbcabbddgppkaaa
open Go.RowKit
set_option linter.unusedVariables false
set_option maxRecDepth 100000

def aL : List SpM := [⟨3, 5⟩, ⟨1, 3⟩, ⟨4, 4⟩]
def oneL : List SpM := [⟨1, 5⟩]
def bL : List SpM := [⟨2, 3⟩]
def lessL : List SpM := [⟨1, 2⟩, ⟨3, 5⟩]
theorem cells_sp (W : World) (l : List SpM) (xs : Array Value) (t : TypeId) (g : Nat) (hg : g = W.heap.size) (hx : xs.toList = sps l) : SpSl (W.alloc (.cells xs t)) (some ⟨g, 0, none⟩) l := fun k hk => by
  subst hg
  obtain ⟨g1, g2⟩ := sps_get l k hk
  rw [← hx, Array.getElem?_toList] at g1 g2
  refine ⟨W.heap.size, 0, rfl, by rw [size1]; omega, ?_, ?_⟩
  · rw [cell_of_row _ _ _ xs t (0, 0) (heap_alloc_new W _), Nat.zero_add, g1]
  · rw [cell_of_row _ _ _ xs t (0, 0) (heap_alloc_new W _), Nat.zero_add, g2]
theorem one_set : IsSet (HasL aL) oneL := ⟨⟨by simp [RowL, oneL], by simp [oneL]⟩, fun x => by
  rw [aL, oneL]; simp only [hasL_cons, HasL.nil, or_false]; constructor <;> intro h <;> omega⟩
theorem b_set : IsSet (fun x => HasL aL x ∧ HasL bL x) bL := ⟨⟨by simp [RowL, bL], by simp [bL]⟩, fun x => by
  show HasL bL x ↔ HasL aL x ∧ HasL bL x
  rw [aL, bL]; simp only [hasL_cons, HasL.nil, or_false]; constructor <;> intro h <;> omega⟩
theorem less_set : IsSet (fun x => HasL aL x ∧ ¬ HasL bL x) lessL := ⟨⟨by simp [RowL, lessL], by simp [lessL]⟩, fun x => by
  show HasL lessL x ↔ HasL aL x ∧ ¬ HasL bL x
  rw [aL, bL, lessL]; simp only [hasL_cons, HasL.nil, or_false]; constructor <;> intro h <;> omega⟩
theorem join_set : IsSet (HasL (aL ++ bL)) oneL := ⟨⟨by simp [RowL, oneL], by simp [oneL]⟩, fun x => by
  rw [hasL_append, aL, bL, oneL]; simp only [hasL_cons, HasL.nil, or_false]; constructor <;> intro h <;> omega⟩
theorem fits_ab : FitsS aL ∧ FitsS bL := ⟨fun s hs => by simp [aL] at hs; rcases hs with rfl | rfl | rfl <;> (unfold I64; decide), fun s hs => by simp [bL] at hs; subst hs; unfold I64; decide⟩
/-- what alive keeps: its three rows, and the fourth, made of them -/
structure AlP (w : World) (al : Option Addr) (W : World) : Prop where
  a : SpSl W (some ⟨w.heap.size, 0, none⟩) aL
  one : SpSl W (some ⟨w.heap.size + 1, 0, none⟩) oneL
  b : SpSl W (some ⟨w.heap.size + 2, 0, none⟩) bL
  l : SpSl W al lessL
  frame : Below w.heap.size w W
theorem AlP.below {w W W' : World} {al : Option Addr} (h : AlP w al W) (q : Below W.heap.size W W') : AlP w al W' :=
  ⟨h.a.below q, h.one.below q, h.b.below q, h.l.below q, h.frame.trans (q.mono h.frame.size)⟩
theorem AlP.less {w W : World} {al : Option Addr} (h : AlP w al W) (W' : World) (q : Below W.heap.size W W') : AlP w al W' := h.below q

theorem less_al (p q : Nat) (W : World) (ha : SpSl W (some ⟨p, 0, none⟩) aL) (hb : SpSl W (some ⟨q, 0, none⟩) bL) : Calls Try.prog 28 #[.slice (some ⟨p, 0, none⟩) 3 3, .slice (some ⟨q, 0, none⟩) 1 1] W fun e w' => ∃ g o c, e = .returned (.slice (some ⟨g, o, none⟩) 2 c) ∧ SpSl w' (some ⟨g, o, none⟩) lessL ∧ Below W.heap.size W w' := by
  refine (less_any _ 3 _ 1 aL bL W ha hb (by decide) (by decide) ⟨by decide, by decide⟩ (by decide) fits_ab.1 fits_ab.2).mono ?_
  rintro e w' ⟨v, r, rfl, hs, ho, _, hb⟩
  obtain rfl := hs.only less_set
  obtain ⟨a, c, rfl, _, h⟩ := own_sp ho
  obtain ⟨g, o, rfl, _⟩ := h 0 (by decide)
  exact ⟨g, o, c, rfl, h, hb⟩
theorem norm_al (p : Nat) (W : World) (ha : SpSl W (some ⟨p, 0, none⟩) aL) : Calls Try.prog 26 #[.slice (some ⟨p, 0, none⟩) 3 3] W fun e w' => ∃ a c, e = .returned (.slice a 1 c) ∧ SpSl w' a oneL ∧ Below W.heap.size W w' := by
  refine (norm_any _ 3 aL W ha (by decide) (by decide) (by decide)).mono ?_
  rintro e w' ⟨v, r, rfl, hs, _, ho, hb⟩
  obtain rfl := hs.only one_set
  obtain ⟨a, c, rfl, _, h⟩ := own_sp ho
  exact ⟨a, c, rfl, h, hb⟩
theorem meet_al (p q : Nat) (W : World) (ha : SpSl W (some ⟨p, 0, none⟩) aL) (hb : SpSl W (some ⟨q, 0, none⟩) bL) : Calls Try.prog 27 #[.slice (some ⟨p, 0, none⟩) 3 3, .slice (some ⟨q, 0, none⟩) 1 1] W fun e w' => ∃ a c, e = .returned (.slice a 1 c) ∧ SpSl w' a bL ∧ Below W.heap.size W w' := by
  refine (meet_any _ 3 _ 1 aL bL W ha hb (by decide) (by decide) ⟨by decide, by decide⟩ (by decide)).mono ?_
  rintro e w' ⟨v, r, rfl, hs, ho, _, hb⟩
  obtain rfl := hs.only b_set
  obtain ⟨a, c, rfl, _, h⟩ := own_sp ho
  exact ⟨a, c, rfl, h, hb⟩
theorem join_al (p q g : Nat) (W : World) (hg : g = W.heap.size) (ha : SpSl W (some ⟨p, 0, none⟩) aL) (hb : SpSl W (some ⟨q, 0, none⟩) bL) (t : TypeId) : Calls Try.prog 20 #[.slice (some ⟨g, 0, none⟩) 2 2] (W.alloc (.cells #[.slice (some ⟨p, 0, none⟩) 3 3, .slice (some ⟨q, 0, none⟩) 1 1] t)) fun e w' => ∃ a c, e = .returned (.slice a 1 c) ∧ SpSl w' a oneL ∧ Below W.heap.size W w' := by
  subst hg
  have hA := (Below.refl W.heap.size W).alloc (Nat.le_refl _) (.cells #[.slice (some ⟨p, 0, none⟩) 3 3, .slice (some ⟨q, 0, none⟩) 1 1] t)
  refine (join_any (some ⟨W.heap.size, 0, none⟩) 2 [⟨some ⟨p, 0, none⟩, aL, 3⟩, ⟨some ⟨q, 0, none⟩, bL, 1⟩] _ ?_ ?_ (by show 2 ≤ _; decide) (by show (aL ++ (bL ++ [])).length ≤ _; decide)).mono ?_
  · exact sl_lit W #[.slice (some ⟨p, 0, none⟩) 3 3, .slice (some ⟨q, 0, none⟩) 1 1] t
  · intro r hr
    rcases List.mem_cons.1 hr with rfl | hr
    · exact ⟨ha.below hA, fun h => by cases h⟩
    · rw [List.mem_singleton.1 hr]
      exact ⟨hb.below hA, fun h => by cases h⟩
  · rintro e w' ⟨v, r, rfl, hs, _, ho, hb⟩
    obtain rfl := IsSet.only hs (show IsSet (HasL (cat _)) oneL from join_set)
    obtain ⟨a, c, rfl, _, h⟩ := own_sp ho
    exact ⟨a, c, rfl, h, hA.trans (hb.mono (by rw [size1]; omega))⟩
theorem same_al (a b : Option Addr) (n m ca cb : Nat) (l k : List SpM) (hn : n = l.length) (hm : m = k.length) (W : World) (ha : SpSl W a l) (hb : SpSl W b k) (h1 : l.length ≤ 3) (h2 : k.length ≤ 3) : Calls Try.prog 22 #[.slice a n ca, .slice b m cb] W fun e w' => e = .returned (.bool (decide (l = k))) ∧ Below W.heap.size W w' := by
  subst hn; subst hm
  exact same_any a b ca cb l k W ha hb (by unfold maxLen; omega) (by unfold maxLen; omega)

set_option maxHeartbeats 2000000 in
theorem alive_any (w : World) : Calls Try.prog 14 #[] w fun e w' => e = .returned (.bool true) ∧ Below w.heap.size w w' := by
  have X0 : Hid (SpSl (((w.alloc (.cells #[.int .i64 3, .int .i64 5, .int .i64 1, .int .i64 3, .int .i64 4, .int .i64 4] 24)).alloc (.cells #[.int .i64 1, .int .i64 5] 24)).alloc (.cells #[.int .i64 2, .int .i64 3] 24)) (some ⟨w.heap.size, 0, none⟩) aL ∧ SpSl (((w.alloc (.cells #[.int .i64 3, .int .i64 5, .int .i64 1, .int .i64 3, .int .i64 4, .int .i64 4] 24)).alloc (.cells #[.int .i64 1, .int .i64 5] 24)).alloc (.cells #[.int .i64 2, .int .i64 3] 24)) (some ⟨w.heap.size + 1, 0, none⟩) oneL ∧
      SpSl (((w.alloc (.cells #[.int .i64 3, .int .i64 5, .int .i64 1, .int .i64 3, .int .i64 4, .int .i64 4] 24)).alloc (.cells #[.int .i64 1, .int .i64 5] 24)).alloc (.cells #[.int .i64 2, .int .i64 3] 24)) (some ⟨w.heap.size + 2, 0, none⟩) bL ∧ Below w.heap.size w (((w.alloc (.cells #[.int .i64 3, .int .i64 5, .int .i64 1, .int .i64 3, .int .i64 4, .int .i64 4] 24)).alloc (.cells #[.int .i64 1, .int .i64 5] 24)).alloc (.cells #[.int .i64 2, .int .i64 3] 24))) := by
    generalize hw1 : w.alloc (.cells #[.int .i64 3, .int .i64 5, .int .i64 1, .int .i64 3, .int .i64 4, .int .i64 4] 24) = w1
    have h1 : SpSl w1 (some ⟨w.heap.size, 0, none⟩) aL := by rw [← hw1]; exact cells_sp w aL _ _ _ rfl rfl
    have s1 : w1.heap.size = w.heap.size + 1 := by rw [← hw1, size1]
    have b1 : Below w.heap.size w w1 := by rw [← hw1]; exact (Below.refl _ _).alloc (Nat.le_refl _) _
    generalize hw2 : w1.alloc (.cells #[.int .i64 1, .int .i64 5] 24) = w2
    have h2 : SpSl w2 (some ⟨w.heap.size + 1, 0, none⟩) oneL := by rw [← hw2]; exact cells_sp w1 oneL _ _ _ s1.symm rfl
    have b2 : Below w1.heap.size w1 w2 := by rw [← hw2]; exact (Below.refl _ _).alloc (Nat.le_refl _) _
    have s2 : w2.heap.size = w.heap.size + 2 := by rw [← hw2, size1, s1]
    have b3 := (Below.refl w2.heap.size w2).alloc (Nat.le_refl _) (.cells #[.int .i64 2, .int .i64 3] 24)
    exact ⟨(h1.below b2).below b3, h2.below b3, cells_sp w2 bL _ _ _ s2.symm rfl, (b1.trans (b2.mono b1.size)).trans (b3.mono (by omega))⟩
  have HL := Lib.hid less_al
  have HN := Lib.hid norm_al
  have HM := Lib.hid meet_al
  have HJ := Lib.hid join_al
  have HS := Lib.hid same_al
  go_enter Try.func14, Try.ntmps14
  go_wp2_with fail
  obtain ⟨xa, x1, xb, hb⟩ := X0.out
  refine (HL.out _ _ _ xa xb).mono ?_
  rintro e w1 ⟨g, o, c, rfl, hl, h1⟩
  have P1 : Hid (AlP w (some ⟨g, o, none⟩) w1) := ⟨xa.below h1, x1.below h1, xb.below h1, hl, hb.trans (h1.mono hb.size)⟩
  clear xa x1 xb hb hl h1 X0 HL
  have HSC : Hid (∀ W, AlP w (some ⟨g, o, none⟩) W → W.cell? ⟨w.heap.size, 0, none⟩ = some (.int .i64 3) ∧ W.cell? ⟨w.heap.size, 1, none⟩ = some (.int .i64 5) ∧ W.cell? ⟨w.heap.size, 2, none⟩ = some (.int .i64 1) ∧ W.cell? ⟨w.heap.size, 3, none⟩ = some (.int .i64 3) ∧ W.cell? ⟨w.heap.size, 4, none⟩ = some (.int .i64 4) ∧ W.cell? ⟨w.heap.size, 5, none⟩ = some (.int .i64 4) ∧ W.cell? ⟨g, o, none⟩ = some (.int .i64 1) ∧ W.cell? ⟨g, o + 1, none⟩ = some (.int .i64 2)) := fun W h => by
    obtain ⟨_, _, e0, _, a0, a1⟩ := h.a 0 (by decide)
    obtain ⟨_, _, e1, _, a2, a3⟩ := h.a 1 (by decide)
    obtain ⟨_, _, e2, _, a4, a5⟩ := h.a 2 (by decide)
    obtain ⟨_, _, e3, _, l0, l1⟩ := h.l 0 (by decide)
    cases e0; cases e1; cases e2; cases e3
    exact ⟨a0, a1, a2, a3, a4, a5, l0, l1⟩
  have HBL : Hid (∀ W W', AlP w (some ⟨g, o, none⟩) W → Below W.heap.size W W' → AlP w (some ⟨g, o, none⟩) W') := fun W W' h q => h.below q
  have HAL : Hid (∀ W ob, AlP w (some ⟨g, o, none⟩) W → AlP w (some ⟨g, o, none⟩) (W.alloc ob)) := fun W ob h => h.below ((Below.refl _ _).alloc (Nat.le_refl _) _)
  have HS1 : Hid (∀ W a c, SpSl W a oneL → AlP w (some ⟨g, o, none⟩) W → Calls Try.prog 22 #[.slice a 1 c, .slice (some ⟨w.heap.size + 1, 0, none⟩) 1 1] W fun e w' => e = .returned (.bool true) ∧ Below W.heap.size W w') := fun W a c hs h => same_al a _ 1 1 c 1 oneL oneL rfl rfl W hs h.one (by decide) (by decide)
  have HS3 : Hid (∀ W a c, SpSl W a bL → AlP w (some ⟨g, o, none⟩) W → Calls Try.prog 22 #[.slice a 1 c, .slice (some ⟨w.heap.size + 2, 0, none⟩) 1 1] W fun e w' => e = .returned (.bool true) ∧ Below W.heap.size W w') := fun W a c hs h => same_al a _ 1 1 c 1 bL bL rfl rfl W hs h.b (by decide) (by decide)
  have HS4 : Hid (∀ W, AlP w (some ⟨g, o, none⟩) W → Calls Try.prog 22 #[.slice (some ⟨w.heap.size, 0, none⟩) 3 3, .slice (some ⟨w.heap.size + 1, 0, none⟩) 1 1] W fun e w' => e = .returned (.bool false) ∧ Below W.heap.size W w') := fun W h => same_al _ _ 3 1 3 1 aL oneL rfl rfl W h.a h.one (by decide) (by decide)
  have HH1 : Hid (∀ W, AlP w (some ⟨g, o, none⟩) W → Calls Try.prog 48 #[.slice (some ⟨w.heap.size, 0, none⟩) 3 3, .int .i64 1] W fun e w' => e = .returned (.bool true) ∧ Below W.heap.size W w') := fun W h => lhas_any _ 3 aL 1 W h.a (by decide)
  have HH5 : Hid (∀ W, AlP w (some ⟨g, o, none⟩) W → Calls Try.prog 48 #[.slice (some ⟨w.heap.size, 0, none⟩) 3 3, .int .i64 5] W fun e w' => e = .returned (.bool false) ∧ Below W.heap.size W w') := fun W h => lhas_any _ 3 aL 5 W h.a (by decide)
  have HNN : Hid (∀ W, Calls Try.prog 15 #[.agg #[.int .i64 4, .int .i64 4]] W fun e w' => e = .returned (.bool true) ∧ Below W.heap.size W w') := fun W => none_any 4 4 W
  have HSH : Hid (∀ W, Calls Try.prog 16 #[.agg #[.int .i64 3, .int .i64 5], .int .i64 4] W fun e w' => e = .returned (.bool true) ∧ Below W.heap.size W w') := fun W => shas_any 3 5 4 W
  have HMM : Hid (∀ W, Calls Try.prog 13 #[.agg #[.int .i64 3, .int .i64 5], .agg #[.int .i64 1, .int .i64 3]] W fun e w' => e = .returned (.agg #[.int .i64 3, .int .i64 3]) ∧ Below W.heap.size W w') := fun W => smeet_any ⟨3, 5⟩ ⟨1, 3⟩ W
  have P1' : AlP w (some ⟨g, o, none⟩) w1.drew := P1.out.below (Below.refl _ _).drew
  go_wp2_with fail
  simp only [List.append_eq, List.cons_append, List.nil_append]
  go_region_held3 (fun W => W.cell? ⟨w.heap.size, 0, none⟩ = some (.int .i64 3) ∧ W.cell? ⟨w.heap.size, 1, none⟩ = some (.int .i64 5) ∧ W.cell? ⟨w.heap.size, 2, none⟩ = some (.int .i64 1) ∧ W.cell? ⟨w.heap.size, 3, none⟩ = some (.int .i64 3) ∧ W.cell? ⟨w.heap.size, 4, none⟩ = some (.int .i64 4) ∧ W.cell? ⟨w.heap.size, 5, none⟩ = some (.int .i64 4) ∧ W.cell? ⟨g, o, none⟩ = some (.int .i64 1) ∧ W.cell? ⟨g, o + 1, none⟩ = some (.int .i64 2))
    (first | with_reducible exact HSC.out _ P1' | with_reducible exact HSC.out _ P2 | with_reducible exact HSC.out _ P3 | with_reducible exact HSC.out _ (HAL.out _ _ P3) | with_reducible exact HSC.out _ P4 | with_reducible exact HSC.out _ P5 | with_reducible exact HSC.out _ P6 | with_reducible exact HSC.out _ P7 | with_reducible exact HSC.out _ P8 | with_reducible exact HSC.out _ P9 | with_reducible exact HSC.out _ P10 | with_reducible exact HSC.out _ P11 | with_reducible exact HSC.out _ P12 | with_reducible exact HSC.out _ P13 | assumption)
    (first | (have hseen := P12; clear hseen; go_at_call 22; refine (HS4.out _ P12).mono ?_; rintro e w13 ⟨rfl, h13⟩; have P13 := HBL.out _ _ P12 h13) | (have hseen := P11; clear hseen; go_at_call 13; refine (HMM.out _).mono ?_; rintro e w12 ⟨rfl, h12⟩; have P12 := HBL.out _ _ P11 h12) | (have hseen := P10; clear hseen; go_at_call 16; refine (HSH.out _).mono ?_; rintro e w11 ⟨rfl, h11⟩; have P11 := HBL.out _ _ P10 h11) | (have hseen := P9; clear hseen; go_at_call 15; refine (HNN.out _).mono ?_; rintro e w10 ⟨rfl, h10⟩; have P10 := HBL.out _ _ P9 h10) | (have hseen := P8; clear hseen; go_at_call 48; refine (HH5.out _ P8).mono ?_; rintro e w9 ⟨rfl, h9⟩; have P9 := HBL.out _ _ P8 h9) | (have hseen := P7; clear hseen; go_at_call 48; refine (HH1.out _ P7).mono ?_; rintro e w8 ⟨rfl, h8⟩; have P8 := HBL.out _ _ P7 h8) | (have hseen := P6; clear hseen; go_at_call 22; refine (HS3.out _ _ _ hs6 P6).mono ?_; rintro e w7 ⟨rfl, h7⟩; have P7 := HBL.out _ _ P6 h7) | (have hseen := P5; clear hseen; go_at_call 27; refine (HM.out _ _ _ P5.a P5.b).mono ?_; rintro e w6 ⟨a6, c6, rfl, hs6, h6⟩; have P6 := HBL.out _ _ P5 h6) | (have hseen := P4; clear hseen; go_at_call 22; refine (HS1.out _ _ _ hs4 P4).mono ?_; rintro e w5 ⟨rfl, h5⟩; have P5 := HBL.out _ _ P4 h5) | (have hseen := P3; clear hseen; go_at_call 20; refine (HJ.out _ _ _ w3 rfl P3.a P3.b _).mono ?_; rintro e w4 ⟨a4, c4, rfl, hs4, h4⟩; have P4 := HBL.out _ _ P3 h4) | (have hseen := P2; clear hseen; go_at_call 22; refine (HS1.out _ _ _ hs2 P2).mono ?_; rintro e w3 ⟨rfl, h3⟩; have P3 := HBL.out _ _ P2 h3) | (go_at_call 26; refine (HN.out _ _ P1'.a).mono ?_; rintro e w2 ⟨a2, c2, rfl, hs2, h2⟩; have P2 := HBL.out _ _ P1' h2))
  go_wp2
  go_ret
  exact ⟨rfl, P13.frame⟩
end Go.Proofs.Ytbcabbddgppkaaa
