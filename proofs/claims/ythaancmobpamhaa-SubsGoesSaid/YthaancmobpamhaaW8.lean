/- Layer 7: the document's Norm: contract. -/
import Derived.Test.YthaancmobpamhaaW7
namespace Go.Proofs.Ythaancmobpamhaa
open Go.RowKit
set_option linter.unusedVariables false
set_option maxRecDepth 100000
set_option maxRecDepth 100000

/-- what is alike in each cell between two ends, and nowhere outside -/
structure CellP (P : Int → Prop) (e : List Int) : Prop where
  rise : Rise e
  cell : ∀ k (h : k + 1 < e.length) x, e[k] ≤ x → x < e[k + 1] → (P x ↔ P e[k])
  first : ∀ x, P x → ∃ h : 0 < e.length, e[0] ≤ x
  last : ∀ x, P x → ∀ k (h : k + 1 = e.length), x < e[k]
def GlW (P : Int → Prop) (e : List Int) (k : Nat) (r : List SpM) : Prop := (r = [] ∧ e = []) ∨ ∃ h : k < e.length, GlueI P e[k] r
theorem CellP.start {P : Int → Prop} {e : List Int} (h : CellP P e) : GlW P e 0 [] := by
  rcases Nat.eq_zero_or_pos e.length with h0 | h0
  · exact .inl ⟨rfl, List.eq_nil_of_length_eq_zero h0⟩
  · exact .inr ⟨h0, GlueI.start fun x hx => (h.first x hx).2⟩
theorem CellP.lt {P : Int → Prop} {e : List Int} (h : CellP P e) {k : Nat} (hk : k + 1 < e.length) : e[k] < e[k + 1] := (List.pairwise_iff_getElem.1 h.rise) k (k + 1) (by omega) hk (by omega)
theorem CellP.step {P : Int → Prop} {e : List Int} (h : CellP P e) {k : Nat} {r : List SpM} (g : GlW P e k r) (hk : k + 1 < e.length) (hp : P e[k]) : GlW P e (k + 1) (glueS r ⟨e[k], e[k + 1]⟩) := by
  rcases g with ⟨_, rfl⟩ | ⟨h0, g⟩
  · simp at hk
  · exact .inr ⟨hk, g.step (h.lt hk) fun x h1 h2 => (h.cell k hk x h1 h2).2 hp⟩
theorem CellP.skip {P : Int → Prop} {e : List Int} (h : CellP P e) {k : Nat} {r : List SpM} (g : GlW P e k r) (hk : k + 1 < e.length) (hp : ¬ P e[k]) : GlW P e (k + 1) r := by
  rcases g with ⟨_, rfl⟩ | ⟨h0, g⟩
  · simp at hk
  · exact .inr ⟨hk, g.skip (h.lt hk) fun x h1 h2 hx => hp ((h.cell k hk x h1 h2).1 hx)⟩
theorem CellP.done {P : Int → Prop} {e : List Int} (h : CellP P e) {k : Nat} {r : List SpM} (g : GlW P e k r) (hk : ¬ k + 1 < e.length) : IsSet P r := by
  rcases g with ⟨rfl, rfl⟩ | ⟨h0, g⟩
  · exact ⟨NormL.nil, fun x => ⟨fun hx => absurd hx HasL.nil, fun hx => by obtain ⟨h0, _⟩ := h.first x hx; simp at h0⟩⟩
  · exact g.done fun x hx => h.last x hx k (by omega)
theorem cell_one {l : List SpM} {e : List Int} (h : IsEnds l e) : CellP (HasL l) e :=
  ⟨h.1, fun k hk x h1 h2 => h.cell (fun _ hs => hs) hk h1 h2, fun x hx => h.first (fun _ hs => hs) hx, fun x hx k hk => h.last (fun _ hs => hs) hx hk⟩
theorem cell_both {a b : List SpM} {e : List Int} (h : IsEnds (a ++ b) e) : CellP (fun x => HasL a x ∧ HasL b x) e :=
  have ha : ∀ s ∈ a, s ∈ a ++ b := fun s hs => List.mem_append_left _ hs
  have hb : ∀ s ∈ b, s ∈ a ++ b := fun s hs => List.mem_append_right _ hs
  ⟨h.1, fun k hk x h1 h2 => and_congr (h.cell ha hk h1 h2) (h.cell hb hk h1 h2), fun x hx => h.first ha hx.1, fun x hx k hk => h.last ha hx.1 hk⟩
theorem cell_less {a b : List SpM} {e : List Int} (h : IsEnds (a ++ b) e) : CellP (fun x => HasL a x ∧ ¬ HasL b x) e :=
  have ha : ∀ s ∈ a, s ∈ a ++ b := fun s hs => List.mem_append_left _ hs
  have hb : ∀ s ∈ b, s ∈ a ++ b := fun s hs => List.mem_append_right _ hs
  ⟨h.1, fun k hk x h1 h2 => and_congr (h.cell ha hk h1 h2) (not_congr (h.cell hb hk h1 h2)), fun x hx => h.first ha hx.1, fun x hx k hk => h.last ha hx.1 hk⟩
theorem glueS_le (r : List SpM) (s : SpM) : (glueS r s).length ≤ r.length + 1 := by
  rcases List.eq_nil_or_concat r with rfl | ⟨fr, u, hfu⟩
  · rw [glueS_nil]; simp
  · rw [hfu, List.concat_eq_append, glueS_snoc]
    split <;> simp
/-- both ends of a cell, in whatever world is like this one -/
theorem ints_two {w : World} {a : Option Addr} {e : List Int} (h : Sl w a (ints e)) {k : Nat} (hk : k + 1 < e.length) : ∃ b off, a = some ⟨b, off, none⟩ ∧ ∀ W, Below w.heap.size w W → W.cell? ⟨b, off + k, none⟩ = some (.int .i64 e[k]) ∧ W.cell? ⟨b, off + (k + 1), none⟩ = some (.int .i64 e[k + 1]) := by
  obtain ⟨b, off, rfl, _, _⟩ := ints_at h hk
  refine ⟨b, off, rfl, fun W hW => ?_⟩
  obtain ⟨_, _, e1, _, h1⟩ := ints_at (h.below hW) (k := k) (by omega)
  obtain ⟨_, _, e2, _, h2⟩ := ints_at (h.below hW) hk
  cases e1
  cases e2
  exact ⟨h1, h2⟩

set_option maxHeartbeats 4000000 in
theorem refNorm_any (a : Option Addr) (c : Nat) (l : List SpM) (w : World) (hr : SpSl w a l) (hl : l.length ≤ 100000) :
    Calls Try.prog 43 #[.slice a l.length c] w fun e w' => ∃ (v : Value) (r : List SpM), e = .returned v ∧ IsSet (HasL l) r ∧ r.length ≤ 2 * l.length ∧ w'.ownsRow w.heap.size 70 2 v r.length (sps r) ∧ Below w.heap.size w w' := by
  have HR := Lib.hid hr
  have HE := Lib.hid (ends_any a c l w hr hl)
  have HH := Lib.hid refHas_any
  have HG := Lib.hid glue_any
  have hlm : l.length ≤ maxLen := by unfold maxLen; omega
  clear hr
  go_enter Try.func43, Try.ntmps43
  go_wp2_with fail
  refine HE.out.mono ?_
  rintro r w1 ⟨v, e, rfl, hen, hel, hown, hB1⟩
  clear HE
  have HP := Lib.hid (cell_one hen)
  have HB1 := Lib.hid hB1
  obtain ⟨ea, ec, rfl, _, hecm, hsl, _, _⟩ := own_slice hown
  have HSL := Lib.hid hsl
  clear hen hown hB1 hsl
  go_wp2
  go_loopw [4, 5] (fun v i wr => ∃ (k : Nat) (r : List SpM), i = .int .i64 k ∧ k ≤ e.length ∧ r.length ≤ k ∧ Hid (GlW (HasL l) e k r) ∧ Hid (wr.ownsRow w1.heap.size 70 2 v r.length (sps r)) ∧ Hid (Below w1.heap.size w1 wr)) (fun _ i _ => e.length - (intOf i).toNat)
  case atStart => exact ⟨0, [], rfl, by omega, by simp, HP.out.start, ⟨rfl, .inl ⟨rfl, rfl⟩⟩, Below.refl _ _⟩
  case round =>
    obtain ⟨k, r, rfl, hke, hrk, HI, HO, HB⟩ := hrel
    by_cases hk : k + 1 < e.length
    · obtain ⟨b, off, rfl, hc⟩ := ints_two HSL.out hk
      have HSC := Lib.hid (fun W (hW : Below w1.heap.size wr W) => hc W (HB.out.trans hW))
      obtain ⟨c0, c1⟩ := hc wr HB.out
      have HST := Lib.hid (fun hp => HP.out.step HI.out hk hp)
      have HSK := Lib.hid (fun hp => HP.out.skip HI.out hk hp)
      have HRW := Lib.hid (HR.out.below (HB1.out.trans (HB.out.mono HB1.out.size)))
      have HHW := Lib.hid (HH.out a c l e[k] wr HRW.out hlm)
      have HBI := Lib.hid (hasB_iff l e[k])
      clear hc HI
      generalize e[k] = x at *
      generalize e[k + 1] = y at *
      by_cases hb : hasB l x = true
      · rw [hb] at HHW
        have HN := Lib.hid (HST.out (HBI.out.1 hb))
        clear HST HSK HBI hb
        go_wp2_with fail
        refine HHW.out.mono ?_
        rintro r1 w2 ⟨rfl, hw2⟩
        obtain rfl : wr = w2 := hw2.symm
        clear hw2
        go_wp2_with fail
        have hX : Below w1.heap.size wr wr.drew := (Below.refl _ _).drew
        have hwk : IntKind.i64.wrap ((k : Int) + 1) = (k : Int) + 1 := by rw [IntWalk.i64_in] <;> omega
        have hk0 : (0 : Int) ≤ (k : Int) := Int.natCast_nonneg _
        have hk1 : (k : Int) < (e.length : Int) := by omega
        have hk2 : (k : Int) + 1 < (e.length : Int) := by omega
        have hk3 : (0 : Int) ≤ (k : Int) + 1 := by omega
        have hk4 : ((k : Int) + 1).toNat = k + 1 := by omega
        have HGW : Hid (Calls Try.prog 64 #[_, .agg #[.int .i64 x, .int .i64 y]] wr.drew _) := HG.out w1.heap.size _ r ⟨x, y⟩ wr.drew HB.out.size HO.out.drew (by omega)
        go_region_held3 (fun W => W.cell? ⟨b, off + k, none⟩ = some (.int .i64 x) ∧ W.cell? ⟨b, off + (k + 1), none⟩ = some (.int .i64 y))
          (first | with_reducible exact HSC.out _ hX | with_reducible exact HSC.out _ hY | assumption)
          ((go_at_call 64; refine HGW.out.mono ?_; rintro r3 w3 ⟨v3, rfl, hown3, hB3⟩; have hY := hX.trans hB3))
        clear hwk hk0 hk1 hk2 hk3 hk4 hX HSC HGW HHW
        go_wp2
        go_roundw
        case rel => exact ⟨k + 1, glueS r ⟨x, y⟩, by go_num, by omega, Nat.le_trans (glueS_le _ _) (by omega), HN, hown3, HB.out.trans hY⟩
        case measure => simp [intOf]; omega
      · have hb : hasB l x = false := by simpa using hb
        rw [hb] at HHW
        have HN := Lib.hid (HSK.out (fun h => by rw [HBI.out.2 h] at hb; cases hb))
        clear HST HSK HBI hb
        go_wp2_with fail
        refine HHW.out.mono ?_
        rintro r1 w2 ⟨rfl, hw2⟩
        obtain rfl : wr = w2 := hw2.symm
        clear hw2 HSC HHW
        go_wp2
        go_roundw
        case rel => exact ⟨k + 1, r, by go_num, by omega, by omega, HN, HO, HB⟩
        case measure => simp [intOf]; omega
    · have HD := Lib.hid (HP.out.done HI.out hk)
      go_wp2
      go_ret
      first | exact ⟨_, r, rfl, HD.out, by omega, own_low HO.out HB1.out.size, HB1.out.trans (HB.out.mono HB1.out.size)⟩ | exact ⟨_, rfl, r, HD.out, by omega, own_low HO.out HB1.out.size, HB1.out.trans (HB.out.mono HB1.out.size)⟩
end Go.Proofs.Ythaancmobpamhaa
