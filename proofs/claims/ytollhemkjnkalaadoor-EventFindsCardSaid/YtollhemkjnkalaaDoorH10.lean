/- Layer 4: rows of frames in memory; the words by which each law shows that the package is alive. -/
import Derived.Test.YtollhemkjnkalaaDoorH9
namespace Go.Proofs.YtollhemkjnkalaaDoor
open Go.RowKit
set_option linter.unusedVariables false
set_option maxRecDepth 100000

/-- the row that begins at a holds these frames -/
def FrSl (w : World) (a : Option Addr) (l : List Fr) : Prop := ∀ k (h : k < l.length), ∃ b off, a = some ⟨b, off, none⟩ ∧ b < w.heap.size ∧
  w.cell? ⟨b, off + k * 2, none⟩ = some (.int .u8 (l[k].1.toNat : Int)) ∧ w.cell? ⟨b, off + k * 2 + 1, none⟩ = some (.string (tx l[k].2))
theorem FrSl.below {w w' : World} {a : Option Addr} {l : List Fr} (h : FrSl w a l) (hb : Below w.heap.size w w') : FrSl w' a l := fun k hk => by
  obtain ⟨b, off, e, hlt, h0, h1⟩ := h k hk
  exact ⟨b, off, e, Nat.lt_of_lt_of_le hlt hb.size, (hb.cell (p := ⟨b, off + k * 2, none⟩) hlt).trans h0, (hb.cell (p := ⟨b, off + k * 2 + 1, none⟩) hlt).trans h1⟩
theorem FrSl.take {w : World} {a : Option Addr} {l : List Fr} (h : FrSl w a l) (n : Nat) : FrSl w a (l.take n) := fun k hk => by
  have hk' : k < l.length := by rw [List.length_take] at hk; omega
  obtain ⟨b, off, e, hlt, h0, h1⟩ := h k hk'
  exact ⟨b, off, e, hlt, by rw [List.getElem_take]; exact h0, by rw [List.getElem_take]; exact h1⟩
theorem frC_get (l : List Fr) : ∀ (k : Nat) (h : k < l.length), (frC l)[k * 2]? = some (.int .u8 (l[k].1.toNat : Int)) ∧ (frC l)[k * 2 + 1]? = some (.string (tx l[k].2)) := by
  induction l with
  | nil => intro k h; exact absurd h (by simp)
  | cons x l ih =>
    intro k h
    have e : frC (x :: l) = .int .u8 (x.1.toNat : Int) :: .string (tx x.2) :: frC l := by simp [frC]
    cases k with
    | zero => rw [e]; exact ⟨rfl, rfl⟩
    | succ k =>
      have := ih k (by simpa using h)
      rw [e, show (k + 1) * 2 = k * 2 + 1 + 1 by omega]
      simpa using this
theorem own_fr {w : World} {B e : Nat} {v : Value} {l : List Fr} (h : w.ownsRow B e 2 v l.length (frC l)) : ∃ a c, v = .slice a l.length c ∧ l.length ≤ c ∧ FrSl w a l := by
  rcases h.2 with ⟨rfl, hn⟩ | ⟨g, cap, cur, rfl, hg, hh, hn, hc, hsz, ht⟩
  · have : l = [] := List.eq_nil_of_length_eq_zero hn
    subst this
    exact ⟨none, 0, rfl, Nat.le_refl _, fun k hk => absurd hk (by simp)⟩
  · refine ⟨_, cap, rfl, hn, fun k hk => ⟨g, 0, rfl, ?_, ?_, ?_⟩⟩
    · rcases Nat.lt_or_ge g w.heap.size with h1 | h1
      · exact h1
      · rw [Array.getElem?_eq_none h1] at hh; cases hh
    · have hg := (frC_get l k hk).1
      rw [← ht, List.getElem?_take, if_pos (by omega), Array.getElem?_toList] at hg
      rw [cell_of_row w g _ cur e (0, 0) hh, Nat.zero_add, hg]
    · have hg := (frC_get l k hk).2
      rw [← ht, List.getElem?_take, if_pos (by omega), Array.getElem?_toList] at hg
      rw [cell_of_row w g _ cur e (0, 0) hh, Nat.zero_add, hg]

/-- the frame that each law packs, as a text -/
def hi16 : List UInt8 := [254, 97, 48, 48, 48, 50, 104, 105, 97, 49, 57, 55, 101, 102, 54, 48]
theorem hi_ok : packE 97 [104, 105] = 0 := by decide +kernel
theorem hi_text : packT 97 [104, 105] = hi16 := by decide +kernel
theorem hi_pack (w : World) : Calls Tryd.prog 36 #[.agg #[.int .u8 97, .string ⟨#[104, 105]⟩]] w fun e w' => e = .returned (.tuple #[.string (tx hi16), .int .i64 0]) ∧ Below w.heap.size w w' := by
  have h := pack_any 97 ⟨#[104, 105]⟩ (by decide) w
  have e1 : packE 97 (toL ⟨#[104, 105]⟩) = 0 := hi_ok
  have e2 : packS 97 (toL ⟨#[104, 105]⟩) = hi16 := by unfold packS; rw [if_pos e1]; exact hi_text
  rw [e1, e2] at h
  exact h
theorem no_kind (w : World) : Calls Tryd.prog 36 #[.agg #[.int .u8 0, .string ⟨#[104, 105]⟩]] w fun e w' => e = .returned (.tuple #[.string ⟨#[]⟩, .int .i64 40]) ∧ Below w.heap.size w w' := by
  have h := pack_any 0 ⟨#[104, 105]⟩ (by decide) w
  have e1 : packE 0 (toL ⟨#[104, 105]⟩) = 40 := by decide +kernel
  have e2 : packS 0 (toL ⟨#[104, 105]⟩) = [] := by unfold packS; rw [e1]; rfl
  rw [e1, e2] at h
  exact h
theorem hi_next (r : List UInt8) : nextL (hi16 ++ r) = .ok 97 [104, 105] := by rw [← hi_text]; exact nextL_pack hi_ok r
theorem hi_cut (c : Nat) (h : c < 16) : nextL (hi16.take c) = .err 43 := by rw [← hi_text]; exact nextL_cut hi_ok c h
theorem hi_scan (l : List Fr) (n : Nat) (h : Scans (hi16 ++ hi16.take 9) l n) : l = [(97, [104, 105])] ∧ n = 16 := by
  have h2 : Scans (hi16 ++ hi16.take 9) [(97, [104, 105])] 16 := .step (hi_next _) (.done (hi_cut 9 (by decide)))
  exact h.only h2
theorem mark_next (c : UInt8) (r : List UInt8) (h : c ≠ 254) : nextL (c :: r) = .err 44 := by
  have hk : okAt 0 (0 + ([] : List UInt8).length) c = false := by
    show isMarkB c = false
    unfold isMarkB
    rw [decide_eq_false_iff_not]
    intro e
    exact h (UInt8.toNat_inj.1 e)
  have e := G_bad (l := []) (long := 0) (i := 0) (n := 6) rfl (by decide) c hk r
  have hb : bodyE (c :: r) = 44 := by
    unfold bodyE
    rw [show c :: r = [] ++ c :: r from rfl, e]; rfl
  rw [nextL_head _ (by omega), hb]
theorem hi_find : findTo ([120, 120] ++ hi16) 18 = [(97, [104, 105])] := by
  have f : ∀ n, n < 18 → n ≠ 2 → findTo ([120, 120] ++ hi16) (n + 1) = findTo ([120, 120] ++ hi16) n := fun n h1 h2 => by
    have hc : ∃ c r, ([120, 120] ++ hi16).drop n = c :: r ∧ c ≠ 254 := by
      obtain ⟨a, b⟩ := (by decide +kernel : ∀ n : Nat, n < 18 → n ≠ 2 → ((([120, 120] : List UInt8) ++ hi16).drop n).head? ≠ some (254 : UInt8) ∧ ((([120, 120] : List UInt8) ++ hi16).drop n) ≠ []) n h1 h2
      rcases hd : ([120, 120] ++ hi16).drop n with _ | ⟨c, r⟩
      · exact absurd hd b
      · rw [hd] at a
        exact ⟨c, r, by first | exact hd | rfl, fun e => a (by rw [e]; rfl)⟩
    obtain ⟨c, r, hd, hne⟩ := hc
    exact findTo_err (E := 44) (by rw [hd]; exact mark_next c r hne)
  have f2 : findTo ([120, 120] ++ hi16) 3 = findTo ([120, 120] ++ hi16) 2 ++ [(97, [104, 105])] := findTo_ok (by
    show nextL hi16 = _
    have := hi_next []
    rwa [List.append_nil] at this)
  rw [f 17 (by decide) (by decide), f 16 (by decide) (by decide), f 15 (by decide) (by decide), f 14 (by decide) (by decide), f 13 (by decide) (by decide), f 12 (by decide) (by decide), f 11 (by decide) (by decide), f 10 (by decide) (by decide),
    f 9 (by decide) (by decide), f 8 (by decide) (by decide), f 7 (by decide) (by decide), f 6 (by decide) (by decide), f 5 (by decide) (by decide), f 4 (by decide) (by decide), f 3 (by decide) (by decide), f2, f 1 (by decide) (by decide), f 0 (by decide) (by decide)]
  rfl

end Go.Proofs.YtollhemkjnkalaaDoor
