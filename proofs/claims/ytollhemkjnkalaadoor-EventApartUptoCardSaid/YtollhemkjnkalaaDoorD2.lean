/- Plain mathematics of decimal digits, and of words in a line. -/
import Derived.Test.YtollhemkjnkalaaDoorD1
import Derived.Lib.ItoaMem
import Derived.Lib.Join
import Derived.Lib.Split
import Derived.Lib.SplitLaws
import Derived.Lib.IndexBytes
namespace Go.Proofs.YtollhemkjnkalaaDoor
open Go.Lib
set_option linter.unusedVariables false
set_option maxRecDepth 100000

def forever : Int := 1099511627776
def decOf (n : Int) : List UInt8 := if 0 ≤ n ∧ n ≤ forever then decDigits n.toNat else []
def undecL (l : List UInt8) : Option Int := if l = [] ∨ (l.head? = some 48 ∧ l ≠ [48]) then none else numF decV 10 forever l 0

theorem head_app {l k : List UInt8} (h : l ≠ []) : (l ++ k).head? = l.head? := by
  cases l with
  | nil => exact absurd rfl h
  | cons a r => rfl
theorem decDigits_small {u : Nat} (h : u < 10) : decDigits u = [UInt8.ofNat (48 + u)] := by rw [decDigits, dif_pos h]
theorem decDigits_big {u : Nat} (h : ¬ u < 10) : decDigits u = decDigits (u / 10) ++ [UInt8.ofNat (48 + u % 10)] := by rw [decDigits, dif_neg h]
theorem decDigits_ne (u : Nat) : decDigits u ≠ [] := by
  by_cases h : u < 10
  · rw [decDigits_small h]; simp
  · rw [decDigits_big h]; simp
theorem numF_one (most : Int) (d n : Nat) (hd : d < 10) (h : ((10 * n + d : Nat) : Int) ≤ most) : numF decV 10 most [UInt8.ofNat (48 + d)] n = some ((10 * n + d : Nat) : Int) := by
  have hv := decV_dgB d hd
  have e : 10 * (n : Int) + (d : Int) = ((10 * n + d : Nat) : Int) := by omega
  rw [numF_next _ _ _ _ _ _ (by rw [hv]; omega) (by rw [hv, e]; omega), hv, e]
  rfl
theorem numF_decDigits (most : Nat) (u : Nat) (h : u ≤ most) : numF decV 10 most (decDigits u) 0 = some (u : Int) := by
  induction u using Nat.strongRecOn with
  | _ u ih =>
    by_cases h10 : u < 10
    · rw [decDigits_small h10]
      have := numF_one most u 0 h10 (by omega)
      simpa using this
    · rw [decDigits_big h10, numF_append, ih (u / 10) (by omega) (by omega), Option.bind_some, numF_one most (u % 10) (u / 10) (by omega) (by omega)]
      congr 1; omega
theorem decDigits_head (u : Nat) : (decDigits u).head? = some 48 → decDigits u = [48] := by
  induction u using Nat.strongRecOn with
  | _ u ih =>
    by_cases h10 : u < 10
    · rw [decDigits_small h10]
      intro h; simpa using h
    · rw [decDigits_big h10]
      intro h
      have hne := decDigits_ne (u / 10)
      rw [head_app hne] at h
      have := ih (u / 10) (by omega) h
      have hp := numF_decDigits (u / 10) (u / 10) (Nat.le_refl _)
      rw [this] at hp
      have e : numF decV 10 (u / 10 : Nat) [48] 0 = some 0 := by
        have := numF_one (u / 10 : Nat) 0 0 (by decide) (by omega)
        simpa using this
      rw [e] at hp
      have : (0 : Int) = ((u / 10 : Nat) : Int) := Option.some.inj hp
      omega
theorem decDigits_of_num (most : Int) : ∀ (k : Nat) (l : List UInt8), l.length = k → ∀ m, l ≠ [] → (l.head? = some 48 → l = [48]) → numF decV 10 most l 0 = some m → ∃ u : Nat, m = u ∧ decDigits u = l
  | 0, l, hk, m, hne, _, _ => absurd (List.eq_nil_of_length_eq_zero hk) hne
  | k + 1, l, hk, m, hne, hh, h => by
    obtain ⟨l', c, rfl⟩ : ∃ l' c, l = l' ++ [c] := ⟨l.dropLast, l.getLast hne, (List.dropLast_concat_getLast hne).symm⟩
    rw [numF_append] at h
    rw [List.length_append] at hk
    simp only [List.length_cons, List.length_nil] at hk
    cases hn : numF decV 10 most l' 0 with
    | none => rw [hn] at h; cases h
    | some n =>
      rw [hn, Option.bind_some] at h
      by_cases h1 : decV c < 0
      · rw [numF_bad _ _ _ _ _ _ h1] at h; cases h
      by_cases h2 : 10 * n + decV c > most
      · rw [numF_past _ _ _ _ _ _ h1 h2] at h; cases h
      rw [numF_next _ _ _ _ _ _ h1 h2] at h
      have hm : 10 * n + decV c = m := Option.some.inj h
      have hlt := decV_lt c
      have hc := ofNat_decV c (by omega)
      by_cases he : l' = []
      · subst he
        have : (0 : Int) = n := Option.some.inj hn
        subst this
        refine ⟨(decV c).toNat, by omega, ?_⟩
        rw [decDigits_small (by omega), hc]; rfl
      · have hh' : l'.head? = some 48 → l' = [48] := fun h48 => by
          have := hh (by rw [head_app he]; exact h48)
          have hl := congrArg List.length this
          simp at hl
          exact absurd hl he
        obtain ⟨u, rfl, hu⟩ := decDigits_of_num most k l' (by omega) n he hh' hn
        have hu0 : u ≠ 0 := fun e => by
          subst e
          rw [decDigits_small (by decide)] at hu
          have h48 : (l' ++ [c]).head? = some 48 := by rw [← hu]; rfl
          have := hh h48
          rw [← hu] at this
          simp at this
        refine ⟨10 * u + (decV c).toNat, by omega, ?_⟩
        rw [decDigits_big (by omega), show (10 * u + (decV c).toNat) / 10 = u by omega, show (10 * u + (decV c).toNat) % 10 = (decV c).toNat by omega, hu, hc]

theorem undec_decOf (n : Int) (h : 0 ≤ n) (h2 : n ≤ forever) : undecL (decOf n) = some n ∧ decOf n ≠ [] := by
  have hd : decOf n = decDigits n.toNat := by unfold decOf; rw [if_pos ⟨h, h2⟩]
  rw [hd]
  refine ⟨?_, decDigits_ne _⟩
  unfold undecL
  rw [if_neg (by rintro (e | ⟨e, e2⟩); exact decDigits_ne _ e; exact e2 (decDigits_head _ e))]
  have := numF_decDigits 1099511627776 n.toNat (by unfold forever at h2; omega)
  rw [show forever = ((1099511627776 : Nat) : Int) from rfl, this]
  congr 1; omega
theorem decOf_undec (l : List UInt8) (m : Int) (h : undecL l = some m) : decOf m = l ∧ 0 ≤ m ∧ m ≤ forever := by
  unfold undecL at h
  split at h
  · cases h
  · rename_i hn
    have hr := numF_range decV 10 forever (by decide) l 0 m (by decide) (by decide) h
    obtain ⟨u, rfl, hu⟩ := decDigits_of_num forever l.length l rfl m (fun e => hn (.inl e)) (fun e => Classical.byContradiction fun e2 => hn (.inr ⟨e, e2⟩)) h
    refine ⟨?_, hr.1, hr.2⟩
    unfold decOf
    rw [if_pos ⟨hr.1, hr.2⟩, Int.toNat_natCast, hu]
theorem undec_nil : undecL [] = none := by unfold undecL; rw [if_pos (.inl rfl)]

/-- the document's own way: all digits read, and held against what is written of the number -/
def refUndec (l : List UInt8) : Option Int :=
  if 1 ≤ l.length ∧ l.length ≤ 13 then (numF decV 10 9999999999999 l 0).bind fun n => if decOf n = l then some n else none else none
theorem nDigits_le : ∀ (k u : Nat), 1 ≤ k → u < 10 ^ k → nDigits u ≤ k
  | 0, _, h, _ => absurd h (by decide)
  | 1, u, _, h => by rw [nDigits_small (by simpa using h)]; exact Nat.le_refl _
  | k + 2, u, _, h => by
    by_cases h10 : u < 10
    · rw [nDigits_small h10]; omega
    · rw [nDigits_big h10]
      have := nDigits_le (k + 1) (u / 10) (by omega) (by rw [Nat.pow_succ] at h; omega)
      omega
theorem refUndec_eq (l : List UInt8) : refUndec l = undecL l := by
  cases hu : undecL l with
  | some m =>
    obtain ⟨hd, h0, h1⟩ := decOf_undec l m hu
    unfold forever at h1
    have hl : l = decDigits m.toNat := by rw [← hd]; unfold decOf forever; rw [if_pos ⟨h0, h1⟩]
    have hlen : l.length ≤ 13 := by
      rw [hl, decDigits_length]
      exact nDigits_le 13 _ (by decide) (by omega)
    have hne : 1 ≤ l.length := by
      rcases Nat.eq_zero_or_pos l.length with h | h
      · have := List.eq_nil_of_length_eq_zero h
        subst this
        rw [undec_nil] at hu; cases hu
      · exact h
    have hn : numF decV 10 forever l 0 = some m := by
      unfold undecL at hu
      split at hu
      · cases hu
      · exact hu
    unfold refUndec
    rw [if_pos ⟨hne, hlen⟩, numF_mono decV 10 forever 9999999999999 (by decide) l 0 m hn, Option.bind_some, if_pos hd]
  | none =>
    unfold refUndec
    split
    · rename_i hl
      cases hn : numF decV 10 9999999999999 l 0 with
      | none => rfl
      | some n =>
        rw [Option.bind_some]
        by_cases hd : decOf n = l
        · exfalso
          have hb : 0 ≤ n ∧ n ≤ forever := by
            by_cases hb : 0 ≤ n ∧ n ≤ forever
            · exact hb
            · unfold decOf at hd
              rw [if_neg hb] at hd
              subst hd
              simp at hl
          have := (undec_decOf n hb.1 hb.2).1
          rw [hd, hu] at this
          cases this
        · rw [if_neg hd]
    · rfl

/-! ### words -/
def isW (c : UInt8) : Bool := 33 ≤ c && c ≤ 126
def isWord (l : List UInt8) : Bool := !l.isEmpty && l.all isW
def lineOf (ls : List (List UInt8)) : List UInt8 := if ls.all isWord then Lib.join ls [32] else []
/-- cut at the blanks, with what is read of the first word so far -/
def cut : List UInt8 → List UInt8 → List (List UInt8)
  | w, [] => [w]
  | w, c :: r => if c = 32 then w :: cut [] r else cut (w ++ [c]) r
theorem cut_ne (w s : List UInt8) : cut w s ≠ [] := by
  induction s generalizing w with
  | nil => simp [cut]
  | cons c r ih =>
    unfold cut
    split
    · simp
    · exact ih _
theorem joinTail_cons (sep x : List UInt8) (r : List (List UInt8)) : Lib.joinTail sep (x :: r) = sep ++ x ++ Lib.joinTail sep r := by simp [Lib.joinTail]
theorem join_cut (w s : List UInt8) : Lib.join (cut w s) [32] = w ++ s := by
  induction s generalizing w with
  | nil => simp [cut, Lib.join_one]
  | cons c r ih =>
    unfold cut
    split
    · rename_i h
      subst h
      have := ih []
      match hc : cut [] r with
      | [] => exact absurd hc (cut_ne [] r)
      | x :: t =>
        rw [hc, Lib.join_cons] at this
        rw [Lib.join_cons, joinTail_cons]
        simp only [List.nil_append] at this
        rw [← this]; simp
    · rw [ih]; simp
theorem cut_word (w x s : List UInt8) (h : x.all isW = true) : cut w (x ++ s) = cut (w ++ x) s := by
  induction x generalizing w with
  | nil => simp
  | cons c r ih =>
    rw [List.all_cons, Bool.and_eq_true] at h
    have hc : c ≠ 32 := fun e => by subst e; exact absurd h.1 (by decide)
    rw [List.cons_append]
    conv => lhs; unfold cut
    rw [if_neg hc, ih _ h.2, List.append_assoc]; rfl
theorem cut_join (ls : List (List UInt8)) (hne : ls ≠ []) (h : ls.all isWord = true) : cut [] (Lib.join ls [32]) = ls := by
  have key : ∀ (r : List (List UInt8)) (x w : List UInt8), r.all isWord = true → x.all isW = true → cut w (x ++ Lib.joinTail [32] r) = (w ++ x) :: r := by
    intro r
    induction r with
    | nil =>
      intro x w _ hx
      rw [cut_word w x _ hx]; simp [Lib.joinTail, cut]
    | cons y r ih =>
      intro x w hr hx
      rw [List.all_cons, Bool.and_eq_true] at hr
      have hy : y.all isW = true := by have := hr.1; unfold isWord at this; rw [Bool.and_eq_true] at this; exact this.2
      rw [cut_word w x _ hx, joinTail_cons, List.append_assoc, List.singleton_append]
      conv => lhs; unfold cut
      rw [if_pos rfl, ih y [] hr.2 hy]; rfl
  match ls with
  | [] => exact absurd rfl hne
  | x :: r =>
    rw [List.all_cons, Bool.and_eq_true] at h
    have hx : x.all isW = true := by have := h.1; unfold isWord at this; rw [Bool.and_eq_true] at this; exact this.2
    rw [Lib.join_cons, key r x [] h.2 hx]; rfl
def splitOf (s : List UInt8) : List (List UInt8) := if (cut [] s).all isWord then cut [] s else []
theorem split_nil : splitOf [] = [] := by decide
theorem line_split (s : List UInt8) : (splitOf s = [] ∧ ((cut [] s).all isWord = false)) ∨ ((cut [] s).all isWord = true ∧ splitOf s = cut [] s ∧ lineOf (cut [] s) = s) := by
  unfold splitOf
  cases h : (cut [] s).all isWord
  · exact .inl ⟨rfl, rfl⟩
  · refine .inr ⟨rfl, rfl, ?_⟩
    unfold lineOf
    rw [if_pos h, join_cut]; rfl
/-- the document's own way: the words, if their line is the text -/
theorem refSplit_eq (s : List UInt8) (hs : s ≠ []) : (if lineOf (cut [] s) = s then cut [] s else []) = splitOf s := by
  rcases line_split s with ⟨h1, h2⟩ | ⟨h1, h2, h3⟩
  · rw [h1, if_neg]
    unfold lineOf
    rw [if_neg (by simp [h2])]
    exact fun e => hs e.symm
  · rw [h2, if_pos h3]

theorem cut_miss (w s : List UInt8) (h : Lib.indexByte s 32 = -1) : cut w s = [w ++ s] := by
  induction s generalizing w with
  | nil => simp [cut]
  | cons c r ih =>
    unfold Lib.indexByte at h
    have hge := Lib.indexByte_ge r 32
    by_cases hc : c == 32
    · rw [if_pos hc] at h; omega
    · rw [if_neg hc] at h
      have hr : Lib.indexByte r 32 = -1 := by
        by_cases hr : Lib.indexByte r 32 == -1
        · exact eq_of_beq hr
        · rw [if_neg hr] at h
          omega
      unfold cut
      rw [if_neg (by simpa using hc), ih _ hr, List.append_assoc]; rfl
theorem cut_hit (w s : List UInt8) (i : Nat) (h : Lib.indexByte s 32 = i) : cut w s = (w ++ s.take i) :: cut [] (s.drop (i + 1)) := by
  induction s generalizing w i with
  | nil => unfold Lib.indexByte at h; omega
  | cons c r ih =>
    unfold Lib.indexByte at h
    by_cases hc : c == 32
    · rw [if_pos hc] at h
      have : i = 0 := by omega
      subst this
      have e := eq_of_beq hc
      conv => lhs; unfold cut
      rw [if_pos e]; simp
    · rw [if_neg hc] at h
      by_cases hr : Lib.indexByte r 32 == -1
      · rw [if_pos hr] at h; omega
      · rw [if_neg hr] at h
        have hge := Lib.indexByte_ge r 32
        have hne : Lib.indexByte r 32 ≠ -1 := fun e => hr (by rw [e]; rfl)
        obtain ⟨j, rfl⟩ : ∃ j, i = j + 1 := ⟨i - 1, by omega⟩
        conv => lhs; unfold cut
        rw [if_neg (by simpa using hc), ih (w ++ [c]) j (by omega)]
        simp
def blank : ByteArray := ⟨#[32]⟩
theorem splitB_cut : ∀ (k : Nat) (s : ByteArray), Lib.countB s blank = k → (Lib.splitB blank 0 k s).map (fun b => b.data.toList) = cut [] s.data.toList
  | 0, s, hk => by
    rcases Lib.indexB_cases s blank with hix | ⟨i, hix, _⟩
    · have h : Lib.indexByte s.data.toList 32 = -1 := by rw [← Lib.index_one]; exact hix
      rw [Lib.splitB_zero, cut_miss [] _ h]; rfl
    · rw [Lib.countB_hit s blank i (by decide) hix] at hk; omega
  | k + 1, s, hk => by
    rcases Lib.indexB_cases s blank with hix | ⟨i, hix, _⟩
    · rw [Lib.countB_miss s blank hix] at hk; omega
    · have h : Lib.indexByte s.data.toList 32 = i := by rw [← Lib.index_one]; exact hix
      rw [Lib.splitB_hit blank 0 k s i hix, List.map_cons, splitB_cut k _ (by rw [Lib.countB_hit s blank i (by decide) hix] at hk; omega), cut_hit [] _ i h, Lib.extract_from_zero, Lib.extract_to_end]
      rfl
end Go.Proofs.YtollhemkjnkalaaDoor
