/- Texts of mine, one behind the other, of each what is wanted. -/
import Derived.Test.YtapacckmgmdnoaaGreatU00
import Derived.Test.YtapacckmgmdnoaaGreatShelf
import Derived.Test.YtapacckmgmdnoaaGreatRows
import Derived.Test.YtapacckmgmdnoaaGreatU01
import Derived.Test.YtapacckmgmdnoaaGreatU02
import Derived.Test.YtapacckmgmdnoaaGreatU03
import Derived.Test.YtapacckmgmdnoaaGreatU04
import Derived.Test.YtapacckmgmdnoaaGreatU07
import Derived.Test.YtapacckmgmdnoaaGreatU11
import Derived.Test.YtapacckmgmdnoaaGreatU14
import Derived.Test.YtapacckmgmdnoaaGreatU15
import Derived.Test.YtapacckmgmdnoaaGreatU16
import Derived.Test.YtapacckmgmdnoaaGreatU18
import Derived.Test.YtapacckmgmdnoaaGreatU23
import Derived.Test.YtapacckmgmdnoaaGreatU24
import Derived.Test.YtapacckmgmdnoaaGreatU30
import Derived.Test.YtapacckmgmdnoaaGreatU31
import Derived.Test.YtapacckmgmdnoaaGreatU35
import Derived.Test.YtapacckmgmdnoaaGreatU36
import Derived.Test.YtapacckmgmdnoaaGreatTQ
namespace Go.Proofs.YtapacckmgmdnoaaGreat
open Go.RowKit
set_option linter.unusedVariables false
set_option maxRecDepth 100000
theorem own_slice {w : World} {B e n : Nat} {v : Value} {xs : List Value} (h : w.ownsRow B e 1 v n xs) : ∃ a c, v = .slice a n c ∧ n ≤ c ∧ c ≤ maxLen ∧ Sl w a xs ∧ (∀ b o, a = some ⟨b, o, none⟩ → B ≤ b) ∧ (a = none → c = 0) := by
 rcases h.2 with ⟨rfl, rfl⟩ | ⟨g, cap, cur, rfl, hg, hh, hn, hc, hsz, ht⟩
 ·refine ⟨none, 0, rfl, Nat.le_refl _, by unfold maxLen; omega, ?_, fun b o e => (by cases e), fun _ => rfl⟩
  have : xs = [] := List.eq_nil_of_length_eq_zero (by simpa using h.1)
  subst this
  exact Sl.nil _ _
 ·refine ⟨_, cap, rfl, hn, hc, fun k hk => ⟨g, 0, rfl, ?_, ?_⟩, fun b o e => (by cases e; exact hg), fun e => by cases e⟩
  ·rcases Nat.lt_or_ge g w.heap.size with h1 | h1
   ·exact h1
   ·rw [Array.getElem?_eq_none h1] at hh; cases hh
  ·have hl := h.1
   simp only [Nat.mul_one] at hl ht
   rw [cell_of_row w g (0 + k) cur e (0, 0) hh, Nat.zero_add]
   subst ht
   simp at hk
   simp [Array.getElem?_eq_getElem (show k < cur.size by omega)]
end Go.Proofs.YtapacckmgmdnoaaGreat
namespace Go.Proofs.YtapacckmgmdnoaaGreat
set_option linter.unusedVariables false
set_option maxRecDepth 100000
def glueS (l : List SpM) (s : SpM) : List SpM :=
 match l.getLast? with
 | none => l ++ [s]
 | some u => if u.t = s.f then l.dropLast ++ [⟨u.f, s.t⟩] else l ++ [s]
theorem glueS_nil (s : SpM) : glueS [] s = [s] := rfl
theorem glueS_snoc (l : List SpM) (u s : SpM) : glueS (l ++ [u]) s = if u.t = s.f then l ++ [⟨u.f, s.t⟩] else l ++ [u] ++ [s] := by
 unfold glueS
 rw [List.getLast?_append]
 simp
def Rise (e : List Int) : Prop := e.Pairwise (· < ·)
structure GlueI (P : Int → Prop) (c : Int) (r : List SpM) : Prop where
 norm : NormL r
 has : ∀ x, HasL r x ↔ P x ∧ x < c
theorem GlueI.low {P : Int → Prop} {c : Int} {r : List SpM} (h : GlueI P c r) : ∀ u ∈ r, u.t ≤ c := fun u hu => by
 have h1 := h.norm.2 u hu
 have := ((h.has (u.t - 1)).1 ⟨u, hu, by omega, by omega⟩).2
 omega
theorem GlueI.start {P : Int → Prop} {c : Int} (h : ∀ x, P x → c ≤ x) : GlueI P c [] :=
 ⟨NormL.nil, fun x => ⟨fun h => absurd h HasL.nil, fun ⟨h1, h2⟩ => by have := h x h1; omega⟩⟩
theorem GlueI.skip {P : Int → Prop} {c d : Int} {r : List SpM} (h : GlueI P c r) (hcd : c < d) (hc : ∀ x, c ≤ x → x < d → ¬ P x) : GlueI P d r :=
 ⟨h.norm, fun x => by
  rw [h.has x]
  constructor
  ·rintro ⟨h1, h2⟩; exact ⟨h1, by omega⟩
  ·rintro ⟨h1, h2⟩
   refine ⟨h1, ?_⟩
   rcases Int.lt_or_le x c with h3 | h3
   ·exact h3
   ·exact absurd h1 (hc x h3 h2)⟩
theorem GlueI.step {P : Int → Prop} {c d : Int} {r : List SpM} (h : GlueI P c r) (hcd : c < d) (hc : ∀ x, c ≤ x → x < d → P x) : GlueI P d (glueS r ⟨c, d⟩) := by
 have hlow := h.low
 have key : ∀ x, (P x ∧ x < c) ∨ (c ≤ x ∧ x < d) ↔ P x ∧ x < d := fun x => by
  constructor
  ·rintro (⟨h1, h2⟩ | ⟨h1, h2⟩)
   ·exact ⟨h1, by omega⟩
   ·exact ⟨hc x h1 h2, h2⟩
  ·rintro ⟨h1, h2⟩
   rcases Int.lt_or_le x c with h3 | h3
   ·exact .inl ⟨h1, h3⟩
   ·exact .inr ⟨h3, h2⟩
 rcases List.eq_nil_or_concat r with rfl | ⟨l, u, rfl⟩
 ·rw [glueS_nil]
  refine ⟨⟨⟨Int.le_of_lt hcd, fun u hu => (by cases hu), trivial⟩, fun u hu => by rw [List.mem_singleton.1 hu]; exact hcd⟩, fun x => ?_⟩
  rw [hasL_one, ← key x, ← h.has x]
  exact ⟨.inr, fun h => h.resolve_left HasL.nil⟩
 ·rw [List.concat_eq_append] at *
  rw [glueS_snoc]
  obtain ⟨n1, n2, n3⟩ := normL_front h.norm
  have hu := hlow u (by simp)
  split
  ·rename_i he
   have he : u.t = c := he
   refine ⟨normL_snoc n1 (by show u.f < d; omega) n3, fun x => ?_⟩
   rw [← key x, ← h.has x, hasL_append, hasL_append, hasL_one, hasL_one]
   show HasL l x ∨ (u.f ≤ x ∧ x < d) ↔ (HasL l x ∨ u.f ≤ x ∧ x < u.t) ∨ c ≤ x ∧ x < d
   constructor
   ·rintro (h1 | h1)
    ·exact .inl (.inl h1)
    ·rcases Int.lt_or_le x c with h2 | h2
     ·exact .inl (.inr ⟨h1.1, by omega⟩)
     ·exact .inr ⟨h2, h1.2⟩
   ·rintro ((h1 | h1) | h1)
    ·exact .inl h1
    ·exact .inr ⟨h1.1, by omega⟩
    ·exact .inr ⟨by omega, h1.2⟩
  ·rename_i hne
   have hne : ¬ u.t = c := hne
   refine ⟨normL_snoc h.norm hcd (fun v hv => ?_), fun x => ?_⟩
   ·show v.t < c
    rcases List.mem_append.1 hv with hv | hv
    ·have := n3 v hv; omega
    ·rw [List.mem_singleton.1 hv]; omega
   ·rw [hasL_append (m := [_]), h.has x, hasL_one]
    exact key x
theorem GlueI.done {P : Int → Prop} {c : Int} {r : List SpM} (h : GlueI P c r) (hP : ∀ x, P x → x < c) : IsSet P r :=
 ⟨h.norm, fun x => (h.has x).trans ⟨fun h => h.1, fun h => ⟨h, hP x h⟩⟩⟩
structure PutI (l : List Int) (n : Int) (k : Nat) (out : List Int) (done : Bool) : Prop where
 rise : Rise out
 mem : ∀ x, x ∈ out ↔ x ∈ l.take k ∨ (done = true ∧ x = n)
 yet : done = false → ∀ x ∈ l.take k, x < n
 past : done = true → ∃ x ∈ l.take k, n ≤ x
theorem PutI.start (l : List Int) (n : Int) : PutI l n 0 [] false :=
 ⟨List.Pairwise.nil, fun x => by simp, fun _ x hx => by simp at hx, fun h => by cases h⟩
theorem rise_snoc {l : List Int} {x : Int} (h : Rise l) (hx : ∀ y ∈ l, y < x) : Rise (l ++ [x]) :=
 List.pairwise_append.2 ⟨h, List.pairwise_singleton _ _, fun a ha b hb => by rw [List.mem_singleton.1 hb]; exact hx a ha⟩
theorem take_mem {l : List Int} {k : Nat} (h : k < l.length) (x : Int) : x ∈ l.take (k + 1) ↔ x ∈ l.take k ∨ x = l[k] := by
 rw [List.take_succ_eq_append_getElem h, List.mem_append, List.mem_singleton]
theorem rise_at {l : List Int} (h : Rise l) {k : Nat} (hk : k < l.length) : ∀ y ∈ l.take k, y < l[k] := fun y hy => by
 have h2 : Rise (l.take (k + 1)) := h.sublist (List.take_sublist _ _)
 rw [List.take_succ_eq_append_getElem hk] at h2
 exact (List.pairwise_append.1 h2).2.2 y hy l[k] (by simp)
theorem PutI.plain {l : List Int} {n : Int} {k : Nat} {out : List Int} {done : Bool} (h : PutI l n k out done) (hr : Rise l) (hk : k < l.length) (hd : done = true ∨ l[k] < n ∨ l[k] = n) :
  PutI l n (k + 1) (out ++ [l[k]]) (done || decide (l[k] = n)) := by
 have hlt := rise_at hr hk
 have hout : ∀ y ∈ out, y < l[k] := fun y hy => by
  rcases (h.mem y).1 hy with h1 | ⟨h1, h2⟩
  ·exact hlt y h1
  ·obtain ⟨z, hz, h3⟩ := h.past h1
   have := hlt z hz
   omega
 refine ⟨rise_snoc h.rise hout, fun x => ?_, fun hf x hx => ?_, fun ht => ?_⟩
 ·rw [List.mem_append, h.mem x, take_mem hk, List.mem_singleton]
  cases done with
  | true => simp; exact ⟨fun h => by rcases h with (h | h) | h <;> simp [h], fun h => by rcases h with (h | h) | h <;> simp [h]⟩
  | false =>
   by_cases he : l[k] = n
   ·simp only [Bool.false_or, decide_eq_true he, true_and, Bool.false_eq_true, false_and, or_false]
    constructor
    ·rintro (h1 | h1)
     ·exact .inl (.inl h1)
     ·exact .inl (.inr h1)
    ·rintro ((h1 | h1) | h1)
     ·exact .inl h1
     ·exact .inr h1
     ·exact .inr (by rw [h1, he])
   ·simp [he]
 ·cases done with
  | true => simp at hf
  | false =>
   simp only [Bool.false_or, decide_eq_false_iff_not] at hf
   rcases (take_mem hk x).1 hx with h1 | h1
   ·exact h.yet rfl x h1
   ·rw [h1]; rcases hd with h2 | h2 | h2
    ·cases h2
    ·exact h2
    ·exact absurd h2 hf
 ·cases done with
  | true =>
   obtain ⟨z, hz, h3⟩ := h.past rfl
   exact ⟨z, (take_mem hk z).2 (.inl hz), h3⟩
  | false =>
   simp only [Bool.false_or, decide_eq_true_eq] at ht
   exact ⟨l[k], (take_mem hk _).2 (.inr rfl), by omega⟩
theorem PutI.put {l : List Int} {n : Int} {k : Nat} {out : List Int} (h : PutI l n k out false) (hr : Rise l) (hk : k < l.length) (hd : n < l[k]) :
  PutI l n (k + 1) (out ++ [n] ++ [l[k]]) true := by
 have hlt := rise_at hr hk
 have hout : ∀ y ∈ out, y < n := fun y hy => by
  rcases (h.mem y).1 hy with h1 | ⟨h1, h2⟩
  ·exact h.yet rfl y h1
  ·cases h1
 refine ⟨rise_snoc (rise_snoc h.rise hout) (fun y hy => ?_), fun x => ?_, fun hf => (by cases hf), fun _ => ⟨l[k], (take_mem hk _).2 (.inr rfl), by omega⟩⟩
 ·rcases List.mem_append.1 hy with h1 | h1
  ·have := hout y h1; omega
  ·rw [List.mem_singleton.1 h1]; exact hd
 ·rw [List.mem_append, List.mem_append, h.mem x, take_mem hk, List.mem_singleton, List.mem_singleton]
  simp only [Bool.false_eq_true, false_and, or_false, true_and]
  constructor
  ·rintro ((h1 | h1) | h1)
   ·exact .inl (.inl h1)
   ·exact .inr h1
   ·exact .inl (.inr h1)
  ·rintro ((h1 | h1) | h1)
   ·exact .inl (.inl h1)
   ·exact .inr h1
   ·exact .inl (.inr h1)
theorem PutI.done {l : List Int} {n : Int} {out : List Int} {done : Bool} (h : PutI l n l.length out done) : Rise (if done then out else out ++ [n]) ∧ ∀ x, x ∈ (if done then out else out ++ [n]) ↔ x ∈ l ∨ x = n := by
 have ht : l.take l.length = l := List.take_of_length_le (Nat.le_refl _)
 cases done with
 | true =>
  refine ⟨h.rise, fun x => ?_⟩
  have := h.mem x
  rw [ht] at this
  simpa using this
 | false =>
  have hy := h.yet rfl
  rw [ht] at hy
  refine ⟨rise_snoc h.rise (fun y hm => ?_), fun x => ?_⟩
  ·have := (h.mem y).1 hm
   rw [ht] at this
   simp only [Bool.false_eq_true, false_and, or_false] at this
   exact hy y this
  ·have := h.mem x
   rw [ht] at this
   simp only [Bool.false_eq_true, false_and, or_false] at this
   simp [this]
def IsEnds (l : List SpM) (e : List Int) : Prop := Rise e ∧ ∀ x, x ∈ e ↔ ∃ s ∈ l, x = s.f ∨ x = s.t
theorem IsEnds.nil : IsEnds [] [] := ⟨List.Pairwise.nil, fun x => by simp⟩
theorem IsEnds.snoc {l : List SpM} {s : SpM} {e e1 e2 : List Int} (h : IsEnds l e) (h1 : Rise e1 ∧ ∀ x, x ∈ e1 ↔ x ∈ e ∨ x = s.f) (h2 : Rise e2 ∧ ∀ x, x ∈ e2 ↔ x ∈ e1 ∨ x = s.t) : IsEnds (l ++ [s]) e2 := by
 refine ⟨h2.1, fun x => ?_⟩
 rw [h2.2, h1.2, h.2]
 constructor
 ·rintro ((⟨u, hu, h3⟩ | h3) | h3)
  ·exact ⟨u, List.mem_append_left _ hu, h3⟩
  ·exact ⟨s, by simp, .inl h3⟩
  ·exact ⟨s, by simp, .inr h3⟩
 ·rintro ⟨u, hu, h3⟩
  rcases List.mem_append.1 hu with hu | hu
  ·exact .inl (.inl ⟨u, hu, h3⟩)
  ·rw [List.mem_singleton.1 hu] at h3
   rcases h3 with h3 | h3
   ·exact .inl (.inr h3)
   ·exact .inr h3
theorem rise_between {e : List Int} (h : Rise e) {k : Nat} (hk : k + 1 < e.length) {y : Int} (hy : y ∈ e) : y ≤ e[k] ∨ e[k + 1] ≤ y := by
 obtain ⟨i, hi, rfl⟩ := List.getElem_of_mem hy
 have hp := List.pairwise_iff_getElem.1 h
 rcases Nat.lt_or_ge i (k + 1) with h1 | h1
 ·rcases Nat.lt_or_ge i k with h2 | h2
  ·exact .inl (Int.le_of_lt (hp i k (by omega) (by omega) h2))
  ·obtain rfl : i = k := by omega
   exact .inl (Int.le_refl _)
 ·rcases Nat.lt_or_ge (k + 1) i with h2 | h2
  ·exact .inr (Int.le_of_lt (hp (k + 1) i (by omega) (by omega) h2))
  ·obtain rfl : i = k + 1 := by omega
   exact .inr (Int.le_refl _)
theorem IsEnds.cell {l m : List SpM} {e : List Int} (h : IsEnds l e) (hm : ∀ s ∈ m, s ∈ l) {k : Nat} (hk : k + 1 < e.length) {x : Int} (h1 : e[k] ≤ x) (h2 : x < e[k + 1]) : HasL m x ↔ HasL m e[k] := by
 constructor
 ·rintro ⟨s, hs, h3, h4⟩
  refine ⟨s, hs, ?_, by omega⟩
  rcases rise_between h.1 hk ((h.2 s.f).2 ⟨s, hm s hs, .inl rfl⟩) with h5 | h5
  ·exact h5
  ·omega
 ·rintro ⟨s, hs, h3, h4⟩
  refine ⟨s, hs, by omega, ?_⟩
  rcases rise_between h.1 hk ((h.2 s.t).2 ⟨s, hm s hs, .inr rfl⟩) with h5 | h5
  ·omega
  ·omega
theorem IsEnds.first {l m : List SpM} {e : List Int} (h : IsEnds l e) (hm : ∀ s ∈ m, s ∈ l) {x : Int} (hx : HasL m x) : ∃ h0 : 0 < e.length, e[0] ≤ x := by
 obtain ⟨s, hs, h3, h4⟩ := hx
 obtain ⟨i, hi, he⟩ := List.getElem_of_mem ((h.2 s.f).2 ⟨s, hm s hs, .inl rfl⟩)
 refine ⟨by omega, ?_⟩
 rcases Nat.eq_zero_or_pos i with h5 | h5
 ·subst h5; omega
 ·have := List.pairwise_iff_getElem.1 h.1 0 i (by omega) hi h5
  omega
theorem IsEnds.last {l m : List SpM} {e : List Int} (h : IsEnds l e) (hm : ∀ s ∈ m, s ∈ l) {x : Int} (hx : HasL m x) {k : Nat} (hk : k + 1 = e.length) : x < e[k] := by
 obtain ⟨s, hs, h3, h4⟩ := hx
 obtain ⟨i, hi, he⟩ := List.getElem_of_mem ((h.2 s.t).2 ⟨s, hm s hs, .inr rfl⟩)
 rcases Nat.lt_or_ge i k with h5 | h5
 ·have := List.pairwise_iff_getElem.1 h.1 i k hi (by omega) h5
  omega
 ·obtain rfl : i = k := by omega
  omega
theorem gate_doc {s : SaM} {w u : ByteArray} {f t : Int} {q r : List SpM} (h1 : IsSet (fun x => HasL (perS s.su w u) x ∧ HasL [⟨f, t⟩] x) q) (h2 : IsSet (fun x => HasL q x ∧ HasL [⟨s.hor, 1099511627776⟩] x) r) : IsSet (gateP s w u f t) r :=
 h2.congr fun x => by
  rw [h1.2, has_one]
  show ((HasL (perS s.su w u) x ∧ HasL [⟨f, t⟩] x) ∧ s.hor ≤ x ∧ x < 1099511627776) ↔ _
  rw [has_one]
  unfold gateP
  dsimp only
  constructor
  ·rintro ⟨⟨k1, k2⟩, k3⟩; exact ⟨k1, k2, k3⟩
  ·rintro ⟨k1, k2, k3⟩; exact ⟨⟨k1, k2⟩, k3⟩
theorem range_blind {s s' : SaM} {w u : ByteArray} {f t now : Int} {x : StM} {a : List StM} (hp : s'.su = s.su) (hh : s'.hor = s.hor) (ho : s'.op = s.op) (hu : ofU s'.us u = addS (ofU s.us u) x)
  (hx : ∀ y, x.f ≤ y → y < x.t → ¬ gateP s w u f t y) (ha : IsRange s' w u f t now a) : IsRange s w u f t now a := by
 have he : ∀ y, gateP s' w u f t y ↔ gateP s w u f t y := fun y => by unfold gateP; rw [hp, hh]
 obtain ⟨r, k1, k2, k3⟩ := cut_perm (stays_perm s' u now) (IsCut.congr ha he)
 refine cut_perm (stays_perm s u now).symm ⟨r, k1, k2.trans ?_, k3⟩
 rw [raw_append, raw_append, ho, hu]
 refine List.Perm.append_left _ ((raw_perm (addS_perm _ x) r).trans (List.Perm.of_eq ?_))
 split
 ·rw [show rawS (x :: ofU s.us u) r = piecesS x r ++ rawS (ofU s.us u) r from List.flatMap_cons, pieces_out k1 hx]; rfl
 ·rfl
end Go.Proofs.YtapacckmgmdnoaaGreat
namespace Go.Proofs.YtapacckmgmdnoaaGreat
open Go.RowKit
set_option linter.unusedVariables false
set_option maxRecDepth 100000
set_option maxRecDepth 100000
theorem sps_append (l m : List SpM) : sps (l ++ m) = sps l ++ sps m := by simp [sps]
theorem infoSpanR : (Tryz.prog.info? 106).map (fun i => (i.zero, i.size, i.bytes)) = some (some (.agg #[.int .i64 0, .int .i64 0]), 2, 16) := by kernel_rfl
theorem infoInt : (Tryz.prog.info? 3).map (fun i => (i.zero, i.size, i.bytes)) = some (some (.int .i64 0), 1, 8) := by kernel_rfl
theorem ints_snoc (l : List Int) (n : Int) : ints (l ++ [n]) = ints l ++ [.int .i64 n] := by simp [ints]
theorem one_int (n : Int) : ∀ u ∈ [Value.int .i64 n], u.oneCell' = true := fun u hu => by rw [List.mem_singleton.1 hu]; rfl
set_option maxHeartbeats 4000000 in
theorem put_any (a : Option Addr) (c : Nat) (l : List Int) (n : Int) (w : World) (hr : Sl w a (ints l)) (hrise : Rise l) (hl : l.length ≤ 1000000) :
  Calls Tryz.prog 211 #[.slice a l.length c, .int .i64 n] w fun e w' => ∃ (v : Value) (r : List Int), e = .returned v ∧ Rise r ∧ (∀ x, x ∈ r ↔ x ∈ l ∨ x = n) ∧ r.length ≤ l.length + 1 ∧ w'.ownsRow w.heap.size 3 1 v r.length (ints r) ∧ Below w.heap.size w w' := by
 obtain ⟨i0, hi, hz0, hz1, hz2⟩ := info_parts infoInt
 have HR := Lib.hid hr
 have HRS := Lib.hid hrise
 clear hr hrise
 go_enter Tryz.func211, Tryz.ntmps211
 go_wp2
 go_loopw [5, 6, 7] (fun v d i wr => ∃ (j : Nat) (out : List Int) (dn : Bool), j ≤ l.length ∧ i = .int .i64 j ∧ d = .bool dn ∧ out.length ≤ j + (if dn then 1 else 0) ∧ Hid (PutI l n j out dn) ∧ Hid (wr.ownsRow w.heap.size 3 1 v out.length (ints out)) ∧ Hid (Below w.heap.size w wr)) (fun _ _ i _ => l.length - (intOf i).toNat)
 case atStart => exact ⟨0, [], false, by omega, rfl, rfl, by simp, PutI.start l n, ⟨rfl, .inl ⟨rfl, rfl⟩⟩, Below.refl _ _⟩
 case round =>
  obtain ⟨j, out, dn, hj, rfl, rfl, hol, HI, HO, HB⟩ := hrel
  by_cases hjl : j < l.length
  ·obtain ⟨b, off, rfl, hbl, hc0⟩ := ints_at (HR.out.below HB.out) hjl
   have HPL := Lib.hid (fun hd => HI.out.plain HRS.out hjl hd)
   have HPU : Hid (dn = false → n < l[j] → PutI l n (j + 1) (out ++ [n] ++ [l[j]]) true) := fun h1 h2 => by
    have h := HI.out
    rw [h1] at h
    exact h.put HRS.out hjl h2
   have HCL := Lib.hid (fun W (hW : Below w.heap.size w W) => ints_at (HR.out.below hW) hjl)
   generalize hx : l[j] = x at *
   have hol2 : out.length ≤ j + 1 := by cases dn <;> simp at hol <;> omega
   have HA1 := Lib.hid ((Below.refl wr.heap.size wr).alloc (Nat.le_refl _) (.cells #[.int .i64 x] 3))
   have HO1 := Lib.hid (own_below HO.out HA1.out)
   have HB1 := Lib.hid (HB.out.trans (HA1.out.mono HB.out.size))
   have HS1 := Lib.hid HB1.out.size
   by_cases h1 : x = n
   ·have he : (x == n) = true := beq_iff_eq.2 h1
    have HI2 := Lib.hid (HPL.out (.inr (.inr h1)))
    have hdn : (dn || decide (x = n)) = true := by rw [decide_eq_true h1, Bool.or_true]
    rw [hdn] at HI2
    clear HPL HPU HI hdn HCL
    subst h1
    go_wp2_with (at_builtin; refine wpList_append_own _ rfl (.tmp 34) (.tmp 39) 222 rfl w.heap.size 3 i0 _ 1 8 Tryz.underlying222 hi hz0 hz1 hz2 rfl (by decide) _ _ _ rfl HO1.out ⟨wr.heap.size, 0, none⟩ 1 1 [.int .i64 x] rfl rfl (news_at _ _ _ _ rfl) (one_int _) (by unfold maxLen; omega) (by omega) HS1.out ?_; intro v' w2 hown' hgrow hiff)
    have HB3 := Lib.hid (app_below HB1.out HS1.out HO1.out hgrow)
    have HO3 : Hid (w2.ownsRow w.heap.size 3 1 v' (out ++ [x]).length (ints (out ++ [x]))) := by unfold Hid; rw [ints_snoc, List.length_append]; exact hown'
    clear hown' hgrow hiff
    go_wp2
    go_roundw
    case rel => exact ⟨j + 1, out ++ [x], true, by omega, by go_num, rfl, by rw [List.length_append]; simp; omega, HI2, HO3, HB3⟩
    case measure => simp [intOf]; omega
   ·have he : (x == n) = false := beq_eq_false_iff_ne.2 h1
    by_cases h2 : dn = true ∨ ¬ n < x
    ·have HI2 := Lib.hid (HPL.out (by rcases h2 with h2 | h2; exact .inl h2; exact .inr (.inl (by omega))))
     have hdn : (dn || decide (x = n)) = dn := by rw [decide_eq_false h1, Bool.or_false]
     rw [hdn] at HI2
     clear HPL HPU HI hdn HCL
     cases dn with
     | true =>
      go_wp2_with (at_builtin; refine wpList_append_own _ rfl (.tmp 34) (.tmp 39) 222 rfl w.heap.size 3 i0 _ 1 8 Tryz.underlying222 hi hz0 hz1 hz2 rfl (by decide) _ _ _ rfl HO1.out ⟨wr.heap.size, 0, none⟩ 1 1 [.int .i64 x] rfl rfl (news_at _ _ _ _ rfl) (one_int _) (by unfold maxLen; omega) (by omega) HS1.out ?_; intro v' w2 hown' hgrow hiff)
      have HB3 := Lib.hid (app_below HB1.out HS1.out HO1.out hgrow)
      have HO3 : Hid (w2.ownsRow w.heap.size 3 1 v' (out ++ [x]).length (ints (out ++ [x]))) := by unfold Hid; rw [ints_snoc, List.length_append]; exact hown'
      clear hown' hgrow hiff
      go_wp2
      go_roundw
      case rel => exact ⟨j + 1, out ++ [x], true, by omega, by go_num, rfl, by rw [List.length_append]; simp at hol ⊢; omega, HI2, HO3, HB3⟩
      case measure => simp [intOf]; omega
     | false =>
      have h3 : ¬ n < x := h2.resolve_left (by decide)
      clear h2
      go_wp2_with (at_builtin; refine wpList_append_own _ rfl (.tmp 34) (.tmp 39) 222 rfl w.heap.size 3 i0 _ 1 8 Tryz.underlying222 hi hz0 hz1 hz2 rfl (by decide) _ _ _ rfl HO1.out ⟨wr.heap.size, 0, none⟩ 1 1 [.int .i64 x] rfl rfl (news_at _ _ _ _ rfl) (one_int _) (by unfold maxLen; omega) (by omega) HS1.out ?_; intro v' w2 hown' hgrow hiff)
      have HB3 := Lib.hid (app_below HB1.out HS1.out HO1.out hgrow)
      have HO3 : Hid (w2.ownsRow w.heap.size 3 1 v' (out ++ [x]).length (ints (out ++ [x]))) := by unfold Hid; rw [ints_snoc, List.length_append]; exact hown'
      clear hown' hgrow hiff
      go_wp2
      go_roundw
      case rel => exact ⟨j + 1, out ++ [x], false, by omega, by go_num, rfl, by rw [List.length_append]; simp at hol ⊢; omega, HI2, HO3, HB3⟩
      case measure => simp [intOf]; omega
    ·have h3 : dn = false := by cases dn; rfl; exact absurd (.inl rfl) h2
     have h4 : n < x := by
      rcases Int.lt_or_le n x with h | h
      ·exact h
      ·exact absurd (.inr (by omega)) h2
     have HI2 := Lib.hid (HPU.out h3 h4)
     subst h3
     clear HPL HPU HI h2
     have HA2 := Lib.hid ((Below.refl wr.heap.size wr).alloc (Nat.le_refl _) (.cells #[.int .i64 n] 3))
     have HO2 := Lib.hid (own_below HO.out HA2.out)
     have HB2 := Lib.hid (HB.out.trans (HA2.out.mono HB.out.size))
     have HS2 := Lib.hid HB2.out.size
     have hol3 : out.length ≤ j := by simpa using hol
     go_wp2_with (first | (at_builtin; (refine wpList_append_own _ rfl (.tmp 30) (.tmp 32) 222 rfl w.heap.size 3 i0 _ 1 8 Tryz.underlying222 hi hz0 hz1 hz2 rfl (by decide) _ _ _ rfl HO2.out ⟨wr.heap.size, 0, none⟩ 1 1 [.int .i64 n] rfl rfl (news_at _ _ _ _ rfl) (one_int _) (by unfold maxLen; omega) (by omega) HS2.out ?_; intro v' w2 hown' hgrow hiff; have HB3 := Lib.hid (app_below HB2.out HS2.out HO2.out hgrow); have HO3 := Lib.hid hown'; clear hown' hgrow hiff; obtain ⟨_, _, hee, _, hc0⟩ := HCL.out _ HB3.out; cases hee; have HA4 := Lib.hid ((Below.refl w2.heap.size w2).alloc (Nat.le_refl _) (.cells #[.int .i64 x] 3)); have HO4 := Lib.hid (own_below HO3.out HA4.out); have HB4 := Lib.hid (HB3.out.trans (HA4.out.mono HB3.out.size)); have HS4 := Lib.hid HB4.out.size)) | (at_builtin; (refine wpList_append_own _ rfl (.tmp 34) (.tmp 39) 222 rfl w.heap.size 3 i0 _ 1 8 Tryz.underlying222 hi hz0 hz1 hz2 rfl (by decide) _ _ _ rfl HO4.out ⟨w2.heap.size, 0, none⟩ 1 1 [.int .i64 x] rfl rfl (news_at _ _ _ _ rfl) (one_int _) (by unfold maxLen; omega) (by omega) HS4.out ?_; intro v5 w5 hown' hgrow hiff)))
     have HB5 := Lib.hid (app_below HB4.out HS4.out HO4.out hgrow)
     have HO5 : Hid (w5.ownsRow w.heap.size 3 1 v5 (out ++ [n] ++ [x]).length (ints (out ++ [n] ++ [x]))) := by unfold Hid; rw [ints_snoc, ints_snoc, List.length_append, List.length_append]; exact hown'
     clear hown' hgrow hiff
     go_wp2
     go_roundw
     case rel => exact ⟨j + 1, out ++ [n] ++ [x], true, by omega, by go_num, rfl, by rw [List.length_append, List.length_append]; simp; omega, HI2, HO5, HB5⟩
     case measure => simp [intOf]; omega
  ·obtain rfl : j = l.length := by omega
   obtain ⟨hr1, hr2⟩ := HI.out.done
   have HR1 := Lib.hid hr1
   have HR2 := Lib.hid hr2
   clear hr1 hr2
   cases dn with
   | true =>
    go_wp2
    go_ret
    first | exact ⟨_, out, rfl, HR1.out, HR2.out, by simpa using hol, HO.out, HB.out⟩ | exact ⟨_, rfl, out, HR1.out, HR2.out, by simpa using hol, HO.out, HB.out⟩
   | false =>
    have hol3 : out.length ≤ l.length := by simpa using hol
    have HA2 := Lib.hid ((Below.refl wr.heap.size wr).alloc (Nat.le_refl _) (.cells #[.int .i64 n] 3))
    have HO2 := Lib.hid (own_below HO.out HA2.out)
    have HB2 := Lib.hid (HB.out.trans (HA2.out.mono HB.out.size))
    have HS2 := Lib.hid HB2.out.size
    go_wp2_with (at_builtin; refine wpList_append_own _ rfl (.tmp 43) (.tmp 45) 222 rfl w.heap.size 3 i0 _ 1 8 Tryz.underlying222 hi hz0 hz1 hz2 rfl (by decide) _ _ _ rfl HO2.out ⟨wr.heap.size, 0, none⟩ 1 1 [.int .i64 n] rfl rfl (news_at _ _ _ _ rfl) (one_int _) (by unfold maxLen; omega) (by omega) HS2.out ?_; intro v' w2 hown' hgrow hiff)
    have HB3 := Lib.hid (app_below HB2.out HS2.out HO2.out hgrow)
    have HO3 : Hid (w2.ownsRow w.heap.size 3 1 v' (out ++ [n]).length (ints (out ++ [n]))) := by unfold Hid; rw [ints_snoc, List.length_append]; exact hown'
    clear hown' hgrow hiff
    go_wp2
    go_ret
    exact ⟨_, out ++ [n], rfl, HR1.out, HR2.out, by rw [List.length_append]; simp; omega, HO3.out, HB3.out⟩
set_option maxHeartbeats 4000000 in
theorem ends_any (a : Option Addr) (c : Nat) (l : List SpM) (w : World) (hr : SpSl w a l) (hl : l.length ≤ 100000) :
  Calls Tryz.prog 159 #[.slice a l.length c] w fun e w' => ∃ (v : Value) (r : List Int), e = .returned v ∧ IsEnds l r ∧ r.length ≤ 2 * l.length ∧ w'.ownsRow w.heap.size 3 1 v r.length (ints r) ∧ Below w.heap.size w w' := by
 have HR := Lib.hid hr
 have HPA := Lib.hid put_any
 clear hr
 go_enter Tryz.func159, Tryz.ntmps159
 go_wp2
 go_loopw [3, 4] (fun v i wr => ∃ (j : Nat) (e : List Int), j ≤ l.length ∧ i = .int .i64 j ∧ e.length ≤ 2 * j ∧ Hid (IsEnds (l.take j) e) ∧ Hid (wr.ownsRow w.heap.size 3 1 v e.length (ints e)) ∧ Hid (Below w.heap.size w wr)) (fun _ i _ => l.length - (intOf i).toNat)
 case atStart => exact ⟨0, [], by omega, rfl, by simp, IsEnds.nil, ⟨rfl, .inl ⟨rfl, rfl⟩⟩, Below.refl _ _⟩
 case round =>
  obtain ⟨j, e, hj, rfl, hel, HI, HO, HB⟩ := hrel
  by_cases hjl : j < l.length
  ·obtain ⟨b, off, rfl, hbl, hc0, hc1⟩ := (HR.out.below HB.out).at_ hjl
   have HC : Hid (l.take (j + 1) = l.take j ++ [l[j]]) := by unfold Hid; rw [List.take_succ_eq_append_getElem hjl]
   have HSC : Hid (∀ W, Below wr.heap.size wr W → W.cell? ⟨b, off + j * 2, none⟩ = some (.int .i64 l[j].f) ∧ W.cell? ⟨b, off + j * 2 + 1, none⟩ = some (.int .i64 l[j].t)) := fun W hW => by
    obtain ⟨_, _, e1, _, h1, h2⟩ := ((HR.out.below HB.out).below hW).at_ hjl
    cases e1
    exact ⟨h1, h2⟩
   generalize l[j] = x at *
   obtain ⟨va, vc, rfl, _, _, hsl, _, _⟩ := own_slice HO.out
   have HSL := Lib.hid hsl
   clear hsl
   have HTR : Hid (∀ W W', Below wr.heap.size wr W → Below W.heap.size W W' → Below wr.heap.size wr W') := fun W W' h q => h.trans (q.mono h.size)
   have hX : Below wr.heap.size wr wr.drew := (Below.refl _ _).drew
   have HP1 : Hid (Calls Tryz.prog 211 #[.slice va e.length vc, .int .i64 x.f] wr.drew _) := HPA.out va vc e x.f wr.drew (HSL.out.below hX) HI.out.1 (by omega)
   go_wp2
   go_region_held3 (fun W => W.cell? ⟨b, off + j * 2, none⟩ = some (.int .i64 x.f) ∧ W.cell? ⟨b, off + j * 2 + 1, none⟩ = some (.int .i64 x.t))
    (first | with_reducible exact HSC.out _ hX | with_reducible exact HSC.out _ hY | with_reducible exact HSC.out _ hZ | assumption)
    (first | (have hseen := hY; clear hseen; go_at_call 211; refine (HPA.out a1 c1 e1 x.t _ hs1 hrise1 (by omega)).mono ?_; rintro r w3 ⟨v2, e2, rfl, hrise2, hmem2, hlen2, hown2, hB2⟩; have hZ := HTR.out _ _ hY hB2) | (go_at_call 211; refine HP1.out.mono ?_; rintro r w2 ⟨v1, e1, rfl, hrise1, hmem1, hlen1, hown1, hB1⟩; obtain ⟨a1, c1, rfl, _, _, hs1, _, _⟩ := own_slice hown1; have hY := HTR.out _ _ hX hB1))
   have HI2 : Hid (IsEnds (l.take (j + 1)) e2) := by
    unfold Hid
    rw [HC.out]
    exact HI.out.snoc ⟨hrise1, hmem1⟩ ⟨hrise2, hmem2⟩
   have HO2 : Hid (w3.ownsRow w.heap.size 3 1 v2 e2.length (ints e2)) := own_low hown2 (Nat.le_trans HB.out.size hY.size)
   have HB2 := Lib.hid (HB.out.trans (hZ.mono HB.out.size))
   clear hown2 hown1 hmem1 hmem2 hrise1 hrise2 hX hY hZ hB1 hB2 HSC HPA HP1
   go_wp2
   go_roundw
   case rel => exact ⟨j + 1, e2, by omega, by go_num, by omega, HI2, HO2, HB2⟩
   case measure => simp [intOf]; omega
  ·obtain rfl : j = l.length := by omega
   rw [List.take_of_length_le (Nat.le_refl _)] at HI
   go_wp2
   go_ret
   first | exact ⟨_, e, rfl, HI.out, hel, HO.out, HB.out⟩ | exact ⟨_, rfl, e, HI.out, hel, HO.out, HB.out⟩
section
variable {w W W' : World} {g : Nat} {a b c d : Value} {t : TypeId}
theorem Zb.drew (h : Zb w g a b c d t W) : Zb w g a b c d t W.drew := h.below (Below.refl _ _).drew
end
section
variable {w W : World} {g : Nat} {a b c d : Value} {t : TypeId}
end
end Go.Proofs.YtapacckmgmdnoaaGreat
namespace Go.Proofs.YtapacckmgmdnoaaGreat
open Go.RowKit Go.Sort Go.Proofs
set_option linter.unusedVariables false
set_option maxRecDepth 100000
set_option maxRecDepth 100000
set_option maxHeartbeats 4000000 in
theorem rising8_any (a : Option Addr) (c : Nat) (l : List StM) (w : World) (hr : StSl w a l) (hl : l.length ≤ 1000000) :
  Calls Tryz.prog 177 #[.slice a l.length c] w fun e w' => e = .returned (.bool (decide (RiseS l))) ∧ Below w.heap.size w w' := by
 have HR := Lib.hid hr
 have HNO := Lib.hid none_any
 have HCM := Lib.hid (fun x y W => (stcmp_any x y W).mono fun e w' (h : _ ∧ Grew W w') => And.intro h.1 (h.2.below (Nat.le_refl _)))
 unfold stV at HCM
 clear hr
 go_enter Tryz.func177, Tryz.ntmps177
 go_wp2
 go_loopw [7] (fun i wr => ∃ (j : Nat), j ≤ l.length ∧ i = .int .i64 j ∧ Hid (RiseTo l j) ∧ Hid (Below w.heap.size w wr)) (fun i _ => l.length - (intOf i).toNat)
 case atStart => exact ⟨0, by omega, rfl, fun k _ h => absurd h (by omega), Below.refl _ _⟩
 case round =>
  obtain ⟨j, hj, rfl, HO, HB⟩ := hrel
  by_cases hjl : j < l.length
  ·obtain ⟨b, off, rfl, hbl, hc0, hc1, hc2, hc3⟩ := (HR.out.below HB.out).at_ hjl
   have HK := Lib.hid (RsK.new (x := l[j]) (HR.out.below HB.out) HB.out)
   have HNX := Lib.hid (HO.out.next hjl)
   have HNF : Hid (¬ l[j].f < l[j].t → decide (RiseS l) = false) := fun h => decide_eq_false fun k => h (k j hjl).1
   have HNP : Hid (∀ (h0 : 0 < j), ¬ ltSt (l[j - 1]'(by omega)) l[j] → decide (RiseS l) = false) := fun h0 h => decide_eq_false fun k => h ((k j hjl).2 h0)
   by_cases h1 : l[j].t ≤ l[j].f
   ·have HF := Lib.hid (HNF.out (by omega))
    have HN1 : Hid (∀ W, Calls Tryz.prog 108 #[.agg #[.int .i64 l[j].f, .int .i64 l[j].t]] W fun e w' => e = .returned (.bool true) ∧ Below W.heap.size W w') := fun W => by
     have := HNO.out l[j].f l[j].t W
     rwa [decide_eq_true h1] at this
    clear HNX HNF HNP HNO HCM
    generalize l[j] = x at *
    go_wp2_with fail
    generalize wr.alloc (.cells #[.int .i64 x.f, .int .i64 x.t, .int .i64 x.n, .int .i64 x.s] 111) = W at *
    generalize wr.heap.size = g at *
    refine wp_region_held_drew (S := (fun W => W.cell? ⟨g, 0, none⟩ = some (.int .i64 x.f) ∧ W.cell? ⟨g, 1, none⟩ = some (.int .i64 x.t) ∧ W.cell? ⟨g, 2, none⟩ = some (.int .i64 x.n) ∧ W.cell? ⟨g, 3, none⟩ = some (.int .i64 x.s))) (by kernel_rfl) ?_ (fun hHeld => ?_)
    ·exact (HK.out.below (Below.refl _ _).drew).four
    refine tV 0 12 ?_
    refine tV 1 13 ?_
    refine wpAnyH_ready (rs := [2]) (by kernel_rfl) (by simp) ?_
    refine AllReadyH.cons (o := ⟨some 14, _, _, _, _, _⟩) rfl (fun K hK => ?_) AllReadyH.nil
    go_simp
    refine (HN1.out _).mono ?_
    rintro e w2 ⟨rfl, h2⟩
    have K2 := (HK.out.below (Below.refl _ _).drew).below h2
    go_wp2_with fail
    refine hK.out _ _ ?_ (fun hH2 => ?_)
    ·exact K2.four
    clear hK K
    (try simp only [Act.put, List.setIfInBounds_toArray, List.set_cons_zero, List.set_cons_succ])
    refine tV 3 15 ?_
    refine tU 4 16 ?_
    refine tU 5 17 ?_
    refine tU 6 18 ?_
    refine tU 7 19 ?_
    refine tU 8 20 ?_
    refine tU 9 21 ?_
    refine tU 10 22 ?_
    refine tU 11 23 ?_
    refine tU 12 24 ?_
    refine tU 13 25 ?_
    refine tU 14 26 ?_
    refine tU 15 27 ?_
    refine tV 16 28 ?_
    refine wpAnyH_done (by kernel_rfl) ?_ _
    all_goals
     go_wp2
     go_ret
     exact ⟨by rw [HF.out]; rfl, K2.frame⟩
   ·have HN1 : Hid (∀ W, Calls Tryz.prog 108 #[.agg #[.int .i64 l[j].f, .int .i64 l[j].t]] W fun e w' => e = .returned (.bool false) ∧ Below W.heap.size W w') := fun W => by
     have := HNO.out l[j].f l[j].t W
     rwa [decide_eq_false h1] at this
    have HNX := Lib.hid (HNX.out (by omega))
    by_cases h0 : 0 < j
    ·obtain ⟨k, hk⟩ : ∃ k, j = k + 1 := ⟨j - 1, by omega⟩
     have hkl : k < l.length := by omega
     have hpw : IntKind.i64.wrap ((j : Int) - 1) = (k : Int) := by rw [IntWalk.i64_in] <;> omega
     have hgt : decide ((0 : Int) < (j : Int)) = true := decide_eq_true (by omega)
     have HCX := Lib.hid (HCM.out l[j] l[k])
     have HP0 : Hid (∀ W, RsK w wr.heap.size l[j] (some ⟨b, off, none⟩) l W → W.cell? ⟨b, off + k * 4, none⟩ = some (.int .i64 l[k].f) ∧ W.cell? ⟨b, off + k * 4 + 1, none⟩ = some (.int .i64 l[k].t) ∧ W.cell? ⟨b, off + k * 4 + 2, none⟩ = some (.int .i64 l[k].n) ∧ W.cell? ⟨b, off + k * 4 + 3, none⟩ = some (.int .i64 l[k].s)) := fun W h => h.at_ hkl
     have hkp : ∀ h, l[j - 1]'h = l[k] := fun h => by congr 1; omega
     have HNX3 : Hid (ltSt l[k] l[j] → RiseTo l (j + 1)) := fun h => HNX.out (fun _ => by rw [hkp]; exact h)
     have HNP3 : Hid (¬ ltSt l[k] l[j] → decide (RiseS l) = false) := fun h => HNP.out h0 (by rw [hkp]; exact h)
     have hcl := cmpSt_le l[j] l[k]
     clear HNF HNP HNO HCM HNX hkp hk
     generalize l[k] = y at *
     generalize l[j] = x at *
     generalize cmpSt x y = r at *
     by_cases h3 : ltSt y x
     ·have HNX4 := Lib.hid (HNX3.out h3)
      have hd : decide (r ≤ 0) = false := decide_eq_false (fun h => hcl.1 h h3)
      clear HNX3 HNP3 hcl h3
      go_wp2_with fail
      generalize wr.alloc (.cells #[.int .i64 x.f, .int .i64 x.t, .int .i64 x.n, .int .i64 x.s] 111) = W at *
      generalize wr.heap.size = g at *
      refine wp_region_held_drew (S := (fun W => W.cell? ⟨g, 0, none⟩ = some (.int .i64 x.f) ∧ W.cell? ⟨g, 1, none⟩ = some (.int .i64 x.t) ∧ W.cell? ⟨g, 2, none⟩ = some (.int .i64 x.n) ∧ W.cell? ⟨g, 3, none⟩ = some (.int .i64 x.s) ∧ W.cell? ⟨b, off + k * 4, none⟩ = some (.int .i64 y.f) ∧ W.cell? ⟨b, off + k * 4 + 1, none⟩ = some (.int .i64 y.t) ∧ W.cell? ⟨b, off + k * 4 + 2, none⟩ = some (.int .i64 y.n) ∧ W.cell? ⟨b, off + k * 4 + 3, none⟩ = some (.int .i64 y.s))) (by kernel_rfl) ?_ (fun hHeld => ?_)
      ·have K1 := HK.out.below (Below.refl _ _).drew; obtain ⟨k1, k2, k3, k4⟩ := K1.four; exact ⟨k1, k2, k3, k4, HP0.out _ K1⟩
      refine tV 0 12 ?_
      refine tV 1 13 ?_
      refine wpAnyH_ready (rs := [2]) (by kernel_rfl) (by simp) ?_
      refine AllReadyH.cons (o := ⟨some 14, _, _, _, _, _⟩) rfl (fun K hK => ?_) AllReadyH.nil
      go_simp
      refine (HN1.out _).mono ?_
      rintro e w2 ⟨rfl, h2⟩
      have K2 := (HK.out.below (Below.refl _ _).drew).below h2
      go_wp2_with fail
      refine hK.out _ _ ?_ (fun hH2 => ?_)
      ·obtain ⟨k1, k2, k3, k4⟩ := K2.four; exact ⟨k1, k2, k3, k4, HP0.out _ K2⟩
      clear hK K
      (try simp only [Act.put, List.setIfInBounds_toArray, List.set_cons_zero, List.set_cons_succ])
      refine tV 3 15 ?_
      refine tV 4 16 ?_
      refine tV 5 17 ?_
      refine tV 6 18 ?_
      refine tV 7 19 ?_
      refine tV 8 20 ?_
      refine tV 9 21 ?_
      refine tV 10 22 ?_
      refine tV 11 23 ?_
      refine tV 12 24 ?_
      refine wpAnyH_ready (rs := [13]) (by kernel_rfl) (by simp) ?_
      refine AllReadyH.cons (o := ⟨some 25, _, _, _, _, _⟩) rfl (fun K hK => ?_) AllReadyH.nil
      go_simp
      refine (HCX.out _).mono ?_
      rintro e w3 ⟨rfl, h3⟩
      have K3 := K2.below h3
      go_wp2_with fail
      refine hK.out _ _ ?_ (fun hH13 => ?_)
      ·obtain ⟨k1, k2, k3, k4⟩ := K3.four; exact ⟨k1, k2, k3, k4, HP0.out _ K3⟩
      clear hK K
      (try simp only [Act.put, List.setIfInBounds_toArray, List.set_cons_zero, List.set_cons_succ])
      refine tV 14 26 ?_
      refine tV 15 27 ?_
      refine tV 16 28 ?_
      refine wpAnyH_done (by kernel_rfl) ?_ _
      all_goals
       go_wp2
       go_roundw
       case rel => exact ⟨j + 1, by omega, by go_num, HNX4, K3.frame⟩
       case measure => simp [intOf]; omega
     ·have HNF4 := Lib.hid (HNP3.out h3)
      have hd : decide (r ≤ 0) = true := decide_eq_true (hcl.2 h3)
      clear HNX3 HNP3 hcl h3
      go_wp2_with fail
      generalize wr.alloc (.cells #[.int .i64 x.f, .int .i64 x.t, .int .i64 x.n, .int .i64 x.s] 111) = W at *
      generalize wr.heap.size = g at *
      refine wp_region_held_drew (S := (fun W => W.cell? ⟨g, 0, none⟩ = some (.int .i64 x.f) ∧ W.cell? ⟨g, 1, none⟩ = some (.int .i64 x.t) ∧ W.cell? ⟨g, 2, none⟩ = some (.int .i64 x.n) ∧ W.cell? ⟨g, 3, none⟩ = some (.int .i64 x.s) ∧ W.cell? ⟨b, off + k * 4, none⟩ = some (.int .i64 y.f) ∧ W.cell? ⟨b, off + k * 4 + 1, none⟩ = some (.int .i64 y.t) ∧ W.cell? ⟨b, off + k * 4 + 2, none⟩ = some (.int .i64 y.n) ∧ W.cell? ⟨b, off + k * 4 + 3, none⟩ = some (.int .i64 y.s))) (by kernel_rfl) ?_ (fun hHeld => ?_)
      ·have K1 := HK.out.below (Below.refl _ _).drew; obtain ⟨k1, k2, k3, k4⟩ := K1.four; exact ⟨k1, k2, k3, k4, HP0.out _ K1⟩
      refine tV 0 12 ?_
      refine tV 1 13 ?_
      refine wpAnyH_ready (rs := [2]) (by kernel_rfl) (by simp) ?_
      refine AllReadyH.cons (o := ⟨some 14, _, _, _, _, _⟩) rfl (fun K hK => ?_) AllReadyH.nil
      go_simp
      refine (HN1.out _).mono ?_
      rintro e w2 ⟨rfl, h2⟩
      have K2 := (HK.out.below (Below.refl _ _).drew).below h2
      go_wp2_with fail
      refine hK.out _ _ ?_ (fun hH2 => ?_)
      ·obtain ⟨k1, k2, k3, k4⟩ := K2.four; exact ⟨k1, k2, k3, k4, HP0.out _ K2⟩
      clear hK K
      (try simp only [Act.put, List.setIfInBounds_toArray, List.set_cons_zero, List.set_cons_succ])
      refine tV 3 15 ?_
      refine tV 4 16 ?_
      refine tV 5 17 ?_
      refine tV 6 18 ?_
      refine tV 7 19 ?_
      refine tV 8 20 ?_
      refine tV 9 21 ?_
      refine tV 10 22 ?_
      refine tV 11 23 ?_
      refine tV 12 24 ?_
      refine wpAnyH_ready (rs := [13]) (by kernel_rfl) (by simp) ?_
      refine AllReadyH.cons (o := ⟨some 25, _, _, _, _, _⟩) rfl (fun K hK => ?_) AllReadyH.nil
      go_simp
      refine (HCX.out _).mono ?_
      rintro e w3 ⟨rfl, h3⟩
      have K3 := K2.below h3
      go_wp2_with fail
      refine hK.out _ _ ?_ (fun hH13 => ?_)
      ·obtain ⟨k1, k2, k3, k4⟩ := K3.four; exact ⟨k1, k2, k3, k4, HP0.out _ K3⟩
      clear hK K
      (try simp only [Act.put, List.setIfInBounds_toArray, List.set_cons_zero, List.set_cons_succ])
      refine tV 14 26 ?_
      refine tV 15 27 ?_
      refine tV 16 28 ?_
      refine wpAnyH_done (by kernel_rfl) ?_ _
      all_goals
       go_wp2
       go_ret
       exact ⟨by rw [HNF4.out]; rfl, K3.frame⟩
    ·have HNX2 := Lib.hid (HNX.out (fun h => absurd h h0))
     have hgt : decide ((0 : Int) < (j : Int)) = false := decide_eq_false (by omega)
     clear HNF HNP HNO HCM HNX
     generalize l[j] = x at *
     go_wp2_with fail
     generalize wr.alloc (.cells #[.int .i64 x.f, .int .i64 x.t, .int .i64 x.n, .int .i64 x.s] 111) = W at *
     generalize wr.heap.size = g at *
     refine wp_region_held_drew (S := (fun W => W.cell? ⟨g, 0, none⟩ = some (.int .i64 x.f) ∧ W.cell? ⟨g, 1, none⟩ = some (.int .i64 x.t) ∧ W.cell? ⟨g, 2, none⟩ = some (.int .i64 x.n) ∧ W.cell? ⟨g, 3, none⟩ = some (.int .i64 x.s))) (by kernel_rfl) ?_ (fun hHeld => ?_)
     ·exact (HK.out.below (Below.refl _ _).drew).four
     refine tV 0 12 ?_
     refine tV 1 13 ?_
     refine wpAnyH_ready (rs := [2]) (by kernel_rfl) (by simp) ?_
     refine AllReadyH.cons (o := ⟨some 14, _, _, _, _, _⟩) rfl (fun K hK => ?_) AllReadyH.nil
     go_simp
     refine (HN1.out _).mono ?_
     rintro e w2 ⟨rfl, h2⟩
     have K2 := (HK.out.below (Below.refl _ _).drew).below h2
     go_wp2_with fail
     refine hK.out _ _ ?_ (fun hH2 => ?_)
     ·exact K2.four
     clear hK K
     (try simp only [Act.put, List.setIfInBounds_toArray, List.set_cons_zero, List.set_cons_succ])
     refine tV 3 15 ?_
     refine tV 4 16 ?_
     refine tV 5 17 ?_
     refine tV 6 18 ?_
     refine tU 7 19 ?_
     refine tU 8 20 ?_
     refine tU 9 21 ?_
     refine tU 10 22 ?_
     refine tU 11 23 ?_
     refine tU 12 24 ?_
     refine tU 13 25 ?_
     refine tU 14 26 ?_
     refine tV 15 27 ?_
     refine tV 16 28 ?_
     refine wpAnyH_done (by kernel_rfl) ?_ _
     all_goals
      go_wp2
      go_roundw
      case rel => exact ⟨j + 1, by omega, by go_num, HNX2, K2.frame⟩
      case measure => simp [intOf]; omega
  ·obtain rfl : j = l.length := by omega
   have HE := Lib.hid (decide_eq_true HO.out.all)
   go_wp2
   go_ret
   exact ⟨by rw [HE.out]; rfl, HB.out⟩
end Go.Proofs.YtapacckmgmdnoaaGreat
namespace Go.Proofs.YtapacckmgmdnoaaGreat
open Go.RowKit Go.Proofs
set_option linter.unusedVariables false
set_option maxRecDepth 100000
set_option maxRecDepth 100000
set_option maxHeartbeats 1000000 in
theorem c_latest (x : OpM) (n : Int) (g : Nat) (W : World) (h : CapO W g (.int .i64 n)) :
  Calls Tryz.prog 220 #[.agg #[.int .i64 x.n, .string x.u, .int .i64 x.s, .int .i64 x.f], .pointer (some ⟨g, 0, none⟩)] W fun r w' => r = .returned (.bool (hasN n x)) ∧ Below W.heap.size W w' := by
 have hb := below_one W (.cells #[.int .i64 x.n, .string x.u, .int .i64 x.s, .int .i64 x.f] 184)
 obtain ⟨c0, hg⟩ := h.below hb
 have HB := Lib.hid hb
 have HE : Hid ((x.n == n) = hasN n x) := rfl
 clear hb hg h
 generalize hasN n x = r at *
 go_enter Tryz.func220, Tryz.ntmps220
 go_wp2
 go_ret
 exact ⟨retB HE.out, HB.out⟩
end Go.Proofs.YtapacckmgmdnoaaGreat
namespace Go.Proofs.YtapacckmgmdnoaaGreat
open Go.RowKit
set_option linter.unusedVariables false
set_option maxRecDepth 100000
set_option maxRecDepth 100000
theorem o_rising (a : Option Addr) (c : Nat) (l : List OpM) (W : World) (h : OpSl W a l) (hs : SzO l) (hl : l.length ≤ 1000) : Calls Tryz.prog 113 #[.slice a l.length c] W fun e w' => e = .returned (.bool (decide (RiseO l))) ∧ Below W.heap.size W w' := orising_any a c l W h hs (by omega)
set_option maxHeartbeats 1000000 in
theorem of_any (e : EnM) (w u : ByteArray) (W : World) :
  Calls Tryz.prog 166 #[enV e, pr w u] W fun r w' => r = .returned (.bool (ofE w u e)) ∧ Below W.heap.size W w' := by
 have HB := Lib.hid (below_2 W)
 unfold enV pr
 obtain ⟨ew, eu, ef, et⟩ := e
 have HF : Hid (∀ b : Bool, (b = true ↔ ew = w ∧ eu = u) → b = ofE w u ⟨ew, eu, ef, et⟩) := fun b hb => by
  have h1 := ofE_iff (w := w) (u := u) (e := ⟨ew, eu, ef, et⟩)
  cases hc : ofE w u ⟨ew, eu, ef, et⟩ with
  | true => rw [hc] at h1; exact hb.2 (h1.1 rfl)
  | false =>
   rw [hc] at h1
   cases b with
   | false => rfl
   | true => exact absurd (h1.2 (hb.1 rfl)) Bool.false_ne_true
 dsimp only
 by_cases h0 : ew = w
 ·subst h0
  have e0 := str_eq ew
  by_cases h1 : eu = u
  ·subst h1
   have e1 := str_eq eu
   have HE := Lib.hid (HF.out true ⟨fun _ => ⟨rfl, rfl⟩, fun _ => rfl⟩)
   clear HF
   go_enter Tryz.func166, Tryz.ntmps166
   go_wp2
   go_ret
   exact ⟨retB HE.out, HB.out _ _⟩
  ·have e1 := str_ne h1
   have HE := Lib.hid (HF.out false ⟨fun h => (by cases h), fun h => absurd h.2 h1⟩)
   clear HF h1
   go_enter Tryz.func166, Tryz.ntmps166
   go_wp2
   go_ret
   exact ⟨retB HE.out, HB.out _ _⟩
 ·have e0 := str_ne h0
  have HE := Lib.hid (HF.out false ⟨fun h => (by cases h), fun h => absurd h.1 h0⟩)
  clear HF h0
  go_enter Tryz.func166, Tryz.ntmps166
  go_wp2
  go_ret
  exact ⟨retB HE.out, HB.out _ _⟩
theorem PK.cells {w W : World} {g : Nat} {p u : ByteArray} {b off : Nat} {l : List EnM} (h : PK w g p u (some ⟨b, off, none⟩) l W) {k : Nat} (hk : k < l.length) :
  W.cell? ⟨g, 0, none⟩ = some (.string p) ∧ W.cell? ⟨g, 1, none⟩ = some (.string u) ∧ W.cell? ⟨b, off + k * 4, none⟩ = some (.string l[k].w) ∧ W.cell? ⟨b, off + k * 4 + 1, none⟩ = some (.string l[k].u) ∧ W.cell? ⟨b, off + k * 4 + 2, none⟩ = some (.int .i64 l[k].f) ∧ W.cell? ⟨b, off + k * 4 + 3, none⟩ = some (.int .i64 l[k].t) := by
 obtain ⟨_, _, e, _, h0, h1, h2, h3⟩ := h.row.at_ hk
 cases e
 exact ⟨h.pc.1, h.pc.2.1, h0, h1, h2, h3⟩
theorem e_rising (a : Option Addr) (c : Nat) (l : List EnM) (W : World) (h : EnSl W a l) (hs : SzE l) (hl : l.length ≤ 1000) : Calls Tryz.prog 121 #[.slice a l.length c] W fun e w' => e = .returned (.bool (decide (RiseE l))) ∧ Below W.heap.size W w' := erising_any a c l W h hs (by omega)
end Go.Proofs.YtapacckmgmdnoaaGreat
namespace Go.Proofs.YtapacckmgmdnoaaGreat
open Go.RowKit Go.Proofs
set_option linter.unusedVariables false
set_option maxRecDepth 100000
theorem GTold.only {s : SaM} {q : AskM} {a b : List StM} (ha : GTold s q a) (hb : GTold s q b) : a = b := by
 by_cases h : whyV s q.w q.u q.n = 0
 ·exact (ha.1 h).only (hb.1 h)
 ·rw [ha.2 h, hb.2 h]
end Go.Proofs.YtapacckmgmdnoaaGreat
