/- Texts of mine, one behind the other, of each what is wanted. -/
import Derived.Test.YtmfpjapiijgdgaaGreatV00
import Derived.Test.YtmfpjapiijgdgaaGreatV01
import Derived.Test.YtmfpjapiijgdgaaGreatV02
import Derived.Test.YtmfpjapiijgdgaaGreatV03
import Derived.Test.YtmfpjapiijgdgaaGreatV05
import Derived.Test.YtmfpjapiijgdgaaGreatV10
import Derived.Test.YtmfpjapiijgdgaaGreatV16
import Derived.Test.YtmfpjapiijgdgaaGreatV17
namespace Go.Proofs.YtmfpjapiijgdgaaGreat
open Go.RowKit
set_option linter.unusedVariables false
set_option maxRecDepth 100000
theorem own_slice {w : World} {B e n : Nat} {v : Value} {xs : List Value} (h : w.ownsRow B e 1 v n xs) : ∃ a c, v = .slice a n c ∧ n ≤ c ∧ c ≤ maxLen ∧ Sl w a xs ∧ (∀ b o, a = some ⟨b, o, none⟩ → B ≤ b) ∧ (a = none → c = 0) := by
 rcases h.2 with ⟨rfl, rfl⟩ | ⟨g, cap, cur, rfl, hg, hh, hn, hc, hsz, ht⟩
 ·refine ⟨none, 0, rfl, Nat.le_refl _, by unfold maxLen; omega, ?_, fun b o e => (by cases e), fun _ => rfl⟩
  have : xs = [] := List.eq_nil_of_length_eq_zero (by simpa using h.1)
  subst this
  exact Sl.nil _ _
 ·refine ⟨_, cap, rfl, hn, hc, fun k hk => ⟨g, 0, rfl, ?_, ?_⟩, fun b o e => (by cases e; exact hg), fun e => by cases e⟩
  ·rcases Nat.lt_or_ge g w.heap.size with h1 | h1
   ·exact h1
   ·rw [Array.getElem?_eq_none h1] at hh; cases hh
  ·have hl := h.1
   simp only [Nat.mul_one] at hl ht
   rw [cell_of_row w g (0 + k) cur e (0, 0) hh, Nat.zero_add]
   subst ht
   simp at hk
   simp [Array.getElem?_eq_getElem (show k < cur.size by omega)]
end Go.Proofs.YtmfpjapiijgdgaaGreat
namespace Go.Proofs.YtmfpjapiijgdgaaGreat
set_option linter.unusedVariables false
set_option maxRecDepth 100000
def glueS (l : List SpM) (s : SpM) : List SpM :=
 match l.getLast? with
 | none => l ++ [s]
 | some u => if u.t = s.f then l.dropLast ++ [⟨u.f, s.t⟩] else l ++ [s]
theorem glueS_nil (s : SpM) : glueS [] s = [s] := rfl
theorem glueS_snoc (l : List SpM) (u s : SpM) : glueS (l ++ [u]) s = if u.t = s.f then l ++ [⟨u.f, s.t⟩] else l ++ [u] ++ [s] := by
 unfold glueS
 rw [List.getLast?_append]
 simp
def Rise (e : List Int) : Prop := e.Pairwise (· < ·)
structure GlueI (P : Int → Prop) (c : Int) (r : List SpM) : Prop where
 norm : NormL r
 has : ∀ x, HasL r x ↔ P x ∧ x < c
theorem GlueI.low {P : Int → Prop} {c : Int} {r : List SpM} (h : GlueI P c r) : ∀ u ∈ r, u.t ≤ c := fun u hu => by
 have h1 := h.norm.2 u hu
 have := ((h.has (u.t - 1)).1 ⟨u, hu, by omega, by omega⟩).2
 omega
theorem GlueI.start {P : Int → Prop} {c : Int} (h : ∀ x, P x → c ≤ x) : GlueI P c [] :=
 ⟨NormL.nil, fun x => ⟨fun h => absurd h HasL.nil, fun ⟨h1, h2⟩ => by have := h x h1; omega⟩⟩
theorem GlueI.skip {P : Int → Prop} {c d : Int} {r : List SpM} (h : GlueI P c r) (hcd : c < d) (hc : ∀ x, c ≤ x → x < d → ¬ P x) : GlueI P d r :=
 ⟨h.norm, fun x => by
  rw [h.has x]
  constructor
  ·rintro ⟨h1, h2⟩; exact ⟨h1, by omega⟩
  ·rintro ⟨h1, h2⟩
   refine ⟨h1, ?_⟩
   rcases Int.lt_or_le x c with h3 | h3
   ·exact h3
   ·exact absurd h1 (hc x h3 h2)⟩
theorem GlueI.step {P : Int → Prop} {c d : Int} {r : List SpM} (h : GlueI P c r) (hcd : c < d) (hc : ∀ x, c ≤ x → x < d → P x) : GlueI P d (glueS r ⟨c, d⟩) := by
 have hlow := h.low
 have key : ∀ x, (P x ∧ x < c) ∨ (c ≤ x ∧ x < d) ↔ P x ∧ x < d := fun x => by
  constructor
  ·rintro (⟨h1, h2⟩ | ⟨h1, h2⟩)
   ·exact ⟨h1, by omega⟩
   ·exact ⟨hc x h1 h2, h2⟩
  ·rintro ⟨h1, h2⟩
   rcases Int.lt_or_le x c with h3 | h3
   ·exact .inl ⟨h1, h3⟩
   ·exact .inr ⟨h3, h2⟩
 rcases List.eq_nil_or_concat r with rfl | ⟨l, u, rfl⟩
 ·rw [glueS_nil]
  refine ⟨⟨⟨Int.le_of_lt hcd, fun u hu => (by cases hu), trivial⟩, fun u hu => by rw [List.mem_singleton.1 hu]; exact hcd⟩, fun x => ?_⟩
  rw [hasL_one, ← key x, ← h.has x]
  exact ⟨.inr, fun h => h.resolve_left HasL.nil⟩
 ·rw [List.concat_eq_append] at *
  rw [glueS_snoc]
  obtain ⟨n1, n2, n3⟩ := normL_front h.norm
  have hu := hlow u (by simp)
  split
  ·rename_i he
   have he : u.t = c := he
   refine ⟨normL_snoc n1 (by show u.f < d; omega) n3, fun x => ?_⟩
   rw [← key x, ← h.has x, hasL_append, hasL_append, hasL_one, hasL_one]
   show HasL l x ∨ (u.f ≤ x ∧ x < d) ↔ (HasL l x ∨ u.f ≤ x ∧ x < u.t) ∨ c ≤ x ∧ x < d
   constructor
   ·rintro (h1 | h1)
    ·exact .inl (.inl h1)
    ·rcases Int.lt_or_le x c with h2 | h2
     ·exact .inl (.inr ⟨h1.1, by omega⟩)
     ·exact .inr ⟨h2, h1.2⟩
   ·rintro ((h1 | h1) | h1)
    ·exact .inl h1
    ·exact .inr ⟨h1.1, by omega⟩
    ·exact .inr ⟨by omega, h1.2⟩
  ·rename_i hne
   have hne : ¬ u.t = c := hne
   refine ⟨normL_snoc h.norm hcd (fun v hv => ?_), fun x => ?_⟩
   ·show v.t < c
    rcases List.mem_append.1 hv with hv | hv
    ·have := n3 v hv; omega
    ·rw [List.mem_singleton.1 hv]; omega
   ·rw [hasL_append (m := [_]), h.has x, hasL_one]
    exact key x
theorem GlueI.done {P : Int → Prop} {c : Int} {r : List SpM} (h : GlueI P c r) (hP : ∀ x, P x → x < c) : IsSet P r :=
 ⟨h.norm, fun x => (h.has x).trans ⟨fun h => h.1, fun h => ⟨h, hP x h⟩⟩⟩
structure PutI (l : List Int) (n : Int) (k : Nat) (out : List Int) (done : Bool) : Prop where
 rise : Rise out
 mem : ∀ x, x ∈ out ↔ x ∈ l.take k ∨ (done = true ∧ x = n)
 yet : done = false → ∀ x ∈ l.take k, x < n
 past : done = true → ∃ x ∈ l.take k, n ≤ x
theorem PutI.start (l : List Int) (n : Int) : PutI l n 0 [] false :=
 ⟨List.Pairwise.nil, fun x => by simp, fun _ x hx => by simp at hx, fun h => by cases h⟩
theorem rise_snoc {l : List Int} {x : Int} (h : Rise l) (hx : ∀ y ∈ l, y < x) : Rise (l ++ [x]) :=
 List.pairwise_append.2 ⟨h, List.pairwise_singleton _ _, fun a ha b hb => by rw [List.mem_singleton.1 hb]; exact hx a ha⟩
theorem take_mem {l : List Int} {k : Nat} (h : k < l.length) (x : Int) : x ∈ l.take (k + 1) ↔ x ∈ l.take k ∨ x = l[k] := by
 rw [List.take_succ_eq_append_getElem h, List.mem_append, List.mem_singleton]
theorem rise_at {l : List Int} (h : Rise l) {k : Nat} (hk : k < l.length) : ∀ y ∈ l.take k, y < l[k] := fun y hy => by
 have h2 : Rise (l.take (k + 1)) := h.sublist (List.take_sublist _ _)
 rw [List.take_succ_eq_append_getElem hk] at h2
 exact (List.pairwise_append.1 h2).2.2 y hy l[k] (by simp)
theorem PutI.plain {l : List Int} {n : Int} {k : Nat} {out : List Int} {done : Bool} (h : PutI l n k out done) (hr : Rise l) (hk : k < l.length) (hd : done = true ∨ l[k] < n ∨ l[k] = n) :
  PutI l n (k + 1) (out ++ [l[k]]) (done || decide (l[k] = n)) := by
 have hlt := rise_at hr hk
 have hout : ∀ y ∈ out, y < l[k] := fun y hy => by
  rcases (h.mem y).1 hy with h1 | ⟨h1, h2⟩
  ·exact hlt y h1
  ·obtain ⟨z, hz, h3⟩ := h.past h1
   have := hlt z hz
   omega
 refine ⟨rise_snoc h.rise hout, fun x => ?_, fun hf x hx => ?_, fun ht => ?_⟩
 ·rw [List.mem_append, h.mem x, take_mem hk, List.mem_singleton]
  cases done with
  | true => simp; exact ⟨fun h => by rcases h with (h | h) | h <;> simp [h], fun h => by rcases h with (h | h) | h <;> simp [h]⟩
  | false =>
   by_cases he : l[k] = n
   ·simp only [Bool.false_or, decide_eq_true he, true_and, Bool.false_eq_true, false_and, or_false]
    constructor
    ·rintro (h1 | h1)
     ·exact .inl (.inl h1)
     ·exact .inl (.inr h1)
    ·rintro ((h1 | h1) | h1)
     ·exact .inl h1
     ·exact .inr h1
     ·exact .inr (by rw [h1, he])
   ·simp [he]
 ·cases done with
  | true => simp at hf
  | false =>
   simp only [Bool.false_or, decide_eq_false_iff_not] at hf
   rcases (take_mem hk x).1 hx with h1 | h1
   ·exact h.yet rfl x h1
   ·rw [h1]; rcases hd with h2 | h2 | h2
    ·cases h2
    ·exact h2
    ·exact absurd h2 hf
 ·cases done with
  | true =>
   obtain ⟨z, hz, h3⟩ := h.past rfl
   exact ⟨z, (take_mem hk z).2 (.inl hz), h3⟩
  | false =>
   simp only [Bool.false_or, decide_eq_true_eq] at ht
   exact ⟨l[k], (take_mem hk _).2 (.inr rfl), by omega⟩
theorem PutI.put {l : List Int} {n : Int} {k : Nat} {out : List Int} (h : PutI l n k out false) (hr : Rise l) (hk : k < l.length) (hd : n < l[k]) :
  PutI l n (k + 1) (out ++ [n] ++ [l[k]]) true := by
 have hlt := rise_at hr hk
 have hout : ∀ y ∈ out, y < n := fun y hy => by
  rcases (h.mem y).1 hy with h1 | ⟨h1, h2⟩
  ·exact h.yet rfl y h1
  ·cases h1
 refine ⟨rise_snoc (rise_snoc h.rise hout) (fun y hy => ?_), fun x => ?_, fun hf => (by cases hf), fun _ => ⟨l[k], (take_mem hk _).2 (.inr rfl), by omega⟩⟩
 ·rcases List.mem_append.1 hy with h1 | h1
  ·have := hout y h1; omega
  ·rw [List.mem_singleton.1 h1]; exact hd
 ·rw [List.mem_append, List.mem_append, h.mem x, take_mem hk, List.mem_singleton, List.mem_singleton]
  simp only [Bool.false_eq_true, false_and, or_false, true_and]
  constructor
  ·rintro ((h1 | h1) | h1)
   ·exact .inl (.inl h1)
   ·exact .inr h1
   ·exact .inl (.inr h1)
  ·rintro ((h1 | h1) | h1)
   ·exact .inl (.inl h1)
   ·exact .inr h1
   ·exact .inl (.inr h1)
theorem PutI.done {l : List Int} {n : Int} {out : List Int} {done : Bool} (h : PutI l n l.length out done) : Rise (if done then out else out ++ [n]) ∧ ∀ x, x ∈ (if done then out else out ++ [n]) ↔ x ∈ l ∨ x = n := by
 have ht : l.take l.length = l := List.take_of_length_le (Nat.le_refl _)
 cases done with
 | true =>
  refine ⟨h.rise, fun x => ?_⟩
  have := h.mem x
  rw [ht] at this
  simpa using this
 | false =>
  have hy := h.yet rfl
  rw [ht] at hy
  refine ⟨rise_snoc h.rise (fun y hm => ?_), fun x => ?_⟩
  ·have := (h.mem y).1 hm
   rw [ht] at this
   simp only [Bool.false_eq_true, false_and, or_false] at this
   exact hy y this
  ·have := h.mem x
   rw [ht] at this
   simp only [Bool.false_eq_true, false_and, or_false] at this
   simp [this]
def IsEnds (l : List SpM) (e : List Int) : Prop := Rise e ∧ ∀ x, x ∈ e ↔ ∃ s ∈ l, x = s.f ∨ x = s.t
theorem IsEnds.nil : IsEnds [] [] := ⟨List.Pairwise.nil, fun x => by simp⟩
theorem IsEnds.snoc {l : List SpM} {s : SpM} {e e1 e2 : List Int} (h : IsEnds l e) (h1 : Rise e1 ∧ ∀ x, x ∈ e1 ↔ x ∈ e ∨ x = s.f) (h2 : Rise e2 ∧ ∀ x, x ∈ e2 ↔ x ∈ e1 ∨ x = s.t) : IsEnds (l ++ [s]) e2 := by
 refine ⟨h2.1, fun x => ?_⟩
 rw [h2.2, h1.2, h.2]
 constructor
 ·rintro ((⟨u, hu, h3⟩ | h3) | h3)
  ·exact ⟨u, List.mem_append_left _ hu, h3⟩
  ·exact ⟨s, by simp, .inl h3⟩
  ·exact ⟨s, by simp, .inr h3⟩
 ·rintro ⟨u, hu, h3⟩
  rcases List.mem_append.1 hu with hu | hu
  ·exact .inl (.inl ⟨u, hu, h3⟩)
  ·rw [List.mem_singleton.1 hu] at h3
   rcases h3 with h3 | h3
   ·exact .inl (.inr h3)
   ·exact .inr h3
theorem rise_between {e : List Int} (h : Rise e) {k : Nat} (hk : k + 1 < e.length) {y : Int} (hy : y ∈ e) : y ≤ e[k] ∨ e[k + 1] ≤ y := by
 obtain ⟨i, hi, rfl⟩ := List.getElem_of_mem hy
 have hp := List.pairwise_iff_getElem.1 h
 rcases Nat.lt_or_ge i (k + 1) with h1 | h1
 ·rcases Nat.lt_or_ge i k with h2 | h2
  ·exact .inl (Int.le_of_lt (hp i k (by omega) (by omega) h2))
  ·obtain rfl : i = k := by omega
   exact .inl (Int.le_refl _)
 ·rcases Nat.lt_or_ge (k + 1) i with h2 | h2
  ·exact .inr (Int.le_of_lt (hp (k + 1) i (by omega) (by omega) h2))
  ·obtain rfl : i = k + 1 := by omega
   exact .inr (Int.le_refl _)
theorem IsEnds.cell {l m : List SpM} {e : List Int} (h : IsEnds l e) (hm : ∀ s ∈ m, s ∈ l) {k : Nat} (hk : k + 1 < e.length) {x : Int} (h1 : e[k] ≤ x) (h2 : x < e[k + 1]) : HasL m x ↔ HasL m e[k] := by
 constructor
 ·rintro ⟨s, hs, h3, h4⟩
  refine ⟨s, hs, ?_, by omega⟩
  rcases rise_between h.1 hk ((h.2 s.f).2 ⟨s, hm s hs, .inl rfl⟩) with h5 | h5
  ·exact h5
  ·omega
 ·rintro ⟨s, hs, h3, h4⟩
  refine ⟨s, hs, by omega, ?_⟩
  rcases rise_between h.1 hk ((h.2 s.t).2 ⟨s, hm s hs, .inr rfl⟩) with h5 | h5
  ·omega
  ·omega
theorem IsEnds.first {l m : List SpM} {e : List Int} (h : IsEnds l e) (hm : ∀ s ∈ m, s ∈ l) {x : Int} (hx : HasL m x) : ∃ h0 : 0 < e.length, e[0] ≤ x := by
 obtain ⟨s, hs, h3, h4⟩ := hx
 obtain ⟨i, hi, he⟩ := List.getElem_of_mem ((h.2 s.f).2 ⟨s, hm s hs, .inl rfl⟩)
 refine ⟨by omega, ?_⟩
 rcases Nat.eq_zero_or_pos i with h5 | h5
 ·subst h5; omega
 ·have := List.pairwise_iff_getElem.1 h.1 0 i (by omega) hi h5
  omega
theorem IsEnds.last {l m : List SpM} {e : List Int} (h : IsEnds l e) (hm : ∀ s ∈ m, s ∈ l) {x : Int} (hx : HasL m x) {k : Nat} (hk : k + 1 = e.length) : x < e[k] := by
 obtain ⟨s, hs, h3, h4⟩ := hx
 obtain ⟨i, hi, he⟩ := List.getElem_of_mem ((h.2 s.t).2 ⟨s, hm s hs, .inr rfl⟩)
 rcases Nat.lt_or_ge i k with h5 | h5
 ·have := List.pairwise_iff_getElem.1 h.1 i k hi (by omega) h5
  omega
 ·obtain rfl : i = k := by omega
  omega
theorem rowOf_norm (s : SpM) : ∀ {r : List SpM}, NormL r → NormL (rowOf s r)
 | [], _ => NormL.nil
 | n :: r, h => by
  have ih := rowOf_norm s h.tail
  rw [rowOf_cons]
  split
  ·rename_i ht
   refine ⟨⟨Int.le_of_lt ht, fun u hu => ?_, ih.1⟩, fun u hu => ?_⟩
   ·obtain ⟨o, ho, rfl, _⟩ := rowOf_mem hu
    have := h.1.2.1 o ho
    show min s.t n.t < max s.f o.f
    omega
   ·rcases List.mem_cons.1 hu with rfl | hu
    ·exact ht
    ·exact ih.2 u hu
  ·exact ih
theorem rowOf_set {P : Int → Prop} {s : SpM} {r : List SpM} (h : IsSet P r) : IsSet (fun x => (s.f ≤ x ∧ x < s.t) ∧ P x) (rowOf s r) :=
 ⟨rowOf_norm s h.1, fun x => (rowOf_has s x).trans (and_congr_right fun _ => h.2 x)⟩
end Go.Proofs.YtmfpjapiijgdgaaGreat
namespace Go.Proofs.YtmfpjapiijgdgaaGreat
open Go.RowKit
set_option linter.unusedVariables false
set_option maxRecDepth 100000
set_option maxRecDepth 100000
theorem sps_append (l m : List SpM) : sps (l ++ m) = sps l ++ sps m := by simp [sps]
theorem infoSpanR : (Tryz.prog.info? 106).map (fun i => (i.zero, i.size, i.bytes)) = some (some (.agg #[.int .i64 0, .int .i64 0]), 2, 16) := by kernel_rfl
set_option maxHeartbeats 2000000 in
theorem refHas_any (a : Option Addr) (c : Nat) (l : List SpM) (x : Int) (w : World) (hr : SpSl w a l) (hl : l.length ≤ maxLen) :
  Calls Tryz.prog 105 #[.slice a l.length c, .int .i64 x] w fun e w' => e = .returned (.bool (hasB l x)) ∧ w' = w := by
 have HR := Lib.hid hr
 unfold maxLen at hl
 clear hr
 go_enter Tryz.func105, Tryz.ntmps105
 go_wp2
 go_loopw [5] (fun i wr => ∃ (j : Nat), j ≤ l.length ∧ i = .int .i64 j ∧ Hid (hasB (l.take j) x = false) ∧ wr = w) (fun i _ => l.length - (intOf i).toNat)
 case atStart => exact ⟨0, by omega, rfl, rfl, rfl⟩
 case round =>
  obtain ⟨j, hj, rfl, HF, rfl⟩ := hrel
  by_cases hjl : j < l.length
  ·obtain ⟨b, off, rfl, hbl, hc0, hc1⟩ := HR.out.at_ hjl
   have HY := Lib.hid (fun h1 h2 => hasB_yes (x := x) hjl h1 h2)
   have HN := Lib.hid (fun h => hasB_next hjl HF.out h)
   generalize l[j] = s at *
   by_cases h1 : s.f ≤ x
   ·by_cases h2 : x < s.t
    ·have HE := Lib.hid (HY.out h1 h2)
     clear HY HN HF
     go_wp2
     go_ret
     exact ⟨by rw [HE.out]; rfl, rfl⟩
    ·have HE := Lib.hid (HN.out (fun h => h2 h.2))
     clear HY HN HF
     go_wp2
     go_roundw
     case rel => exact ⟨j + 1, by omega, by go_num, HE, trivial⟩
     case measure => simp [intOf]; omega
   ·have HE := Lib.hid (HN.out (fun h => h1 h.1))
    clear HY HN HF
    go_wp2
    go_roundw
    case rel => exact ⟨j + 1, by omega, by go_num, HE, trivial⟩
    case measure => simp [intOf]; omega
  ·obtain rfl : j = l.length := by omega
   rw [List.take_of_length_le (Nat.le_refl _)] at HF
   go_wp2
   go_ret
   exact ⟨by rw [HF.out]; rfl, rfl⟩
theorem infoStayR : (Tryz.prog.info? 104).map (fun i => (i.zero, i.size, i.bytes)) = some (some (.agg #[.int .i64 0, .int .i64 0, .int .i64 0, .int .i64 0]), 4, 32) := by kernel_rfl
theorem infoInt : (Tryz.prog.info? 3).map (fun i => (i.zero, i.size, i.bytes)) = some (some (.int .i64 0), 1, 8) := by kernel_rfl
theorem ints_snoc (l : List Int) (n : Int) : ints (l ++ [n]) = ints l ++ [.int .i64 n] := by simp [ints]
theorem one_int (n : Int) : ∀ u ∈ [Value.int .i64 n], u.oneCell' = true := fun u hu => by rw [List.mem_singleton.1 hu]; rfl
set_option maxHeartbeats 4000000 in
theorem put_any (a : Option Addr) (c : Nat) (l : List Int) (n : Int) (w : World) (hr : Sl w a (ints l)) (hrise : Rise l) (hl : l.length ≤ 1000000) :
  Calls Tryz.prog 211 #[.slice a l.length c, .int .i64 n] w fun e w' => ∃ (v : Value) (r : List Int), e = .returned v ∧ Rise r ∧ (∀ x, x ∈ r ↔ x ∈ l ∨ x = n) ∧ r.length ≤ l.length + 1 ∧ w'.ownsRow w.heap.size 3 1 v r.length (ints r) ∧ Below w.heap.size w w' := by
 obtain ⟨i0, hi, hz0, hz1, hz2⟩ := info_parts infoInt
 have HR := Lib.hid hr
 have HRS := Lib.hid hrise
 clear hr hrise
 go_enter Tryz.func211, Tryz.ntmps211
 go_wp2
 go_loopw [5, 6, 7] (fun v d i wr => ∃ (j : Nat) (out : List Int) (dn : Bool), j ≤ l.length ∧ i = .int .i64 j ∧ d = .bool dn ∧ out.length ≤ j + (if dn then 1 else 0) ∧ Hid (PutI l n j out dn) ∧ Hid (wr.ownsRow w.heap.size 3 1 v out.length (ints out)) ∧ Hid (Below w.heap.size w wr)) (fun _ _ i _ => l.length - (intOf i).toNat)
 case atStart => exact ⟨0, [], false, by omega, rfl, rfl, by simp, PutI.start l n, ⟨rfl, .inl ⟨rfl, rfl⟩⟩, Below.refl _ _⟩
 case round =>
  obtain ⟨j, out, dn, hj, rfl, rfl, hol, HI, HO, HB⟩ := hrel
  by_cases hjl : j < l.length
  ·obtain ⟨b, off, rfl, hbl, hc0⟩ := ints_at (HR.out.below HB.out) hjl
   have HPL := Lib.hid (fun hd => HI.out.plain HRS.out hjl hd)
   have HPU : Hid (dn = false → n < l[j] → PutI l n (j + 1) (out ++ [n] ++ [l[j]]) true) := fun h1 h2 => by
    have h := HI.out
    rw [h1] at h
    exact h.put HRS.out hjl h2
   have HCL := Lib.hid (fun W (hW : Below w.heap.size w W) => ints_at (HR.out.below hW) hjl)
   generalize hx : l[j] = x at *
   have hol2 : out.length ≤ j + 1 := by cases dn <;> simp at hol <;> omega
   have HA1 := Lib.hid ((Below.refl wr.heap.size wr).alloc (Nat.le_refl _) (.cells #[.int .i64 x] 3))
   have HO1 := Lib.hid (own_below HO.out HA1.out)
   have HB1 := Lib.hid (HB.out.trans (HA1.out.mono HB.out.size))
   have HS1 := Lib.hid HB1.out.size
   by_cases h1 : x = n
   ·have he : (x == n) = true := beq_iff_eq.2 h1
    have HI2 := Lib.hid (HPL.out (.inr (.inr h1)))
    have hdn : (dn || decide (x = n)) = true := by rw [decide_eq_true h1, Bool.or_true]
    rw [hdn] at HI2
    clear HPL HPU HI hdn HCL
    subst h1
    go_wp2_with (at_builtin; refine wpList_append_own _ rfl (.tmp 34) (.tmp 39) 222 rfl w.heap.size 3 i0 _ 1 8 Tryz.underlying222 hi hz0 hz1 hz2 rfl (by decide) _ _ _ rfl HO1.out ⟨wr.heap.size, 0, none⟩ 1 1 [.int .i64 x] rfl rfl (news_at _ _ _ _ rfl) (one_int _) (by unfold maxLen; omega) (by omega) HS1.out ?_; intro v' w2 hown' hgrow hiff)
    have HB3 := Lib.hid (app_below HB1.out HS1.out HO1.out hgrow)
    have HO3 : Hid (w2.ownsRow w.heap.size 3 1 v' (out ++ [x]).length (ints (out ++ [x]))) := by unfold Hid; rw [ints_snoc, List.length_append]; exact hown'
    clear hown' hgrow hiff
    go_wp2
    go_roundw
    case rel => exact ⟨j + 1, out ++ [x], true, by omega, by go_num, rfl, by rw [List.length_append]; simp; omega, HI2, HO3, HB3⟩
    case measure => simp [intOf]; omega
   ·have he : (x == n) = false := beq_eq_false_iff_ne.2 h1
    by_cases h2 : dn = true ∨ ¬ n < x
    ·have HI2 := Lib.hid (HPL.out (by rcases h2 with h2 | h2; exact .inl h2; exact .inr (.inl (by omega))))
     have hdn : (dn || decide (x = n)) = dn := by rw [decide_eq_false h1, Bool.or_false]
     rw [hdn] at HI2
     clear HPL HPU HI hdn HCL
     cases dn with
     | true =>
      go_wp2_with (at_builtin; refine wpList_append_own _ rfl (.tmp 34) (.tmp 39) 222 rfl w.heap.size 3 i0 _ 1 8 Tryz.underlying222 hi hz0 hz1 hz2 rfl (by decide) _ _ _ rfl HO1.out ⟨wr.heap.size, 0, none⟩ 1 1 [.int .i64 x] rfl rfl (news_at _ _ _ _ rfl) (one_int _) (by unfold maxLen; omega) (by omega) HS1.out ?_; intro v' w2 hown' hgrow hiff)
      have HB3 := Lib.hid (app_below HB1.out HS1.out HO1.out hgrow)
      have HO3 : Hid (w2.ownsRow w.heap.size 3 1 v' (out ++ [x]).length (ints (out ++ [x]))) := by unfold Hid; rw [ints_snoc, List.length_append]; exact hown'
      clear hown' hgrow hiff
      go_wp2
      go_roundw
      case rel => exact ⟨j + 1, out ++ [x], true, by omega, by go_num, rfl, by rw [List.length_append]; simp at hol ⊢; omega, HI2, HO3, HB3⟩
      case measure => simp [intOf]; omega
     | false =>
      have h3 : ¬ n < x := h2.resolve_left (by decide)
      clear h2
      go_wp2_with (at_builtin; refine wpList_append_own _ rfl (.tmp 34) (.tmp 39) 222 rfl w.heap.size 3 i0 _ 1 8 Tryz.underlying222 hi hz0 hz1 hz2 rfl (by decide) _ _ _ rfl HO1.out ⟨wr.heap.size, 0, none⟩ 1 1 [.int .i64 x] rfl rfl (news_at _ _ _ _ rfl) (one_int _) (by unfold maxLen; omega) (by omega) HS1.out ?_; intro v' w2 hown' hgrow hiff)
      have HB3 := Lib.hid (app_below HB1.out HS1.out HO1.out hgrow)
      have HO3 : Hid (w2.ownsRow w.heap.size 3 1 v' (out ++ [x]).length (ints (out ++ [x]))) := by unfold Hid; rw [ints_snoc, List.length_append]; exact hown'
      clear hown' hgrow hiff
      go_wp2
      go_roundw
      case rel => exact ⟨j + 1, out ++ [x], false, by omega, by go_num, rfl, by rw [List.length_append]; simp at hol ⊢; omega, HI2, HO3, HB3⟩
      case measure => simp [intOf]; omega
    ·have h3 : dn = false := by cases dn; rfl; exact absurd (.inl rfl) h2
     have h4 : n < x := by
      rcases Int.lt_or_le n x with h | h
      ·exact h
      ·exact absurd (.inr (by omega)) h2
     have HI2 := Lib.hid (HPU.out h3 h4)
     subst h3
     clear HPL HPU HI h2
     have HA2 := Lib.hid ((Below.refl wr.heap.size wr).alloc (Nat.le_refl _) (.cells #[.int .i64 n] 3))
     have HO2 := Lib.hid (own_below HO.out HA2.out)
     have HB2 := Lib.hid (HB.out.trans (HA2.out.mono HB.out.size))
     have HS2 := Lib.hid HB2.out.size
     have hol3 : out.length ≤ j := by simpa using hol
     go_wp2_with (first | (at_builtin; (refine wpList_append_own _ rfl (.tmp 30) (.tmp 32) 222 rfl w.heap.size 3 i0 _ 1 8 Tryz.underlying222 hi hz0 hz1 hz2 rfl (by decide) _ _ _ rfl HO2.out ⟨wr.heap.size, 0, none⟩ 1 1 [.int .i64 n] rfl rfl (news_at _ _ _ _ rfl) (one_int _) (by unfold maxLen; omega) (by omega) HS2.out ?_; intro v' w2 hown' hgrow hiff; have HB3 := Lib.hid (app_below HB2.out HS2.out HO2.out hgrow); have HO3 := Lib.hid hown'; clear hown' hgrow hiff; obtain ⟨_, _, hee, _, hc0⟩ := HCL.out _ HB3.out; cases hee; have HA4 := Lib.hid ((Below.refl w2.heap.size w2).alloc (Nat.le_refl _) (.cells #[.int .i64 x] 3)); have HO4 := Lib.hid (own_below HO3.out HA4.out); have HB4 := Lib.hid (HB3.out.trans (HA4.out.mono HB3.out.size)); have HS4 := Lib.hid HB4.out.size)) | (at_builtin; (refine wpList_append_own _ rfl (.tmp 34) (.tmp 39) 222 rfl w.heap.size 3 i0 _ 1 8 Tryz.underlying222 hi hz0 hz1 hz2 rfl (by decide) _ _ _ rfl HO4.out ⟨w2.heap.size, 0, none⟩ 1 1 [.int .i64 x] rfl rfl (news_at _ _ _ _ rfl) (one_int _) (by unfold maxLen; omega) (by omega) HS4.out ?_; intro v5 w5 hown' hgrow hiff)))
     have HB5 := Lib.hid (app_below HB4.out HS4.out HO4.out hgrow)
     have HO5 : Hid (w5.ownsRow w.heap.size 3 1 v5 (out ++ [n] ++ [x]).length (ints (out ++ [n] ++ [x]))) := by unfold Hid; rw [ints_snoc, ints_snoc, List.length_append, List.length_append]; exact hown'
     clear hown' hgrow hiff
     go_wp2
     go_roundw
     case rel => exact ⟨j + 1, out ++ [n] ++ [x], true, by omega, by go_num, rfl, by rw [List.length_append, List.length_append]; simp; omega, HI2, HO5, HB5⟩
     case measure => simp [intOf]; omega
  ·obtain rfl : j = l.length := by omega
   obtain ⟨hr1, hr2⟩ := HI.out.done
   have HR1 := Lib.hid hr1
   have HR2 := Lib.hid hr2
   clear hr1 hr2
   cases dn with
   | true =>
    go_wp2
    go_ret
    first | exact ⟨_, out, rfl, HR1.out, HR2.out, by simpa using hol, HO.out, HB.out⟩ | exact ⟨_, rfl, out, HR1.out, HR2.out, by simpa using hol, HO.out, HB.out⟩
   | false =>
    have hol3 : out.length ≤ l.length := by simpa using hol
    have HA2 := Lib.hid ((Below.refl wr.heap.size wr).alloc (Nat.le_refl _) (.cells #[.int .i64 n] 3))
    have HO2 := Lib.hid (own_below HO.out HA2.out)
    have HB2 := Lib.hid (HB.out.trans (HA2.out.mono HB.out.size))
    have HS2 := Lib.hid HB2.out.size
    go_wp2_with (at_builtin; refine wpList_append_own _ rfl (.tmp 43) (.tmp 45) 222 rfl w.heap.size 3 i0 _ 1 8 Tryz.underlying222 hi hz0 hz1 hz2 rfl (by decide) _ _ _ rfl HO2.out ⟨wr.heap.size, 0, none⟩ 1 1 [.int .i64 n] rfl rfl (news_at _ _ _ _ rfl) (one_int _) (by unfold maxLen; omega) (by omega) HS2.out ?_; intro v' w2 hown' hgrow hiff)
    have HB3 := Lib.hid (app_below HB2.out HS2.out HO2.out hgrow)
    have HO3 : Hid (w2.ownsRow w.heap.size 3 1 v' (out ++ [n]).length (ints (out ++ [n]))) := by unfold Hid; rw [ints_snoc, List.length_append]; exact hown'
    clear hown' hgrow hiff
    go_wp2
    go_ret
    exact ⟨_, out ++ [n], rfl, HR1.out, HR2.out, by rw [List.length_append]; simp; omega, HO3.out, HB3.out⟩
end Go.Proofs.YtmfpjapiijgdgaaGreat
namespace Go.Proofs.YtmfpjapiijgdgaaGreat
open Go.RowKit Go.Sort Go.Proofs
set_option linter.unusedVariables false
set_option maxRecDepth 100000
set_option maxRecDepth 100000
theorem infoStayR4 : (Tryz.prog.info? 104).map (·.size) = some 4 := by kernel_rfl
theorem loadStR {W : World} {g : Nat} {a b c d : Value} {t : TypeId} (h : W.heap[g]? = some (.cells #[a, b, c, d] t (0, 0))) :
  (loadVar 104 ⟨g, 0, none⟩).run Tryz.prog W = .ok (.agg #[a, b, c, d]) W :=
 run_loadVar_mid (P := Tryz.prog) W g 0 104 [a, b, c, d] _ (fun j v hv => by
  rw [Nat.zero_add, cell_of_row _ _ _ _ _ (0, 0) h]
  simpa using hv) Tryz.underlying104 rfl infoStayR4
end Go.Proofs.YtmfpjapiijgdgaaGreat
namespace Go.Proofs.YtmfpjapiijgdgaaGreat
open Go.RowKit
set_option linter.unusedVariables false
set_option maxRecDepth 100000
set_option maxRecDepth 100000
set_option maxHeartbeats 4000000 in
theorem ends_any (a : Option Addr) (c : Nat) (l : List SpM) (w : World) (hr : SpSl w a l) (hl : l.length ≤ 100000) :
  Calls Tryz.prog 159 #[.slice a l.length c] w fun e w' => ∃ (v : Value) (r : List Int), e = .returned v ∧ IsEnds l r ∧ r.length ≤ 2 * l.length ∧ w'.ownsRow w.heap.size 3 1 v r.length (ints r) ∧ Below w.heap.size w w' := by
 have HR := Lib.hid hr
 have HPA := Lib.hid put_any
 clear hr
 go_enter Tryz.func159, Tryz.ntmps159
 go_wp2
 go_loopw [3, 4] (fun v i wr => ∃ (j : Nat) (e : List Int), j ≤ l.length ∧ i = .int .i64 j ∧ e.length ≤ 2 * j ∧ Hid (IsEnds (l.take j) e) ∧ Hid (wr.ownsRow w.heap.size 3 1 v e.length (ints e)) ∧ Hid (Below w.heap.size w wr)) (fun _ i _ => l.length - (intOf i).toNat)
 case atStart => exact ⟨0, [], by omega, rfl, by simp, IsEnds.nil, ⟨rfl, .inl ⟨rfl, rfl⟩⟩, Below.refl _ _⟩
 case round =>
  obtain ⟨j, e, hj, rfl, hel, HI, HO, HB⟩ := hrel
  by_cases hjl : j < l.length
  ·obtain ⟨b, off, rfl, hbl, hc0, hc1⟩ := (HR.out.below HB.out).at_ hjl
   have HC : Hid (l.take (j + 1) = l.take j ++ [l[j]]) := by unfold Hid; rw [List.take_succ_eq_append_getElem hjl]
   have HSC : Hid (∀ W, Below wr.heap.size wr W → W.cell? ⟨b, off + j * 2, none⟩ = some (.int .i64 l[j].f) ∧ W.cell? ⟨b, off + j * 2 + 1, none⟩ = some (.int .i64 l[j].t)) := fun W hW => by
    obtain ⟨_, _, e1, _, h1, h2⟩ := ((HR.out.below HB.out).below hW).at_ hjl
    cases e1
    exact ⟨h1, h2⟩
   generalize l[j] = x at *
   obtain ⟨va, vc, rfl, _, _, hsl, _, _⟩ := own_slice HO.out
   have HSL := Lib.hid hsl
   clear hsl
   have HTR : Hid (∀ W W', Below wr.heap.size wr W → Below W.heap.size W W' → Below wr.heap.size wr W') := fun W W' h q => h.trans (q.mono h.size)
   have hX : Below wr.heap.size wr wr.drew := (Below.refl _ _).drew
   have HP1 : Hid (Calls Tryz.prog 211 #[.slice va e.length vc, .int .i64 x.f] wr.drew _) := HPA.out va vc e x.f wr.drew (HSL.out.below hX) HI.out.1 (by omega)
   go_wp2
   go_region_held3 (fun W => W.cell? ⟨b, off + j * 2, none⟩ = some (.int .i64 x.f) ∧ W.cell? ⟨b, off + j * 2 + 1, none⟩ = some (.int .i64 x.t))
    (first | with_reducible exact HSC.out _ hX | with_reducible exact HSC.out _ hY | with_reducible exact HSC.out _ hZ | assumption)
    (first | (have hseen := hY; clear hseen; go_at_call 211; refine (HPA.out a1 c1 e1 x.t _ hs1 hrise1 (by omega)).mono ?_; rintro r w3 ⟨v2, e2, rfl, hrise2, hmem2, hlen2, hown2, hB2⟩; have hZ := HTR.out _ _ hY hB2) | (go_at_call 211; refine HP1.out.mono ?_; rintro r w2 ⟨v1, e1, rfl, hrise1, hmem1, hlen1, hown1, hB1⟩; obtain ⟨a1, c1, rfl, _, _, hs1, _, _⟩ := own_slice hown1; have hY := HTR.out _ _ hX hB1))
   have HI2 : Hid (IsEnds (l.take (j + 1)) e2) := by
    unfold Hid
    rw [HC.out]
    exact HI.out.snoc ⟨hrise1, hmem1⟩ ⟨hrise2, hmem2⟩
   have HO2 : Hid (w3.ownsRow w.heap.size 3 1 v2 e2.length (ints e2)) := own_low hown2 (Nat.le_trans HB.out.size hY.size)
   have HB2 := Lib.hid (HB.out.trans (hZ.mono HB.out.size))
   clear hown2 hown1 hmem1 hmem2 hrise1 hrise2 hX hY hZ hB1 hB2 HSC HPA HP1
   go_wp2
   go_roundw
   case rel => exact ⟨j + 1, e2, by omega, by go_num, by omega, HI2, HO2, HB2⟩
   case measure => simp [intOf]; omega
  ·obtain rfl : j = l.length := by omega
   rw [List.take_of_length_le (Nat.le_refl _)] at HI
   go_wp2
   go_ret
   first | exact ⟨_, e, rfl, HI.out, hel, HO.out, HB.out⟩ | exact ⟨_, rfl, e, HI.out, hel, HO.out, HB.out⟩
set_option maxHeartbeats 1000000 in
theorem of_any (e : EnM) (w u : ByteArray) (W : World) :
  Calls Tryz.prog 166 #[enV e, pr w u] W fun r w' => r = .returned (.bool (ofE w u e)) ∧ Below W.heap.size W w' := by
 have HB := Lib.hid (below_2 W)
 unfold enV pr
 obtain ⟨ew, eu, ef, et⟩ := e
 have HF : Hid (∀ b : Bool, (b = true ↔ ew = w ∧ eu = u) → b = ofE w u ⟨ew, eu, ef, et⟩) := fun b hb => by
  have h1 := ofE_iff (w := w) (u := u) (e := ⟨ew, eu, ef, et⟩)
  cases hc : ofE w u ⟨ew, eu, ef, et⟩ with
  | true => rw [hc] at h1; exact hb.2 (h1.1 rfl)
  | false =>
   rw [hc] at h1
   cases b with
   | false => rfl
   | true => exact absurd (h1.2 (hb.1 rfl)) Bool.false_ne_true
 dsimp only
 by_cases h0 : ew = w
 ·subst h0
  have e0 := str_eq ew
  by_cases h1 : eu = u
  ·subst h1
   have e1 := str_eq eu
   have HE := Lib.hid (HF.out true ⟨fun _ => ⟨rfl, rfl⟩, fun _ => rfl⟩)
   clear HF
   go_enter Tryz.func166, Tryz.ntmps166
   go_wp2
   go_ret
   exact ⟨retB HE.out, HB.out _ _⟩
  ·have e1 := str_ne h1
   have HE := Lib.hid (HF.out false ⟨fun h => (by cases h), fun h => absurd h.2 h1⟩)
   clear HF h1
   go_enter Tryz.func166, Tryz.ntmps166
   go_wp2
   go_ret
   exact ⟨retB HE.out, HB.out _ _⟩
 ·have e0 := str_ne h0
  have HE := Lib.hid (HF.out false ⟨fun h => (by cases h), fun h => absurd h.1 h0⟩)
  clear HF h0
  go_enter Tryz.func166, Tryz.ntmps166
  go_wp2
  go_ret
  exact ⟨retB HE.out, HB.out _ _⟩
theorem PK.cells {w W : World} {g : Nat} {p u : ByteArray} {b off : Nat} {l : List EnM} (h : PK w g p u (some ⟨b, off, none⟩) l W) {k : Nat} (hk : k < l.length) :
  W.cell? ⟨g, 0, none⟩ = some (.string p) ∧ W.cell? ⟨g, 1, none⟩ = some (.string u) ∧ W.cell? ⟨b, off + k * 4, none⟩ = some (.string l[k].w) ∧ W.cell? ⟨b, off + k * 4 + 1, none⟩ = some (.string l[k].u) ∧ W.cell? ⟨b, off + k * 4 + 2, none⟩ = some (.int .i64 l[k].f) ∧ W.cell? ⟨b, off + k * 4 + 3, none⟩ = some (.int .i64 l[k].t) := by
 obtain ⟨_, _, e, _, h0, h1, h2, h3⟩ := h.row.at_ hk
 cases e
 exact ⟨h.pc.1, h.pc.2.1, h0, h1, h2, h3⟩
theorem sizeSpR (W : World) : (sizeOf (Tryz.prog.elem 74)).run Tryz.prog W = .ok 2 W := by rfl
theorem add_zero' (a : Addr) : a.add 0 = a := by unfold Addr.add; rw [if_pos rfl]
theorem glue_front (a : Option Addr) (N c h : Nat) (hc : h ≤ c) (W : World) : (Instr.slice 74 (.slice a N c) none (some (.int .i64 (h : Int))) none).run Tryz.prog W = .ok (.slice a h c) W := by
 rw [run_slice_h W 74 a N c (by kernel_rfl) .i64 h (by omega) (by omega), sizeSpR]
 show Result.ok (sliced a 0 h c 2) W = _
 unfold sliced
 congr 2
 split
 ·rfl
 ·cases a
  ·rfl
  ·simp [add_zero']
structure GlA (W0 W : World) (b : Nat) : Prop where
 own : W.ownsRow W0.heap.size 106 2 (.slice (some ⟨b, 0, none⟩) 0 0) 0 []
 frame : Below W0.heap.size W0 W
theorem GlA.size {W0 W : World} {b : Nat} (h : GlA W0 W b) : W0.heap.size ≤ W.heap.size := h.frame.size
theorem far_news {W w2 : World} {b k : Nat} {xs : List Value} (hg : W.grownBy w2 (some b)) (hk : k < W.heap.size) (hne : k ≠ b) (h : ∀ j x, xs[j]? = some x → W.cell? ((⟨k, 0, none⟩ : Addr).add j) = some x) :
  ∀ j x, xs[j]? = some x → w2.cell? ((⟨k, 0, none⟩ : Addr).add j) = some x := fun j x hx => by
 have hb : ∀ j, ((⟨k, 0, none⟩ : Addr).add j).block = k := fun j => by unfold Addr.add; split <;> rfl
 rw [hg.cell_far _ (by rw [hb]; exact hk) (by rw [hb]; intro e; exact hne (Option.some.inj e))]
 exact h j x hx
set_option maxHeartbeats 4000000 in
theorem glue_any (B : Nat) (v : Value) (l : List SpM) (s : SpM) (w : World) (hB : B ≤ w.heap.size) (ho : w.ownsRow B 106 2 v l.length (sps l)) (hl : l.length ≤ 1000000) :
  Calls Tryz.prog 160 #[v, spV s] w fun e w' => ∃ (v' : Value), e = .returned v' ∧ w'.ownsRow B 106 2 v' (glueS l s).length (sps (glueS l s)) ∧ Below B w w' := by
 obtain ⟨i0, hi, hz0, hz1, hz2⟩ := info_parts infoSpanR
 have HO := Lib.hid ho
 rcases List.eq_nil_or_concat l with rfl | ⟨fr, u, hfu⟩
 ·rw [glueS_nil]
  obtain ⟨a, c, rfl, hc, _⟩ := own_sp ho
  clear ho
  unfold spV
  have HA1 : ∀ q, Hid (Below w.heap.size w (((w.alloc (.cells #[.int .i64 s.f, .int .i64 s.t] 106)).drewN q).alloc (.cells #[.int .i64 s.f, .int .i64 s.t] 106))) := fun q => (((Below.refl _ _).alloc (Nat.le_refl _) _).trans (Drew.below ⟨q, rfl⟩ _)).alloc (by show _ ≤ (w.alloc _).heap.size; rw [size1]; omega) _
  have HO1 := fun q => Lib.hid (own_below HO.out (HA1 q).out)
  have HS1 := fun q => Lib.hid (Nat.le_trans hB (HA1 q).out.size)
  go_enter Tryz.func160, Tryz.ntmps160
  go_wp2
  go_quiet (fail)
  go_wp2_with (at_builtin; refine wpList_append_own _ rfl (.tmp 38) (.tmp 40) 74 rfl B 106 i0 _ 2 16 Tryz.underlying74 hi hz0 hz1 hz2 rfl (by decide) _ _ _ rfl (HO1 _).out ⟨w.heap.size + 1, 0, none⟩ 1 1 [.int .i64 s.f, .int .i64 s.t] rfl rfl (news_at _ _ _ _ (by show _ = (w.alloc _).heap.size; rw [size1])) (two_one _ _) (by unfold maxLen; simp) (by simp) (HS1 _).out ?_; intro v' w2 hown' hgrow hiff)
  have HB3 := Lib.hid (app_below ((HA1 _).out.mono hB) (HS1 _).out (HO1 _).out hgrow)
  have HO3 : Hid (w2.ownsRow B 106 2 v' [s].length (sps [s])) := hown'
  clear hown' hgrow hiff
  go_wp2
  go_ret
  exact ⟨_, rfl, HO3.out, HB3.out⟩
 ·obtain rfl : l = fr ++ [u] := by rw [hfu, List.concat_eq_append]
  clear hfu
  obtain ⟨n, hn⟩ : ∃ n, n = fr.length := ⟨_, rfl⟩
  obtain ⟨N, hN⟩ : ∃ N, N = (fr ++ [u]).length := ⟨_, rfl⟩
  have hNn : N = n + 1 := by rw [hN, hn]; simp
  obtain ⟨a, cap, rfl, hcN, hsp⟩ := own_sp ho
  obtain ⟨g, off, rfl, hgw, hcx⟩ := hsp.at_ (k := n) (by rw [← hN]; omega)
  obtain rfl : off = 0 := by
   rcases ho.2 with ⟨h0, _⟩ | ⟨_, _, _, h0, _⟩
   ·cases h0
   ·cases h0; rfl
  have hcm : cap ≤ maxLen := by
   rcases ho.2 with ⟨h0, _⟩ | ⟨_, _, _, h0, _, _, _, h1, _⟩
   ·cases h0
   ·cases h0; exact h1
  have hgB : B ≤ g := (ho.lt g rfl).1
  have HCL : Hid (∀ W, Below w.heap.size w W → W.cell? ⟨g, n * 2, none⟩ = some (.int .i64 u.f) ∧ W.cell? ⟨g, n * 2 + 1, none⟩ = some (.int .i64 u.t)) := fun W hW => by
   obtain ⟨_, _, e1, _, h1, h2⟩ := (hsp.below hW).at_ (k := n) (by rw [← hN]; omega)
   cases e1
   have hx : (fr ++ [u])[n]'(by rw [← hN]; omega) = u := by subst hn; simp
   rw [hx] at h1 h2
   simp only [Nat.zero_add] at h1 h2
   exact ⟨h1, h2⟩
  have HFR : Hid (∀ W, Below w.heap.size w W → ∀ j x, (sps fr)[j]? = some x → W.cell? ((⟨g, 0, none⟩ : Addr).add j) = some x) := fun W hW j x hx => by
   refine (own_below ho hW).cells rfl j x ?_
   rw [sps_append, List.getElem?_append_left (by rcases List.getElem?_eq_some_iff.1 hx with ⟨h, _⟩; exact h)]
   exact hx
  have hNl : N ≤ 1000000 := by rw [hN]; exact hl
  have hcN' : N ≤ cap := by rw [hN]; exact hcN
  rw [← hN] at HO
  rw [← hN]
  clear ho hsp hl hcN hcx
  have HN := Lib.hid hN
  have HNL := Lib.hid hn
  clear hN hn
  unfold maxLen at hcm
  unfold spV
  rw [glueS_snoc]
  by_cases he : u.t = s.f
  ·rw [if_pos he]
   obtain ⟨c0, c1⟩ := HCL.out _ ((Below.refl w.heap.size w).alloc (Nat.le_refl _) (.cells #[.int .i64 s.f, .int .i64 s.t] 106))
   have hwr : IntKind.i64.wrap ((N : Int) - 1) = (n : Int) := by rw [IntWalk.i64_in] <;> omega
   have hb0 : (0 : Int) < (N : Int) := by omega
   have hb1 : (n : Int) < (N : Int) := by omega
   have hb2 : (0 : Int) ≤ (n : Int) := Int.natCast_nonneg _
   have hb3 : (n : Int) ≤ (cap : Int) := by omega
   have hg0 : decide (0 < N) = true := decide_eq_true (by omega)
   have hg1 : 0 < N := by omega
   have HNN := Lib.hid hNn
   have HNLE := Lib.hid hNl
   have HCN := Lib.hid hcN'
   clear hNn hNl hcN'
   go_enter Tryz.func160, Tryz.ntmps160
   go_wp2
   go_quiet (fail)
   go_wp2_with fail
   have HW0 : Hid (Below w.heap.size w ((w.alloc (.cells #[.int .i64 s.f, .int .i64 s.t] 106)).drewN nq)) := ((Below.refl _ _).alloc (Nat.le_refl _) _).trans (Drew.below ⟨nq, rfl⟩ _)
   have hP : ((w.alloc (.cells #[.int .i64 s.f, .int .i64 s.t] 106)).drewN nq).heap[w.heap.size]? = some (.cells #[.int .i64 s.f, .int .i64 s.t] 106 (0, 0)) := heap_alloc_new w _
   generalize ((w.alloc (.cells #[.int .i64 s.f, .int .i64 s.t] 106)).drewN nq) = W0 at HW0 hP ⊢
   clear c0 c1
   obtain ⟨c0, c1⟩ := HCL.out _ HW0.out
   obtain ⟨p0, p1⟩ := cells2 hP
   have HSC : Hid (∀ W, Below W0.heap.size W0 W → W.cell? ⟨g, n * 2, none⟩ = some (.int .i64 u.f) ∧ W.cell? ⟨w.heap.size, 1, none⟩ = some (.int .i64 s.t)) := fun W hW => ⟨(HCL.out _ (HW0.out.trans (hW.mono HW0.out.size))).1, (cells2 ((hW.block _ (heap_lt hP)).trans hP)).2⟩
   have HFW : Hid (∀ W, Below W0.heap.size W0 W → ∀ j x, (sps fr)[j]? = some x → W.cell? ((⟨g, 0, none⟩ : Addr).add j) = some x) := fun W hW => HFR.out W (HW0.out.trans (hW.mono HW0.out.size))
   have hX : Below W0.heap.size W0 W0.drew := (Below.refl _ _).drew
   have HAL : Hid (∀ W ob, Below W0.heap.size W0 W → Below W0.heap.size W0 (W.alloc ob)) := fun W ob h => h.alloc h.size _
   have HAS : Hid (∀ W, Below W0.heap.size W0 W → W0.heap.size ≤ (W.alloc (.cells #[.int .i64 u.f, .int .i64 s.t] 106)).heap.size) := fun W h => by rw [size1]; have := h.size; omega
   have hR : Below W0.heap.size W0 W0 := Below.refl _ _
   have hN0 : Below W0.heap.size W0 (W0.alloc (.cells #[.int .i64 u.f, .int .i64 s.t] 106)) := HAL.out _ _ hR
   have hE0 : Below W0.heap.size W0 (W0.alloc (.cells #[] 106)) := HAL.out _ _ hR
   have HG0 : Hid ((W0.alloc (.cells #[] 106)).ownsRow W0.heap.size 106 2 (.slice (some ⟨W0.heap.size, 0, none⟩) 0 0) 0 []) := World.ownsRow_lit W0 #[] 0 (Nat.le_refl _) (by unfold maxLen; omega) rfl
   have HGa : Hid (GlA W0 (W0.alloc (.cells #[] 106)).drew W0.heap.size) := ⟨HG0.out.drew, hE0.drew⟩
   have HGb : Hid (GlA W0 ((W0.alloc (.cells #[] 106)).alloc (.cells #[.int .i64 u.f, .int .i64 s.t] 106)).drew W0.heap.size) := ⟨(HG0.out.alloc _).drew, (HAL.out _ _ hE0).drew⟩
   have HGc : Hid (GlA W0 ((W0.alloc (.cells #[.int .i64 u.f, .int .i64 s.t] 106)).alloc (.cells #[] 106)).drew (W0.heap.size + 1)) := ⟨by
    have h := World.ownsRow_lit (base := W0.heap.size) (e := 106) (size := 2) (W0.alloc (.cells #[.int .i64 u.f, .int .i64 s.t] 106)) #[] 0 (by rw [size1]; omega) (by unfold maxLen; omega) rfl
    rw [size1] at h
    exact h.drew, (HAL.out _ _ hN0).drew⟩
   have HNB : Hid (∀ j x, [Value.int .i64 u.f, .int .i64 s.t][j]? = some x → ((W0.alloc (.cells #[] 106)).alloc (.cells #[.int .i64 u.f, .int .i64 s.t] 106)).drew.cell? ((⟨W0.heap.size + 1, 0, none⟩ : Addr).add j) = some x) := news_at (W0.alloc (.cells #[] 106)) _ _ _ (by rw [size1])
   have HNC : Hid (∀ j x, [Value.int .i64 u.f, .int .i64 s.t][j]? = some x → ((W0.alloc (.cells #[.int .i64 u.f, .int .i64 s.t] 106)).alloc (.cells #[] 106)).drew.cell? ((⟨W0.heap.size, 0, none⟩ : Addr).add j) = some x) := fun j x hx => by
    have hb : ((⟨W0.heap.size, 0, none⟩ : Addr).add j).block = W0.heap.size := by unfold Addr.add; split <;> rfl
    have h0 := news_at W0 #[Value.int .i64 u.f, .int .i64 s.t] 106 _ rfl j x hx
    have h1 : ((W0.alloc (.cells #[.int .i64 u.f, .int .i64 s.t] 106)).alloc (.cells #[] 106)).heap[W0.heap.size]? = (W0.alloc (.cells #[.int .i64 u.f, .int .i64 s.t] 106)).heap[W0.heap.size]? := heap_alloc_old _ _ (by rw [size1]; omega)
    exact (World.cell?_of_block (by rw [hb]; exact h1)).trans h0
   have HKB : Hid (W0.heap.size + 1 < ((W0.alloc (.cells #[] 106)).alloc (.cells #[.int .i64 u.f, .int .i64 s.t] 106)).drew.heap.size) := by unfold Hid; show _ < ((W0.alloc _).alloc _).heap.size; rw [size1, size1]; omega
   have HKC : Hid (W0.heap.size < ((W0.alloc (.cells #[.int .i64 u.f, .int .i64 s.t] 106)).alloc (.cells #[] 106)).drew.heap.size) := by unfold Hid; show _ < ((W0.alloc _).alloc _).heap.size; rw [size1, size1]; omega
   have hNa : Below W0.heap.size W0 (W0.alloc (.cells #[.int .i64 u.f, .int .i64 s.t] 106)).drew := hN0.drew
   have HLEN : Hid ((sps fr).length = n * 2) := by unfold Hid; rw [sps_len, ← HNL.out]
   have HONE : Hid (∀ x ∈ sps fr, x.oneCell' = true) := fun x hx => by
    unfold sps at hx
    obtain ⟨y, _, hy⟩ := List.mem_flatMap.1 hx
    exact two_one _ _ x hy
   have HM1 : Hid (0 + n ≤ maxLen) := by unfold Hid maxLen; have := HNN.out; have := HNLE.out; omega
   have HM2 : Hid ((0 + n) * 16 ≤ 140737488355328) := by unfold Hid; have := HNN.out; have := HNLE.out; omega
   have HM3 : Hid (0 + n + 1 ≤ maxLen) := by unfold Hid maxLen; have := HNN.out; have := HNLE.out; omega
   have HM4 : Hid ((0 + n + 1) * 16 ≤ 140737488355328) := by unfold Hid; have := HNN.out; have := HNLE.out; omega
   have HSI := glue_front (some ⟨g, 0, none⟩) N cap n (by omega)
   clear hR hN0 hE0
   go_region_held3 (fun W => W.cell? ⟨g, n * 2, none⟩ = some (.int .i64 u.f) ∧ W.cell? ⟨w.heap.size, 1, none⟩ = some (.int .i64 s.t))
    (first | with_reducible exact HSC.out _ hX | with_reducible exact HSC.out _ hZ | with_reducible exact HSC.out _ hY | with_reducible exact HSC.out _ (HAL.out _ _ hY) | with_reducible exact HSC.out _ HGa.out.frame | with_reducible exact HSC.out _ HGb.out.frame | with_reducible exact HSC.out _ HGc.out.frame | with_reducible exact HSC.out _ hNa | assumption)
    (first | (have hseen := hY; clear hseen; first | (refine step_own rfl (.tmp 26) (.tmp 36) 74 rfl W0.heap.size 106 i0 _ 2 16 Tryz.underlying74 hi hz0 hz1 hz2 rfl (by decide) v1 (0 + n) ([] ++ sps fr) rfl hown1 ⟨_, 0, none⟩ 1 1 [.int .i64 u.f, .int .i64 s.t] rfl rfl hN (two_one _ _) HM3.out HM4.out hY.size ?_; intro v3 w4 hown3 hgrow3; have hZ := app_below hY hY.size hown1 hgrow3) | (refine step_own rfl (.tmp 26) (.tmp 36) 74 rfl W0.heap.size 106 i0 _ 2 16 Tryz.underlying74 hi hz0 hz1 hz2 rfl (by decide) v1 (0 + n) ([] ++ sps fr) rfl (hown1.alloc _) ⟨w2.heap.size, 0, none⟩ 1 1 [.int .i64 u.f, .int .i64 s.t] rfl rfl (news_at _ _ _ _ rfl) (two_one _ _) HM3.out HM4.out (HAS.out _ hY) ?_; intro v3 w4 hown3 hgrow3; have hZ := app_below (HAL.out _ _ hY) (HAS.out _ hY) (hown1.alloc _) hgrow3)) | (refine step_own rfl (.tmp 21) (.tmp 25) 74 rfl W0.heap.size 106 i0 _ 2 16 Tryz.underlying74 hi hz0 hz1 hz2 rfl (by decide) _ 0 [] rfl HGa.out.own ⟨g, 0, none⟩ n cap (sps fr) rfl HLEN.out (HFW.out _ HGa.out.frame) HONE.out HM1.out HM2.out HGa.out.size ?_; intro v1 w2 hown1 hgrow; have hY := app_below HGa.out.frame HGa.out.size HGa.out.own hgrow) | (refine step_own rfl (.tmp 21) (.tmp 25) 74 rfl W0.heap.size 106 i0 _ 2 16 Tryz.underlying74 hi hz0 hz1 hz2 rfl (by decide) _ 0 [] rfl HGb.out.own ⟨g, 0, none⟩ n cap (sps fr) rfl HLEN.out (HFW.out _ HGb.out.frame) HONE.out HM1.out HM2.out HGb.out.size ?_; intro v1 w2 hown1 hgrow; have hY := app_below HGb.out.frame HGb.out.size HGb.out.own hgrow; have hN := far_news (b := W0.heap.size) (k := W0.heap.size + 1) hgrow HKB.out (Nat.succ_ne_self _) HNB.out) | (refine step_own rfl (.tmp 21) (.tmp 25) 74 rfl W0.heap.size 106 i0 _ 2 16 Tryz.underlying74 hi hz0 hz1 hz2 rfl (by decide) _ 0 [] rfl HGc.out.own ⟨g, 0, none⟩ n cap (sps fr) rfl HLEN.out (HFW.out _ HGc.out.frame) HONE.out HM1.out HM2.out HGc.out.size ?_; intro v1 w2 hown1 hgrow; have hY := app_below HGc.out.frame HGc.out.size HGc.out.own hgrow; have hN := far_news (b := W0.heap.size + 1) (k := W0.heap.size) hgrow HKC.out (Nat.ne_of_lt (Nat.lt_succ_self _)) HNC.out))
   all_goals
    have HO4 : Hid (w4.ownsRow B 106 2 v3 (fr ++ [(⟨u.f, s.t⟩ : SpM)]).length (sps (fr ++ [(⟨u.f, s.t⟩ : SpM)]))) := by
     unfold Hid
     rw [sps_snoc, List.length_append, ← HNL.out]
     have h := own_low hown3 (Nat.le_trans hB HW0.out.size)
     rw [Nat.zero_add] at h
     exact h
    have HB4 := Lib.hid ((HW0.out.mono hB).trans (hZ.mono (Nat.le_trans hB HW0.out.size)))
    clear hown3 hgrow3 hgrow hown1 hY hZ
    go_wp2
    go_ret
    exact ⟨_, rfl, HO4.out, HB4.out⟩
  ·rw [if_neg he]
   obtain ⟨c0, c1⟩ := HCL.out _ ((Below.refl w.heap.size w).alloc (Nat.le_refl _) (.cells #[.int .i64 s.f, .int .i64 s.t] 106))
   have hwr : IntKind.i64.wrap ((N : Int) - 1) = (n : Int) := by rw [IntWalk.i64_in] <;> omega
   have hb0 : (0 : Int) < (N : Int) := by omega
   have hb1 : (n : Int) < (N : Int) := by omega
   have hb2 : (0 : Int) ≤ (n : Int) := Int.natCast_nonneg _
   have hb3 : (n : Int) ≤ (cap : Int) := by omega
   have hg0 : decide (0 < N) = true := decide_eq_true (by omega)
   have hg1 : 0 < N := by omega
   have he0 : (u.t == s.f) = false := beq_eq_false_iff_ne.2 he
   have he1 : decide (u.t = s.f) = false := decide_eq_false he
   have HNN := Lib.hid hNn
   have HM3 : Hid (N + 1 ≤ maxLen) := by unfold Hid maxLen; omega
   have HM4 : Hid ((N + 1) * 16 ≤ 140737488355328) := by unfold Hid; omega
   have HA1 : ∀ q, Hid (Below w.heap.size w (((w.alloc (.cells #[.int .i64 s.f, .int .i64 s.t] 106)).drewN q).alloc (.cells #[.int .i64 s.f, .int .i64 s.t] 106))) := fun q => (((Below.refl _ _).alloc (Nat.le_refl _) _).trans (Drew.below ⟨q, rfl⟩ _)).alloc (by show _ ≤ (w.alloc _).heap.size; rw [size1]; omega) _
   have HO1 := fun q => Lib.hid (own_below HO.out (HA1 q).out)
   have HS1 := fun q => Lib.hid (Nat.le_trans hB (HA1 q).out.size)
   clear hNn hNl hcN'
   go_enter Tryz.func160, Tryz.ntmps160
   go_wp2
   go_quiet (fail)
   go_wp2_with (at_builtin; refine wpList_append_own _ rfl (.tmp 38) (.tmp 40) 74 rfl B 106 i0 _ 2 16 Tryz.underlying74 hi hz0 hz1 hz2 rfl (by decide) _ _ _ rfl (HO1 _).out ⟨w.heap.size + 1, 0, none⟩ 1 1 [.int .i64 s.f, .int .i64 s.t] rfl rfl (news_at _ _ _ _ (by show _ = (w.alloc _).heap.size; rw [size1])) (two_one _ _) HM3.out HM4.out (HS1 _).out ?_; intro v' w2 hown' hgrow hiff)
   have HB3 := Lib.hid (app_below ((HA1 _).out.mono hB) (HS1 _).out (HO1 _).out hgrow)
   have HO3 : Hid (w2.ownsRow B 106 2 v' (fr ++ [u] ++ [s]).length (sps (fr ++ [u] ++ [s]))) := by
    unfold Hid
    rw [sps_snoc, List.length_append, ← HN.out]
    exact hown'
   clear hown' hgrow hiff
   go_wp2
   go_ret
   exact ⟨_, rfl, HO3.out, HB3.out⟩
end Go.Proofs.YtmfpjapiijgdgaaGreat
