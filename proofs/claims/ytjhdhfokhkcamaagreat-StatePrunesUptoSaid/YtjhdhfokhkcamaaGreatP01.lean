/- Texts of mine, one behind the other, of each what is wanted: G0 W0 AA0 AB0 W1 W2 AB1 AA1 AA2 BN1 BN3. -/
import Derived.Test.YtjhdhfokhkcamaaGreatProg
import Derived.WalkKit
import Derived.WalkLawsBesides
import Derived.Lib.Hide
import Derived.Lib.Bytealg
import Derived.Deep.QuietTactic
import Derived.BigQuiet
import Derived.Deep.Draws
import Derived.Below
import Derived.WalkSmall
import Derived.OwnWalk
import Derived.Maps.AppendAt
import Derived.Laws.AppendOwnNone
import Derived.BigRegion
import Derived.Deep.MidRow
import Derived.Deep.RegionHeld3
import Derived.Lib.SlicesCompact
import Derived.Test.YtjhdhfokhkcamaaGreatShelf
import Derived.Shelf.Slices.Clone
import Derived.Shelf.Slices.CompactS
import Derived.Shelf.SlSortCmp.NoneTotal
import Derived.Sort.OwnSorted
import Derived.Sort.Grow
import Derived.Lib.OwnBridge
namespace Go.Proofs.YtjhdhfokhkcamaaGreat
open Go.RowKit
set_option linter.unusedVariables false
set_option maxRecDepth 100000
theorem retB {a b : Bool} (h : a = b) : Ending.returned (.bool a) = .returned (.bool b) := by rw [h]
theorem retI {k : IntKind} {a b : Int} (h : a = b) : Ending.returned (.int k a) = .returned (.int k b) := by rw [h]
def toL (b : ByteArray) : List UInt8 := b.data.toList
def tx (l : List UInt8) : ByteArray := ⟨l.toArray⟩
theorem tx_toL (b : ByteArray) : tx (toL b) = b := by cases b; simp [toL, tx]
theorem toL_inj {a b : ByteArray} (h : toL a = toL b) : a = b := by rw [← tx_toL a, h, tx_toL]
theorem toList_tx (l : List UInt8) : (tx l).toList = l := by rw [ByteArray.toList_eq]; simp [tx]
def Sl (w : World) (a : Option Addr) (xs : List Value) : Prop :=
  ∀ k (h : k < xs.length), ∃ b off, a = some ⟨b, off, none⟩ ∧ b < w.heap.size ∧ w.cell? ⟨b, off + k, none⟩ = some xs[k]
theorem Sl.below {w w' : World} {a : Option Addr} {xs : List Value} (h : Sl w a xs) (hb : Below w.heap.size w w') : Sl w' a xs := fun k hk => by
  obtain ⟨b, off, e, hlt, hc⟩ := h k hk
  exact ⟨b, off, e, Nat.lt_of_lt_of_le hlt hb.size, (hb.cell (p := ⟨b, off + k, none⟩) hlt).trans hc⟩
theorem Sl.drewN {w : World} {a : Option Addr} {xs : List Value} (h : Sl w a xs) (n : Nat) : Sl (w.drewN n) a xs := h
def strs (l : List ByteArray) : List Value := l.map .string
theorem strs_length (l : List ByteArray) : (strs l).length = l.length := by simp [strs]
theorem Sl.str {w : World} {a : Option Addr} {l : List ByteArray} (h : Sl w a (strs l)) {k : Nat} (hk : k < l.length) :
    ∃ b off, a = some ⟨b, off, none⟩ ∧ b < w.heap.size ∧ w.cell? ⟨b, off + k, none⟩ = some (.string l[k]) := by
  obtain ⟨b, off, e, hlt, hc⟩ := h k (by rw [strs_length]; exact hk)
  exact ⟨b, off, e, hlt, by rw [hc]; simp [strs]⟩
def Fits (l : List ByteArray) : Prop := l.length ≤ maxLen ∧ ∀ s ∈ l, s.size ≤ maxLen
def Drew (w w' : World) : Prop := ∃ n, w' = w.drewN n
theorem Drew.refl (w : World) : Drew w w := ⟨0, rfl⟩
theorem Drew.below {w w' : World} (h : Drew w w') (B : Nat) : Below B w w' := by obtain ⟨n, rfl⟩ := h; exact ⟨rfl, rfl, rfl, Nat.le_refl _, fun _ _ => rfl⟩
theorem Drew.trans {w w' w'' : World} (h : Drew w w') (k : Drew w' w'') : Drew w w'' := by
  obtain ⟨n, rfl⟩ := h; obtain ⟨m, rfl⟩ := k; exact ⟨_, by rw [World.drewN_drewN]⟩
theorem own_base {w : World} {B B' e k n : Nat} {v : Value} {xs : List Value} (h : w.ownsRow B e k v n xs) (hB : B' ≤ B) : w.ownsRow B' e k v n xs := by
  refine ⟨h.1, ?_⟩
  rcases h.2 with h | ⟨g, cap, cur, r1, r2, r3⟩
  · exact .inl h
  · exact .inr ⟨g, cap, cur, r1, Nat.le_trans hB r2, r3⟩
theorem sl_lit (w : World) (xs : Array Value) (t : TypeId) : Sl (w.alloc (.cells xs t)) (some ⟨w.heap.size, 0, none⟩) xs.toList := fun k hk => by
  refine ⟨_, _, rfl, by simp, ?_⟩
  rw [cell_of_row _ _ _ xs t (0, 0) (heap_alloc_new w _), Nat.zero_add]
  have : k < xs.size := by simpa using hk
  simp [Array.getElem?_eq_getElem this]
theorem Sl.cells {w : World} {ad : Addr} {xs : List Value} (h : Sl w (some ad) xs) : ∀ j u, xs[j]? = some u → w.cell? (ad.add j) = some u := fun j u hu => by
  have hj : j < xs.length := by
    rcases Nat.lt_or_ge j xs.length with h1 | h1
    · exact h1
    · rw [List.getElem?_eq_none h1] at hu; cases hu
  obtain ⟨b, off, e, _, hc⟩ := h j hj
  cases e
  rw [Go.WideShapes.add_plain, hc]
  rw [List.getElem?_eq_getElem hj] at hu
  exact hu
end Go.Proofs.YtjhdhfokhkcamaaGreat
namespace Go.Proofs.YtjhdhfokhkcamaaGreat
set_option linter.unusedVariables false
set_option maxRecDepth 100000
structure SpM where
  f : Int
  t : Int
def HasL (l : List SpM) (x : Int) : Prop := ∃ s ∈ l, s.f ≤ x ∧ x < s.t
end Go.Proofs.YtjhdhfokhkcamaaGreat
namespace Go.Proofs.YtjhdhfokhkcamaaGreat
open Go.Lib
set_option linter.unusedVariables false
set_option maxRecDepth 100000
theorem cb_refl : ∀ a : List UInt8, compareBytes a a = 0
  | [] => rfl
  | x :: r => by unfold compareBytes; rw [if_neg (by simp), if_neg (by simp)]; exact cb_refl r
theorem cb_eq : ∀ a b : List UInt8, compareBytes a b = 0 → a = b
  | [], [], _ => rfl
  | [], _ :: _, h => by simp [compareBytes] at h
  | _ :: _, [], h => by simp [compareBytes] at h
  | x :: r, y :: s, h => by
    unfold compareBytes at h
    split at h
    · simp at h
    · split at h
      · simp at h
      · rename_i h1 h2
        have e : x = y := by
          rw [UInt8.lt_iff_toNat_lt] at h1 h2
          exact UInt8.toNat_inj.1 (by omega)
        rw [e, cb_eq r s h]
theorem cb_neg : ∀ a b : List UInt8, compareBytes b a = - compareBytes a b
  | [], [] => rfl
  | [], _ :: _ => rfl
  | _ :: _, [] => rfl
  | x :: r, y :: s => by
    unfold compareBytes
    simp only [UInt8.lt_iff_toNat_lt]
    by_cases h1 : x.toNat < y.toNat
    · have h2 : ¬ y.toNat < x.toNat := by omega
      simp only [h1, h2, ↓reduceIte]; rfl
    · by_cases h2 : y.toNat < x.toNat
      · simp only [h1, h2, ↓reduceIte]
      · simp only [h1, h2, ↓reduceIte]; exact cb_neg r s
theorem cb_trans : ∀ a b c : List UInt8, compareBytes a b < 0 → compareBytes b c < 0 → compareBytes a c < 0
  | [], [], _, h, _ => by simp [compareBytes] at h
  | _ :: _, [], _, h, _ => by simp [compareBytes] at h
  | _, _ :: _, [], _, h => by simp [compareBytes] at h
  | [], _ :: _, _ :: _, _, _ => by simp [compareBytes]
  | x :: r, y :: s, z :: t, h1, h2 => by
    unfold compareBytes at h1 h2 ⊢
    simp only [UInt8.lt_iff_toNat_lt] at h1 h2 ⊢
    by_cases a1 : x.toNat < y.toNat
    · by_cases a2 : y.toNat < z.toNat
      · rw [if_pos (by omega)]; omega
      · rw [if_neg a2] at h2
        by_cases a3 : z.toNat < y.toNat
        · rw [if_pos a3] at h2; omega
        · rw [if_pos (by omega)]; omega
    · rw [if_neg a1] at h1
      by_cases a3 : y.toNat < x.toNat
      · rw [if_pos a3] at h1; omega
      · rw [if_neg a3] at h1
        by_cases a2 : y.toNat < z.toNat
        · rw [if_pos (by omega)]; omega
        · rw [if_neg a2] at h2
          by_cases a4 : z.toNat < y.toNat
          · rw [if_pos a4] at h2; omega
          · rw [if_neg a4] at h2
            rw [if_neg (by omega), if_neg (by omega)]
            exact cb_trans r s t h1 h2
def isB (c : UInt8) : Bool := (97 ≤ c && c ≤ 122) || (48 ≤ c && c ≤ 57)
def isName (l : List UInt8) : Bool := decide (1 ≤ l.length) && decide (l.length ≤ 12) && l.all isB
theorem isB_eq (c : UInt8) : isB c = ((decide (97 ≤ (c.toNat : Int)) && decide ((c.toNat : Int) ≤ 122)) || (decide (48 ≤ (c.toNat : Int)) && decide ((c.toNat : Int) ≤ 57))) := by
  unfold isB
  simp only [UInt8.le_iff_toNat_le]
  rw [Bool.eq_iff_iff]
  simp
  omega
theorem all_take_succ (p : UInt8 → Bool) (s : ByteArray) (k : Nat) (h : k < s.size) (h1 : (s.data.toList.take k).all p = true) (h2 : p s[k] = true) : (s.data.toList.take (k + 1)).all p = true := by
  rw [List.take_succ_eq_append_getElem (by simpa using h), List.all_append, h1]
  simp only [List.all_cons, List.all_nil, Bool.and_true, Bool.true_and]
  exact h2
theorem all_false_of (p : UInt8 → Bool) (s : ByteArray) (k : Nat) (h : k < s.size) (h2 : p s[k] = false) : s.data.toList.all p = false := by
  rw [List.all_eq_false]
  exact ⟨s[k], by simp [ByteArray.getElem_eq_getElem_data], by simp [h2]⟩
theorem isName_short (s : ByteArray) (h : s.size < 1 ∨ 12 < s.size) : isName s.data.toList = false := by
  unfold isName
  have : s.data.toList.length = s.size := by simp
  rw [this]
  rcases h with h | h
  · simp; omega
  · simp; omega
theorem isName_all (s : ByteArray) (h1 : 1 ≤ s.size) (h2 : s.size ≤ 12) (k : Nat) (hk : s.size ≤ k) (h : (s.data.toList.take k).all isB = true) : isName s.data.toList = true := by
  unfold isName
  rw [List.take_of_length_le (by simpa using hk)] at h
  have : s.data.toList.length = s.size := by simp
  rw [this, h]
  simp
  omega
theorem isName_not (s : ByteArray) (k : Nat) (h : k < s.size) (h2 : isB s[k] = false) : isName s.data.toList = false := by
  unfold isName
  rw [all_false_of isB s k h h2]
  simp
theorem all_take_next (p : ByteArray → Bool) (l : List ByteArray) (k : Nat) (h : k < l.length) (h1 : (l.take k).all p = true) (h2 : p l[k] = true) : (l.take (k + 1)).all p = true := by
  rw [List.take_succ_eq_append_getElem h, List.all_append, h1]
  simp only [List.all_cons, List.all_nil, Bool.and_true, Bool.true_and]
  exact h2
theorem all_not_at (p : ByteArray → Bool) (l : List ByteArray) (k : Nat) (h : k < l.length) (h2 : p l[k] = false) : l.all p = false := by
  rw [List.all_eq_false]
  exact ⟨l[k], List.getElem_mem h, by simp [h2]⟩
theorem all_take_end (p : ByteArray → Bool) (l : List ByteArray) (k : Nat) (h : l.length ≤ k) (h1 : (l.take k).all p = true) : l.all p = true := by
  rwa [List.take_of_length_le h] at h1
end Go.Proofs.YtjhdhfokhkcamaaGreat
namespace Go.Proofs.YtjhdhfokhkcamaaGreat
set_option linter.unusedVariables false
set_option maxRecDepth 100000
def cmpS (a b : ByteArray) : Int := Lib.compareBytes a.data.toList b.data.toList
def cmpP (a b c d : ByteArray) : Int := if cmpS a c = 0 then cmpS b d else cmpS a c
theorem cmpS_self (a : ByteArray) : cmpS a a = 0 := cb_refl _
theorem cmpS_eq {a b : ByteArray} : cmpS a b = 0 ↔ a = b := ⟨fun h => toL_inj (cb_eq _ _ h), fun h => by rw [h]; exact cmpS_self _⟩
theorem cmpS_neg (a b : ByteArray) : cmpS b a = - cmpS a b := cb_neg _ _
theorem cmpS_trans {a b c : ByteArray} (h : cmpS a b < 0) (k : cmpS b c < 0) : cmpS a c < 0 := cb_trans _ _ _ h k
theorem cmpP_eq {a b c d : ByteArray} : cmpP a b c d = 0 ↔ a = c ∧ b = d := by
  unfold cmpP
  by_cases h : cmpS a c = 0
  · rw [if_pos h, cmpS_eq]
    exact ⟨fun k => ⟨cmpS_eq.1 h, k⟩, fun k => k.2⟩
  · rw [if_neg h]
    exact ⟨fun k => absurd k h, fun k => absurd (cmpS_eq.2 k.1) h⟩
theorem cmpP_neg (a b c d : ByteArray) : cmpP c d a b = - cmpP a b c d := by
  unfold cmpP
  have h1 := cmpS_neg a c
  have h2 := cmpS_neg b d
  by_cases h : cmpS a c = 0
  · rw [if_pos h, if_pos (by omega)]; exact h2
  · rw [if_neg h, if_neg (by omega)]; exact h1
theorem cmpP_trans {a b c d e f : ByteArray} (h : cmpP a b c d < 0) (k : cmpP c d e f < 0) : cmpP a b e f < 0 := by
  unfold cmpP at *
  by_cases h1 : cmpS a c = 0
  · rw [if_pos h1] at h
    obtain rfl := cmpS_eq.1 h1
    by_cases h2 : cmpS a e = 0
    · rw [if_pos h2] at k ⊢
      exact cmpS_trans h k
    · rw [if_neg h2] at k ⊢
      exact k
  · rw [if_neg h1] at h
    by_cases h2 : cmpS c e = 0
    · obtain rfl := cmpS_eq.1 h2
      rw [if_neg h1]
      exact h
    · rw [if_neg h2] at k
      have h3 := cmpS_trans h k
      rw [if_neg (by omega)]
      exact h3
structure EnM where
  w : ByteArray
  u : ByteArray
  f : Int
  t : Int
instance : Inhabited EnM := ⟨⟨ByteArray.empty, ByteArray.empty, 0, 0⟩⟩
theorem EnM.same {a b : EnM} (h1 : a.w = b.w) (h2 : a.u = b.u) (h3 : a.f = b.f) (h4 : a.t = b.t) : a = b := by
  obtain ⟨_, _, _, _⟩ := a
  obtain ⟨_, _, _, _⟩ := b
  simp only at h1 h2 h3 h4
  rw [h1, h2, h3, h4]
theorem EnM.iff {a b : EnM} : a = b ↔ a.w = b.w ∧ a.u = b.u ∧ a.f = b.f ∧ a.t = b.t := ⟨fun h => by rw [h]; exact ⟨rfl, rfl, rfl, rfl⟩, fun h => EnM.same h.1 h.2.1 h.2.2.1 h.2.2.2⟩
instance enDec : DecidableEq EnM := fun a b => decidable_of_iff (a.w = b.w ∧ a.u = b.u ∧ a.f = b.f ∧ a.t = b.t) EnM.iff.symm
def EnM.sp (a : EnM) : SpM := ⟨a.f, a.t⟩
def pc (a b : EnM) : Int := cmpP a.w a.u b.w b.u
theorem pc_eq {a b : EnM} : pc a b = 0 ↔ a.w = b.w ∧ a.u = b.u := cmpP_eq
theorem pc_neg (a b : EnM) : pc b a = - pc a b := cmpP_neg _ _ _ _
theorem pc_trans {a b c : EnM} (h : pc a b < 0) (k : pc b c < 0) : pc a c < 0 := cmpP_trans h k
theorem pc_left {a b c : EnM} (h : pc a b = 0) : pc a c = pc b c := by
  obtain ⟨h1, h2⟩ := pc_eq.1 h
  unfold pc
  rw [h1, h2]
theorem pc_right {a b c : EnM} (h : pc b c = 0) : pc a b = pc a c := by
  obtain ⟨h1, h2⟩ := pc_eq.1 h
  unfold pc
  rw [h1, h2]
def aheadE (a b : EnM) : Prop := pc a b < 0 ∨ (pc a b = 0 ∧ a.f < b.f)
instance aheadDec (a b : EnM) : Decidable (aheadE a b) := by unfold aheadE; infer_instance
def ofE (w u : ByteArray) (e : EnM) : Bool := decide (e.w = w ∧ e.u = u)
theorem ofE_iff {w u : ByteArray} {e : EnM} : ofE w u e = true ↔ e.w = w ∧ e.u = u := decide_eq_true_iff
def infE (w u : ByteArray) (e : EnM) : Bool := ofE w u e && decide (e.t = 1099511627776)
theorem infE_iff {w u : ByteArray} {e : EnM} : infE w u e = true ↔ e.w = w ∧ e.u = u ∧ e.t = 1099511627776 := by
  unfold infE
  rw [Bool.and_eq_true, ofE_iff, decide_eq_true_iff, and_assoc]
def mkE (w u : ByteArray) (a : Int) : EnM := ⟨w, u, a, 1099511627776⟩
structure IsFirst (p : EnM → Bool) (l : List EnM) (k : Nat) : Prop where
  le : k ≤ l.length
  low : ∀ i (h : i < l.length), i < k → p l[i] = false
  hit : ∀ (h : k < l.length), p l[k] = true
theorem first_idx (p : EnM → Bool) (l : List EnM) : IsFirst p l (l.findIdx p) :=
  ⟨List.findIdx_le_length, fun i h h1 => by simpa using List.not_of_lt_findIdx h1, fun h => List.findIdx_getElem (w := h)⟩
theorem IsFirst.only {p : EnM → Bool} {l : List EnM} {a b : Nat} (ha : IsFirst p l a) (hb : IsFirst p l b) : a = b := by
  have h1 := ha.le
  have h2 := hb.le
  rcases Nat.lt_trichotomy a b with h | h | h
  · have k1 := ha.hit (by omega)
    rw [hb.low a (by omega) h] at k1
    cases k1
  · exact h
  · have k1 := hb.hit (by omega)
    rw [ha.low b (by omega) h] at k1
    cases k1
theorem IsFirst.idx {p : EnM → Bool} {l : List EnM} {k : Nat} (h : IsFirst p l k) : l.findIdx p = k := (first_idx p l).only h
theorem IsFirst.any {p : EnM → Bool} {l : List EnM} {k : Nat} (h : IsFirst p l k) : l.any p = decide (k < l.length) := by
  by_cases h1 : k < l.length
  · rw [decide_eq_true h1, List.any_eq_true]
    exact ⟨_, List.getElem_mem h1, h.hit h1⟩
  · rw [decide_eq_false h1, List.any_eq_false]
    intro x hx
    obtain ⟨i, hi, rfl⟩ := List.getElem_of_mem hx
    rw [h.low i hi (by omega)]
    exact Bool.false_ne_true
def grantS (l : List EnM) (e : EnM) : List EnM := l.take (l.findIdx fun x => decide (aheadE e x)) ++ e :: l.drop (l.findIdx fun x => decide (aheadE e x))
def endS (e : EnM) (a : Int) : List EnM := if a ≤ e.f then [] else [⟨e.w, e.u, e.f, a⟩]
def cutS (l : List EnM) (k : Nat) (a : Int) : List EnM := match l[k]? with
  | some e => l.take k ++ (endS e a ++ l.drop (k + 1))
  | none => l
def revokeS (l : List EnM) (w u : ByteArray) (a : Int) : List EnM := cutS l (l.findIdx (infE w u)) a
theorem grant_at {l : List EnM} {e : EnM} {k : Nat} (h : IsFirst (fun x => decide (aheadE e x)) l k) : grantS l e = l.take k ++ e :: l.drop k := by
  unfold grantS
  rw [h.idx]
theorem cut_at {l : List EnM} {k : Nat} (h : k < l.length) (a : Int) : cutS l k a = l.take k ++ (endS l[k] a ++ l.drop (k + 1)) := by
  unfold cutS
  rw [List.getElem?_eq_getElem h]
theorem revoke_at {l : List EnM} {w u : ByteArray} {k : Nat} (h : IsFirst (infE w u) l k) (a : Int) : revokeS l w u a = cutS l k a := by
  unfold revokeS
  rw [h.idx]
theorem endS_len (e : EnM) (a : Int) : (endS e a).length ≤ 1 := by
  unfold endS
  split <;> simp
theorem grant_len (l : List EnM) (e : EnM) : (grantS l e).length = l.length + 1 := by
  have h := (first_idx (fun x => decide (aheadE e x)) l).le
  unfold grantS
  generalize l.findIdx _ = k at *
  simp only [List.length_append, List.length_take, List.length_cons, List.length_drop]
  omega
theorem cut_len (l : List EnM) (k : Nat) (a : Int) : (cutS l k a).length ≤ l.length := by
  by_cases h : k < l.length
  · have h1 := endS_len l[k] a
    rw [cut_at h]
    simp only [List.length_append, List.length_take, List.length_drop]
    omega
  · unfold cutS
    rw [List.getElem?_eq_none (by omega)]
    exact Nat.le_refl _
theorem revoke_len (l : List EnM) (w u : ByteArray) (a : Int) : (revokeS l w u a).length ≤ l.length := cut_len _ _ _
theorem split_at {l : List EnM} {k : Nat} (h : k < l.length) : l = l.take k ++ (l[k] :: l.drop (k + 1)) := by
  rw [← List.drop_eq_getElem_cons h, List.take_append_drop]
def perS (l : List EnM) (w u : ByteArray) : List SpM := (l.filter (ofE w u)).map EnM.sp
theorem per_has {l : List EnM} {w u : ByteArray} {x : Int} : HasL (perS l w u) x ↔ ∃ e ∈ l, (e.w = w ∧ e.u = u) ∧ e.f ≤ x ∧ x < e.t := by
  unfold HasL perS
  constructor
  · rintro ⟨s, hs, h1, h2⟩
    obtain ⟨e, he, rfl⟩ := List.mem_map.1 hs
    obtain ⟨he1, he2⟩ := List.mem_filter.1 he
    exact ⟨e, he1, ofE_iff.1 he2, h1, h2⟩
  · rintro ⟨e, he, h, h1, h2⟩
    exact ⟨e.sp, List.mem_map.2 ⟨e, List.mem_filter.2 ⟨he, ofE_iff.2 h⟩, rfl⟩, h1, h2⟩
def nameB (s : ByteArray) : Bool := isName s.data.toList
def OkE (e : EnM) : Prop := e.f < e.t ∧ nameB e.w = true ∧ nameB e.u = true
instance okDec (e : EnM) : Decidable (OkE e) := by unfold OkE; infer_instance
def FolE (a b : EnM) : Prop := aheadE a b ∧ (a.w = b.w ∧ a.u = b.u → a.t ≤ b.f)
instance folDec (a b : EnM) : Decidable (FolE a b) := by unfold FolE; infer_instance
def RiseE (l : List EnM) : Prop := ∀ k (h : k < l.length), OkE l[k] ∧ (0 < k → FolE (l[k - 1]'(by omega)) l[k])
instance riseEDec (l : List EnM) : Decidable (RiseE l) := by unfold RiseE; infer_instance
def BelE (a b : EnM) : Prop := pc a b < 0 ∨ (pc a b = 0 ∧ a.t ≤ b.f)
theorem fol_bel {a b : EnM} (h : FolE a b) : BelE a b := by
  obtain ⟨h1, h2⟩ := h
  rcases h1 with h1 | ⟨h1, h3⟩
  · exact Or.inl h1
  · exact Or.inr ⟨h1, h2 (pc_eq.1 h1)⟩
theorem bel_fol {a b : EnM} (h : BelE a b) (ha : a.f < a.t) : FolE a b := by
  rcases h with h | ⟨h, h1⟩
  · exact ⟨Or.inl h, fun k => by have := pc_eq.2 k; omega⟩
  · exact ⟨Or.inr ⟨h, by omega⟩, fun _ => h1⟩
theorem bel_trans {a b c : EnM} (h : BelE a b) (k : BelE b c) (hb : b.f < b.t) : BelE a c := by
  rcases h with h | ⟨h, h1⟩
  · rcases k with k | ⟨k, k1⟩
    · exact Or.inl (pc_trans h k)
    · exact Or.inl (by rw [← pc_right k]; exact h)
  · rcases k with k | ⟨k, k1⟩
    · exact Or.inl (by rw [pc_left h]; exact k)
    · exact Or.inr ⟨by rw [pc_left h]; exact k, by omega⟩
theorem riseE_iff {l : List EnM} : RiseE l ↔ (∀ e ∈ l, OkE e) ∧ l.Pairwise BelE := by
  constructor
  · intro h
    refine ⟨fun s hs => ?_, ?_⟩
    · obtain ⟨k, hk, rfl⟩ := List.getElem_of_mem hs
      exact (h k hk).1
    · rw [List.pairwise_iff_getElem]
      intro i j hi hj hij
      induction j with
      | zero => omega
      | succ j ih =>
        have h1 := fol_bel ((h (j + 1) hj).2 (by omega))
        rcases Nat.lt_or_ge i j with h2 | h2
        · exact bel_trans (ih (by omega) h2) h1 (h j (by omega)).1.1
        · obtain rfl : i = j := by omega
          exact h1
  · rintro ⟨h1, h2⟩ k hk
    exact ⟨h1 _ (List.getElem_mem hk), fun h0 => bel_fol (List.pairwise_iff_getElem.1 h2 (k - 1) k (by omega) hk (by omega)) (h1 _ (List.getElem_mem _)).1⟩
theorem rise_filter {l : List EnM} (h : RiseE l) (p : EnM → Bool) : RiseE (l.filter p) := by
  rw [riseE_iff] at *
  exact ⟨fun e he => h.1 e (List.mem_filter.1 he).1, h.2.sublist List.filter_sublist⟩
def withoutS (l : List EnM) (s : ByteArray) : List EnM := l.filter fun e => decide (e.w ≠ s) && decide (e.u ≠ s)
def aftE (l : List EnM) (t : Int) : List EnM := l.filter fun e => decide (t < e.t)
theorem grant_back {l : List EnM} {w u : ByteArray} {a : Int} (h : l.any (infE w u) = false) : revokeS (grantS l (mkE w u a)) w u a = l ∧ (grantS l (mkE w u a)).any (infE w u) = true := by
  have hno : ∀ e ∈ l, infE w u e = false := fun e he => by
    have := List.any_eq_false.1 h e he
    simpa using this
  have hle := (first_idx (fun x => decide (aheadE (mkE w u a) x)) l).le
  unfold grantS
  generalize l.findIdx _ = k at *
  have hlen : (l.take k).length = k := by rw [List.length_take]; omega
  have hk : k < (l.take k ++ mkE w u a :: l.drop k).length := by rw [List.length_append, hlen, List.length_cons]; omega
  have hg : (l.take k ++ mkE w u a :: l.drop k)[k] = mkE w u a := by
    rw [List.getElem_append_right (by omega)]
    simp [hlen]
  have hF : IsFirst (infE w u) (l.take k ++ mkE w u a :: l.drop k) k := ⟨Nat.le_of_lt hk, fun i hi hik => by
    rw [List.getElem_append_left (by omega)]
    exact hno _ (List.mem_of_mem_take (List.getElem_mem _)), fun _ => by rw [hg]; exact infE_iff.2 ⟨rfl, rfl, rfl⟩⟩
  refine ⟨?_, by rw [hF.any]; exact decide_eq_true hk⟩
  rw [revoke_at hF, cut_at hk, hg]
  unfold endS
  rw [if_pos (show a ≤ (mkE w u a).f from Int.le_refl a), List.nil_append, List.take_append_of_le_length (by omega), List.take_of_length_le (by omega), List.drop_append, hlen, List.drop_of_length_le (by omega), List.nil_append, show k + 1 - k = 1 by omega, List.drop_one, List.tail_cons, List.take_append_drop]
structure GoE (m : List EnM) (a : Int) : Prop where
  rise : RiseE m
  bnd : ∀ e ∈ m, 0 ≤ e.f ∧ e.f ≤ a ∧ (e.t = 1099511627776 ∨ e.t ≤ a)
theorem GoE.nil : GoE [] 0 := ⟨fun k h => absurd h (by simp), fun e h => by cases h⟩
theorem pair_mid {A B : List EnM} {R : EnM → EnM → Prop} : (A ++ B).Pairwise R ↔ A.Pairwise R ∧ B.Pairwise R ∧ ∀ x ∈ A, ∀ y ∈ B, R x y := List.pairwise_append
theorem GoE.grant {m : List EnM} {a b : Int} {w u : ByteArray} (h : GoE m a) (ha : 0 ≤ a) (hab : a ≤ b) (hb : b < 1099511627776) (hw : nameB w = true) (hu : nameB u = true) (hi : m.any (infE w u) = false) :
    GoE (grantS m (mkE w u b)) b ∧ (∀ x, HasL (perS (grantS m (mkE w u b)) w u) x ↔ HasL (perS m w u) x ∨ (b ≤ x ∧ x < 1099511627776)) ∧ (grantS m (mkE w u b)).any (infE w u) = true := by
  have hno : ∀ e ∈ m, e.w = w ∧ e.u = u → e.t ≤ a := fun e he hp => by
    have h1 := List.any_eq_false.1 hi e he
    rcases (h.bnd e he).2.2 with h2 | h2
    · exact absurd (infE_iff.2 ⟨hp.1, hp.2, h2⟩) h1
    · exact h2
  have hF := first_idx (fun x => decide (aheadE (mkE w u b) x)) m
  have hB := (grant_back (a := b) hi).2
  obtain ⟨hok, hpw⟩ := riseE_iff.1 h.rise
  rw [grant_at hF] at hB ⊢
  generalize m.findIdx _ = k at *
  have hlo : ∀ x ∈ m.take k, BelE x (mkE w u b) := fun x hx => by
    have hxm := List.mem_of_mem_take hx
    obtain ⟨i, hi, rfl⟩ := List.getElem_of_mem hx
    rw [List.length_take] at hi
    rw [List.getElem_take] at *
    have h1 := hF.low i (by omega) (by omega)
    rw [decide_eq_false_iff_not] at h1
    generalize m[i] = y at *
    rcases Int.lt_trichotomy (pc y (mkE w u b)) 0 with h2 | h2 | h2
    · exact Or.inl h2
    · exact Or.inr ⟨h2, Int.le_trans (hno y hxm (pc_eq.1 h2)) hab⟩
    · exact absurd (Or.inl (by have := pc_neg y (mkE w u b); omega)) h1
  have hhi : ∀ y ∈ m.drop k, BelE (mkE w u b) y := fun y hy => by
    by_cases hk : k < m.length
    · have h1 : aheadE (mkE w u b) m[k] := of_decide_eq_true (hF.hit hk)
      have hmk := List.getElem_mem hk
      have h2 : pc (mkE w u b) m[k] < 0 := by
        rcases h1 with h1 | ⟨h1, h2⟩
        · exact h1
        · have h3 := (h.bnd _ hmk).2.1
          have h4 : b < m[k].f := h2
          omega
      have h5 : BelE m[k] y ∨ m[k] = y := by
        rw [List.drop_eq_getElem_cons hk] at hy
        rcases List.mem_cons.1 hy with h6 | h6
        · exact Or.inr h6.symm
        · left
          obtain ⟨j, hj, rfl⟩ := List.getElem_of_mem h6
          rw [List.getElem_drop]
          exact List.pairwise_iff_getElem.1 hpw k _ hk (by rw [List.length_drop] at hj; omega) (by omega)
      rcases h5 with h5 | h5
      · exact bel_trans (Or.inl h2) h5 (hok _ hmk).1
      · rw [← h5]; exact Or.inl h2
    · rw [List.drop_of_length_le (by omega)] at hy; cases hy
  have hmem : ∀ e, e ∈ m.take k ++ mkE w u b :: m.drop k ↔ e ∈ m ∨ e = mkE w u b := fun e => by
    conv => rhs; rw [← List.take_append_drop k m]
    simp only [List.mem_append, List.mem_cons]
    constructor
    · rintro (h | h | h)
      · exact Or.inl (Or.inl h)
      · exact Or.inr h
      · exact Or.inl (Or.inr h)
    · rintro ((h | h) | h)
      · exact Or.inl h
      · exact Or.inr (Or.inr h)
      · exact Or.inr (Or.inl h)
  refine ⟨⟨riseE_iff.2 ⟨fun e he => ?_, ?_⟩, fun e he => ?_⟩, fun x => ?_, hB⟩
  · rcases (hmem e).1 he with h1 | rfl
    · exact hok e h1
    · exact ⟨hb, hw, hu⟩
  · rw [pair_mid, List.pairwise_cons]
    conv at hpw => rw [← List.take_append_drop k m, pair_mid]
    refine ⟨hpw.1, ⟨hhi, hpw.2.1⟩, fun x hx y hy => ?_⟩
    rcases List.mem_cons.1 hy with rfl | hy
    · exact hlo x hx
    · exact hpw.2.2 x hx y hy
  · rcases (hmem e).1 he with h1 | rfl
    · obtain ⟨h2, h3, h4⟩ := h.bnd e h1
      exact ⟨h2, by omega, by omega⟩
    · exact ⟨by show 0 ≤ b; omega, Int.le_refl b, Or.inl rfl⟩
  · rw [per_has, per_has]
    constructor
    · rintro ⟨e, he, hp, h1, h2⟩
      rcases (hmem e).1 he with h3 | rfl
      · exact Or.inl ⟨e, h3, hp, h1, h2⟩
      · exact Or.inr ⟨h1, h2⟩
    · rintro (⟨e, he, hp, h1⟩ | h1)
      · exact ⟨e, (hmem e).2 (Or.inl he), hp, h1⟩
      · exact ⟨_, (hmem _).2 (Or.inr rfl), ⟨rfl, rfl⟩, h1⟩
theorem GoE.revoke {m : List EnM} {a b : Int} {w u : ByteArray} (h : GoE m a) (ha : 0 ≤ a) (hab : a ≤ b) (hb : b < 1099511627776) (hi : m.any (infE w u) = true) :
    GoE (revokeS m w u b) b ∧ (∀ x, HasL (perS (revokeS m w u b) w u) x ↔ HasL (perS m w u) x ∧ ¬ (b ≤ x ∧ x < 1099511627776)) ∧ (revokeS m w u b).any (infE w u) = false := by
  have hF := first_idx (infE w u) m
  rw [revoke_at hF]
  generalize m.findIdx _ = k at *
  have hk : k < m.length := by rw [hF.any] at hi; exact of_decide_eq_true hi
  obtain ⟨hok, hpw⟩ := riseE_iff.1 h.rise
  have hmk := List.getElem_mem hk
  obtain ⟨hkw, hku, hkt⟩ := infE_iff.1 (hF.hit hk)
  have hbk := h.bnd _ hmk
  -- every other entry of the pair has ended
  have hoth : ∀ i (hi : i < m.length), i ≠ k → (m[i].w = w ∧ m[i].u = u) → m[i].t ≤ a := fun i hi hne hp => by
    rcases (h.bnd _ (List.getElem_mem hi)).2.2 with h2 | h2
    · have hp0 : pc m[i] m[k] = 0 := pc_eq.2 ⟨hp.1.trans hkw.symm, hp.2.trans hku.symm⟩
      have hn := pc_neg m[i] m[k]
      have hfi := (h.bnd _ (List.getElem_mem hi)).2.1
      rcases Nat.lt_or_ge i k with h3 | h3
      · rcases List.pairwise_iff_getElem.1 hpw i k hi hk h3 with h4 | ⟨_, h4⟩
        · omega
        · omega
      · rcases List.pairwise_iff_getElem.1 hpw k i hk hi (by omega) with h4 | ⟨_, h4⟩
        · omega
        · omega
    · exact h2
  have hsplit : ∀ e, e ∈ m → e = m[k] ∨ (e ∈ m.take k ++ m.drop (k + 1)) := fun e he => by
    rw [split_at hk, List.mem_append, List.mem_cons] at he
    rw [List.mem_append]
    rcases he with h1 | h1 | h1
    · exact Or.inr (Or.inl h1)
    · exact Or.inl h1
    · exact Or.inr (Or.inr h1)
  have hidx : ∀ e, e ∈ m.take k ++ m.drop (k + 1) → e ∈ m ∧ ((e.w = w ∧ e.u = u) → e.t ≤ a) := fun e he => by
    rcases List.mem_append.1 he with h1 | h1
    · refine ⟨List.mem_of_mem_take h1, ?_⟩
      obtain ⟨i, hi, rfl⟩ := List.getElem_of_mem h1
      rw [List.length_take] at hi
      rw [List.getElem_take]
      exact hoth i (by omega) (by omega)
    · refine ⟨List.mem_of_mem_drop h1, ?_⟩
      obtain ⟨i, hi, rfl⟩ := List.getElem_of_mem h1
      rw [List.length_drop] at hi
      rw [List.getElem_drop]
      exact hoth (k + 1 + i) (by omega) (by omega)
  have hend : ∀ e, e ∈ endS m[k] b ↔ m[k].f < b ∧ e = ⟨m[k].w, m[k].u, m[k].f, b⟩ := fun e => by
    unfold endS
    split
    · exact ⟨fun h => by (cases h), fun h => by omega⟩
    · rw [List.mem_singleton]
      exact ⟨fun h => ⟨by omega, h⟩, fun h => h.2⟩
  have hmem : ∀ e, e ∈ m.take k ++ (endS m[k] b ++ m.drop (k + 1)) ↔ e ∈ m.take k ++ m.drop (k + 1) ∨ e ∈ endS m[k] b := fun e => by
    simp only [List.mem_append]
    constructor
    · rintro (h | h | h)
      · exact Or.inl (Or.inl h)
      · exact Or.inr h
      · exact Or.inl (Or.inr h)
    · rintro ((h | h) | h)
      · exact Or.inl h
      · exact Or.inr (Or.inr h)
      · exact Or.inr (Or.inl h)
  have hpk : ∀ c : EnM, pc (⟨m[k].w, m[k].u, m[k].f, b⟩ : EnM) c = pc m[k] c := fun c => rfl
  have hpk2 : ∀ c : EnM, pc c (⟨m[k].w, m[k].u, m[k].f, b⟩ : EnM) = pc c m[k] := fun c => rfl
  rw [cut_at hk]
  refine ⟨⟨riseE_iff.2 ⟨fun e he => ?_, ?_⟩, fun e he => ?_⟩, fun x => ?_, ?_⟩
  · rcases (hmem e).1 he with h1 | h1
    · exact hok e (hidx e h1).1
    · obtain ⟨h2, rfl⟩ := (hend e).1 h1
      exact ⟨h2, (hok _ hmk).2⟩
  · have hpw2 := hpw
    conv at hpw2 => rw [split_at hk, pair_mid, List.pairwise_cons]
    obtain ⟨p1, ⟨p2, p3⟩, p4⟩ := hpw2
    rw [pair_mid, pair_mid]
    refine ⟨p1, ⟨?_, p3, fun x hx y hy => ?_⟩, fun x hx y hy => ?_⟩
    · unfold endS
      split
      · exact List.Pairwise.nil
      · exact List.pairwise_singleton _ _
    · obtain ⟨h2, rfl⟩ := (hend x).1 hx
      rcases p2 y hy with h3 | ⟨h3, h4⟩
      · exact Or.inl h3
      · have := (h.bnd y (hidx y (List.mem_append_right _ hy)).1).2.1
        omega
    · rcases List.mem_append.1 hy with hy | hy
      · obtain ⟨h2, rfl⟩ := (hend y).1 hy
        exact p4 x hx m[k] (List.mem_cons_self)
      · exact p4 x hx y (List.mem_cons_of_mem _ hy)
  · rcases (hmem e).1 he with h1 | h1
    · obtain ⟨h2, h3, h4⟩ := h.bnd e (hidx e h1).1
      exact ⟨h2, by omega, by omega⟩
    · obtain ⟨h2, rfl⟩ := (hend e).1 h1
      exact ⟨hbk.1, by show m[k].f ≤ b; omega, Or.inr (Int.le_refl b)⟩
  · rw [per_has, per_has]
    constructor
    · rintro ⟨e, he, hp, h1, h2⟩
      rcases (hmem e).1 he with h3 | h3
      · have := (hidx e h3).2 hp
        exact ⟨⟨e, (hidx e h3).1, hp, h1, h2⟩, by omega⟩
      · obtain ⟨h4, rfl⟩ := (hend e).1 h3
        have h1' : m[k].f ≤ x := h1
        have h2' : x < b := h2
        exact ⟨⟨_, hmk, ⟨hkw, hku⟩, h1', by omega⟩, by omega⟩
    · rintro ⟨⟨e, he, hp, h1, h2⟩, h3⟩
      rcases hsplit e he with rfl | h4
      · have h5 : x < b := by omega
        exact ⟨⟨m[k].w, m[k].u, m[k].f, b⟩, (hmem _).2 (Or.inr ((hend _).2 ⟨by omega, rfl⟩)), hp, h1, h5⟩
      · exact ⟨e, (hmem e).2 (Or.inl h4), hp, h1, h2⟩
  · rw [List.any_eq_false]
    intro e he hc
    obtain ⟨h1, h2, h3⟩ := infE_iff.1 hc
    rcases (hmem e).1 he with h4 | h4
    · have := (hidx e h4).2 ⟨h1, h2⟩
      omega
    · obtain ⟨_, rfl⟩ := (hend e).1 h4
      have h5 : b = 1099511627776 := h3
      omega
end Go.Proofs.YtjhdhfokhkcamaaGreat
namespace Go.Proofs.YtjhdhfokhkcamaaGreat
open Go.RowKit
set_option linter.unusedVariables false
set_option maxRecDepth 100000
set_option maxRecDepth 100000
theorem size1 (w : World) (o : Obj) : (w.alloc o).heap.size = w.heap.size + 1 := by simp
theorem own_below {w w' : World} {B e k n : Nat} {v : Value} {xs : List Value} (h : w.ownsRow B e k v n xs) (hb : Below w.heap.size w w') : w'.ownsRow B e k v n xs := by
  refine ⟨h.1, ?_⟩
  rcases h.2 with h | ⟨g, cap, cur, r1, r2, r3, r4⟩
  · exact .inl h
  · refine .inr ⟨g, cap, cur, r1, r2, ?_, r4⟩
    rw [hb.block g ?_]
    · exact r3
    · rcases Nat.lt_or_ge g w.heap.size with h1 | h1
      · exact h1
      · rw [Array.getElem?_eq_none h1] at r3; cases r3
theorem app_below {B : Nat} {w W w' : World} {e k n : Nat} {v : Value} {xs : List Value} (hB : Below B w W) (hs : B ≤ W.heap.size) (ho : W.ownsRow B e k v n xs) (hg : W.grownBy w' v.ownBlock) : Below B w w' :=
  hB.grown hg hs (fun j hj => (ho.lt j hj).1)
theorem news_at (W : World) (xs : Array Value) (t : TypeId) (g : Nat) (hg : g = W.heap.size) : ∀ j u, xs.toList[j]? = some u → (W.alloc (.cells xs t)).cell? ((⟨g, 0, none⟩ : Addr).add j) = some u := by
  subst hg; exact Sl.cells (sl_lit W xs t)
theorem below_two (w : World) (o p : Obj) : Below w.heap.size w ((w.alloc o).alloc p) := ((Below.refl _ _).alloc (Nat.le_refl _) _).alloc (by rw [size1]; omega) _
theorem heap_lt {W : World} {G : Nat} {o : Obj} (h : W.heap[G]? = some o) : G < W.heap.size := (Array.getElem?_eq_some_iff.1 h).1
theorem heap_setCell_at {w : World} {p : Nat} {cur : Array Value} {t : TypeId} (h : w.heap[p]? = some (.cells cur t (0, 0))) (i : Nat) (v : Value) :
    (w.setCell ⟨p, i, none⟩ v).heap[p]? = some (.cells (cur.setIfInBounds i v) t (0, 0)) := by
  obtain ⟨hlt, hk⟩ := Array.getElem?_eq_some_iff.1 h
  show (w.heap.modify p _)[p]? = _
  rw [Array.getElem?_eq_getElem (by rw [Array.size_modify]; exact hlt), Array.getElem_modify_self, hk]
  rfl
theorem results_cell1 {fn : Func} {p : Tmp} {ty : TypeId} (h : fn.results = #[.cell p ty]) (tmps : Array Value) (P : Program) (w : World) :
    (results fn tmps).run P w = ((asAddr (tmps.getD p undef)).run P w).andThen fun a w₁ => (loadVar ty a).run P w₁ := by
  simp only [results, h]
  simp [Sem.run_bind, Result.andThen]
def I64 (n : Int) : Prop := -9223372036854775808 ≤ n ∧ n ≤ 9223372036854775807
theorem none_any (f t : Int) (w : World) : Calls Tryz.prog 135 #[.agg #[.int .i64 f, .int .i64 t]] w fun e w' => e = .returned (.bool (decide (t ≤ f))) ∧ Below w.heap.size w w' := by
  have HBB := Lib.hid (fun o => (Below.refl w.heap.size w).alloc (Nat.le_refl _) o)
  go_enter Tryz.func135, Tryz.ntmps135
  go_wp2
  go_ret
  exact ⟨retB (by simp), HBB.out _⟩
end Go.Proofs.YtjhdhfokhkcamaaGreat
namespace Go.Proofs.YtjhdhfokhkcamaaGreat
open Go.RowKit
set_option linter.unusedVariables false
set_option maxRecDepth 100000
set_option maxRecDepth 100000
theorem take_same {α : Type} {l m : List α} {j : Nat} (hl : j < l.length) (hm : j < m.length) (h : l.take j = m.take j) (e : l[j] = m[j]) : l.take (j + 1) = m.take (j + 1) := by
  rw [List.take_add_one, List.take_add_one, List.getElem?_eq_getElem hl, List.getElem?_eq_getElem hm, h, e]
end Go.Proofs.YtjhdhfokhkcamaaGreat
namespace Go.Proofs.YtjhdhfokhkcamaaGreat
open Go.RowKit
set_option linter.unusedVariables false
set_option maxRecDepth 100000
set_option maxRecDepth 100000
def encE (s : EnM) : List Value := [.string s.w, .string s.u, .int .i64 s.f, .int .i64 s.t]
def ens (l : List EnM) : List Value := l.flatMap encE
theorem ens_cons (s : EnM) (l : List EnM) : ens (s :: l) = encE s ++ ens l := by simp [ens]
theorem ens_len (l : List EnM) : (ens l).length = l.length * 4 := by
  induction l with
  | nil => rfl
  | cons e l ih => rw [ens_cons, List.length_append, ih, List.length_cons]; simp only [encE, List.length_cons, List.length_nil]; omega
theorem ens_append (l m : List EnM) : ens (l ++ m) = ens l ++ ens m := by simp [ens]
theorem ens_snoc (l : List EnM) (x : EnM) : ens (l ++ [x]) = ens l ++ [.string x.w, .string x.u, .int .i64 x.f, .int .i64 x.t] := by simp [ens, encE]
theorem ens_take (l : List EnM) (j : Nat) (h : j < l.length) : ens (l.take (j + 1)) = ens (l.take j) ++ [.string l[j].w, .string l[j].u, .int .i64 l[j].f, .int .i64 l[j].t] := by
  rw [List.take_succ_eq_append_getElem h]; exact ens_snoc _ _
theorem ens_get (l : List EnM) : ∀ (k : Nat) (h : k < l.length), (ens l)[k * 4]? = some (.string l[k].w) ∧ (ens l)[k * 4 + 1]? = some (.string l[k].u) ∧ (ens l)[k * 4 + 2]? = some (.int .i64 l[k].f) ∧ (ens l)[k * 4 + 3]? = some (.int .i64 l[k].t) := by
  induction l with
  | nil => intro k h; exact absurd h (by simp)
  | cons x l ih =>
    intro k h
    rw [ens_cons]
    cases k with
    | zero => exact ⟨rfl, rfl, rfl, rfl⟩
    | succ k =>
      have := ih k (by simpa using h)
      rw [show (k + 1) * 4 = k * 4 + 1 + 1 + 1 + 1 by omega]
      simpa [encE] using this
def EnSl (w : World) (a : Option Addr) (l : List EnM) : Prop := ∀ k (h : k < l.length), ∃ b off, a = some ⟨b, off, none⟩ ∧ b < w.heap.size ∧
  w.cell? ⟨b, off + k * 4, none⟩ = some (.string l[k].w) ∧ w.cell? ⟨b, off + k * 4 + 1, none⟩ = some (.string l[k].u) ∧ w.cell? ⟨b, off + k * 4 + 2, none⟩ = some (.int .i64 l[k].f) ∧ w.cell? ⟨b, off + k * 4 + 3, none⟩ = some (.int .i64 l[k].t)
theorem EnSl.nil (w : World) (a : Option Addr) : EnSl w a [] := fun k h => absurd h (by simp)
theorem EnSl.below {w w' : World} {a : Option Addr} {l : List EnM} (h : EnSl w a l) (hb : Below w.heap.size w w') : EnSl w' a l := fun k hk => by
  obtain ⟨b, off, e, hlt, h0, h1, h2, h3⟩ := h k hk
  exact ⟨b, off, e, Nat.lt_of_lt_of_le hlt hb.size, (hb.cell (p := ⟨b, off + k * 4, none⟩) hlt).trans h0, (hb.cell (p := ⟨b, off + k * 4 + 1, none⟩) hlt).trans h1, (hb.cell (p := ⟨b, off + k * 4 + 2, none⟩) hlt).trans h2, (hb.cell (p := ⟨b, off + k * 4 + 3, none⟩) hlt).trans h3⟩
theorem EnSl.at_ {w : World} {a : Option Addr} {l : List EnM} (h : EnSl w a l) {k : Nat} (hk : k < l.length) : ∃ b off, a = some ⟨b, off, none⟩ ∧ b < w.heap.size ∧
    w.cell? ⟨b, off + k * 4, none⟩ = some (.string l[k].w) ∧ w.cell? ⟨b, off + k * 4 + 1, none⟩ = some (.string l[k].u) ∧ w.cell? ⟨b, off + k * 4 + 2, none⟩ = some (.int .i64 l[k].f) ∧ w.cell? ⟨b, off + k * 4 + 3, none⟩ = some (.int .i64 l[k].t) := h k hk
theorem EnSl.take {w : World} {a : Option Addr} {l : List EnM} (h : EnSl w a l) (n : Nat) : EnSl w a (l.take n) := fun k hk => by
  have hk2 : k < l.length := by simp at hk; omega
  obtain ⟨b, off, e, hlt, h0, h1, h2, h3⟩ := h k hk2
  rw [List.getElem_take]
  exact ⟨b, off, e, hlt, h0, h1, h2, h3⟩
theorem EnSl.drop {w : World} {b off : Nat} {l : List EnM} (h : EnSl w (some ⟨b, off, none⟩) l) (n : Nat) : EnSl w (some ⟨b, off + n * 4, none⟩) (l.drop n) := fun k hk => by
  have hk2 : n + k < l.length := by simp at hk; omega
  obtain ⟨b', off', e, hlt, h0, h1, h2, h3⟩ := h (n + k) hk2
  cases e
  rw [List.getElem_drop]
  have e1 : off + n * 4 + k * 4 = off + (n + k) * 4 := by omega
  exact ⟨b, off + n * 4, rfl, hlt, by rw [e1]; exact h0, by rw [e1]; exact h1, by rw [e1]; exact h2, by rw [e1]; exact h3⟩
theorem EnSl.cells {w : World} {a : Option Addr} {l : List EnM} (h : EnSl w a l) : ∀ ad, a = some ad → ∀ j u, (ens l)[j]? = some u → w.cell? (ad.add j) = some u := fun ad ha j u hu => by
  have hj : j < l.length * 4 := by rw [← ens_len]; exact (List.getElem?_eq_some_iff.1 hu).1
  have hk : j / 4 < l.length := by omega
  obtain ⟨b, off, e, _, h1, h2, h3, h4⟩ := h (j / 4) hk
  rw [ha] at e
  cases e
  obtain ⟨g1, g2, g3, g4⟩ := ens_get l (j / 4) hk
  have hadd : (⟨b, off, none⟩ : Addr).add j = ⟨b, off + j, none⟩ := by
    unfold Addr.add
    split
    · rename_i h; subst h; rfl
    · rfl
  rw [hadd]
  have hd : j = j / 4 * 4 ∨ j = j / 4 * 4 + 1 ∨ j = j / 4 * 4 + 2 ∨ j = j / 4 * 4 + 3 := by omega
  generalize j / 4 = k at *
  rcases hd with rfl | rfl | rfl | rfl
  · rw [g1] at hu
    cases hu
    exact h1
  · rw [g2] at hu
    cases hu
    exact h2
  · rw [g3] at hu
    cases hu
    exact h3
  · rw [g4] at hu
    cases hu
    exact h4
theorem four_e (a b : ByteArray) (c d : Int) : ∀ u ∈ [Value.string a, .string b, .int .i64 c, .int .i64 d], u.oneCell' = true := by
  intro u hu
  simp only [List.mem_cons, List.mem_nil_iff, or_false] at hu
  rcases hu with rfl | rfl | rfl | rfl <;> rfl
theorem ens_one (l : List EnM) : ∀ u ∈ ens l, u.oneCell' = true := fun u hu => by
  unfold ens at hu
  obtain ⟨y, _, hy⟩ := List.mem_flatMap.1 hu
  exact four_e _ _ _ _ u hy
theorem own_en {w : World} {B e : Nat} {v : Value} {l : List EnM} (h : w.ownsRow B e 4 v l.length (ens l)) : ∃ a c, v = .slice a l.length c ∧ l.length ≤ c ∧ c ≤ maxLen ∧ EnSl w a l ∧ (a = none → c = 0) := by
  rcases h.2 with ⟨rfl, hn⟩ | ⟨g, cap, cur, rfl, hg, hh, hn, hc, hsz, ht⟩
  · have : l = [] := List.eq_nil_of_length_eq_zero hn
    subst this
    exact ⟨none, 0, rfl, Nat.le_refl _, by unfold maxLen; omega, EnSl.nil _ _, fun _ => rfl⟩
  · have hlt : g < w.heap.size := by
      rcases Nat.lt_or_ge g w.heap.size with h1 | h1
      · exact h1
      · rw [Array.getElem?_eq_none h1] at hh; cases hh
    refine ⟨_, cap, rfl, hn, hc, fun k hk => ⟨g, 0, rfl, hlt, ?_, ?_, ?_, ?_⟩, fun e => by cases e⟩
    · have hg := (ens_get l k hk).1
      rw [← ht, List.getElem?_take, if_pos (by omega), Array.getElem?_toList] at hg
      rw [cell_of_row w g _ cur e (0, 0) hh, Nat.zero_add, hg]
    · have hg := (ens_get l k hk).2.1
      rw [← ht, List.getElem?_take, if_pos (by omega), Array.getElem?_toList] at hg
      rw [cell_of_row w g _ cur e (0, 0) hh, Nat.zero_add, hg]
    · have hg := (ens_get l k hk).2.2.1
      rw [← ht, List.getElem?_take, if_pos (by omega), Array.getElem?_toList] at hg
      rw [cell_of_row w g _ cur e (0, 0) hh, Nat.zero_add, hg]
    · have hg := (ens_get l k hk).2.2.2
      rw [← ht, List.getElem?_take, if_pos (by omega), Array.getElem?_toList] at hg
      rw [cell_of_row w g _ cur e (0, 0) hh, Nat.zero_add, hg]
theorem cells_en (W : World) (l : List EnM) (xs : Array Value) (t : TypeId) (g : Nat) (hg : g = W.heap.size) (hx : xs.toList = ens l) : EnSl (W.alloc (.cells xs t)) (some ⟨g, 0, none⟩) l := fun k hk => by
  subst hg
  obtain ⟨g1, g2, g3, g4⟩ := ens_get l k hk
  rw [← hx, Array.getElem?_toList] at g1 g2 g3 g4
  refine ⟨W.heap.size, 0, rfl, by rw [size1]; omega, ?_, ?_, ?_, ?_⟩
  · rw [cell_of_row _ _ _ xs t (0, 0) (heap_alloc_new W _), Nat.zero_add, g1]
  · rw [cell_of_row _ _ _ xs t (0, 0) (heap_alloc_new W _), Nat.zero_add, g2]
  · rw [cell_of_row _ _ _ xs t (0, 0) (heap_alloc_new W _), Nat.zero_add, g3]
  · rw [cell_of_row _ _ _ xs t (0, 0) (heap_alloc_new W _), Nat.zero_add, g4]
def enV (s : EnM) : Value := .agg #[.string s.w, .string s.u, .int .i64 s.f, .int .i64 s.t]
theorem infoEn : (Tryz.prog.info? 123).map (fun i => (i.zero, i.size, i.bytes)) = some (some (.agg #[.string ⟨#[]⟩, .string ⟨#[]⟩, .int .i64 0, .int .i64 0]), 4, 48) := by kernel_rfl
theorem infoEnR : (Tryz.prog.info? 82).map (fun i => (i.zero, i.size, i.bytes)) = some (some (.agg #[.string ⟨#[]⟩, .string ⟨#[]⟩, .int .i64 0, .int .i64 0]), 4, 48) := by kernel_rfl
theorem ecells4 {g : Nat} {a b c d : Value} {t : TypeId} {W : World} (h : W.heap[g]? = some (.cells #[a, b, c, d] t (0, 0))) : W.cell? ⟨g, 0, none⟩ = some a ∧ W.cell? ⟨g, 1, none⟩ = some b ∧ W.cell? ⟨g, 2, none⟩ = some c ∧ W.cell? ⟨g, 3, none⟩ = some d :=
  ⟨cell_of_row _ _ _ _ _ _ h, cell_of_row _ _ _ _ _ _ h, cell_of_row _ _ _ _ _ _ h, cell_of_row _ _ _ _ _ _ h⟩
theorem wpList_append_en {P : Program} (w : World) {ops : Array Oper} {rest : List Oper} {o : Oper} {a : Act} {Q : Exit → Act → World → Prop} (hgd : o.guard = none) (s x : Operand) (t : TypeId)
    (ho : o.op = .call { callee := .builtin .append, args := #[s, x], argTypes := #[t, t] })
    (base : Nat) (e : TypeId) (i : TypeInfo) (z : Value) (ht : P.underlying t = some (.slice e)) (hi : P.info? e = some i) (hz : i.zero = some z)
    (hsize : i.size = 4) (hby : i.bytes = 48) (hzs : z.cells.size = 4)
    (v : Value) (l : List EnM) (hs : a.eval s = v) (hown : w.ownsRow base e 4 v l.length (ens l))
    (A : Option Addr) (c : Nat) (m : List EnM) (hx : a.eval x = .slice A m.length c) (hsl : EnSl w A m) (hnil : A = none → c = 0)
    (hlen : l.length + m.length ≤ 1000000) (hbase : base ≤ w.heap.size)
    (h : ∀ v' w', w'.ownsRow base e 4 v' (l ++ m).length (ens (l ++ m)) → Below base w w' → wpList P ops Q rest (a.put o.dst v') w') : wpList P ops Q (o :: rest) a w := by
  rw [List.length_append, ens_append] at h
  cases A with
  | none =>
    have hc := hnil rfl
    subst hc
    have hm0 : m = [] := by
      cases m with
      | nil => rfl
      | cons y m => obtain ⟨_, _, e, _⟩ := hsl 0 (by simp); cases e
    subst hm0
    exact wpList_append_own_none hgd s x t ho base e i 4 ht hi v l.length (ens l) hs hown hx (h v w (by simpa [ens] using hown) (Below.refl _ _))
  | some ad =>
    exact wpList_append_own w hgd s x t ho base e i z 4 48 ht hi hz hsize hby hzs (by decide) v l.length (ens l) hs hown ad m.length c (ens m) hx (ens_len m) (hsl.cells ad rfl) (ens_one m) (by unfold maxLen; omega) (by omega) hbase (fun v' w' h2 h3 _ => h v' w' h2 (app_below (Below.refl _ _) hbase hown h3))
end Go.Proofs.YtjhdhfokhkcamaaGreat
namespace Go.Proofs.YtjhdhfokhkcamaaGreat
open Go.RowKit
set_option linter.unusedVariables false
set_option maxRecDepth 100000
set_option maxHeartbeats 400000 in
theorem rightByte_any (c : UInt8) (w : World) :
    Calls Tryz.prog 178 #[.int .u8 (c.toNat : Int)] w fun e w' => e = .returned (.bool (isB c)) ∧ w = w' := by
  have hb : 0 ≤ (c.toNat : Int) ∧ (c.toNat : Int) ≤ 255 := ⟨by omega, by have := c.toNat_lt; omega⟩
  have HE := Lib.hid (isB_eq c)
  generalize (c.toNat : Int) = n at *
  go_enter Tryz.func178, Tryz.ntmps178
  go_wp2
  all_goals go_ret
  all_goals refine ⟨retB ?_, rfl⟩
  all_goals rw [HE.out, Bool.eq_iff_iff]
  all_goals simp only [Bool.or_eq_true, Bool.and_eq_true, decide_eq_true_eq, Bool.false_eq_true, false_iff, true_iff]
  all_goals omega
set_option maxHeartbeats 400000 in
theorem right_any (s : ByteArray) (w : World) (hs : s.size ≤ maxLen) :
    Calls Tryz.prog 127 #[.string s] w fun e w' => e = .returned (.bool (isName s.data.toList)) ∧ w = w' := by
  unfold maxLen at hs
  by_cases h1 : s.size < 1 ∨ 12 < s.size
  · have H := Lib.hid (isName_short s h1)
    by_cases h0 : s.size < 1
    all_goals
      go_enter Tryz.func127, Tryz.ntmps127
      go_wp2
      all_goals first | omega | (go_ret; exact ⟨retB H.out.symm, rfl⟩)
  · have h2 : 1 ≤ s.size := by omega
    have h3 : s.size ≤ 12 := by omega
    clear h1
    go_enter Tryz.func127, Tryz.ntmps127
    go_wp2
    go_loop [14] (fun i => ∃ k : Nat, k ≤ s.size ∧ i = .int .i64 k ∧ Hid ((s.data.toList.take k).all isB = true)) (fun i => s.size - (intOf i).toNat)
    case atStart => exact ⟨0, by omega, rfl, by simp [Hid]⟩
    case round =>
      obtain ⟨k, hk, rfl, H⟩ := hrel
      by_cases hlt : k < s.size
      · cases hB : isB s[k]
        · have HB := Lib.hid (isName_not s k hlt hB)
          go_wp2_with (go_at_call 178; refine (rightByte_any _ _).mono ?_; rintro e w' ⟨rfl, rfl⟩)
          go_ret
          exact ⟨retB HB.out.symm, rfl⟩
        · have HB := Lib.hid (all_take_succ isB s k hlt H.out hB)
          go_wp2_with (go_at_call 178; refine (rightByte_any _ _).mono ?_; rintro e w' ⟨rfl, rfl⟩)
          go_round
          case rel => exact ⟨k + 1, by omega, by go_num, HB⟩
          case measure => simp [intOf]; omega
      · have HB := Lib.hid (isName_all s h2 h3 k (by omega) H.out)
        go_wp2
        go_ret
        exact ⟨retB HB.out.symm, rfl⟩
set_option maxHeartbeats 400000 in
theorem refRight_any (s : ByteArray) (w : World) (hs : s.size ≤ maxLen) :
    Calls Tryz.prog 37 #[.string s] w fun e w' => e = .returned (.bool (isName s.data.toList)) ∧ w = w' := by
  unfold maxLen at hs
  by_cases h1 : s.size < 1 ∨ 12 < s.size
  · have H := Lib.hid (isName_short s h1)
    by_cases h0 : s.size < 1
    all_goals
      go_enter Tryz.func37, Tryz.ntmps37
      go_wp2
      all_goals first | omega | (go_ret; exact ⟨retB H.out.symm, rfl⟩)
  · have h2 : 1 ≤ s.size := by omega
    have h3 : s.size ≤ 12 := by omega
    clear h1
    go_enter Tryz.func37, Tryz.ntmps37
    go_wp2
    go_loop [3] (fun i => ∃ k : Nat, k ≤ s.size ∧ i = .int .i64 k ∧ Hid ((s.data.toList.take k).all isB = true)) (fun i => s.size - (intOf i).toNat)
    case atStart => exact ⟨0, by omega, rfl, by simp [Hid]⟩
    case round =>
      obtain ⟨k, hk, rfl, H⟩ := hrel
      by_cases hlt : k < s.size
      · have hE := isB_eq s[k]
        have hb : 0 ≤ (s[k].toNat : Int) ∧ (s[k].toNat : Int) ≤ 255 := ⟨by omega, by have := s[k].toNat_lt; omega⟩
        cases d1 : decide (97 ≤ (s[k].toNat : Int)) <;> cases d2 : decide ((s[k].toNat : Int) ≤ 122) <;> cases d3 : decide (48 ≤ (s[k].toNat : Int)) <;> cases d4 : decide ((s[k].toNat : Int) ≤ 57)
        all_goals
          first
            | (exfalso; simp only [decide_eq_true_eq, decide_eq_false_iff_not] at d1 d2 d3 d4; omega)
            | (have hB : isB s[k] = false := by rw [hE, d1, d2, d3, d4]; rfl
               have HB := Lib.hid (isName_not s k hlt hB)
               clear hE hB
               go_wp2
               go_ret
               exact ⟨retB HB.out.symm, rfl⟩)
            | (have hB : isB s[k] = true := by rw [hE, d1, d2, d3, d4]; rfl
               have HB := Lib.hid (all_take_succ isB s k hlt H.out hB)
               clear hE hB
               go_wp2
               go_round
               case rel => exact ⟨k + 1, by omega, by go_num, HB⟩
               case measure => simp [intOf]; omega)
      · have HB := Lib.hid (isName_all s h2 h3 k (by omega) H.out)
        go_wp2
        go_ret
        exact ⟨retB HB.out.symm, rfl⟩
theorem cb_drop_both (a b : ByteArray) (k : Nat) (ha : k < a.size) (hb : k < b.size) :
    Lib.compareBytes (a.data.toList.drop k) (b.data.toList.drop k) = if a[k] < b[k] then -1 else if b[k] < a[k] then 1 else Lib.compareBytes (a.data.toList.drop (k + 1)) (b.data.toList.drop (k + 1)) := by
  rw [List.drop_eq_getElem_cons (by simpa using ha), List.drop_eq_getElem_cons (l := b.data.toList) (by simpa using hb)]
  rfl
theorem cb_drop_end (a b : ByteArray) (k : Nat) (h : a.size ≤ k ∨ b.size ≤ k) (ha : k ≤ a.size) (hb : k ≤ b.size) :
    Lib.compareBytes (a.data.toList.drop k) (b.data.toList.drop k) = if a.size < b.size then -1 else if b.size < a.size then 1 else 0 := by
  by_cases h1 : k < a.size
  · have h2 : b.size ≤ k := by omega
    rw [List.drop_eq_getElem_cons (by simpa using h1), List.drop_eq_nil_of_le (show b.data.toList.length ≤ k by simp; omega), if_neg (by omega), if_pos (by omega)]
    rfl
  · rw [List.drop_eq_nil_of_le (show a.data.toList.length ≤ k by simp; omega)]
    by_cases h2 : k < b.size
    · rw [List.drop_eq_getElem_cons (l := b.data.toList) (by simpa using h2), if_pos (by omega)]
      rfl
    · rw [List.drop_eq_nil_of_le (show b.data.toList.length ≤ k by simp; omega), if_neg (by omega), if_neg (by omega)]
      rfl
set_option maxHeartbeats 1000000 in
theorem refCmp_any (a b : ByteArray) (w : World) (ha : a.size ≤ maxLen) (hb : b.size ≤ maxLen) :
    Calls Tryz.prog 39 #[.string a, .string b] w fun e w' => e = .returned (.int .i64 (Lib.compareBytes a.data.toList b.data.toList)) ∧ ∃ n, w' = w.drewN n := by
  unfold maxLen at ha hb
  go_enter Tryz.func39, Tryz.ntmps39
  go_wp2
  go_loopw [5] (fun i wr => ∃ k : Nat, k ≤ a.size ∧ k ≤ b.size ∧ i = .int .i64 k ∧ Hid (Lib.compareBytes a.data.toList b.data.toList = Lib.compareBytes (a.data.toList.drop k) (b.data.toList.drop k)) ∧ Hid (∃ n, wr = w.drewN n)) (fun i _ => a.size - (intOf i).toNat)
  case atStart => exact ⟨0, by omega, by omega, rfl, by simp [Hid], ⟨0, rfl⟩⟩
  case round =>
    obtain ⟨k, hka, hkb, rfl, H, HW⟩ := hrel
    by_cases hlt : k < a.size ∧ k < b.size
    · obtain ⟨h1, h2⟩ := hlt
      have HB := Lib.hid (H.out.trans (cb_drop_both a b k h1 h2))
      by_cases hab : a[k].toNat < b[k].toNat
      · have HF : Hid (Lib.compareBytes a.data.toList b.data.toList = -1) := by rw [HB.out, if_pos (by simpa [UInt8.lt_iff_toNat_lt] using hab)]; rfl
        obtain ⟨n0, rfl⟩ := HW.out
        go_wp2
        go_quiet (fail)
        go_wp2
        go_ret
        exact ⟨retI HF.out.symm, by first | exact ⟨_, rfl⟩ | (simp only [World.drewN_drewN]; exact ⟨_, rfl⟩)⟩
      · by_cases hba : b[k].toNat < a[k].toNat
        · have HF : Hid (Lib.compareBytes a.data.toList b.data.toList = 1) := by
            rw [HB.out, if_neg (by simpa [UInt8.lt_iff_toNat_lt] using hab), if_pos (by simpa [UInt8.lt_iff_toNat_lt] using hba)]; rfl
          obtain ⟨n0, rfl⟩ := HW.out
          go_wp2
          go_quiet (fail)
          go_wp2
          go_quiet (fail)
          go_wp2
          go_ret
          exact ⟨retI HF.out.symm, by first | exact ⟨_, rfl⟩ | (simp only [World.drewN_drewN]; exact ⟨_, rfl⟩)⟩
        · have HF := Lib.hid (HB.out.trans ((if_neg (by simpa [UInt8.lt_iff_toNat_lt] using hab)).trans (if_neg (by simpa [UInt8.lt_iff_toNat_lt] using hba))))
          obtain ⟨n0, rfl⟩ := HW.out
          go_wp2
          go_quiet (fail)
          go_wp2
          go_quiet (fail)
          go_wp2
          go_roundw
          case rel => exact ⟨k + 1, by omega, by omega, by go_num, HF, ⟨_, rfl⟩⟩
          case measure => simp [intOf]; omega
    · have HB := Lib.hid (H.out.trans (cb_drop_end a b k (by omega) hka hkb))
      obtain ⟨n0, rfl⟩ := HW.out
      have hcase : (k < a.size ∧ b.size < a.size ∧ b.size ≤ k) ∨ (a.size ≤ k ∧ a.size < b.size) ∨ (a.size ≤ k ∧ a.size = b.size) := by omega
      rcases hcase with ⟨c1, c2, c3⟩ | ⟨c1, c2⟩ | ⟨c1, c2⟩
      · have HF : Hid (Lib.compareBytes a.data.toList b.data.toList = 1) := by rw [HB.out, if_neg (by omega), if_pos (by omega)]; rfl
        go_wp2
        go_ret
        exact ⟨retI HF.out.symm, by first | exact ⟨_, rfl⟩ | (simp only [World.drewN_drewN]; exact ⟨_, rfl⟩)⟩
      · have HF : Hid (Lib.compareBytes a.data.toList b.data.toList = -1) := by rw [HB.out, if_pos (by omega)]; rfl
        go_wp2
        go_ret
        exact ⟨retI HF.out.symm, by first | exact ⟨_, rfl⟩ | (simp only [World.drewN_drewN]; exact ⟨_, rfl⟩)⟩
      · have HF : Hid (Lib.compareBytes a.data.toList b.data.toList = 0) := by rw [HB.out, if_neg (by omega), if_neg (by omega)]; rfl
        have c3 : a.size ≤ b.size := by omega
        have c4 : b.size ≤ a.size := by omega
        clear c2 hlt
        go_wp2
        go_ret
        exact ⟨retI HF.out.symm, by first | exact ⟨_, rfl⟩ | (simp only [World.drewN_drewN]; exact ⟨_, rfl⟩)⟩
set_option maxHeartbeats 1000000 in
set_option maxRecDepth 100000 in
theorem compareString_any (a b : ByteArray) (w : World) :
    Calls Tryz.prog 201 #[.string a, .string b] w fun e w' => e = .returned (.int .i64 (Lib.compareBytes a.data.toList b.data.toList)) ∧ w = w' := by
  go_enter Tryz.func201, Tryz.ntmps201
  go_wp2
  rw [run_callFunc_extern Tryz.func217 (by kernel_rfl) (by kernel_rfl) (by kernel_rfl) (e := Extern.BytealgCompare.compare) (by kernel_rfl), Lib.run_compareString]
  simp only [Result.andThen]
  rw [Oper.upon_value]
  go_wp2
  go_ret
  exact ⟨rfl, rfl⟩
set_option maxHeartbeats 400000 in
theorem compare_any (a b : ByteArray) (w : World) :
    Calls Tryz.prog 179 #[.string a, .string b] w fun e w' => e = .returned (.int .i64 (Lib.compareBytes a.data.toList b.data.toList)) ∧ w = w' := by
  go_enter Tryz.func179, Tryz.ntmps179
  go_wp2_with (go_at_call 201; refine (compareString_any _ _ _).mono ?_; rintro e w' ⟨rfl, rfl⟩)
  go_ret
  exact ⟨rfl, rfl⟩
set_option maxHeartbeats 400000 in
theorem cmp_any (a b : ByteArray) (w : World) :
    Calls Tryz.prog 128 #[.string a, .string b] w fun e w' => e = .returned (.int .i64 (Lib.compareBytes a.data.toList b.data.toList)) ∧ w = w' := by
  go_enter Tryz.func128, Tryz.ntmps128
  go_wp2_with (go_at_call 179; refine (compare_any _ _ _).mono ?_; rintro e w' ⟨rfl, rfl⟩)
  go_ret
  exact ⟨rfl, rfl⟩
end Go.Proofs.YtjhdhfokhkcamaaGreat
namespace Go.Proofs.YtjhdhfokhkcamaaGreat
open Go.RowKit
set_option linter.unusedVariables false
set_option maxRecDepth 100000
set_option maxHeartbeats 400000 in
theorem all_any (a : Option Addr) (c : Nat) (l : List ByteArray) (w : World) (hr : Sl w a (strs l)) (hf : Fits l) :
    Calls Tryz.prog 183 #[.slice a l.length c] w fun e w' => e = .returned (.bool (l.all nameB)) ∧ w = w' := by
  have hm := hf.1
  unfold maxLen at hm
  have HR := Lib.hid hr
  have HF := Lib.hid hf
  clear hr hf
  go_enter Tryz.func183, Tryz.ntmps183
  go_wp2
  go_loop [7] (fun i => ∃ k : Nat, k ≤ l.length ∧ i = .int .i64 k ∧ Hid ((l.take k).all nameB = true)) (fun i => l.length - (intOf i).toNat)
  case atStart => exact ⟨0, by omega, rfl, by simp [Hid]⟩
  case round =>
    obtain ⟨k, hk, rfl, H⟩ := hrel
    by_cases hlt : k < l.length
    · obtain ⟨b, off, rfl, hbl, hcell⟩ := HR.out.str hlt
      have hsz : l[k].size ≤ maxLen := HF.out.2 _ (List.getElem_mem hlt)
      cases hB : isName l[k].data.toList
      · have HB := Lib.hid (all_not_at nameB l k hlt hB)
        go_wp2_with (go_at_call 127; refine (right_any _ _ hsz).mono ?_; rintro e w' ⟨rfl, rfl⟩)
        go_ret
        exact ⟨retB HB.out.symm, rfl⟩
      · have HB := Lib.hid (all_take_next nameB l k hlt H.out hB)
        go_wp2_with (go_at_call 127; refine (right_any _ _ hsz).mono ?_; rintro e w' ⟨rfl, rfl⟩)
        go_round
        case rel => exact ⟨k + 1, by omega, by go_num, HB⟩
        case measure => simp [intOf]; omega
    · have HB := Lib.hid (all_take_end nameB l k (by omega) H.out)
      go_wp2
      go_ret
      exact ⟨retB HB.out.symm, rfl⟩
def pr (a b : ByteArray) : Value := .agg #[.string a, .string b]
theorem sl_two (w : World) (x y : Value) (t : TypeId) : Sl (w.alloc (.cells #[x, y] t)) (some ⟨w.heap.size, 0, none⟩) [x, y] := fun k hk => by
  refine ⟨_, _, rfl, by simp, ?_⟩
  match k, hk with
  | 0, _ => simp
  | 1, _ => simp
set_option maxHeartbeats 400000 in
theorem pairRight_any (a b : ByteArray) (w : World) (ha : a.size ≤ maxLen) (hb : b.size ≤ maxLen) :
    Calls Tryz.prog 136 #[pr a b] w fun e w' => e = .returned (.bool (nameB a && nameB b)) ∧ Below w.heap.size w w' := by
  have hall : ∀ t (W : World) (g : Nat), g = W.heap.size → Calls Tryz.prog 183 #[.slice (some ⟨g, 0, none⟩) 2 2] (W.alloc (.cells #[.string a, .string b] t)) fun e w' => e = .returned (.bool (nameB a && nameB b)) ∧ (W.alloc (.cells #[.string a, .string b] t)) = w' := fun t W g hg => by
    subst hg
    have h := all_any (some ⟨W.heap.size, 0, none⟩) 2 [a, b] _ (sl_two W (.string a) (.string b) t) ⟨by simp [maxLen], by simp [ha, hb]⟩
    simpa using h
  have HA := Lib.hid hall
  clear hall
  unfold pr
  go_enter Tryz.func136, Tryz.ntmps136
  go_wp2_with (go_at_call 183; refine (HA.out _ _ _ (by simp)).mono ?_; rintro e w' ⟨rfl, rfl⟩)
  go_ret
  exact ⟨rfl, ((Below.refl _ _).alloc (Nat.le_refl _) _).alloc (by simp) _⟩
set_option maxHeartbeats 400000 in
theorem pairCmp_any (a b c d : ByteArray) (w : World) :
    Calls Tryz.prog 192 #[pr a b, pr c d] w fun e w' => e = .returned (.int .i64 (cmpP a b c d)) ∧ Below w.heap.size w w' := by
  unfold pr
  have HB : Hid (∀ o o', Below w.heap.size w ((w.alloc o).alloc o')) := fun o o' => ((Below.refl _ _).alloc (Nat.le_refl _) _).alloc (by simp) _
  have hcm : ∀ x y W, Calls Tryz.prog 128 #[.string x, .string y] W fun e w' => e = .returned (.int .i64 (cmpS x y)) ∧ W = w' := fun x y W => cmp_any x y W
  have HC := Lib.hid hcm
  clear hcm
  cases h : (cmpS a c != 0)
  · have HE : Hid (cmpP a b c d = cmpS b d) := if_pos (by simpa using h)
    go_enter Tryz.func192, Tryz.ntmps192
    go_wp2_with (go_at_call 128; refine (HC.out _ _ _).mono ?_; rintro e w' ⟨rfl, rfl⟩)
    go_ret
    exact ⟨retI HE.out.symm, HB.out _ _⟩
  · have HE : Hid (cmpP a b c d = cmpS a c) := if_neg (by simpa using h)
    go_enter Tryz.func192, Tryz.ntmps192
    go_wp2_with (go_at_call 128; refine (HC.out _ _ _).mono ?_; rintro e w' ⟨rfl, rfl⟩)
    go_ret
    exact ⟨retI HE.out.symm, HB.out _ _⟩
def eqS (a b : ByteArray) : Bool := a.toList == b.toList
theorem eqS_iff (a b : ByteArray) : eqS a b = true ↔ a = b := by
  unfold eqS
  rw [beq_iff_eq, ByteArray.toList_eq, ByteArray.toList_eq]
  constructor
  · intro h
    cases a; cases b
    simp at h
    rw [h]
  · intro h; rw [h]
set_option maxHeartbeats 400000 in
theorem pairHas_any (a b s : ByteArray) (w : World) :
    Calls Tryz.prog 99 #[pr a b, .string s] w fun e w' => e = .returned (.bool (eqS s a || eqS s b)) ∧ Below w.heap.size w w' := by
  unfold pr
  have HB : Hid (∀ o, Below w.heap.size w (w.alloc o)) := fun o => (Below.refl _ _).alloc (Nat.le_refl _) _
  cases h : (s.toList == a.toList)
  · have HE : Hid ((s.toList == b.toList) = (eqS s a || eqS s b)) := by unfold Hid eqS; rw [h]; rfl
    go_enter Tryz.func99, Tryz.ntmps99
    go_wp2
    go_ret
    exact ⟨retB HE.out, HB.out _⟩
  · have HE : Hid (true = (eqS s a || eqS s b)) := by unfold Hid eqS; rw [h]; rfl
    go_enter Tryz.func99, Tryz.ntmps99
    go_wp2
    go_ret
    exact ⟨retB HE.out, HB.out _⟩
end Go.Proofs.YtjhdhfokhkcamaaGreat
namespace Go.Proofs.YtjhdhfokhkcamaaGreat
open Go.RowKit
set_option linter.unusedVariables false
set_option maxRecDepth 100000
def putStep (s : ByteArray) (p : List ByteArray × Bool) (x : ByteArray) : List ByteArray × Bool :=
  if Lib.compareBytes s.data.toList x.data.toList == 0 then (p.1 ++ [x], true)
  else if decide (Lib.compareBytes s.data.toList x.data.toList < 0) && !p.2 then (p.1 ++ [s] ++ [x], true)
  else (p.1 ++ [x], p.2)
def putTo (l : List ByteArray) (s : ByteArray) (k : Nat) : List ByteArray × Bool := (l.take k).foldl (putStep s) ([], false)
def put (l : List ByteArray) (s : ByteArray) : List ByteArray := if (putTo l s l.length).2 then (putTo l s l.length).1 else (putTo l s l.length).1 ++ [s]
end Go.Proofs.YtjhdhfokhkcamaaGreat
namespace Go.Proofs.YtjhdhfokhkcamaaGreat
open Go.RowKit Go.Shelf Go.Sort
set_option linter.unusedVariables false
set_option maxRecDepth 100000
section plain
theorem both (x y : List UInt8) (h1 : ltOf Lib.compareBytes x y = false) (h2 : ltOf Lib.compareBytes y x = false) : x = y := by
  unfold ltOf at *
  rw [decide_eq_false_iff_not] at *
  have a := cb_neg x y
  exact cb_eq x y (by omega)
end plain
end Go.Proofs.YtjhdhfokhkcamaaGreat
