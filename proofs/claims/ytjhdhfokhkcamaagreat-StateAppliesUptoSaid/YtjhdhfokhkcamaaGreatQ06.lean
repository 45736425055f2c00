/- Texts of mine, one behind the other, of each what is wanted. -/
import Derived.Test.YtjhdhfokhkcamaaGreatQ00
import Derived.Test.YtjhdhfokhkcamaaGreatShelf
import Derived.Test.YtjhdhfokhkcamaaGreatRows
namespace Go.Proofs.YtjhdhfokhkcamaaGreat
open Go.Lib
set_option linter.unusedVariables false
set_option maxRecDepth 100000
theorem cb_refl : ∀ a : List UInt8, compareBytes a a = 0
 | [] => rfl
 | x :: r => by unfold compareBytes; rw [if_neg (by simp), if_neg (by simp)]; exact cb_refl r
theorem cb_eq : ∀ a b : List UInt8, compareBytes a b = 0 → a = b
 | [], [], _ => rfl
 | [], _ :: _, h => by simp [compareBytes] at h
 | _ :: _, [], h => by simp [compareBytes] at h
 | x :: r, y :: s, h => by
  unfold compareBytes at h
  split at h
  ·simp at h
  ·split at h
   ·simp at h
   ·rename_i h1 h2
    have e : x = y := by
     rw [UInt8.lt_iff_toNat_lt] at h1 h2
     exact UInt8.toNat_inj.1 (by omega)
    rw [e, cb_eq r s h]
theorem cb_neg : ∀ a b : List UInt8, compareBytes b a = - compareBytes a b
 | [], [] => rfl
 | [], _ :: _ => rfl
 | _ :: _, [] => rfl
 | x :: r, y :: s => by
  unfold compareBytes
  simp only [UInt8.lt_iff_toNat_lt]
  by_cases h1 : x.toNat < y.toNat
  ·have h2 : ¬ y.toNat < x.toNat := by omega
   simp only [h1, h2, ↓reduceIte]; rfl
  ·by_cases h2 : y.toNat < x.toNat
   ·simp only [h1, h2, ↓reduceIte]
   ·simp only [h1, h2, ↓reduceIte]; exact cb_neg r s
theorem cb_trans : ∀ a b c : List UInt8, compareBytes a b < 0 → compareBytes b c < 0 → compareBytes a c < 0
 | [], [], _, h, _ => by simp [compareBytes] at h
 | _ :: _, [], _, h, _ => by simp [compareBytes] at h
 | _, _ :: _, [], _, h => by simp [compareBytes] at h
 | [], _ :: _, _ :: _, _, _ => by simp [compareBytes]
 | x :: r, y :: s, z :: t, h1, h2 => by
  unfold compareBytes at h1 h2 ⊢
  simp only [UInt8.lt_iff_toNat_lt] at h1 h2 ⊢
  by_cases a1 : x.toNat < y.toNat
  ·by_cases a2 : y.toNat < z.toNat
   ·rw [if_pos (by omega)]; omega
   ·rw [if_neg a2] at h2
    by_cases a3 : z.toNat < y.toNat
    ·rw [if_pos a3] at h2; omega
    ·rw [if_pos (by omega)]; omega
  ·rw [if_neg a1] at h1
   by_cases a3 : y.toNat < x.toNat
   ·rw [if_pos a3] at h1; omega
   ·rw [if_neg a3] at h1
    by_cases a2 : y.toNat < z.toNat
    ·rw [if_pos (by omega)]; omega
    ·rw [if_neg a2] at h2
     by_cases a4 : z.toNat < y.toNat
     ·rw [if_pos a4] at h2; omega
     ·rw [if_neg a4] at h2
      rw [if_neg (by omega), if_neg (by omega)]
      exact cb_trans r s t h1 h2
def isB (c : UInt8) : Bool := (97 ≤ c && c ≤ 122) || (48 ≤ c && c ≤ 57)
def isName (l : List UInt8) : Bool := decide (1 ≤ l.length) && decide (l.length ≤ 12) && l.all isB
theorem isB_eq (c : UInt8) : isB c = ((decide (97 ≤ (c.toNat : Int)) && decide ((c.toNat : Int) ≤ 122)) || (decide (48 ≤ (c.toNat : Int)) && decide ((c.toNat : Int) ≤ 57))) := by
 unfold isB
 simp only [UInt8.le_iff_toNat_le]
 rw [Bool.eq_iff_iff]
 simp
 omega
theorem all_take_succ (p : UInt8 → Bool) (s : ByteArray) (k : Nat) (h : k < s.size) (h1 : (s.data.toList.take k).all p = true) (h2 : p s[k] = true) : (s.data.toList.take (k + 1)).all p = true := by
 rw [List.take_succ_eq_append_getElem (by simpa using h), List.all_append, h1]
 simp only [List.all_cons, List.all_nil, Bool.and_true, Bool.true_and]
 exact h2
theorem all_false_of (p : UInt8 → Bool) (s : ByteArray) (k : Nat) (h : k < s.size) (h2 : p s[k] = false) : s.data.toList.all p = false := by
 rw [List.all_eq_false]
 exact ⟨s[k], by simp [ByteArray.getElem_eq_getElem_data], by simp [h2]⟩
theorem isName_short (s : ByteArray) (h : s.size < 1 ∨ 12 < s.size) : isName s.data.toList = false := by
 unfold isName
 have : s.data.toList.length = s.size := by simp
 rw [this]
 rcases h with h | h
 ·simp; omega
 ·simp; omega
theorem isName_all (s : ByteArray) (h1 : 1 ≤ s.size) (h2 : s.size ≤ 12) (k : Nat) (hk : s.size ≤ k) (h : (s.data.toList.take k).all isB = true) : isName s.data.toList = true := by
 unfold isName
 rw [List.take_of_length_le (by simpa using hk)] at h
 have : s.data.toList.length = s.size := by simp
 rw [this, h]
 simp
 omega
theorem isName_not (s : ByteArray) (k : Nat) (h : k < s.size) (h2 : isB s[k] = false) : isName s.data.toList = false := by
 unfold isName
 rw [all_false_of isB s k h h2]
 simp
theorem all_take_next (p : ByteArray → Bool) (l : List ByteArray) (k : Nat) (h : k < l.length) (h1 : (l.take k).all p = true) (h2 : p l[k] = true) : (l.take (k + 1)).all p = true := by
 rw [List.take_succ_eq_append_getElem h, List.all_append, h1]
 simp only [List.all_cons, List.all_nil, Bool.and_true, Bool.true_and]
 exact h2
theorem all_not_at (p : ByteArray → Bool) (l : List ByteArray) (k : Nat) (h : k < l.length) (h2 : p l[k] = false) : l.all p = false := by
 rw [List.all_eq_false]
 exact ⟨l[k], List.getElem_mem h, by simp [h2]⟩
theorem all_take_end (p : ByteArray → Bool) (l : List ByteArray) (k : Nat) (h : l.length ≤ k) (h1 : (l.take k).all p = true) : l.all p = true := by
 rwa [List.take_of_length_le h] at h1
end Go.Proofs.YtjhdhfokhkcamaaGreat
namespace Go.Proofs.YtjhdhfokhkcamaaGreat
open Go.RowKit
set_option linter.unusedVariables false
set_option maxRecDepth 100000
set_option maxRecDepth 100000
theorem own_low {w : World} {B B' e k n : Nat} {v : Value} {xs : List Value} (h : w.ownsRow B e k v n xs) (hb : B' ≤ B) : w.ownsRow B' e k v n xs := by
 refine ⟨h.1, ?_⟩
 rcases h.2 with h0 | ⟨g, cap, cur, e0, hg, h1⟩
 ·exact .inl h0
 ·exact .inr ⟨g, cap, cur, e0, Nat.le_trans hb hg, h1⟩
end Go.Proofs.YtjhdhfokhkcamaaGreat
namespace Go.Proofs.YtjhdhfokhkcamaaGreat
open Go.RowKit Go.Shelf Go.Sort
set_option linter.unusedVariables false
set_option maxRecDepth 100000
section plain
theorem both (x y : List UInt8) (h1 : ltOf Lib.compareBytes x y = false) (h2 : ltOf Lib.compareBytes y x = false) : x = y := by
 unfold ltOf at *
 rw [decide_eq_false_iff_not] at *
 have a := cb_neg x y
 exact cb_eq x y (by omega)
end plain
end Go.Proofs.YtjhdhfokhkcamaaGreat
namespace Go.Proofs.YtjhdhfokhkcamaaGreat
open Go.ChangeShapes Go.WideShapes Go.ChangeAt Go.RowKit
open Go.ChangeMaps (open_string shut_string)
set_option linter.unusedVariables false
set_option maxRecDepth 100000
theorem own : ownKnob Tryz.prog.godebug = none := by kernel_rfl
theorem laidOut : laidOutB Tryz.prog = true := by kernel_rfl
section
variable {H : Type} {enc : TypeId × Value → H}
def tyOk (P : Program) (t : TypeId) : Bool := P.readableRec t && decide (t < P.types.size)
theorem trodAll_keep {P : Program} (hP : laidOutB P = true) {W W' : World} (hb : Below W.heap.size W W') (ts : List TypeId) : ∀ {vs : List Value} {ds : List (DataW H)} {ps : List MemPlace}, ts.all (tyOk P) = true → (∀ p ∈ ps, p.block < W.heap.size) →
  DataW.TrodAll enc P W 0 (fun _ => true) true ts vs ds ps → DataW.TrodAll enc P W' 0 (fun b => decide (b < W.heap.size)) true ts vs ds ps := by
 induction ts with
 | nil =>
  intro vs ds ps _ _ h
  obtain ⟨rfl, rfl, rfl⟩ := trodAll_nil h
  exact trodAll_mk0
 | cons t ts ih =>
  intro vs ds ps ht hlt h
  obtain ⟨v, vs', d, ds', p, q, rfl, rfl, rfl, h1, h2⟩ := trodAll_cons h
  rw [List.all_cons, Bool.and_eq_true] at ht
  have ht1 := ht.1
  unfold tyOk at ht1
  rw [Bool.and_eq_true, decide_eq_true_eq] at ht1
  exact trodAll_cons_mk (Below.trod hP ht1.1 ht1.2 h1 hb (fun x hx => hlt x (List.mem_append_left _ hx))) (ih ht.2 (fun x hx => hlt x (List.mem_append_right _ hx)) h2)
theorem law_post {f : Func} {s : ChangeSpec} {W W' : World} {args : Array Value} {ds gs : List (DataW H)} {before : List MemPlace} (hv : s.vars = [])
  (hW : DataW.Whole enc Tryz.prog f.params.toList s.vars false W args.toList ds gs before) (hs : ∀ ds : List (DataW H), ds.length = f.params.toList.length → s.fn H ds = { results := [.lit (.bool true)], args := ds })
  (hl : ds.length = f.params.toList.length) (ht : f.params.toList.all (tyOk Tryz.prog) = true) (hr : f.resultTypes = #[4]) (hb : Below W.heap.size W W') :
  s.post enc Tryz.prog f false true false false W args (.bool true) W' := by
 obtain ⟨p, q, hA, hV, rfl, hfz, hnd⟩ := hW
 have hV0 := hV
 rw [hv] at hV
 obtain ⟨rfl, rfl⟩ := trodVars_none hV
 have hlt : ∀ x ∈ p ++ [], x.block < W.heap.size := DataW.Whole.lt ⟨p, [], hA, hV0, rfl, hfz, hnd⟩
 have e : s.fn H (ds ++ []) = { results := [.lit (.bool true)], args := ds } := by rw [List.append_nil]; exact hs ds hl
 refine ⟨ds, [], p ++ [], [], p, [], ⟨p, [], hA, hV0, rfl, hfz, hnd⟩, ?_, ?_, ?_, hb.frame _, fun h => by cases h⟩
 ·rw [e, hr]
  exact trodAll_cons_mk (shut_bool Tryz.underlying4 _) trodAll_mk0
 ·rw [e]
  exact trodAll_keep laidOut hb _ ht (fun x hx => hlt x (by simpa using hx)) hA
 ·rw [e, hv]
  rfl
end
end Go.Proofs.YtjhdhfokhkcamaaGreat
