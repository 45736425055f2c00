/- Texts of mine, one behind the other, of each what is wanted. -/
import Derived.Test.YtmfpjapiijgdgaaGreatQ00
import Derived.Test.YtmfpjapiijgdgaaGreatShelf
import Derived.Test.YtmfpjapiijgdgaaGreatRows
import Derived.Test.YtmfpjapiijgdgaaGreatQ01
import Derived.Test.YtmfpjapiijgdgaaGreatQ04
import Derived.Test.YtmfpjapiijgdgaaGreatQ05
import Derived.Test.YtmfpjapiijgdgaaGreatQ06
import Derived.Test.YtmfpjapiijgdgaaGreatQ17
import Derived.Test.YtmfpjapiijgdgaaGreatQ38
namespace Go.Proofs.YtmfpjapiijgdgaaGreat
set_option linter.unusedVariables false
def tailP (p : EvM → Bool) (l : List EvM) : List EvM := l.foldl (fun r e => if p e = true then [] else r ++ [e]) []
theorem tailP_snoc (p : EvM → Bool) (l : List EvM) (e : EvM) : tailP p (l ++ [e]) = if p e = true then [] else tailP p l ++ [e] := by
 unfold tailP
 rw [List.foldl_append]
 rfl
structure IsBeg (p : EvM → Bool) (l : List EvM) (b : Nat) : Prop where
 le : b ≤ l.length
 none : ∀ k (h : k < l.length), b ≤ k → p l[k] = false
 last : ∀ h : 0 < b, p (l[b - 1]'(by omega)) = true
theorem tailP_none {p : EvM → Bool} : ∀ (m : List EvM) (r : List EvM), (∀ e ∈ m, p e = false) → m.foldl (fun r e => if p e = true then [] else r ++ [e]) r = r ++ m
 | [], r, _ => by simp
 | e :: m, r, h => by
  rw [List.foldl_cons, if_neg (by rw [h e (List.mem_cons_self ..)]; decide), tailP_none m _ fun x hx => h x (List.mem_cons_of_mem _ hx), List.append_assoc]
  rfl
theorem IsBeg.tail {p : EvM → Bool} {l : List EvM} {b : Nat} (h : IsBeg p l b) : l.drop b = tailP p l := by
 have hd : ∀ e ∈ l.drop b, p e = false := fun e he => by
  obtain ⟨j, hj, hjb, rfl⟩ := mem_drop_get he
  exact h.none j hj hjb
 have hb := h.le
 unfold tailP
 rcases Nat.eq_zero_or_pos b with h0 | h0
 ·subst h0
  rw [List.drop_zero] at hd ⊢
  rw [tailP_none l [] hd]
  rfl
 ·have h1 : l = l.take (b - 1) ++ (l[b - 1]'(by omega)) :: l.drop b := by
   have h2 := (List.take_append_drop (b - 1) l).symm
   rw [List.drop_eq_getElem_cons (by omega), show b - 1 + 1 = b by omega] at h2
   exact h2
  conv => rhs; rw [h1]
  rw [List.foldl_append, List.foldl_cons, if_pos (h.last h0), tailP_none _ [] hd]
  rfl
def isEr (u : ByteArray) (e : EvM) : Bool := decide (e.kind = 7) && decide (e.user = u)
def isEn (n : Int) (e : EvM) : Bool := (decide (e.kind = 2) || decide (e.kind = 3)) && decide (e.n = n)
def endV (n now : Int) (l : List EvM) : Int := match l.find? (isEn n) with
 | none => now
 | some e => e.at_
theorem find_snoc (p : EvM → Bool) (l : List EvM) (x : EvM) : (l ++ [x]).find? p = match l.find? p with
  | none => if p x = true then some x else none
  | some y => some y := by
 rw [List.find?_append]
 cases l.find? p with
 | none =>
  cases h : p x with
  | true => rw [List.find?_cons_of_pos h]; rfl
  | false => rw [List.find?_cons_of_neg (by rw [h]; decide)]; rfl
 | some y => rfl
theorem filter_no {α : Type} {p : α → Bool} {l : List α} (h : ∀ x ∈ l, p x = false) : l.filter p = [] := List.filter_eq_nil_iff.2 fun x hx => by rw [h x hx]; decide
end Go.Proofs.YtmfpjapiijgdgaaGreat
namespace Go.Proofs.YtmfpjapiijgdgaaGreat
open Go.RowKit
set_option linter.unusedVariables false
set_option maxRecDepth 100000
set_option maxRecDepth 100000
theorem saO_m : saO.m = saZ := rfl
end Go.Proofs.YtmfpjapiijgdgaaGreat
namespace Go.Proofs.YtmfpjapiijgdgaaGreat
open Go.RowKit Go.Proofs
set_option linter.unusedVariables false
set_option maxRecDepth 100000
theorem drop_next {α : Type} (l : List α) (j : Nat) (h : j < l.length) : l.drop j = l[j] :: l.drop (j + 1) := List.drop_eq_getElem_cons h
theorem beg_start (p : EvM → Bool) (l : List EvM) (j : Nat) (hn : ∀ k (h : k < l.length), j ≤ k → p l[k] = false) (hj : j = 0) : IsBeg p l 0 :=
 ⟨Nat.zero_le _, fun k h _ => hn k h (by omega), fun h => absurd h (by omega)⟩
theorem beg_hit (p : EvM → Bool) (l : List EvM) (j : Nat) (hj : j < l.length) (hn : ∀ k (h : k < l.length), j + 1 ≤ k → p l[k] = false) (hp : p l[j] = true) : IsBeg p l (j + 1) :=
 ⟨hj, hn, fun _ => hp⟩
theorem beg_next {p : EvM → Bool} {l : List EvM} {j : Nat} (hj : j < l.length) (hn : ∀ k (h : k < l.length), j + 1 ≤ k → p l[k] = false) (hp : p l[j] = false) : ∀ k (h : k < l.length), j ≤ k → p l[k] = false := fun k h hk => by
 rcases Nat.lt_or_ge j k with h1 | h1
 ·exact hn k h h1
 ·obtain rfl : k = j := by omega
  exact hp
theorem fold_few (l : List EvM) (h : l.length ≤ 100) : Few (foldE saZ l) 400 := (few_of (right_fold l RightS.zero) (cnt_fold l saZ)).mono (by show 0 + l.length ≤ 400; omega)
set_option maxHeartbeats 4000000 in
theorem rbegin_any (a : Option Addr) (c : Nat) (l : List EvM) (u : ByteArray) (w : World) (hs : EvSl w a l) (hl : l.length ≤ 1000) :
  Calls Tryz.prog 92 #[.slice a l.length c, .string u] w fun e w' => ∃ b : Nat, e = .returned (.int .i64 b) ∧ IsBeg (isEr u) l b ∧ Below w.heap.size w w' := by
 have HS := Lib.hid hs
 have hw0 : IntKind.i64.wrap ((l.length : Int) - 1) = (l.length : Int) - 1 := IntWalk.i64_in _ (by omega)
 clear hs
 go_enter Tryz.func92, Tryz.ntmps92
 go_wp2
 go_loopw [5] (fun iv wr => ∃ (k : Int), -1 ≤ k ∧ k < l.length ∧ iv = .int .i64 k ∧ Hid (∀ i (h : i < l.length), k < i → isEr u l[i] = false) ∧ Hid (Below w.heap.size w wr)) (fun iv _ => ((intOf iv) + 1).toNat)
 case atStart => exact ⟨(l.length : Int) - 1, by omega, by omega, rfl, Lib.hid fun i h hi => absurd hi (by omega), Lib.hid (Below.refl _ _)⟩
 case round =>
  obtain ⟨k, hk0, hk1, rfl, HN, HB⟩ := hrel
  by_cases hk : 0 ≤ k
  ·obtain ⟨i, rfl⟩ : ∃ i : Nat, k = i := ⟨k.toNat, by omega⟩
   have hil : i < l.length := by omega
   have hw1 : IntKind.i64.wrap ((i : Int) + 1) = (i : Int) + 1 := IntWalk.i64_in _ (by omega)
   have hw2 : IntKind.i64.wrap ((i : Int) - 1) = (i : Int) - 1 := IntWalk.i64_in _ (by omega)
   obtain ⟨b, off, rfl, hbl, r0, r1, r2, r3, r4, r5⟩ := (HS.out.below HB.out).at_ hil
   have HIT : Hid (isEr u l[i] = true → IsBeg (isEr u) l (i + 1)) := Lib.hid fun h => beg_hit _ _ _ hil (fun k h hk => HN.out k h (by omega)) h
   have HUP : Hid (isEr u l[i] = false → ∀ j (h : j < l.length), ((i : Int) - 1) < j → isEr u l[j] = false) := Lib.hid fun h j hj hij => beg_next hil (fun k h hk => HN.out k h (by omega)) h j hj (by omega)
   have HER : Hid (isEr u l[i] = (decide (l[i].kind = 7) && decide (l[i].user = u))) := Lib.hid rfl
   generalize l[i] = e at *
   by_cases h7 : e.kind = 7
   ·have k7 : (e.kind == 7) = true := beq_iff_eq.2 h7
    by_cases hu : e.user = u
    ·have hq : (e.user.toList == u.toList) = true := by rw [hu]; exact txt_eq _
     have HI := Lib.hid (HIT.out (by rw [HER.out, decide_eq_true h7, decide_eq_true hu]; rfl))
     clear HIT HUP HER HN h7 hu
     go_wp2
     go_ret
     exact ⟨i + 1, retI (by omega), HI.out, HB.out⟩
    ·have hq := txt_ne hu
     have HU := Lib.hid (HUP.out (by rw [HER.out, decide_eq_false hu, Bool.and_false]))
     clear HIT HUP HER HN h7 hu
     go_wp2
     go_roundw
     case rel => exact ⟨(i : Int) - 1, by omega, by omega, rfl, HU, HB⟩
     case measure => simp [intOf]
   ·have k7 : (e.kind == 7) = false := beq_false_of_ne h7
    have HU := Lib.hid (HUP.out (by rw [HER.out, decide_eq_false h7, Bool.false_and]))
    clear HIT HUP HER HN h7
    go_wp2
    go_roundw
    case rel => exact ⟨(i : Int) - 1, by omega, by omega, rfl, HU, HB⟩
    case measure => simp [intOf]
  ·have HI : Hid (IsBeg (isEr u) l 0) := Lib.hid (beg_start _ l 0 (fun j hj _ => HN.out j hj (by omega)) rfl)
   clear HN
   go_wp2
   go_ret
   exact ⟨0, rfl, HI.out, HB.out⟩
end Go.Proofs.YtmfpjapiijgdgaaGreat
