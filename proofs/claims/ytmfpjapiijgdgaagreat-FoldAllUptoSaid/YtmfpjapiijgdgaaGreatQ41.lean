/- Texts of mine, one behind the other, of each what is wanted. -/
import Derived.Test.YtmfpjapiijgdgaaGreatQ00
import Derived.Test.YtmfpjapiijgdgaaGreatShelf
import Derived.Test.YtmfpjapiijgdgaaGreatRows
import Derived.Test.YtmfpjapiijgdgaaGreatQ01
import Derived.Test.YtmfpjapiijgdgaaGreatQ02
import Derived.Test.YtmfpjapiijgdgaaGreatQ04
import Derived.Test.YtmfpjapiijgdgaaGreatQ05
import Derived.Test.YtmfpjapiijgdgaaGreatQ06
import Derived.Test.YtmfpjapiijgdgaaGreatQ17
import Derived.Test.YtmfpjapiijgdgaaGreatQ18
import Derived.Test.YtmfpjapiijgdgaaGreatQ20
import Derived.Test.YtmfpjapiijgdgaaGreatQ21
import Derived.Test.YtmfpjapiijgdgaaGreatQ22
import Derived.Test.YtmfpjapiijgdgaaGreatQ27
import Derived.Test.YtmfpjapiijgdgaaGreatQ31
import Derived.Test.YtmfpjapiijgdgaaGreatQ33
import Derived.Test.YtmfpjapiijgdgaaGreatQ36
import Derived.Test.YtmfpjapiijgdgaaGreatQ38
import Derived.Test.YtmfpjapiijgdgaaGreatQ39
import Derived.Test.YtmfpjapiijgdgaaGreatQ40
namespace Go.Proofs.YtmfpjapiijgdgaaGreat
open Go.RowKit
set_option linter.unusedVariables false
set_option maxRecDepth 100000
theorem Drew.cell {w w' : World} (h : Drew w w') (a : Addr) : w'.cell? a = w.cell? a := by obtain ⟨n, rfl⟩ := h; rfl
end Go.Proofs.YtmfpjapiijgdgaaGreat
namespace Go.Proofs.YtmfpjapiijgdgaaGreat
open Go.RowKit
set_option linter.unusedVariables false
set_option maxRecDepth 100000
set_option maxRecDepth 100000
set_option maxHeartbeats 2000000 in
theorem oolds_any (a : Option Addr) (c : Nat) (l : List OpM) (w : World) (hr : OpSl w a l) (hl : l.length ≤ 1000000) :
  Calls Tryz.prog 77 #[.slice a l.length c] w fun e w' => ∃ (v : Value), e = .returned v ∧ w'.ownsRow w.heap.size 129 4 v l.length (oes l) ∧ Below w.heap.size w w' := by
 obtain ⟨i0, hi, hz0, hz1, hz2⟩ := info_parts infoOpR
 have HR := Lib.hid hr
 clear hr
 go_enter Tryz.func77, Tryz.ntmps77
 go_wp2
 go_loopw [3, 8] (fun v i wr => ∃ (j : Nat), j ≤ l.length ∧ i = .int .i64 j ∧ Hid (wr.ownsRow w.heap.size 129 4 v j (oes (l.take j))) ∧ Hid (Below w.heap.size w wr)) (fun _ i _ => l.length - (intOf i).toNat)
 case atStart => exact ⟨0, by omega, rfl, ⟨rfl, .inl ⟨rfl, rfl⟩⟩, Below.refl _ _⟩
 case round =>
  obtain ⟨j, hj, rfl, HO, HB⟩ := hrel
  by_cases hjl : j < l.length
  ·obtain ⟨b, off, rfl, hbl, hc0, hc1, hc2, hc3⟩ := (HR.out.below HB.out).at_ hjl
   have HC := Lib.hid (oes_take l j hjl)
   generalize l[j] = x at *
   have hbt := below_two wr (.cells #[.int .i64 x.n, .string x.u, .int .i64 x.s, .int .i64 x.f] 184) (.cells #[.int .i64 x.n, .string x.u, .int .i64 x.s, .int .i64 x.f] 129)
   have HO2 := Lib.hid (own_below HO.out hbt)
   have HB2 : Hid (Below w.heap.size w ((wr.alloc (.cells #[.int .i64 x.n, .string x.u, .int .i64 x.s, .int .i64 x.f] 184)).alloc (.cells #[.int .i64 x.n, .string x.u, .int .i64 x.s, .int .i64 x.f] 129))) := HB.out.trans (hbt.mono HB.out.size)
   have HS2 := Lib.hid HB2.out.size
   clear hbt
   go_wp2_with (at_builtin; refine wpList_append_own _ rfl (.tmp 12) (.tmp 14) 22 rfl w.heap.size 129 i0 _ 4 40 Tryz.underlying22 hi hz0 hz1 hz2 rfl (by decide) _ _ _ rfl HO2.out ⟨wr.heap.size + 1, 0, none⟩ 1 1 [.int .i64 x.n, .string x.u, .int .i64 x.s, .int .i64 x.f] rfl rfl (news_at _ _ _ _ (size1 _ _).symm) (four_o _ _ _ _) (by unfold maxLen; omega) (by omega) HS2.out ?_; intro v' w3 hown' hgrow hiff)
   have HB3 := Lib.hid (app_below HB2.out HS2.out HO2.out hgrow)
   have HO3 := Lib.hid hown'
   clear hown' hgrow hiff HB2 HS2 HO2
   go_wp2
   go_roundw
   case rel => exact ⟨j + 1, by omega, by go_num, (by unfold Hid; rw [HC.out]; exact HO3.out), HB3⟩
   case measure => simp [intOf]; omega
  ·obtain rfl : j = l.length := by omega
   rw [List.take_of_length_le (Nat.le_refl _)] at HO
   go_wp2
   go_ret
   exact ⟨_, rfl, HO.out, HB.out⟩
end Go.Proofs.YtmfpjapiijgdgaaGreat
namespace Go.Proofs.YtmfpjapiijgdgaaGreat
open Go.Lib
section order
end order
def sortL (l : List (List UInt8)) : List (List UInt8) := l.foldl (fun r s => ins s r) []
end Go.Proofs.YtmfpjapiijgdgaaGreat
namespace Go.Proofs.YtmfpjapiijgdgaaGreat
open Go.RowKit Go.Shelf Go.Sort
set_option linter.unusedVariables false
set_option maxRecDepth 100000
def sv (l : List ByteArray) : List (List UInt8) := sortL (l.map toL)
section plain
end plain
end Go.Proofs.YtmfpjapiijgdgaaGreat
namespace Go.Proofs.YtmfpjapiijgdgaaGreat
open Go.RowKit
set_option linter.unusedVariables false
set_option maxRecDepth 100000
set_option maxRecDepth 100000
theorem o_olds (a : Option Addr) (c : Nat) (l : List OpM) (W : World) (h : OpSl W a l) (hl : l.length ≤ 1000) : Calls Tryz.prog 77 #[.slice a l.length c] W fun e w' => ∃ x q, e = .returned (.slice x l.length q) ∧ l.length ≤ q ∧ q ≤ maxLen ∧ (x = none → q = 0) ∧ OpSl w' x l ∧ Below W.heap.size W w' := by
 refine (oolds_any a c l W h (by omega)).mono ?_
 rintro e w' ⟨v, rfl, ho, hb⟩
 obtain ⟨x, q, rfl, h1, h2, h3, h4⟩ := own_op ho
 exact ⟨x, q, rfl, h1, h2, h4, h3, hb⟩
theorem o_same (a b : Option Addr) (c q : Nat) (l m : List OpM) (W : World) (ha : OpSl W a l) (hb : OpSl W b m) (hl : l.length ≤ 1000) (hm : m.length ≤ 1000) : Calls Tryz.prog 83 #[.slice a l.length c, .slice b m.length q] W fun e w' => e = .returned (.bool (decide (l = m))) ∧ Below W.heap.size W w' :=
 osame_any a b c q l m W ha hb (by unfold maxLen; omega) (by unfold maxLen; omega)
theorem o_rsame (a b : Option Addr) (c q : Nat) (l m : List OpM) (W : World) (ha : OpSl W a l) (hb : OpSl W b m) (hl : l.length ≤ 1000) (hm : m.length ≤ 1000) : Calls Tryz.prog 75 #[.slice a l.length c, .slice b m.length q] W fun e w' => e = .returned (.bool (decide (l = m))) ∧ Below W.heap.size W w' :=
 orefSame_any a b c q l m W ha hb (by unfold maxLen; omega) (by unfold maxLen; omega)
set_option maxHeartbeats 2000000 in
theorem eolds_any (a : Option Addr) (c : Nat) (l : List EnM) (w : World) (hr : EnSl w a l) (hl : l.length ≤ 1000000) :
  Calls Tryz.prog 78 #[.slice a l.length c] w fun e w' => ∃ (v : Value), e = .returned v ∧ w'.ownsRow w.heap.size 135 4 v l.length (ens l) ∧ Below w.heap.size w w' := by
 obtain ⟨i0, hi, hz0, hz1, hz2⟩ := info_parts infoEnR
 have HR := Lib.hid hr
 clear hr
 go_enter Tryz.func78, Tryz.ntmps78
 go_wp2
 go_loopw [3, 8] (fun v i wr => ∃ (j : Nat), j ≤ l.length ∧ i = .int .i64 j ∧ Hid (wr.ownsRow w.heap.size 135 4 v j (ens (l.take j))) ∧ Hid (Below w.heap.size w wr)) (fun _ i _ => l.length - (intOf i).toNat)
 case atStart => exact ⟨0, by omega, rfl, ⟨rfl, .inl ⟨rfl, rfl⟩⟩, Below.refl _ _⟩
 case round =>
  obtain ⟨j, hj, rfl, HO, HB⟩ := hrel
  by_cases hjl : j < l.length
  ·obtain ⟨b, off, rfl, hbl, hc0, hc1, hc2, hc3⟩ := (HR.out.below HB.out).at_ hjl
   have HC := Lib.hid (ens_take l j hjl)
   generalize l[j] = x at *
   have HO2 := Lib.hid (own_below HO.out (below_two wr (.cells #[.string x.w, .string x.u, .int .i64 x.f, .int .i64 x.t] 165) (.cells #[.string x.w, .string x.u, .int .i64 x.f, .int .i64 x.t] 135)))
   have HB2 : Hid (Below w.heap.size w ((wr.alloc (.cells #[.string x.w, .string x.u, .int .i64 x.f, .int .i64 x.t] 165)).alloc (.cells #[.string x.w, .string x.u, .int .i64 x.f, .int .i64 x.t] 135))) := HB.out.trans ((below_two wr (.cells #[.string x.w, .string x.u, .int .i64 x.f, .int .i64 x.t] 165) (.cells #[.string x.w, .string x.u, .int .i64 x.f, .int .i64 x.t] 135)).mono HB.out.size)
   have HS2 := Lib.hid HB2.out.size
   go_wp2_with (at_builtin; refine wpList_append_own _ rfl (.tmp 12) (.tmp 26) 24 rfl w.heap.size 135 i0 _ 4 48 Tryz.underlying24 hi hz0 hz1 hz2 rfl (by decide) _ _ _ rfl HO2.out ⟨wr.heap.size + 1, 0, none⟩ 1 1 [.string x.w, .string x.u, .int .i64 x.f, .int .i64 x.t] rfl rfl (news_at _ _ _ _ (size1 _ _).symm) (four_e _ _ _ _) (by unfold maxLen; omega) (by omega) HS2.out ?_; intro v' w3 hown' hgrow hiff)
   have HB3 := Lib.hid (app_below HB2.out HS2.out HO2.out hgrow)
   have HO3 := Lib.hid hown'
   clear hown' hgrow hiff HB2 HS2 HO2
   go_wp2
   go_roundw
   case rel => exact ⟨j + 1, by omega, by go_num, (by unfold Hid; rw [HC.out]; exact HO3.out), HB3⟩
   case measure => simp [intOf]; omega
  ·obtain rfl : j = l.length := by omega
   rw [List.take_of_length_le (Nat.le_refl _)] at HO
   go_wp2
   go_ret
   exact ⟨_, rfl, HO.out, HB.out⟩
theorem e_olds (a : Option Addr) (c : Nat) (l : List EnM) (W : World) (h : EnSl W a l) (hl : l.length ≤ 1000) : Calls Tryz.prog 78 #[.slice a l.length c] W fun e w' => ∃ x q, e = .returned (.slice x l.length q) ∧ l.length ≤ q ∧ q ≤ maxLen ∧ (x = none → q = 0) ∧ EnSl w' x l ∧ Below W.heap.size W w' := by
 refine (eolds_any a c l W h (by omega)).mono ?_
 rintro e w' ⟨v, rfl, ho, hb⟩
 obtain ⟨x, q, rfl, h1, h2, h3, h4⟩ := own_en ho
 exact ⟨x, q, rfl, h1, h2, h4, h3, hb⟩
theorem e_same (a b : Option Addr) (c q : Nat) (l m : List EnM) (W : World) (ha : EnSl W a l) (hb : EnSl W b m) (hl : l.length ≤ 1000) (hm : m.length ≤ 1000) : Calls Tryz.prog 86 #[.slice a l.length c, .slice b m.length q] W fun e w' => e = .returned (.bool (decide (l = m))) ∧ Below W.heap.size W w' :=
 esame_any a b c q l m W ha hb (by unfold maxLen; omega) (by unfold maxLen; omega)
theorem e_rsame (a b : Option Addr) (c q : Nat) (l m : List EnM) (W : World) (ha : EnSl W a l) (hb : EnSl W b m) (hl : l.length ≤ 1000) (hm : m.length ≤ 1000) : Calls Tryz.prog 76 #[.slice a l.length c, .slice b m.length q] W fun e w' => e = .returned (.bool (decide (l = m))) ∧ Below W.heap.size W w' :=
 erefSame_any a b c q l m W ha hb (by unfold maxLen; omega) (by unfold maxLen; omega)
end Go.Proofs.YtmfpjapiijgdgaaGreat
namespace Go.Proofs.YtmfpjapiijgdgaaGreat
open Go.RowKit Go.Proofs
set_option linter.unusedVariables false
set_option maxRecDepth 100000
set_option maxHeartbeats 2000000 in
theorem dtold_any (a b : Option Addr) (c d : Nat) (E : List Int) (w : World) (ha : ErSl w a E) (hb : ErSl w b E) (hl : E.length ≤ 1000) :
  Calls Tryz.prog 28 #[.slice a E.length c, .slice b E.length d] w fun e w' => e = .returned (.bool true) ∧ Below w.heap.size w w' := by
 have HA := Lib.hid ha
 have HB := Lib.hid hb
 clear ha hb
 have hne : ((E.length : Int) != (E.length : Int)) = false := by simp
 go_enter Tryz.func28, Tryz.ntmps28
 go_wp2
 go_loopw [13] (fun i wr => ∃ k : Nat, k ≤ E.length ∧ i = .int .i64 k ∧ Hid (Drew w wr)) (fun i _ => E.length - (intOf i).toNat)
 case atStart => exact ⟨0, by omega, rfl, Drew.refl _⟩
 case round =>
  obtain ⟨k, hk, rfl, HD⟩ := hrel
  by_cases hlt : k < E.length
  ·have hw1 : IntKind.i64.wrap ((k : Int) + 1) = (k : Int) + 1 := IntWalk.i64_in _ (by omega)
   obtain ⟨b1, o1, rfl, _, hc1⟩ := HA.out.at_ hlt
   obtain ⟨b2, o2, rfl, _, hc2⟩ := HB.out.at_ hlt
   have hc1 := (HD.out.cell _).trans hc1
   have hc2 := (HD.out.cell _).trans hc2
   generalize E[k] = x at *
   have hx : (x != x) = false := by simp
   go_wp2
   go_quiet (fail)
   go_wp2
   go_roundw
   case rel => exact ⟨k + 1, by omega, by go_num, HD.out.trans ⟨_, rfl⟩⟩
   case measure => simp [intOf]; omega
  ·go_wp2
   go_ret
   exact ⟨rfl, HD.out.below _⟩
end Go.Proofs.YtmfpjapiijgdgaaGreat
namespace Go.Proofs.YtmfpjapiijgdgaaGreat
open Go.RowKit Go.Proofs
set_option linter.unusedVariables false
set_option maxRecDepth 100000
set_option maxRecDepth 100000
def OwnStR (W : World) (B : Nat) (y : UsL) : Prop := W.ownsRow B 104 4 (.slice y.a y.l.length y.c) y.l.length (sts y.l)
theorem OwnStR.at_ {W : World} {B : Nat} {y : UsL} (h : OwnStR W B y) : UsAt W y := by
 obtain ⟨x, q, h1, h2, h3, h4, h5⟩ := own_st h
 injection h1 with k1 k2 k3
 subst k1 k3
 exact ⟨h4, h2, h3, h5⟩
section
variable {T W : World} {g : Nat} {x : SaL} {t : TypeId}
end
theorem s_olds11 (a : Option Addr) (c : Nat) (l : List StM) (u : ByteArray) (W : World) (h : StSl W a l) (hl : l.length ≤ 1000) : Calls Tryz.prog 38 #[.slice a l.length c] W fun e w' => ∃ x q, e = .returned (.slice x l.length q) ∧ OwnStR w' W.heap.size ⟨u, x, l, q⟩ ∧ Below W.heap.size W w' := by
 refine Calls.mono (solds_any a c l W h (by omega)) ?_
 rintro e w' ⟨v, rfl, ho, hb⟩
 obtain ⟨x, q, rfl, h1, h2, h3, h4⟩ := own_st ho
 exact ⟨x, q, rfl, ho, hb⟩
section
variable {w T W W' : World} {g : Nat} {now hor : Int} {x1 x2 : Option Addr} {n1 q1 n2 q2 : Nat} {D : List UsL} {E : List TbM} {v vt : Value}
end
end Go.Proofs.YtmfpjapiijgdgaaGreat
namespace Go.Proofs.YtmfpjapiijgdgaaGreat
open Go.RowKit Go.Proofs
set_option linter.unusedVariables false
set_option maxRecDepth 100000
set_option maxHeartbeats 4000000 in
theorem dwithout_any (u : ByteArray) (a : Option Addr) (c : Nat) (l : List EvM) (w : World) (hs : EvSl w a l) (hl : l.length ≤ 1000) :
  Calls Tryz.prog 34 #[.string u, .slice a l.length c] w (RowsTo w (withoutV u l)) := by
 obtain ⟨i0, hi0, hz0, hz1, hz2⟩ := info_parts infoEventR
 have HTN : Hid (∀ j (h : j < l.length), withoutV u (l.take (j + 1)) = withoutV u (l.take j) ++ (if bearB u l[j] = true then [] else [l[j]])) := Lib.hid fun j h => withoutV_next u l j h
 have HLN : Hid (∀ j, (withoutV u (l.take j)).length ≤ j) := Lib.hid fun j => Nat.le_trans (List.length_filter_le _ _) (take_len_le _ _)
 have HTE : Hid (withoutV u (l.take l.length) = withoutV u l) := Lib.hid (by rw [List.take_length])
 have HAA := Lib.hid hs
 have H0 : Hid (w.ownsRow w.heap.size 47 6 (.slice none 0 0) (withoutV u (l.take 0)).length (evs (withoutV u (l.take 0)))) := Lib.hid ⟨rfl, .inl ⟨rfl, rfl⟩⟩
 have HBU : Hid (Below w.heap.size w w) := Lib.hid (Below.refl _ _)
 clear hs
 go_enter Tryz.func34, Tryz.ntmps34
 go_wp2
 go_loopw [5, 6] (fun v iv wr => ∃ (j : Nat), j ≤ l.length ∧ iv = .int .i64 j ∧ Hid (wr.ownsRow w.heap.size 47 6 v (withoutV u (l.take j)).length (evs (withoutV u (l.take j)))) ∧ Hid (Below w.heap.size w wr)) (fun _ iv _ => l.length - (intOf iv).toNat)
 case atStart => exact ⟨0, by omega, rfl, H0, HBU⟩
 case round =>
  clear H0 HBU
  obtain ⟨j, hj, rfl, HO, HB⟩ := hrel
  by_cases hjl : j < l.length
  ·have hw1 : IntKind.i64.wrap ((j : Int) + 1) = (j : Int) + 1 := IntWalk.i64_in _ (by omega)
   have HBF : Hid (Below w.heap.size w wr) := Lib.hid HB.out
   obtain ⟨ba, ao, rfl, -, r0, r1, r2, r3, r4, r5⟩ := (HAA.out.below HBF.out).at_ hjl
   have HNX := Lib.hid (HTN.out j hjl)
   have hle := HLN.out j
   generalize l[j] = x at *
   generalize withoutV u (l.take j) = E at *
   have t1 := txt_ndec x.user u
   have t2 := txt_ndec x.other u
   have s1 := txt_dec x.user u
   have s2 := txt_dec x.other u
   by_cases h1 : x.user = u
   ·rw [decide_eq_true h1] at t1 s1
    have hb : bearB u x = true := by unfold bearB; rw [decide_eq_true h1]; rfl
    rw [if_pos hb, List.append_nil] at HNX
    clear h1 hb t2 s2
    simp only [Bool.not_true] at t1
    go_wp2
    go_roundw
    case rel => exact ⟨j + 1, by omega, by go_num, Lib.hid (by rw [HNX.out]; exact HO.out), HB⟩
    case measure => simp [intOf]; omega
   ·rw [decide_eq_false h1] at t1 s1
    by_cases h2 : x.other = u
    ·rw [decide_eq_true h2] at t2 s2
     have hb : bearB u x = true := by unfold bearB; rw [decide_eq_true h2, Bool.or_true]
     rw [if_pos hb, List.append_nil] at HNX
     clear h1 h2 hb
     simp only [Bool.not_true, Bool.not_false] at t1 t2
     go_wp2
     go_roundw
     case rel => exact ⟨j + 1, by omega, by go_num, Lib.hid (by rw [HNX.out]; exact HO.out), HB⟩
     case measure => simp [intOf]; omega
    ·rw [decide_eq_false h2] at t2 s2
     have hb : ¬ bearB u x = true := by unfold bearB; rw [decide_eq_false h1, decide_eq_false h2]; decide
     rw [if_neg hb] at HNX
     clear h1 h2 hb
     simp only [Bool.not_false] at t1 t2
     have hb3 := below_one wr (.cells #[.int .i64 x.kind, .int .i64 x.at_, .string x.user, .string x.other, .int .i64 x.n, .int .i64 x.status] 47)
     have HO2 := Lib.hid (own_below HO.out hb3)
     have HB3 := Lib.hid (HB.out.trans (hb3.mono HB.out.size))
     have HS3 := Lib.hid HB3.out.size
     clear hb3
     go_wp2_with (at_builtin; refine wpList_append_own _ rfl (.tmp 29) (.tmp 34) 28 rfl w.heap.size 47 i0 _ 6 64 Tryz.underlying28 hi0 hz0 hz1 hz2 rfl (by decide) _ _ _ rfl HO2.out ⟨wr.heap.size, 0, none⟩ 1 1 [.int .i64 x.kind, .int .i64 x.at_, .string x.user, .string x.other, .int .i64 x.n, .int .i64 x.status] rfl rfl (news_at _ _ _ _ rfl) (six_cells x) (by unfold maxLen; omega) (by omega) HS3.out ?_; intro v' w3 hown' hgrow hiff)
     have HB4 := Lib.hid (app_below HB3.out HS3.out HO2.out hgrow)
     have HO4 : Hid (w3.ownsRow w.heap.size 47 6 v' (E ++ [x]).length (evs (E ++ [x]))) := Lib.hid (by rw [evs_snoc, List.length_append]; exact hown')
     clear hown' hgrow hiff HB3 HS3 HO2 HO HB
     go_wp2
     go_roundw
     case rel => exact ⟨j + 1, by omega, by go_num, Lib.hid (by rw [HNX.out]; exact HO4.out), HB4⟩
     case measure => simp [intOf]; omega
  ·obtain rfl : j = l.length := by omega
   rw [HTE.out] at HO
   have HBF : Hid (Below w.heap.size w wr) := Lib.hid HB.out
   obtain ⟨b', q', rfl, k1, k2, k3, k4⟩ := own_ev2 HO.out
   have HH := Lib.hid (And.intro k1 (And.intro k2 (And.intro k3 (And.intro k4 HBF.out))))
   clear HO HB k1 k2 k3 k4 HBF HTN HLN HTE
   go_wp2
   go_ret
   exact ⟨b', q', rfl, HH.out⟩
theorem h_rfold (x : SaL) {M : SaM} (hm : x.m = M) (a : Option Addr) (c : Nat) (l : List EvM) (V : World) (h : SaAt V x) (hr : RightS M) (hs : EvSl V a l) (hf : FitsV l) (hc : stCnt M + l.length ≤ 200) : Calls Tryz.prog 24 #[saV x, .slice a l.length c] V (FoldsV V (foldE M l) (errsE M l)) := by
 subst hm
 exact rfold_any x a c l V h hr hs hf hc
set_option maxHeartbeats 2000000 in
theorem evolds_any (a : Option Addr) (c : Nat) (l : List EvM) (w : World) (hr : EvSl w a l) (hl : l.length ≤ 1000000) :
  Calls Tryz.prog 30 #[.slice a l.length c] w fun e w' => ∃ (v : Value), e = .returned v ∧ w'.ownsRow w.heap.size 47 6 v l.length (evs l) ∧ Below w.heap.size w w' := by
 obtain ⟨i0, hi, hz0, hz1, hz2⟩ := info_parts infoEventR
 have HR := Lib.hid hr
 clear hr
 go_enter Tryz.func30, Tryz.ntmps30
 go_wp2
 go_loopw [3, 8] (fun v i wr => ∃ (j : Nat), j ≤ l.length ∧ i = .int .i64 j ∧ Hid (wr.ownsRow w.heap.size 47 6 v j (evs (l.take j))) ∧ Hid (Below w.heap.size w wr)) (fun _ i _ => l.length - (intOf i).toNat)
 case atStart => exact ⟨0, by omega, rfl, ⟨rfl, .inl ⟨rfl, rfl⟩⟩, Below.refl _ _⟩
 case round =>
  obtain ⟨j, hj, rfl, HO, HB⟩ := hrel
  by_cases hjl : j < l.length
  ·obtain ⟨b, off, rfl, hbl, hc0, hc1, hc2, hc3, hc4, hc5⟩ := (HR.out.below HB.out).at_ hjl
   have HC := Lib.hid (evs_take l j hjl)
   generalize l[j] = x at *
   have HO2 := Lib.hid (own_below HO.out (below_two wr (.cells #[.int .i64 x.kind, .int .i64 x.at_, .string x.user, .string x.other, .int .i64 x.n, .int .i64 x.status] 64) (.cells #[.int .i64 x.kind, .int .i64 x.at_, .string x.user, .string x.other, .int .i64 x.n, .int .i64 x.status] 47)))
   have HB2 : Hid (Below w.heap.size w ((wr.alloc (.cells #[.int .i64 x.kind, .int .i64 x.at_, .string x.user, .string x.other, .int .i64 x.n, .int .i64 x.status] 64)).alloc (.cells #[.int .i64 x.kind, .int .i64 x.at_, .string x.user, .string x.other, .int .i64 x.n, .int .i64 x.status] 47))) := HB.out.trans ((below_two _ _ _).mono HB.out.size)
   have HS2 := Lib.hid HB2.out.size
   go_wp2_with (at_builtin; refine wpList_append_own _ rfl (.tmp 12) (.tmp 14) 28 rfl w.heap.size 47 i0 _ 6 64 Tryz.underlying28 hi hz0 hz1 hz2 rfl (by decide) _ _ _ rfl HO2.out ⟨wr.heap.size + 1, 0, none⟩ 1 1 [.int .i64 x.kind, .int .i64 x.at_, .string x.user, .string x.other, .int .i64 x.n, .int .i64 x.status] rfl rfl (news_at _ _ _ _ (size1 _ _).symm) (six_cells x) (by unfold maxLen; omega) (by omega) HS2.out ?_; intro v' w2 hown' hgrow hiff)
   have HB3 := Lib.hid (app_below HB2.out HS2.out HO2.out hgrow)
   have HO3 := Lib.hid hown'
   clear hown' hgrow hiff HB2 HS2 HO2
   go_wp2
   go_roundw
   case rel => exact ⟨j + 1, by omega, by go_num, (by unfold Hid; rw [HC.out]; exact HO3.out), HB3⟩
   case measure => simp [intOf]; omega
  ·obtain rfl : j = l.length := by omega
   rw [List.take_of_length_le (Nat.le_refl _)] at HO
   go_wp2
   go_ret
   exact ⟨_, rfl, HO.out, HB.out⟩
instance evDec : DecidableEq EvM := fun a b => decidable_of_iff (a.kind = b.kind ∧ a.at_ = b.at_ ∧ a.user = b.user ∧ a.other = b.other ∧ a.n = b.n ∧ a.status = b.status) (by
 obtain ⟨_, _, _, _, _, _⟩ := a
 obtain ⟨_, _, _, _, _, _⟩ := b
 simp)
theorem toList_ne12 {a b : ByteArray} (h : a ≠ b) : (a.toList == b.toList) = false := txt_ne h
set_option maxHeartbeats 4000000 in
theorem evsame_any (a b : Option Addr) (ca cb : Nat) (l m : List EvM) (w : World) (ha : EvSl w a l) (hb : EvSl w b m) (hla : l.length ≤ maxLen) (hlb : m.length ≤ maxLen) :
  Calls Tryz.prog 29 #[.slice a l.length ca, .slice b m.length cb] w fun e w' => e = .returned (.bool (decide (l = m))) ∧ Below w.heap.size w w' := by
 have HA := Lib.hid ha
 have HB := Lib.hid hb
 clear ha hb
 unfold maxLen at hla hlb
 by_cases hll : l.length = m.length
 ·obtain ⟨n, hn⟩ : ∃ n, n = m.length := ⟨_, rfl⟩
  have HL : Hid (l.length = n) := hll.trans hn.symm
  have HM : Hid (m.length = n) := hn.symm
  rw [HL.out, HM.out]
  rw [HM.out] at hlb
  clear hll hn hla
  go_enter Tryz.func29, Tryz.ntmps29
  go_wp2
  go_loopw [5] (fun i wr => ∃ (j : Nat), j ≤ n ∧ i = .int .i64 j ∧ Hid (l.take j = m.take j) ∧ Hid (Drew w wr)) (fun i _ => n - (intOf i).toNat)
  case atStart => exact ⟨0, by omega, rfl, (by unfold Hid; rfl), Drew.refl _⟩
  case round =>
   obtain ⟨j, hj, rfl, HT, HD⟩ := hrel
   by_cases hjn : j < n
   ·have hjl : j < l.length := by have := HL.out; omega
    have hjm : j < m.length := by have := HM.out; omega
    obtain ⟨b1, o1, rfl, hb1, hc0, hc1, hc2, hc3, hc4, hc5⟩ := (HA.out.below (HD.out.below _)).at_ hjl
    obtain ⟨b2, o2, rfl, hb2, hd0, hd1, hd2, hd3, hd4, hd5⟩ := (HB.out.below (HD.out.below _)).at_ hjm
    have HN := Lib.hid (take_same hjl hjm HT.out)
    have HNE : Hid (l[j] ≠ m[j] → l ≠ m) := fun h e => h (by subst e; rfl)
    generalize l[j] = x at *
    generalize m[j] = y at *
    clear hjl hjm
    obtain ⟨k1, a1, u1, v1, n1, s1⟩ := x
    obtain ⟨k2, a2, u2, v2, n2, s2⟩ := y
    dsimp only at *
    by_cases h0 : k1 = k2
    ·subst h0
     by_cases h1 : a1 = a2
     ·subst h1
      by_cases h2 : u1 = u2
      ·subst h2
       by_cases h3 : v1 = v2
       ·subst h3
        by_cases h4 : n1 = n2
        ·subst h4
         by_cases h5 : s1 = s2
         ·subst h5
          have HN2 := Lib.hid (HN.out rfl)
          have he0 : (k1 == k1) = true := beq_self_eq_true _
          have he1 : (a1 == a1) = true := beq_self_eq_true _
          have he2 : (u1.toList == u1.toList) = true := beq_self_eq_true _
          have he3 : (v1.toList == v1.toList) = true := beq_self_eq_true _
          have he4 : (n1 == n1) = true := beq_self_eq_true _
          have he5 : (s1 == s1) = true := beq_self_eq_true _
          clear HN HNE
          go_wp2
          go_quiet (fail)
          go_wp2
          go_roundw
          case rel => exact ⟨j + 1, by omega, by go_num, HN2, HD.out.trans ⟨_, rfl⟩⟩
          case measure => simp [intOf]; omega
         ·have HF : Hid (decide (l = m) = false) := decide_eq_false (HNE.out (fun e => h5 (congrArg EvM.status e)))
          have heq5 : (s1 == s2) = false := beq_eq_false_iff_ne.2 h5
          have he0 : (k1 == k1) = true := beq_self_eq_true _
          have he1 : (a1 == a1) = true := beq_self_eq_true _
          have he2 : (u1.toList == u1.toList) = true := beq_self_eq_true _
          have he3 : (v1.toList == v1.toList) = true := beq_self_eq_true _
          have he4 : (n1 == n1) = true := beq_self_eq_true _
          clear HN HNE
          go_wp2
          go_quiet (fail)
          go_wp2
          go_ret
          exact ⟨by rw [HF.out]; rfl, (HD.out.trans ⟨_, rfl⟩).below _⟩
        ·have HF : Hid (decide (l = m) = false) := decide_eq_false (HNE.out (fun e => h4 (congrArg EvM.n e)))
         have heq4 : (n1 == n2) = false := beq_eq_false_iff_ne.2 h4
         have he0 : (k1 == k1) = true := beq_self_eq_true _
         have he1 : (a1 == a1) = true := beq_self_eq_true _
         have he2 : (u1.toList == u1.toList) = true := beq_self_eq_true _
         have he3 : (v1.toList == v1.toList) = true := beq_self_eq_true _
         clear HN HNE
         go_wp2
         go_quiet (fail)
         go_wp2
         go_ret
         exact ⟨by rw [HF.out]; rfl, (HD.out.trans ⟨_, rfl⟩).below _⟩
       ·have HF : Hid (decide (l = m) = false) := decide_eq_false (HNE.out (fun e => h3 (congrArg EvM.other e)))
        have heq3 : (v1.toList == v2.toList) = false := toList_ne12 h3
        have he0 : (k1 == k1) = true := beq_self_eq_true _
        have he1 : (a1 == a1) = true := beq_self_eq_true _
        have he2 : (u1.toList == u1.toList) = true := beq_self_eq_true _
        clear HN HNE
        go_wp2
        go_quiet (fail)
        go_wp2
        go_ret
        exact ⟨by rw [HF.out]; rfl, (HD.out.trans ⟨_, rfl⟩).below _⟩
      ·have HF : Hid (decide (l = m) = false) := decide_eq_false (HNE.out (fun e => h2 (congrArg EvM.user e)))
       have heq2 : (u1.toList == u2.toList) = false := toList_ne12 h2
       have he0 : (k1 == k1) = true := beq_self_eq_true _
       have he1 : (a1 == a1) = true := beq_self_eq_true _
       clear HN HNE
       go_wp2
       go_quiet (fail)
       go_wp2
       go_ret
       exact ⟨by rw [HF.out]; rfl, (HD.out.trans ⟨_, rfl⟩).below _⟩
     ·have HF : Hid (decide (l = m) = false) := decide_eq_false (HNE.out (fun e => h1 (congrArg EvM.at_ e)))
      have heq1 : (a1 == a2) = false := beq_eq_false_iff_ne.2 h1
      have he0 : (k1 == k1) = true := beq_self_eq_true _
      clear HN HNE
      go_wp2
      go_quiet (fail)
      go_wp2
      go_ret
      exact ⟨by rw [HF.out]; rfl, (HD.out.trans ⟨_, rfl⟩).below _⟩
    ·have HF : Hid (decide (l = m) = false) := decide_eq_false (HNE.out (fun e => h0 (congrArg EvM.kind e)))
     have heq0 : (k1 == k2) = false := beq_eq_false_iff_ne.2 h0
     clear HN HNE
     go_wp2
     go_quiet (fail)
     go_wp2
     go_ret
     exact ⟨by rw [HF.out]; rfl, (HD.out.trans ⟨_, rfl⟩).below _⟩
   ·obtain rfl : j = n := by omega
    have HE : Hid (decide (l = m) = true) := decide_eq_true (by
     have := HT.out
     rwa [List.take_of_length_le (Nat.le_of_eq HL.out), List.take_of_length_le (Nat.le_of_eq HM.out)] at this)
    go_wp2
    go_ret
    exact ⟨by rw [HE.out]; rfl, HD.out.below _⟩
 ·have HE : Hid (decide (l = m) = false) := decide_eq_false (fun e => hll (by rw [e]))
  have hne : ((l.length : Int) == (m.length : Int)) = false := beq_eq_false_iff_ne.2 (by omega)
  go_enter Tryz.func29, Tryz.ntmps29
  go_wp2
  go_ret
  exact ⟨by rw [HE.out]; rfl, Below.refl _ _⟩
theorem h_olds (a : Option Addr) (c : Nat) (l : List EvM) (V : World) (h : EvSl V a l) (hl : l.length ≤ 1000) : Calls Tryz.prog 30 #[.slice a l.length c] V (RowsTo V l) := by
 refine (evolds_any a c l V h (by omega)).mono ?_
 rintro r w' ⟨v, rfl, ho, hb⟩
 obtain ⟨b, q, rfl, h1, h2, h3, h4⟩ := own_ev2 ho
 exact ⟨b, q, rfl, h1, h2, h3, h4, hb⟩
theorem h_esame (a b : Option Addr) (c q : Nat) (l : List EvM) (V : World) (ha : EvSl V a l) (hb : EvSl V b l) (hl : l.length ≤ 1000) : Calls Tryz.prog 29 #[.slice a l.length c, .slice b l.length q] V fun r w' => r = .returned (.bool true) ∧ Below V.heap.size V w' := by
 have h := evsame_any a b c q l l V ha hb (by unfold maxLen; omega) (by unfold maxLen; omega)
 rwa [decide_eq_true rfl] at h
end Go.Proofs.YtmfpjapiijgdgaaGreat
