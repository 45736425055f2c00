/- Texts of mine, one behind the other, of each what is wanted. -/
import Derived.Test.YtjhdhfokhkcamaaGreatS00
import Derived.Test.YtjhdhfokhkcamaaGreatShelf
import Derived.Test.YtjhdhfokhkcamaaGreatRows
import Derived.Test.YtjhdhfokhkcamaaGreatS02
import Derived.Test.YtjhdhfokhkcamaaGreatS03
import Derived.Test.YtjhdhfokhkcamaaGreatS04
import Derived.Test.YtjhdhfokhkcamaaGreatS06
import Derived.Test.YtjhdhfokhkcamaaGreatS07
import Derived.Test.YtjhdhfokhkcamaaGreatS08
import Derived.Test.YtjhdhfokhkcamaaGreatS09
import Derived.Test.YtjhdhfokhkcamaaGreatS11
import Derived.Test.YtjhdhfokhkcamaaGreatS13
import Derived.Test.YtjhdhfokhkcamaaGreatS14
import Derived.Test.YtjhdhfokhkcamaaGreatS17
import Derived.Test.YtjhdhfokhkcamaaGreatS21
import Derived.Test.YtjhdhfokhkcamaaGreatS22
import Derived.Test.YtjhdhfokhkcamaaGreatS23
import Derived.Test.YtjhdhfokhkcamaaGreatS24
import Derived.Test.YtjhdhfokhkcamaaGreatS27
import Derived.Test.YtjhdhfokhkcamaaGreatS29
import Derived.Test.YtjhdhfokhkcamaaGreatS30
import Derived.Test.YtjhdhfokhkcamaaGreatS32
import Derived.Test.YtjhdhfokhkcamaaGreatS34
import Derived.Test.YtjhdhfokhkcamaaGreatS35
namespace Go.Proofs.YtjhdhfokhkcamaaGreat
open Go.RowKit Go.Proofs
set_option linter.unusedVariables false
set_option maxRecDepth 100000
set_option maxRecDepth 100000
def cutTo (l : List EnM) (k : Nat) (a : Int) (j : Nat) : List EnM := if j ≤ k then l.take j else cutS (l.take j) k a
theorem cutTo_zero (l : List EnM) (k : Nat) (a : Int) : cutTo l k a 0 = [] := by unfold cutTo; rw [if_pos (Nat.zero_le _)]; rfl
theorem cutTo_all {l : List EnM} {k : Nat} (h : k < l.length) (a : Int) : cutTo l k a l.length = cutS l k a := by
 unfold cutTo
 rw [if_neg (by omega), List.take_of_length_le (Nat.le_refl _)]
theorem cut_snoc {m : List EnM} {x : EnM} {k : Nat} (h : k < m.length) (a : Int) : cutS (m ++ [x]) k a = cutS m k a ++ [x] := by
 rw [cut_at (l := m ++ [x]) (by rw [List.length_append]; omega), cut_at h, List.getElem_append_left h, List.take_append_of_le_length (by omega), List.drop_append_of_le_length (by omega)]
 simp only [List.append_assoc]
theorem cutTo_other {l : List EnM} {k j : Nat} (hj : j < l.length) (hk : k < l.length) (a : Int) (hne : ¬ j = k) : cutTo l k a (j + 1) = cutTo l k a j ++ [l[j]] := by
 unfold cutTo
 by_cases h1 : j ≤ k
 ·rw [if_pos h1, if_pos (by omega), List.take_succ_eq_append_getElem hj]
 ·rw [if_neg h1, if_neg (by omega), List.take_succ_eq_append_getElem hj, cut_snoc (by rw [List.length_take]; omega)]
theorem cutTo_here {l : List EnM} {k : Nat} (hk : k < l.length) (a : Int) : cutTo l k a (k + 1) = cutTo l k a k ++ endS l[k] a := by
 unfold cutTo
 rw [if_pos (Nat.le_refl _), if_neg (by omega), cut_at (by rw [List.length_take]; omega), List.getElem_take, List.take_take, Nat.min_eq_left (by omega), List.drop_of_length_le (by rw [List.length_take]; omega), List.append_nil]
theorem cutTo_len (l : List EnM) (k : Nat) (a : Int) (j : Nat) : (cutTo l k a j).length ≤ j := by
 unfold cutTo
 split
 ·rw [List.length_take]; omega
 ·exact Nat.le_trans (cut_len _ _ _) (by rw [List.length_take]; omega)
set_option maxHeartbeats 8000000 in
theorem refRevoke_any (a : Option Addr) (c : Nat) (l : List EnM) (p u : ByteArray) (n : Int) (w : World) (hr : EnSl w a l) (hl : l.length ≤ 500) :
  Calls Tryz.prog 49 #[.slice a l.length c, pr p u, .int .i64 n] w fun e w' => (l.any (infE p u) = false ∧ e = .returned (.tuple #[.slice none 0 0, .int .i64 91]) ∧ Below w.heap.size w w') ∨
   (l.any (infE p u) = true ∧ ∃ v, e = .returned (.tuple #[v, .int .i64 0]) ∧ w'.ownsRow w.heap.size 82 4 v (revokeS l p u n).length (ens (revokeS l p u n)) ∧ Below w.heap.size w w') := by
 obtain ⟨i0, hi, hz0, hz1, hz2⟩ := info_parts infoEnR
 have HPC := Lib.hid (PK.new hr p u 96)
 have HIF := Lib.hid (fun W (h : EnSl W a l) => force_any a c l p u W h (by omega))
 have HF := first_idx (infE p u) l
 have HREV := fun k (h : IsFirst (infE p u) l k) => revoke_at h n
 unfold pr at *
 generalize hG : revokeS l p u n = G at *
 clear hr hG
 have hany := HF.any
 generalize l.findIdx (infE p u) = k at *
 by_cases hk : k < l.length
 ·rw [decide_eq_true hk] at hany
  rw [hany]
  have hix := idx_hit HF hk
  have HGG := Lib.hid ((HREV k HF).trans (cutTo_all hk n).symm)
  have HZ := Lib.hid (cutTo_zero l k n)
  have HCO := Lib.hid (fun j (hj : j < l.length) (h : ¬ j = k) => cutTo_other hj hk n h)
  have HCH := Lib.hid (cutTo_here hk n)
  have HCL := Lib.hid (cutTo_len l k n)
  rw [hix] at HIF
  have HKL := Lib.hid hk
  clear HREV HF hix hany
  have hd0 : decide ((k : Int) < 0) = false := decide_eq_false (by omega)
  go_enter Tryz.func49, Tryz.ntmps49
  go_wp2_with fail
  refine (HIF.out _ HPC.out.row).mono ?_
  rintro e w1 ⟨rfl, hB⟩
  have K1 := Lib.hid (HPC.out.below hB)
  clear hB HPC HIF
  go_wp2
  go_loopw [9, 10] (fun v i wr => ∃ (j : Nat), j ≤ l.length ∧ i = .int .i64 j ∧ Hid (wr.ownsRow w1.heap.size 82 4 v (cutTo l k n j).length (ens (cutTo l k n j))) ∧ Hid (Below w1.heap.size w1 wr)) (fun _ i _ => l.length - (intOf i).toNat)
  case atStart => exact ⟨0, by omega, rfl, (by unfold Hid; rw [HZ.out]; exact ⟨rfl, .inl ⟨rfl, rfl⟩⟩), Below.refl _ _⟩
  case round =>
   obtain ⟨j, hj, rfl, HO, HB⟩ := hrel
   by_cases hjl : j < l.length
   ·obtain ⟨b, off, rfl, hbl, hc0, hc1, hc2, hc3⟩ := (K1.out.below HB.out).row.at_ hjl
    have HLN := Lib.hid (HCL.out j)
    have HCJ := Lib.hid (HCO.out j hjl)
    have HJK : Hid (∀ h : j = k, l[k] = l[j]) := fun h => by subst h; rfl
    by_cases hjk : j = k
    ·have HC1 : Hid (cutTo l k n (j + 1) = cutTo l k n j ++ endS l[j] n) := by subst hjk; exact HCH.out
     have he1 : ((j : Int) == (k : Int)) = true := beq_iff_eq.2 (by omega)
     have hji : (j : Int) ≤ (k : Int) := by omega
     have hji2 : (k : Int) ≤ (j : Int) := by omega
     generalize l[j] = x at *
     generalize cutTo l k n j = m at *
     by_cases hn : n ≤ x.f
     ·have hd : decide (x.f < n) = false := decide_eq_false (by omega)
      have HC2 : Hid (cutTo l k n (j + 1) = m) := by have := HC1.out; unfold endS at this; rwa [if_pos hn, List.append_nil] at this
      have HO1 := Lib.hid (own_below HO.out (ebelow_one wr (.cells #[.string x.w, .string x.u, .int .i64 x.f, .int .i64 n] 82)))
      have HB1 : Hid (Below w1.heap.size w1 (wr.alloc (.cells #[.string x.w, .string x.u, .int .i64 x.f, .int .i64 n] 82))) := HB.out.trans ((ebelow_one wr _).mono HB.out.size)
      clear HC1 HCJ HJK HCH HCO hjk hn
      go_wp2
      go_roundw
      case rel => exact ⟨j + 1, by omega, by go_num, (by unfold Hid; rw [HC2.out]; exact HO1.out), HB1⟩
      case measure => simp [intOf]; omega
     ·have hd : decide (x.f < n) = true := decide_eq_true (by omega)
      have HC2 : Hid (cutTo l k n (j + 1) = m ++ [⟨x.w, x.u, x.f, n⟩]) := by have := HC1.out; unfold endS at this; rwa [if_neg hn] at this
      clear HC1 HCJ HJK HCH HCO hjk hn
      have HO1 := Lib.hid (own_below HO.out (below_2 wr (.cells #[.string x.w, .string x.u, .int .i64 x.f, .int .i64 n] 82) (.cells #[.string x.w, .string x.u, .int .i64 x.f, .int .i64 n] 82)))
      have HB1 : Hid (Below w1.heap.size w1 ((wr.alloc (.cells #[.string x.w, .string x.u, .int .i64 x.f, .int .i64 n] 82)).alloc (.cells #[.string x.w, .string x.u, .int .i64 x.f, .int .i64 n] 82))) := HB.out.trans ((below_2 wr (.cells #[.string x.w, .string x.u, .int .i64 x.f, .int .i64 n] 82) (.cells #[.string x.w, .string x.u, .int .i64 x.f, .int .i64 n] 82)).mono HB.out.size)
      have HS1 := Lib.hid HB1.out.size
      have hlm := HLN.out
      go_wp2_with (at_builtin; refine wpList_append_own _ rfl (.tmp 42) (.tmp 44) 24 rfl w1.heap.size 82 i0 _ 4 48 Tryz.underlying24 hi hz0 hz1 hz2 rfl (by decide) _ _ _ rfl HO1.out ⟨wr.heap.size + 1, 0, none⟩ 1 1 [.string x.w, .string x.u, .int .i64 x.f, .int .i64 n] rfl rfl (news_at _ _ _ _ (size1 _ _).symm) (four_e _ _ _ _) (by unfold maxLen; omega) (by omega) HS1.out ?_; intro v2 w5 ho2 hgrow hiff)
      have HB2 := Lib.hid (app_below HB1.out HS1.out HO1.out hgrow)
      have HO2 := Lib.hid (own_snoc (x := ⟨x.w, x.u, x.f, n⟩) ho2)
      clear ho2 hgrow hiff HB1 HS1 HO1
      go_wp2
      go_roundw
      case rel => exact ⟨j + 1, by omega, by go_num, (by unfold Hid; rw [HC2.out]; exact HO2.out), HB2⟩
      case measure => simp [intOf]; omega
    ·have HC2 : Hid (cutTo l k n (j + 1) = cutTo l k n j ++ [l[j]]) := HCJ.out hjk
     have he1 : ((j : Int) == (k : Int)) = false := beq_eq_false_iff_ne.2 (by omega)
     have hji : ¬ (j : Int) = (k : Int) := by omega
     generalize l[j] = x at *
     generalize cutTo l k n j = m at *
     clear HCJ HJK HCH HCO hjk
     have HO1 := Lib.hid (own_below HO.out (below_2 wr (.cells #[.string x.w, .string x.u, .int .i64 x.f, .int .i64 x.t] 82) (.cells #[.string x.w, .string x.u, .int .i64 x.f, .int .i64 x.t] 82)))
     have HB1 : Hid (Below w1.heap.size w1 ((wr.alloc (.cells #[.string x.w, .string x.u, .int .i64 x.f, .int .i64 x.t] 82)).alloc (.cells #[.string x.w, .string x.u, .int .i64 x.f, .int .i64 x.t] 82))) := HB.out.trans ((below_2 wr (.cells #[.string x.w, .string x.u, .int .i64 x.f, .int .i64 x.t] 82) (.cells #[.string x.w, .string x.u, .int .i64 x.f, .int .i64 x.t] 82)).mono HB.out.size)
     have HS1 := Lib.hid HB1.out.size
     have hlm := HLN.out
     go_wp2_with (at_builtin; refine wpList_append_own _ rfl (.tmp 42) (.tmp 44) 24 rfl w1.heap.size 82 i0 _ 4 48 Tryz.underlying24 hi hz0 hz1 hz2 rfl (by decide) _ _ _ rfl HO1.out ⟨wr.heap.size + 1, 0, none⟩ 1 1 [.string x.w, .string x.u, .int .i64 x.f, .int .i64 x.t] rfl rfl (news_at _ _ _ _ (size1 _ _).symm) (four_e _ _ _ _) (by unfold maxLen; omega) (by omega) HS1.out ?_; intro v2 w5 ho2 hgrow hiff)
     have HB2 := Lib.hid (app_below HB1.out HS1.out HO1.out hgrow)
     have HO2 := Lib.hid (own_snoc (x := ⟨x.w, x.u, x.f, x.t⟩) ho2)
     clear ho2 hgrow hiff HB1 HS1 HO1
     go_wp2
     go_roundw
     case rel => exact ⟨j + 1, by omega, by go_num, (by unfold Hid; rw [HC2.out]; exact HO2.out), HB2⟩
     case measure => simp [intOf]; omega
   ·obtain rfl : j = l.length := by omega
    rw [← HGG.out] at HO
    go_wp2
    go_ret2
    exact Or.inr ⟨by trivial, _, rfl, own_low HO.out K1.out.frame.size, K1.out.frame.trans (HB.out.mono K1.out.frame.size)⟩
 ·rw [decide_eq_false hk] at hany
  rw [hany]
  have hix : idxI (infE p u) l = -1 := by
   obtain rfl : k = l.length := Nat.le_antisymm HF.le (by omega)
   exact idx_miss HF
  rw [hix] at HIF
  clear HREV HF hix hany hk
  go_enter Tryz.func49, Tryz.ntmps49
  go_wp2_with fail
  refine (HIF.out _ HPC.out.row).mono ?_
  rintro e w1 ⟨rfl, hB⟩
  have K1 := Lib.hid (HPC.out.below hB)
  go_wp2
  go_ret2
  exact Or.inl ⟨by trivial, rfl, K1.out.frame⟩
end Go.Proofs.YtjhdhfokhkcamaaGreat
namespace Go.Proofs.YtjhdhfokhkcamaaGreat
open Go.RowKit
set_option linter.unusedVariables false
set_option maxRecDepth 100000
set_option maxRecDepth 100000
theorem e_rwithout (a : Option Addr) (c : Nat) (l : List EnM) (s : ByteArray) (W : World) (h : EnSl W a l) (hl : l.length ≤ 1000) : Calls Tryz.prog 51 #[.slice a l.length c, .string s] W fun e w' => ∃ x q, e = .returned (.slice x (l.filter (wiE s)).length q) ∧ (l.filter (wiE s)).length ≤ q ∧ q ≤ maxLen ∧ (x = none → q = 0) ∧ EnSl w' x (l.filter (wiE s)) ∧ Below W.heap.size W w' := by
 refine (rwithout_any a c l s W h (by omega)).mono ?_
 rintro e w' ⟨v, rfl, ho, hb⟩
 obtain ⟨x, q, rfl, h1, h2, h3, h4⟩ := own_en ho
 exact ⟨x, q, rfl, h1, h2, h4, h3, hb⟩
theorem e_rgrant (a : Option Addr) (c : Nat) (l : List EnM) (p u : ByteArray) (n : Int) (W : World) (h : EnSl W a l) (hsz : SzE l) (hp : p.size ≤ maxLen) (hu : u.size ≤ maxLen) (hn : a = none → c = 0) (hl : l.length ≤ 500) (hc : l.length ≤ c) (hcm : c ≤ maxLen) (hi : l.any (infE p u) = false) : Calls Tryz.prog 48 #[.slice a l.length c, .agg #[.string p, .string u], .int .i64 n] W fun e w' => ∃ x q, e = .returned (.tuple #[.slice x (grantS l (mkE p u n)).length q, .int .i64 0]) ∧ (grantS l (mkE p u n)).length ≤ q ∧ q ≤ maxLen ∧ (x = none → q = 0) ∧ EnSl w' x (grantS l (mkE p u n)) ∧ Below W.heap.size W w' := by
 refine Calls.mono (P := Tryz.prog) (refGrant_any a c l p u n W h hsz hp hu hn hl hc hcm) ?_
 rintro e w' (⟨k, _, _⟩ | ⟨_, v, rfl, ho, hb⟩)
 ·rw [hi] at k; cases k
 ·obtain ⟨x, q, rfl, h1, h2, h3, h4⟩ := own_en ho
  exact ⟨x, q, rfl, h1, h2, h4, h3, hb⟩
theorem e_rgrant_no (a : Option Addr) (c : Nat) (l : List EnM) (p u : ByteArray) (n : Int) (W : World) (h : EnSl W a l) (hsz : SzE l) (hp : p.size ≤ maxLen) (hu : u.size ≤ maxLen) (hn : a = none → c = 0) (hl : l.length ≤ 500) (hc : l.length ≤ c) (hcm : c ≤ maxLen) (hi : l.any (infE p u) = true) : Calls Tryz.prog 48 #[.slice a l.length c, .agg #[.string p, .string u], .int .i64 n] W fun e w' => e = .returned (.tuple #[.slice none 0 0, .int .i64 90]) ∧ Below W.heap.size W w' := by
 refine Calls.mono (P := Tryz.prog) (refGrant_any a c l p u n W h hsz hp hu hn hl hc hcm) ?_
 rintro e w' (⟨_, rfl, hb⟩ | ⟨k, _⟩)
 ·exact ⟨rfl, hb⟩
 ·rw [hi] at k; cases k
theorem e_rrevoke (a : Option Addr) (c : Nat) (l : List EnM) (p u : ByteArray) (n : Int) (W : World) (h : EnSl W a l) (hl : l.length ≤ 500) (hi : l.any (infE p u) = true) : Calls Tryz.prog 49 #[.slice a l.length c, .agg #[.string p, .string u], .int .i64 n] W fun e w' => ∃ x q, e = .returned (.tuple #[.slice x (revokeS l p u n).length q, .int .i64 0]) ∧ (revokeS l p u n).length ≤ q ∧ q ≤ maxLen ∧ (x = none → q = 0) ∧ EnSl w' x (revokeS l p u n) ∧ Below W.heap.size W w' := by
 refine Calls.mono (P := Tryz.prog) (refRevoke_any a c l p u n W h hl) ?_
 rintro e w' (⟨k, _, _⟩ | ⟨_, v, rfl, ho, hb⟩)
 ·rw [hi] at k; cases k
 ·obtain ⟨x, q, rfl, h1, h2, h3, h4⟩ := own_en ho
  exact ⟨x, q, rfl, h1, h2, h4, h3, hb⟩
theorem e_rrevoke_no (a : Option Addr) (c : Nat) (l : List EnM) (p u : ByteArray) (n : Int) (W : World) (h : EnSl W a l) (hl : l.length ≤ 500) (hi : l.any (infE p u) = false) : Calls Tryz.prog 49 #[.slice a l.length c, .agg #[.string p, .string u], .int .i64 n] W fun e w' => e = .returned (.tuple #[.slice none 0 0, .int .i64 91]) ∧ Below W.heap.size W w' := by
 refine Calls.mono (P := Tryz.prog) (refRevoke_any a c l p u n W h hl) ?_
 rintro e w' (⟨_, rfl, hb⟩ | ⟨k, _⟩)
 ·exact ⟨rfl, hb⟩
 ·rw [hi] at k; cases k
end Go.Proofs.YtjhdhfokhkcamaaGreat
namespace Go.Proofs.YtjhdhfokhkcamaaGreat
open Go.RowKit
set_option linter.unusedVariables false
set_option maxRecDepth 100000
def evc (e : EvM) : List Value := [.int .i64 e.kind, .int .i64 e.at_, .string e.user, .string e.other, .int .i64 e.n, .int .i64 e.status]
end Go.Proofs.YtjhdhfokhkcamaaGreat
namespace Go.Proofs.YtjhdhfokhkcamaaGreat
open Go.RowKit Go.Proofs
set_option linter.unusedVariables false
set_option maxRecDepth 100000
theorem SB.finVR {w T : World} {r : Nat} {t' : TypeId} {y z : SaL} (hy : SaAt T y) (hZ : SB w r t' z T) : (loadVar 27 ⟨r, 0, none⟩).run Tryz.prog (setS T r y) = .ok (saV y) (setS T r y) ∧ SaAt (setS T r y) y ∧ Below w.heap.size w (setS T r y) := by
 have hF := hZ.set hy
 exact ⟨loadR6 hF.blk, hF.at_, hF.frame⟩
theorem EB.set {w W : World} {g g' : Nat} {t : TypeId} {e : EvM} {y : SaL} (h : EB w g t e W) (hne : g ≠ g') : EB w g t e (setS W g' y) := (((((h.far hne).far hne).far hne).far hne).far hne).far hne
structure PutT (w : World) (u : ByteArray) (m D E : List TbM) (j : Nat) (done : Bool) (v : Value) (W : World) : Prop where
 own : W.ownsRow w.heap.size 69 2 v E.length (tbv E)
 ins : InsAt TbM.u u m D j done E
 frame : Below w.heap.size w W
theorem own_tomb {w W W' : World} {E : List TbM} {v v' : Value} {y : TbM} (ho : W.ownsRow w.heap.size 69 2 v E.length (tbv E)) (hf : Below w.heap.size w W) (h : W'.ownsRow w.heap.size 69 2 v' (E.length + 1) (tbv E ++ [.string y.u, .int .i64 y.a])) (hg : W.grownBy W' v.ownBlock) :
  W'.ownsRow w.heap.size 69 2 v' (E ++ [y]).length (tbv (E ++ [y])) ∧ Below w.heap.size w W' :=
 ⟨by rw [tbv_snoc, List.length_append]; exact h, app_below hf hf.size ho hg⟩
set_option maxHeartbeats 8000000 in
theorem rtombs_any (a : Option Addr) (c : Nat) (D : List TbM) (u : ByteArray) (n : Int) (w : World) (hD : TbSl w a D) (hk : RiseK TbM.u D) (hl : D.length ≤ 1000) (hu : u.size ≤ maxLen) (hs : ∀ y ∈ D, y.u.size ≤ maxLen) :
  Calls Tryz.prog 53 #[.slice a D.length c, .string u, .int .i64 n] w fun e w' => ∃ x q, e = .returned (.slice x (tombU D u n).length q) ∧ TbSl w' x (tombU D u n) ∧ Cp x (tombU D u n).length q ∧ Below w.heap.size w w' := by
 obtain ⟨i0, hi, hz0, hz1, hz2⟩ := info_parts infoTbR
 have HST : Hid (InsAt TbM.u u [⟨u, n⟩] D 0 false []) := InsAt.start fun h => by cases h
 have HEND : Hid (∀ E : List TbM, InsAt TbM.u u [⟨u, n⟩] D D.length true E → E = tombU D u n) := fun E h => h.done
 have HMIS : Hid (∀ E : List TbM, InsAt TbM.u u [⟨u, n⟩] D D.length false E → E ++ [⟨u, n⟩] = tombU D u n) := fun E h => h.miss
 have HD := Lib.hid hD
 have HK := Lib.hid hk
 have HSZ := Lib.hid hs
 have HC := Lib.hid (fun (b : ByteArray) V (hb : b.size ≤ maxLen) => rcmp11 u b V hu hb)
 clear hD hk hs
 go_enter Tryz.func53, Tryz.ntmps53
 go_wp2
 go_loopw [7, 8, 9] (fun v dn iv wr => ∃ (j : Nat) (done : Bool) (E : List TbM), j ≤ D.length ∧ iv = .int .i64 j ∧ dn = .bool done ∧ Hid (PutT w u [⟨u, n⟩] D E j done v wr)) (fun _ _ iv _ => D.length - (intOf iv).toNat)
 case atStart => exact ⟨0, false, [], by omega, rfl, rfl, ⟨⟨rfl, .inl ⟨rfl, rfl⟩⟩, HST.out, Below.refl _ _⟩⟩
 case round =>
  clear HST
  obtain ⟨j, done, E, hj, rfl, rfl, HG⟩ := hrel
  have hlen : E.length ≤ j + 1 := HG.out.ins.len
  by_cases hjl : j < D.length
  ·obtain ⟨b, off, rfl, hbl, r0, r1⟩ := (HD.out.below HG.out.frame).get hjl
   have HC1 := Lib.hid (HC.out (D[j]).u wr (HSZ.out _ (List.getElem_mem hjl)))
   have HROW : Hid (∀ V, Below w.heap.size w V → V.cell? ⟨b, off + j * 2, none⟩ = some (.string (D[j]).u) ∧ V.cell? ⟨b, off + j * 2 + 1, none⟩ = some (.int .i64 (D[j]).a)) := fun V q => by
    obtain ⟨b', off', e, -, k0, k1⟩ := (HD.out.below q).get hjl
    cases e
    exact ⟨k0, k1⟩
   have HSAM : Hid (done = true → (D[j]).u = u → InsAt TbM.u u [⟨u, n⟩] D (j + 1) true E) := fun h1 h2 => by subst h1; exact HG.out.ins.same hjl h2
   have HBEL : Hid (cmpS (D[j]).u u < 0 → InsAt TbM.u u [⟨u, n⟩] D (j + 1) done (E ++ [D[j]])) := fun h => HG.out.ins.below HK.out hjl h
   have HABV : Hid (done = true → cmpS u (D[j]).u < 0 → InsAt TbM.u u [⟨u, n⟩] D (j + 1) true (E ++ [D[j]])) := fun h1 h => by subst h1; exact HG.out.ins.above hjl h
   have HLAY : Hid (done = false → ¬ cmpS (D[j]).u u < 0 → ((D[j]).u = u → InsAt TbM.u u [⟨u, n⟩] D (j + 1) true (E ++ [⟨u, n⟩])) ∧ (cmpS u (D[j]).u < 0 → InsAt TbM.u u [⟨u, n⟩] D (j + 1) true ((E ++ [⟨u, n⟩]) ++ [D[j]]))) := fun h1 h => by
    subst h1
    exact HG.out.ins.lay HK.out hjl h
   have htri := cmpS_tri (D[j]).u u
   have hirr := @cmpS_irr u
   have hasy2 : cmpS u (D[j]).u < 0 → ¬ cmpS (D[j]).u u < 0 := cmpS_asym
   have hne1 : cmpS (D[j]).u u < 0 → (D[j]).u ≠ u := cmpS_ne
   have hne2 : cmpS u (D[j]).u < 0 → (D[j]).u ≠ u := fun h e => cmpS_ne h e.symm
   have hpos : cmpS (D[j]).u u < 0 → 0 < cmpS u (D[j]).u := fun h => by rw [cmpS_neg]; omega
   have hzero : (D[j]).u = u → cmpS u (D[j]).u = 0 := fun h => by rw [h]; exact cmpS_self _
   clear HC HSZ HD HK r0 r1 HEND HMIS
   generalize D[j] = y at *
   cases done
   ·rcases htri with h | h | h
    ·have HN := Lib.hid (HBEL.out h)
     have heq := txt_ne (hne1 h)
     have hp := hpos h
     clear HSAM HBEL HABV HLAY hirr hasy2 hne1 hne2 hpos hzero h
     generalize cmpS u y.u = cv at *
     obtain ⟨k0, k1⟩ := HROW.out _ HG.out.frame
     go_wp2_with fail
     refine HC1.out.mono ?_
     rintro e w1 ⟨rfl, h1⟩
     have HG1 := Lib.hid (own_below HG.out.own h1)
     have HF1 := Lib.hid (HG.out.frame.trans (h1.mono HG.out.frame.size))
     clear k0 k1
     obtain ⟨k0, k1⟩ := HROW.out _ HF1.out
     clear HG h1 HC1
     go_wp2_with (at_builtin; refine wpList_append_own _ rfl (.tmp 41) (.tmp 46) 25 rfl w.heap.size 69 i0 _ 2 24 Tryz.underlying25 hi hz0 hz1 hz2 rfl (by decide) _ _ _ rfl (own_below HG1.out (below_one _ (.cells #[.string y.u, .int .i64 y.a] 69))) ⟨(w1).heap.size, 0, none⟩ 1 1 [.string y.u, .int .i64 y.a] rfl rfl (news_at _ _ _ _ rfl) (by intro u hu; simp at hu; rcases hu with rfl | rfl <;> rfl) (by unfold maxLen; omega) (by omega) (Nat.le_trans HF1.out.size (below_one _ _).size) ?_; intro v2 w2 hown2 hgrow2 hiff2; obtain ⟨o2, f2⟩ := own_tomb (y := y) (own_below HG1.out (below_one _ (.cells #[.string y.u, .int .i64 y.a] 69))) (HF1.out.trans ((below_one _ _).mono HF1.out.size)) hown2 hgrow2)
     have HG2 : Hid (PutT w u [⟨u, n⟩] D (E ++ [y]) (j + 1) false v2 w2) := ⟨o2, HN.out, f2⟩
     clear hown2 hgrow2 hiff2 o2 f2 HG1 HF1 HN
     go_wp2
     go_roundw
     case rel => exact ⟨j + 1, false, E ++ [y], by omega, by go_num, rfl, HG2.out⟩
     case measure => simp [intOf]; omega
    ·have HN := Lib.hid ((HLAY.out rfl (by rw [h]; exact hirr)).1 h)
     have hp := hzero h
     clear HSAM HBEL HABV HLAY hirr hasy2 hne1 hne2 hpos hzero
     generalize cmpS u y.u = cv at *
     subst hp
     subst h
     have he1 := txt_eq y.u
     obtain ⟨k0, k1⟩ := HROW.out _ HG.out.frame
     go_wp2_with fail
     refine HC1.out.mono ?_
     rintro e w1 ⟨rfl, h1⟩
     have HG1 := Lib.hid (own_below HG.out.own h1)
     have HF1 := Lib.hid (HG.out.frame.trans (h1.mono HG.out.frame.size))
     clear k0 k1
     obtain ⟨k0, k1⟩ := HROW.out _ HF1.out
     clear HG h1 HC1
     go_wp2_with (at_builtin; refine wpList_append_own _ rfl (.tmp 28) (.tmp 32) 25 rfl w.heap.size 69 i0 _ 2 24 Tryz.underlying25 hi hz0 hz1 hz2 rfl (by decide) _ _ _ rfl (own_below HG1.out (below_one _ (.cells #[.string y.u, .int .i64 n] 69))) ⟨(w1).heap.size, 0, none⟩ 1 1 [.string y.u, .int .i64 n] rfl rfl (news_at _ _ _ _ rfl) (by intro u hu; simp at hu; rcases hu with rfl | rfl <;> rfl) (by unfold maxLen; omega) (by omega) (Nat.le_trans HF1.out.size (below_one _ _).size) ?_; intro v2 w2 hown2 hgrow2 hiff2; obtain ⟨o2, f2⟩ := own_tomb (y := (⟨y.u, n⟩ : TbM)) (own_below HG1.out (below_one _ (.cells #[.string y.u, .int .i64 n] 69))) (HF1.out.trans ((below_one _ _).mono HF1.out.size)) hown2 hgrow2; obtain ⟨m0, m1⟩ := HROW.out _ f2; clear k0 k1)
     have HG2 : Hid (PutT w y.u [⟨y.u, n⟩] D (E ++ [⟨y.u, n⟩]) (j + 1) true v2 w2) := ⟨o2, HN.out, f2⟩
     clear hown2 hgrow2 hiff2 o2 f2 HG1 HF1 HN HROW
     go_wp2
     go_roundw
     case rel => exact ⟨j + 1, true, _, by omega, by go_num, rfl, HG2.out⟩
     case measure => simp [intOf]; omega
    ·have HN := Lib.hid ((HLAY.out rfl (hasy2 h)).2 h)
     have heq := txt_ne (hne2 h)
     have hp := h
     clear HSAM HBEL HABV HLAY hirr hasy2 hne1 hne2 hpos hzero h
     generalize cmpS u y.u = cv at *
     obtain ⟨k0, k1⟩ := HROW.out _ HG.out.frame
     go_wp2_with fail
     refine HC1.out.mono ?_
     rintro e w1 ⟨rfl, h1⟩
     have HG1 := Lib.hid (own_below HG.out.own h1)
     have HF1 := Lib.hid (HG.out.frame.trans (h1.mono HG.out.frame.size))
     clear k0 k1
     obtain ⟨k0, k1⟩ := HROW.out _ HF1.out
     clear HG h1 HC1
     go_wp2_with (first | (at_builtin; refine wpList_append_own _ rfl (.tmp 28) (.tmp 32) 25 rfl w.heap.size 69 i0 _ 2 24 Tryz.underlying25 hi hz0 hz1 hz2 rfl (by decide) _ _ _ rfl (own_below HG1.out (below_one _ (.cells #[.string u, .int .i64 n] 69))) ⟨(w1).heap.size, 0, none⟩ 1 1 [.string u, .int .i64 n] rfl rfl (news_at _ _ _ _ rfl) (by intro u hu; simp at hu; rcases hu with rfl | rfl <;> rfl) (by unfold maxLen; omega) (by omega) (Nat.le_trans HF1.out.size (below_one _ _).size) ?_; intro v2 w2 hown2 hgrow2 hiff2; obtain ⟨o2, f2⟩ := own_tomb (y := (⟨u, n⟩ : TbM)) (own_below HG1.out (below_one _ (.cells #[.string u, .int .i64 n] 69))) (HF1.out.trans ((below_one _ _).mono HF1.out.size)) hown2 hgrow2; have G2 := Lib.hid o2; have F2 := Lib.hid f2; obtain ⟨m0, m1⟩ := HROW.out _ f2; clear hown2 hgrow2 hiff2 o2 f2 k0 k1; have hEl : (E ++ [(⟨u, n⟩ : TbM)]).length ≤ j + 2 := (by rw [List.length_append, List.length_singleton]; omega)) | (at_builtin; refine wpList_append_own _ rfl (.tmp 41) (.tmp 46) 25 rfl w.heap.size 69 i0 _ 2 24 Tryz.underlying25 hi hz0 hz1 hz2 rfl (by decide) _ _ _ rfl (own_below G2.out (below_one _ (.cells #[.string y.u, .int .i64 y.a] 69))) ⟨(w2).heap.size, 0, none⟩ 1 1 [.string y.u, .int .i64 y.a] rfl rfl (news_at _ _ _ _ rfl) (by intro u hu; simp at hu; rcases hu with rfl | rfl <;> rfl) (by unfold maxLen; omega) (by omega) (Nat.le_trans F2.out.size (below_one _ _).size) ?_; intro v3 w3 hown3 hgrow3 hiff3; obtain ⟨o3, f3⟩ := own_tomb (y := y) (own_below G2.out (below_one _ (.cells #[.string y.u, .int .i64 y.a] 69))) (F2.out.trans ((below_one _ _).mono F2.out.size)) hown3 hgrow3))
     have HG2 : Hid (PutT w u [⟨u, n⟩] D ((E ++ [(⟨u, n⟩ : TbM)]) ++ [y]) (j + 1) true v3 w3) := ⟨o3, HN.out, f3⟩
     clear hown3 hgrow3 hiff3 o3 f3 HG1 HF1 HN HROW G2 F2
     go_wp2
     go_roundw
     case rel => exact ⟨j + 1, true, _, by omega, by go_num, rfl, HG2.out⟩
     case measure => simp [intOf]; omega
   ·by_cases he : y.u = u
    ·have HN := Lib.hid (HSAM.out rfl he)
     have HG2 := Lib.hid (PutT.mk HG.out.own HN.out HG.out.frame)
     obtain ⟨k0, k1⟩ := HROW.out _ HG.out.frame
     clear HSAM HBEL HABV HLAY HC1 HG HN HROW hirr hasy2 hne1 hne2 hpos hzero htri
     subst he
     have he1 := txt_eq y.u
     go_wp2
     go_roundw
     case rel => exact ⟨j + 1, true, E, by omega, by go_num, rfl, HG2.out⟩
     case measure => simp [intOf]; omega
    ·have HN : Hid (InsAt TbM.u u [⟨u, n⟩] D (j + 1) true (E ++ [y])) := by
      rcases htri with h | h | h
      ·exact HBEL.out h
      ·exact absurd h he
      ·exact HABV.out rfl h
     have heq := txt_ne he
     have HG1 := Lib.hid HG.out.own
     have HF1 := Lib.hid HG.out.frame
     obtain ⟨k0, k1⟩ := HROW.out _ HG.out.frame
     clear HSAM HBEL HABV HLAY HC1 HG HROW hirr hasy2 hne1 hne2 hpos hzero htri he
     go_wp2_with (at_builtin; refine wpList_append_own _ rfl (.tmp 41) (.tmp 46) 25 rfl w.heap.size 69 i0 _ 2 24 Tryz.underlying25 hi hz0 hz1 hz2 rfl (by decide) _ _ _ rfl (own_below HG1.out (below_one _ (.cells #[.string y.u, .int .i64 y.a] 69))) ⟨(wr).heap.size, 0, none⟩ 1 1 [.string y.u, .int .i64 y.a] rfl rfl (news_at _ _ _ _ rfl) (by intro u hu; simp at hu; rcases hu with rfl | rfl <;> rfl) (by unfold maxLen; omega) (by omega) (Nat.le_trans HF1.out.size (below_one _ _).size) ?_; intro v2 w2 hown2 hgrow2 hiff2; obtain ⟨o2, f2⟩ := own_tomb (y := y) (own_below HG1.out (below_one _ (.cells #[.string y.u, .int .i64 y.a] 69))) (HF1.out.trans ((below_one _ _).mono HF1.out.size)) hown2 hgrow2)
     have HG2 : Hid (PutT w u [⟨u, n⟩] D (E ++ [y]) (j + 1) true v2 w2) := ⟨o2, HN.out, f2⟩
     clear hown2 hgrow2 hiff2 o2 f2 HG1 HF1 HN
     go_wp2
     go_roundw
     case rel => exact ⟨j + 1, true, E ++ [y], by omega, by go_num, rfl, HG2.out⟩
     case measure => simp [intOf]; omega
  ·obtain rfl : j = D.length := by omega
   cases done
   ·have HX := Lib.hid (HMIS.out E HG.out.ins)
    have HG1 := Lib.hid HG.out.own
    have HF1 := Lib.hid HG.out.frame
    clear HG HMIS HEND HC
    go_wp2_with (at_builtin; refine wpList_append_own _ rfl (.tmp 50) (.tmp 54) 25 rfl w.heap.size 69 i0 _ 2 24 Tryz.underlying25 hi hz0 hz1 hz2 rfl (by decide) _ _ _ rfl (own_below HG1.out (below_one _ (.cells #[.string u, .int .i64 n] 69))) ⟨(wr).heap.size, 0, none⟩ 1 1 [.string u, .int .i64 n] rfl rfl (news_at _ _ _ _ rfl) (by intro u hu; simp at hu; rcases hu with rfl | rfl <;> rfl) (by unfold maxLen; omega) (by omega) (Nat.le_trans HF1.out.size (below_one _ _).size) ?_; intro v2 w2 hown2 hgrow2 hiff2; obtain ⟨o2, f2⟩ := own_tomb (y := (⟨u, n⟩ : TbM)) (own_below HG1.out (below_one _ (.cells #[.string u, .int .i64 n] 69))) (HF1.out.trans ((below_one _ _).mono HF1.out.size)) hown2 hgrow2)
    obtain ⟨xu, qu, rfl, hlu, hmu, hru, hnu⟩ := own_tb o2
    have HU := Lib.hid hru
    have HF2 := Lib.hid f2
    have HCP := Lib.hid (Cp.mk hlu hmu hnu)
    clear hown2 hgrow2 hiff2 o2 f2 HG1 HF1 hru
    rw [HX.out] at HU HCP
    have HLE := Lib.hid (congrArg List.length HX.out)
    go_wp2
    go_ret
    exact ⟨xu, qu, by rw [← HLE.out]; rfl, HU.out, HCP.out, HF2.out⟩
   ·have HX := Lib.hid (HEND.out E HG.out.ins)
    obtain ⟨xu, qu, rfl, hlu, hmu, hru, hnu⟩ := own_tb HG.out.own
    have HU := Lib.hid hru
    have HF2 := Lib.hid HG.out.frame
    have HCP := Lib.hid (Cp.mk hlu hmu hnu)
    clear HG HMIS HEND HC hru
    rw [HX.out] at HU HCP
    have HLE := Lib.hid (congrArg List.length HX.out)
    go_wp2
    go_ret
    exact ⟨xu, qu, by rw [← HLE.out]; rfl, HU.out, HCP.out, HF2.out⟩
theorem o_ropen2 (a : Option Addr) (c : Nat) (l : List OpM) (e0 : OpM) (W : World) (h : OpSl W a l) (hc : Cp a l.length c) (hl : l.length ≤ 500) : Calls Tryz.prog 121 #[.slice a l.length c, .agg #[.int .i64 e0.n, .string e0.u, .int .i64 e0.s, .int .i64 e0.f]] W fun e w' => ∃ x q m er, e = .returned (.tuple #[.slice x m.length q, .int .i64 er]) ∧ er = openC l e0 ∧ (er = 0 → m = openR l e0) ∧ Cp x m.length q ∧ OpSl w' x m ∧ Below W.heap.size W w' := by
 refine (o_ropen a c l e0 W h hc.nil hl hc.le hc.mx).mono ?_
 rintro e w' ⟨x, q, rfl, i1, i2, i3, i4, hb⟩
 exact ⟨x, q, _, _, rfl, rfl, fun _ => rfl, ⟨i1, i2, i3⟩, i4, hb⟩
theorem e_rgrant2 (a : Option Addr) (c : Nat) (l : List EnM) (p u : ByteArray) (n : Int) (W : World) (h : EnSl W a l) (hsz : SzE l) (hp : p.size ≤ maxLen) (hu : u.size ≤ maxLen) (hc : Cp a l.length c) (hl : l.length ≤ 500) : Calls Tryz.prog 48 #[.slice a l.length c, .agg #[.string p, .string u], .int .i64 n] W fun e w' => ∃ x q m er, e = .returned (.tuple #[.slice x m.length q, .int .i64 er]) ∧ er = (if l.any (infE p u) = true then 90 else 0) ∧ (er = 0 → m = grantS l (mkE p u n)) ∧ Cp x m.length q ∧ EnSl w' x m ∧ Below W.heap.size W w' := by
 by_cases hi : l.any (infE p u) = true
 ·refine (e_rgrant_no a c l p u n W h hsz hp hu hc.nil hl hc.le hc.mx hi).mono ?_
  rintro e w' ⟨rfl, hb⟩
  exact ⟨none, 0, [], 90, rfl, (if_pos hi).symm, fun h => absurd h (by decide), Cp.none, EnSl.nil _ _, hb⟩
 ·refine (e_rgrant a c l p u n W h hsz hp hu hc.nil hl hc.le hc.mx (Bool.eq_false_iff.2 hi)).mono ?_
  rintro e w' ⟨x, q, rfl, i1, i2, i3, i4, hb⟩
  exact ⟨x, q, _, 0, rfl, (if_neg hi).symm, fun _ => rfl, ⟨i1, i2, i3⟩, i4, hb⟩
theorem e_rrevoke2 (a : Option Addr) (c : Nat) (l : List EnM) (p u : ByteArray) (n : Int) (W : World) (h : EnSl W a l) (hl : l.length ≤ 500) : Calls Tryz.prog 49 #[.slice a l.length c, .agg #[.string p, .string u], .int .i64 n] W fun e w' => ∃ x q m er, e = .returned (.tuple #[.slice x m.length q, .int .i64 er]) ∧ er = (if l.any (infE p u) = true then 0 else 91) ∧ (er = 0 → m = revokeS l p u n) ∧ Cp x m.length q ∧ EnSl w' x m ∧ Below W.heap.size W w' := by
 by_cases hi : l.any (infE p u) = true
 ·refine (e_rrevoke a c l p u n W h hl hi).mono ?_
  rintro e w' ⟨x, q, rfl, i1, i2, i3, i4, hb⟩
  exact ⟨x, q, _, 0, rfl, (if_pos hi).symm, fun _ => rfl, ⟨i1, i2, i3⟩, i4, hb⟩
 ·refine (e_rrevoke_no a c l p u n W h hl (Bool.eq_false_iff.2 hi)).mono ?_
  rintro e w' ⟨rfl, hb⟩
  exact ⟨none, 0, [], 91, rfl, (if_neg hi).symm, fun h => absurd h (by decide), Cp.none, EnSl.nil _ _, hb⟩
theorem OpSl.setSt {W : World} {g : Nat} {t : TypeId} {a b c d : Int} (hI : IntB W g t a b c d) {r : Option Addr} {l : List OpM} (ho : OpSl W r l) (s : StM) : OpSl (setSt W g s) r l := by
 have i0 : IntB _ g t s.f b c d := heap_setCell_at hI 0 (.int .i64 s.f)
 have i1 : IntB _ g t s.f s.t c d := heap_setCell_at i0 1 (.int .i64 s.t)
 have i2 : IntB _ g t s.f s.t s.n d := heap_setCell_at i1 2 (.int .i64 s.n)
 exact (((ho.setI hI 0 _).setI i0 1 _).setI i1 2 _).setI i2 3 _
set_option maxHeartbeats 8000000 in
theorem rsess1 (x : SaL) (a n st : Int) (u o : ByteArray) (w : World) (h : SaAt w x) (hf : Few x.m 400) (hk : RiseK UsM.u (umS x.us)) (hu : u.size ≤ maxLen) (hs : ∀ y ∈ x.us, y.u.size ≤ maxLen) :
  Calls Tryz.prog 47 #[saV x, evV ⟨1, a, u, o, n, st⟩] w (Told w x (errK x.m 1 a n st u o) { goS x.m 1 a n st u o with now := x.now }) := by
 obtain ⟨HK, HE, HZ⟩ := three_SB h ⟨1, a, u, o, n, st⟩ 27 29 27
 rw [show goS x.m 1 a n st u o = _ from rfl]
 obtain ⟨now, hor, oa, op, oc, ua, us, uc, sa, su, sc, ta, tb, tc⟩ := x
 have HCL := Lib.hid (fun V (h : OpSl V oa op) => o_ropen2 oa oc op ⟨n, u, st, a⟩ V h HK.at_.oc (Nat.le_trans hf.op (by decide)))
 have HS := Lib.hid HK
 have HZZ := Lib.hid HZ
 have HEE := Lib.hid HE
 obtain ⟨c0, c1, c2, c3, c4, c5⟩ := HK.cells
 obtain ⟨f0, f1, f2, f3, f4, f5⟩ := HK.free
 obtain ⟨⟨e0, e1, e2, e3, e4, e5⟩, -⟩ := cells6 HE.blk
 have hgl := HK.lt
 unfold saV evV saC at *
 dsimp only at *
 clear h hf HK HZ HE
 go_enter Tryz.func47, Tryz.ntmps47
 go_wp2_with fail
 refine (HCL.out _ HS.out.at_.op).mono ?_
 rintro e w1 ⟨x1, q1, m, er, rfl, i1, j1, k1, l1, h1⟩
 have A1 := HS.out.below h1
 have B1 := HZZ.out.below h1
 have A2 := A1.setOp rfl l1 k1
 have B2 := B1.far A1 (by omega) 2 (.slice x1 m.length q1)
 have hfin := A2.finR B2
 clear c0 c1 c2 c3 c4 c5 f0 f1 f2 f3 f4 f5 hgl e0 e1 e2 e3 e4 e5
 obtain ⟨c0, c1, c2, c3, c4, c5⟩ := A1.cells
 obtain ⟨f0, f1, f2, f3, f4, f5⟩ := A1.free
 obtain ⟨⟨e0, e1, e2, e3, e4, e5⟩, -⟩ := cells6 (HEE.out.below h1).blk
 have hgl := A1.lt
 obtain ⟨d0, d1, d2, d3, d4, d5⟩ := A2.cells
 obtain ⟨z0, z1, z2, z3, z4, z5⟩ := B2.cells
 obtain ⟨y0, y1, y2, y3, y4, y5⟩ := B2.free
 have hzl := B2.lt
 have HL := Lib.hid hfin.1
 have HFN := Lib.hid (And.intro hfin.2.1 (And.intro i1 (And.intro j1 hfin.2.2)))
 unfold setS saV saC at HL
 unfold saO at z0 z1 z2 z3 z4 z5
 dsimp only at *
 clear HS HZZ HEE A1 B1 A2 B2 hfin l1 k1 h1 HCL i1 j1
 go_wp2
 refine bodyPost_ret (v := .tuple #[saV ⟨now, hor, x1, m, q1, ua, us, uc, sa, su, sc, ta, tb, tc⟩, .int .i64 er]) ?_ rfl ?_
 ·rw [results_cellT rfl]
  unfold saV saC
  simp [asAddr, Result.andThen, HL.out]
 ·obtain ⟨g1, g2, g3, g4⟩ := HFN.out
  subst g2
  exact ⟨_, rfl, g1, fun he => by rw [g3 he]; rfl, g4⟩
set_option maxHeartbeats 8000000 in
theorem rsess3 (x : SaL) (a n st : Int) (u o : ByteArray) (w : World) (h : SaAt w x) (hf : Few x.m 400) (hk : RiseK UsM.u (umS x.us)) (hu : u.size ≤ maxLen) (hs : ∀ y ∈ x.us, y.u.size ≤ maxLen) :
  Calls Tryz.prog 47 #[saV x, evV ⟨3, a, u, o, n, st⟩] w (Told w x (errK x.m 3 a n st u o) { goS x.m 3 a n st u o with now := x.now }) := by
 obtain ⟨HK, HE, HZ⟩ := three_SB h ⟨3, a, u, o, n, st⟩ 27 29 27
 rw [show goS x.m 3 a n st u o = _ from rfl]
 obtain ⟨now, hor, oa, op, oc, ua, us, uc, sa, su, sc, ta, tb, tc⟩ := x
 have HCL := Lib.hid (fun V (h : OpSl V oa op) => o_rclose oa oc op n u a V h (Nat.le_trans hf.op (by decide)))
 have HAD := Lib.hid (fun x1 q1 V (h : SaAt V ⟨now, hor, x1, cloR op n u, q1, ua, us, uc, sa, su, sc, ta, tb, tc⟩) => radd_any ⟨now, hor, x1, cloR op n u, q1, ua, us, uc, sa, su, sc, ta, tb, tc⟩ u (fndS op n u a) V h ⟨Nat.le_trans (cloR_len _ _ _) (Nat.le_trans hf.op (by decide)), Nat.le_trans hf.us (by decide), Nat.le_trans hf.su (by decide), Nat.le_trans hf.tb (by decide), fun y hy => Nat.le_trans (hf.st y hy) (by decide)⟩ hk hu hs)
 unfold stV at HAD
 generalize hst : fndS op n u a = s at HCL HAD
 have HS := Lib.hid HK
 have HZZ := Lib.hid HZ
 have HEE := Lib.hid HE
 obtain ⟨c0, c1, c2, c3, c4, c5⟩ := HK.cells
 obtain ⟨f0, f1, f2, f3, f4, f5⟩ := HK.free
 obtain ⟨⟨e0, e1, e2, e3, e4, e5⟩, -⟩ := cells6 HE.blk
 have hgl := HK.lt
 unfold saV evV saC at *
 dsimp only at *
 clear h hf HK HZ HE
 go_enter Tryz.func47, Tryz.ntmps47
 go_wp2_with fail
 refine (HCL.out _ HS.out.at_.op).mono ?_
 rintro e w1 ⟨x1, q1, rfl, i1, j1, k1, l1, h1⟩
 have A1 := HS.out.below h1
 have B1 := HZZ.out.below h1
 have E1 := HEE.out.below h1
 have A2 := A1.setOp rfl l1 ⟨i1, j1, k1⟩
 have B2 := B1.far A1 (by omega) 2 (.slice x1 (cloR op n u).length q1)
 have E2 := E1.far (i := 2) (v := .slice x1 (cloR op n u).length q1) (show w.heap.size + 1 ≠ w.heap.size by omega)
 have hbs := below_one (w1.setCell ⟨w.heap.size, 2, none⟩ (.slice x1 (cloR op n u).length q1)) (.cells #[.int .i64 s.f, .int .i64 s.t, .int .i64 s.n, .int .i64 s.s] 135)
 have ST := heap_alloc_new (w1.setCell ⟨w.heap.size, 2, none⟩ (.slice x1 (cloR op n u).length q1)) (.cells #[.int .i64 s.f, .int .i64 s.t, .int .i64 s.n, .int .i64 s.s] 135)
 rw [size_set] at ST
 have A3 := A2.below hbs
 have B3 := B2.below hbs
 have E3 := E2.below hbs
 clear c0 c1 c2 c3 c4 c5 f0 f1 f2 f3 f4 f5 hgl e0 e1 e2 e3 e4 e5
 obtain ⟨f0, f1, f2, f3, f4, f5⟩ := A1.free
 have hgl := A1.lt
 obtain ⟨s0, s1, s2, s3⟩ := cells4 ST
 obtain ⟨b0, b1, b2, b3, b4, b5⟩ := A1.cells
 obtain ⟨c0, c1, c2, c3, c4, c5⟩ := A3.cells
 obtain ⟨⟨e0, e1, e2, e3, e4, e5⟩, -⟩ := cells6 E3.blk
 obtain ⟨⟨m0, m1, m2, m3, m4, m5⟩, -⟩ := cells6 (E1.below (below_one w1 (.cells #[.int .i64 s.f, .int .i64 s.t, .int .i64 s.n, .int .i64 s.s] 135))).blk
 have HS3 := Lib.hid A3
 have HZ3 := Lib.hid B3
 have HE3 := Lib.hid E3
 dsimp only at *
 clear HS HZZ HEE A1 B1 E1 A2 B2 E2 A3 B3 E3 ST hbs l1 h1 HCL i1 j1 k1
 go_wp2_with fail
 refine (HAD.out x1 q1 _ HS3.out.at_).mono ?_
 rintro e w2 ⟨y2, rfl, l2, m2, h2⟩
 clear m0 m1 m3 m4 m5 b0 b1 b2 b3 b4 b5 f0 f1 f2 f3 f4 f5
 clear e0 e1 e2 e3 e4 e5 c0 c1 c2 c3 c4 c5 s0 s1 s2 s3
 have B5 := HZ3.out.below h2
 have hfin := SB.finVR l2 B5
 obtain ⟨z0, z1, z2, z3, z4, z5⟩ := B5.cells
 obtain ⟨y0, y1, y2', y3, y4, y5⟩ := B5.free
 have hzl := B5.lt
 have HL := Lib.hid hfin.1
 have HFN := Lib.hid (And.intro hfin.2.1 (And.intro m2 hfin.2.2))
 obtain ⟨now1, hor1, oa1, op1, oc1, ua1, us1, uc1, sa1, su1, sc1, ta1, tb1, tc1⟩ := y2
 unfold setS saV saC at HL
 (try unfold saV at *)
 (try unfold saC at *)
 unfold saO at z0 z1 z2 z3 z4 z5
 dsimp only at *
 clear HS3 HZ3 HE3 B5 hfin l2 m2 h2 HAD
 go_wp2
 refine bodyPost_ret (v := .tuple #[saV ⟨now1, hor1, oa1, op1, oc1, ua1, us1, uc1, sa1, su1, sc1, ta1, tb1, tc1⟩, .int .i64 (findC op n u)]) ?_ rfl ?_
 ·rw [results_cellT rfl]
  unfold saV saC
  simp [asAddr, Result.andThen, HL.out]
 ·obtain ⟨g1, g2, g3⟩ := HFN.out
  exact ⟨_, rfl, g1, fun he => by rw [g2, ← hst]; rfl, g3⟩
set_option maxHeartbeats 8000000 in
theorem rsess2 (x : SaL) (a n st : Int) (u o : ByteArray) (w : World) (h : SaAt w x) (hf : Few x.m 400) (hk : RiseK UsM.u (umS x.us)) (hu : u.size ≤ maxLen) (hs : ∀ y ∈ x.us, y.u.size ≤ maxLen) :
  Calls Tryz.prog 47 #[saV x, evV ⟨2, a, u, o, n, st⟩] w (Told w x (errK x.m 2 a n st u o) { goS x.m 2 a n st u o with now := x.now }) := by
 obtain ⟨HK, HE, HZ⟩ := three_SB h ⟨2, a, u, o, n, st⟩ 27 29 27
 rw [show goS x.m 2 a n st u o = _ from rfl]
 obtain ⟨now, hor, oa, op, oc, ua, us, uc, sa, su, sc, ta, tb, tc⟩ := x
 have HCL := Lib.hid (fun V (h : OpSl V oa op) => o_rclose oa oc op n u a V h (Nat.le_trans hf.op (by decide)))
 have HCH := Lib.hid (fun V (h : OpSl V oa op) => o_rchange oa oc op n u st a V h (Nat.le_trans hf.op (by decide)) HK.at_.oc.le HK.at_.oc.mx)
 have HAD := Lib.hid (fun x1 q1 V (h : SaAt V ⟨now, hor, x1, chgR op n u st a, q1, ua, us, uc, sa, su, sc, ta, tb, tc⟩) => radd_any ⟨now, hor, x1, chgR op n u st a, q1, ua, us, uc, sa, su, sc, ta, tb, tc⟩ u (fndS op n u a) V h ⟨Nat.le_trans (chgR_len _ _ _ _ _) (Nat.le_trans hf.op (by decide)), Nat.le_trans hf.us (by decide), Nat.le_trans hf.su (by decide), Nat.le_trans hf.tb (by decide), fun y hy => Nat.le_trans (hf.st y hy) (by decide)⟩ hk hu hs)
 unfold stV at HAD
 generalize hst : fndS op n u a = s at HCL HAD HCH
 have HS := Lib.hid HK
 have HZZ := Lib.hid HZ
 have HEE := Lib.hid HE
 obtain ⟨c0, c1, c2, c3, c4, c5⟩ := HK.cells
 obtain ⟨f0, f1, f2, f3, f4, f5⟩ := HK.free
 obtain ⟨⟨e0, e1, e2, e3, e4, e5⟩, -⟩ := cells6 HE.blk
 have hgl := HK.lt
 unfold saV evV saC at *
 dsimp only at *
 clear h hf HK HZ HE
 go_enter Tryz.func47, Tryz.ntmps47
 go_wp2_with fail
 refine (HCL.out _ HS.out.at_.op).mono ?_
 rintro e w1 ⟨x0, q0, rfl, i0, j0, k0, l0, h1⟩
 have hbs := below_one w1 (.cells #[.int .i64 s.f, .int .i64 s.t, .int .i64 s.n, .int .i64 s.s] 135)
 have ST := heap_alloc_new w1 (.cells #[.int .i64 s.f, .int .i64 s.t, .int .i64 s.n, .int .i64 s.s] 135)
 have A0 := (HS.out.below h1).below hbs
 have B0 := (HZZ.out.below h1).below hbs
 have E0 := (HEE.out.below h1).below hbs
 have HTS := size1 w1 (.cells #[.int .i64 s.f, .int .i64 s.t, .int .i64 s.n, .int .i64 s.s] 135)
 have HT := Lib.hid (HS.out.below h1).at_
 clear c0 c1 c2 c3 c4 c5 f0 f1 f2 f3 f4 f5 hgl e0 e1 e2 e3 e4 e5
 obtain ⟨c0, c1, c2, c3, c4, c5⟩ := A0.cells
 obtain ⟨⟨e0, e1, e2, e3, e4, e5⟩, -⟩ := cells6 E0.blk
 have HS1 := Lib.hid A0
 have HZ1 := Lib.hid B0
 have HE1 := Lib.hid E0
 have HST := Lib.hid ST
 have HB1 := Lib.hid hbs
 have HLT : Hid (w.heap.size + 2 < w1.heap.size) := (HZZ.out.below h1).lt
 have HWL : Hid (w.heap.size ≤ w1.heap.size) := by have := (HZZ.out.below h1).lt; unfold Hid; omega
 dsimp only at *
 clear HS HZZ HEE A0 B0 E0 ST hbs HTS h1 HCL i0 j0 k0 l0
 go_wp2_with fail
 refine (HCH.out _ HS1.out.at_.op).mono ?_
 rintro e w2 ⟨x1, q1, rfl, i1, j1, k1, l1, h1⟩
 have hlt := HLT.out
 have hwl := HWL.out
 have A1 := HS1.out.below h1
 have B1 := HZ1.out.below h1
 have E1 := HE1.out.below h1
 have I1 : IntB w2 w1.heap.size 135 s.f s.t s.n s.s := (h1.block _ (heap_lt HST.out)).trans HST.out
 obtain ⟨A2, I2⟩ := A1.setSt I1 (T := w1) ⟨HT.out.us, HT.out.su, HT.out.tb⟩ (Nat.le_refl _) hwl (by omega) s
 obtain ⟨B2, -⟩ := B1.setSt I1 (SaT.zero w1) (Nat.le_refl _) hwl (by omega) s
 have E2 := (((E1.far (i := 0) (v := .int .i64 s.f) (show w.heap.size + 1 ≠ w1.heap.size by omega)).far (i := 1) (v := .int .i64 s.t) (show w.heap.size + 1 ≠ w1.heap.size by omega)).far (i := 2) (v := .int .i64 s.n) (show w.heap.size + 1 ≠ w1.heap.size by omega)).far (i := 3) (v := .int .i64 s.s) (show w.heap.size + 1 ≠ w1.heap.size by omega)
 have L2 := l1.setSt I1 s
 have A3 := A2.setOp rfl L2 ⟨i1, j1, k1⟩
 have B3 := B2.far A2 (by omega) 2 (.slice x1 (chgR op n u st a).length q1)
 have E3 := E2.far (i := 2) (v := .slice x1 (chgR op n u st a).length q1) (show w.heap.size + 1 ≠ w.heap.size by omega)
 have I3 : IntB _ w1.heap.size 135 s.f s.t s.n s.s := (block_far (g := w.heap.size) (i := 2) (v := .slice x1 (chgR op n u st a).length q1) (by omega)).trans I2
 clear c0 c1 c2 c3 c4 c5 e0 e1 e2 e3 e4 e5
 obtain ⟨f0, f1, f2, f3, f4, f5⟩ := A2.free
 have hgl := A1.lt
 have hg3 := heap_lt I1
 have n0 := frozen_of_row _ _ 0 _ _ I1
 have n1 := frozen_of_row _ _ 1 _ _ I1
 have n2 := frozen_of_row _ _ 2 _ _ I1
 have n3 := frozen_of_row _ _ 3 _ _ I1
 obtain ⟨p0, p1, p2, p3⟩ := cells4 I1
 obtain ⟨b0, b1, b2, b3, b4, b5⟩ := A2.cells
 obtain ⟨c0, c1, c2, c3, c4, c5⟩ := A3.cells
 obtain ⟨⟨e0, e1, e2, e3, e4, e5⟩, -⟩ := cells6 E3.blk
 obtain ⟨s0, s1, s2, s3⟩ := cells4 I3
 have HS3 := Lib.hid A3
 have HZ3 := Lib.hid B3
 have HE3 := Lib.hid E3
 unfold setSt at c0 c1 c2 c3 c4 c5 s0 s1 s2 s3 b0 b1 b2 b3 b4 b5 f0 f1 f2 f3 f4 f5 HS3 HZ3
 dsimp only at *
 clear HS1 HZ1 HE1 A1 B1 E1 A2 B2 E2 A3 B3 E3 L2 I1 I2 I3 HST HB1 l1 h1 HCH i1 j1 k1 HT HLT HWL
 go_wp2_with fail
 refine (HAD.out x1 q1 _ HS3.out.at_).mono ?_
 rintro e w3 ⟨y2, rfl, l2, m2, h2⟩
 clear p0 p1 p2 p3 b0 b1 b2 b3 b4 b5 f0 f1 f2 f3 f4 f5 n0 n1 n2 n3
 clear e0 e1 e2 e3 e4 e5 c0 c1 c2 c3 c4 c5 s0 s1 s2 s3
 have B5 := HZ3.out.below h2
 have hfin := SB.finVR l2 B5
 obtain ⟨z0, z1, z2, z3, z4, z5⟩ := B5.cells
 obtain ⟨y0, y1, y2', y3, y4, y5⟩ := B5.free
 have hzl := B5.lt
 have HL := Lib.hid hfin.1
 have HFN := Lib.hid (And.intro hfin.2.1 (And.intro m2 hfin.2.2))
 obtain ⟨now1, hor1, oa1, op1, oc1, ua1, us1, uc1, sa1, su1, sc1, ta1, tb1, tc1⟩ := y2
 unfold setS saV saC at HL
 (try unfold saV at *)
 (try unfold saC at *)
 unfold saO at z0 z1 z2 z3 z4 z5
 dsimp only at *
 clear HS3 HZ3 HE3 B5 hfin l2 m2 h2 HAD
 go_wp2
 refine bodyPost_ret (v := .tuple #[saV ⟨now1, hor1, oa1, op1, oc1, ua1, us1, uc1, sa1, su1, sc1, ta1, tb1, tc1⟩, .int .i64 (findC op n u)]) ?_ rfl ?_
 ·rw [results_cellT rfl]
  unfold saV saC
  simp [asAddr, Result.andThen, HL.out]
 ·obtain ⟨g1, g2, g3⟩ := HFN.out
  exact ⟨_, rfl, g1, fun he => by rw [g2, ← hst]; rfl, g3⟩
end Go.Proofs.YtjhdhfokhkcamaaGreat
namespace Go.Proofs.YtjhdhfokhkcamaaGreat
open Go.RowKit
set_option linter.unusedVariables false
set_option maxRecDepth 100000
def evs (l : List EvM) : List Value := l.flatMap evc
theorem evc_len (e : EvM) : (evc e).length = 6 := rfl
theorem evs_cons (e : EvM) (l : List EvM) : evs (e :: l) = evc e ++ evs l := by simp [evs]
theorem evs_snoc (l : List EvM) (x : EvM) : evs (l ++ [x]) = evs l ++ [.int .i64 x.kind, .int .i64 x.at_, .string x.user, .string x.other, .int .i64 x.n, .int .i64 x.status] := by simp [evs, evc]
theorem evs_get (l : List EvM) : ∀ (k i : Nat) (h : k < l.length) (hi : i < 6), (evs l)[k * 6 + i]? = (evc l[k])[i]? := by
 induction l with
 | nil => intro k i h; exact absurd h (by simp)
 | cons x l ih =>
  intro k i h hi
  rw [evs_cons]
  cases k with
  | zero => rw [List.getElem?_append_left (by rw [evc_len]; omega)]; simp
  | succ k =>
   rw [List.getElem?_append_right (by rw [evc_len]; omega), evc_len, show (k + 1) * 6 + i - 6 = k * 6 + i by omega]
   exact ih k i (by simpa using h) hi
def EvSl (w : World) (a : Option Addr) (l : List EvM) : Prop := ∀ k (h : k < l.length), ∃ b off, a = some ⟨b, off, none⟩ ∧ b < w.heap.size ∧ ∀ i, i < 6 → w.cell? ⟨b, off + k * 6 + i, none⟩ = (evc l[k])[i]?
theorem EvSl.nil (w : World) (a : Option Addr) : EvSl w a [] := fun k h => absurd h (by simp)
theorem EvSl.below {w w' : World} {a : Option Addr} {l : List EvM} (h : EvSl w a l) (hb : Below w.heap.size w w') : EvSl w' a l := fun k hk => by
 obtain ⟨b, off, e, hlt, h0⟩ := h k hk
 exact ⟨b, off, e, Nat.lt_of_lt_of_le hlt hb.size, fun i hi => (hb.cell (p := ⟨b, off + k * 6 + i, none⟩) hlt).trans (h0 i hi)⟩
theorem EvSl.at_ {w : World} {a : Option Addr} {l : List EvM} (h : EvSl w a l) {k : Nat} (hk : k < l.length) : ∃ b off, a = some ⟨b, off, none⟩ ∧ b < w.heap.size ∧
  w.cell? ⟨b, off + k * 6, none⟩ = some (.int .i64 l[k].kind) ∧ w.cell? ⟨b, off + k * 6 + 1, none⟩ = some (.int .i64 l[k].at_) ∧ w.cell? ⟨b, off + k * 6 + 2, none⟩ = some (.string l[k].user) ∧
  w.cell? ⟨b, off + k * 6 + 3, none⟩ = some (.string l[k].other) ∧ w.cell? ⟨b, off + k * 6 + 4, none⟩ = some (.int .i64 l[k].n) ∧ w.cell? ⟨b, off + k * 6 + 5, none⟩ = some (.int .i64 l[k].status) := by
 obtain ⟨b, off, e, hlt, h0⟩ := h k hk
 exact ⟨b, off, e, hlt, h0 0 (by decide), h0 1 (by decide), h0 2 (by decide), h0 3 (by decide), h0 4 (by decide), h0 5 (by decide)⟩
theorem own_ev {w : World} {B e : Nat} {v : Value} {l : List EvM} (h : w.ownsRow B e 6 v l.length (evs l)) : ∃ a c, v = .slice a l.length c ∧ l.length ≤ c ∧ EvSl w a l := by
 rcases h.2 with ⟨rfl, hn⟩ | ⟨g, cap, cur, rfl, hg, hh, hn, hc, hsz, ht⟩
 ·have : l = [] := List.eq_nil_of_length_eq_zero hn
  subst this
  exact ⟨none, 0, rfl, Nat.le_refl _, EvSl.nil _ _⟩
 ·refine ⟨_, cap, rfl, hn, fun k hk => ⟨g, 0, rfl, ?_, fun i hi => ?_⟩⟩
  ·rcases Nat.lt_or_ge g w.heap.size with h1 | h1
   ·exact h1
   ·rw [Array.getElem?_eq_none h1] at hh; cases hh
  ·have hg := evs_get l k i hk hi
   rw [← ht, List.getElem?_take, if_pos (by omega), Array.getElem?_toList] at hg
   rw [cell_of_row w g _ cur e (0, 0) hh, Nat.zero_add, hg]
theorem six_cells (e : EvM) : ∀ u ∈ [Value.int .i64 e.kind, .int .i64 e.at_, .string e.user, .string e.other, .int .i64 e.n, .int .i64 e.status], u.oneCell' = true := by
 intro u hu
 simp only [List.mem_cons, List.mem_nil_iff, or_false] at hu
 rcases hu with rfl | rfl | rfl | rfl | rfl | rfl <;> rfl
def FitsV (l : List EvM) : Prop := ∀ e ∈ l, EFits e
theorem infoEvent : (Tryz.prog.info? 43).map (fun i => (i.zero, i.size, i.bytes)) = some (some (.agg #[.int .i64 0, .int .i64 0, .string ⟨#[]⟩, .string ⟨#[]⟩, .int .i64 0, .int .i64 0]), 6, 64) := by kernel_rfl
theorem evs_take (l : List EvM) (j : Nat) (h : j < l.length) : evs (l.take (j + 1)) = evs (l.take j) ++ [.int .i64 l[j].kind, .int .i64 l[j].at_, .string l[j].user, .string l[j].other, .int .i64 l[j].n, .int .i64 l[j].status] := by
 rw [List.take_succ_eq_append_getElem h]; exact evs_snoc _ _
set_option maxHeartbeats 2000000 in
theorem evnews_any (a : Option Addr) (c : Nat) (l : List EvM) (w : World) (hr : EvSl w a l) (hl : l.length ≤ 1000000) :
  Calls Tryz.prog 21 #[.slice a l.length c] w fun e w' => ∃ (v : Value), e = .returned v ∧ w'.ownsRow w.heap.size 43 6 v l.length (evs l) ∧ Below w.heap.size w w' := by
 obtain ⟨i0, hi, hz0, hz1, hz2⟩ := info_parts infoEvent
 have HR := Lib.hid hr
 clear hr
 go_enter Tryz.func21, Tryz.ntmps21
 go_wp2
 go_loopw [3, 8] (fun v i wr => ∃ (j : Nat), j ≤ l.length ∧ i = .int .i64 j ∧ Hid (wr.ownsRow w.heap.size 43 6 v j (evs (l.take j))) ∧ Hid (Below w.heap.size w wr)) (fun _ i _ => l.length - (intOf i).toNat)
 case atStart => exact ⟨0, by omega, rfl, ⟨rfl, .inl ⟨rfl, rfl⟩⟩, Below.refl _ _⟩
 case round =>
  obtain ⟨j, hj, rfl, HO, HB⟩ := hrel
  by_cases hjl : j < l.length
  ·obtain ⟨b, off, rfl, hbl, hc0, hc1, hc2, hc3, hc4, hc5⟩ := (HR.out.below HB.out).at_ hjl
   have HC := Lib.hid (evs_take l j hjl)
   generalize l[j] = x at *
   have HO2 := Lib.hid (own_below HO.out (below_two wr (.cells #[.int .i64 x.kind, .int .i64 x.at_, .string x.user, .string x.other, .int .i64 x.n, .int .i64 x.status] 29) (.cells #[.int .i64 x.kind, .int .i64 x.at_, .string x.user, .string x.other, .int .i64 x.n, .int .i64 x.status] 43)))
   have HB2 : Hid (Below w.heap.size w ((wr.alloc (.cells #[.int .i64 x.kind, .int .i64 x.at_, .string x.user, .string x.other, .int .i64 x.n, .int .i64 x.status] 29)).alloc (.cells #[.int .i64 x.kind, .int .i64 x.at_, .string x.user, .string x.other, .int .i64 x.n, .int .i64 x.status] 43))) := HB.out.trans ((below_two _ _ _).mono HB.out.size)
   have HS2 := Lib.hid HB2.out.size
   go_wp2_with (at_builtin; refine wpList_append_own _ rfl (.tmp 12) (.tmp 14) 51 rfl w.heap.size 43 i0 _ 6 64 Tryz.underlying51 hi hz0 hz1 hz2 rfl (by decide) _ _ _ rfl HO2.out ⟨wr.heap.size + 1, 0, none⟩ 1 1 [.int .i64 x.kind, .int .i64 x.at_, .string x.user, .string x.other, .int .i64 x.n, .int .i64 x.status] rfl rfl (news_at _ _ _ _ (size1 _ _).symm) (six_cells x) (by unfold maxLen; omega) (by omega) HS2.out ?_; intro v' w2 hown' hgrow hiff)
   have HB3 := Lib.hid (app_below HB2.out HS2.out HO2.out hgrow)
   have HO3 := Lib.hid hown'
   clear hown' hgrow hiff HB2 HS2 HO2
   go_wp2
   go_roundw
   case rel => exact ⟨j + 1, by omega, by go_num, (by unfold Hid; rw [HC.out]; exact HO3.out), HB3⟩
   case measure => simp [intOf]; omega
  ·obtain rfl : j = l.length := by omega
   rw [List.take_of_length_le (Nat.le_refl _)] at HO
   go_wp2
   go_ret
   exact ⟨_, rfl, HO.out, HB.out⟩
end Go.Proofs.YtjhdhfokhkcamaaGreat
