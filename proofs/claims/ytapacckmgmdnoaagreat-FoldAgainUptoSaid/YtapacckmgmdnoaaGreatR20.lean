/- Texts of mine, one behind the other, of each what is wanted. -/
import Derived.Test.YtapacckmgmdnoaaGreatR00
import Derived.Test.YtapacckmgmdnoaaGreatShelf
import Derived.Test.YtapacckmgmdnoaaGreatR01
import Derived.Test.YtapacckmgmdnoaaGreatR03
import Derived.Test.YtapacckmgmdnoaaGreatR04
import Derived.Test.YtapacckmgmdnoaaGreatR05
import Derived.Test.YtapacckmgmdnoaaGreatR06
import Derived.Test.YtapacckmgmdnoaaGreatR10
import Derived.Test.YtapacckmgmdnoaaGreatR11
import Derived.Test.YtapacckmgmdnoaaGreatR14
import Derived.Test.YtapacckmgmdnoaaGreatR18
import Derived.Test.YtapacckmgmdnoaaGreatR19
namespace Go.Proofs.YtapacckmgmdnoaaGreat
set_option linter.unusedVariables false
set_option maxRecDepth 100000
def goE (s : SaM) (e : EvM) : SaM := goS s e.kind e.at_ e.n e.status e.user e.other
def errE (s : SaM) (e : EvM) : Int := errS s e.kind e.at_ e.n e.status e.user e.other
def nxE (s : SaM) (e : EvM) : SaM := if errE s e = 0 then goE s e else s
def foldE (s : SaM) (l : List EvM) : SaM := l.foldl nxE s
def errsE : SaM → List EvM → List Int
 | _, [] => []
 | s, e :: l => errE s e :: errsE (nxE s e) l
def takenE : SaM → List EvM → List EvM
 | _, [] => []
 | s, e :: l => if errE s e = 0 then e :: takenE (goE s e) l else takenE s l
def AllT (s : SaM) (l : List EvM) : Prop := ∀ x ∈ errsE s l, x = 0
theorem nxE_ok {s : SaM} {e : EvM} (h : errE s e = 0) : nxE s e = goE s e := if_pos h
theorem nxE_no {s : SaM} {e : EvM} (h : ¬ errE s e = 0) : nxE s e = s := if_neg h
theorem foldE_append (s : SaM) (a b : List EvM) : foldE s (a ++ b) = foldE (foldE s a) b := List.foldl_append
theorem foldE_cons (s : SaM) (e : EvM) (l : List EvM) : foldE s (e :: l) = foldE (nxE s e) l := rfl
theorem foldE_take (s : SaM) (l : List EvM) (j : Nat) (h : j < l.length) : foldE s (l.take (j + 1)) = nxE (foldE s (l.take j)) l[j] := by
 rw [List.take_succ_eq_append_getElem h, foldE_append]
 rfl
theorem errsE_append : ∀ (a : List EvM) (s : SaM) (b : List EvM), errsE s (a ++ b) = errsE s a ++ errsE (foldE s a) b
 | [], _, _ => rfl
 | e :: a, s, b => by
  show errE s e :: errsE (nxE s e) (a ++ b) = errE s e :: (errsE (nxE s e) a ++ errsE (foldE (nxE s e) a) b)
  rw [errsE_append a]
theorem errsE_len : ∀ (l : List EvM) (s : SaM), (errsE s l).length = l.length
 | [], _ => rfl
 | e :: l, s => by
  show (errsE (nxE s e) l).length + 1 = l.length + 1
  rw [errsE_len l]
theorem errsE_take (s : SaM) (l : List EvM) (j : Nat) (h : j < l.length) : errsE s (l.take (j + 1)) = errsE s (l.take j) ++ [errE (foldE s (l.take j)) l[j]] := by
 rw [List.take_succ_eq_append_getElem h, errsE_append]
 rfl
theorem errsE_at (l : List EvM) (s : SaM) (j : Nat) (h : j < l.length) : (errsE s l)[j]'(by rw [errsE_len]; exact h) = errE (foldE s (l.take j)) l[j] := by
 have h1 := errsE_take s l j h
 have h2 : errsE s l = errsE s (l.take (j + 1)) ++ errsE (foldE s (l.take (j + 1))) (l.drop (j + 1)) := by
  rw [← errsE_append, List.take_append_drop]
 have h3 : (errsE s l)[j]? = some (errE (foldE s (l.take j)) l[j]) := by
  rw [h2, h1, List.append_assoc, List.getElem?_append_right (by rw [errsE_len, List.length_take]; omega), errsE_len, List.length_take, show j - min j l.length = 0 by omega]
  rfl
 exact (List.getElem?_eq_some_iff.1 h3).2
theorem takenE_append : ∀ (a : List EvM) (s : SaM) (b : List EvM), takenE s (a ++ b) = takenE s a ++ takenE (foldE s a) b
 | [], _, _ => rfl
 | e :: a, s, b => by
  show (if errE s e = 0 then e :: takenE (goE s e) (a ++ b) else takenE s (a ++ b)) = (if errE s e = 0 then e :: takenE (goE s e) a else takenE s a) ++ takenE (foldE (nxE s e) a) b
  by_cases h : errE s e = 0
  ·rw [if_pos h, if_pos h, nxE_ok h, takenE_append a]; rfl
  ·rw [if_neg h, if_neg h, nxE_no h, takenE_append a]
theorem takenE_len : ∀ (l : List EvM) (s : SaM), (takenE s l).length ≤ l.length
 | [], _ => Nat.le_refl _
 | e :: l, s => by
  show (if errE s e = 0 then e :: takenE (goE s e) l else takenE s l).length ≤ l.length + 1
  split
  ·have := takenE_len l (goE s e); rw [List.length_cons]; omega
  ·have := takenE_len l s; omega
theorem takenE_mem : ∀ (l : List EvM) (s : SaM) (e : EvM), e ∈ takenE s l → e ∈ l
 | [], _, _, h => h
 | x :: l, s, e, h => by
  have h' : e ∈ (if errE s x = 0 then x :: takenE (goE s x) l else takenE s l) := h
  split at h'
  ·rcases List.mem_cons.1 h' with rfl | h2
   ·exact List.mem_cons_self ..
   ·exact List.mem_cons_of_mem _ (takenE_mem l _ e h2)
  ·exact List.mem_cons_of_mem _ (takenE_mem l _ e h')
theorem taken_again : ∀ (l : List EvM) (s : SaM), foldE s (takenE s l) = foldE s l ∧ AllT s (takenE s l) ∧ takenE s (takenE s l) = takenE s l
 | [], _ => ⟨rfl, (fun x hx => by cases hx), rfl⟩
 | e :: l, s => by
  by_cases h : errE s e = 0
  ·obtain ⟨h1, h2, h3⟩ := taken_again l (goE s e)
   have e1 : takenE s (e :: l) = e :: takenE (goE s e) l := if_pos h
   rw [e1]
   refine ⟨by rw [foldE_cons, foldE_cons, nxE_ok h, h1], fun x hx => ?_, ?_⟩
   ·have hx' : x ∈ errE s e :: errsE (nxE s e) (takenE (goE s e) l) := hx
    rw [nxE_ok h] at hx'
    rcases List.mem_cons.1 hx' with rfl | hx'
    ·exact h
    ·exact h2 x hx'
   ·show (if errE s e = 0 then e :: takenE (goE s e) (takenE (goE s e) l) else _) = _
    rw [if_pos h, h3]
  ·obtain ⟨h1, h2, h3⟩ := taken_again l s
   have e1 : takenE s (e :: l) = takenE s l := if_neg h
   rw [e1]
   exact ⟨by rw [h1, foldE_cons, nxE_no h], h2, h3⟩
theorem right_nx {s : SaM} (h : RightS s) (e : EvM) : RightS (nxE s e) := by
 unfold nxE
 split
 ·rename_i he; exact right_go h he
 ·exact h
theorem cnt_nx (s : SaM) (e : EvM) : stCnt (nxE s e) ≤ stCnt s + 1 := by
 unfold nxE
 split
 ·exact cnt_go s _ _ _ _ _ _
 ·omega
theorem right_fold : ∀ (l : List EvM) {s : SaM}, RightS s → RightS (foldE s l)
 | [], _, h => h
 | e :: l, s, h => by rw [foldE_cons]; exact right_fold l (right_nx h e)
theorem cnt_fold : ∀ (l : List EvM) (s : SaM), stCnt (foldE s l) ≤ stCnt s + l.length
 | [], _ => Nat.le_refl _
 | e :: l, s => by
  have h1 := cnt_fold l (nxE s e)
  have h2 := cnt_nx s e
  rw [foldE_cons, List.length_cons]
  omega
def latA : List EvM → Int
 | [] => 0
 | e :: l => l.foldl (fun m x => max m x.at_) e.at_
def bearB (u : ByteArray) (e : EvM) : Bool := decide (e.user = u) || decide (e.other = u)
def withoutV (u : ByteArray) (l : List EvM) : List EvM := l.filter fun e => !bearB u e
theorem bear_no {u : ByteArray} {e : EvM} : bearB u e = false ↔ e.user ≠ u ∧ e.other ≠ u := by
 unfold bearB
 rw [Bool.or_eq_false_iff, decide_eq_false_iff_not, decide_eq_false_iff_not]
theorem withoutV_next (u : ByteArray) (l : List EvM) (j : Nat) (h : j < l.length) : withoutV u (l.take (j + 1)) = withoutV u (l.take j) ++ (if bearB u l[j] = true then [] else [l[j]]) := by
 unfold withoutV
 rw [take_next_filter _ _ _ h]
 cases bearB u l[j] <;> rfl
end Go.Proofs.YtapacckmgmdnoaaGreat
namespace Go.Proofs.YtapacckmgmdnoaaGreat
open Go.RowKit Go.Sort Go.Proofs
set_option linter.unusedVariables false
set_option maxRecDepth 100000
set_option maxRecDepth 100000
theorem sgrow_any (n : Nat) (w : World) (hn : n ≤ 1000000) : Calls Tryz.prog 169 #[.slice none 0 0, .int .i64 n] w fun e w' => ∃ v, e = .returned v ∧ w'.ownsRow w.heap.size 111 4 v 0 [] ∧ Below w.heap.size w w' := by
 obtain ⟨i0, hi, hz0, hz1, hz2⟩ := info_parts infoStay
 rcases Nat.eq_zero_or_pos n with h0 | h0
 ·subst h0
  have h := Any8.slices_Grow_room Tryz.laysGrowSt none 0 0 0 w (by omega) (by omega) (by omega) (by omega)
  refine Calls.mono h ?_
  rintro e w' ⟨rfl, rfl⟩
  exact ⟨_, rfl, ⟨rfl, .inl ⟨rfl, rfl⟩⟩, Below.refl _ _⟩
 ·have h := Any8.slices_Grow_grow Tryz.laysGrowSt i0 _ hi hz0 (by rw [hz1]; omega) none 0 0 n [] w (by omega) (by omega) (by rw [hz2]; omega) (by omega) (by simp) (fun _ => rfl) (fun a h => by cases h)
  refine Calls.mono h ?_
  rintro e w' ⟨rfl, rfl⟩
  have hge := grownCap_ge w (0 + n) 0 111
  have hle := grownCap_le_maxLen w (0 + n) 0 111 (by unfold maxLen; omega)
  refine ⟨_, rfl, ⟨rfl, .inr ⟨w.heap.size, _, _, rfl, Nat.le_refl _, heap_alloc_new w.drew _, Nat.zero_le _, hle, ?_, by simp⟩⟩, ?_⟩
  ·simp only [Array.size_append, size_zeroCells]
   show 0 + (0 + n - 0) * 4 + (grownCap w (0 + n) 0 111 - (0 + n)) * 4 = grownCap w (0 + n) 0 111 * 4
   omega
  ·exact (Below.refl w.heap.size w).drew.alloc (Nat.le_refl _) _
structure StR where
 a : Option Addr
 l : List StM
 c : Nat
def strV (r : StR) : Value := .slice r.a r.l.length r.c
def catS (R : List StR) : List StM := R.flatMap (·.l)
theorem catS_take (R : List StR) (j : Nat) (h : j < R.length) : catS (R.take (j + 1)) = catS (R.take j) ++ R[j].l := by
 unfold catS
 rw [List.take_succ_eq_append_getElem h, List.flatMap_append]
 simp
theorem catS_le (R : List StR) (j : Nat) : (catS (R.take j)).length ≤ (catS R).length := by
 have : catS R = catS (R.take j) ++ catS (R.drop j) := by
  unfold catS
  rw [← List.flatMap_append, List.take_append_drop]
 rw [this, List.length_append]
 omega
def StRAt (w : World) (r : StR) : Prop := StSl w r.a r.l ∧ (r.a = none → r.c = 0)
theorem srows_at {w : World} {a : Option Addr} {R : List StR} (h : Sl w a (R.map strV)) {k : Nat} (hk : k < R.length) : ∃ b off, a = some ⟨b, off, none⟩ ∧ b < w.heap.size ∧ w.cell? ⟨b, off + k, none⟩ = some (strV R[k]) := by
 obtain ⟨b, off, e, hlt, hc⟩ := h k (by simpa using hk)
 exact ⟨b, off, e, hlt, by rw [hc]; simp⟩
set_option maxHeartbeats 1000000 in
theorem sconcat_any (a : Option Addr) (c : Nat) (R : List StR) (w : World) (hr : Sl w a (R.map strV)) (hR : ∀ r ∈ R, StRAt w r) (hl : R.length ≤ 100000) (hs : (catS R).length ≤ 100000) :
  Calls Tryz.prog 110 #[.slice a R.length c] w fun e w' => ∃ v, e = .returned v ∧ w'.ownsRow w.heap.size 111 4 v (catS R).length (sts (catS R)) ∧ Below w.heap.size w w' := by
 obtain ⟨i0, hi, hz0, hz1, hz2⟩ := info_parts infoStay
 have HR := Lib.hid hr
 have HRR := Lib.hid hR
 have HG := Lib.hid (sgrow_any (catS R).length w (by omega))
 clear hr hR
 go_enter Tryz.func110, Tryz.ntmps110
 go_wp2
 go_loopw [3, 11] (fun v i wr => ∃ (j s : Nat), j ≤ R.length ∧ i = .int .i64 j ∧ v = .int .i64 s ∧ s ≤ 100000 ∧ Hid (s = (catS (R.take j)).length) ∧ wr = w) (fun _ i _ => R.length - (intOf i).toNat)
 case atStart => exact ⟨0, 0, by omega, rfl, rfl, by omega, rfl, rfl⟩
 case round =>
  obtain ⟨j, s, hj, rfl, rfl, hs1, HS, hw⟩ := hrel
  obtain rfl : w = wr := hw.symm
  clear hw
  by_cases hjl : j < R.length
  ·obtain ⟨b, off, rfl, hbl, hc0⟩ := srows_at HR.out hjl
   have HN := Lib.hid (catS_take R j hjl)
   have hle := catS_le R (j + 1)
   rw [HN.out, List.length_append, ← HS.out] at hle
   generalize R[j] = x at *
   unfold strV at hc0
   obtain ⟨xa, xl, xc⟩ := x
   simp only at hc0 hle HN
   have hsum : s + xl.length ≤ 100000 := by omega
   clear hle
   go_wp2
   go_roundw
   case rel => exact ⟨j + 1, s + xl.length, by omega, by go_num, by go_num, hsum, (by unfold Hid; rw [HN.out, List.length_append, ← HS.out]), (by first | rfl | trivial)⟩
   case measure => simp [intOf]; omega
  ·obtain rfl : j = R.length := by omega
   rw [List.take_of_length_le (Nat.le_refl _)] at HS
   have HS2 := HS.out
   subst HS2
   go_wp2_with fail
   refine HG.out.mono ?_
   rintro e w1 ⟨v, rfl, ho, hb⟩
   have HO := Lib.hid ho
   have HB := Lib.hid hb
   clear ho hb HG HS
   go_wp2
   go_loopw [6, 27] (fun v i wx => ∃ (j : Nat), j ≤ R.length ∧ i = .int .i64 j ∧ Hid (wx.ownsRow w.heap.size 111 4 v (catS (R.take j)).length (sts (catS (R.take j)))) ∧ Hid (Below w.heap.size w wx)) (fun _ i _ => R.length - (intOf i).toNat)
   case atStart => exact ⟨0, by omega, rfl, HO.out, HB.out⟩
   case round =>
    obtain ⟨j, hj, rfl, HO, HB⟩ := hrel
    by_cases hjl : j < R.length
    ·obtain ⟨b, off, rfl, hbl, hc0⟩ := srows_at (HR.out.below HB.out) hjl
     have HN := Lib.hid (catS_take R j hjl)
     have hle := catS_le R (j + 1)
     have hle2 := catS_le R j
     rw [HN.out, List.length_append] at hle
     have HX := Lib.hid (HRR.out _ (List.getElem_mem hjl))
     generalize R[j] = x at *
     unfold strV at hc0
     obtain ⟨xa, xl, xc⟩ := x
     simp only at hc0 hle HN
     obtain ⟨hx1, hx2⟩ := HX.out
     simp only at hx1 hx2
     have HX1 := Lib.hid (hx1.below HB.out)
     have HX2 := Lib.hid hx2
     generalize hct : catS (R.take j) = ct at *
     have hsum : ct.length + xl.length ≤ 1000000 := by omega
     clear hle hle2 hx1 hx2 HX hct
     go_wp2_with (at_builtin; refine wpList_append_st _ rfl (.tmp 31) (.tmp 32) 69 rfl w.heap.size 111 i0 _ Tryz.underlying69 hi hz0 hz1 hz2 rfl _ ct rfl HO.out xa xc xl rfl HX1.out HX2.out hsum HB.out.size ?_; intro v2 w2 hown2 hB2)
     have HO2 := Lib.hid hown2
     have HB2 := Lib.hid (HB.out.trans hB2)
     clear hown2 hB2
     go_wp2
     go_roundw
     case rel => exact ⟨j + 1, by omega, by go_num, (by unfold Hid; rw [HN.out]; exact HO2.out), HB2⟩
     case measure => simp [intOf]; omega
    ·obtain rfl : j = R.length := by omega
     rw [List.take_of_length_le (Nat.le_refl _)] at HO
     go_wp2
     go_ret
     exact ⟨_, rfl, HO.out, HB.out⟩
theorem own_empty8 (w : World) (e : TypeId) (k B : Nat) (hB : B ≤ w.heap.size) : (w.alloc (.cells #[] e)).ownsRow B e k (.slice (some ⟨w.heap.size, 0, none⟩) 0 0) 0 [] :=
 ⟨by simp, .inr ⟨w.heap.size, 0, #[], rfl, hB, heap_alloc_new w _, Nat.le_refl _, by unfold maxLen; omega, by simp, by simp⟩⟩
set_option maxHeartbeats 1000000 in
theorem clone8_any (a : Option Addr) (c : Nat) (l : List StM) (w : World) (hr : StSl w a l) (hn : a = none → c = 0) (hl : l.length ≤ 100000) :
  Calls Tryz.prog 89 #[.slice a l.length c] w fun e w' => ∃ v, e = .returned v ∧ w'.ownsRow w.heap.size 111 4 v l.length (sts l) ∧ Below w.heap.size w w' := by
 obtain ⟨i0, hi, hz0, hz1, hz2⟩ := info_parts infoStay
 have HN := Lib.hid hn
 have q22 : ∀ (W : World) (a : Option Addr) (n c n' c' : Nat), (binOp .eql 69 (.slice a n c) (.slice none n' c')).run Tryz.prog W = .ok (.bool a.isNone) W := fun W a n c n' c' => Lib.run_eql_slice_nil W _ _ a n c n' c' Tryz.underlying69
 clear hn
 cases a with
 | none =>
  have hc := HN.out rfl
  subst hc
  have : l = [] := by
   cases l with
   | nil => rfl
   | cons y m => obtain ⟨_, _, e, _⟩ := hr 0 (by simp); cases e
  subst this
  clear hr
  go_enter Tryz.func89, Tryz.ntmps89
  go_wp2
  go_ret
  exact ⟨_, rfl, ⟨rfl, .inl ⟨rfl, rfl⟩⟩, Below.refl _ _⟩
 | some ad =>
  have HO := Lib.hid (own_empty8 w 111 4 w.heap.size (Nat.le_refl _))
  have HB := Lib.hid (below_one w (.cells #[] 111))
  have HX1 := Lib.hid (hr.below HB.out)
  clear hr
  go_enter Tryz.func89, Tryz.ntmps89
  go_wp2_with (at_builtin; refine wpList_append_st _ rfl (.tmp 5) (.tmp 6) 69 rfl w.heap.size 111 i0 _ Tryz.underlying69 hi hz0 hz1 hz2 rfl _ [] rfl HO.out (some ad) c l rfl HX1.out HN.out (by simpa using (show l.length ≤ 1000000 by omega)) HB.out.size ?_; intro v2 w2 hown2 hB2)
  have HO2 := Lib.hid hown2
  have HB2 := Lib.hid (HB.out.trans hB2)
  clear hown2 hB2
  go_wp2
  go_ret
  exact ⟨_, rfl, HO2.out, HB2.out⟩
end Go.Proofs.YtapacckmgmdnoaaGreat
namespace Go.Proofs.YtapacckmgmdnoaaGreat
open Go.RowKit Go.Proofs
set_option linter.unusedVariables false
set_option maxRecDepth 100000
set_option maxRecDepth 100000
theorem txt_dec (a b : ByteArray) : (a.toList == b.toList) = decide (a = b) := by
 by_cases h : a = b
 ·subst h; rw [txt_eq, decide_eq_true rfl]
 ·rw [txt_ne h, decide_eq_false h]
theorem txt_ndec (a b : ByteArray) : (a.toList != b.toList) = !decide (a = b) := by unfold bne; rw [txt_dec]
set_option maxHeartbeats 1000000 in
theorem userName_any (u : ByteArray) (a : Option Addr) (n c : Nat) (W : World) :
  Calls Tryz.prog 117 #[.agg #[.string u, .slice a n c]] W fun r w' => r = .returned (.string u) ∧ Below W.heap.size W w' := by
 have HB := Lib.hid (below_one W (.cells #[.string u, .slice a n c] 108))
 go_enter Tryz.func117, Tryz.ntmps117
 go_wp2
 go_ret
 exact ⟨rfl, HB.out⟩
set_option maxHeartbeats 1000000 in
theorem tombName_any (u : ByteArray) (n : Int) (W : World) :
  Calls Tryz.prog 126 #[.agg #[.string u, .int .i64 n]] W fun r w' => r = .returned (.string u) ∧ Below W.heap.size W w' := by
 have HB := Lib.hid (below_one W (.cells #[.string u, .int .i64 n] 141))
 go_enter Tryz.func126, Tryz.ntmps126
 go_wp2
 go_ret
 exact ⟨rfl, HB.out⟩
set_option maxHeartbeats 1000000 in
theorem c_staysOf (x : UsL) (u : ByteArray) (g : Nat) (W : World) (h : CapO W g (.string u)) :
  Calls Tryz.prog 155 #[.agg #[.string x.u, .slice x.a x.l.length x.c], .pointer (some ⟨g, 0, none⟩)] W fun r w' => r = .returned (.bool (decide (x.u = u))) ∧ Below W.heap.size W w' := by
 have hb := below_one W (.cells #[.string x.u, .slice x.a x.l.length x.c] 108)
 obtain ⟨c0, hg⟩ := h.below hb
 have HB := Lib.hid hb
 have HE := Lib.hid (txt_dec x.u u)
 clear hb hg h
 go_enter Tryz.func155, Tryz.ntmps155
 go_wp2
 go_ret
 exact ⟨retB HE.out, HB.out⟩
set_option maxHeartbeats 1000000 in
theorem c_erased (x : UsL) (u : ByteArray) (g : Nat) (W : World) (h : CapO W g (.string u)) :
  Calls Tryz.prog 237 #[.agg #[.string x.u, .slice x.a x.l.length x.c], .pointer (some ⟨g, 0, none⟩)] W fun r w' => r = .returned (.bool (!decide (x.u = u))) ∧ Below W.heap.size W w' := by
 have hb := below_one W (.cells #[.string x.u, .slice x.a x.l.length x.c] 108)
 obtain ⟨c0, hg⟩ := h.below hb
 have HB := Lib.hid hb
 have HE := Lib.hid (txt_ndec x.u u)
 clear hb hg h
 go_enter Tryz.func237, Tryz.ntmps237
 go_wp2
 go_ret
 exact ⟨retB HE.out, HB.out⟩
set_option maxHeartbeats 1000000 in
theorem c_those (x : UsL) (N g b : Nat) (q : Bool) (W : World) (h : CapO W b (.func (.func N) #[] #[.pointer (some ⟨g, 0, none⟩)])) (hF : ∀ args V, Sem.run Tryz.prog (callFunc N args) V = .ok (.enter N args) V)
  (hN : ∀ V, Below W.heap.size W V → Calls Tryz.prog N #[.agg #[.string x.u, .slice x.a x.l.length x.c], .pointer (some ⟨g, 0, none⟩)] V fun r w' => r = .returned (.bool q) ∧ Below V.heap.size V w') :
  Calls Tryz.prog 263 #[.agg #[.string x.u, .slice x.a x.l.length x.c], .pointer (some ⟨b, 0, none⟩)] W fun r w' => r = .returned (.bool !q) ∧ Below W.heap.size W w' := by
 have hb := below_one W (.cells #[.string x.u, .slice x.a x.l.length x.c] 108)
 obtain ⟨c0, hg⟩ := h.below hb
 have HB := Lib.hid hb
 have HC := Lib.hid (hN _ hb)
 clear hb hg h hN
 go_enter Tryz.func263, Tryz.ntmps263
 go_wp2_with fail
 refine HC.out.mono ?_
 rintro r w2 ⟨rfl, hB⟩
 go_wp2
 go_ret
 exact ⟨rfl, HB.out.trans (hB.mono HB.out.size)⟩
def butU (u : ByteArray) (D : List UsL) : List UsL := D.filter fun x => !decide (x.u = u)
theorem butU_m (u : ByteArray) (D : List UsL) : umS (butU u D) = (umS D).filter fun x => !isKy UsM.u u x := by
 unfold umS butU
 rw [List.filter_map]
 rfl
set_option maxHeartbeats 2000000 in
theorem those_any (a : Option Addr) (c : Nat) (D : List UsL) (u : ByteArray) (g : Nat) (w : World) (hr : UsSl w a D) (hc : Cp a D.length c) (hl : D.length ≤ 10000) (hg : CapO w g (.string u)) :
  Calls Tryz.prog 236 #[.slice a D.length c, .func (.func 237) #[] #[.pointer (some ⟨g, 0, none⟩)]] w fun e w' => ∃ x q, e = .returned (.slice x (butU u D).length q) ∧ UsSl w' x (butU u D) ∧ Cp x (butU u D).length q ∧ Below w.heap.size w w' := by
 have hb := below_one w (.cells #[.func (.func 237) #[] #[.pointer (some ⟨g, 0, none⟩)]] 190)
 have hcap : CapO (w.alloc (.cells #[.func (.func 237) #[] #[.pointer (some ⟨g, 0, none⟩)]] 190)) w.heap.size (.func (.func 237) #[] #[.pointer (some ⟨g, 0, none⟩)]) := ⟨cell_of_row _ _ 0 _ _ (0, 0) (heap_alloc_new w _), by rw [size1]; omega⟩
 have HCL := Lib.hid (pclone_us a c (D.map usp) (usp_one D) (w.alloc (.cells #[.func (.func 237) #[] #[.pointer (some ⟨g, 0, none⟩)]] 190)) (hr.row.below hb) (by rw [List.length_map]; exact hc) (by rw [List.length_map]; omega))
 rw [List.length_map] at HCL
 have HDE : Hid (∀ v V, (w.alloc (.cells #[.func (.func 237) #[] #[.pointer (some ⟨g, 0, none⟩)]] 190)).heap.size ≤ V.heap.size → Below (w.alloc (.cells #[.func (.func 237) #[] #[.pointer (some ⟨g, 0, none⟩)]] 190)).heap.size (w.alloc (.cells #[.func (.func 237) #[] #[.pointer (some ⟨g, 0, none⟩)]] 190)) V → V.ownsRow (w.alloc (.cells #[.func (.func 237) #[] #[.pointer (some ⟨g, 0, none⟩)]] 190)).heap.size 108 2 v D.length (usv D) →
   Calls Tryz.prog 262 #[v, .func (.func 263) #[] #[.pointer (some ⟨w.heap.size, 0, none⟩)]] V fun r w' => ∃ v', r = .returned v' ∧ w'.ownsRow (w.alloc (.cells #[.func (.func 237) #[] #[.pointer (some ⟨g, 0, none⟩)]] 190)).heap.size 108 2 v' (butU u D).length (usv (butU u D)) ∧ Below (w.alloc (.cells #[.func (.func 237) #[] #[.pointer (some ⟨g, 0, none⟩)]] 190)).heap.size V w') := fun v V hsz hbV hoV => by
  have h := del_us v D 263 w.heap.size (w.alloc (.cells #[.func (.func 237) #[] #[.pointer (some ⟨g, 0, none⟩)]] 190)).heap.size (fun x => decide (x.u = u))
   (fun V => CapO V w.heap.size (.func (.func 237) #[] #[.pointer (some ⟨g, 0, none⟩)]) ∧ CapO V g (.string u) ∧ (w.alloc (.cells #[.func (.func 237) #[] #[.pointer (some ⟨g, 0, none⟩)]] 190)).heap.size ≤ V.heap.size) V hoV ⟨hcap.below hbV, (hg.below hb).below hbV, hsz⟩ hsz (by omega) (call_known Tryz.func263 rfl)
   (fun W W' h q => by
    have hw1 : w.heap.size < (w.alloc (.cells #[.func (.func 237) #[] #[.pointer (some ⟨g, 0, none⟩)]] 190)).heap.size := by rw [size1]; omega
    have hw2 : g < (w.alloc (.cells #[.func (.func 237) #[] #[.pointer (some ⟨g, 0, none⟩)]] 190)).heap.size := Nat.lt_trans hg.2 hw1
    exact ⟨⟨(q.cell (p := ⟨w.heap.size, 0, none⟩) hw1).trans h.1.1, Nat.lt_of_lt_of_le h.1.2 q.size⟩, ⟨(q.cell (p := ⟨g, 0, none⟩) hw2).trans h.2.1.1, Nat.lt_of_lt_of_le h.2.1.2 q.size⟩, Nat.le_trans h.2.2 q.size⟩)
   (fun x hx V h => by
    have h2 := c_those x 237 g w.heap.size (!decide (x.u = u)) V h.1 (call_known Tryz.func237 rfl) (fun V' q => c_erased x u g V' (h.2.1.below q))
    rw [Bool.not_not] at h2
    exact h2)
  exact h
 have HU := Lib.hid hr
 have HB := Lib.hid hb
 clear hr hb hcap hg hc
 go_enter Tryz.func236, Tryz.ntmps236
 go_wp2_with fail
 refine HCL.out.mono ?_
 rintro e w2 ⟨v, rfl, ho, hB2⟩
 go_wp2_with fail
 refine (HDE.out v w2 hB2.size hB2 ho).mono ?_
 rintro e w3 ⟨v3, rfl, ho3, hB3⟩
 have hB4 : Below w.heap.size w w3 := HB.out.trans ((hB2.trans hB3).mono HB.out.size)
 have HO := Lib.hid ho3
 have HB4 := Lib.hid hB4
 clear hB2 hB3 ho3 ho hB4 HB HDE HCL
 go_wp2
 go_ret
 obtain ⟨x, q, rfl, h1, h2, h3, h4⟩ := own_us HO.out
 exact ⟨x, q, rfl, ⟨h3, fun y hy => (HU.out.at_ y (List.mem_filter.1 hy).1).below HB4.out⟩, ⟨h1, h2, h4⟩, HB4.out⟩
theorem fst_key {D : List UsL} {u : ByteArray} {k : Nat} (hk : D.findIdx (fun x => decide (x.u = u)) = k) : (k = D.length ∧ ofU (umS D) u = []) ∨ ∃ h : k < D.length, ofU (umS D) u = D[k].l ∧ D[k].u = u := by
 have hf : (umS D).find? (isKy UsM.u u) = (D.find? (fun x => decide (x.u = u))).map UsL.m := by
  unfold umS
  rw [List.find?_map]
  rfl
 have hle : D.findIdx (fun x => decide (x.u = u)) ≤ D.length := List.findIdx_le_length
 rcases Nat.lt_or_ge k D.length with h1 | h1
 ·refine .inr ⟨h1, ?_, ?_⟩
  ·have h2 : D.find? (fun x => decide (x.u = u)) = some D[k] := by
    rw [List.find?_eq_some_iff_getElem]
    refine ⟨?_, k, h1, rfl, fun j hj => ?_⟩
    ·have := (List.findIdx_eq h1).1 hk
     exact this.1
    ·have := ((List.findIdx_eq h1).1 hk).2 j hj
     simpa using this
   unfold ofU
   rw [hf, h2]
   rfl
  ·exact of_decide_eq_true ((List.findIdx_eq h1).1 hk).1
 ·refine .inl ⟨by omega, ?_⟩
  have h2 : D.find? (fun x => decide (x.u = u)) = none := by
   rw [List.find?_eq_none]
   intro x hx
   have := List.findIdx_eq_length.1 (show D.findIdx (fun x => decide (x.u = u)) = D.length by omega) x hx
   simpa using this
  unfold ofU
  rw [hf, h2]
  rfl
set_option maxHeartbeats 2000000 in
theorem staysOf_any (a : Option Addr) (c : Nat) (D : List UsL) (u : ByteArray) (w : World) (hr : UsSl w a D) (hl : D.length ≤ 10000) :
  Calls Tryz.prog 90 #[.slice a D.length c, .string u] w fun e w' => ∃ x q, e = .returned (.slice x (ofU (umS D) u).length q) ∧ StSl w' x (ofU (umS D) u) ∧ Cp x (ofU (umS D) u).length q ∧ Below w.heap.size w w' := by
 have hb := below_one w (.cells #[.string u] 9)
 have hcap : CapO (w.alloc (.cells #[.string u] 9)) w.heap.size (.string u) := ⟨cell_of_row _ _ 0 _ _ (0, 0) (heap_alloc_new w _), by rw [size1]; omega⟩
 have HF := Lib.hid (find_us a c D 155 w.heap.size (fun x => decide (x.u = u)) (fun V => CapO V w.heap.size (.string u)) _ (hr.below hb) hcap (by omega) (call_known Tryz.func155 rfl) (fun W W' h q => h.below q) (fun x hx V _ h => c_staysOf x u w.heap.size V h))
 have HK := Lib.hid (fst_key (D := D) (u := u) rfl)
 have HB := Lib.hid hb
 have HR := Lib.hid hr
 clear hr hb hcap
 generalize D.findIdx (fun x => decide (x.u = u)) = k at *
 generalize ofU (umS D) u = m at *
 rcases HK.out with ⟨h1, h2⟩ | ⟨h1, h2, _⟩
 ·subst h2
  have d1 : ((k : Int) == (D.length : Int)) = true := by rw [h1]; exact beq_self_eq_true _
  clear h1 HK HR
  go_enter Tryz.func90, Tryz.ntmps90
  go_wp2_with fail
  refine HF.out.mono ?_
  rintro e w2 ⟨rfl, hB2⟩
  go_wp2
  go_ret
  exact ⟨none, 0, rfl, StSl.nil _ _, Cp.none, HB.out.trans (hB2.mono HB.out.size)⟩
 ·have d1 : ((k : Int) == (D.length : Int)) = false := by rw [beq_eq_false_iff_ne]; omega
  have HM := Lib.hid h2
  clear HK h2
  go_enter Tryz.func90, Tryz.ntmps90
  go_wp2_with fail
  refine HF.out.mono ?_
  rintro e w2 ⟨rfl, hB2⟩
  have hB3 : Below w.heap.size w w2 := HB.out.trans (hB2.mono HB.out.size)
  obtain ⟨b, off, rfl, hbl, hc0, hc1, hat⟩ := (HR.out.below hB3).get h1
  have HB3 := Lib.hid hB3
  have HA := Lib.hid hat
  clear hB2 hB3 HF HB HR hat
  generalize D[k] = x at *
  go_wp2
  go_ret
  exact ⟨x.a, x.c, by rw [HM.out]; rfl, by rw [HM.out]; exact HA.out.st, by rw [HM.out]; exact ⟨HA.out.le, HA.out.mx, HA.out.nil⟩, HB3.out⟩
end Go.Proofs.YtapacckmgmdnoaaGreat
namespace Go.Proofs.YtapacckmgmdnoaaGreat
open Go.RowKit Go.Sort Go.Proofs
set_option linter.unusedVariables false
set_option maxRecDepth 100000
set_option maxRecDepth 100000
theorem ltT (x y : StM) : ltOf cmpSt x y = decide (ltSt x y) := by
 unfold ltOf
 by_cases h1 : ltSt x y
 ·have : cmpSt x y < 0 := by unfold cmpSt; rw [if_pos h1]; decide
  simp [h1, this]
 ·have : ¬ cmpSt x y < 0 := by
   unfold cmpSt
   rw [if_neg h1]
   by_cases h2 : ltSt y x
   ·rw [if_pos h2]; decide
   ·rw [if_neg h2]; decide
  simp [h1, this]
theorem swoT : SWO (ltOf cmpSt) where
 irrefl x := by rw [ltT]; simp [ltSt_irrefl]
 trans x y z h1 h2 := by rw [ltT] at *; simp at *; exact ltSt_trans h1 h2
 ntrans x y z h1 h2 := by rw [ltT] at *; simp at *; exact leSt_trans h2 h1
theorem flat_sts (l : List StM) (t : Nat) (h : t < l.length * 4) : (sts l)[t]? = some ((flatK encT 4 l.toArray)[t]!) := by
 rw [get_flatK encT 4 l.toArray t (by simpa using h)]
 have hk : t / 4 < l.length := by omega
 have hd : (t = t / 4 * 4 ∧ t % 4 = 0) ∨ (t = t / 4 * 4 + 1 ∧ t % 4 = 1) ∨ (t = t / 4 * 4 + 2 ∧ t % 4 = 2) ∨ (t = t / 4 * 4 + 3 ∧ t % 4 = 3) := by omega
 obtain ⟨g1, g2, g3, g4⟩ := sts_get l (t / 4) hk
 have he : l.toArray[t / 4]! = l[t / 4] := by simp [hk]
 rw [he]
 rcases hd with ⟨h1, h2⟩ | ⟨h1, h2⟩ | ⟨h1, h2⟩ | ⟨h1, h2⟩
 ·rw [← h1] at g1
  rw [h2, g1]
  rfl
 ·rw [← h1] at g2
  rw [h2, g2]
  rfl
 ·rw [← h1] at g3
  rw [h2, g3]
  rfl
 ·rw [← h1] at g4
  rw [h2, g4]
  rfl
theorem heap_sortedT {w : World} {g n : Nat} {os : Array Obj} {cur : Array Value} {e : TypeId} {fr : Nat × Nat} (d : Array StM) (hb : w.heap[g]? = some (.cells cur e fr)) :
  (sortWorldK encT 4 w g 0 n d os).heap[g]? = some (.cells (putCells id 0 (flatK encT 4 d) cur) e fr) := by
 have hg : g < w.heap.size := (Array.getElem?_eq_some_iff.1 hb).1
 unfold sortWorldK putRowK
 rw [heap_grow_old _ _ (by simpa using hg)]
 simp [putRow, mapBlock, Sort.ahead, Array.getElem?_modify, hb, onCells]
theorem grownBy_sortedT {w : World} {g n : Nat} {os : Array Obj} (d : Array StM) : w.grownBy (sortWorldK encT 4 w g 0 n d os) (some g) := by
 unfold sortWorldK putRowK
 refine ⟨rfl, rfl, rfl, by simp, fun k hk hne => ?_⟩
 rw [heap_grow_old _ _ (by simpa using hk)]
 have : g ≠ k := fun e => hne (by rw [e])
 simp [putRow, mapBlock, Sort.ahead, Array.getElem?_modify, this]
theorem take_putT (cur : Array Value) (m : List StM) (h : m.length * 4 ≤ cur.size) : (putCells id 0 (flatK encT 4 m.toArray) cur).toList.take (m.length * 4) = sts m := by
 apply List.ext_getElem?
 intro j
 by_cases hj : j < m.length * 4
 ·rw [List.getElem?_take_of_lt hj, Array.getElem?_toList, flat_sts m j hj]
  simp [putCells, hj, show j < cur.size by omega]
 ·rw [List.getElem?_take_eq_none (by omega), List.getElem?_eq_none (by rw [sts_len]; omega)]
set_option maxHeartbeats 2000000 in
theorem sort8_any (B : Nat) (v : Value) (l : List StM) (w : World) (hB : B ≤ w.heap.size) (ho : w.ownsRow B 111 4 v l.length (sts l)) (hl : l.length ≤ 1000000) :
  Calls Tryz.prog 136 #[v, .func (.func 109) #[] #[]] w fun e w' => e = .returned (.tuple #[]) ∧ ∃ m : List StM, m.Perm l ∧ m.Pairwise (fun a b => ¬ ltSt b a) ∧ w'.ownsRow B 111 4 v m.length (sts m) ∧ Below B w w' := by
 cases hll : l with
 | nil =>
  subst hll
  obtain ⟨a, c, rfl, hc, _, _, _⟩ := own_st ho
  refine (AnyF.slices_SortFunc_none Tryz.laysSortSt a c _ w).mono ?_
  rintro e w' ⟨rfl, rfl⟩
  exact ⟨rfl, [], List.Perm.refl _, List.Pairwise.nil, ho, Below.refl _ _⟩
 | cons x l' =>
  rw [← hll]
  rcases ho.2 with ⟨_, h0⟩ | ⟨g, cap, cur, rfl, hg, hb, hn, hcm, hsz, ht⟩
  ·rw [hll] at h0; simp at h0
  have hH : HoldsK encT 4 w g 0 l.toArray := fun j hj => by
   have hj' : j < l.length * 4 := by simpa using hj
   rw [Nat.zero_add]
   exact ⟨by rw [ho.cellAt j hj', flat_sts l j hj']; rfl, ho.frozenAt j⟩
  have eg : ∀ args w, (callFunc 109 args).run Tryz.prog w = .ok (.enter 109 args) w := enters_of Tryz.func109 (by kernel_rfl) rfl
  have hcon := AnyQ.slices_SortFunc Tryz.laysSortSt 4 Tryz.isAgg111 Tryz.sizeOf111 encT (fun _ => rfl) (fun x v hv => by simp [encT] at hv; rcases hv with rfl | rfl | rfl | rfl <;> rfl) cmpSt swoT 109 #[] g 0 cap l.toArray w eg (fun _ _ _ _ x y => stcmp_any x y _) hH (Array.getElem?_eq_some_iff.1 hb).1 (by simp; omega)
  change Calls Tryz.prog 136 #[.slice (some ⟨g, 0, none⟩) l.length cap, _] _ _ at hcon
  refine hcon.mono ?_
  rintro e w' ⟨rfl, d', n, os, hp, hs, rfl⟩
  have hsize : d'.size = l.length := by simpa using hp.1
  have hml : d'.toList.length = l.length := by simpa using hsize
  have hpm : d'.toList.Perm l := by
   have h := hp.2.2
   simpa [Array.extract_eq_self_of_le, hsize] using h
  have hd : d'.toList.toArray = d' := by simp
  refine ⟨rfl, d'.toList, hpm, ?_, ?_, app_below (Below.refl _ _) hB ho (grownBy_sortedT d')⟩
  ·rw [List.pairwise_iff_getElem]
   intro i j hi hj hij
   have h := hs i j (Nat.zero_le _) hij (by simpa [hsize] using hj)
   rw [ltT] at h
   simp at hi hj
   simp [hi, hj] at h
   simpa using h
  ·rw [hml]
   refine ⟨by rw [sts_len, hml], .inr ⟨g, cap, _, rfl, hg, heap_sortedT d' hb, hn, hcm, by simp [putCells, hsz], ?_⟩⟩
   have := take_putT cur d'.toList (by rw [hml, hsz]; exact Nat.mul_le_mul_right _ hn)
   rw [hd, hml] at this
   exact this
end Go.Proofs.YtapacckmgmdnoaaGreat
namespace Go.Proofs.YtapacckmgmdnoaaGreat
open Go.RowKit
set_option linter.unusedVariables false
set_option maxRecDepth 100000
set_option maxRecDepth 100000
def evs (l : List EvM) : List Value := l.flatMap evc
theorem evc_len (e : EvM) : (evc e).length = 6 := rfl
theorem evs_cons (e : EvM) (l : List EvM) : evs (e :: l) = evc e ++ evs l := by simp [evs]
theorem evs_snoc (l : List EvM) (x : EvM) : evs (l ++ [x]) = evs l ++ [.int .i64 x.kind, .int .i64 x.at_, .string x.user, .string x.other, .int .i64 x.n, .int .i64 x.status] := by simp [evs, evc]
theorem evs_get (l : List EvM) : ∀ (k i : Nat) (h : k < l.length) (hi : i < 6), (evs l)[k * 6 + i]? = (evc l[k])[i]? := by
 induction l with
 | nil => intro k i h; exact absurd h (by simp)
 | cons x l ih =>
  intro k i h hi
  rw [evs_cons]
  cases k with
  | zero => rw [List.getElem?_append_left (by rw [evc_len]; omega)]; simp
  | succ k =>
   rw [List.getElem?_append_right (by rw [evc_len]; omega), evc_len, show (k + 1) * 6 + i - 6 = k * 6 + i by omega]
   exact ih k i (by simpa using h) hi
def EvSl (w : World) (a : Option Addr) (l : List EvM) : Prop := ∀ k (h : k < l.length), ∃ b off, a = some ⟨b, off, none⟩ ∧ b < w.heap.size ∧ ∀ i, i < 6 → w.cell? ⟨b, off + k * 6 + i, none⟩ = (evc l[k])[i]?
theorem EvSl.nil (w : World) (a : Option Addr) : EvSl w a [] := fun k h => absurd h (by simp)
theorem EvSl.below {w w' : World} {a : Option Addr} {l : List EvM} (h : EvSl w a l) (hb : Below w.heap.size w w') : EvSl w' a l := fun k hk => by
 obtain ⟨b, off, e, hlt, h0⟩ := h k hk
 exact ⟨b, off, e, Nat.lt_of_lt_of_le hlt hb.size, fun i hi => (hb.cell (p := ⟨b, off + k * 6 + i, none⟩) hlt).trans (h0 i hi)⟩
theorem EvSl.at_ {w : World} {a : Option Addr} {l : List EvM} (h : EvSl w a l) {k : Nat} (hk : k < l.length) : ∃ b off, a = some ⟨b, off, none⟩ ∧ b < w.heap.size ∧
  w.cell? ⟨b, off + k * 6, none⟩ = some (.int .i64 l[k].kind) ∧ w.cell? ⟨b, off + k * 6 + 1, none⟩ = some (.int .i64 l[k].at_) ∧ w.cell? ⟨b, off + k * 6 + 2, none⟩ = some (.string l[k].user) ∧
  w.cell? ⟨b, off + k * 6 + 3, none⟩ = some (.string l[k].other) ∧ w.cell? ⟨b, off + k * 6 + 4, none⟩ = some (.int .i64 l[k].n) ∧ w.cell? ⟨b, off + k * 6 + 5, none⟩ = some (.int .i64 l[k].status) := by
 obtain ⟨b, off, e, hlt, h0⟩ := h k hk
 exact ⟨b, off, e, hlt, h0 0 (by decide), h0 1 (by decide), h0 2 (by decide), h0 3 (by decide), h0 4 (by decide), h0 5 (by decide)⟩
theorem own_ev {w : World} {B e : Nat} {v : Value} {l : List EvM} (h : w.ownsRow B e 6 v l.length (evs l)) : ∃ a c, v = .slice a l.length c ∧ l.length ≤ c ∧ EvSl w a l := by
 rcases h.2 with ⟨rfl, hn⟩ | ⟨g, cap, cur, rfl, hg, hh, hn, hc, hsz, ht⟩
 ·have : l = [] := List.eq_nil_of_length_eq_zero hn
  subst this
  exact ⟨none, 0, rfl, Nat.le_refl _, EvSl.nil _ _⟩
 ·refine ⟨_, cap, rfl, hn, fun k hk => ⟨g, 0, rfl, ?_, fun i hi => ?_⟩⟩
  ·rcases Nat.lt_or_ge g w.heap.size with h1 | h1
   ·exact h1
   ·rw [Array.getElem?_eq_none h1] at hh; cases hh
  ·have hg := evs_get l k i hk hi
   rw [← ht, List.getElem?_take, if_pos (by omega), Array.getElem?_toList] at hg
   rw [cell_of_row w g _ cur e (0, 0) hh, Nat.zero_add, hg]
theorem six_cells (e : EvM) : ∀ u ∈ [Value.int .i64 e.kind, .int .i64 e.at_, .string e.user, .string e.other, .int .i64 e.n, .int .i64 e.status], u.oneCell' = true := by
 intro u hu
 simp only [List.mem_cons, List.mem_nil_iff, or_false] at hu
 rcases hu with rfl | rfl | rfl | rfl | rfl | rfl <;> rfl
def FitsV (l : List EvM) : Prop := ∀ e ∈ l, EFits e
theorem infoEvent : (Tryz.prog.info? 64).map (fun i => (i.zero, i.size, i.bytes)) = some (some (.agg #[.int .i64 0, .int .i64 0, .string ⟨#[]⟩, .string ⟨#[]⟩, .int .i64 0, .int .i64 0]), 6, 64) := by kernel_rfl
theorem evs_take (l : List EvM) (j : Nat) (h : j < l.length) : evs (l.take (j + 1)) = evs (l.take j) ++ [.int .i64 l[j].kind, .int .i64 l[j].at_, .string l[j].user, .string l[j].other, .int .i64 l[j].n, .int .i64 l[j].status] := by
 rw [List.take_succ_eq_append_getElem h]; exact evs_snoc _ _
set_option maxHeartbeats 2000000 in
theorem evnews_any (a : Option Addr) (c : Nat) (l : List EvM) (w : World) (hr : EvSl w a l) (hl : l.length ≤ 1000000) :
  Calls Tryz.prog 21 #[.slice a l.length c] w fun e w' => ∃ (v : Value), e = .returned v ∧ w'.ownsRow w.heap.size 64 6 v l.length (evs l) ∧ Below w.heap.size w w' := by
 obtain ⟨i0, hi, hz0, hz1, hz2⟩ := info_parts infoEvent
 have HR := Lib.hid hr
 clear hr
 go_enter Tryz.func21, Tryz.ntmps21
 go_wp2
 go_loopw [3, 8] (fun v i wr => ∃ (j : Nat), j ≤ l.length ∧ i = .int .i64 j ∧ Hid (wr.ownsRow w.heap.size 64 6 v j (evs (l.take j))) ∧ Hid (Below w.heap.size w wr)) (fun _ i _ => l.length - (intOf i).toNat)
 case atStart => exact ⟨0, by omega, rfl, ⟨rfl, .inl ⟨rfl, rfl⟩⟩, Below.refl _ _⟩
 case round =>
  obtain ⟨j, hj, rfl, HO, HB⟩ := hrel
  by_cases hjl : j < l.length
  ·obtain ⟨b, off, rfl, hbl, hc0, hc1, hc2, hc3, hc4, hc5⟩ := (HR.out.below HB.out).at_ hjl
   have HC := Lib.hid (evs_take l j hjl)
   generalize l[j] = x at *
   have HO2 := Lib.hid (own_below HO.out (below_two wr (.cells #[.int .i64 x.kind, .int .i64 x.at_, .string x.user, .string x.other, .int .i64 x.n, .int .i64 x.status] 47) (.cells #[.int .i64 x.kind, .int .i64 x.at_, .string x.user, .string x.other, .int .i64 x.n, .int .i64 x.status] 64)))
   have HB2 : Hid (Below w.heap.size w ((wr.alloc (.cells #[.int .i64 x.kind, .int .i64 x.at_, .string x.user, .string x.other, .int .i64 x.n, .int .i64 x.status] 47)).alloc (.cells #[.int .i64 x.kind, .int .i64 x.at_, .string x.user, .string x.other, .int .i64 x.n, .int .i64 x.status] 64))) := HB.out.trans ((below_two _ _ _).mono HB.out.size)
   have HS2 := Lib.hid HB2.out.size
   go_wp2_with (at_builtin; refine wpList_append_own _ rfl (.tmp 12) (.tmp 14) 32 rfl w.heap.size 64 i0 _ 6 64 Tryz.underlying32 hi hz0 hz1 hz2 rfl (by decide) _ _ _ rfl HO2.out ⟨wr.heap.size + 1, 0, none⟩ 1 1 [.int .i64 x.kind, .int .i64 x.at_, .string x.user, .string x.other, .int .i64 x.n, .int .i64 x.status] rfl rfl (news_at _ _ _ _ (size1 _ _).symm) (six_cells x) (by unfold maxLen; omega) (by omega) HS2.out ?_; intro v' w2 hown' hgrow hiff)
   have HB3 := Lib.hid (app_below HB2.out HS2.out HO2.out hgrow)
   have HO3 := Lib.hid hown'
   clear hown' hgrow hiff HB2 HS2 HO2
   go_wp2
   go_roundw
   case rel => exact ⟨j + 1, by omega, by go_num, (by unfold Hid; rw [HC.out]; exact HO3.out), HB3⟩
   case measure => simp [intOf]; omega
  ·obtain rfl : j = l.length := by omega
   rw [List.take_of_length_le (Nat.le_refl _)] at HO
   go_wp2
   go_ret
   exact ⟨_, rfl, HO.out, HB.out⟩
end Go.Proofs.YtapacckmgmdnoaaGreat
namespace Go.Proofs.YtapacckmgmdnoaaGreat
set_option linter.unusedVariables false
set_option maxRecDepth 100000
def an11 : ByteArray := ⟨#[97, 110, 110]⟩
def no11 : ByteArray := ⟨#[]⟩
def sA1 : SaM := ⟨3, 0, [⟨1, an11, 1, 3⟩], [], [], []⟩
theorem an_name : nameB an11 = true := by decide
theorem rv1 : RightV 1 3 1 1 an11 no11 := ⟨by decide, by decide, .inl ⟨.inl rfl, by decide, by decide, an_name, rfl, by decide, by decide⟩⟩
theorem aE1 : errS saZ 1 3 1 1 an11 no11 = 0 := by unfold errS; rw [if_pos rv1, if_neg (by decide)]; rfl
theorem aT1 : tellS saZ 1 3 1 1 an11 no11 = sA1 := by unfold tellS; rw [aE1, if_pos rfl]; rfl
theorem aF : findC [⟨1, an11, 1, 3⟩] 1 an11 = 0 ∧ findE [⟨1, an11, 1, 3⟩] 1 an11 = ⟨1, an11, 1, 3⟩ ∧ findP [⟨1, an11, 1, 3⟩] 1 an11 = 0 := fc_hit (l := [⟨1, an11, 1, 3⟩]) (n := 1) (k := 0) ⟨by decide, fun i hi h => absurd h (by omega), fun _ => rfl⟩ (by decide) rfl
end Go.Proofs.YtapacckmgmdnoaaGreat
namespace Go.Proofs.YtapacckmgmdnoaaGreat
open Go.RowKit Go.Proofs
set_option linter.unusedVariables false
set_option maxRecDepth 100000
set_option maxRecDepth 100000
def v4 (a b c d : Int) (i : Nat) : Int := if i = 0 then a else if i = 1 then b else if i = 2 then c else d
end Go.Proofs.YtapacckmgmdnoaaGreat
