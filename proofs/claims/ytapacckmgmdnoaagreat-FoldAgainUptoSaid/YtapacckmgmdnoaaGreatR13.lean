/- Texts of mine, one behind the other, of each what is wanted. -/
import Derived.Test.YtapacckmgmdnoaaGreatR00
import Derived.Test.YtapacckmgmdnoaaGreatShelf
import Derived.Test.YtapacckmgmdnoaaGreatR01
import Derived.Test.YtapacckmgmdnoaaGreatR03
import Derived.Test.YtapacckmgmdnoaaGreatR04
import Derived.Test.YtapacckmgmdnoaaGreatR07
import Derived.Test.YtapacckmgmdnoaaGreatR08
import Derived.Test.YtapacckmgmdnoaaGreatR10
import Derived.Test.YtapacckmgmdnoaaGreatR12
namespace Go.Proofs.YtapacckmgmdnoaaGreat
open Go.RowKit Go.Proofs
set_option linter.unusedVariables false
set_option maxRecDepth 100000
set_option maxRecDepth 100000
theorem egrow_any (n : Nat) (w : World) (hn : n ≤ 1000000) : Calls Tryz.prog 259 #[.slice none 0 0, .int .i64 n] w fun e w' => ∃ v, e = .returned v ∧ w'.ownsRow w.heap.size 165 4 v 0 [] ∧ Below w.heap.size w w' := by
 obtain ⟨i0, hi, hz0, hz1, hz2⟩ := info_parts infoEn
 rcases Nat.eq_zero_or_pos n with h0 | h0
 ·subst h0
  have h := Any8.slices_Grow_room Tryz.laysGrowEn none 0 0 0 w (by omega) (by omega) (by omega) (by omega)
  refine Calls.mono h ?_
  rintro e w' ⟨rfl, rfl⟩
  exact ⟨_, rfl, ⟨rfl, .inl ⟨rfl, rfl⟩⟩, Below.refl _ _⟩
 ·have h := Any8.slices_Grow_grow Tryz.laysGrowEn i0 _ hi hz0 (by rw [hz1]; omega) none 0 0 n [] w (by omega) (by omega) (by rw [hz2]; omega) (by omega) (by simp) (fun _ => rfl) (fun a h => by cases h)
  refine Calls.mono h ?_
  rintro e w' ⟨rfl, rfl⟩
  have hge := grownCap_ge w (0 + n) 0 165
  have hle := grownCap_le_maxLen w (0 + n) 0 165 (by unfold maxLen; omega)
  refine ⟨_, rfl, ⟨rfl, .inr ⟨w.heap.size, _, _, rfl, Nat.le_refl _, heap_alloc_new w.drew _, Nat.zero_le _, hle, ?_, by simp⟩⟩, ?_⟩
  ·simp only [Array.size_append, size_zeroCells]
   show 0 + (0 + n - 0) * 4 + (grownCap w (0 + n) 0 165 - (0 + n)) * 4 = grownCap w (0 + n) 0 165 * 4
   omega
  ·exact (Below.refl w.heap.size w).drew.alloc (Nat.le_refl _) _
structure EnR where
 a : Option Addr
 l : List EnM
 c : Nat
def enrV (r : EnR) : Value := .slice r.a r.l.length r.c
def catE (R : List EnR) : List EnM := R.flatMap (·.l)
theorem catE_take (R : List EnR) (j : Nat) (h : j < R.length) : catE (R.take (j + 1)) = catE (R.take j) ++ R[j].l := by
 unfold catE
 rw [List.take_succ_eq_append_getElem h, List.flatMap_append]
 simp
theorem catE_le (R : List EnR) (j : Nat) : (catE (R.take j)).length ≤ (catE R).length := by
 have : catE R = catE (R.take j) ++ catE (R.drop j) := by
  unfold catE
  rw [← List.flatMap_append, List.take_append_drop]
 rw [this, List.length_append]
 omega
def EnRAt (w : World) (r : EnR) : Prop := EnSl w r.a r.l ∧ (r.a = none → r.c = 0)
theorem erows_at {w : World} {a : Option Addr} {R : List EnR} (h : Sl w a (R.map enrV)) {k : Nat} (hk : k < R.length) : ∃ b off, a = some ⟨b, off, none⟩ ∧ b < w.heap.size ∧ w.cell? ⟨b, off + k, none⟩ = some (enrV R[k]) := by
 obtain ⟨b, off, e, hlt, hc⟩ := h k (by simpa using hk)
 exact ⟨b, off, e, hlt, by rw [hc]; simp⟩
set_option maxHeartbeats 1000000 in
theorem econcat_any (a : Option Addr) (c : Nat) (R : List EnR) (w : World) (hr : Sl w a (R.map enrV)) (hR : ∀ r ∈ R, EnRAt w r) (hl : R.length ≤ 100000) (hs : (catE R).length ≤ 100000) :
  Calls Tryz.prog 233 #[.slice a R.length c] w fun e w' => ∃ v, e = .returned v ∧ w'.ownsRow w.heap.size 165 4 v (catE R).length (ens (catE R)) ∧ Below w.heap.size w w' := by
 obtain ⟨i0, hi, hz0, hz1, hz2⟩ := info_parts infoEn
 have HR := Lib.hid hr
 have HRR := Lib.hid hR
 have HG := Lib.hid (egrow_any (catE R).length w (by omega))
 clear hr hR
 go_enter Tryz.func233, Tryz.ntmps233
 go_wp2
 go_loopw [3, 11] (fun v i wr => ∃ (j s : Nat), j ≤ R.length ∧ i = .int .i64 j ∧ v = .int .i64 s ∧ s ≤ 100000 ∧ Hid (s = (catE (R.take j)).length) ∧ wr = w) (fun _ i _ => R.length - (intOf i).toNat)
 case atStart => exact ⟨0, 0, by omega, rfl, rfl, by omega, rfl, rfl⟩
 case round =>
  obtain ⟨j, s, hj, rfl, rfl, hs1, HS, hw⟩ := hrel
  obtain rfl : w = wr := hw.symm
  clear hw
  by_cases hjl : j < R.length
  ·obtain ⟨b, off, rfl, hbl, hc0⟩ := erows_at HR.out hjl
   have HN := Lib.hid (catE_take R j hjl)
   have hle := catE_le R (j + 1)
   rw [HN.out, List.length_append, ← HS.out] at hle
   generalize R[j] = x at *
   unfold enrV at hc0
   obtain ⟨xa, xl, xc⟩ := x
   simp only at hc0 hle HN
   have hsum : s + xl.length ≤ 100000 := by omega
   clear hle
   go_wp2
   go_roundw
   case rel => exact ⟨j + 1, s + xl.length, by omega, by go_num, by go_num, hsum, (by unfold Hid; rw [HN.out, List.length_append, ← HS.out]), (by first | rfl | trivial)⟩
   case measure => simp [intOf]; omega
  ·obtain rfl : j = R.length := by omega
   rw [List.take_of_length_le (Nat.le_refl _)] at HS
   have HS2 := HS.out
   subst HS2
   go_wp2_with fail
   refine HG.out.mono ?_
   rintro e w1 ⟨v, rfl, ho, hb⟩
   have HO := Lib.hid ho
   have HB := Lib.hid hb
   clear ho hb HG HS
   go_wp2
   go_loopw [6, 27] (fun v i wx => ∃ (j : Nat), j ≤ R.length ∧ i = .int .i64 j ∧ Hid (wx.ownsRow w.heap.size 165 4 v (catE (R.take j)).length (ens (catE (R.take j)))) ∧ Hid (Below w.heap.size w wx)) (fun _ i _ => R.length - (intOf i).toNat)
   case atStart => exact ⟨0, by omega, rfl, HO.out, HB.out⟩
   case round =>
    obtain ⟨j, hj, rfl, HO, HB⟩ := hrel
    by_cases hjl : j < R.length
    ·obtain ⟨b, off, rfl, hbl, hc0⟩ := erows_at (HR.out.below HB.out) hjl
     have HN := Lib.hid (catE_take R j hjl)
     have hle := catE_le R (j + 1)
     have hle2 := catE_le R j
     rw [HN.out, List.length_append] at hle
     have HX := Lib.hid (HRR.out _ (List.getElem_mem hjl))
     generalize R[j] = x at *
     unfold enrV at hc0
     obtain ⟨xa, xl, xc⟩ := x
     simp only at hc0 hle HN
     obtain ⟨hx1, hx2⟩ := HX.out
     simp only at hx1 hx2
     have HX1 := Lib.hid (hx1.below HB.out)
     have HX2 := Lib.hid hx2
     generalize hct : catE (R.take j) = ct at *
     have hsum : ct.length + xl.length ≤ 1000000 := by omega
     clear hle hle2 hx1 hx2 HX hct
     go_wp2_with (at_builtin; refine wpList_append_en _ rfl (.tmp 31) (.tmp 32) 36 rfl w.heap.size 165 i0 _ Tryz.underlying36 hi hz0 hz1 hz2 rfl _ ct rfl HO.out xa xc xl rfl HX1.out HX2.out hsum HB.out.size ?_; intro v2 w2 hown2 hB2)
     have HO2 := Lib.hid hown2
     have HB2 := Lib.hid (HB.out.trans hB2)
     clear hown2 hB2
     go_wp2
     go_roundw
     case rel => exact ⟨j + 1, by omega, by go_num, (by unfold Hid; rw [HN.out]; exact HO2.out), HB2⟩
     case measure => simp [intOf]; omega
    ·obtain rfl : j = R.length := by omega
     rw [List.take_of_length_le (Nat.le_refl _)] at HO
     go_wp2
     go_ret
     exact ⟨_, rfl, HO.out, HB.out⟩
end Go.Proofs.YtapacckmgmdnoaaGreat
namespace Go.Proofs.YtapacckmgmdnoaaGreat
open Go.RowKit Go.Sort Go.Proofs
set_option linter.unusedVariables false
set_option maxRecDepth 100000
set_option maxRecDepth 100000
theorem cmpSt_le (a b : StM) : cmpSt a b ≤ 0 ↔ ¬ ltSt b a := by
 unfold cmpSt
 by_cases h : ltSt a b
 ·rw [if_pos h]; exact ⟨fun _ => ltSt_asymm h, fun _ => by omega⟩
 ·rw [if_neg h]
  by_cases k : ltSt b a
  ·rw [if_pos k]; exact ⟨fun h => by omega, fun h => absurd k h⟩
  ·rw [if_neg k]; exact ⟨fun _ => k, fun _ => by omega⟩
theorem cmpSt_gt (a b : StM) : 0 < cmpSt a b ↔ ltSt b a := by
 have := cmpSt_le a b
 constructor
 ·intro h
  by_cases k : ltSt b a
  ·exact k
  ·have := this.2 k; omega
 ·intro h
  by_cases k : cmpSt a b ≤ 0
  ·exact absurd h (this.1 k)
  ·omega
structure RsK (w : World) (g : Nat) (x : StM) (a : Option Addr) (l : List StM) (W : World) : Prop where
 box : W.heap[g]? = some (.cells #[.int .i64 x.f, .int .i64 x.t, .int .i64 x.n, .int .i64 x.s] 111 (0, 0))
 row : StSl W a l
 frame : Below w.heap.size w W
theorem RsK.below {w W W' : World} {g : Nat} {x : StM} {a : Option Addr} {l : List StM} (h : RsK w g x a l W) (q : Below W.heap.size W W') : RsK w g x a l W' :=
 ⟨(q.block _ (heap_lt h.box)).trans h.box, h.row.below q, h.frame.trans (q.mono h.frame.size)⟩
theorem RsK.four {w W : World} {g : Nat} {x : StM} {a : Option Addr} {l : List StM} (h : RsK w g x a l W) :
  W.cell? ⟨g, 0, none⟩ = some (.int .i64 x.f) ∧ W.cell? ⟨g, 1, none⟩ = some (.int .i64 x.t) ∧ W.cell? ⟨g, 2, none⟩ = some (.int .i64 x.n) ∧ W.cell? ⟨g, 3, none⟩ = some (.int .i64 x.s) := cells4 h.box
theorem RsK.at_ {w W : World} {g : Nat} {x : StM} {b off : Nat} {l : List StM} (h : RsK w g x (some ⟨b, off, none⟩) l W) {k : Nat} (hk : k < l.length) :
  W.cell? ⟨b, off + k * 4, none⟩ = some (.int .i64 l[k].f) ∧ W.cell? ⟨b, off + k * 4 + 1, none⟩ = some (.int .i64 l[k].t) ∧ W.cell? ⟨b, off + k * 4 + 2, none⟩ = some (.int .i64 l[k].n) ∧ W.cell? ⟨b, off + k * 4 + 3, none⟩ = some (.int .i64 l[k].s) := by
 obtain ⟨_, _, e, _, h0, h1, h2, h3⟩ := h.row.at_ hk
 cases e
 exact ⟨h0, h1, h2, h3⟩
theorem RsK.new {w W : World} {x : StM} {a : Option Addr} {l : List StM} (h : StSl W a l) (hb : Below w.heap.size w W) : RsK w W.heap.size x a l (W.alloc (.cells #[.int .i64 x.f, .int .i64 x.t, .int .i64 x.n, .int .i64 x.s] 111)) :=
 ⟨heap_alloc_new W _, h.below (below_one _ _), hb.alloc hb.size _⟩
end Go.Proofs.YtapacckmgmdnoaaGreat
namespace Go.Proofs.YtapacckmgmdnoaaGreat
open Go.RowKit Go.Proofs
set_option linter.unusedVariables false
set_option maxRecDepth 100000
set_option maxRecDepth 100000
theorem oes_split (l : List OpM) (k : Nat) (h : k < l.length) : oes l = oes (l.take k) ++ (encO l[k] ++ oes (l.drop (k + 1))) := by
 rw [← oes_cons, ← oes_append, ← List.drop_eq_getElem_cons h, List.take_append_drop]
theorem oes_set2 (l : List OpM) (k : Nat) (h : k < l.length) (s f : Int) : ((oes l).set (k * 4 + 2) (.int .i64 s)).set (k * 4 + 3) (.int .i64 f) = oes (chgAt l k s f) := by
 have hk : (oes (l.take k)).length = k * 4 := by rw [oes_len, List.length_take]; omega
 rw [chgAt_at h, oes_split l k h, oes_append, oes_cons]
 rw [List.set_append_right _ _ (by omega), List.set_append_right _ _ (by omega), hk]
 have e1 : k * 4 + 2 - k * 4 = 2 := by omega
 have e2 : k * 4 + 3 - k * 4 = 3 := by omega
 rw [e1, e2]
 rfl
theorem own_opat {w : World} {B e n g cap : Nat} {m : List OpM} (h : w.ownsRow B e 4 (.slice (some ⟨g, 0, none⟩) n cap) m.length (oes m)) : n = m.length ∧ m.length ≤ cap ∧ cap ≤ maxLen ∧ OpSl w (some ⟨g, 0, none⟩) m := by
 obtain ⟨a, c, h1, h2, h3, h4, _⟩ := own_op h
 injection h1 with h1 h5 h6
 subst h1 h5 h6
 exact ⟨rfl, h2, h3, h4⟩
theorem GotO.at_ {w w' : World} {m : List OpM} {n cap gr : Nat} (hn : n = m.length) (h2 : m.length ≤ cap) (h3 : cap ≤ maxLen) (h4 : OpSl w' (some ⟨gr, 0, none⟩) m) (hb : Below w.heap.size w w') : GotO w w' m (.slice (some ⟨gr, 0, none⟩) n cap) := by
 subst hn
 exact ⟨_, _, rfl, h2, h3, (fun h => by cases h), h4, hb⟩
theorem own_opcell {w : World} {B e n g cap : Nat} {m : List OpM} (h : w.ownsRow B e 4 (.slice (some ⟨g, 0, none⟩) n cap) m.length (oes m)) {k : Nat} (hk : k < m.length) :
  (w.cell? ⟨g, k * 4, none⟩ = some (.int .i64 m[k].n) ∧ w.cell? ⟨g, k * 4 + 1, none⟩ = some (.string m[k].u) ∧ w.cell? ⟨g, k * 4 + 2, none⟩ = some (.int .i64 m[k].s) ∧ w.cell? ⟨g, k * 4 + 3, none⟩ = some (.int .i64 m[k].f)) ∧ (∀ j, w.frozen? ⟨g, j, none⟩ = false) := by
 obtain ⟨rfl, -, -, h4⟩ := own_opat h
 obtain ⟨b, off, e1, _, h0, h1, h2, h3⟩ := h4.at_ hk
 cases e1
 rw [Nat.zero_add] at h0 h1 h2 h3
 exact ⟨⟨h0, h1, h2, h3⟩, fun j => h.frozenAt j⟩
theorem cell_next {w : World} {g i j : Nat} {v x : Value} (h : w.cell? ⟨g, j, none⟩ = some x) (hij : ¬ i = j) : (w.setCell ⟨g, i, none⟩ v).cell? ⟨g, j, none⟩ = some x :=
 (World.cell?_setCell_other w _ _ _ (fun e => hij (by injection e))).trans h
set_option maxHeartbeats 1000000 in
theorem oclone_any (a : Option Addr) (c : Nat) (l : List OpM) (w : World) (hr : OpSl w a l) (h0 : 0 < l.length) (hl : l.length ≤ 100000) :
  Calls Tryz.prog 140 #[.slice a l.length c] w fun e w' => ∃ g cap, e = .returned (.slice (some ⟨g, 0, none⟩) l.length cap) ∧ w.heap.size ≤ g ∧ w'.ownsRow w.heap.size 184 4 (.slice (some ⟨g, 0, none⟩) l.length cap) l.length (oes l) ∧ Below w.heap.size w w' := by
 obtain ⟨i0, hi, hz0, hz1, hz2⟩ := info_parts infoOp
 have q22 : ∀ (W : World) (a : Option Addr) (n c n' c' : Nat), (binOp .eql 34 (.slice a n c) (.slice none n' c')).run Tryz.prog W = .ok (.bool a.isNone) W := fun W a n c n' c' => Lib.run_eql_slice_nil W _ _ a n c n' c' Tryz.underlying34
 obtain ⟨b, off, rfl, -, -, -, -, -⟩ := hr.at_ h0
 have HO := Lib.hid (own_emptyO w 184 4 w.heap.size (Nat.le_refl _))
 have HB := Lib.hid (below_one w (.cells #[] 184))
 have HX1 := Lib.hid (hr.below HB.out)
 clear hr
 go_enter Tryz.func140, Tryz.ntmps140
 go_wp2_with (at_builtin; refine wpList_append_op _ rfl (.tmp 5) (.tmp 6) 34 rfl w.heap.size 184 i0 _ Tryz.underlying34 hi hz0 hz1 hz2 rfl _ [] rfl HO.out (some ⟨b, off, none⟩) c l rfl HX1.out (fun h => by cases h) (by simpa using (show l.length ≤ 1000000 by omega)) HB.out.size ?_; intro v2 w2 hown2 hB2)
 have HO2 := Lib.hid hown2
 have HB2 := Lib.hid (HB.out.trans hB2)
 clear hown2 hB2
 go_wp2
 go_ret
 have ho := HO2.out
 rw [List.nil_append] at ho
 rcases ho.2 with ⟨rfl, hn⟩ | ⟨g, cap, cur, rfl, hg, _⟩
 ·omega
 ·exact ⟨g, cap, rfl, hg, ho, HB2.out⟩
set_option maxHeartbeats 4000000 in
theorem change_more (a : Option Addr) (c : Nat) (l : List OpM) (n : Int) (u : ByteArray) (s t : Int) (w : World) (hr : OpSl w a l) (hl : l.length ≤ 500) (hc : l.length ≤ c) (hcm : c ≤ maxLen) :
  Calls Tryz.prog 193 #[.slice a l.length c, .int .i64 n, .string u, .int .i64 s, .int .i64 t] w fun e w' => ∃ v, e = .returned (.tuple #[v, stV (fndS l n u t), .int .i64 (findC l n u)]) ∧ GotN w w' (chgR l n u s t) v := by
 have HF := Lib.hid (fun W (h : OpSl W a l) => find_any a c l n u W h (by omega))
 have HZ := Lib.hid (Zb.new w (.int .i64 0) (.int .i64 0) (.int .i64 0) (.int .i64 0) 111)
 have HR := Lib.hid hr
 have hCR : chgR l n u s t = if findC l n u = 0 then chgAt l (findP l n u) s t else [] := rfl
 have hFS : fndS l n u t = if findC l n u = 0 then stayO (findE l n u) t else stZ := rfl
 unfold maxLen at hcm
 clear hr
 rcases fc_three l n u with ⟨hc0, k, hk, -, -, -, he, hp⟩ | ⟨hc0, he, hp⟩
 ·rw [hc0, hp] at HF
  rw [hc0, if_pos rfl, hp] at hCR
  rw [hc0, if_pos rfl, he] at hFS
  rw [hc0, hCR, hFS]
  have HCL := Lib.hid (fun W (h : OpSl W a l) => oclone_any a c l W h (by omega) (by omega))
  have HST := Lib.hid (fun W => stay_any l[k] t W)
  unfold opV stV stayO at HST
  unfold stV stayO
  dsimp only at *
  have d1 : ((0 : Int) != 0) = false := rfl
  clear hCR hFS hc0 he hp
  go_enter Tryz.func193, Tryz.ntmps193
  go_wp2_with fail
  refine (HF.out _ (HR.out.below HZ.out.frame)).mono ?_
  rintro e w1 ⟨rfl, hB⟩
  have K1 := Lib.hid (HZ.out.below hB)
  clear hB HF HZ
  go_wp2_with fail
  refine (HCL.out _ (HR.out.below K1.out.frame)).mono ?_
  rintro e w2 ⟨gr, cap, rfl, hge, ho, hB⟩
  obtain ⟨⟨-, -, o2, o3⟩, of⟩ := own_opcell ho hk
  have f2 := of (k * 4 + 2)
  have f3 := of (k * 4 + 3)
  have q3 : (w2.setCell ⟨gr, k * 4 + 2, none⟩ (.int .i64 s)).cell? ⟨gr, k * 4 + 3, none⟩ = some (.int .i64 l[k].f) := cell_next o3 (by omega)
  have HB3 := Lib.hid ((hB.setCell (p := ⟨gr, k * 4 + 2, none⟩) hge (.int .i64 s)).setCell (p := ⟨gr, k * 4 + 3, none⟩) hge (.int .i64 t))
  have HO3 := Lib.hid ((ho.stored (k * 4 + 2) (.int .i64 s)).1.stored (k * 4 + 3) (.int .i64 t)).1
  rw [oes_set2 l k hk] at HO3
  have K3 := Lib.hid (K1.out.below HB3.out)
  obtain ⟨b, off, rfl, hbl, hc0, hc1, hc2, hc3⟩ := (HR.out.below K3.out.frame).at_ hk
  have hgrl : gr < w2.heap.size := (ho.lt gr rfl).2
  have HGE := Lib.hid hge
  have HLT := Lib.hid K1.out.lt
  have hcap : l.length ≤ cap := (own_opat ho).2.1
  have hcap2 : cap ≤ maxLen := (own_opat ho).2.2.1
  have HCAP := Lib.hid hcap2
  clear of ho hB HCL hge hcap2
  go_wp2_with fail
  refine (HST.out _).mono ?_
  rintro e w4 ⟨rfl, hB4⟩
  have K4 := K3.out.below hB4
  obtain ⟨z0, z1, z2, z3⟩ := K4.cells
  obtain ⟨y0, y1, y2, y3⟩ := K4.free
  have HL := Lib.hid (K4.loadS (.int .i64 l[k].f) (.int .i64 t) (.int .i64 l[k].n) (.int .i64 l[k].s))
  have HS := Lib.hid (K4.set (.int .i64 l[k].f) (.int .i64 t) (.int .i64 l[k].n) (.int .i64 l[k].s))
  have hlen := chgAt_len l k s t
  have HO3' : Hid (((w2.setCell ⟨gr, k * 4 + 2, none⟩ (.int .i64 s)).setCell ⟨gr, k * 4 + 3, none⟩ (.int .i64 t)).ownsRow w1.heap.size 184 4 (.slice (some ⟨gr, 0, none⟩) l.length cap) (chgAt l k s t).length (oes (chgAt l k s t))) := by
   unfold Hid
   rw [hlen]
   exact HO3.out
  have HSL := Lib.hid ((own_opat (own_below HO3'.out hB4)).2.2.2.setO w.heap.size (.int .i64 l[k].f) (.int .i64 t) (.int .i64 l[k].n) (.int .i64 l[k].s) (fun b o e => by cases e; have h1 := HGE.out; have h2 := HLT.out; omega))
  have HLEN := Lib.hid hlen
  unfold setO at HL HS HSL
  clear HO3 HO3' hB4 K4 HST hlen HB3 K3 HR hc0 hc1 hc2 hc3 q3 o2 o3 f2 f3
  go_wp2
  refine bodyPost_ret (v := .tuple #[.slice (some ⟨gr, 0, none⟩) l.length cap, .agg #[.int .i64 l[k].f, .int .i64 t, .int .i64 l[k].n, .int .i64 l[k].s], .int .i64 0]) ?_ rfl ⟨_, rfl, GotO.at_ HLEN.out.symm (by rw [HLEN.out]; exact hcap) HCAP.out HSL.out HS.out, fun b o q n e => by cases e; have h1 := HGE.out; have h2 := HLT.out; omega⟩
  rw [results_tmp_cell_tmp rfl]
  simp [asAddr, Result.andThen, HL.out]
 ·rw [hp] at HF
  have hne : ¬ findC l n u = 0 := by rcases hc0 with h | h <;> rw [h] <;> decide
  rw [if_neg hne] at hCR hFS
  rw [hCR, hFS]
  have d1 : (findC l n u != 0) = true := by rcases hc0 with h | h <;> rw [h] <;> rfl
  generalize findC l n u = C at *
  unfold stV stZ
  dsimp only
  clear hCR hFS hc0 he hp hne
  go_enter Tryz.func193, Tryz.ntmps193
  go_wp2_with fail
  refine (HF.out _ (HR.out.below HZ.out.frame)).mono ?_
  rintro e w1 ⟨rfl, hB⟩
  have K1 := HZ.out.below hB
  have HL := Lib.hid (K1.loadS (.int .i64 0) (.int .i64 0) (.int .i64 0) (.int .i64 0))
  have HS := Lib.hid (K1.set (.int .i64 0) (.int .i64 0) (.int .i64 0) (.int .i64 0))
  obtain ⟨z0, z1, z2, z3⟩ := K1.cells
  obtain ⟨f0, f1, f2, f3⟩ := K1.free
  have hgl := K1.lt
  unfold setO at HL HS
  clear HF hB K1
  go_wp2
  refine bodyPost_ret (v := .tuple #[.slice none 0 0, .agg #[.int .i64 0, .int .i64 0, .int .i64 0, .int .i64 0], .int .i64 C]) ?_ rfl ⟨_, rfl, GotO.nil HS.out, fun b o q n e => by cases e⟩
  rw [results_tmp_cell_tmp rfl]
  simp [asAddr, Result.andThen, HL.out]
theorem change_any (a : Option Addr) (c : Nat) (l : List OpM) (n : Int) (u : ByteArray) (s t : Int) (w : World) (hr : OpSl w a l) (hl : l.length ≤ 500) (hc : l.length ≤ c) (hcm : c ≤ maxLen) :
  Calls Tryz.prog 193 #[.slice a l.length c, .int .i64 n, .string u, .int .i64 s, .int .i64 t] w fun e w' => ∃ v, e = .returned (.tuple #[v, stV (fndS l n u t), .int .i64 (findC l n u)]) ∧ GotO w w' (chgR l n u s t) v :=
 (change_more a c l n u s t w hr hl hc hcm).mono fun e w' ⟨v, h1, h2⟩ => ⟨v, h1, h2.1⟩
end Go.Proofs.YtapacckmgmdnoaaGreat
namespace Go.Proofs.YtapacckmgmdnoaaGreat
open Go.RowKit
set_option linter.unusedVariables false
set_option maxRecDepth 100000
set_option maxRecDepth 100000
structure PK (w : World) (g : Nat) (p u : ByteArray) (a : Option Addr) (l : List EnM) (W : World) : Prop where
 pc : PcAt W g p u
 row : EnSl W a l
 frame : Below w.heap.size w W
theorem PK.below {w W W' : World} {g : Nat} {p u : ByteArray} {a : Option Addr} {l : List EnM} (h : PK w g p u a l W) (q : Below W.heap.size W W') : PK w g p u a l W' :=
 ⟨h.pc.below q, h.row.below q, h.frame.trans (q.mono h.frame.size)⟩
theorem PK.new {w : World} {a : Option Addr} {l : List EnM} (h : EnSl w a l) (p u : ByteArray) (t : TypeId) : PK w w.heap.size p u a l (w.alloc (.cells #[.string p, .string u] t)) :=
 ⟨PcAt.new _ _ _ _, h.below (ebelow_one _ _), ebelow_one _ _⟩
end Go.Proofs.YtapacckmgmdnoaaGreat
