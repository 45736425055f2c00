/- Texts of mine, one behind the other, of each what is wanted. -/
import Derived.Test.YtmfpjapiijgdgaaGreatQ00
import Derived.Test.YtmfpjapiijgdgaaGreatShelf
import Derived.Test.YtmfpjapiijgdgaaGreatQ01
import Derived.Test.YtmfpjapiijgdgaaGreatQ05
import Derived.Test.YtmfpjapiijgdgaaGreatQ06
import Derived.Test.YtmfpjapiijgdgaaGreatQ12
import Derived.Test.YtmfpjapiijgdgaaGreatQ13
namespace Go.Proofs.YtmfpjapiijgdgaaGreat
open Go.RowKit Go.Proofs
set_option linter.unusedVariables false
set_option maxRecDepth 100000
set_option maxRecDepth 100000
theorem egrow_any (n : Nat) (w : World) (hn : n ≤ 1000000) : Calls Tryz.prog 259 #[.slice none 0 0, .int .i64 n] w fun e w' => ∃ v, e = .returned v ∧ w'.ownsRow w.heap.size 165 4 v 0 [] ∧ Below w.heap.size w w' := by
 obtain ⟨i0, hi, hz0, hz1, hz2⟩ := info_parts infoEn
 rcases Nat.eq_zero_or_pos n with h0 | h0
 ·subst h0
  have h := Any8.slices_Grow_room Tryz.laysGrowEn none 0 0 0 w (by omega) (by omega) (by omega) (by omega)
  refine Calls.mono h ?_
  rintro e w' ⟨rfl, rfl⟩
  exact ⟨_, rfl, ⟨rfl, .inl ⟨rfl, rfl⟩⟩, Below.refl _ _⟩
 ·have h := Any8.slices_Grow_grow Tryz.laysGrowEn i0 _ hi hz0 (by rw [hz1]; omega) none 0 0 n [] w (by omega) (by omega) (by rw [hz2]; omega) (by omega) (by simp) (fun _ => rfl) (fun a h => by cases h)
  refine Calls.mono h ?_
  rintro e w' ⟨rfl, rfl⟩
  have hge := grownCap_ge w (0 + n) 0 165
  have hle := grownCap_le_maxLen w (0 + n) 0 165 (by unfold maxLen; omega)
  refine ⟨_, rfl, ⟨rfl, .inr ⟨w.heap.size, _, _, rfl, Nat.le_refl _, heap_alloc_new w.drew _, Nat.zero_le _, hle, ?_, by simp⟩⟩, ?_⟩
  ·simp only [Array.size_append, size_zeroCells]
   show 0 + (0 + n - 0) * 4 + (grownCap w (0 + n) 0 165 - (0 + n)) * 4 = grownCap w (0 + n) 0 165 * 4
   omega
  ·exact (Below.refl w.heap.size w).drew.alloc (Nat.le_refl _) _
structure EnR where
 a : Option Addr
 l : List EnM
 c : Nat
def enrV (r : EnR) : Value := .slice r.a r.l.length r.c
def catE (R : List EnR) : List EnM := R.flatMap (·.l)
theorem catE_take (R : List EnR) (j : Nat) (h : j < R.length) : catE (R.take (j + 1)) = catE (R.take j) ++ R[j].l := by
 unfold catE
 rw [List.take_succ_eq_append_getElem h, List.flatMap_append]
 simp
theorem catE_le (R : List EnR) (j : Nat) : (catE (R.take j)).length ≤ (catE R).length := by
 have : catE R = catE (R.take j) ++ catE (R.drop j) := by
  unfold catE
  rw [← List.flatMap_append, List.take_append_drop]
 rw [this, List.length_append]
 omega
def EnRAt (w : World) (r : EnR) : Prop := EnSl w r.a r.l ∧ (r.a = none → r.c = 0)
theorem erows_at {w : World} {a : Option Addr} {R : List EnR} (h : Sl w a (R.map enrV)) {k : Nat} (hk : k < R.length) : ∃ b off, a = some ⟨b, off, none⟩ ∧ b < w.heap.size ∧ w.cell? ⟨b, off + k, none⟩ = some (enrV R[k]) := by
 obtain ⟨b, off, e, hlt, hc⟩ := h k (by simpa using hk)
 exact ⟨b, off, e, hlt, by rw [hc]; simp⟩
set_option maxHeartbeats 1000000 in
theorem econcat_any (a : Option Addr) (c : Nat) (R : List EnR) (w : World) (hr : Sl w a (R.map enrV)) (hR : ∀ r ∈ R, EnRAt w r) (hl : R.length ≤ 100000) (hs : (catE R).length ≤ 100000) :
  Calls Tryz.prog 233 #[.slice a R.length c] w fun e w' => ∃ v, e = .returned v ∧ w'.ownsRow w.heap.size 165 4 v (catE R).length (ens (catE R)) ∧ Below w.heap.size w w' := by
 obtain ⟨i0, hi, hz0, hz1, hz2⟩ := info_parts infoEn
 have HR := Lib.hid hr
 have HRR := Lib.hid hR
 have HG := Lib.hid (egrow_any (catE R).length w (by omega))
 clear hr hR
 go_enter Tryz.func233, Tryz.ntmps233
 go_wp2
 go_loopw [3, 11] (fun v i wr => ∃ (j s : Nat), j ≤ R.length ∧ i = .int .i64 j ∧ v = .int .i64 s ∧ s ≤ 100000 ∧ Hid (s = (catE (R.take j)).length) ∧ wr = w) (fun _ i _ => R.length - (intOf i).toNat)
 case atStart => exact ⟨0, 0, by omega, rfl, rfl, by omega, rfl, rfl⟩
 case round =>
  obtain ⟨j, s, hj, rfl, rfl, hs1, HS, hw⟩ := hrel
  obtain rfl : w = wr := hw.symm
  clear hw
  by_cases hjl : j < R.length
  ·obtain ⟨b, off, rfl, hbl, hc0⟩ := erows_at HR.out hjl
   have HN := Lib.hid (catE_take R j hjl)
   have hle := catE_le R (j + 1)
   rw [HN.out, List.length_append, ← HS.out] at hle
   generalize R[j] = x at *
   unfold enrV at hc0
   obtain ⟨xa, xl, xc⟩ := x
   simp only at hc0 hle HN
   have hsum : s + xl.length ≤ 100000 := by omega
   clear hle
   go_wp2
   go_roundw
   case rel => exact ⟨j + 1, s + xl.length, by omega, by go_num, by go_num, hsum, (by unfold Hid; rw [HN.out, List.length_append, ← HS.out]), (by first | rfl | trivial)⟩
   case measure => simp [intOf]; omega
  ·obtain rfl : j = R.length := by omega
   rw [List.take_of_length_le (Nat.le_refl _)] at HS
   have HS2 := HS.out
   subst HS2
   go_wp2_with fail
   refine HG.out.mono ?_
   rintro e w1 ⟨v, rfl, ho, hb⟩
   have HO := Lib.hid ho
   have HB := Lib.hid hb
   clear ho hb HG HS
   go_wp2
   go_loopw [6, 27] (fun v i wx => ∃ (j : Nat), j ≤ R.length ∧ i = .int .i64 j ∧ Hid (wx.ownsRow w.heap.size 165 4 v (catE (R.take j)).length (ens (catE (R.take j)))) ∧ Hid (Below w.heap.size w wx)) (fun _ i _ => R.length - (intOf i).toNat)
   case atStart => exact ⟨0, by omega, rfl, HO.out, HB.out⟩
   case round =>
    obtain ⟨j, hj, rfl, HO, HB⟩ := hrel
    by_cases hjl : j < R.length
    ·obtain ⟨b, off, rfl, hbl, hc0⟩ := erows_at (HR.out.below HB.out) hjl
     have HN := Lib.hid (catE_take R j hjl)
     have hle := catE_le R (j + 1)
     have hle2 := catE_le R j
     rw [HN.out, List.length_append] at hle
     have HX := Lib.hid (HRR.out _ (List.getElem_mem hjl))
     generalize R[j] = x at *
     unfold enrV at hc0
     obtain ⟨xa, xl, xc⟩ := x
     simp only at hc0 hle HN
     obtain ⟨hx1, hx2⟩ := HX.out
     simp only at hx1 hx2
     have HX1 := Lib.hid (hx1.below HB.out)
     have HX2 := Lib.hid hx2
     generalize hct : catE (R.take j) = ct at *
     have hsum : ct.length + xl.length ≤ 1000000 := by omega
     clear hle hle2 hx1 hx2 HX hct
     go_wp2_with (at_builtin; refine wpList_append_en _ rfl (.tmp 31) (.tmp 32) 36 rfl w.heap.size 165 i0 _ Tryz.underlying36 hi hz0 hz1 hz2 rfl _ ct rfl HO.out xa xc xl rfl HX1.out HX2.out hsum HB.out.size ?_; intro v2 w2 hown2 hB2)
     have HO2 := Lib.hid hown2
     have HB2 := Lib.hid (HB.out.trans hB2)
     clear hown2 hB2
     go_wp2
     go_roundw
     case rel => exact ⟨j + 1, by omega, by go_num, (by unfold Hid; rw [HN.out]; exact HO2.out), HB2⟩
     case measure => simp [intOf]; omega
    ·obtain rfl : j = R.length := by omega
     rw [List.take_of_length_le (Nat.le_refl _)] at HO
     go_wp2
     go_ret
     exact ⟨_, rfl, HO.out, HB.out⟩
end Go.Proofs.YtmfpjapiijgdgaaGreat
namespace Go.Proofs.YtmfpjapiijgdgaaGreat
open Go.RowKit Go.Sort Go.Proofs
set_option linter.unusedVariables false
set_option maxRecDepth 100000
set_option maxRecDepth 100000
theorem cmpSt_le (a b : StM) : cmpSt a b ≤ 0 ↔ ¬ ltSt b a := by
 unfold cmpSt
 by_cases h : ltSt a b
 ·rw [if_pos h]; exact ⟨fun _ => ltSt_asymm h, fun _ => by omega⟩
 ·rw [if_neg h]
  by_cases k : ltSt b a
  ·rw [if_pos k]; exact ⟨fun h => by omega, fun h => absurd k h⟩
  ·rw [if_neg k]; exact ⟨fun _ => k, fun _ => by omega⟩
theorem cmpSt_gt (a b : StM) : 0 < cmpSt a b ↔ ltSt b a := by
 have := cmpSt_le a b
 constructor
 ·intro h
  by_cases k : ltSt b a
  ·exact k
  ·have := this.2 k; omega
 ·intro h
  by_cases k : cmpSt a b ≤ 0
  ·exact absurd h (this.1 k)
  ·omega
structure RsK (w : World) (g : Nat) (x : StM) (a : Option Addr) (l : List StM) (W : World) : Prop where
 box : W.heap[g]? = some (.cells #[.int .i64 x.f, .int .i64 x.t, .int .i64 x.n, .int .i64 x.s] 111 (0, 0))
 row : StSl W a l
 frame : Below w.heap.size w W
theorem RsK.below {w W W' : World} {g : Nat} {x : StM} {a : Option Addr} {l : List StM} (h : RsK w g x a l W) (q : Below W.heap.size W W') : RsK w g x a l W' :=
 ⟨(q.block _ (heap_lt h.box)).trans h.box, h.row.below q, h.frame.trans (q.mono h.frame.size)⟩
theorem RsK.four {w W : World} {g : Nat} {x : StM} {a : Option Addr} {l : List StM} (h : RsK w g x a l W) :
  W.cell? ⟨g, 0, none⟩ = some (.int .i64 x.f) ∧ W.cell? ⟨g, 1, none⟩ = some (.int .i64 x.t) ∧ W.cell? ⟨g, 2, none⟩ = some (.int .i64 x.n) ∧ W.cell? ⟨g, 3, none⟩ = some (.int .i64 x.s) := cells4 h.box
theorem RsK.at_ {w W : World} {g : Nat} {x : StM} {b off : Nat} {l : List StM} (h : RsK w g x (some ⟨b, off, none⟩) l W) {k : Nat} (hk : k < l.length) :
  W.cell? ⟨b, off + k * 4, none⟩ = some (.int .i64 l[k].f) ∧ W.cell? ⟨b, off + k * 4 + 1, none⟩ = some (.int .i64 l[k].t) ∧ W.cell? ⟨b, off + k * 4 + 2, none⟩ = some (.int .i64 l[k].n) ∧ W.cell? ⟨b, off + k * 4 + 3, none⟩ = some (.int .i64 l[k].s) := by
 obtain ⟨_, _, e, _, h0, h1, h2, h3⟩ := h.row.at_ hk
 cases e
 exact ⟨h0, h1, h2, h3⟩
theorem RsK.new {w W : World} {x : StM} {a : Option Addr} {l : List StM} (h : StSl W a l) (hb : Below w.heap.size w W) : RsK w W.heap.size x a l (W.alloc (.cells #[.int .i64 x.f, .int .i64 x.t, .int .i64 x.n, .int .i64 x.s] 111)) :=
 ⟨heap_alloc_new W _, h.below (below_one _ _), hb.alloc hb.size _⟩
theorem ltT (x y : StM) : ltOf cmpSt x y = decide (ltSt x y) := by
 unfold ltOf
 by_cases h1 : ltSt x y
 ·have : cmpSt x y < 0 := by unfold cmpSt; rw [if_pos h1]; decide
  simp [h1, this]
 ·have : ¬ cmpSt x y < 0 := by
   unfold cmpSt
   rw [if_neg h1]
   by_cases h2 : ltSt y x
   ·rw [if_pos h2]; decide
   ·rw [if_neg h2]; decide
  simp [h1, this]
theorem swoT : SWO (ltOf cmpSt) where
 irrefl x := by rw [ltT]; simp [ltSt_irrefl]
 trans x y z h1 h2 := by rw [ltT] at *; simp at *; exact ltSt_trans h1 h2
 ntrans x y z h1 h2 := by rw [ltT] at *; simp at *; exact leSt_trans h2 h1
theorem flat_sts (l : List StM) (t : Nat) (h : t < l.length * 4) : (sts l)[t]? = some ((flatK encT 4 l.toArray)[t]!) := by
 rw [get_flatK encT 4 l.toArray t (by simpa using h)]
 have hk : t / 4 < l.length := by omega
 have hd : (t = t / 4 * 4 ∧ t % 4 = 0) ∨ (t = t / 4 * 4 + 1 ∧ t % 4 = 1) ∨ (t = t / 4 * 4 + 2 ∧ t % 4 = 2) ∨ (t = t / 4 * 4 + 3 ∧ t % 4 = 3) := by omega
 obtain ⟨g1, g2, g3, g4⟩ := sts_get l (t / 4) hk
 have he : l.toArray[t / 4]! = l[t / 4] := by simp [hk]
 rw [he]
 rcases hd with ⟨h1, h2⟩ | ⟨h1, h2⟩ | ⟨h1, h2⟩ | ⟨h1, h2⟩
 ·rw [← h1] at g1
  rw [h2, g1]
  rfl
 ·rw [← h1] at g2
  rw [h2, g2]
  rfl
 ·rw [← h1] at g3
  rw [h2, g3]
  rfl
 ·rw [← h1] at g4
  rw [h2, g4]
  rfl
theorem heap_sortedT {w : World} {g n : Nat} {os : Array Obj} {cur : Array Value} {e : TypeId} {fr : Nat × Nat} (d : Array StM) (hb : w.heap[g]? = some (.cells cur e fr)) :
  (sortWorldK encT 4 w g 0 n d os).heap[g]? = some (.cells (putCells id 0 (flatK encT 4 d) cur) e fr) := by
 have hg : g < w.heap.size := (Array.getElem?_eq_some_iff.1 hb).1
 unfold sortWorldK putRowK
 rw [heap_grow_old _ _ (by simpa using hg)]
 simp [putRow, mapBlock, Sort.ahead, Array.getElem?_modify, hb, onCells]
theorem grownBy_sortedT {w : World} {g n : Nat} {os : Array Obj} (d : Array StM) : w.grownBy (sortWorldK encT 4 w g 0 n d os) (some g) := by
 unfold sortWorldK putRowK
 refine ⟨rfl, rfl, rfl, by simp, fun k hk hne => ?_⟩
 rw [heap_grow_old _ _ (by simpa using hk)]
 have : g ≠ k := fun e => hne (by rw [e])
 simp [putRow, mapBlock, Sort.ahead, Array.getElem?_modify, this]
theorem take_putT (cur : Array Value) (m : List StM) (h : m.length * 4 ≤ cur.size) : (putCells id 0 (flatK encT 4 m.toArray) cur).toList.take (m.length * 4) = sts m := by
 apply List.ext_getElem?
 intro j
 by_cases hj : j < m.length * 4
 ·rw [List.getElem?_take_of_lt hj, Array.getElem?_toList, flat_sts m j hj]
  simp [putCells, hj, show j < cur.size by omega]
 ·rw [List.getElem?_take_eq_none (by omega), List.getElem?_eq_none (by rw [sts_len]; omega)]
set_option maxHeartbeats 2000000 in
theorem sort8_any (B : Nat) (v : Value) (l : List StM) (w : World) (hB : B ≤ w.heap.size) (ho : w.ownsRow B 111 4 v l.length (sts l)) (hl : l.length ≤ 1000000) :
  Calls Tryz.prog 136 #[v, .func (.func 109) #[] #[]] w fun e w' => e = .returned (.tuple #[]) ∧ ∃ m : List StM, m.Perm l ∧ m.Pairwise (fun a b => ¬ ltSt b a) ∧ w'.ownsRow B 111 4 v m.length (sts m) ∧ Below B w w' := by
 cases hll : l with
 | nil =>
  subst hll
  obtain ⟨a, c, rfl, hc, _, _, _⟩ := own_st ho
  refine (AnyF.slices_SortFunc_none Tryz.laysSortSt a c _ w).mono ?_
  rintro e w' ⟨rfl, rfl⟩
  exact ⟨rfl, [], List.Perm.refl _, List.Pairwise.nil, ho, Below.refl _ _⟩
 | cons x l' =>
  rw [← hll]
  rcases ho.2 with ⟨_, h0⟩ | ⟨g, cap, cur, rfl, hg, hb, hn, hcm, hsz, ht⟩
  ·rw [hll] at h0; simp at h0
  have hH : HoldsK encT 4 w g 0 l.toArray := fun j hj => by
   have hj' : j < l.length * 4 := by simpa using hj
   rw [Nat.zero_add]
   exact ⟨by rw [ho.cellAt j hj', flat_sts l j hj']; rfl, ho.frozenAt j⟩
  have eg : ∀ args w, (callFunc 109 args).run Tryz.prog w = .ok (.enter 109 args) w := enters_of Tryz.func109 (by kernel_rfl) rfl
  have hcon := AnyQ.slices_SortFunc Tryz.laysSortSt 4 Tryz.isAgg111 Tryz.sizeOf111 encT (fun _ => rfl) (fun x v hv => by simp [encT] at hv; rcases hv with rfl | rfl | rfl | rfl <;> rfl) cmpSt swoT 109 #[] g 0 cap l.toArray w eg (fun _ _ _ _ x y => stcmp_any x y _) hH (Array.getElem?_eq_some_iff.1 hb).1 (by simp; omega)
  change Calls Tryz.prog 136 #[.slice (some ⟨g, 0, none⟩) l.length cap, _] _ _ at hcon
  refine hcon.mono ?_
  rintro e w' ⟨rfl, d', n, os, hp, hs, rfl⟩
  have hsize : d'.size = l.length := by simpa using hp.1
  have hml : d'.toList.length = l.length := by simpa using hsize
  have hpm : d'.toList.Perm l := by
   have h := hp.2.2
   simpa [Array.extract_eq_self_of_le, hsize] using h
  have hd : d'.toList.toArray = d' := by simp
  refine ⟨rfl, d'.toList, hpm, ?_, ?_, app_below (Below.refl _ _) hB ho (grownBy_sortedT d')⟩
  ·rw [List.pairwise_iff_getElem]
   intro i j hi hj hij
   have h := hs i j (Nat.zero_le _) hij (by simpa [hsize] using hj)
   rw [ltT] at h
   simp at hi hj
   simp [hi, hj] at h
   simpa using h
  ·rw [hml]
   refine ⟨by rw [sts_len, hml], .inr ⟨g, cap, _, rfl, hg, heap_sortedT d' hb, hn, hcm, by simp [putCells, hsz], ?_⟩⟩
   have := take_putT cur d'.toList (by rw [hml, hsz]; exact Nat.mul_le_mul_right _ hn)
   rw [hd, hml] at this
   exact this
theorem st_one (f t n s : Int) : ∀ u ∈ [Value.int .i64 f, .int .i64 t, .int .i64 n, .int .i64 s], u.oneCell' = true := by
 intro u hu
 simp only [List.mem_cons, List.mem_nil_iff, or_false] at hu
 rcases hu with rfl | rfl | rfl | rfl <;> rfl
set_option maxHeartbeats 4000000 in
theorem ostays_any (a : Option Addr) (c : Nat) (l : List OpM) (u : ByteArray) (t : Int) (w : World) (hr : OpSl w a l) (hl : l.length ≤ 1000) :
  Calls Tryz.prog 91 #[.slice a l.length c, .string u, .int .i64 t] w fun e w' => ∃ v, e = .returned v ∧ w'.ownsRow w.heap.size 111 4 v (staysO l u t).length (sts (staysO l u t)) ∧ Below w.heap.size w w' := by
 obtain ⟨i0, hi, hz0, hz1, hz2⟩ := info_parts infoStay
 have HR := Lib.hid hr
 have HST := Lib.hid (fun (x : OpM) W => stay_any x t W)
 have HNO := Lib.hid none_any
 have HSO := Lib.hid sort8_any
 have HFIN := Lib.hid (fun (m : List StM) (hp : m.Perm (rawO l u t)) (hs : m.Pairwise fun a b => ¬ ltSt b a) => stays_only hp hs)
 unfold opV stV stayO at HST
 clear hr
 generalize staysO l u t = G at *
 go_enter Tryz.func91, Tryz.ntmps91
 go_wp2
 go_loopw [7, 13] (fun v i wr => ∃ (j : Nat), j ≤ l.length ∧ i = .int .i64 j ∧ Hid (wr.ownsRow w.heap.size 111 4 v (rawO (l.take j) u t).length (sts (rawO (l.take j) u t))) ∧ Hid (Below w.heap.size w wr)) (fun _ i _ => l.length - (intOf i).toNat)
 case atStart => exact ⟨0, by omega, rfl, ⟨rfl, .inl ⟨rfl, rfl⟩⟩, Below.refl _ _⟩
 case round =>
  obtain ⟨j, hj, rfl, HO, HB⟩ := hrel
  by_cases hjl : j < l.length
  ·obtain ⟨b, off, rfl, hbl, hc0, hc1, hc2, hc3⟩ := (HR.out.below HB.out).at_ hjl
   have HN := Lib.hid (rawO_next l u t j hjl)
   have hln : (rawO (l.take j) u t).length ≤ 1000 := by
    have h1 := rawO_len (l.take j) u t
    have h2 : (l.take j).length ≤ j := by simp; omega
    omega
   generalize rawO (l.take j) u t = M at *
   generalize l[j] = x at *
   have HX := Lib.hid (heap_alloc_new wr (.cells #[.int .i64 x.n, .string x.u, .int .i64 x.s, .int .i64 x.f] 184))
   have HSTX := 0; clear HSTX
   clear HSO HFIN
   by_cases hu : x.u = u
   ·have q1 : (x.u.toList == u.toList) = true := by rw [hu]; exact txt_eq u
    have q2 : decide (x.u = u) = true := decide_eq_true hu
    by_cases hw : x.f < t
    ·have HN2 : Hid (rawO (l.take (j + 1)) u t = M ++ [stayO x t]) := by
      have := HN.out
      rwa [if_pos (show stU u t x = true by unfold stU; rw [q2, decide_eq_true hw]; rfl)] at this
     have q3 : decide (t ≤ x.f) = false := decide_eq_false (by omega)
     have HNN : Hid (∀ W, Calls Tryz.prog 108 #[.agg #[.int .i64 x.f, .int .i64 t]] W fun e w' => e = .returned (.bool false) ∧ Below W.heap.size W w') := fun W => by
      have := HNO.out x.f t W
      rwa [q3] at this
     clear HN hu q2 hw q3 HNO
     go_wp2_with fail
     refine (HST.out x _).mono ?_
     rintro r w2 ⟨rfl, hB⟩
     have hb2 : Below wr.heap.size wr w2 := (below_one wr (.cells #[.int .i64 x.n, .string x.u, .int .i64 x.s, .int .i64 x.f] 184)).trans (hB.mono (by rw [size1]; omega))
     obtain ⟨d0, d1, d2, d3⟩ := cells4 ((hB.block _ (heap_lt HX.out)).trans HX.out)
     have hlt : wr.heap.size < w2.heap.size := by have := hB.size; rw [size1] at this; omega
     have HY := Lib.hid (heap_alloc_new w2 (.cells #[.int .i64 x.f, .int .i64 t, .int .i64 x.n, .int .i64 x.s] 111))
     obtain ⟨e0, e1, e2, e3⟩ := cells4 HY.out
     have hb3 := below_one w2 (.cells #[.int .i64 x.f, .int .i64 t, .int .i64 x.n, .int .i64 x.s] 111)
     have g1 : (w2.alloc (.cells #[.int .i64 x.f, .int .i64 t, .int .i64 x.n, .int .i64 x.s] 111)).cell? ⟨wr.heap.size, 1, none⟩ = some (.string x.u) := (hb3.cell (p := ⟨wr.heap.size, 1, none⟩) hlt).trans d1
     have HB3 : Hid (Below wr.heap.size wr (w2.alloc (.cells #[.int .i64 x.f, .int .i64 t, .int .i64 x.n, .int .i64 x.s] 111))) := hb2.trans (hb3.mono hb2.size)
     clear hB hb2 hb3 d0 d1 d2 d3 hc0 hc1 hc2 hc3
     go_wp2_with fail
     refine (HNN.out _).mono ?_
     rintro r w4 ⟨rfl, hB4⟩
     have hb4 : Below wr.heap.size wr w4 := HB3.out.trans (hB4.mono HB3.out.size)
     obtain ⟨m0, m1, m2, m3⟩ := cells4 ((hB4.block _ (heap_lt HY.out)).trans HY.out)
     have HO2 := Lib.hid (own_below HO.out (hb4.trans ((below_one w4 (.cells #[.int .i64 x.f, .int .i64 t, .int .i64 x.n, .int .i64 x.s] 111)).mono hb4.size)))
     have HB2 : Hid (Below w.heap.size w (w4.alloc (.cells #[.int .i64 x.f, .int .i64 t, .int .i64 x.n, .int .i64 x.s] 111))) := HB.out.trans ((hb4.trans ((below_one w4 _).mono hb4.size)).mono HB.out.size)
     have HS2 := Lib.hid HB2.out.size
     clear hB4 hb4 HX HY HB3 e0 e1 e2 e3 g1 hlt
     go_wp2_with (at_builtin; refine wpList_append_own _ rfl (.tmp 30) (.tmp 32) 69 rfl w.heap.size 111 i0 _ 4 32 Tryz.underlying69 hi hz0 hz1 hz2 rfl (by decide) _ _ _ rfl HO2.out ⟨w4.heap.size, 0, none⟩ 1 1 [.int .i64 x.f, .int .i64 t, .int .i64 x.n, .int .i64 x.s] rfl rfl (news_at _ _ _ _ rfl) (st_one _ _ _ _) (by unfold maxLen; omega) (by omega) HS2.out ?_; intro v' w5 hown' hgrow hiff)
     have HB5 := Lib.hid (app_below HB2.out HS2.out HO2.out hgrow)
     have HO5 := Lib.hid hown'
     clear hown' hgrow hiff HB2 HS2 HO2
     go_wp2
     go_roundw
     case rel => exact ⟨j + 1, by omega, by go_num, (by unfold Hid; rw [HN2.out, List.length_append, sts_snoc]; exact HO5.out), HB5⟩
     case measure => simp [intOf]; omega
    ·have HN2 : Hid (rawO (l.take (j + 1)) u t = M) := by
      have := HN.out
      rwa [if_neg (show ¬ stU u t x = true by unfold stU; rw [decide_eq_false hw, Bool.and_false]; exact Bool.false_ne_true)] at this
     have q3 : decide (t ≤ x.f) = true := decide_eq_true (by omega)
     have HNN : Hid (∀ W, Calls Tryz.prog 108 #[.agg #[.int .i64 x.f, .int .i64 t]] W fun e w' => e = .returned (.bool true) ∧ Below W.heap.size W w') := fun W => by
      have := HNO.out x.f t W
      rwa [q3] at this
     clear HN hu q2 hw q3 HNO
     go_wp2_with fail
     refine (HST.out x _).mono ?_
     rintro r w2 ⟨rfl, hB⟩
     have hb2 : Below wr.heap.size wr w2 := (below_one wr (.cells #[.int .i64 x.n, .string x.u, .int .i64 x.s, .int .i64 x.f] 184)).trans (hB.mono (by rw [size1]; omega))
     obtain ⟨d0, d1, d2, d3⟩ := cells4 ((hB.block _ (heap_lt HX.out)).trans HX.out)
     have hlt : wr.heap.size < w2.heap.size := by have := hB.size; rw [size1] at this; omega
     have HY := Lib.hid (heap_alloc_new w2 (.cells #[.int .i64 x.f, .int .i64 t, .int .i64 x.n, .int .i64 x.s] 111))
     obtain ⟨e0, e1, e2, e3⟩ := cells4 HY.out
     have hb3 := below_one w2 (.cells #[.int .i64 x.f, .int .i64 t, .int .i64 x.n, .int .i64 x.s] 111)
     have g1 : (w2.alloc (.cells #[.int .i64 x.f, .int .i64 t, .int .i64 x.n, .int .i64 x.s] 111)).cell? ⟨wr.heap.size, 1, none⟩ = some (.string x.u) := (hb3.cell (p := ⟨wr.heap.size, 1, none⟩) hlt).trans d1
     have HB3 : Hid (Below wr.heap.size wr (w2.alloc (.cells #[.int .i64 x.f, .int .i64 t, .int .i64 x.n, .int .i64 x.s] 111))) := hb2.trans (hb3.mono hb2.size)
     clear hB hb2 hb3 d0 d1 d2 d3 hc0 hc1 hc2 hc3
     go_wp2_with fail
     refine (HNN.out _).mono ?_
     rintro r w4 ⟨rfl, hB4⟩
     have hb4 : Below wr.heap.size wr w4 := HB3.out.trans (hB4.mono HB3.out.size)
     have HO2 := Lib.hid (own_below HO.out hb4)
     have HB2 := Lib.hid (HB.out.trans (hb4.mono HB.out.size))
     clear hB4 hb4 HX HY HB3 e0 e1 e2 e3 g1 hlt
     go_wp2
     go_roundw
     case rel => exact ⟨j + 1, by omega, by go_num, (by unfold Hid; rw [HN2.out]; exact HO2.out), HB2⟩
     case measure => simp [intOf]; omega
   ·have q1 := txt_ne hu
    have HN2 : Hid (rawO (l.take (j + 1)) u t = M) := by
     have := HN.out
     rwa [if_neg (show ¬ stU u t x = true by unfold stU; rw [decide_eq_false hu]; exact Bool.false_ne_true)] at this
    clear HN hu HNO
    go_wp2_with fail
    refine (HST.out x _).mono ?_
    rintro r w2 ⟨rfl, hB⟩
    have hb2 : Below wr.heap.size wr w2 := (below_one wr (.cells #[.int .i64 x.n, .string x.u, .int .i64 x.s, .int .i64 x.f] 184)).trans (hB.mono (by rw [size1]; omega))
    obtain ⟨d0, d1, d2, d3⟩ := cells4 ((hB.block _ (heap_lt HX.out)).trans HX.out)
    have hlt : wr.heap.size < w2.heap.size := by have := hB.size; rw [size1] at this; omega
    have HY := Lib.hid (heap_alloc_new w2 (.cells #[.int .i64 x.f, .int .i64 t, .int .i64 x.n, .int .i64 x.s] 111))
    obtain ⟨e0, e1, e2, e3⟩ := cells4 HY.out
    have hb3 := below_one w2 (.cells #[.int .i64 x.f, .int .i64 t, .int .i64 x.n, .int .i64 x.s] 111)
    have g1 : (w2.alloc (.cells #[.int .i64 x.f, .int .i64 t, .int .i64 x.n, .int .i64 x.s] 111)).cell? ⟨wr.heap.size, 1, none⟩ = some (.string x.u) := (hb3.cell (p := ⟨wr.heap.size, 1, none⟩) hlt).trans d1
    have HB3 : Hid (Below wr.heap.size wr (w2.alloc (.cells #[.int .i64 x.f, .int .i64 t, .int .i64 x.n, .int .i64 x.s] 111))) := hb2.trans (hb3.mono hb2.size)
    clear hB hb2 hb3 d0 d1 d2 d3 hc0 hc1 hc2 hc3
    have HO2 := Lib.hid (own_below HO.out HB3.out)
    have HB2 := Lib.hid (HB.out.trans (HB3.out.mono HB.out.size))
    clear HX HY HB3 e0 e1 e2 e3 hlt
    go_wp2
    go_roundw
    case rel => exact ⟨j + 1, by omega, by go_num, (by unfold Hid; rw [HN2.out]; exact HO2.out), HB2⟩
    case measure => simp [intOf]; omega
  ·obtain rfl : j = l.length := by omega
   rw [List.take_of_length_le (Nat.le_refl _)] at HO
   have hrl := rawO_len l u t
   have HS := Lib.hid (HSO.out w.heap.size _ (rawO l u t) wr HB.out.size HO.out (by omega))
   clear HST HNO HSO
   go_wp2_with fail
   refine HS.out.mono ?_
   rintro e w5 ⟨rfl, m, hperm, hsort, ho5, hb5⟩
   have hm := HFIN.out m hperm hsort
   subst hm
   go_wp2
   go_ret
   exact ⟨_, rfl, ho5, HB.out.trans hb5⟩
end Go.Proofs.YtmfpjapiijgdgaaGreat
namespace Go.Proofs.YtmfpjapiijgdgaaGreat
open Go.RowKit Go.Proofs
set_option linter.unusedVariables false
set_option maxRecDepth 100000
set_option maxRecDepth 100000
theorem oes_split (l : List OpM) (k : Nat) (h : k < l.length) : oes l = oes (l.take k) ++ (encO l[k] ++ oes (l.drop (k + 1))) := by
 rw [← oes_cons, ← oes_append, ← List.drop_eq_getElem_cons h, List.take_append_drop]
theorem oes_set2 (l : List OpM) (k : Nat) (h : k < l.length) (s f : Int) : ((oes l).set (k * 4 + 2) (.int .i64 s)).set (k * 4 + 3) (.int .i64 f) = oes (chgAt l k s f) := by
 have hk : (oes (l.take k)).length = k * 4 := by rw [oes_len, List.length_take]; omega
 rw [chgAt_at h, oes_split l k h, oes_append, oes_cons]
 rw [List.set_append_right _ _ (by omega), List.set_append_right _ _ (by omega), hk]
 have e1 : k * 4 + 2 - k * 4 = 2 := by omega
 have e2 : k * 4 + 3 - k * 4 = 3 := by omega
 rw [e1, e2]
 rfl
theorem own_opat {w : World} {B e n g cap : Nat} {m : List OpM} (h : w.ownsRow B e 4 (.slice (some ⟨g, 0, none⟩) n cap) m.length (oes m)) : n = m.length ∧ m.length ≤ cap ∧ cap ≤ maxLen ∧ OpSl w (some ⟨g, 0, none⟩) m := by
 obtain ⟨a, c, h1, h2, h3, h4, _⟩ := own_op h
 injection h1 with h1 h5 h6
 subst h1 h5 h6
 exact ⟨rfl, h2, h3, h4⟩
theorem GotO.at_ {w w' : World} {m : List OpM} {n cap gr : Nat} (hn : n = m.length) (h2 : m.length ≤ cap) (h3 : cap ≤ maxLen) (h4 : OpSl w' (some ⟨gr, 0, none⟩) m) (hb : Below w.heap.size w w') : GotO w w' m (.slice (some ⟨gr, 0, none⟩) n cap) := by
 subst hn
 exact ⟨_, _, rfl, h2, h3, (fun h => by cases h), h4, hb⟩
theorem own_opcell {w : World} {B e n g cap : Nat} {m : List OpM} (h : w.ownsRow B e 4 (.slice (some ⟨g, 0, none⟩) n cap) m.length (oes m)) {k : Nat} (hk : k < m.length) :
  (w.cell? ⟨g, k * 4, none⟩ = some (.int .i64 m[k].n) ∧ w.cell? ⟨g, k * 4 + 1, none⟩ = some (.string m[k].u) ∧ w.cell? ⟨g, k * 4 + 2, none⟩ = some (.int .i64 m[k].s) ∧ w.cell? ⟨g, k * 4 + 3, none⟩ = some (.int .i64 m[k].f)) ∧ (∀ j, w.frozen? ⟨g, j, none⟩ = false) := by
 obtain ⟨rfl, -, -, h4⟩ := own_opat h
 obtain ⟨b, off, e1, _, h0, h1, h2, h3⟩ := h4.at_ hk
 cases e1
 rw [Nat.zero_add] at h0 h1 h2 h3
 exact ⟨⟨h0, h1, h2, h3⟩, fun j => h.frozenAt j⟩
theorem cell_next {w : World} {g i j : Nat} {v x : Value} (h : w.cell? ⟨g, j, none⟩ = some x) (hij : ¬ i = j) : (w.setCell ⟨g, i, none⟩ v).cell? ⟨g, j, none⟩ = some x :=
 (World.cell?_setCell_other w _ _ _ (fun e => hij (by injection e))).trans h
set_option maxHeartbeats 1000000 in
theorem oclone_any (a : Option Addr) (c : Nat) (l : List OpM) (w : World) (hr : OpSl w a l) (h0 : 0 < l.length) (hl : l.length ≤ 100000) :
  Calls Tryz.prog 140 #[.slice a l.length c] w fun e w' => ∃ g cap, e = .returned (.slice (some ⟨g, 0, none⟩) l.length cap) ∧ w.heap.size ≤ g ∧ w'.ownsRow w.heap.size 184 4 (.slice (some ⟨g, 0, none⟩) l.length cap) l.length (oes l) ∧ Below w.heap.size w w' := by
 obtain ⟨i0, hi, hz0, hz1, hz2⟩ := info_parts infoOp
 have q22 : ∀ (W : World) (a : Option Addr) (n c n' c' : Nat), (binOp .eql 34 (.slice a n c) (.slice none n' c')).run Tryz.prog W = .ok (.bool a.isNone) W := fun W a n c n' c' => Lib.run_eql_slice_nil W _ _ a n c n' c' Tryz.underlying34
 obtain ⟨b, off, rfl, -, -, -, -, -⟩ := hr.at_ h0
 have HO := Lib.hid (own_emptyO w 184 4 w.heap.size (Nat.le_refl _))
 have HB := Lib.hid (below_one w (.cells #[] 184))
 have HX1 := Lib.hid (hr.below HB.out)
 clear hr
 go_enter Tryz.func140, Tryz.ntmps140
 go_wp2_with (at_builtin; refine wpList_append_op _ rfl (.tmp 5) (.tmp 6) 34 rfl w.heap.size 184 i0 _ Tryz.underlying34 hi hz0 hz1 hz2 rfl _ [] rfl HO.out (some ⟨b, off, none⟩) c l rfl HX1.out (fun h => by cases h) (by simpa using (show l.length ≤ 1000000 by omega)) HB.out.size ?_; intro v2 w2 hown2 hB2)
 have HO2 := Lib.hid hown2
 have HB2 := Lib.hid (HB.out.trans hB2)
 clear hown2 hB2
 go_wp2
 go_ret
 have ho := HO2.out
 rw [List.nil_append] at ho
 rcases ho.2 with ⟨rfl, hn⟩ | ⟨g, cap, cur, rfl, hg, _⟩
 ·omega
 ·exact ⟨g, cap, rfl, hg, ho, HB2.out⟩
set_option maxHeartbeats 4000000 in
theorem change_more (a : Option Addr) (c : Nat) (l : List OpM) (n : Int) (u : ByteArray) (s t : Int) (w : World) (hr : OpSl w a l) (hl : l.length ≤ 500) (hc : l.length ≤ c) (hcm : c ≤ maxLen) :
  Calls Tryz.prog 193 #[.slice a l.length c, .int .i64 n, .string u, .int .i64 s, .int .i64 t] w fun e w' => ∃ v, e = .returned (.tuple #[v, stV (fndS l n u t), .int .i64 (findC l n u)]) ∧ GotN w w' (chgR l n u s t) v := by
 have HF := Lib.hid (fun W (h : OpSl W a l) => find_any a c l n u W h (by omega))
 have HZ := Lib.hid (Zb.new w (.int .i64 0) (.int .i64 0) (.int .i64 0) (.int .i64 0) 111)
 have HR := Lib.hid hr
 have hCR : chgR l n u s t = if findC l n u = 0 then chgAt l (findP l n u) s t else [] := rfl
 have hFS : fndS l n u t = if findC l n u = 0 then stayO (findE l n u) t else stZ := rfl
 unfold maxLen at hcm
 clear hr
 rcases fc_three l n u with ⟨hc0, k, hk, -, -, -, he, hp⟩ | ⟨hc0, he, hp⟩
 ·rw [hc0, hp] at HF
  rw [hc0, if_pos rfl, hp] at hCR
  rw [hc0, if_pos rfl, he] at hFS
  rw [hc0, hCR, hFS]
  have HCL := Lib.hid (fun W (h : OpSl W a l) => oclone_any a c l W h (by omega) (by omega))
  have HST := Lib.hid (fun W => stay_any l[k] t W)
  unfold opV stV stayO at HST
  unfold stV stayO
  dsimp only at *
  have d1 : ((0 : Int) != 0) = false := rfl
  clear hCR hFS hc0 he hp
  go_enter Tryz.func193, Tryz.ntmps193
  go_wp2_with fail
  refine (HF.out _ (HR.out.below HZ.out.frame)).mono ?_
  rintro e w1 ⟨rfl, hB⟩
  have K1 := Lib.hid (HZ.out.below hB)
  clear hB HF HZ
  go_wp2_with fail
  refine (HCL.out _ (HR.out.below K1.out.frame)).mono ?_
  rintro e w2 ⟨gr, cap, rfl, hge, ho, hB⟩
  obtain ⟨⟨-, -, o2, o3⟩, of⟩ := own_opcell ho hk
  have f2 := of (k * 4 + 2)
  have f3 := of (k * 4 + 3)
  have q3 : (w2.setCell ⟨gr, k * 4 + 2, none⟩ (.int .i64 s)).cell? ⟨gr, k * 4 + 3, none⟩ = some (.int .i64 l[k].f) := cell_next o3 (by omega)
  have HB3 := Lib.hid ((hB.setCell (p := ⟨gr, k * 4 + 2, none⟩) hge (.int .i64 s)).setCell (p := ⟨gr, k * 4 + 3, none⟩) hge (.int .i64 t))
  have HO3 := Lib.hid ((ho.stored (k * 4 + 2) (.int .i64 s)).1.stored (k * 4 + 3) (.int .i64 t)).1
  rw [oes_set2 l k hk] at HO3
  have K3 := Lib.hid (K1.out.below HB3.out)
  obtain ⟨b, off, rfl, hbl, hc0, hc1, hc2, hc3⟩ := (HR.out.below K3.out.frame).at_ hk
  have hgrl : gr < w2.heap.size := (ho.lt gr rfl).2
  have HGE := Lib.hid hge
  have HLT := Lib.hid K1.out.lt
  have hcap : l.length ≤ cap := (own_opat ho).2.1
  have hcap2 : cap ≤ maxLen := (own_opat ho).2.2.1
  have HCAP := Lib.hid hcap2
  clear of ho hB HCL hge hcap2
  go_wp2_with fail
  refine (HST.out _).mono ?_
  rintro e w4 ⟨rfl, hB4⟩
  have K4 := K3.out.below hB4
  obtain ⟨z0, z1, z2, z3⟩ := K4.cells
  obtain ⟨y0, y1, y2, y3⟩ := K4.free
  have HL := Lib.hid (K4.loadS (.int .i64 l[k].f) (.int .i64 t) (.int .i64 l[k].n) (.int .i64 l[k].s))
  have HS := Lib.hid (K4.set (.int .i64 l[k].f) (.int .i64 t) (.int .i64 l[k].n) (.int .i64 l[k].s))
  have hlen := chgAt_len l k s t
  have HO3' : Hid (((w2.setCell ⟨gr, k * 4 + 2, none⟩ (.int .i64 s)).setCell ⟨gr, k * 4 + 3, none⟩ (.int .i64 t)).ownsRow w1.heap.size 184 4 (.slice (some ⟨gr, 0, none⟩) l.length cap) (chgAt l k s t).length (oes (chgAt l k s t))) := by
   unfold Hid
   rw [hlen]
   exact HO3.out
  have HSL := Lib.hid ((own_opat (own_below HO3'.out hB4)).2.2.2.setO w.heap.size (.int .i64 l[k].f) (.int .i64 t) (.int .i64 l[k].n) (.int .i64 l[k].s) (fun b o e => by cases e; have h1 := HGE.out; have h2 := HLT.out; omega))
  have HLEN := Lib.hid hlen
  unfold setO at HL HS HSL
  clear HO3 HO3' hB4 K4 HST hlen HB3 K3 HR hc0 hc1 hc2 hc3 q3 o2 o3 f2 f3
  go_wp2
  refine bodyPost_ret (v := .tuple #[.slice (some ⟨gr, 0, none⟩) l.length cap, .agg #[.int .i64 l[k].f, .int .i64 t, .int .i64 l[k].n, .int .i64 l[k].s], .int .i64 0]) ?_ rfl ⟨_, rfl, GotO.at_ HLEN.out.symm (by rw [HLEN.out]; exact hcap) HCAP.out HSL.out HS.out, fun b o q n e => by cases e; have h1 := HGE.out; have h2 := HLT.out; omega⟩
  rw [results_tmp_cell_tmp rfl]
  simp [asAddr, Result.andThen, HL.out]
 ·rw [hp] at HF
  have hne : ¬ findC l n u = 0 := by rcases hc0 with h | h <;> rw [h] <;> decide
  rw [if_neg hne] at hCR hFS
  rw [hCR, hFS]
  have d1 : (findC l n u != 0) = true := by rcases hc0 with h | h <;> rw [h] <;> rfl
  generalize findC l n u = C at *
  unfold stV stZ
  dsimp only
  clear hCR hFS hc0 he hp hne
  go_enter Tryz.func193, Tryz.ntmps193
  go_wp2_with fail
  refine (HF.out _ (HR.out.below HZ.out.frame)).mono ?_
  rintro e w1 ⟨rfl, hB⟩
  have K1 := HZ.out.below hB
  have HL := Lib.hid (K1.loadS (.int .i64 0) (.int .i64 0) (.int .i64 0) (.int .i64 0))
  have HS := Lib.hid (K1.set (.int .i64 0) (.int .i64 0) (.int .i64 0) (.int .i64 0))
  obtain ⟨z0, z1, z2, z3⟩ := K1.cells
  obtain ⟨f0, f1, f2, f3⟩ := K1.free
  have hgl := K1.lt
  unfold setO at HL HS
  clear HF hB K1
  go_wp2
  refine bodyPost_ret (v := .tuple #[.slice none 0 0, .agg #[.int .i64 0, .int .i64 0, .int .i64 0, .int .i64 0], .int .i64 C]) ?_ rfl ⟨_, rfl, GotO.nil HS.out, fun b o q n e => by cases e⟩
  rw [results_tmp_cell_tmp rfl]
  simp [asAddr, Result.andThen, HL.out]
theorem change_any (a : Option Addr) (c : Nat) (l : List OpM) (n : Int) (u : ByteArray) (s t : Int) (w : World) (hr : OpSl w a l) (hl : l.length ≤ 500) (hc : l.length ≤ c) (hcm : c ≤ maxLen) :
  Calls Tryz.prog 193 #[.slice a l.length c, .int .i64 n, .string u, .int .i64 s, .int .i64 t] w fun e w' => ∃ v, e = .returned (.tuple #[v, stV (fndS l n u t), .int .i64 (findC l n u)]) ∧ GotO w w' (chgR l n u s t) v :=
 (change_more a c l n u s t w hr hl hc hcm).mono fun e w' ⟨v, h1, h2⟩ => ⟨v, h1, h2.1⟩
end Go.Proofs.YtmfpjapiijgdgaaGreat
