/- Texts of mine, one behind the other, of each what is wanted. -/
import Derived.Test.YtjhdhfokhkcamaaGreatQ00
import Derived.Test.YtjhdhfokhkcamaaGreatShelf
import Derived.Test.YtjhdhfokhkcamaaGreatQ01
import Derived.Test.YtjhdhfokhkcamaaGreatQ02
import Derived.Test.YtjhdhfokhkcamaaGreatQ03
import Derived.Test.YtjhdhfokhkcamaaGreatQ05
import Derived.Test.YtjhdhfokhkcamaaGreatQ09
import Derived.Test.YtjhdhfokhkcamaaGreatQ10
import Derived.Test.YtjhdhfokhkcamaaGreatQ13
import Derived.Test.YtjhdhfokhkcamaaGreatQ15
import Derived.Test.YtjhdhfokhkcamaaGreatQ18
import Derived.Test.YtjhdhfokhkcamaaGreatQ19
import Derived.Test.YtjhdhfokhkcamaaGreatTQ
namespace Go.Proofs.YtjhdhfokhkcamaaGreat
open Go.RowKit
set_option linter.unusedVariables false
set_option maxRecDepth 100000
set_option maxRecDepth 100000
set_option maxHeartbeats 2000000 in
theorem rat_any (a : Option Addr) (c : Nat) (l : List OpM) (n : Int) (w : World) (hr : OpSl w a l) (hl : l.length ≤ 1000000) :
  Calls Tryz.prog 174 #[.slice a l.length c, .int .i64 n] w fun e w' => e = .returned (.int .i64 (idxO (hasN n) l)) ∧ Below w.heap.size w w' := by
 have HR := Lib.hid hr
 clear hr
 go_enter Tryz.func174, Tryz.ntmps174
 go_wp2
 go_loopw [5] (fun i wr => ∃ (j : Nat), j ≤ l.length ∧ i = .int .i64 j ∧ Hid (LoTo (hasN n) l j) ∧ Hid (Below w.heap.size w wr)) (fun i _ => l.length - (intOf i).toNat)
 case atStart => exact ⟨0, by omega, rfl, LoTo.zero _ _, Below.refl _ _⟩
 case round =>
  obtain ⟨j, hj, rfl, HO, HB⟩ := hrel
  by_cases hjl : j < l.length
  ·obtain ⟨b, off, rfl, hbl, hc0, hc1, hc2, hc3⟩ := (HR.out.below HB.out).at_ hjl
   have HNX := Lib.hid (HO.out.next hjl)
   have HHT := Lib.hid (HO.out.hit hjl)
   generalize l[j] = x at *
   obtain ⟨xn, xu, xs, xf⟩ := x
   dsimp only at *
   by_cases h1 : xn = n
   ·subst h1
    have d1 : (xn == xn) = true := beq_self_eq_true _
    have HN := Lib.hid (idxO_hit (HHT.out (decide_eq_true rfl)) hjl)
    clear HNX HHT HO
    go_wp2
    go_ret
    exact ⟨by rw [HN.out]; rfl, HB.out⟩
   ·have d1 : (xn == n) = false := beq_eq_false_iff_ne.2 h1
    have HN := Lib.hid (HNX.out (decide_eq_false h1))
    clear HNX HHT HO
    go_wp2
    go_roundw
    case rel => exact ⟨j + 1, by omega, by go_num, HN, HB.out⟩
    case measure => simp [intOf]; omega
  ·obtain rfl : j = l.length := by omega
   have HE := Lib.hid (idxO_miss HO.out.miss)
   go_wp2
   go_ret
   exact ⟨by rw [HE.out]; rfl, HB.out⟩
set_option maxHeartbeats 2000000 in
theorem rFind_any (a : Option Addr) (c : Nat) (l : List OpM) (n : Int) (u : ByteArray) (w : World) (hr : OpSl w a l) (hl : l.length ≤ 1000000) :
  Calls Tryz.prog 175 #[.slice a l.length c, .int .i64 n, .string u] w fun e w' => e = .returned (.tuple #[opV (findE l n u), .int .i64 (findC l n u)]) ∧ Below w.heap.size w w' := by
 have HF := Lib.hid (fun W (h : OpSl W a l) => rat_any a c l n W h hl)
 have HZ := Lib.hid (Zb.new w (.int .i64 0) (.string ⟨#[]⟩) (.int .i64 0) (.int .i64 0) 75)
 have HR := Lib.hid hr
 clear hr
 unfold opV
 have HI := fst_idx (hasN n) l
 generalize l.findIdx (hasN n) = k at HI
 by_cases hk : k < l.length
 ·have hix := idxO_hit HI hk
  rw [hix] at HF
  have d0 : decide ((k : Int) < 0) = false := decide_eq_false (by omega)
  by_cases hu : l[k].u = u
  ·obtain ⟨hc, he, _⟩ := fc_hit HI hk hu
   rw [hc, he]
   have d1 : (l[k].u.toList != u.toList) = false := by rw [hu]; exact txt_ns u
   have d1' : (l[k].u.toList == u.toList) = true := by rw [hu]; exact txt_eq u
   go_enter Tryz.func175, Tryz.ntmps175
   go_wp2_with fail
   refine (HF.out _ (HR.out.below HZ.out.frame)).mono ?_
   rintro e w1 ⟨rfl, hB⟩
   have K1 := HZ.out.below hB
   obtain ⟨b, off, rfl, hbl, hc0, hc1, hc2, hc3⟩ := (HR.out.below K1.frame).at_ hk
   have HL := Lib.hid (K1.loadR (.int .i64 l[k].n) (.string l[k].u) (.int .i64 l[k].s) (.int .i64 l[k].f))
   have HS := Lib.hid (K1.set (.int .i64 l[k].n) (.string l[k].u) (.int .i64 l[k].s) (.int .i64 l[k].f))
   obtain ⟨z0, z1, z2, z3⟩ := K1.cells
   obtain ⟨f0, f1, f2, f3⟩ := K1.free
   have hgl := K1.lt
   unfold setO at HL HS
   clear HF hB K1 hc he HI hix hu
   go_wp2
   refine bodyPost_ret (v := .tuple #[.agg #[.int .i64 l[k].n, .string l[k].u, .int .i64 l[k].s, .int .i64 l[k].f], .int .i64 0]) ?_ rfl ⟨rfl, HS.out⟩
   rw [results_cell_tmp rfl]
   simp [asAddr, Result.andThen, HL.out]
  ·obtain ⟨hc, he, _⟩ := fc_user HI hk hu
   rw [hc, he]
   unfold opZ
   dsimp only
   have d1 := txt_nt hu
   have d1' := txt_ne hu
   go_enter Tryz.func175, Tryz.ntmps175
   go_wp2_with fail
   refine (HF.out _ (HR.out.below HZ.out.frame)).mono ?_
   rintro e w1 ⟨rfl, hB⟩
   have K1 := HZ.out.below hB
   obtain ⟨b, off, rfl, hbl, hc0, hc1, hc2, hc3⟩ := (HR.out.below K1.frame).at_ hk
   have HL := Lib.hid (K1.loadR (.int .i64 0) (.string ⟨#[]⟩) (.int .i64 0) (.int .i64 0))
   have HS := Lib.hid (K1.set (.int .i64 0) (.string ⟨#[]⟩) (.int .i64 0) (.int .i64 0))
   obtain ⟨z0, z1, z2, z3⟩ := K1.cells
   obtain ⟨f0, f1, f2, f3⟩ := K1.free
   have hgl := K1.lt
   unfold setO at HL HS
   clear HF hB K1 hc he HI hix hu
   go_wp2
   refine bodyPost_ret (v := .tuple #[.agg #[.int .i64 0, .string ⟨#[]⟩, .int .i64 0, .int .i64 0], .int .i64 102]) ?_ rfl ⟨rfl, HS.out⟩
   rw [results_cell_tmp rfl]
   simp [asAddr, Result.andThen, HL.out]
 ·obtain rfl : k = l.length := by have := HI.le; omega
  rw [idxO_miss HI] at HF
  obtain ⟨hc, he, _⟩ := fc_miss HI u
  rw [hc, he]
  unfold opZ
  dsimp only
  go_enter Tryz.func175, Tryz.ntmps175
  go_wp2_with fail
  refine (HF.out _ (HR.out.below HZ.out.frame)).mono ?_
  rintro e w1 ⟨rfl, hB⟩
  have K1 := HZ.out.below hB
  have HL := Lib.hid (K1.loadR (.int .i64 0) (.string ⟨#[]⟩) (.int .i64 0) (.int .i64 0))
  have HS := Lib.hid (K1.set (.int .i64 0) (.string ⟨#[]⟩) (.int .i64 0) (.int .i64 0))
  obtain ⟨z0, z1, z2, z3⟩ := K1.cells
  obtain ⟨f0, f1, f2, f3⟩ := K1.free
  have hgl := K1.lt
  unfold setO at HL HS
  clear HF hB K1 hc he HI
  go_wp2
  refine bodyPost_ret (v := .tuple #[.agg #[.int .i64 0, .string ⟨#[]⟩, .int .i64 0, .int .i64 0], .int .i64 101]) ?_ rfl ⟨rfl, HS.out⟩
  rw [results_cell_tmp rfl]
  simp [asAddr, Result.andThen, HL.out]
set_option maxHeartbeats 1000000 in
theorem stay_any (e : OpM) (t : Int) (w : World) : Calls Tryz.prog 148 #[opV e, .int .i64 t] w fun r w' => r = .returned (stV (stayO e t)) ∧ Below w.heap.size w w' := by
 unfold opV stV stayO
 obtain ⟨n, u, s, f⟩ := e
 dsimp only
 have HL : Hid (∀ o1 : Obj, (loadVar 86 ⟨w.heap.size + 1, 0, none⟩).run Tryz.prog ((w.alloc o1).alloc (.cells #[.int .i64 f, .int .i64 t, .int .i64 n, .int .i64 s] 86)) = .ok (.agg #[.int .i64 f, .int .i64 t, .int .i64 n, .int .i64 s]) ((w.alloc o1).alloc (.cells #[.int .i64 f, .int .i64 t, .int .i64 n, .int .i64 s] 86))) := fun o1 => by
  have := heap_alloc_new (w.alloc o1) (.cells #[.int .i64 f, .int .i64 t, .int .i64 n, .int .i64 s] 86)
  rw [size1] at this
  exact loadSt this
 have HG := Lib.hid (fun o p => below_two w o p)
 go_enter Tryz.func148, Tryz.ntmps148
 go_wp2
 refine bodyPost_ret (v := .agg #[.int .i64 f, .int .i64 t, .int .i64 n, .int .i64 s]) ?_ rfl ?_
 ·rw [results_cell1 rfl]
  simp [asAddr, Result.andThen, HL.out]
 ·exact ⟨rfl, HG.out _ _⟩
set_option maxHeartbeats 1000000 in
theorem rstay_any (e : OpM) (t : Int) (w : World) : Calls Tryz.prog 152 #[opV e, .int .i64 t] w fun r w' => r = .returned (stV (stayO e t)) ∧ Below w.heap.size w w' := by
 unfold opV stV stayO
 obtain ⟨n, u, s, f⟩ := e
 dsimp only
 have HL : Hid (∀ o1 : Obj, (loadVar 135 ⟨w.heap.size + 1, 0, none⟩).run Tryz.prog ((w.alloc o1).alloc (.cells #[.int .i64 f, .int .i64 t, .int .i64 n, .int .i64 s] 135)) = .ok (.agg #[.int .i64 f, .int .i64 t, .int .i64 n, .int .i64 s]) ((w.alloc o1).alloc (.cells #[.int .i64 f, .int .i64 t, .int .i64 n, .int .i64 s] 135))) := fun o1 => by
  have := heap_alloc_new (w.alloc o1) (.cells #[.int .i64 f, .int .i64 t, .int .i64 n, .int .i64 s] 135)
  rw [size1] at this
  exact loadStR this
 have HG := Lib.hid (fun o p => below_two w o p)
 go_enter Tryz.func152, Tryz.ntmps152
 go_wp2
 refine bodyPost_ret (v := .agg #[.int .i64 f, .int .i64 t, .int .i64 n, .int .i64 s]) ?_ rfl ?_
 ·rw [results_cell1 rfl]
  simp [asAddr, Result.andThen, HL.out]
 ·exact ⟨rfl, HG.out _ _⟩
end Go.Proofs.YtjhdhfokhkcamaaGreat
namespace Go.Proofs.YtjhdhfokhkcamaaGreat
open Go.RowKit Go.Sort Go.Proofs
set_option linter.unusedVariables false
set_option maxRecDepth 100000
set_option maxRecDepth 100000
theorem ltT (x y : StM) : ltOf cmpSt x y = decide (ltSt x y) := by
 unfold ltOf
 by_cases h1 : ltSt x y
 ·have : cmpSt x y < 0 := by unfold cmpSt; rw [if_pos h1]; decide
  simp [h1, this]
 ·have : ¬ cmpSt x y < 0 := by
   unfold cmpSt
   rw [if_neg h1]
   by_cases h2 : ltSt y x
   ·rw [if_pos h2]; decide
   ·rw [if_neg h2]; decide
  simp [h1, this]
theorem swoT : SWO (ltOf cmpSt) where
 irrefl x := by rw [ltT]; simp [ltSt_irrefl]
 trans x y z h1 h2 := by rw [ltT] at *; simp at *; exact ltSt_trans h1 h2
 ntrans x y z h1 h2 := by rw [ltT] at *; simp at *; exact leSt_trans h2 h1
theorem flat_sts (l : List StM) (t : Nat) (h : t < l.length * 4) : (sts l)[t]? = some ((flatK encT 4 l.toArray)[t]!) := by
 rw [get_flatK encT 4 l.toArray t (by simpa using h)]
 have hk : t / 4 < l.length := by omega
 have hd : (t = t / 4 * 4 ∧ t % 4 = 0) ∨ (t = t / 4 * 4 + 1 ∧ t % 4 = 1) ∨ (t = t / 4 * 4 + 2 ∧ t % 4 = 2) ∨ (t = t / 4 * 4 + 3 ∧ t % 4 = 3) := by omega
 obtain ⟨g1, g2, g3, g4⟩ := sts_get l (t / 4) hk
 have he : l.toArray[t / 4]! = l[t / 4] := by simp [hk]
 rw [he]
 rcases hd with ⟨h1, h2⟩ | ⟨h1, h2⟩ | ⟨h1, h2⟩ | ⟨h1, h2⟩
 ·rw [← h1] at g1
  rw [h2, g1]
  rfl
 ·rw [← h1] at g2
  rw [h2, g2]
  rfl
 ·rw [← h1] at g3
  rw [h2, g3]
  rfl
 ·rw [← h1] at g4
  rw [h2, g4]
  rfl
theorem heap_sortedT {w : World} {g n : Nat} {os : Array Obj} {cur : Array Value} {e : TypeId} {fr : Nat × Nat} (d : Array StM) (hb : w.heap[g]? = some (.cells cur e fr)) :
  (sortWorldK encT 4 w g 0 n d os).heap[g]? = some (.cells (putCells id 0 (flatK encT 4 d) cur) e fr) := by
 have hg : g < w.heap.size := (Array.getElem?_eq_some_iff.1 hb).1
 unfold sortWorldK putRowK
 rw [heap_grow_old _ _ (by simpa using hg)]
 simp [putRow, mapBlock, Sort.ahead, Array.getElem?_modify, hb, onCells]
theorem grownBy_sortedT {w : World} {g n : Nat} {os : Array Obj} (d : Array StM) : w.grownBy (sortWorldK encT 4 w g 0 n d os) (some g) := by
 unfold sortWorldK putRowK
 refine ⟨rfl, rfl, rfl, by simp, fun k hk hne => ?_⟩
 rw [heap_grow_old _ _ (by simpa using hk)]
 have : g ≠ k := fun e => hne (by rw [e])
 simp [putRow, mapBlock, Sort.ahead, Array.getElem?_modify, this]
theorem take_putT (cur : Array Value) (m : List StM) (h : m.length * 4 ≤ cur.size) : (putCells id 0 (flatK encT 4 m.toArray) cur).toList.take (m.length * 4) = sts m := by
 apply List.ext_getElem?
 intro j
 by_cases hj : j < m.length * 4
 ·rw [List.getElem?_take_of_lt hj, Array.getElem?_toList, flat_sts m j hj]
  simp [putCells, hj, show j < cur.size by omega]
 ·rw [List.getElem?_take_eq_none (by omega), List.getElem?_eq_none (by rw [sts_len]; omega)]
set_option maxHeartbeats 2000000 in
theorem sort8_any (B : Nat) (v : Value) (l : List StM) (w : World) (hB : B ≤ w.heap.size) (ho : w.ownsRow B 86 4 v l.length (sts l)) (hl : l.length ≤ 1000000) :
  Calls Tryz.prog 149 #[v, .func (.func 150) #[] #[]] w fun e w' => e = .returned (.tuple #[]) ∧ ∃ m : List StM, m.Perm l ∧ m.Pairwise (fun a b => ¬ ltSt b a) ∧ w'.ownsRow B 86 4 v m.length (sts m) ∧ Below B w w' := by
 cases hll : l with
 | nil =>
  subst hll
  obtain ⟨a, c, rfl, hc, _, _, _⟩ := own_st ho
  refine (AnyF.slices_SortFunc_none Tryz.laysSortSt a c _ w).mono ?_
  rintro e w' ⟨rfl, rfl⟩
  exact ⟨rfl, [], List.Perm.refl _, List.Pairwise.nil, ho, Below.refl _ _⟩
 | cons x l' =>
  rw [← hll]
  rcases ho.2 with ⟨_, h0⟩ | ⟨g, cap, cur, rfl, hg, hb, hn, hcm, hsz, ht⟩
  ·rw [hll] at h0; simp at h0
  have hH : HoldsK encT 4 w g 0 l.toArray := fun j hj => by
   have hj' : j < l.length * 4 := by simpa using hj
   rw [Nat.zero_add]
   exact ⟨by rw [ho.cellAt j hj', flat_sts l j hj']; rfl, ho.frozenAt j⟩
  have eg : ∀ args w, (callFunc 150 args).run Tryz.prog w = .ok (.enter 150 args) w := enters_of Tryz.func150 (by kernel_rfl) rfl
  have hcon := AnyQ.slices_SortFunc Tryz.laysSortSt 4 Tryz.isAgg86 Tryz.sizeOf86 encT (fun _ => rfl) (fun x v hv => by simp [encT] at hv; rcases hv with rfl | rfl | rfl | rfl <;> rfl) cmpSt swoT 150 #[] g 0 cap l.toArray w eg (fun _ _ _ _ x y => stcmp_any x y _) hH (Array.getElem?_eq_some_iff.1 hb).1 (by simp; omega)
  change Calls Tryz.prog 149 #[.slice (some ⟨g, 0, none⟩) l.length cap, _] _ _ at hcon
  refine hcon.mono ?_
  rintro e w' ⟨rfl, d', n, os, hp, hs, rfl⟩
  have hsize : d'.size = l.length := by simpa using hp.1
  have hml : d'.toList.length = l.length := by simpa using hsize
  have hpm : d'.toList.Perm l := by
   have h := hp.2.2
   simpa [Array.extract_eq_self_of_le, hsize] using h
  have hd : d'.toList.toArray = d' := by simp
  refine ⟨rfl, d'.toList, hpm, ?_, ?_, app_below (Below.refl _ _) hB ho (grownBy_sortedT d')⟩
  ·rw [List.pairwise_iff_getElem]
   intro i j hi hj hij
   have h := hs i j (Nat.zero_le _) hij (by simpa [hsize] using hj)
   rw [ltT] at h
   simp at hi hj
   simp [hi, hj] at h
   simpa using h
  ·rw [hml]
   refine ⟨by rw [sts_len, hml], .inr ⟨g, cap, _, rfl, hg, heap_sortedT d' hb, hn, hcm, by simp [putCells, hsz], ?_⟩⟩
   have := take_putT cur d'.toList (by rw [hml, hsz]; exact Nat.mul_le_mul_right _ hn)
   rw [hd, hml] at this
   exact this
theorem st_one (f t n s : Int) : ∀ u ∈ [Value.int .i64 f, .int .i64 t, .int .i64 n, .int .i64 s], u.oneCell' = true := by
 intro u hu
 simp only [List.mem_cons, List.mem_nil_iff, or_false] at hu
 rcases hu with rfl | rfl | rfl | rfl <;> rfl
set_option maxHeartbeats 4000000 in
theorem ostays_any (a : Option Addr) (c : Nat) (l : List OpM) (u : ByteArray) (t : Int) (w : World) (hr : OpSl w a l) (hl : l.length ≤ 1000) :
  Calls Tryz.prog 90 #[.slice a l.length c, .string u, .int .i64 t] w fun e w' => ∃ v, e = .returned v ∧ w'.ownsRow w.heap.size 86 4 v (staysO l u t).length (sts (staysO l u t)) ∧ Below w.heap.size w w' := by
 obtain ⟨i0, hi, hz0, hz1, hz2⟩ := info_parts infoStay
 have HR := Lib.hid hr
 have HST := Lib.hid (fun (x : OpM) W => stay_any x t W)
 have HNO := Lib.hid none_any
 have HSO := Lib.hid sort8_any
 have HFIN := Lib.hid (fun (m : List StM) (hp : m.Perm (rawO l u t)) (hs : m.Pairwise fun a b => ¬ ltSt b a) => stays_only hp hs)
 unfold opV stV stayO at HST
 clear hr
 generalize staysO l u t = G at *
 go_enter Tryz.func90, Tryz.ntmps90
 go_wp2
 go_loopw [7, 13] (fun v i wr => ∃ (j : Nat), j ≤ l.length ∧ i = .int .i64 j ∧ Hid (wr.ownsRow w.heap.size 86 4 v (rawO (l.take j) u t).length (sts (rawO (l.take j) u t))) ∧ Hid (Below w.heap.size w wr)) (fun _ i _ => l.length - (intOf i).toNat)
 case atStart => exact ⟨0, by omega, rfl, ⟨rfl, .inl ⟨rfl, rfl⟩⟩, Below.refl _ _⟩
 case round =>
  obtain ⟨j, hj, rfl, HO, HB⟩ := hrel
  by_cases hjl : j < l.length
  ·obtain ⟨b, off, rfl, hbl, hc0, hc1, hc2, hc3⟩ := (HR.out.below HB.out).at_ hjl
   have HN := Lib.hid (rawO_next l u t j hjl)
   have hln : (rawO (l.take j) u t).length ≤ 1000 := by
    have h1 := rawO_len (l.take j) u t
    have h2 : (l.take j).length ≤ j := by simp; omega
    omega
   generalize rawO (l.take j) u t = M at *
   generalize l[j] = x at *
   have HX := Lib.hid (heap_alloc_new wr (.cells #[.int .i64 x.n, .string x.u, .int .i64 x.s, .int .i64 x.f] 112))
   have HSTX := 0; clear HSTX
   clear HSO HFIN
   by_cases hu : x.u = u
   ·have q1 : (x.u.toList == u.toList) = true := by rw [hu]; exact txt_eq u
    have q2 : decide (x.u = u) = true := decide_eq_true hu
    by_cases hw : x.f < t
    ·have HN2 : Hid (rawO (l.take (j + 1)) u t = M ++ [stayO x t]) := by
      have := HN.out
      rwa [if_pos (show stU u t x = true by unfold stU; rw [q2, decide_eq_true hw]; rfl)] at this
     have q3 : decide (t ≤ x.f) = false := decide_eq_false (by omega)
     have HNN : Hid (∀ W, Calls Tryz.prog 135 #[.agg #[.int .i64 x.f, .int .i64 t]] W fun e w' => e = .returned (.bool false) ∧ Below W.heap.size W w') := fun W => by
      have := HNO.out x.f t W
      rwa [q3] at this
     clear HN hu q2 hw q3 HNO
     go_wp2_with fail
     refine (HST.out x _).mono ?_
     rintro r w2 ⟨rfl, hB⟩
     have hb2 : Below wr.heap.size wr w2 := (below_one wr (.cells #[.int .i64 x.n, .string x.u, .int .i64 x.s, .int .i64 x.f] 112)).trans (hB.mono (by rw [size1]; omega))
     obtain ⟨d0, d1, d2, d3⟩ := cells4 ((hB.block _ (heap_lt HX.out)).trans HX.out)
     have hlt : wr.heap.size < w2.heap.size := by have := hB.size; rw [size1] at this; omega
     have HY := Lib.hid (heap_alloc_new w2 (.cells #[.int .i64 x.f, .int .i64 t, .int .i64 x.n, .int .i64 x.s] 86))
     obtain ⟨e0, e1, e2, e3⟩ := cells4 HY.out
     have hb3 := below_one w2 (.cells #[.int .i64 x.f, .int .i64 t, .int .i64 x.n, .int .i64 x.s] 86)
     have g1 : (w2.alloc (.cells #[.int .i64 x.f, .int .i64 t, .int .i64 x.n, .int .i64 x.s] 86)).cell? ⟨wr.heap.size, 1, none⟩ = some (.string x.u) := (hb3.cell (p := ⟨wr.heap.size, 1, none⟩) hlt).trans d1
     have HB3 : Hid (Below wr.heap.size wr (w2.alloc (.cells #[.int .i64 x.f, .int .i64 t, .int .i64 x.n, .int .i64 x.s] 86))) := hb2.trans (hb3.mono hb2.size)
     clear hB hb2 hb3 d0 d1 d2 d3 hc0 hc1 hc2 hc3
     go_wp2_with fail
     refine (HNN.out _).mono ?_
     rintro r w4 ⟨rfl, hB4⟩
     have hb4 : Below wr.heap.size wr w4 := HB3.out.trans (hB4.mono HB3.out.size)
     obtain ⟨m0, m1, m2, m3⟩ := cells4 ((hB4.block _ (heap_lt HY.out)).trans HY.out)
     have HO2 := Lib.hid (own_below HO.out (hb4.trans ((below_one w4 (.cells #[.int .i64 x.f, .int .i64 t, .int .i64 x.n, .int .i64 x.s] 86)).mono hb4.size)))
     have HB2 : Hid (Below w.heap.size w (w4.alloc (.cells #[.int .i64 x.f, .int .i64 t, .int .i64 x.n, .int .i64 x.s] 86))) := HB.out.trans ((hb4.trans ((below_one w4 _).mono hb4.size)).mono HB.out.size)
     have HS2 := Lib.hid HB2.out.size
     clear hB4 hb4 HX HY HB3 e0 e1 e2 e3 g1 hlt
     go_wp2_with (at_builtin; refine wpList_append_own _ rfl (.tmp 30) (.tmp 32) 60 rfl w.heap.size 86 i0 _ 4 32 Tryz.underlying60 hi hz0 hz1 hz2 rfl (by decide) _ _ _ rfl HO2.out ⟨w4.heap.size, 0, none⟩ 1 1 [.int .i64 x.f, .int .i64 t, .int .i64 x.n, .int .i64 x.s] rfl rfl (news_at _ _ _ _ rfl) (st_one _ _ _ _) (by unfold maxLen; omega) (by omega) HS2.out ?_; intro v' w5 hown' hgrow hiff)
     have HB5 := Lib.hid (app_below HB2.out HS2.out HO2.out hgrow)
     have HO5 := Lib.hid hown'
     clear hown' hgrow hiff HB2 HS2 HO2
     go_wp2
     go_roundw
     case rel => exact ⟨j + 1, by omega, by go_num, (by unfold Hid; rw [HN2.out, List.length_append, sts_snoc]; exact HO5.out), HB5⟩
     case measure => simp [intOf]; omega
    ·have HN2 : Hid (rawO (l.take (j + 1)) u t = M) := by
      have := HN.out
      rwa [if_neg (show ¬ stU u t x = true by unfold stU; rw [decide_eq_false hw, Bool.and_false]; exact Bool.false_ne_true)] at this
     have q3 : decide (t ≤ x.f) = true := decide_eq_true (by omega)
     have HNN : Hid (∀ W, Calls Tryz.prog 135 #[.agg #[.int .i64 x.f, .int .i64 t]] W fun e w' => e = .returned (.bool true) ∧ Below W.heap.size W w') := fun W => by
      have := HNO.out x.f t W
      rwa [q3] at this
     clear HN hu q2 hw q3 HNO
     go_wp2_with fail
     refine (HST.out x _).mono ?_
     rintro r w2 ⟨rfl, hB⟩
     have hb2 : Below wr.heap.size wr w2 := (below_one wr (.cells #[.int .i64 x.n, .string x.u, .int .i64 x.s, .int .i64 x.f] 112)).trans (hB.mono (by rw [size1]; omega))
     obtain ⟨d0, d1, d2, d3⟩ := cells4 ((hB.block _ (heap_lt HX.out)).trans HX.out)
     have hlt : wr.heap.size < w2.heap.size := by have := hB.size; rw [size1] at this; omega
     have HY := Lib.hid (heap_alloc_new w2 (.cells #[.int .i64 x.f, .int .i64 t, .int .i64 x.n, .int .i64 x.s] 86))
     obtain ⟨e0, e1, e2, e3⟩ := cells4 HY.out
     have hb3 := below_one w2 (.cells #[.int .i64 x.f, .int .i64 t, .int .i64 x.n, .int .i64 x.s] 86)
     have g1 : (w2.alloc (.cells #[.int .i64 x.f, .int .i64 t, .int .i64 x.n, .int .i64 x.s] 86)).cell? ⟨wr.heap.size, 1, none⟩ = some (.string x.u) := (hb3.cell (p := ⟨wr.heap.size, 1, none⟩) hlt).trans d1
     have HB3 : Hid (Below wr.heap.size wr (w2.alloc (.cells #[.int .i64 x.f, .int .i64 t, .int .i64 x.n, .int .i64 x.s] 86))) := hb2.trans (hb3.mono hb2.size)
     clear hB hb2 hb3 d0 d1 d2 d3 hc0 hc1 hc2 hc3
     go_wp2_with fail
     refine (HNN.out _).mono ?_
     rintro r w4 ⟨rfl, hB4⟩
     have hb4 : Below wr.heap.size wr w4 := HB3.out.trans (hB4.mono HB3.out.size)
     have HO2 := Lib.hid (own_below HO.out hb4)
     have HB2 := Lib.hid (HB.out.trans (hb4.mono HB.out.size))
     clear hB4 hb4 HX HY HB3 e0 e1 e2 e3 g1 hlt
     go_wp2
     go_roundw
     case rel => exact ⟨j + 1, by omega, by go_num, (by unfold Hid; rw [HN2.out]; exact HO2.out), HB2⟩
     case measure => simp [intOf]; omega
   ·have q1 := txt_ne hu
    have HN2 : Hid (rawO (l.take (j + 1)) u t = M) := by
     have := HN.out
     rwa [if_neg (show ¬ stU u t x = true by unfold stU; rw [decide_eq_false hu]; exact Bool.false_ne_true)] at this
    clear HN hu HNO
    go_wp2_with fail
    refine (HST.out x _).mono ?_
    rintro r w2 ⟨rfl, hB⟩
    have hb2 : Below wr.heap.size wr w2 := (below_one wr (.cells #[.int .i64 x.n, .string x.u, .int .i64 x.s, .int .i64 x.f] 112)).trans (hB.mono (by rw [size1]; omega))
    obtain ⟨d0, d1, d2, d3⟩ := cells4 ((hB.block _ (heap_lt HX.out)).trans HX.out)
    have hlt : wr.heap.size < w2.heap.size := by have := hB.size; rw [size1] at this; omega
    have HY := Lib.hid (heap_alloc_new w2 (.cells #[.int .i64 x.f, .int .i64 t, .int .i64 x.n, .int .i64 x.s] 86))
    obtain ⟨e0, e1, e2, e3⟩ := cells4 HY.out
    have hb3 := below_one w2 (.cells #[.int .i64 x.f, .int .i64 t, .int .i64 x.n, .int .i64 x.s] 86)
    have g1 : (w2.alloc (.cells #[.int .i64 x.f, .int .i64 t, .int .i64 x.n, .int .i64 x.s] 86)).cell? ⟨wr.heap.size, 1, none⟩ = some (.string x.u) := (hb3.cell (p := ⟨wr.heap.size, 1, none⟩) hlt).trans d1
    have HB3 : Hid (Below wr.heap.size wr (w2.alloc (.cells #[.int .i64 x.f, .int .i64 t, .int .i64 x.n, .int .i64 x.s] 86))) := hb2.trans (hb3.mono hb2.size)
    clear hB hb2 hb3 d0 d1 d2 d3 hc0 hc1 hc2 hc3
    have HO2 := Lib.hid (own_below HO.out HB3.out)
    have HB2 := Lib.hid (HB.out.trans (HB3.out.mono HB.out.size))
    clear HX HY HB3 e0 e1 e2 e3 hlt
    go_wp2
    go_roundw
    case rel => exact ⟨j + 1, by omega, by go_num, (by unfold Hid; rw [HN2.out]; exact HO2.out), HB2⟩
    case measure => simp [intOf]; omega
  ·obtain rfl : j = l.length := by omega
   rw [List.take_of_length_le (Nat.le_refl _)] at HO
   have hrl := rawO_len l u t
   have HS := Lib.hid (HSO.out w.heap.size _ (rawO l u t) wr HB.out.size HO.out (by omega))
   clear HST HNO HSO
   go_wp2_with fail
   refine HS.out.mono ?_
   rintro e w5 ⟨rfl, m, hperm, hsort, ho5, hb5⟩
   have hm := HFIN.out m hperm hsort
   subst hm
   go_wp2
   go_ret
   exact ⟨_, rfl, ho5, HB.out.trans hb5⟩
theorem ofil_take (q : OpM → Bool) (l : List OpM) (j : Nat) (h : j < l.length) : (l.take (j + 1)).filter q = (l.take j).filter q ++ (if q l[j] = true then [l[j]] else []) := by
 rw [List.take_succ_eq_append_getElem h, List.filter_append, List.filter_cons, List.filter_nil]
theorem ofil_len (q : OpM → Bool) (l : List OpM) (j : Nat) : ((l.take j).filter q).length ≤ j := Nat.le_trans (List.length_filter_le _ _) (by simp; omega)
def SzO (l : List OpM) : Prop := ∀ e ∈ l, e.u.size ≤ maxLen
set_option maxHeartbeats 2000000 in
theorem owithout_any (a : Option Addr) (c : Nat) (l : List OpM) (u : ByteArray) (w : World) (hr : OpSl w a l) (hl : l.length ≤ 100000) :
  Calls Tryz.prog 169 #[.slice a l.length c, .string u] w fun e w' => ∃ v, e = .returned v ∧ w'.ownsRow w.heap.size 112 4 v (l.filter (notU u)).length (oes (l.filter (notU u))) ∧ Below w.heap.size w w' := by
 obtain ⟨i0, hi, hz0, hz1, hz2⟩ := info_parts infoOp
 have HR := Lib.hid hr
 clear hr
 go_enter Tryz.func169, Tryz.ntmps169
 go_wp2
 go_loopw [5, 10] (fun v i wr => ∃ (j : Nat), j ≤ l.length ∧ i = .int .i64 j ∧ Hid (wr.ownsRow w.heap.size 112 4 v ((l.take j).filter (notU u)).length (oes ((l.take j).filter (notU u)))) ∧ Hid (Below w.heap.size w wr)) (fun _ i _ => l.length - (intOf i).toNat)
 case atStart => exact ⟨0, by omega, rfl, ⟨rfl, .inl ⟨rfl, rfl⟩⟩, Below.refl _ _⟩
 case round =>
  obtain ⟨j, hj, rfl, HO, HB⟩ := hrel
  by_cases hjl : j < l.length
  ·obtain ⟨b, off, rfl, hbl, hc0, hc1, hc2, hc3⟩ := (HR.out.below HB.out).at_ hjl
   have HT := Lib.hid (ofil_take (notU u) l j hjl)
   have HLN := Lib.hid (ofil_len (notU u) l j)
   generalize l[j] = x at *
   generalize (l.take j).filter (notU u) = m at *
   have HX := heap_alloc_new wr (.cells #[.int .i64 x.n, .string x.u, .int .i64 x.s, .int .i64 x.f] 112)
   obtain ⟨d0, d1, d2, d3⟩ := cells4 HX
   have hb1 := below_one wr (.cells #[.int .i64 x.n, .string x.u, .int .i64 x.s, .int .i64 x.f] 112)
   by_cases hu : x.u = u
   ·have HC2 : Hid ((l.take (j + 1)).filter (notU u) = m) := by
     have := HT.out
     rwa [if_neg (by unfold notU; rw [decide_eq_false (fun h => h hu)]; exact Bool.false_ne_true), List.append_nil] at this
    have q1 : (x.u.toList != u.toList) = false := by rw [hu]; exact txt_ns u
    have q2 : (x.u.toList == u.toList) = true := by rw [hu]; exact txt_eq u
    have HO2 := Lib.hid (own_below HO.out hb1)
    have HB2 := Lib.hid (HB.out.trans (hb1.mono HB.out.size))
    clear HT HLN hu hb1
    go_wp2
    go_roundw
    case rel => exact ⟨j + 1, by omega, by go_num, (by unfold Hid; rw [HC2.out]; exact HO2.out), HB2.out⟩
    case measure => simp [intOf]; omega
   ·have HC2 : Hid ((l.take (j + 1)).filter (notU u) = m ++ [x]) := by
     have := HT.out
     rwa [if_pos (show notU u x = true from decide_eq_true hu)] at this
    have q1 := txt_nt hu
    have q2 := txt_ne hu
    have hb2 : Below wr.heap.size wr ((wr.alloc (.cells #[.int .i64 x.n, .string x.u, .int .i64 x.s, .int .i64 x.f] 112)).alloc (.cells #[.int .i64 x.n, .string x.u, .int .i64 x.s, .int .i64 x.f] 112)) := hb1.trans ((below_one (wr.alloc (.cells #[.int .i64 x.n, .string x.u, .int .i64 x.s, .int .i64 x.f] 112)) (.cells #[.int .i64 x.n, .string x.u, .int .i64 x.s, .int .i64 x.f] 112)).mono hb1.size)
    have HO2 := Lib.hid (own_below HO.out hb2)
    have HB2 := Lib.hid (HB.out.trans (hb2.mono HB.out.size))
    have HS2 := Lib.hid HB2.out.size
    have hlm := HLN.out
    clear HT hu hb1 hb2
    go_wp2_with (at_builtin; refine wpList_append_own _ rfl (.tmp 18) (.tmp 20) 33 rfl w.heap.size 112 i0 _ 4 40 Tryz.underlying33 hi hz0 hz1 hz2 rfl (by decide) _ _ _ rfl HO2.out ⟨wr.heap.size + 1, 0, none⟩ 1 1 [.int .i64 x.n, .string x.u, .int .i64 x.s, .int .i64 x.f] rfl rfl (news_at _ _ _ _ (size1 _ _).symm) (four_o _ _ _ _) (by unfold maxLen; omega) (by omega) HS2.out ?_; intro v' w3 hown' hgrow hiff)
    have HB3 := Lib.hid (app_below HB2.out HS2.out HO2.out hgrow)
    have HO3 := Lib.hid hown'
    clear hown' hgrow hiff HB2 HS2 HO2
    go_wp2
    go_roundw
    case rel => exact ⟨j + 1, by omega, by go_num, (by unfold Hid; rw [HC2.out, List.length_append, oes_snoc]; exact HO3.out), HB3⟩
    case measure => simp [intOf]; omega
  ·obtain rfl : j = l.length := by omega
   rw [List.take_of_length_le (Nat.le_refl _)] at HO
   go_wp2
   go_ret
   exact ⟨_, rfl, HO.out, HB.out⟩
set_option maxHeartbeats 2000000 in
theorem orwithout_any (a : Option Addr) (c : Nat) (l : List OpM) (u : ByteArray) (w : World) (hr : OpSl w a l) (hl : l.length ≤ 100000) :
  Calls Tryz.prog 50 #[.slice a l.length c, .string u] w fun e w' => ∃ v, e = .returned v ∧ w'.ownsRow w.heap.size 75 4 v (l.filter (notU u)).length (oes (l.filter (notU u))) ∧ Below w.heap.size w w' := by
 obtain ⟨i0, hi, hz0, hz1, hz2⟩ := info_parts infoOpR
 have HR := Lib.hid hr
 clear hr
 go_enter Tryz.func50, Tryz.ntmps50
 go_wp2
 go_loopw [5, 6] (fun v i wr => ∃ (j : Nat), j ≤ l.length ∧ i = .int .i64 j ∧ Hid (wr.ownsRow w.heap.size 75 4 v ((l.take j).filter (notU u)).length (oes ((l.take j).filter (notU u)))) ∧ Hid (Below w.heap.size w wr)) (fun _ i _ => l.length - (intOf i).toNat)
 case atStart => exact ⟨0, by omega, rfl, ⟨rfl, .inl ⟨rfl, rfl⟩⟩, Below.refl _ _⟩
 case round =>
  obtain ⟨j, hj, rfl, HO, HB⟩ := hrel
  by_cases hjl : j < l.length
  ·obtain ⟨b, off, rfl, hbl, hc0, hc1, hc2, hc3⟩ := (HR.out.below HB.out).at_ hjl
   have HT := Lib.hid (ofil_take (notU u) l j hjl)
   have HLN := Lib.hid (ofil_len (notU u) l j)
   generalize l[j] = x at *
   generalize (l.take j).filter (notU u) = m at *
   have hb1 := Below.refl wr.heap.size wr
   by_cases hu : x.u = u
   ·have HC2 : Hid ((l.take (j + 1)).filter (notU u) = m) := by
     have := HT.out
     rwa [if_neg (by unfold notU; rw [decide_eq_false (fun h => h hu)]; exact Bool.false_ne_true), List.append_nil] at this
    have q1 : (x.u.toList != u.toList) = false := by rw [hu]; exact txt_ns u
    have q2 : (x.u.toList == u.toList) = true := by rw [hu]; exact txt_eq u
    have HO2 := Lib.hid (own_below HO.out hb1)
    have HB2 := Lib.hid (HB.out.trans (hb1.mono HB.out.size))
    clear HT HLN hu hb1
    go_wp2
    go_roundw
    case rel => exact ⟨j + 1, by omega, by go_num, (by unfold Hid; rw [HC2.out]; exact HO2.out), HB2.out⟩
    case measure => simp [intOf]; omega
   ·have HC2 : Hid ((l.take (j + 1)).filter (notU u) = m ++ [x]) := by
     have := HT.out
     rwa [if_pos (show notU u x = true from decide_eq_true hu)] at this
    have q1 := txt_nt hu
    have q2 := txt_ne hu
    have hb2 : Below wr.heap.size wr (wr.alloc (.cells #[.int .i64 x.n, .string x.u, .int .i64 x.s, .int .i64 x.f] 75)) := hb1.trans ((below_one wr (.cells #[.int .i64 x.n, .string x.u, .int .i64 x.s, .int .i64 x.f] 75)).mono hb1.size)
    have HO2 := Lib.hid (own_below HO.out hb2)
    have HB2 := Lib.hid (HB.out.trans (hb2.mono HB.out.size))
    have HS2 := Lib.hid HB2.out.size
    have hlm := HLN.out
    clear HT hu hb1 hb2
    go_wp2_with (at_builtin; refine wpList_append_own _ rfl (.tmp 20) (.tmp 25) 22 rfl w.heap.size 75 i0 _ 4 40 Tryz.underlying22 hi hz0 hz1 hz2 rfl (by decide) _ _ _ rfl HO2.out ⟨wr.heap.size, 0, none⟩ 1 1 [.int .i64 x.n, .string x.u, .int .i64 x.s, .int .i64 x.f] rfl rfl (news_at _ _ _ _ rfl) (four_o _ _ _ _) (by unfold maxLen; omega) (by omega) HS2.out ?_; intro v' w3 hown' hgrow hiff)
    have HB3 := Lib.hid (app_below HB2.out HS2.out HO2.out hgrow)
    have HO3 := Lib.hid hown'
    clear hown' hgrow hiff HB2 HS2 HO2
    go_wp2
    go_roundw
    case rel => exact ⟨j + 1, by omega, by go_num, (by unfold Hid; rw [HC2.out, List.length_append, oes_snoc]; exact HO3.out), HB3⟩
    case measure => simp [intOf]; omega
  ·obtain rfl : j = l.length := by omega
   rw [List.take_of_length_le (Nat.le_refl _)] at HO
   go_wp2
   go_ret
   exact ⟨_, rfl, HO.out, HB.out⟩
theorem okO_iff (e : OpM) : decide (OkO e) = (((nameO e.u && (decide (1 ≤ e.n) && decide (e.n ≤ 999))) && (decide (1 ≤ e.s) && decide (e.s ≤ 4))) && (decide (0 ≤ e.f) && decide (e.f ≤ 1099511627775))) := by
 rw [Bool.eq_iff_iff, decide_eq_true_iff]
 simp only [Bool.and_eq_true, decide_eq_true_eq]
 unfold OkO
 constructor
 ·rintro ⟨h1, h2, h3, h4, h5, h6, h7⟩
  exact ⟨⟨⟨h1, h2, h3⟩, h4, h5⟩, h6, h7⟩
 ·rintro ⟨⟨⟨h1, h2, h3⟩, h4, h5⟩, h6, h7⟩
  exact ⟨h1, h2, h3, h4, h5, h6, h7⟩
set_option maxHeartbeats 4000000 in
theorem oright_any (e : OpM) (w : World) (hs : e.u.size ≤ maxLen) : Calls Tryz.prog 125 #[opV e] w fun r w' => r = .returned (.bool (decide (OkO e))) ∧ Below w.heap.size w w' := by
 rw [okO_iff]
 have HR : Hid (∀ W, Calls Tryz.prog 127 #[.string e.u] W fun r w' => r = .returned (.bool (nameO e.u)) ∧ W = w') := fun W => right_any e.u W hs
 have HW := Lib.hid within_any
 have HB := Lib.hid (below_one w (.cells #[.int .i64 e.n, .string e.u, .int .i64 e.s, .int .i64 e.f] 112))
 obtain ⟨d0, d1, d2, d3⟩ := cells4 (heap_alloc_new w (.cells #[.int .i64 e.n, .string e.u, .int .i64 e.s, .int .i64 e.f] 112))
 unfold opV
 clear hs
 generalize nameO e.u = b0 at *
 have HW1 : Hid (∀ W, Calls Tryz.prog 177 #[.int .i64 e.n, .int .i64 1, .int .i64 999] W fun r w' => r = .returned (.bool (decide (1 ≤ e.n) && decide (e.n ≤ 999))) ∧ w' = W) := fun W => HW.out _ _ _ W
 have HW2 : Hid (∀ W, Calls Tryz.prog 177 #[.int .i64 e.s, .int .i64 1, .int .i64 4] W fun r w' => r = .returned (.bool (decide (1 ≤ e.s) && decide (e.s ≤ 4))) ∧ w' = W) := fun W => HW.out _ _ _ W
 have HW3 : Hid (∀ W, Calls Tryz.prog 177 #[.int .i64 e.f, .int .i64 0, .int .i64 1099511627775] W fun r w' => r = .returned (.bool (decide (0 ≤ e.f) && decide (e.f ≤ 1099511627775))) ∧ w' = W) := fun W => HW.out _ _ _ W
 clear HW
 generalize (decide (1 ≤ e.n) && decide (e.n ≤ 999)) = b1 at *
 generalize (decide (1 ≤ e.s) && decide (e.s ≤ 4)) = b2 at *
 generalize (decide (0 ≤ e.f) && decide (e.f ≤ 1099511627775)) = b3 at *
 cases b0 with
 | false =>
  go_enter Tryz.func125, Tryz.ntmps125
  go_wp2_with fail
  refine (HR.out _).mono ?_
  rintro r w1 ⟨rfl, rfl⟩
  go_wp2
  go_ret
  exact ⟨by simp, HB.out⟩
 | true =>
  cases b1 with
  | false =>
   go_enter Tryz.func125, Tryz.ntmps125
   go_wp2_with fail
   refine (HR.out _).mono ?_
   rintro r w1 ⟨rfl, rfl⟩
   go_wp2_with fail
   refine (HW1.out _).mono ?_
   rintro r w1 ⟨rfl, rfl⟩
   go_wp2
   go_ret
   exact ⟨by simp, HB.out⟩
  | true =>
   cases b2 with
   | false =>
    go_enter Tryz.func125, Tryz.ntmps125
    go_wp2_with fail
    refine (HR.out _).mono ?_
    rintro r w1 ⟨rfl, rfl⟩
    go_wp2_with fail
    refine (HW1.out _).mono ?_
    rintro r w1 ⟨rfl, rfl⟩
    go_wp2_with fail
    refine (HW2.out _).mono ?_
    rintro r w1 ⟨rfl, rfl⟩
    go_wp2
    go_ret
    exact ⟨by simp, HB.out⟩
   | true =>
    go_enter Tryz.func125, Tryz.ntmps125
    go_wp2_with fail
    refine (HR.out _).mono ?_
    rintro r w1 ⟨rfl, rfl⟩
    go_wp2_with fail
    refine (HW1.out _).mono ?_
    rintro r w1 ⟨rfl, rfl⟩
    go_wp2_with fail
    refine (HW2.out _).mono ?_
    rintro r w1 ⟨rfl, rfl⟩
    go_wp2_with fail
    refine (HW3.out _).mono ?_
    rintro r w1 ⟨rfl, rfl⟩
    go_wp2
    go_ret
    exact ⟨by simp, HB.out⟩
def RiTo (l : List OpM) (j : Nat) : Prop := ∀ k (h : k < l.length), k < j → OkO l[k] ∧ (0 < k → (l[k - 1]'(by omega)).n < l[k].n)
theorem RiTo.zero (l : List OpM) : RiTo l 0 := fun k _ h => absurd h (by omega)
theorem RiTo.next {l : List OpM} {j : Nat} (h : RiTo l j) (hj : j < l.length) (h1 : OkO l[j]) (h2 : 0 < j → (l[j - 1]'(by omega)).n < l[j].n) : RiTo l (j + 1) := fun k hk hkj => by
 rcases Nat.lt_or_ge k j with h3 | h3
 ·exact h k hk h3
 ·obtain rfl : k = j := by omega
  exact ⟨h1, h2⟩
theorem rise_yes {l : List OpM} (h0 : l.length ≤ 16) (h : RiTo l l.length) : decide (RiseO l) = true := decide_eq_true ⟨h0, fun k hk => h k hk hk⟩
theorem rise_no1 {l : List OpM} {j : Nat} (hj : j < l.length) (h : ¬ OkO l[j]) : decide (RiseO l) = false := decide_eq_false fun hr => h (hr.2 j hj).1
theorem rise_no2 {l : List OpM} {j : Nat} (hj : j < l.length) (h0 : 0 < j) (h : ¬ (l[j - 1]'(by omega)).n < l[j].n) : decide (RiseO l) = false := decide_eq_false fun hr => h ((hr.2 j hj).2 h0)
theorem rise_no3 {l : List OpM} (h : 16 < l.length) : decide (RiseO l) = false := decide_eq_false fun hr => by have := hr.1; omega
set_option maxHeartbeats 8000000 in
theorem orising_any (a : Option Addr) (c : Nat) (l : List OpM) (w : World) (hr : OpSl w a l) (hsz : SzO l) (hl : l.length ≤ 1000000) :
  Calls Tryz.prog 59 #[.slice a l.length c] w fun e w' => e = .returned (.bool (decide (RiseO l))) ∧ Below w.heap.size w w' := by
 have HR := Lib.hid hr
 have HRT := Lib.hid (fun x (h : x ∈ l) W => oright_any x W (hsz x h))
 unfold opV at HRT
 clear hr hsz
 by_cases h16 : 16 < l.length
 ·have d1 : decide ((16 : Int) < (l.length : Int)) = true := decide_eq_true (by omega)
  have d2 : decide ((l.length : Int) > (16 : Int)) = true := decide_eq_true (by omega)
  have HF := Lib.hid (rise_no3 h16)
  clear HRT HR
  go_enter Tryz.func59, Tryz.ntmps59
  go_wp2
  go_ret
  exact ⟨by rw [HF.out]; rfl, Below.refl _ _⟩
 ·have d1 : decide ((16 : Int) < (l.length : Int)) = false := decide_eq_false (by omega)
  have d2 : decide ((l.length : Int) > (16 : Int)) = false := decide_eq_false (by omega)
  have HY := Lib.hid (fun h => rise_yes (l := l) (by omega) h)
  go_enter Tryz.func59, Tryz.ntmps59
  go_wp2
  clear d1 d2
  go_loopw [10] (fun i wr => ∃ (j : Nat), j ≤ l.length ∧ i = .int .i64 j ∧ Hid (RiTo l j) ∧ Hid (Below w.heap.size w wr)) (fun i _ => l.length - (intOf i).toNat)
  case atStart => exact ⟨0, by omega, rfl, RiTo.zero _, Below.refl _ _⟩
  case round =>
   obtain ⟨j, hj, rfl, HO, HB⟩ := hrel
   by_cases hjl : j < l.length
   ·obtain ⟨b, off, rfl, hbl, hc0, hc1, hc2, hc3⟩ := (HR.out.below HB.out).at_ hjl
    have HK := Lib.hid (RsO.new (x := l[j]) (HR.out.below HB.out) HB.out 112)
    have HNX := Lib.hid (HO.out.next hjl)
    have HRX := Lib.hid (HRT.out l[j] (List.getElem_mem hjl))
    clear HRT HY
    by_cases h1 : OkO l[j]
    ·rw [decide_eq_true h1] at HRX
     have HNX2 := Lib.hid (HNX.out h1)
     by_cases h0 : 0 < j
     ·obtain ⟨k, hk⟩ : ∃ k, j = k + 1 := ⟨j - 1, by omega⟩
      have hkl : k < l.length := by omega
      have hpw : IntKind.i64.wrap ((j : Int) - 1) = (k : Int) := by rw [IntWalk.i64_in] <;> omega
      have hgt : decide ((0 : Int) < (j : Int)) = true := decide_eq_true (by omega)
      have HP0 : Hid (∀ W, RsO w wr.heap.size l[j] (some ⟨b, off, none⟩) l W → W.cell? ⟨wr.heap.size, 0, none⟩ = some (.int .i64 l[j].n) ∧ W.cell? ⟨wr.heap.size, 1, none⟩ = some (.string l[j].u) ∧ W.cell? ⟨wr.heap.size, 2, none⟩ = some (.int .i64 l[j].s) ∧ W.cell? ⟨wr.heap.size, 3, none⟩ = some (.int .i64 l[j].f) ∧ W.cell? ⟨b, off + k * 4, none⟩ = some (.int .i64 l[k].n)) := fun W h => by
       obtain ⟨p0, p1, p2, p3, p4, -⟩ := h.at_ hkl
       exact ⟨p0, p1, p2, p3, p4⟩
      have hkp : ∀ h, l[j - 1]'h = l[k] := fun h => by congr 1; omega
      have HNX3 : Hid (l[k].n < l[j].n → RiTo l (j + 1)) := fun h => HNX2.out (fun _ => by rw [hkp]; exact h)
      have HNP3 : Hid (¬ l[k].n < l[j].n → decide (RiseO l) = false) := fun h => rise_no2 hjl h0 (by rw [hkp]; exact h)
      clear HNX HNX2 hkp hk h1
      generalize l[k] = y at *
      generalize l[j] = x at *
      by_cases h3 : y.n < x.n
      ·have HN := Lib.hid (HNX3.out h3)
       have d3 : decide (x.n ≤ y.n) = false := decide_eq_false (by omega)
       clear HNX3 HNP3 h3
       go_wp2_with fail
       generalize wr.alloc (.cells #[.int .i64 x.n, .string x.u, .int .i64 x.s, .int .i64 x.f] 112) = W at *
       generalize wr.heap.size = g at *
       refine wp_region_held_drew (S := (fun W => W.cell? ⟨g, 0, none⟩ = some (.int .i64 x.n) ∧ W.cell? ⟨g, 1, none⟩ = some (.string x.u) ∧ W.cell? ⟨g, 2, none⟩ = some (.int .i64 x.s) ∧ W.cell? ⟨g, 3, none⟩ = some (.int .i64 x.f) ∧ W.cell? ⟨b, off + k * 4, none⟩ = some (.int .i64 y.n))) (by kernel_rfl) ?_ (fun hHeld => ?_)
       ·exact HP0.out _ (HK.out.below (Below.refl _ _).drew)
       refine tV 0 15 ?_
       refine wpAnyH_ready (rs := [1]) (by kernel_rfl) (by simp) ?_
       refine AllReadyH.cons (o := ⟨some 16, _, _, _, _, _⟩) rfl (fun K hK => ?_) AllReadyH.nil
       go_simp
       refine (HRX.out _).mono ?_
       rintro e w3 ⟨rfl, h3⟩
       have K3 := (HK.out.below (Below.refl _ _).drew).below h3
       go_wp2_with fail
       refine hK.out _ _ ?_ (fun hH1 => ?_)
       ·exact HP0.out _ K3
       clear hK K
       (try simp only [Act.put, List.setIfInBounds_toArray, List.set_cons_zero, List.set_cons_succ])
       refine tV 2 17 ?_
       refine tV 3 18 ?_
       refine tV 4 19 ?_
       refine tV 5 20 ?_
       refine tV 6 21 ?_
       refine tV 7 22 ?_
       refine tV 8 23 ?_
       refine tV 9 24 ?_
       refine tV 10 25 ?_
       refine tV 11 26 ?_
       refine tV 12 27 ?_
       refine tV 13 28 ?_
       refine tV 14 29 ?_
       refine tV 15 30 ?_
       refine tV 16 31 ?_
       refine tV 17 32 ?_
       refine wpAnyH_done (by kernel_rfl) ?_ _
       all_goals
        go_wp2
        go_roundw
        case rel => exact ⟨j + 1, by omega, by go_num, HN, K3.frame⟩
        case measure => simp [intOf]; omega
      ·have HF := Lib.hid (HNP3.out h3)
       have d3 : decide (x.n ≤ y.n) = true := decide_eq_true (by omega)
       clear HNX3 HNP3 h3
       go_wp2_with fail
       generalize wr.alloc (.cells #[.int .i64 x.n, .string x.u, .int .i64 x.s, .int .i64 x.f] 112) = W at *
       generalize wr.heap.size = g at *
       refine wp_region_held_drew (S := (fun W => W.cell? ⟨g, 0, none⟩ = some (.int .i64 x.n) ∧ W.cell? ⟨g, 1, none⟩ = some (.string x.u) ∧ W.cell? ⟨g, 2, none⟩ = some (.int .i64 x.s) ∧ W.cell? ⟨g, 3, none⟩ = some (.int .i64 x.f) ∧ W.cell? ⟨b, off + k * 4, none⟩ = some (.int .i64 y.n))) (by kernel_rfl) ?_ (fun hHeld => ?_)
       ·exact HP0.out _ (HK.out.below (Below.refl _ _).drew)
       refine tV 0 15 ?_
       refine wpAnyH_ready (rs := [1]) (by kernel_rfl) (by simp) ?_
       refine AllReadyH.cons (o := ⟨some 16, _, _, _, _, _⟩) rfl (fun K hK => ?_) AllReadyH.nil
       go_simp
       refine (HRX.out _).mono ?_
       rintro e w3 ⟨rfl, h3⟩
       have K3 := (HK.out.below (Below.refl _ _).drew).below h3
       go_wp2_with fail
       refine hK.out _ _ ?_ (fun hH1 => ?_)
       ·exact HP0.out _ K3
       clear hK K
       (try simp only [Act.put, List.setIfInBounds_toArray, List.set_cons_zero, List.set_cons_succ])
       refine tV 2 17 ?_
       refine tV 3 18 ?_
       refine tV 4 19 ?_
       refine tV 5 20 ?_
       refine tV 6 21 ?_
       refine tV 7 22 ?_
       refine tV 8 23 ?_
       refine tV 9 24 ?_
       refine tV 10 25 ?_
       refine tV 11 26 ?_
       refine tV 12 27 ?_
       refine tV 13 28 ?_
       refine tV 14 29 ?_
       refine tV 15 30 ?_
       refine tV 16 31 ?_
       refine tV 17 32 ?_
       refine wpAnyH_done (by kernel_rfl) ?_ _
       all_goals
        go_wp2
        go_ret
        exact ⟨by rw [HF.out]; rfl, K3.frame⟩
     ·have HN := Lib.hid (HNX2.out (fun h => absurd h h0))
      have hgt : decide ((0 : Int) < (j : Int)) = false := decide_eq_false (by omega)
      clear HNX HNX2 h1
      generalize l[j] = x at *
      go_wp2_with fail
      generalize wr.alloc (.cells #[.int .i64 x.n, .string x.u, .int .i64 x.s, .int .i64 x.f] 112) = W at *
      generalize wr.heap.size = g at *
      refine wp_region_held_drew (S := (fun W => W.cell? ⟨g, 0, none⟩ = some (.int .i64 x.n) ∧ W.cell? ⟨g, 1, none⟩ = some (.string x.u) ∧ W.cell? ⟨g, 2, none⟩ = some (.int .i64 x.s) ∧ W.cell? ⟨g, 3, none⟩ = some (.int .i64 x.f))) (by kernel_rfl) ?_ (fun hHeld => ?_)
      ·exact (HK.out.below (Below.refl _ _).drew).box
      refine tV 0 15 ?_
      refine wpAnyH_ready (rs := [1]) (by kernel_rfl) (by simp) ?_
      refine AllReadyH.cons (o := ⟨some 16, _, _, _, _, _⟩) rfl (fun K hK => ?_) AllReadyH.nil
      go_simp
      refine (HRX.out _).mono ?_
      rintro e w3 ⟨rfl, h3⟩
      have K3 := (HK.out.below (Below.refl _ _).drew).below h3
      go_wp2_with fail
      refine hK.out _ _ ?_ (fun hH1 => ?_)
      ·exact K3.box
      clear hK K
      (try simp only [Act.put, List.setIfInBounds_toArray, List.set_cons_zero, List.set_cons_succ])
      refine tV 2 17 ?_
      refine tV 3 18 ?_
      refine tV 4 19 ?_
      refine tV 5 20 ?_
      refine tV 6 21 ?_
      refine tU 7 22 ?_
      refine tU 8 23 ?_
      refine tU 9 24 ?_
      refine tU 10 25 ?_
      refine tU 11 26 ?_
      refine tU 12 27 ?_
      refine tU 13 28 ?_
      refine tU 14 29 ?_
      refine tU 15 30 ?_
      refine tV 16 31 ?_
      refine tV 17 32 ?_
      refine wpAnyH_done (by kernel_rfl) ?_ _
      all_goals
       go_wp2
       go_roundw
       case rel => exact ⟨j + 1, by omega, by go_num, HN, K3.frame⟩
       case measure => simp [intOf]; omega
    ·have HF := Lib.hid (rise_no1 hjl h1)
     rw [decide_eq_false h1] at HRX
     clear HNX h1
     generalize l[j] = x at *
     go_wp2_with fail
     generalize wr.alloc (.cells #[.int .i64 x.n, .string x.u, .int .i64 x.s, .int .i64 x.f] 112) = W at *
     generalize wr.heap.size = g at *
     refine wp_region_held_drew (S := (fun W => W.cell? ⟨g, 0, none⟩ = some (.int .i64 x.n) ∧ W.cell? ⟨g, 1, none⟩ = some (.string x.u) ∧ W.cell? ⟨g, 2, none⟩ = some (.int .i64 x.s) ∧ W.cell? ⟨g, 3, none⟩ = some (.int .i64 x.f))) (by kernel_rfl) ?_ (fun hHeld => ?_)
     ·exact (HK.out.below (Below.refl _ _).drew).box
     refine tV 0 15 ?_
     refine wpAnyH_ready (rs := [1]) (by kernel_rfl) (by simp) ?_
     refine AllReadyH.cons (o := ⟨some 16, _, _, _, _, _⟩) rfl (fun K hK => ?_) AllReadyH.nil
     go_simp
     refine (HRX.out _).mono ?_
     rintro e w3 ⟨rfl, h3⟩
     have K3 := (HK.out.below (Below.refl _ _).drew).below h3
     go_wp2_with fail
     refine hK.out _ _ ?_ (fun hH1 => ?_)
     ·exact K3.box
     clear hK K
     (try simp only [Act.put, List.setIfInBounds_toArray, List.set_cons_zero, List.set_cons_succ])
     refine tV 2 17 ?_
     refine tV 3 18 ?_
     refine tU 4 19 ?_
     refine tU 5 20 ?_
     refine tU 6 21 ?_
     refine tU 7 22 ?_
     refine tU 8 23 ?_
     refine tU 9 24 ?_
     refine tU 10 25 ?_
     refine tU 11 26 ?_
     refine tU 12 27 ?_
     refine tU 13 28 ?_
     refine tU 14 29 ?_
     refine tU 15 30 ?_
     refine tU 16 31 ?_
     refine tV 17 32 ?_
     refine wpAnyH_done (by kernel_rfl) ?_ _
     all_goals
      go_wp2
      go_ret
      exact ⟨by rw [HF.out]; rfl, K3.frame⟩
   ·obtain rfl : j = l.length := by omega
    have HE := Lib.hid (HY.out HO.out)
    go_wp2
    go_ret
    exact ⟨by rw [HE.out]; rfl, HB.out⟩
set_option maxHeartbeats 8000000 in
theorem rrising_any (a : Option Addr) (c : Nat) (l : List OpM) (w : World) (hr : OpSl w a l) (hsz : SzO l) (hl : l.length ≤ 1000000) :
  Calls Tryz.prog 35 #[.slice a l.length c] w fun e w' => e = .returned (.bool (decide (RiseO l))) ∧ Below w.heap.size w w' := by
 have HR := Lib.hid hr
 have HRT : Hid (∀ x (h : x ∈ l) W, Calls Tryz.prog 37 #[.string x.u] W fun e w' => e = .returned (.bool (nameO x.u)) ∧ W = w') := fun x h W => refRight_any x.u W (hsz x h)
 clear hr hsz
 by_cases h16 : 16 < l.length
 ·have d1 : decide ((16 : Int) < (l.length : Int)) = true := decide_eq_true (by omega)
  have d2 : decide ((l.length : Int) > (16 : Int)) = true := decide_eq_true (by omega)
  have HF := Lib.hid (rise_no3 h16)
  clear HRT HR
  go_enter Tryz.func35, Tryz.ntmps35
  go_wp2
  go_ret
  exact ⟨by rw [HF.out]; rfl, Below.refl _ _⟩
 ·have d1 : decide ((16 : Int) < (l.length : Int)) = false := decide_eq_false (by omega)
  have d2 : decide ((l.length : Int) > (16 : Int)) = false := decide_eq_false (by omega)
  have HY := Lib.hid (fun h => rise_yes (l := l) (by omega) h)
  go_enter Tryz.func35, Tryz.ntmps35
  go_wp2
  clear d1 d2
  go_loopw [3] (fun i wr => ∃ (j : Nat), j ≤ l.length ∧ i = .int .i64 j ∧ Hid (RiTo l j) ∧ Hid (Below w.heap.size w wr)) (fun i _ => l.length - (intOf i).toNat)
  case atStart => exact ⟨0, by omega, rfl, RiTo.zero _, Below.refl _ _⟩
  case round =>
   obtain ⟨j, hj, rfl, HO, HB⟩ := hrel
   by_cases hjl : j < l.length
   ·obtain ⟨b, off, rfl, hbl, hc0, hc1, hc2, hc3⟩ := (HR.out.below HB.out).at_ hjl
    have HK := Lib.hid (RsO.new (x := l[j]) (HR.out.below HB.out) HB.out 75)
    have HNX := Lib.hid (HO.out.next hjl)
    have HRX := Lib.hid (HRT.out l[j] (List.getElem_mem hjl))
    obtain ⟨e0, e1, e2, e3⟩ := HK.out.box
    clear HRT HY
    cases hn : nameO l[j].u with
    | false =>
     have HF := Lib.hid (rise_no1 hjl (fun h => by rw [h.1] at hn; cases hn))
     rw [hn] at HRX
     clear HNX hn
     generalize l[j] = x at *
     go_wp2_with fail
     refine (HRX.out _).mono ?_
     rintro e w3 ⟨rfl, rfl⟩
     go_wp2
     go_ret
     exact ⟨by rw [HF.out]; rfl, HK.out.frame⟩
    | true =>
     rw [hn] at HRX
     have HNO := Lib.hid (fun h => rise_no1 hjl h)
     have HYE : Hid (1 ≤ l[j].n → l[j].n ≤ 999 → 1 ≤ l[j].s → l[j].s ≤ 4 → 0 ≤ l[j].f → l[j].f ≤ 1099511627775 → OkO l[j]) := fun h1 h2 h3 h4 h5 h6 => ⟨hn, h1, h2, h3, h4, h5, h6⟩
     have HN2 := Lib.hid (fun h0 h => rise_no2 hjl h0 h)
     clear hn
     by_cases c0 : l[j].n < 1
     ·have HF := Lib.hid (HNO.out (fun h => by have := h.2.1; omega))
      have g0 := decide_eq_true c0
      clear HNX HNO HYE HN2 c0
      generalize l[j] = x at *
      go_wp2_with fail
      refine (HRX.out _).mono ?_
      rintro e w3 ⟨rfl, rfl⟩
      go_wp2
      go_ret
      exact ⟨by rw [HF.out]; rfl, HK.out.frame⟩
     ·have g0 := decide_eq_false c0
      by_cases c1 : 999 < l[j].n
      ·have HF := Lib.hid (HNO.out (fun h => by have := h.2.2.1; omega))
       have g1 := decide_eq_true c1
       clear HNX HNO HYE HN2 c1
       generalize l[j] = x at *
       go_wp2_with fail
       refine (HRX.out _).mono ?_
       rintro e w3 ⟨rfl, rfl⟩
       go_wp2
       go_ret
       exact ⟨by rw [HF.out]; rfl, HK.out.frame⟩
      ·have g1 := decide_eq_false c1
       by_cases c2 : l[j].s < 1
       ·have HF := Lib.hid (HNO.out (fun h => by have := h.2.2.2.1; omega))
        have g2 := decide_eq_true c2
        clear HNX HNO HYE HN2 c2
        generalize l[j] = x at *
        go_wp2_with fail
        refine (HRX.out _).mono ?_
        rintro e w3 ⟨rfl, rfl⟩
        go_wp2
        go_ret
        exact ⟨by rw [HF.out]; rfl, HK.out.frame⟩
       ·have g2 := decide_eq_false c2
        by_cases c3 : 4 < l[j].s
        ·have HF := Lib.hid (HNO.out (fun h => by have := h.2.2.2.2.1; omega))
         have g3 := decide_eq_true c3
         clear HNX HNO HYE HN2 c3
         generalize l[j] = x at *
         go_wp2_with fail
         refine (HRX.out _).mono ?_
         rintro e w3 ⟨rfl, rfl⟩
         go_wp2
         go_ret
         exact ⟨by rw [HF.out]; rfl, HK.out.frame⟩
        ·have g3 := decide_eq_false c3
         by_cases c4 : l[j].f < 0
         ·have HF := Lib.hid (HNO.out (fun h => by have := h.2.2.2.2.2.1; omega))
          have g4 := decide_eq_true c4
          clear HNX HNO HYE HN2 c4
          generalize l[j] = x at *
          go_wp2_with fail
          refine (HRX.out _).mono ?_
          rintro e w3 ⟨rfl, rfl⟩
          go_wp2
          go_ret
          exact ⟨by rw [HF.out]; rfl, HK.out.frame⟩
         ·have g4 := decide_eq_false c4
          by_cases c5 : 1099511627776 ≤ l[j].f
          ·have HF := Lib.hid (HNO.out (fun h => by have := h.2.2.2.2.2.2; omega))
           have g5 := decide_eq_true c5
           clear HNX HNO HYE HN2 c5
           generalize l[j] = x at *
           go_wp2_with fail
           refine (HRX.out _).mono ?_
           rintro e w3 ⟨rfl, rfl⟩
           go_wp2
           go_ret
           exact ⟨by rw [HF.out]; rfl, HK.out.frame⟩
          ·have g5 := decide_eq_false c5
           have HNX2 := Lib.hid (HNX.out (HYE.out (by omega) (by omega) (by omega) (by omega) (by omega) (by omega)))
           clear HNX HNO HYE c0 c1 c2 c3 c4 c5
           by_cases h0 : 0 < j
           ·obtain ⟨k, hk⟩ : ∃ k, j = k + 1 := ⟨j - 1, by omega⟩
            have hkl : k < l.length := by omega
            have hpw : IntKind.i64.wrap ((j : Int) - 1) = (k : Int) := by rw [IntWalk.i64_in] <;> omega
            have hgt : decide ((0 : Int) < (j : Int)) = true := decide_eq_true (by omega)
            obtain ⟨-, -, -, -, p4, -, -, -⟩ := HK.out.at_ hkl
            have hkp : ∀ h, l[j - 1]'h = l[k] := fun h => by congr 1; omega
            have HNX3 : Hid (l[k].n < l[j].n → RiTo l (j + 1)) := fun h => HNX2.out (fun _ => by rw [hkp]; exact h)
            have HNP3 : Hid (¬ l[k].n < l[j].n → decide (RiseO l) = false) := fun h => HN2.out h0 (by rw [hkp]; exact h)
            clear HNX2 HN2 hkp hk
            generalize l[k] = y at *
            generalize l[j] = x at *
            by_cases h3 : y.n < x.n
            ·have HN := Lib.hid (HNX3.out h3)
             have d3 : decide (x.n ≤ y.n) = false := decide_eq_false (by omega)
             clear HNX3 HNP3 h3
             go_wp2_with fail
             refine (HRX.out _).mono ?_
             rintro e w3 ⟨rfl, rfl⟩
             go_wp2
             go_quiet (fail)
             go_wp2
             go_roundw
             case rel => exact ⟨j + 1, by omega, by go_num, HN, HK.out.frame.trans (Drew.below ⟨_, rfl⟩ _)⟩
             case measure => simp [intOf]; omega
            ·have HF := Lib.hid (HNP3.out h3)
             have d3 : decide (x.n ≤ y.n) = true := decide_eq_true (by omega)
             clear HNX3 HNP3 h3
             go_wp2_with fail
             refine (HRX.out _).mono ?_
             rintro e w3 ⟨rfl, rfl⟩
             go_wp2
             go_quiet (fail)
             go_wp2
             go_ret
             exact ⟨by rw [HF.out]; rfl, HK.out.frame.trans (Drew.below ⟨_, rfl⟩ _)⟩
           ·have HN := Lib.hid (HNX2.out (fun h => absurd h h0))
            have hgt : decide ((0 : Int) < (j : Int)) = false := decide_eq_false (by omega)
            clear HNX2 HN2
            generalize l[j] = x at *
            go_wp2_with fail
            refine (HRX.out _).mono ?_
            rintro e w3 ⟨rfl, rfl⟩
            go_wp2
            go_quiet (fail)
            go_wp2
            go_roundw
            case rel => exact ⟨j + 1, by omega, by go_num, HN, HK.out.frame.trans (Drew.below ⟨_, rfl⟩ _)⟩
            case measure => simp [intOf]; omega
   ·obtain rfl : j = l.length := by omega
    have HE := Lib.hid (HY.out HO.out)
    go_wp2
    go_ret
    exact ⟨by rw [HE.out]; rfl, HB.out⟩
end Go.Proofs.YtjhdhfokhkcamaaGreat
