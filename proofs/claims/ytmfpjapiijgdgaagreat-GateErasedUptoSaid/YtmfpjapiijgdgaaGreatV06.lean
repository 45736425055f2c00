/- Texts of mine, one behind the other, of each what is wanted. -/
import Derived.Test.YtmfpjapiijgdgaaGreatV00
import Derived.Test.YtmfpjapiijgdgaaGreatShelf
import Derived.Test.YtmfpjapiijgdgaaGreatV01
import Derived.Test.YtmfpjapiijgdgaaGreatV04
import Derived.Test.YtmfpjapiijgdgaaGreatTQ
namespace Go.Proofs.YtmfpjapiijgdgaaGreat
open Go.RowKit Go.Sort Go.Proofs
set_option linter.unusedVariables false
set_option maxRecDepth 100000
set_option maxRecDepth 100000
instance : Inhabited SpM := ⟨⟨0, 0⟩⟩
def encS (s : SpM) : List Value := [.int .i64 s.f, .int .i64 s.t]
def cfS (x y : SpM) : Int := Lib.compareInt x.f y.f
theorem ltS (x y : SpM) : ltOf cfS x y = decide (x.f < y.f) := by
 unfold ltOf cfS Lib.compareInt
 by_cases h1 : x.f < y.f
 ·simp [h1]
 ·by_cases h2 : y.f < x.f <;> simp [h1, h2]
theorem swoS : SWO (ltOf cfS) where
 irrefl x := by rw [ltS]; simp
 trans x y z h1 h2 := by rw [ltS] at *; simp at *; omega
 ntrans x y z h1 h2 := by rw [ltS] at *; simp at *; omega
set_option maxHeartbeats 1000000 in
theorem closure_any (x y : SpM) (W : World) : Calls Tryz.prog 210 #[.agg #[.int .i64 x.f, .int .i64 x.t], .agg #[.int .i64 y.f, .int .i64 y.t]] W fun e w' => e = .returned (.int .i64 (cfS x y)) ∧ ∃ q os', w' = grow (W.drewN q) os' := by
 have hcon := fun W' => AnyG.cmp_Compare_int Tryz.laysCompare x.f y.f W'
 change ∀ W', Calls Tryz.prog 168 _ _ _ at hcon
 unfold cfS
 generalize Lib.compareInt x.f y.f = r at hcon ⊢
 go_enter Tryz.func210, Tryz.ntmps210
 go_wp2_with (go_at_call 168; refine (hcon _).mono ?_; rintro e w' ⟨rfl, rfl⟩)
 go_ret
 exact ⟨rfl, 0, _, by rw [alloc_eq_grow, alloc_eq_grow, grow_grow]; rfl⟩
theorem flat_sps (l : List SpM) (t : Nat) (h : t < l.length * 2) : (sps l)[t]? = some ((flatK encS 2 l.toArray)[t]!) := by
 rw [get_flatK encS 2 l.toArray t (by simpa using h)]
 have hk : t / 2 < l.length := by omega
 have hd : (t = t / 2 * 2 ∧ t % 2 = 0) ∨ (t = t / 2 * 2 + 1 ∧ t % 2 = 1) := by omega
 obtain ⟨g1, g2⟩ := sps_get l (t / 2) hk
 have he : l.toArray[t / 2]! = l[t / 2] := by simp [hk]
 rw [he]
 rcases hd with ⟨h1, h2⟩ | ⟨h1, h2⟩
 ·rw [← h1] at g1
  rw [h2, g1]
  rfl
 ·rw [← h1] at g2
  rw [h2, g2]
  rfl
theorem heap_sortedS {w : World} {g n : Nat} {os : Array Obj} {cur : Array Value} {e : TypeId} {fr : Nat × Nat} (d : Array SpM) (hb : w.heap[g]? = some (.cells cur e fr)) :
  (sortWorldK encS 2 w g 0 n d os).heap[g]? = some (.cells (putCells id 0 (flatK encS 2 d) cur) e fr) := by
 have hg : g < w.heap.size := (Array.getElem?_eq_some_iff.1 hb).1
 unfold sortWorldK putRowK
 rw [heap_grow_old _ _ (by simpa using hg)]
 simp [putRow, mapBlock, Sort.ahead, Array.getElem?_modify, hb, onCells]
theorem grownBy_sortedS {w : World} {g n : Nat} {os : Array Obj} (d : Array SpM) : w.grownBy (sortWorldK encS 2 w g 0 n d os) (some g) := by
 unfold sortWorldK putRowK
 refine ⟨rfl, rfl, rfl, by simp, fun k hk hne => ?_⟩
 rw [heap_grow_old _ _ (by simpa using hk)]
 have : g ≠ k := fun e => hne (by rw [e])
 simp [putRow, mapBlock, Sort.ahead, Array.getElem?_modify, this]
theorem take_putS (cur : Array Value) (m : List SpM) (h : m.length * 2 ≤ cur.size) : (putCells id 0 (flatK encS 2 m.toArray) cur).toList.take (m.length * 2) = sps m := by
 apply List.ext_getElem?
 intro j
 by_cases hj : j < m.length * 2
 ·rw [List.getElem?_take_of_lt hj, Array.getElem?_toList, flat_sps m j hj]
  simp [putCells, hj, show j < cur.size by omega]
 ·rw [List.getElem?_take_eq_none (by omega), List.getElem?_eq_none (by rw [sps_len]; omega)]
set_option maxHeartbeats 2000000 in
theorem sort_any (B : Nat) (v : Value) (l : List SpM) (w : World) (hB : B ≤ w.heap.size) (ho : w.ownsRow B 90 2 v l.length (sps l)) (hl : l.length ≤ 1000000) :
  Calls Tryz.prog 209 #[v, .func (.func 210) #[] #[]] w fun e w' => e = .returned (.tuple #[]) ∧ ∃ m : List SpM, m.Perm l ∧ m.Pairwise (fun a b => a.f ≤ b.f) ∧ w'.ownsRow B 90 2 v m.length (sps m) ∧ Below B w w' := by
 cases hll : l with
 | nil =>
  subst hll
  obtain ⟨a, c, rfl, hc, _⟩ := own_sp ho
  refine (AnyF.slices_SortFunc_none Tryz.laysSortFunc a c _ w).mono ?_
  rintro e w' ⟨rfl, rfl⟩
  exact ⟨rfl, [], List.Perm.refl _, List.Pairwise.nil, ho, Below.refl _ _⟩
 | cons x l' =>
  rw [← hll]
  rcases ho.2 with ⟨_, h0⟩ | ⟨g, cap, cur, rfl, hg, hb, hn, hcm, hsz, ht⟩
  ·rw [hll] at h0; simp at h0
  have hH : HoldsK encS 2 w g 0 l.toArray := fun j hj => by
   have hj' : j < l.length * 2 := by simpa using hj
   rw [Nat.zero_add]
   exact ⟨by rw [ho.cellAt j hj', flat_sps l j hj']; rfl, ho.frozenAt j⟩
  have eg : ∀ args w, (callFunc 210 args).run Tryz.prog w = .ok (.enter 210 args) w := enters_of Tryz.func210 (by kernel_rfl) rfl
  have hcon := AnyQ.slices_SortFunc Tryz.laysSortFunc 2 Tryz.isAgg90 Tryz.sizeOf90 encS (fun _ => rfl) (fun x v hv => by simp [encS] at hv; rcases hv with rfl | rfl <;> rfl) cfS swoS 210 #[] g 0 cap l.toArray w eg (fun _ _ _ _ x y => closure_any x y _) hH (Array.getElem?_eq_some_iff.1 hb).1 (by simp; omega)
  change Calls Tryz.prog 209 #[.slice (some ⟨g, 0, none⟩) l.length cap, _] _ _ at hcon
  refine hcon.mono ?_
  rintro e w' ⟨rfl, d', n, os, hp, hs, rfl⟩
  have hsize : d'.size = l.length := by simpa using hp.1
  have hml : d'.toList.length = l.length := by simpa using hsize
  have hpm : d'.toList.Perm l := by
   have h := hp.2.2
   simpa [Array.extract_eq_self_of_le, hsize] using h
  have hd : d'.toList.toArray = d' := by simp
  refine ⟨rfl, d'.toList, hpm, ?_, ?_, app_below (Below.refl _ _) hB ho (grownBy_sortedS d')⟩
  ·rw [List.pairwise_iff_getElem]
   intro i j hi hj hij
   have h := hs i j (Nat.zero_le _) hij (by simpa [hsize] using hj)
   rw [ltS] at h
   simp at hi hj
   simp [hi, hj] at h
   simpa using h
  ·rw [hml]
   refine ⟨by rw [sps_len, hml], .inr ⟨g, cap, _, rfl, hg, heap_sortedS d' hb, hn, hcm, by simp [putCells, hsz], ?_⟩⟩
   have := take_putS cur d'.toList (by rw [hml, hsz]; exact Nat.mul_le_mul_right _ hn)
   rw [hd, hml] at this
   exact this
end Go.Proofs.YtmfpjapiijgdgaaGreat
namespace Go.Proofs.YtmfpjapiijgdgaaGreat
open Go.RowKit
set_option linter.unusedVariables false
set_option maxRecDepth 100000
set_option maxRecDepth 100000
theorem cells_sp (W : World) (l : List SpM) (xs : Array Value) (t : TypeId) (g : Nat) (hg : g = W.heap.size) (hx : xs.toList = sps l) : SpSl (W.alloc (.cells xs t)) (some ⟨g, 0, none⟩) l := fun k hk => by
 subst hg
 obtain ⟨g1, g2⟩ := sps_get l k hk
 rw [← hx, Array.getElem?_toList] at g1 g2
 refine ⟨W.heap.size, 0, rfl, by rw [size1]; omega, ?_, ?_⟩
 ·rw [cell_of_row _ _ _ xs t (0, 0) (heap_alloc_new W _), Nat.zero_add, g1]
 ·rw [cell_of_row _ _ _ xs t (0, 0) (heap_alloc_new W _), Nat.zero_add, g2]
def EFits (e : EvM) : Prop := e.user.size ≤ maxLen ∧ e.other.size ≤ maxLen
set_option maxHeartbeats 8000000 in
theorem evright_any (e : EvM) (he : EFits e) (w : World) : Calls Tryz.prog 133 #[evV e] w fun r w' => r = .returned (.bool (rightE e)) ∧ Below w.heap.size w w' := by
 have HSH := Lib.hid (fun W => shapeOf_any e.kind W)
 have HU := Lib.hid (fun b W => rightText_any e.user b W he.1)
 have HO := Lib.hid (fun b W => rightText_any e.other b W he.2)
 have HR : Hid (rightE e = (isK e.kind && (inB 0 1099511627775 e.at_ && (rText e.user (shK e.kind).user && (rText e.other (shK e.kind).other && (inB (shK e.kind).n0 (shK e.kind).n1 e.n && inB (shK e.kind).s0 (shK e.kind).s1 e.status)))))) := rfl
 have HE : Hid (∀ W, Below (w.alloc (.cells #[.int .i64 e.kind, .int .i64 e.at_, .string e.user, .string e.other, .int .i64 e.n, .int .i64 e.status] 64)).heap.size (w.alloc (.cells #[.int .i64 e.kind, .int .i64 e.at_, .string e.user, .string e.other, .int .i64 e.n, .int .i64 e.status] 64)) W → W.heap[w.heap.size]? = some (.cells #[.int .i64 e.kind, .int .i64 e.at_, .string e.user, .string e.other, .int .i64 e.n, .int .i64 e.status] 64 (0, 0)) ∧ Below w.heap.size w W) := fun W hb => ⟨(hb.block _ (by rw [size1]; omega)).trans (heap_alloc_new w _), ((Below.refl _ _).alloc (Nat.le_refl _) _).trans (hb.mono (by rw [size1]; omega))⟩
 unfold evV shV at *
 generalize rightE e = R at *
 generalize shK e.kind = s at *
 generalize isK e.kind = ik at *
 clear he
 go_enter Tryz.func133, Tryz.ntmps133
 go_wp2_with fail
 refine (HSH.out _).mono ?_
 rintro r w1 ⟨rfl, h1⟩
 have HE1 := Lib.hid (HE.out _ h1)
 have hsz : w.heap.size < w1.heap.size := (Array.getElem?_eq_some_iff.1 HE1.out.1).1
 have HXB := Lib.hid (fun o => heap_alloc_new w1 o)
 have HEB := Lib.hid (fun o => (Below.heap_alloc w1 o _ hsz).trans HE1.out.1)
 have HBW := Lib.hid (fun o => HE1.out.2.alloc HE1.out.2.size o)
 clear h1
 go_wp2_with fail
 have hx0 := HXB.out (.cells #[.bool s.user, .bool s.other, .int .i64 s.n0, .int .i64 s.n1, .int .i64 s.s0, .int .i64 s.s1] 242)
 have he0 := HEB.out (.cells #[.bool s.user, .bool s.other, .int .i64 s.n0, .int .i64 s.n1, .int .i64 s.s0, .int .i64 s.s1] 242)
 have hb0 := HBW.out (.cells #[.bool s.user, .bool s.other, .int .i64 s.n0, .int .i64 s.n1, .int .i64 s.s0, .int .i64 s.s1] 242)
 have hX : w1.heap.size < (w1.alloc (.cells #[.bool s.user, .bool s.other, .int .i64 s.n0, .int .i64 s.n1, .int .i64 s.s0, .int .i64 s.s1] 242)).heap.size := by rw [size1]; omega
 clear HXB HEB HBW HE1 HE HSH
 generalize w1.heap.size = X at *
 generalize (w1.alloc (.cells #[.bool s.user, .bool s.other, .int .i64 s.n0, .int .i64 s.n1, .int .i64 s.s0, .int .i64 s.s1] 242)) = W0 at *
 have HSS : Hid (∀ W, Below W0.heap.size W0 W → W.cell? ⟨w.heap.size, 0, none⟩ = some (.int .i64 e.kind) ∧ W.cell? ⟨w.heap.size, 1, none⟩ = some (.int .i64 e.at_) ∧ W.cell? ⟨w.heap.size, 2, none⟩ = some (.string e.user) ∧ W.cell? ⟨w.heap.size, 3, none⟩ = some (.string e.other) ∧ W.cell? ⟨w.heap.size, 4, none⟩ = some (.int .i64 e.n) ∧ W.cell? ⟨w.heap.size, 5, none⟩ = some (.int .i64 e.status) ∧ W.cell? ⟨X, 0, none⟩ = some (.bool s.user) ∧ W.cell? ⟨X, 1, none⟩ = some (.bool s.other) ∧ W.cell? ⟨X, 2, none⟩ = some (.int .i64 s.n0) ∧ W.cell? ⟨X, 3, none⟩ = some (.int .i64 s.n1) ∧ W.cell? ⟨X, 4, none⟩ = some (.int .i64 s.s0) ∧ W.cell? ⟨X, 5, none⟩ = some (.int .i64 s.s1)) := fun W hb => by
  obtain ⟨q0, q1, q2, q3, q4, q5⟩ := (cells6 ((hb.block w.heap.size (by omega)).trans he0)).1
  exact ⟨q0, q1, q2, q3, q4, q5, (cells6 ((hb.block X hX).trans hx0)).1⟩
 have HBB : Hid (∀ W, Below W0.heap.size W0 W → Below w.heap.size w W) := fun W hb => hb0.trans (hb.mono hb0.size)
 have HB0 : Hid (Below W0.heap.size W0 W0.drew) := (Below.refl _ _).drew
 clear hx0 he0 hb0 hX hsz
 by_cases hik : ik = false
 ·rw [hik] at HR
  subst hik
  refine wp_region_held_drew (S := (fun W => W.cell? ⟨w.heap.size, 0, none⟩ = some (.int .i64 e.kind) ∧ W.cell? ⟨w.heap.size, 1, none⟩ = some (.int .i64 e.at_) ∧ W.cell? ⟨w.heap.size, 2, none⟩ = some (.string e.user) ∧ W.cell? ⟨w.heap.size, 3, none⟩ = some (.string e.other) ∧ W.cell? ⟨w.heap.size, 4, none⟩ = some (.int .i64 e.n) ∧ W.cell? ⟨w.heap.size, 5, none⟩ = some (.int .i64 e.status) ∧ W.cell? ⟨X, 0, none⟩ = some (.bool s.user) ∧ W.cell? ⟨X, 1, none⟩ = some (.bool s.other) ∧ W.cell? ⟨X, 2, none⟩ = some (.int .i64 s.n0) ∧ W.cell? ⟨X, 3, none⟩ = some (.int .i64 s.n1) ∧ W.cell? ⟨X, 4, none⟩ = some (.int .i64 s.s0) ∧ W.cell? ⟨X, 5, none⟩ = some (.int .i64 s.s1))) (by kernel_rfl) ?_ (fun hHeld => ?_)
  ·exact HSS.out _ HB0.out
  refine tV 0 11 ?_
  refine tV 1 12 ?_
  refine tU 2 13 ?_
  refine tU 3 14 ?_
  refine tU 4 15 ?_
  refine tU 5 16 ?_
  refine tV 6 17 ?_
  refine tV 7 18 ?_
  refine tU 8 19 ?_
  refine tU 9 20 ?_
  refine tU 10 21 ?_
  refine tU 11 22 ?_
  refine tU 12 23 ?_
  refine tV 13 24 ?_
  refine tV 14 25 ?_
  refine tU 15 26 ?_
  refine tU 16 27 ?_
  refine tU 17 28 ?_
  refine tU 18 29 ?_
  refine tU 19 30 ?_
  refine tV 20 31 ?_
  refine tV 21 32 ?_
  refine tU 22 33 ?_
  refine tU 23 34 ?_
  refine tU 24 35 ?_
  refine tU 25 36 ?_
  refine tU 26 37 ?_
  refine tV 27 38 ?_
  refine tV 28 39 ?_
  refine tU 29 40 ?_
  refine tU 30 41 ?_
  refine tU 31 42 ?_
  refine tU 32 43 ?_
  refine tU 33 44 ?_
  refine tV 34 45 ?_
  refine tV 35 2 ?_
  refine wpAnyH_done (by kernel_rfl) ?_ _
  all_goals
   go_wp2
   go_ret
   exact ⟨retB (by rw [HR.out]; simp), HBB.out _ HB0.out⟩
 have hik' : ik = true := by simpa using hik
 clear hik
 rw [hik'] at HR
 subst hik'
 by_cases hat : inB 0 1099511627775 e.at_ = false
 ·rw [hat] at HR
  refine wp_region_held_drew (S := (fun W => W.cell? ⟨w.heap.size, 0, none⟩ = some (.int .i64 e.kind) ∧ W.cell? ⟨w.heap.size, 1, none⟩ = some (.int .i64 e.at_) ∧ W.cell? ⟨w.heap.size, 2, none⟩ = some (.string e.user) ∧ W.cell? ⟨w.heap.size, 3, none⟩ = some (.string e.other) ∧ W.cell? ⟨w.heap.size, 4, none⟩ = some (.int .i64 e.n) ∧ W.cell? ⟨w.heap.size, 5, none⟩ = some (.int .i64 e.status) ∧ W.cell? ⟨X, 0, none⟩ = some (.bool s.user) ∧ W.cell? ⟨X, 1, none⟩ = some (.bool s.other) ∧ W.cell? ⟨X, 2, none⟩ = some (.int .i64 s.n0) ∧ W.cell? ⟨X, 3, none⟩ = some (.int .i64 s.n1) ∧ W.cell? ⟨X, 4, none⟩ = some (.int .i64 s.s0) ∧ W.cell? ⟨X, 5, none⟩ = some (.int .i64 s.s1))) (by kernel_rfl) ?_ (fun hHeld => ?_)
  ·exact HSS.out _ HB0.out
  refine tV 0 11 ?_
  refine tV 1 12 ?_
  refine tV 3 14 ?_
  refine tV 4 15 ?_
  refine wpAnyH_ready (rs := [2]) (by kernel_rfl) (by simp) ?_
  refine AllReadyH.cons (o := ⟨some 13, _, _, _, _, _⟩) rfl (fun K hK => ?_) AllReadyH.nil
  go_simp
  refine (times_any _).mono ?_
  rintro r v1 ⟨rfl, k1⟩
  have HB1 : Hid (Below W0.heap.size W0 v1) := HB0.out.trans (k1.mono HB0.out.size)
  clear k1
  go_wp2_with fail
  refine hK.out _ _ ?_ (fun hH2 => ?_)
  ·exact HSS.out _ HB1.out
  clear hK K
  (try simp only [Act.put, List.setIfInBounds_toArray, List.set_cons_zero, List.set_cons_succ])
  refine wpAnyH_ready (rs := [5]) (by kernel_rfl) (by simp) ?_
  refine AllReadyH.cons (o := ⟨some 16, _, _, _, _, _⟩) rfl (fun K hK => ?_) AllReadyH.nil
  go_simp
  refine (has_any _ _ _ _).mono ?_
  rintro r v2 ⟨rfl, k2⟩
  have HB2 : Hid (Below W0.heap.size W0 v2) := HB1.out.trans (k2.mono HB1.out.size)
  clear k2
  go_wp2_with fail
  refine hK.out _ _ ?_ (fun hH5 => ?_)
  ·exact HSS.out _ HB2.out
  clear hK K
  (try simp only [Act.put, List.setIfInBounds_toArray, List.set_cons_zero, List.set_cons_succ])
  refine tV 6 17 ?_
  refine tV 7 18 ?_
  refine tU 8 19 ?_
  refine tU 9 20 ?_
  refine tU 10 21 ?_
  refine tU 11 22 ?_
  refine tU 12 23 ?_
  refine tV 13 24 ?_
  refine tV 14 25 ?_
  refine tU 15 26 ?_
  refine tU 16 27 ?_
  refine tU 17 28 ?_
  refine tU 18 29 ?_
  refine tU 19 30 ?_
  refine tV 20 31 ?_
  refine tV 21 32 ?_
  refine tU 22 33 ?_
  refine tU 23 34 ?_
  refine tU 24 35 ?_
  refine tU 25 36 ?_
  refine tU 26 37 ?_
  refine tV 27 38 ?_
  refine tV 28 39 ?_
  refine tU 29 40 ?_
  refine tU 30 41 ?_
  refine tU 31 42 ?_
  refine tU 32 43 ?_
  refine tU 33 44 ?_
  refine tV 34 45 ?_
  refine tV 35 2 ?_
  refine wpAnyH_done (by kernel_rfl) ?_ _
  all_goals
   go_wp2
   go_ret
   exact ⟨retB (by rw [HR.out]; simp), HBB.out _ HB2.out⟩
 have hat' : inB 0 1099511627775 e.at_ = true := by simpa using hat
 clear hat
 rw [hat'] at HR
 by_cases hus : rText e.user s.user = false
 ·rw [hus] at HR
  refine wp_region_held_drew (S := (fun W => W.cell? ⟨w.heap.size, 0, none⟩ = some (.int .i64 e.kind) ∧ W.cell? ⟨w.heap.size, 1, none⟩ = some (.int .i64 e.at_) ∧ W.cell? ⟨w.heap.size, 2, none⟩ = some (.string e.user) ∧ W.cell? ⟨w.heap.size, 3, none⟩ = some (.string e.other) ∧ W.cell? ⟨w.heap.size, 4, none⟩ = some (.int .i64 e.n) ∧ W.cell? ⟨w.heap.size, 5, none⟩ = some (.int .i64 e.status) ∧ W.cell? ⟨X, 0, none⟩ = some (.bool s.user) ∧ W.cell? ⟨X, 1, none⟩ = some (.bool s.other) ∧ W.cell? ⟨X, 2, none⟩ = some (.int .i64 s.n0) ∧ W.cell? ⟨X, 3, none⟩ = some (.int .i64 s.n1) ∧ W.cell? ⟨X, 4, none⟩ = some (.int .i64 s.s0) ∧ W.cell? ⟨X, 5, none⟩ = some (.int .i64 s.s1))) (by kernel_rfl) ?_ (fun hHeld => ?_)
  ·exact HSS.out _ HB0.out
  refine tV 0 11 ?_
  refine tV 1 12 ?_
  refine tV 3 14 ?_
  refine tV 4 15 ?_
  refine wpAnyH_ready (rs := [2]) (by kernel_rfl) (by simp) ?_
  refine AllReadyH.cons (o := ⟨some 13, _, _, _, _, _⟩) rfl (fun K hK => ?_) AllReadyH.nil
  go_simp
  refine (times_any _).mono ?_
  rintro r v1 ⟨rfl, k1⟩
  have HB1 : Hid (Below W0.heap.size W0 v1) := HB0.out.trans (k1.mono HB0.out.size)
  clear k1
  go_wp2_with fail
  refine hK.out _ _ ?_ (fun hH2 => ?_)
  ·exact HSS.out _ HB1.out
  clear hK K
  (try simp only [Act.put, List.setIfInBounds_toArray, List.set_cons_zero, List.set_cons_succ])
  refine wpAnyH_ready (rs := [5]) (by kernel_rfl) (by simp) ?_
  refine AllReadyH.cons (o := ⟨some 16, _, _, _, _, _⟩) rfl (fun K hK => ?_) AllReadyH.nil
  go_simp
  refine (has_any _ _ _ _).mono ?_
  rintro r v2 ⟨rfl, k2⟩
  have HB2 : Hid (Below W0.heap.size W0 v2) := HB1.out.trans (k2.mono HB1.out.size)
  clear k2
  go_wp2_with fail
  refine hK.out _ _ ?_ (fun hH5 => ?_)
  ·exact HSS.out _ HB2.out
  clear hK K
  (try simp only [Act.put, List.setIfInBounds_toArray, List.set_cons_zero, List.set_cons_succ])
  refine tV 6 17 ?_
  refine tV 7 18 ?_
  refine tV 8 19 ?_
  refine tV 9 20 ?_
  refine tV 10 21 ?_
  refine tV 11 22 ?_
  refine wpAnyH_ready (rs := [12]) (by kernel_rfl) (by simp) ?_
  refine AllReadyH.cons (o := ⟨some 23, _, _, _, _, _⟩) rfl (fun K hK => ?_) AllReadyH.nil
  go_simp
  refine (HU.out _ _).mono ?_
  rintro r v3 ⟨rfl, rfl⟩
  go_wp2_with fail
  refine hK.out _ _ ?_ (fun hH12 => ?_)
  ·exact HSS.out _ HB2.out
  clear hK K
  (try simp only [Act.put, List.setIfInBounds_toArray, List.set_cons_zero, List.set_cons_succ])
  refine tV 13 24 ?_
  refine tV 14 25 ?_
  refine tU 15 26 ?_
  refine tU 16 27 ?_
  refine tU 17 28 ?_
  refine tU 18 29 ?_
  refine tU 19 30 ?_
  refine tV 20 31 ?_
  refine tV 21 32 ?_
  refine tU 22 33 ?_
  refine tU 23 34 ?_
  refine tU 24 35 ?_
  refine tU 25 36 ?_
  refine tU 26 37 ?_
  refine tV 27 38 ?_
  refine tV 28 39 ?_
  refine tU 29 40 ?_
  refine tU 30 41 ?_
  refine tU 31 42 ?_
  refine tU 32 43 ?_
  refine tU 33 44 ?_
  refine tV 34 45 ?_
  refine tV 35 2 ?_
  refine wpAnyH_done (by kernel_rfl) ?_ _
  all_goals
   go_wp2
   go_ret
   exact ⟨retB (by rw [HR.out]; simp), HBB.out _ HB2.out⟩
 have hus' : rText e.user s.user = true := by simpa using hus
 clear hus
 rw [hus'] at HR
 by_cases hot : rText e.other s.other = false
 ·rw [hot] at HR
  refine wp_region_held_drew (S := (fun W => W.cell? ⟨w.heap.size, 0, none⟩ = some (.int .i64 e.kind) ∧ W.cell? ⟨w.heap.size, 1, none⟩ = some (.int .i64 e.at_) ∧ W.cell? ⟨w.heap.size, 2, none⟩ = some (.string e.user) ∧ W.cell? ⟨w.heap.size, 3, none⟩ = some (.string e.other) ∧ W.cell? ⟨w.heap.size, 4, none⟩ = some (.int .i64 e.n) ∧ W.cell? ⟨w.heap.size, 5, none⟩ = some (.int .i64 e.status) ∧ W.cell? ⟨X, 0, none⟩ = some (.bool s.user) ∧ W.cell? ⟨X, 1, none⟩ = some (.bool s.other) ∧ W.cell? ⟨X, 2, none⟩ = some (.int .i64 s.n0) ∧ W.cell? ⟨X, 3, none⟩ = some (.int .i64 s.n1) ∧ W.cell? ⟨X, 4, none⟩ = some (.int .i64 s.s0) ∧ W.cell? ⟨X, 5, none⟩ = some (.int .i64 s.s1))) (by kernel_rfl) ?_ (fun hHeld => ?_)
  ·exact HSS.out _ HB0.out
  refine tV 0 11 ?_
  refine tV 1 12 ?_
  refine tV 3 14 ?_
  refine tV 4 15 ?_
  refine wpAnyH_ready (rs := [2]) (by kernel_rfl) (by simp) ?_
  refine AllReadyH.cons (o := ⟨some 13, _, _, _, _, _⟩) rfl (fun K hK => ?_) AllReadyH.nil
  go_simp
  refine (times_any _).mono ?_
  rintro r v1 ⟨rfl, k1⟩
  have HB1 : Hid (Below W0.heap.size W0 v1) := HB0.out.trans (k1.mono HB0.out.size)
  clear k1
  go_wp2_with fail
  refine hK.out _ _ ?_ (fun hH2 => ?_)
  ·exact HSS.out _ HB1.out
  clear hK K
  (try simp only [Act.put, List.setIfInBounds_toArray, List.set_cons_zero, List.set_cons_succ])
  refine wpAnyH_ready (rs := [5]) (by kernel_rfl) (by simp) ?_
  refine AllReadyH.cons (o := ⟨some 16, _, _, _, _, _⟩) rfl (fun K hK => ?_) AllReadyH.nil
  go_simp
  refine (has_any _ _ _ _).mono ?_
  rintro r v2 ⟨rfl, k2⟩
  have HB2 : Hid (Below W0.heap.size W0 v2) := HB1.out.trans (k2.mono HB1.out.size)
  clear k2
  go_wp2_with fail
  refine hK.out _ _ ?_ (fun hH5 => ?_)
  ·exact HSS.out _ HB2.out
  clear hK K
  (try simp only [Act.put, List.setIfInBounds_toArray, List.set_cons_zero, List.set_cons_succ])
  refine tV 6 17 ?_
  refine tV 7 18 ?_
  refine tV 8 19 ?_
  refine tV 9 20 ?_
  refine tV 10 21 ?_
  refine tV 11 22 ?_
  refine wpAnyH_ready (rs := [12]) (by kernel_rfl) (by simp) ?_
  refine AllReadyH.cons (o := ⟨some 23, _, _, _, _, _⟩) rfl (fun K hK => ?_) AllReadyH.nil
  go_simp
  refine (HU.out _ _).mono ?_
  rintro r v3 ⟨rfl, rfl⟩
  go_wp2_with fail
  refine hK.out _ _ ?_ (fun hH12 => ?_)
  ·exact HSS.out _ HB2.out
  clear hK K
  (try simp only [Act.put, List.setIfInBounds_toArray, List.set_cons_zero, List.set_cons_succ])
  refine tV 13 24 ?_
  refine tV 14 25 ?_
  refine tV 15 26 ?_
  refine tV 16 27 ?_
  refine tV 17 28 ?_
  refine tV 18 29 ?_
  refine wpAnyH_ready (rs := [19]) (by kernel_rfl) (by simp) ?_
  refine AllReadyH.cons (o := ⟨some 30, _, _, _, _, _⟩) rfl (fun K hK => ?_) AllReadyH.nil
  go_simp
  refine (HO.out _ _).mono ?_
  rintro r v4 ⟨rfl, rfl⟩
  go_wp2_with fail
  refine hK.out _ _ ?_ (fun hH19 => ?_)
  ·exact HSS.out _ HB2.out
  clear hK K
  (try simp only [Act.put, List.setIfInBounds_toArray, List.set_cons_zero, List.set_cons_succ])
  refine tV 20 31 ?_
  refine tV 21 32 ?_
  refine tU 22 33 ?_
  refine tU 23 34 ?_
  refine tU 24 35 ?_
  refine tU 25 36 ?_
  refine tU 26 37 ?_
  refine tV 27 38 ?_
  refine tV 28 39 ?_
  refine tU 29 40 ?_
  refine tU 30 41 ?_
  refine tU 31 42 ?_
  refine tU 32 43 ?_
  refine tU 33 44 ?_
  refine tV 34 45 ?_
  refine tV 35 2 ?_
  refine wpAnyH_done (by kernel_rfl) ?_ _
  all_goals
   go_wp2
   go_ret
   exact ⟨retB (by rw [HR.out]; simp), HBB.out _ HB2.out⟩
 have hot' : rText e.other s.other = true := by simpa using hot
 clear hot
 rw [hot'] at HR
 by_cases hnn : inB s.n0 s.n1 e.n = false
 ·rw [hnn] at HR
  refine wp_region_held_drew (S := (fun W => W.cell? ⟨w.heap.size, 0, none⟩ = some (.int .i64 e.kind) ∧ W.cell? ⟨w.heap.size, 1, none⟩ = some (.int .i64 e.at_) ∧ W.cell? ⟨w.heap.size, 2, none⟩ = some (.string e.user) ∧ W.cell? ⟨w.heap.size, 3, none⟩ = some (.string e.other) ∧ W.cell? ⟨w.heap.size, 4, none⟩ = some (.int .i64 e.n) ∧ W.cell? ⟨w.heap.size, 5, none⟩ = some (.int .i64 e.status) ∧ W.cell? ⟨X, 0, none⟩ = some (.bool s.user) ∧ W.cell? ⟨X, 1, none⟩ = some (.bool s.other) ∧ W.cell? ⟨X, 2, none⟩ = some (.int .i64 s.n0) ∧ W.cell? ⟨X, 3, none⟩ = some (.int .i64 s.n1) ∧ W.cell? ⟨X, 4, none⟩ = some (.int .i64 s.s0) ∧ W.cell? ⟨X, 5, none⟩ = some (.int .i64 s.s1))) (by kernel_rfl) ?_ (fun hHeld => ?_)
  ·exact HSS.out _ HB0.out
  refine tV 0 11 ?_
  refine tV 1 12 ?_
  refine tV 3 14 ?_
  refine tV 4 15 ?_
  refine wpAnyH_ready (rs := [2]) (by kernel_rfl) (by simp) ?_
  refine AllReadyH.cons (o := ⟨some 13, _, _, _, _, _⟩) rfl (fun K hK => ?_) AllReadyH.nil
  go_simp
  refine (times_any _).mono ?_
  rintro r v1 ⟨rfl, k1⟩
  have HB1 : Hid (Below W0.heap.size W0 v1) := HB0.out.trans (k1.mono HB0.out.size)
  clear k1
  go_wp2_with fail
  refine hK.out _ _ ?_ (fun hH2 => ?_)
  ·exact HSS.out _ HB1.out
  clear hK K
  (try simp only [Act.put, List.setIfInBounds_toArray, List.set_cons_zero, List.set_cons_succ])
  refine wpAnyH_ready (rs := [5]) (by kernel_rfl) (by simp) ?_
  refine AllReadyH.cons (o := ⟨some 16, _, _, _, _, _⟩) rfl (fun K hK => ?_) AllReadyH.nil
  go_simp
  refine (has_any _ _ _ _).mono ?_
  rintro r v2 ⟨rfl, k2⟩
  have HB2 : Hid (Below W0.heap.size W0 v2) := HB1.out.trans (k2.mono HB1.out.size)
  clear k2
  go_wp2_with fail
  refine hK.out _ _ ?_ (fun hH5 => ?_)
  ·exact HSS.out _ HB2.out
  clear hK K
  (try simp only [Act.put, List.setIfInBounds_toArray, List.set_cons_zero, List.set_cons_succ])
  refine tV 6 17 ?_
  refine tV 7 18 ?_
  refine tV 8 19 ?_
  refine tV 9 20 ?_
  refine tV 10 21 ?_
  refine tV 11 22 ?_
  refine wpAnyH_ready (rs := [12]) (by kernel_rfl) (by simp) ?_
  refine AllReadyH.cons (o := ⟨some 23, _, _, _, _, _⟩) rfl (fun K hK => ?_) AllReadyH.nil
  go_simp
  refine (HU.out _ _).mono ?_
  rintro r v3 ⟨rfl, rfl⟩
  go_wp2_with fail
  refine hK.out _ _ ?_ (fun hH12 => ?_)
  ·exact HSS.out _ HB2.out
  clear hK K
  (try simp only [Act.put, List.setIfInBounds_toArray, List.set_cons_zero, List.set_cons_succ])
  refine tV 13 24 ?_
  refine tV 14 25 ?_
  refine tV 15 26 ?_
  refine tV 16 27 ?_
  refine tV 17 28 ?_
  refine tV 18 29 ?_
  refine wpAnyH_ready (rs := [19]) (by kernel_rfl) (by simp) ?_
  refine AllReadyH.cons (o := ⟨some 30, _, _, _, _, _⟩) rfl (fun K hK => ?_) AllReadyH.nil
  go_simp
  refine (HO.out _ _).mono ?_
  rintro r v4 ⟨rfl, rfl⟩
  go_wp2_with fail
  refine hK.out _ _ ?_ (fun hH19 => ?_)
  ·exact HSS.out _ HB2.out
  clear hK K
  (try simp only [Act.put, List.setIfInBounds_toArray, List.set_cons_zero, List.set_cons_succ])
  refine tV 20 31 ?_
  refine tV 21 32 ?_
  refine tV 22 33 ?_
  refine tV 23 34 ?_
  refine tV 24 35 ?_
  refine tV 25 36 ?_
  refine wpAnyH_ready (rs := [26]) (by kernel_rfl) (by simp) ?_
  refine AllReadyH.cons (o := ⟨some 37, _, _, _, _, _⟩) rfl (fun K hK => ?_) AllReadyH.nil
  go_simp
  refine (has_any _ _ _ _).mono ?_
  rintro r v5 ⟨rfl, k5⟩
  have HB5 : Hid (Below W0.heap.size W0 v5) := HB2.out.trans (k5.mono HB2.out.size)
  clear k5
  go_wp2_with fail
  refine hK.out _ _ ?_ (fun hH26 => ?_)
  ·exact HSS.out _ HB5.out
  clear hK K
  (try simp only [Act.put, List.setIfInBounds_toArray, List.set_cons_zero, List.set_cons_succ])
  refine tV 27 38 ?_
  refine tV 28 39 ?_
  refine tU 29 40 ?_
  refine tU 30 41 ?_
  refine tU 31 42 ?_
  refine tU 32 43 ?_
  refine tU 33 44 ?_
  refine tV 34 45 ?_
  refine tV 35 2 ?_
  refine wpAnyH_done (by kernel_rfl) ?_ _
  all_goals
   go_wp2
   go_ret
   exact ⟨retB (by rw [HR.out]; simp), HBB.out _ HB5.out⟩
 have hnn' : inB s.n0 s.n1 e.n = true := by simpa using hnn
 clear hnn
 rw [hnn'] at HR
 refine wp_region_held_drew (S := (fun W => W.cell? ⟨w.heap.size, 0, none⟩ = some (.int .i64 e.kind) ∧ W.cell? ⟨w.heap.size, 1, none⟩ = some (.int .i64 e.at_) ∧ W.cell? ⟨w.heap.size, 2, none⟩ = some (.string e.user) ∧ W.cell? ⟨w.heap.size, 3, none⟩ = some (.string e.other) ∧ W.cell? ⟨w.heap.size, 4, none⟩ = some (.int .i64 e.n) ∧ W.cell? ⟨w.heap.size, 5, none⟩ = some (.int .i64 e.status) ∧ W.cell? ⟨X, 0, none⟩ = some (.bool s.user) ∧ W.cell? ⟨X, 1, none⟩ = some (.bool s.other) ∧ W.cell? ⟨X, 2, none⟩ = some (.int .i64 s.n0) ∧ W.cell? ⟨X, 3, none⟩ = some (.int .i64 s.n1) ∧ W.cell? ⟨X, 4, none⟩ = some (.int .i64 s.s0) ∧ W.cell? ⟨X, 5, none⟩ = some (.int .i64 s.s1))) (by kernel_rfl) ?_ (fun hHeld => ?_)
 ·exact HSS.out _ HB0.out
 refine tV 0 11 ?_
 refine tV 1 12 ?_
 refine tV 3 14 ?_
 refine tV 4 15 ?_
 refine wpAnyH_ready (rs := [2]) (by kernel_rfl) (by simp) ?_
 refine AllReadyH.cons (o := ⟨some 13, _, _, _, _, _⟩) rfl (fun K hK => ?_) AllReadyH.nil
 go_simp
 refine (times_any _).mono ?_
 rintro r v1 ⟨rfl, k1⟩
 have HB1 : Hid (Below W0.heap.size W0 v1) := HB0.out.trans (k1.mono HB0.out.size)
 clear k1
 go_wp2_with fail
 refine hK.out _ _ ?_ (fun hH2 => ?_)
 ·exact HSS.out _ HB1.out
 clear hK K
 (try simp only [Act.put, List.setIfInBounds_toArray, List.set_cons_zero, List.set_cons_succ])
 refine wpAnyH_ready (rs := [5]) (by kernel_rfl) (by simp) ?_
 refine AllReadyH.cons (o := ⟨some 16, _, _, _, _, _⟩) rfl (fun K hK => ?_) AllReadyH.nil
 go_simp
 refine (has_any _ _ _ _).mono ?_
 rintro r v2 ⟨rfl, k2⟩
 have HB2 : Hid (Below W0.heap.size W0 v2) := HB1.out.trans (k2.mono HB1.out.size)
 clear k2
 go_wp2_with fail
 refine hK.out _ _ ?_ (fun hH5 => ?_)
 ·exact HSS.out _ HB2.out
 clear hK K
 (try simp only [Act.put, List.setIfInBounds_toArray, List.set_cons_zero, List.set_cons_succ])
 refine tV 6 17 ?_
 refine tV 7 18 ?_
 refine tV 8 19 ?_
 refine tV 9 20 ?_
 refine tV 10 21 ?_
 refine tV 11 22 ?_
 refine wpAnyH_ready (rs := [12]) (by kernel_rfl) (by simp) ?_
 refine AllReadyH.cons (o := ⟨some 23, _, _, _, _, _⟩) rfl (fun K hK => ?_) AllReadyH.nil
 go_simp
 refine (HU.out _ _).mono ?_
 rintro r v3 ⟨rfl, rfl⟩
 go_wp2_with fail
 refine hK.out _ _ ?_ (fun hH12 => ?_)
 ·exact HSS.out _ HB2.out
 clear hK K
 (try simp only [Act.put, List.setIfInBounds_toArray, List.set_cons_zero, List.set_cons_succ])
 refine tV 13 24 ?_
 refine tV 14 25 ?_
 refine tV 15 26 ?_
 refine tV 16 27 ?_
 refine tV 17 28 ?_
 refine tV 18 29 ?_
 refine wpAnyH_ready (rs := [19]) (by kernel_rfl) (by simp) ?_
 refine AllReadyH.cons (o := ⟨some 30, _, _, _, _, _⟩) rfl (fun K hK => ?_) AllReadyH.nil
 go_simp
 refine (HO.out _ _).mono ?_
 rintro r v4 ⟨rfl, rfl⟩
 go_wp2_with fail
 refine hK.out _ _ ?_ (fun hH19 => ?_)
 ·exact HSS.out _ HB2.out
 clear hK K
 (try simp only [Act.put, List.setIfInBounds_toArray, List.set_cons_zero, List.set_cons_succ])
 refine tV 20 31 ?_
 refine tV 21 32 ?_
 refine tV 22 33 ?_
 refine tV 23 34 ?_
 refine tV 24 35 ?_
 refine tV 25 36 ?_
 refine wpAnyH_ready (rs := [26]) (by kernel_rfl) (by simp) ?_
 refine AllReadyH.cons (o := ⟨some 37, _, _, _, _, _⟩) rfl (fun K hK => ?_) AllReadyH.nil
 go_simp
 refine (has_any _ _ _ _).mono ?_
 rintro r v5 ⟨rfl, k5⟩
 have HB5 : Hid (Below W0.heap.size W0 v5) := HB2.out.trans (k5.mono HB2.out.size)
 clear k5
 go_wp2_with fail
 refine hK.out _ _ ?_ (fun hH26 => ?_)
 ·exact HSS.out _ HB5.out
 clear hK K
 (try simp only [Act.put, List.setIfInBounds_toArray, List.set_cons_zero, List.set_cons_succ])
 refine tV 27 38 ?_
 refine tV 28 39 ?_
 refine tV 29 40 ?_
 refine tV 30 41 ?_
 refine tV 31 42 ?_
 refine tV 32 43 ?_
 refine wpAnyH_ready (rs := [33]) (by kernel_rfl) (by simp) ?_
 refine AllReadyH.cons (o := ⟨some 44, _, _, _, _, _⟩) rfl (fun K hK => ?_) AllReadyH.nil
 go_simp
 refine (has_any _ _ _ _).mono ?_
 rintro r v6 ⟨rfl, k6⟩
 have HB6 : Hid (Below W0.heap.size W0 v6) := HB5.out.trans (k6.mono HB5.out.size)
 clear k6
 go_wp2_with fail
 refine hK.out _ _ ?_ (fun hH33 => ?_)
 ·exact HSS.out _ HB6.out
 clear hK K
 (try simp only [Act.put, List.setIfInBounds_toArray, List.set_cons_zero, List.set_cons_succ])
 refine tV 34 45 ?_
 refine tV 35 2 ?_
 refine wpAnyH_done (by kernel_rfl) ?_ _
 all_goals
  go_wp2
  go_ret
  exact ⟨retB (by rw [HR.out]; simp), HBB.out _ HB6.out⟩
def evs (l : List EvM) : List Value := l.flatMap evc
theorem evc_len (e : EvM) : (evc e).length = 6 := rfl
theorem evs_cons (e : EvM) (l : List EvM) : evs (e :: l) = evc e ++ evs l := by simp [evs]
theorem evs_get (l : List EvM) : ∀ (k i : Nat) (h : k < l.length) (hi : i < 6), (evs l)[k * 6 + i]? = (evc l[k])[i]? := by
 induction l with
 | nil => intro k i h; exact absurd h (by simp)
 | cons x l ih =>
  intro k i h hi
  rw [evs_cons]
  cases k with
  | zero => rw [List.getElem?_append_left (by rw [evc_len]; omega)]; simp
  | succ k =>
   rw [List.getElem?_append_right (by rw [evc_len]; omega), evc_len, show (k + 1) * 6 + i - 6 = k * 6 + i by omega]
   exact ih k i (by simpa using h) hi
def EvSl (w : World) (a : Option Addr) (l : List EvM) : Prop := ∀ k (h : k < l.length), ∃ b off, a = some ⟨b, off, none⟩ ∧ b < w.heap.size ∧ ∀ i, i < 6 → w.cell? ⟨b, off + k * 6 + i, none⟩ = (evc l[k])[i]?
theorem EvSl.below {w w' : World} {a : Option Addr} {l : List EvM} (h : EvSl w a l) (hb : Below w.heap.size w w') : EvSl w' a l := fun k hk => by
 obtain ⟨b, off, e, hlt, h0⟩ := h k hk
 exact ⟨b, off, e, Nat.lt_of_lt_of_le hlt hb.size, fun i hi => (hb.cell (p := ⟨b, off + k * 6 + i, none⟩) hlt).trans (h0 i hi)⟩
theorem EvSl.at_ {w : World} {a : Option Addr} {l : List EvM} (h : EvSl w a l) {k : Nat} (hk : k < l.length) : ∃ b off, a = some ⟨b, off, none⟩ ∧ b < w.heap.size ∧
  w.cell? ⟨b, off + k * 6, none⟩ = some (.int .i64 l[k].kind) ∧ w.cell? ⟨b, off + k * 6 + 1, none⟩ = some (.int .i64 l[k].at_) ∧ w.cell? ⟨b, off + k * 6 + 2, none⟩ = some (.string l[k].user) ∧
  w.cell? ⟨b, off + k * 6 + 3, none⟩ = some (.string l[k].other) ∧ w.cell? ⟨b, off + k * 6 + 4, none⟩ = some (.int .i64 l[k].n) ∧ w.cell? ⟨b, off + k * 6 + 5, none⟩ = some (.int .i64 l[k].status) := by
 obtain ⟨b, off, e, hlt, h0⟩ := h k hk
 exact ⟨b, off, e, hlt, h0 0 (by decide), h0 1 (by decide), h0 2 (by decide), h0 3 (by decide), h0 4 (by decide), h0 5 (by decide)⟩
def FitsV (l : List EvM) : Prop := ∀ e ∈ l, EFits e
end Go.Proofs.YtmfpjapiijgdgaaGreat
