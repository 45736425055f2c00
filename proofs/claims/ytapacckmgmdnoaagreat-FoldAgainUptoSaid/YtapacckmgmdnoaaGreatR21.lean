/- Texts of mine, one behind the other, of each what is wanted. -/
import Derived.Test.YtapacckmgmdnoaaGreatR00
import Derived.Test.YtapacckmgmdnoaaGreatShelf
import Derived.Test.YtapacckmgmdnoaaGreatR01
import Derived.Test.YtapacckmgmdnoaaGreatR03
import Derived.Test.YtapacckmgmdnoaaGreatR04
import Derived.Test.YtapacckmgmdnoaaGreatR05
import Derived.Test.YtapacckmgmdnoaaGreatR06
import Derived.Test.YtapacckmgmdnoaaGreatR09
import Derived.Test.YtapacckmgmdnoaaGreatR10
import Derived.Test.YtapacckmgmdnoaaGreatR18
import Derived.Test.YtapacckmgmdnoaaGreatR20
namespace Go.Proofs.YtapacckmgmdnoaaGreat
open Go.RowKit Go.Proofs
set_option linter.unusedVariables false
set_option maxRecDepth 100000
set_option maxRecDepth 100000
theorem no_key {α : Type} {key : α → ByteArray} {u : ByteArray} {l : List α} (hr : RiseK key l) {k : Nat} (h : IsFst (notBel key u) l k) (hk : ∀ h : k < l.length, key l[k] ≠ u) : ∀ x ∈ l, key x ≠ u := fun x hx e => by
 obtain ⟨h1, h2⟩ := fst_parts hr h
 obtain ⟨i, hi, rfl⟩ := List.getElem_of_mem hx
 rcases Nat.lt_trichotomy i k with h3 | h3 | h3
 ·have h4 : l[i] ∈ l.filter (belK key u) := by rw [h1]; exact List.mem_take_iff_getElem.2 ⟨i, by omega, rfl⟩
  exact cmpS_ne (belK_iff.1 (List.mem_filter.1 h4).2) e
 ·subst h3; exact hk hi e
 ·have hkl : k < l.length := by omega
  have h5 := List.pairwise_iff_getElem.1 hr k i hkl hi h3
  rw [e] at h5
  exact h2 l[k] (List.mem_drop_iff_getElem.2 ⟨0, by omega, by simp⟩) h5
def geqK {α : Type} (key : α → ByteArray) (u : ByteArray) (x : α) : Bool := decide (0 ≤ cmpS (key x) u)
theorem geq_bel {α : Type} (key : α → ByteArray) (u : ByteArray) (x : α) : geqK key u x = notBel key u x := by
 unfold geqK notBel belK
 by_cases h : cmpS (key x) u < 0
 ·rw [decide_eq_true h, decide_eq_false (by omega)]; rfl
 ·rw [decide_eq_false h, decide_eq_true (by omega)]; rfl
theorem geq_fst {α : Type} {key : α → ByteArray} {u : ByteArray} {l : List α} {k : Nat} (h : l.findIdx (geqK key u) = k) : IsFst (notBel key u) l k := by
 subst h
 have h1 := fst_idx (geqK key u) l
 have e : geqK key u = notBel key u := funext fun x => geq_bel key u x
 rw [e] at h1 ⊢
 exact h1
theorem umS_idx (u : ByteArray) (D : List UsL) : D.findIdx (fun x => decide (0 ≤ cmpS x.u u)) = (umS D).findIdx (geqK UsM.u u) := by
 unfold umS
 rw [List.findIdx_map]
 rfl
theorem umS_put (D : List UsL) (p : UsL) (i j : Nat) : umS (D.take i ++ p :: D.drop j) = (umS D).take i ++ ([p.m] ++ (umS D).drop j) := by
 unfold umS
 rw [List.map_append, List.map_cons, List.map_take, List.map_drop]
 rfl
theorem put_new {D : List UsL} {p : UsL} {k : Nat} (hr : RiseK UsM.u (umS D)) (hk : D.findIdx (fun x => decide (0 ≤ cmpS x.u p.u)) = k) (hn : ∀ h : k < D.length, D[k].u ≠ p.u) : umS (D.take k ++ p :: D.drop k) = insK UsM.u p.u [p.m] (umS D) := by
 rw [umS_idx] at hk
 have hf := geq_fst hk
 rw [umS_put, ins_new hr hf (no_key hr hf fun h => by have := hn (by rwa [umS_len] at h); simpa [umS, UsL.m] using this)]
theorem put_old {D : List UsL} {p : UsL} {k : Nat} (hr : RiseK UsM.u (umS D)) (hk : k < D.length) (he : D[k].u = p.u) : umS (D.take k ++ p :: D.drop (k + 1)) = insK UsM.u p.u [p.m] (umS D) := by
 rw [umS_put, ins_old hr (k := k) (by rw [umS_len]; exact hk) (by simpa [umS, UsL.m] using he)]
theorem tput_new {D : List TbM} {p : TbM} {k : Nat} (hr : RiseK TbM.u D) (hk : D.findIdx (fun x => decide (0 ≤ cmpS x.u p.u)) = k) (hn : ∀ h : k < D.length, D[k].u ≠ p.u) : D.take k ++ p :: D.drop k = insK TbM.u p.u [p] D := by
 have hf := geq_fst (key := TbM.u) hk
 rw [ins_new hr hf (no_key hr hf hn)]
 rfl
theorem tput_old {D : List TbM} {p : TbM} {k : Nat} (hr : RiseK TbM.u D) (hk : k < D.length) (he : D[k].u = p.u) : D.take k ++ p :: D.drop (k + 1) = insK TbM.u p.u [p] D := by
 rw [ins_old hr hk he]
 rfl
theorem psl_drew3 (W : World) (xs : Array Value) (t : TypeId) : Sl (W.alloc (.cells xs t)).drew (some ⟨W.heap.size, 0, none⟩) xs.toList := (sl_lit W xs t).drewN 1
theorem own_low2 {w : World} {B B' e k n : Nat} {v : Value} {xs : List Value} (h : w.ownsRow B e k v n xs) (hB : B' ≤ B) : w.ownsRow B' e k v n xs := own_base h hB
theorem pconcat3_us (x y : Option Addr) (A B : List (Value × Value)) (c1 c2 n1 n2 : Nat) (s0 s1 : Value) (h0 : s0.oneCell' = true) (h1' : s1.oneCell' = true) (W : World) (g1 g2 : Nat) (T : TypeId) (h1 : n1 = A.length) (h2 : n2 = B.length) (hA : PpSl W x A) (hB : PpSl W y B) (oA : OneP A) (oB : OneP B) (k1 : x = none → c1 = 0) (k2 : y = none → c2 = 0) (hg1 : g1 = W.heap.size) (hg2 : g2 = W.heap.size + 1) (hl : A.length + B.length ≤ 10000) :
  Calls Tryz.prog 258 #[.slice (some ⟨g2, 0, none⟩) 3 3] ((W.alloc (.cells #[s0, s1] 108)).alloc (.cells #[.slice x n1 c1, .slice (some ⟨g1, 0, none⟩) 1 1, .slice y n2 c2] T)).drew fun e w' => ∃ v, e = .returned v ∧ w'.ownsRow W.heap.size 108 2 v (A ++ (s0, s1) :: B).length (pps (A ++ (s0, s1) :: B)) ∧ Below W.heap.size W w' := by
 subst hg1 h1 h2
 have hcat : catP [⟨x, A, c1⟩, ⟨some ⟨W.heap.size, 0, none⟩, [(s0, s1)], 1⟩, ⟨y, B, c2⟩] = A ++ (s0, s1) :: B := by simp [catP]
 have hb1 := below_one W (.cells #[s0, s1] 108)
 have hS := cells_pp W [(s0, s1)] #[s0, s1] 108 _ rfl rfl
 generalize hW1 : W.alloc (.cells #[s0, s1] 108) = W1 at *
 have hz : W1.heap.size = W.heap.size + 1 := by rw [← hW1, size1]
 have hb2 := below_one W1 (.cells #[.slice x A.length c1, .slice (some ⟨W.heap.size, 0, none⟩) 1 1, .slice y B.length c2] T)
 have hb2 := hb2.drew
 have hb := hb1.trans (hb2.mono hb1.size)
 have hlen : (catP [⟨x, A, c1⟩, ⟨some ⟨W.heap.size, 0, none⟩, [(s0, s1)], 1⟩, ⟨y, B, c2⟩]).length ≤ 100000 := by rw [hcat, List.length_append, List.length_cons]; omega
 rw [hg2, ← hz]
 refine (pconcat_us (some ⟨W1.heap.size, 0, none⟩) 3 [⟨x, A, c1⟩, ⟨some ⟨W.heap.size, 0, none⟩, [(s0, s1)], 1⟩, ⟨y, B, c2⟩] _ (psl_drew3 W1 #[.slice x A.length c1, .slice (some ⟨W.heap.size, 0, none⟩) 1 1, .slice y B.length c2] T) ?_ (by show 3 ≤ _; decide) hlen).mono ?_
 ·intro r hr
  simp only [List.mem_cons, List.mem_nil_iff, or_false] at hr
  rcases hr with rfl | rfl | rfl
  ·exact ⟨hA.below hb, oA, k1⟩
  ·exact ⟨hS.below hb2, fun y hy => by rw [List.mem_singleton.1 hy]; exact ⟨h0, h1'⟩, fun h => by cases h⟩
  ·exact ⟨hB.below hb, oB, k2⟩
 ·rintro e w' ⟨v, rfl, ho, hbb⟩
  rw [hcat] at ho
  exact ⟨v, rfl, own_low2 ho hb.size, hb.trans (hbb.mono hb.size)⟩
structure Ptus (w : World) (gf gp : Nat) (p : UsL) (a : Option Addr) (l : List UsL) (W : World) : Prop where
 f : CapO W gf (.func (.func 117) #[] #[])
 p : W.heap[gp]? = some (.cells #[.string p.u, .slice p.a p.l.length p.c] 108 (0, 0))
 row : PpSl W a (l.map usp)
 frame : Below w.heap.size w W
theorem Ptus.below {w W W' : World} {gf gp : Nat} {p : UsL} {a : Option Addr} {l : List UsL} (h : Ptus w gf gp p a l W) (q : Below W.heap.size W W') : Ptus w gf gp p a l W' :=
 ⟨h.f.below q, (q.block _ (heap_lt h.p)).trans h.p, h.row.below q, h.frame.trans (q.mono h.frame.size)⟩
theorem Ptus.cells {w W : World} {gf gp : Nat} {p : UsL} {a : Option Addr} {l : List UsL} (h : Ptus w gf gp p a l W) : W.cell? ⟨gf, 0, none⟩ = some (.func (.func 117) #[] #[]) ∧ W.cell? ⟨gp, 0, none⟩ = some (.string p.u) ∧ W.cell? ⟨gp, 1, none⟩ = some (.slice p.a p.l.length p.c) := ⟨h.f.1, pcell2 h.p⟩
theorem Ptus.at_ {w W : World} {gf gp : Nat} {p : UsL} {b off : Nat} {l : List UsL} (h : Ptus w gf gp p (some ⟨b, off, none⟩) l W) {j : Nat} (hj : j < l.length) : W.cell? ⟨b, off + j * 2, none⟩ = some (.string l[j].u) ∧ W.cell? ⟨b, off + j * 2 + 1, none⟩ = some (.slice l[j].a l[j].l.length l[j].c) := by
 obtain ⟨b', off', e, _, h0, h1⟩ := h.row.at_ (k := j) (by rw [List.length_map]; exact hj)
 cases e
 rw [List.getElem_map] at h0 h1
 exact ⟨h0, h1⟩
set_option maxHeartbeats 4000000 in
theorem c_put_us (x p : UsL) (gf gp : Nat) (W : World) (hf : CapO W gf (.func (.func 117) #[] #[])) (hp : W.heap[gp]? = some (.cells #[.string p.u, .slice p.a p.l.length p.c] 108 (0, 0))) :
  Calls Tryz.prog 257 #[.agg #[.string x.u, .slice x.a x.l.length x.c], .pointer (some ⟨gf, 0, none⟩), .pointer (some ⟨gp, 0, none⟩)] W fun r w' => r = .returned (.bool (decide (0 ≤ cmpS x.u p.u))) ∧ Below W.heap.size W w' := by
 have hb := below_one W (.cells #[.string x.u, .slice x.a x.l.length x.c] 108)
 have K0 : Ptus W gf gp p none [] (W.alloc (.cells #[.string x.u, .slice x.a x.l.length x.c] 108)) := ⟨hf.below hb, (hb.block _ (heap_lt hp)).trans hp, PpSl.nil _ _, hb⟩
 have HX : Hid (∀ V, Below (W.alloc (.cells #[.string x.u, .slice x.a x.l.length x.c] 108)).heap.size (W.alloc (.cells #[.string x.u, .slice x.a x.l.length x.c] 108)) V → V.cell? ⟨W.heap.size, 0, none⟩ = some (.string x.u) ∧ V.cell? ⟨W.heap.size, 1, none⟩ = some (.slice x.a x.l.length x.c)) := fun V q => pcell2 ((q.block _ (by rw [size1]; omega)).trans (heap_alloc_new W _))
 have HSC : Hid (∀ V, Ptus W gf gp p none [] V → Below (W.alloc (.cells #[.string x.u, .slice x.a x.l.length x.c] 108)).heap.size (W.alloc (.cells #[.string x.u, .slice x.a x.l.length x.c] 108)) V → V.cell? ⟨gf, 0, none⟩ = some (.func (.func 117) #[] #[]) ∧ V.cell? ⟨gp, 0, none⟩ = some (.string p.u) ∧ V.cell? ⟨gp, 1, none⟩ = some (.slice p.a p.l.length p.c) ∧ V.cell? ⟨W.heap.size, 0, none⟩ = some (.string x.u) ∧ V.cell? ⟨W.heap.size, 1, none⟩ = some (.slice x.a x.l.length x.c)) := fun V h q => ⟨h.f.1, (pcell2 h.p).1, (pcell2 h.p).2, (HX.out V q).1, (HX.out V q).2⟩
 have HU := Lib.hid userName_any
 have HC := Lib.hid (fun V => cmp_any x.u p.u V)
 have HE : Hid (Lib.compareBytes x.u.data.toList p.u.data.toList = cmpS x.u p.u) := rfl
 rw [HE.out] at HC
 have hq : Below (W.alloc (.cells #[.string x.u, .slice x.a x.l.length x.c] 108)).heap.size (W.alloc (.cells #[.string x.u, .slice x.a x.l.length x.c] 108)) (W.alloc (.cells #[.string x.u, .slice x.a x.l.length x.c] 108)).drew := (Below.refl _ _).drew
 have K1 := K0.below hq
 have Q1 := Lib.hid hq
 have hcl := K0.cells
 obtain ⟨c0, c1, c2⟩ := hcl
 clear hf hp hb HX K0 HE hq
 generalize cmpS x.u p.u = z at *
 go_enter Tryz.func257, Tryz.ntmps257
 go_wp2_with fail
 go_region_held3 (fun V => V.cell? ⟨gf, 0, none⟩ = some (.func (.func 117) #[] #[]) ∧ V.cell? ⟨gp, 0, none⟩ = some (.string p.u) ∧ V.cell? ⟨gp, 1, none⟩ = some (.slice p.a p.l.length p.c) ∧ V.cell? ⟨W.heap.size, 0, none⟩ = some (.string x.u) ∧ V.cell? ⟨W.heap.size, 1, none⟩ = some (.slice x.a x.l.length x.c))
  (first | exact HSC.out _ K3 Q3.out | exact HSC.out _ K2 Q2.out | exact HSC.out _ K1 Q1.out)
  (first | (have hseen := K3; clear hseen; go_at_call 174; refine (HC.out _).mono ?_; rintro e w4 ⟨rfl, rfl⟩) | (have hseen := K2; clear hseen; go_at_call 117; refine (HU.out _ _ _ _ _).mono ?_; rintro e w3 ⟨rfl, h3⟩; have K3 := K2.below h3; have Q3 := Lib.hid (Q2.out.trans (h3.mono Q2.out.size))) | (have hseen := K1; clear hseen; go_at_call 117; refine (HU.out _ _ _ _ _).mono ?_; rintro e w2 ⟨rfl, h2⟩; have K2 := K1.below h2; have Q2 := Lib.hid (Q1.out.trans (h2.mono Q1.out.size))))
 go_wp2
 go_ret
 exact ⟨rfl, K3.frame⟩
theorem pconcat3_tb (x y : Option Addr) (A B : List (Value × Value)) (c1 c2 n1 n2 : Nat) (s0 s1 : Value) (h0 : s0.oneCell' = true) (h1' : s1.oneCell' = true) (W : World) (g1 g2 : Nat) (T : TypeId) (h1 : n1 = A.length) (h2 : n2 = B.length) (hA : PpSl W x A) (hB : PpSl W y B) (oA : OneP A) (oB : OneP B) (k1 : x = none → c1 = 0) (k2 : y = none → c2 = 0) (hg1 : g1 = W.heap.size) (hg2 : g2 = W.heap.size + 1) (hl : A.length + B.length ≤ 10000) :
  Calls Tryz.prog 267 #[.slice (some ⟨g2, 0, none⟩) 3 3] ((W.alloc (.cells #[s0, s1] 141)).alloc (.cells #[.slice x n1 c1, .slice (some ⟨g1, 0, none⟩) 1 1, .slice y n2 c2] T)).drew fun e w' => ∃ v, e = .returned v ∧ w'.ownsRow W.heap.size 141 2 v (A ++ (s0, s1) :: B).length (pps (A ++ (s0, s1) :: B)) ∧ Below W.heap.size W w' := by
 subst hg1 h1 h2
 have hcat : catP [⟨x, A, c1⟩, ⟨some ⟨W.heap.size, 0, none⟩, [(s0, s1)], 1⟩, ⟨y, B, c2⟩] = A ++ (s0, s1) :: B := by simp [catP]
 have hb1 := below_one W (.cells #[s0, s1] 141)
 have hS := cells_pp W [(s0, s1)] #[s0, s1] 141 _ rfl rfl
 generalize hW1 : W.alloc (.cells #[s0, s1] 141) = W1 at *
 have hz : W1.heap.size = W.heap.size + 1 := by rw [← hW1, size1]
 have hb2 := below_one W1 (.cells #[.slice x A.length c1, .slice (some ⟨W.heap.size, 0, none⟩) 1 1, .slice y B.length c2] T)
 have hb2 := hb2.drew
 have hb := hb1.trans (hb2.mono hb1.size)
 have hlen : (catP [⟨x, A, c1⟩, ⟨some ⟨W.heap.size, 0, none⟩, [(s0, s1)], 1⟩, ⟨y, B, c2⟩]).length ≤ 100000 := by rw [hcat, List.length_append, List.length_cons]; omega
 rw [hg2, ← hz]
 refine (pconcat_tb (some ⟨W1.heap.size, 0, none⟩) 3 [⟨x, A, c1⟩, ⟨some ⟨W.heap.size, 0, none⟩, [(s0, s1)], 1⟩, ⟨y, B, c2⟩] _ (psl_drew3 W1 #[.slice x A.length c1, .slice (some ⟨W.heap.size, 0, none⟩) 1 1, .slice y B.length c2] T) ?_ (by show 3 ≤ _; decide) hlen).mono ?_
 ·intro r hr
  simp only [List.mem_cons, List.mem_nil_iff, or_false] at hr
  rcases hr with rfl | rfl | rfl
  ·exact ⟨hA.below hb, oA, k1⟩
  ·exact ⟨hS.below hb2, fun y hy => by rw [List.mem_singleton.1 hy]; exact ⟨h0, h1'⟩, fun h => by cases h⟩
  ·exact ⟨hB.below hb, oB, k2⟩
 ·rintro e w' ⟨v, rfl, ho, hbb⟩
  rw [hcat] at ho
  exact ⟨v, rfl, own_low2 ho hb.size, hb.trans (hbb.mono hb.size)⟩
structure Pttb (w : World) (gf gp : Nat) (p : TbM) (a : Option Addr) (l : List TbM) (W : World) : Prop where
 f : CapO W gf (.func (.func 126) #[] #[])
 p : W.heap[gp]? = some (.cells #[.string p.u, .int .i64 p.a] 141 (0, 0))
 row : PpSl W a (l.map tbp)
 frame : Below w.heap.size w W
theorem Pttb.below {w W W' : World} {gf gp : Nat} {p : TbM} {a : Option Addr} {l : List TbM} (h : Pttb w gf gp p a l W) (q : Below W.heap.size W W') : Pttb w gf gp p a l W' :=
 ⟨h.f.below q, (q.block _ (heap_lt h.p)).trans h.p, h.row.below q, h.frame.trans (q.mono h.frame.size)⟩
theorem Pttb.cells {w W : World} {gf gp : Nat} {p : TbM} {a : Option Addr} {l : List TbM} (h : Pttb w gf gp p a l W) : W.cell? ⟨gf, 0, none⟩ = some (.func (.func 126) #[] #[]) ∧ W.cell? ⟨gp, 0, none⟩ = some (.string p.u) ∧ W.cell? ⟨gp, 1, none⟩ = some (.int .i64 p.a) := ⟨h.f.1, pcell2 h.p⟩
theorem Pttb.at_ {w W : World} {gf gp : Nat} {p : TbM} {b off : Nat} {l : List TbM} (h : Pttb w gf gp p (some ⟨b, off, none⟩) l W) {j : Nat} (hj : j < l.length) : W.cell? ⟨b, off + j * 2, none⟩ = some (.string l[j].u) ∧ W.cell? ⟨b, off + j * 2 + 1, none⟩ = some (.int .i64 l[j].a) := by
 obtain ⟨b', off', e, _, h0, h1⟩ := h.row.at_ (k := j) (by rw [List.length_map]; exact hj)
 cases e
 rw [List.getElem_map] at h0 h1
 exact ⟨h0, h1⟩
set_option maxHeartbeats 4000000 in
theorem c_put_tb (x p : TbM) (gf gp : Nat) (W : World) (hf : CapO W gf (.func (.func 126) #[] #[])) (hp : W.heap[gp]? = some (.cells #[.string p.u, .int .i64 p.a] 141 (0, 0))) :
  Calls Tryz.prog 266 #[.agg #[.string x.u, .int .i64 x.a], .pointer (some ⟨gf, 0, none⟩), .pointer (some ⟨gp, 0, none⟩)] W fun r w' => r = .returned (.bool (decide (0 ≤ cmpS x.u p.u))) ∧ Below W.heap.size W w' := by
 have hb := below_one W (.cells #[.string x.u, .int .i64 x.a] 141)
 have K0 : Pttb W gf gp p none [] (W.alloc (.cells #[.string x.u, .int .i64 x.a] 141)) := ⟨hf.below hb, (hb.block _ (heap_lt hp)).trans hp, PpSl.nil _ _, hb⟩
 have HX : Hid (∀ V, Below (W.alloc (.cells #[.string x.u, .int .i64 x.a] 141)).heap.size (W.alloc (.cells #[.string x.u, .int .i64 x.a] 141)) V → V.cell? ⟨W.heap.size, 0, none⟩ = some (.string x.u) ∧ V.cell? ⟨W.heap.size, 1, none⟩ = some (.int .i64 x.a)) := fun V q => pcell2 ((q.block _ (by rw [size1]; omega)).trans (heap_alloc_new W _))
 have HSC : Hid (∀ V, Pttb W gf gp p none [] V → Below (W.alloc (.cells #[.string x.u, .int .i64 x.a] 141)).heap.size (W.alloc (.cells #[.string x.u, .int .i64 x.a] 141)) V → V.cell? ⟨gf, 0, none⟩ = some (.func (.func 126) #[] #[]) ∧ V.cell? ⟨gp, 0, none⟩ = some (.string p.u) ∧ V.cell? ⟨gp, 1, none⟩ = some (.int .i64 p.a) ∧ V.cell? ⟨W.heap.size, 0, none⟩ = some (.string x.u) ∧ V.cell? ⟨W.heap.size, 1, none⟩ = some (.int .i64 x.a)) := fun V h q => ⟨h.f.1, (pcell2 h.p).1, (pcell2 h.p).2, (HX.out V q).1, (HX.out V q).2⟩
 have HU := Lib.hid tombName_any
 have HC := Lib.hid (fun V => cmp_any x.u p.u V)
 have HE : Hid (Lib.compareBytes x.u.data.toList p.u.data.toList = cmpS x.u p.u) := rfl
 rw [HE.out] at HC
 have hq : Below (W.alloc (.cells #[.string x.u, .int .i64 x.a] 141)).heap.size (W.alloc (.cells #[.string x.u, .int .i64 x.a] 141)) (W.alloc (.cells #[.string x.u, .int .i64 x.a] 141)).drew := (Below.refl _ _).drew
 have K1 := K0.below hq
 have Q1 := Lib.hid hq
 have hcl := K0.cells
 obtain ⟨c0, c1, c2⟩ := hcl
 clear hf hp hb HX K0 HE hq
 generalize cmpS x.u p.u = z at *
 go_enter Tryz.func266, Tryz.ntmps266
 go_wp2_with fail
 go_region_held3 (fun V => V.cell? ⟨gf, 0, none⟩ = some (.func (.func 126) #[] #[]) ∧ V.cell? ⟨gp, 0, none⟩ = some (.string p.u) ∧ V.cell? ⟨gp, 1, none⟩ = some (.int .i64 p.a) ∧ V.cell? ⟨W.heap.size, 0, none⟩ = some (.string x.u) ∧ V.cell? ⟨W.heap.size, 1, none⟩ = some (.int .i64 x.a))
  (first | exact HSC.out _ K3 Q3.out | exact HSC.out _ K2 Q2.out | exact HSC.out _ K1 Q1.out)
  (first | (have hseen := K3; clear hseen; go_at_call 174; refine (HC.out _).mono ?_; rintro e w4 ⟨rfl, rfl⟩) | (have hseen := K2; clear hseen; go_at_call 126; refine (HU.out _ _ _).mono ?_; rintro e w3 ⟨rfl, h3⟩; have K3 := K2.below h3; have Q3 := Lib.hid (Q2.out.trans (h3.mono Q2.out.size))) | (have hseen := K1; clear hseen; go_at_call 126; refine (HU.out _ _ _).mono ?_; rintro e w2 ⟨rfl, h2⟩; have K2 := K1.below h2; have Q2 := Lib.hid (Q1.out.trans (h2.mono Q1.out.size))))
 go_wp2
 go_ret
 exact ⟨rfl, K3.frame⟩
def IsPut {α : Type} (key : α → ByteArray) (l : List α) (p : α) (L : List α) : Prop :=
 ∃ k, l.findIdx (fun x => decide (0 ≤ cmpS (key x) (key p))) = k ∧ ((L = l.take k ++ p :: l.drop k ∧ ∀ h : k < l.length, key l[k] ≠ key p) ∨ (∃ h : k < l.length, key l[k] = key p ∧ L = l.take k ++ p :: l.drop (k + 1)))
set_option maxHeartbeats 8000000 in
theorem put_core_us (a : Option Addr) (c : Nat) (l : List UsL) (p : UsL) (w : World) (hr : UsSl w a l) (hc : Cp a l.length c) (hl : l.length ≤ 1000) :
  Calls Tryz.prog 230 #[.slice a l.length c, .agg #[.string p.u, .slice p.a p.l.length p.c], .func (.func 117) #[] #[]] w fun e w' => ∃ v L, e = .returned v ∧ w'.ownsRow w.heap.size 108 2 v (L.map usp).length (pps (L.map usp)) ∧ IsPut UsL.u l p L ∧ Below w.heap.size w w' := by
 have hb := below_two w (.cells #[.string p.u, .slice p.a p.l.length p.c] 108) (.cells #[.func (.func 117) #[] #[]] 187)
 have K0 : Ptus w (w.heap.size + 1) w.heap.size p a l ((w.alloc (.cells #[.string p.u, .slice p.a p.l.length p.c] 108)).alloc (.cells #[.func (.func 117) #[] #[]] 187)) := ⟨⟨by have := cell_of_row ((w.alloc (.cells #[.string p.u, .slice p.a p.l.length p.c] 108)).alloc (.cells #[.func (.func 117) #[] #[]] 187)) (w.alloc (.cells #[.string p.u, .slice p.a p.l.length p.c] 108)).heap.size 0 _ _ (0, 0) (heap_alloc_new _ _); rw [size1] at this; exact this, by rw [size1, size1]; omega⟩, ((below_one _ (.cells #[.func (.func 117) #[] #[]] 187)).block _ (by rw [size1]; omega)).trans (heap_alloc_new w _), hr.row.below hb, hb⟩
 have HF := Lib.hid (find_us2 a c l 257 (w.heap.size + 1) w.heap.size (fun x => decide (0 ≤ cmpS (UsL.u x) (UsL.u p))) (fun V => Ptus w (w.heap.size + 1) w.heap.size p a l V) ((w.alloc (.cells #[.string p.u, .slice p.a p.l.length p.c] 108)).alloc (.cells #[.func (.func 117) #[] #[]] 187)) (hr.below hb) K0 (by omega) (call_known Tryz.func257 rfl) (fun W W' h q => h.below q) (fun x hx V _ h => c_put_us x p (w.heap.size + 1) w.heap.size V h.f h.p))
 have HIP : Hid (∀ L, ((L = l.take (l.findIdx (fun x => decide (0 ≤ cmpS (UsL.u x) (UsL.u p)))) ++ p :: l.drop (l.findIdx (fun x => decide (0 ≤ cmpS (UsL.u x) (UsL.u p)))) ∧ ∀ h : (l.findIdx (fun x => decide (0 ≤ cmpS (UsL.u x) (UsL.u p)))) < l.length, UsL.u l[l.findIdx (fun x => decide (0 ≤ cmpS (UsL.u x) (UsL.u p)))] ≠ UsL.u p) ∨ (∃ h : (l.findIdx (fun x => decide (0 ≤ cmpS (UsL.u x) (UsL.u p)))) < l.length, UsL.u l[l.findIdx (fun x => decide (0 ≤ cmpS (UsL.u x) (UsL.u p)))] = UsL.u p ∧ L = l.take (l.findIdx (fun x => decide (0 ≤ cmpS (UsL.u x) (UsL.u p)))) ++ p :: l.drop (l.findIdx (fun x => decide (0 ≤ cmpS (UsL.u x) (UsL.u p))) + 1))) → IsPut UsL.u l p L) := fun L h => ⟨_, rfl, h⟩
 have hjl : l.findIdx (fun x => decide (0 ≤ cmpS (UsL.u x) (UsL.u p))) ≤ l.length := List.findIdx_le_length
 have hcl := hc.le
 have hcm := hc.mx
 have HNil := Lib.hid hc.nil
 have HU := Lib.hid userName_any
 have HK0 := Lib.hid K0
 unfold maxLen at hcm
 clear hr hc hb K0
 generalize l.findIdx (fun x => decide (0 ≤ cmpS (UsL.u x) (UsL.u p))) = j at *
 have HSB : Hid (∀ W, Ptus w (w.heap.size + 1) w.heap.size p a l W → W.cell? ⟨w.heap.size + 1, 0, none⟩ = some (.func (.func 117) #[] #[]) ∧ W.cell? ⟨w.heap.size, 0, none⟩ = some (.string p.u) ∧ W.cell? ⟨w.heap.size, 1, none⟩ = some (.slice p.a p.l.length p.c)) := fun W h => h.cells
 go_enter Tryz.func230, Tryz.ntmps230
 go_wp2_with fail
 refine HF.out.mono ?_
 rintro e w2 ⟨rfl, hB2⟩
 have HK := Lib.hid (HK0.out.below hB2)
 clear hB2 HF HK0
 by_cases hjl2 : j < l.length
 ·obtain ⟨b, off, rfl, -, -, -⟩ := HK.out.row.at_ (k := j) (by rw [List.length_map]; exact hjl2)
  have hcj : ¬ c = j := by omega
  have hcj2 : j < c := by omega
  have HP0 : Hid (∀ W, Ptus w (w.heap.size + 1) w.heap.size p (some ⟨b, off, none⟩) l W → W.cell? ⟨w.heap.size + 1, 0, none⟩ = some (.func (.func 117) #[] #[]) ∧ W.cell? ⟨w.heap.size, 0, none⟩ = some (.string p.u) ∧ W.cell? ⟨w.heap.size, 1, none⟩ = some (.slice p.a p.l.length p.c) ∧ W.cell? ⟨b, off + j * 2, none⟩ = some (.string l[j].u) ∧ W.cell? ⟨b, off + j * 2 + 1, none⟩ = some (.slice l[j].a l[j].l.length l[j].c)) := fun W h => ⟨h.f.1, (pcell2 h.p).1, (pcell2 h.p).2, (h.at_ hjl2).1, (h.at_ hjl2).2⟩
  have hpos : decide (0 < l.length - j) = true := decide_eq_true (by omega)
  have hposI : (0 : Int) < ((l.length - j : Nat) : Int) := by omega
  have hposN : 0 < l.length - j := by omega
  have K1 := HK.out.below (Below.refl _ _).drew
  have hpc : j ≤ c := by omega
  have hz1 : (0 : Int) ≤ (j : Int) := by omega
  have hz2 : (j : Int) ≤ (l.length : Int) := by omega
  have hz3 : (j : Int) ≤ (c : Int) := by omega
  have hz4 : (l.length : Int) ≤ (c : Int) := by omega
  by_cases he : UsL.u l[j] = UsL.u p
  ·have HIQ := Lib.hid (HIP.out _ (.inr ⟨hjl2, he, rfl⟩))
   have hq : ((UsL.u l[j]).toList == (UsL.u p).toList) = true := by rw [he]; exact txt_eq _
   have HAC : Hid (∀ W (g1 g2 T : Nat) (x y : Option Addr) (n1 c1 n2 c2 : Nat), PpSl W (some ⟨b, off, none⟩) (l.map usp) → g1 = W.heap.size → g2 = W.heap.size + 1 → n1 = j → n2 = l.length - (j + 1) → (n1 = 0 ∨ x = some ⟨b, off, none⟩) → (x = none → c1 = 0) → (n2 = 0 ∨ ∃ b2 off2, (some ⟨b, off, none⟩ : Option Addr) = some ⟨b2, off2, none⟩ ∧ y = some ⟨b2, off2 + (j + 1) * 2, none⟩) → (y = none → c2 = 0) →
     Calls Tryz.prog 258 #[.slice (some ⟨g2, 0, none⟩) 3 3] ((W.alloc (.cells #[.string p.u, .slice p.a p.l.length p.c] 108)).alloc (.cells #[.slice x n1 c1, .slice (some ⟨g1, 0, none⟩) 1 1, .slice y n2 c2] T)).drew fun e w' => ∃ v, e = .returned v ∧ w'.ownsRow W.heap.size 108 2 v ((l.take j ++ p :: l.drop (j + 1)).map usp).length (pps ((l.take j ++ p :: l.drop (j + 1)).map usp)) ∧ Below W.heap.size W w') := fun W g1 g2 T x y n1 c1 n2 c2 hs e1 e2 q1 q2 q3 q4 q5 q6 => by
    have hA : PpSl W x ((l.take j).map usp) := by
     rw [List.map_take]
     rcases q3 with q3 | q3
     ·have : j = 0 := by omega
      subst this
      rw [List.take_zero]
      exact PpSl.nil _ _
     ·rw [q3]; exact hs.take j
    have hB : PpSl W y ((l.drop ((j + 1))).map usp) := by
     rw [List.map_drop]
     rcases q5 with q5 | ⟨b, off, q5, q7⟩
     ·rw [List.drop_of_length_le (by rw [List.length_map]; omega)]
      exact PpSl.nil _ _
     ·cases q5; rw [q7]; exact hs.drop ((j + 1))
    have h := pconcat3_us x y ((l.take j).map usp) ((l.drop ((j + 1))).map usp) c1 c2 n1 n2 (.string p.u) (.slice p.a p.l.length p.c) rfl rfl W g1 g2 T (by rw [List.length_map, List.length_take]; omega) (by rw [List.length_map, List.length_drop]; omega) hA hB (by exact usp_one _) (by exact usp_one _) q4 q6 e1 e2 (by rw [List.length_map, List.length_map, List.length_take, List.length_drop]; omega)
    have e0 : ((l.take j ++ p :: l.drop (j + 1))).map usp = (l.take j).map usp ++ (.string p.u, .slice p.a p.l.length p.c) :: (l.drop ((j + 1))).map usp := by rw [List.map_append, List.map_cons]; rfl
    rw [e0]
    exact h
   clear he HIP
   have he2 : (UsL.u l[j]).toList = (UsL.u p).toList := by simpa using hq
   generalize l[j] = x at *
   go_wp2_with fail
   go_region_held3 (fun W => W.cell? ⟨w.heap.size + 1, 0, none⟩ = some (.func (.func 117) #[] #[]) ∧ W.cell? ⟨w.heap.size, 0, none⟩ = some (.string p.u) ∧ W.cell? ⟨w.heap.size, 1, none⟩ = some (.slice p.a p.l.length p.c) ∧ W.cell? ⟨b, off + j * 2, none⟩ = some (.string x.u) ∧ W.cell? ⟨b, off + j * 2 + 1, none⟩ = some (.slice x.a x.l.length x.c))
    (first | exact HP0.out _ K3 | exact HP0.out _ K2 | exact HP0.out _ K1)
    (first | (have hseen := K2; clear hseen; go_at_call 117; refine (HU.out _ _ _ _ _).mono ?_; rintro e w4 ⟨rfl, h4⟩; have K3 := K2.below h4) | (have hseen := K1; clear hseen; go_at_call 117; refine (HU.out _ _ _ _ _).mono ?_; rintro e w3 ⟨rfl, h3⟩; have K2 := K1.below h3))
   have K4 := K3
   have KD := K4.below (Below.refl _ _).drew
   clear HP0 K1 K2 hpos hposI hposN
   by_cases hc1 : c - j = 1
   ·have hl1 : l.length - j = 1 := by omega
    go_wp2_with fail
    go_region_held3 (fun W => W.cell? ⟨w.heap.size + 1, 0, none⟩ = some (.func (.func 117) #[] #[]) ∧ W.cell? ⟨w.heap.size, 0, none⟩ = some (.string p.u) ∧ W.cell? ⟨w.heap.size, 1, none⟩ = some (.slice p.a p.l.length p.c))
     (first | with_reducible exact HSB.out _ (KD.below (below_one _ _)) | with_reducible exact HSB.out _ ((KD.below (below_one _ _)).below (below_one _ _)) | with_reducible exact HSB.out _ KD | with_reducible exact HSB.out _ KE)
     (first | (go_at_call 258; refine Calls.mono (HAC.out _ _ _ _ _ _ _ _ _ _ K4.row rfl rfl ?_ ?_ ?_ ?_ ?_ ?_) ?_; omega; omega; (first | exact Or.inr rfl | (refine Or.inl ?_; omega)); (intro h; first | rfl | cases h); (first | (refine Or.inl ?_; omega) | (refine Or.inr ⟨_, _, rfl, congrArg (fun o => some (Addr.mk _ o none)) ?_⟩; omega)); (intro h; first | rfl | cases h); rintro e w5 ⟨v, rfl, ho5, hb5⟩; have KE := K4.below hb5; have HO5 := Lib.hid ho5; have HB5 := Lib.hid hb5; clear ho5 hb5))
    go_wp2
    go_ret
    exact ⟨v, _, rfl, own_low2 HO5.out K4.frame.size, HIQ.out, KE.frame⟩
   ·have hc2 : 1 < c - j := by omega
    go_wp2_with fail
    go_region_held3 (fun W => W.cell? ⟨w.heap.size + 1, 0, none⟩ = some (.func (.func 117) #[] #[]) ∧ W.cell? ⟨w.heap.size, 0, none⟩ = some (.string p.u) ∧ W.cell? ⟨w.heap.size, 1, none⟩ = some (.slice p.a p.l.length p.c))
     (first | with_reducible exact HSB.out _ (KD.below (below_one _ _)) | with_reducible exact HSB.out _ ((KD.below (below_one _ _)).below (below_one _ _)) | with_reducible exact HSB.out _ KD | with_reducible exact HSB.out _ KE)
     (first | (go_at_call 258; refine Calls.mono (HAC.out _ _ _ _ _ _ _ _ _ _ K4.row rfl rfl ?_ ?_ ?_ ?_ ?_ ?_) ?_; omega; omega; (first | exact Or.inr rfl | (refine Or.inl ?_; omega)); (intro h; first | rfl | cases h); (first | (refine Or.inl ?_; omega) | (refine Or.inr ⟨_, _, rfl, congrArg (fun o => some (Addr.mk _ o none)) ?_⟩; omega)); (intro h; first | rfl | cases h); rintro e w5 ⟨v, rfl, ho5, hb5⟩; have KE := K4.below hb5; have HO5 := Lib.hid ho5; have HB5 := Lib.hid hb5; clear ho5 hb5))
    go_wp2
    go_ret
    exact ⟨v, _, rfl, own_low2 HO5.out K4.frame.size, HIQ.out, KE.frame⟩
  ·have HIQ := Lib.hid (HIP.out _ (.inl ⟨rfl, fun _ => he⟩))
   have hq : ((UsL.u l[j]).toList == (UsL.u p).toList) = false := txt_ne he
   have HAC : Hid (∀ W (g1 g2 T : Nat) (x y : Option Addr) (n1 c1 n2 c2 : Nat), PpSl W (some ⟨b, off, none⟩) (l.map usp) → g1 = W.heap.size → g2 = W.heap.size + 1 → n1 = j → n2 = l.length - j → (n1 = 0 ∨ x = some ⟨b, off, none⟩) → (x = none → c1 = 0) → (n2 = 0 ∨ ∃ b2 off2, (some ⟨b, off, none⟩ : Option Addr) = some ⟨b2, off2, none⟩ ∧ y = some ⟨b2, off2 + j * 2, none⟩) → (y = none → c2 = 0) →
     Calls Tryz.prog 258 #[.slice (some ⟨g2, 0, none⟩) 3 3] ((W.alloc (.cells #[.string p.u, .slice p.a p.l.length p.c] 108)).alloc (.cells #[.slice x n1 c1, .slice (some ⟨g1, 0, none⟩) 1 1, .slice y n2 c2] T)).drew fun e w' => ∃ v, e = .returned v ∧ w'.ownsRow W.heap.size 108 2 v ((l.take j ++ p :: l.drop j).map usp).length (pps ((l.take j ++ p :: l.drop j).map usp)) ∧ Below W.heap.size W w') := fun W g1 g2 T x y n1 c1 n2 c2 hs e1 e2 q1 q2 q3 q4 q5 q6 => by
    have hA : PpSl W x ((l.take j).map usp) := by
     rw [List.map_take]
     rcases q3 with q3 | q3
     ·have : j = 0 := by omega
      subst this
      rw [List.take_zero]
      exact PpSl.nil _ _
     ·rw [q3]; exact hs.take j
    have hB : PpSl W y ((l.drop (j)).map usp) := by
     rw [List.map_drop]
     rcases q5 with q5 | ⟨b, off, q5, q7⟩
     ·rw [List.drop_of_length_le (by rw [List.length_map]; omega)]
      exact PpSl.nil _ _
     ·cases q5; rw [q7]; exact hs.drop (j)
    have h := pconcat3_us x y ((l.take j).map usp) ((l.drop (j)).map usp) c1 c2 n1 n2 (.string p.u) (.slice p.a p.l.length p.c) rfl rfl W g1 g2 T (by rw [List.length_map, List.length_take]; omega) (by rw [List.length_map, List.length_drop]; omega) hA hB (by exact usp_one _) (by exact usp_one _) q4 q6 e1 e2 (by rw [List.length_map, List.length_map, List.length_take, List.length_drop]; omega)
    have e0 : ((l.take j ++ p :: l.drop j)).map usp = (l.take j).map usp ++ (.string p.u, .slice p.a p.l.length p.c) :: (l.drop (j)).map usp := by rw [List.map_append, List.map_cons]; rfl
    rw [e0]
    exact h
   clear he HIP
   generalize l[j] = x at *
   go_wp2_with fail
   go_region_held3 (fun W => W.cell? ⟨w.heap.size + 1, 0, none⟩ = some (.func (.func 117) #[] #[]) ∧ W.cell? ⟨w.heap.size, 0, none⟩ = some (.string p.u) ∧ W.cell? ⟨w.heap.size, 1, none⟩ = some (.slice p.a p.l.length p.c) ∧ W.cell? ⟨b, off + j * 2, none⟩ = some (.string x.u) ∧ W.cell? ⟨b, off + j * 2 + 1, none⟩ = some (.slice x.a x.l.length x.c))
    (first | exact HP0.out _ K3 | exact HP0.out _ K2 | exact HP0.out _ K1)
    (first | (have hseen := K2; clear hseen; go_at_call 117; refine (HU.out _ _ _ _ _).mono ?_; rintro e w4 ⟨rfl, h4⟩; have K3 := K2.below h4) | (have hseen := K1; clear hseen; go_at_call 117; refine (HU.out _ _ _ _ _).mono ?_; rintro e w3 ⟨rfl, h3⟩; have K2 := K1.below h3))
   have K4 := K3
   have KD := K4.below (Below.refl _ _).drew
   clear HP0 K1 K2 hpos hposI hposN
   go_wp2_with fail
   go_region_held3 (fun W => W.cell? ⟨w.heap.size + 1, 0, none⟩ = some (.func (.func 117) #[] #[]) ∧ W.cell? ⟨w.heap.size, 0, none⟩ = some (.string p.u) ∧ W.cell? ⟨w.heap.size, 1, none⟩ = some (.slice p.a p.l.length p.c))
    (first | with_reducible exact HSB.out _ (KD.below (below_one _ _)) | with_reducible exact HSB.out _ ((KD.below (below_one _ _)).below (below_one _ _)) | with_reducible exact HSB.out _ KD | with_reducible exact HSB.out _ KE)
    (first | (go_at_call 258; refine Calls.mono (HAC.out _ _ _ _ _ _ _ _ _ _ K4.row rfl rfl ?_ ?_ ?_ ?_ ?_ ?_) ?_; omega; omega; (first | exact Or.inr rfl | (refine Or.inl ?_; omega)); (intro h; first | rfl | cases h); (first | (refine Or.inl ?_; omega) | (refine Or.inr ⟨_, _, rfl, congrArg (fun o => some (Addr.mk _ o none)) ?_⟩; omega)); (intro h; first | rfl | cases h); rintro e w5 ⟨v, rfl, ho5, hb5⟩; have KE := K4.below hb5; have HO5 := Lib.hid ho5; have HB5 := Lib.hid hb5; clear ho5 hb5))
   go_wp2
   go_ret
   exact ⟨v, _, rfl, own_low2 HO5.out K4.frame.size, HIQ.out, KE.frame⟩
 ·have hje : j = l.length := by omega
  have HIQ := Lib.hid (HIP.out _ (.inl ⟨rfl, fun h => absurd h hjl2⟩))
  subst hje
  have hln : l.length - l.length = 0 := Nat.sub_self _
  have HAC : Hid (∀ W (g1 g2 T : Nat) (x y : Option Addr) (n1 c1 n2 c2 : Nat), PpSl W a (l.map usp) → g1 = W.heap.size → g2 = W.heap.size + 1 → n1 = l.length → n2 = l.length - l.length → (n1 = 0 ∨ x = a) → (x = none → c1 = 0) → (n2 = 0 ∨ ∃ b off, a = some ⟨b, off, none⟩ ∧ y = some ⟨b, off + l.length * 2, none⟩) → (y = none → c2 = 0) →
    Calls Tryz.prog 258 #[.slice (some ⟨g2, 0, none⟩) 3 3] ((W.alloc (.cells #[.string p.u, .slice p.a p.l.length p.c] 108)).alloc (.cells #[.slice x n1 c1, .slice (some ⟨g1, 0, none⟩) 1 1, .slice y n2 c2] T)).drew fun e w' => ∃ v, e = .returned v ∧ w'.ownsRow W.heap.size 108 2 v ((l.take l.length ++ p :: l.drop l.length).map usp).length (pps ((l.take l.length ++ p :: l.drop l.length).map usp)) ∧ Below W.heap.size W w') := fun W g1 g2 T x y n1 c1 n2 c2 hs e1 e2 q1 q2 q3 q4 q5 q6 => by
   have hA : PpSl W x ((l.take l.length).map usp) := by
    rw [List.map_take]
    rcases q3 with q3 | q3
    ·have h0 : l.length = 0 := by omega
     have h1 : l = [] := List.eq_nil_of_length_eq_zero h0
     subst h1
     exact PpSl.nil _ _
    ·rw [q3]; exact hs.take l.length
   have hB : PpSl W y ((l.drop (l.length)).map usp) := by
    rw [List.map_drop]
    rcases q5 with q5 | ⟨b, off, q5, q7⟩
    ·rw [List.drop_of_length_le (by rw [List.length_map]; omega)]
     exact PpSl.nil _ _
    ·rw [q7]; rw [q5] at hs; exact hs.drop (l.length)
   have h := pconcat3_us x y ((l.take l.length).map usp) ((l.drop (l.length)).map usp) c1 c2 n1 n2 (.string p.u) (.slice p.a p.l.length p.c) rfl rfl W g1 g2 T (by rw [List.length_map, List.length_take]; omega) (by rw [List.length_map, List.length_drop]; omega) hA hB (by exact usp_one _) (by exact usp_one _) q4 q6 e1 e2 (by rw [List.length_map, List.length_map, List.length_take, List.length_drop]; omega)
   have e0 : ((l.take l.length ++ p :: l.drop l.length)).map usp = (l.take l.length).map usp ++ (.string p.u, .slice p.a p.l.length p.c) :: (l.drop (l.length)).map usp := by rw [List.map_append, List.map_cons]; rfl
   rw [e0]
   exact h
  clear HIP hjl2
  have K1 := HK.out
  have hz0 : (0 : Int) ≤ (l.length : Int) := by omega
  have hz4 : (l.length : Int) ≤ (c : Int) := by omega
  cases a with
  | none =>
   have hc0 := HNil.out rfl
   subst hc0
   have hl0 : l = [] := List.eq_nil_of_length_eq_zero (by omega)
   subst hl0
   go_wp2_with fail
   go_quiet (fail)
   have K4 := K1.below (Drew.below (w := w2) (w' := w2.drewN nq) ⟨nq, rfl⟩ _)
   generalize w2.drewN nq = w4 at *
   have KD := K4.below (Below.refl _ _).drew
   go_wp2_with fail
   go_region_held3 (fun W => W.cell? ⟨w.heap.size + 1, 0, none⟩ = some (.func (.func 117) #[] #[]) ∧ W.cell? ⟨w.heap.size, 0, none⟩ = some (.string p.u) ∧ W.cell? ⟨w.heap.size, 1, none⟩ = some (.slice p.a p.l.length p.c))
    (first | with_reducible exact HSB.out _ (KD.below (below_one _ _)) | with_reducible exact HSB.out _ ((KD.below (below_one _ _)).below (below_one _ _)) | with_reducible exact HSB.out _ KD | with_reducible exact HSB.out _ KE)
    (first | (go_at_call 258; refine Calls.mono (HAC.out _ _ _ _ _ _ _ _ _ _ K4.row rfl rfl ?_ ?_ ?_ ?_ ?_ ?_) ?_; omega; omega; (first | exact Or.inr rfl | (refine Or.inl ?_; omega)); (intro h; first | rfl | cases h); (first | (refine Or.inl ?_; omega) | (refine Or.inr ⟨_, _, rfl, congrArg (fun o => some (Addr.mk _ o none)) ?_⟩; omega)); (intro h; first | rfl | cases h); rintro e w5 ⟨v, rfl, ho5, hb5⟩; have KE := K4.below hb5; have HO5 := Lib.hid ho5; have HB5 := Lib.hid hb5; clear ho5 hb5))
   go_wp2
   go_ret
   exact ⟨v, _, rfl, own_low2 HO5.out K4.frame.size, HIQ.out, KE.frame⟩
  | some ad =>
   by_cases hcj : c = l.length
   ·subst hcj
    go_wp2_with fail
    go_quiet (fail)
    have K4 := K1.below (Drew.below (w := w2) (w' := w2.drewN nq) ⟨nq, rfl⟩ _)
    generalize w2.drewN nq = w4 at *
    have KD := K4.below (Below.refl _ _).drew
    go_wp2_with fail
    go_region_held3 (fun W => W.cell? ⟨w.heap.size + 1, 0, none⟩ = some (.func (.func 117) #[] #[]) ∧ W.cell? ⟨w.heap.size, 0, none⟩ = some (.string p.u) ∧ W.cell? ⟨w.heap.size, 1, none⟩ = some (.slice p.a p.l.length p.c))
     (first | with_reducible exact HSB.out _ (KD.below (below_one _ _)) | with_reducible exact HSB.out _ ((KD.below (below_one _ _)).below (below_one _ _)) | with_reducible exact HSB.out _ KD | with_reducible exact HSB.out _ KE)
     (first | (go_at_call 258; refine Calls.mono (HAC.out _ _ _ _ _ _ _ _ _ _ K4.row rfl rfl ?_ ?_ ?_ ?_ ?_ ?_) ?_; omega; omega; (first | exact Or.inr rfl | (refine Or.inl ?_; omega)); (intro h; first | rfl | cases h); (first | (refine Or.inl ?_; omega) | (refine Or.inr ⟨_, _, rfl, congrArg (fun o => some (Addr.mk _ o none)) ?_⟩; omega)); (intro h; first | rfl | cases h); rintro e w5 ⟨v, rfl, ho5, hb5⟩; have KE := K4.below hb5; have HO5 := Lib.hid ho5; have HB5 := Lib.hid hb5; clear ho5 hb5))
    go_wp2
    go_ret
    exact ⟨v, _, rfl, own_low2 HO5.out K4.frame.size, HIQ.out, KE.frame⟩
   ·have hcj2 : l.length < c := by omega
    go_wp2_with fail
    go_quiet (fail)
    have K4 := K1.below (Drew.below (w := w2) (w' := w2.drewN nq) ⟨nq, rfl⟩ _)
    generalize w2.drewN nq = w4 at *
    have KD := K4.below (Below.refl _ _).drew
    go_wp2_with fail
    go_region_held3 (fun W => W.cell? ⟨w.heap.size + 1, 0, none⟩ = some (.func (.func 117) #[] #[]) ∧ W.cell? ⟨w.heap.size, 0, none⟩ = some (.string p.u) ∧ W.cell? ⟨w.heap.size, 1, none⟩ = some (.slice p.a p.l.length p.c))
     (first | with_reducible exact HSB.out _ (KD.below (below_one _ _)) | with_reducible exact HSB.out _ ((KD.below (below_one _ _)).below (below_one _ _)) | with_reducible exact HSB.out _ KD | with_reducible exact HSB.out _ KE)
     (first | (go_at_call 258; refine Calls.mono (HAC.out _ _ _ _ _ _ _ _ _ _ K4.row rfl rfl ?_ ?_ ?_ ?_ ?_ ?_) ?_; omega; omega; (first | exact Or.inr rfl | (refine Or.inl ?_; omega)); (intro h; first | rfl | cases h); (first | (refine Or.inl ?_; omega) | (refine Or.inr ⟨_, _, rfl, congrArg (fun o => some (Addr.mk _ o none)) ?_⟩; omega)); (intro h; first | rfl | cases h); rintro e w5 ⟨v, rfl, ho5, hb5⟩; have KE := K4.below hb5; have HO5 := Lib.hid ho5; have HB5 := Lib.hid hb5; clear ho5 hb5))
    go_wp2
    go_ret
    exact ⟨v, _, rfl, own_low2 HO5.out K4.frame.size, HIQ.out, KE.frame⟩
set_option maxHeartbeats 8000000 in
theorem put_core_tb (a : Option Addr) (c : Nat) (l : List TbM) (p : TbM) (w : World) (hr : TbSl w a l) (hc : Cp a l.length c) (hl : l.length ≤ 1000) :
  Calls Tryz.prog 239 #[.slice a l.length c, .agg #[.string p.u, .int .i64 p.a], .func (.func 126) #[] #[]] w fun e w' => ∃ v L, e = .returned v ∧ w'.ownsRow w.heap.size 141 2 v (L.map tbp).length (pps (L.map tbp)) ∧ IsPut TbM.u l p L ∧ Below w.heap.size w w' := by
 have hb := below_two w (.cells #[.string p.u, .int .i64 p.a] 141) (.cells #[.func (.func 126) #[] #[]] 196)
 have K0 : Pttb w (w.heap.size + 1) w.heap.size p a l ((w.alloc (.cells #[.string p.u, .int .i64 p.a] 141)).alloc (.cells #[.func (.func 126) #[] #[]] 196)) := ⟨⟨by have := cell_of_row ((w.alloc (.cells #[.string p.u, .int .i64 p.a] 141)).alloc (.cells #[.func (.func 126) #[] #[]] 196)) (w.alloc (.cells #[.string p.u, .int .i64 p.a] 141)).heap.size 0 _ _ (0, 0) (heap_alloc_new _ _); rw [size1] at this; exact this, by rw [size1, size1]; omega⟩, ((below_one _ (.cells #[.func (.func 126) #[] #[]] 196)).block _ (by rw [size1]; omega)).trans (heap_alloc_new w _), hr.below hb, hb⟩
 have HF := Lib.hid (find_tb2 a c l 266 (w.heap.size + 1) w.heap.size (fun x => decide (0 ≤ cmpS (TbM.u x) (TbM.u p))) (fun V => Pttb w (w.heap.size + 1) w.heap.size p a l V) ((w.alloc (.cells #[.string p.u, .int .i64 p.a] 141)).alloc (.cells #[.func (.func 126) #[] #[]] 196)) (hr.below hb) K0 (by omega) (call_known Tryz.func266 rfl) (fun W W' h q => h.below q) (fun x hx V h => c_put_tb x p (w.heap.size + 1) w.heap.size V h.f h.p))
 have HIP : Hid (∀ L, ((L = l.take (l.findIdx (fun x => decide (0 ≤ cmpS (TbM.u x) (TbM.u p)))) ++ p :: l.drop (l.findIdx (fun x => decide (0 ≤ cmpS (TbM.u x) (TbM.u p)))) ∧ ∀ h : (l.findIdx (fun x => decide (0 ≤ cmpS (TbM.u x) (TbM.u p)))) < l.length, TbM.u l[l.findIdx (fun x => decide (0 ≤ cmpS (TbM.u x) (TbM.u p)))] ≠ TbM.u p) ∨ (∃ h : (l.findIdx (fun x => decide (0 ≤ cmpS (TbM.u x) (TbM.u p)))) < l.length, TbM.u l[l.findIdx (fun x => decide (0 ≤ cmpS (TbM.u x) (TbM.u p)))] = TbM.u p ∧ L = l.take (l.findIdx (fun x => decide (0 ≤ cmpS (TbM.u x) (TbM.u p)))) ++ p :: l.drop (l.findIdx (fun x => decide (0 ≤ cmpS (TbM.u x) (TbM.u p))) + 1))) → IsPut TbM.u l p L) := fun L h => ⟨_, rfl, h⟩
 have hjl : l.findIdx (fun x => decide (0 ≤ cmpS (TbM.u x) (TbM.u p))) ≤ l.length := List.findIdx_le_length
 have hcl := hc.le
 have hcm := hc.mx
 have HNil := Lib.hid hc.nil
 have HU := Lib.hid tombName_any
 have HK0 := Lib.hid K0
 unfold maxLen at hcm
 clear hr hc hb K0
 generalize l.findIdx (fun x => decide (0 ≤ cmpS (TbM.u x) (TbM.u p))) = j at *
 have HSB : Hid (∀ W, Pttb w (w.heap.size + 1) w.heap.size p a l W → W.cell? ⟨w.heap.size + 1, 0, none⟩ = some (.func (.func 126) #[] #[]) ∧ W.cell? ⟨w.heap.size, 0, none⟩ = some (.string p.u) ∧ W.cell? ⟨w.heap.size, 1, none⟩ = some (.int .i64 p.a)) := fun W h => h.cells
 go_enter Tryz.func239, Tryz.ntmps239
 go_wp2_with fail
 refine HF.out.mono ?_
 rintro e w2 ⟨rfl, hB2⟩
 have HK := Lib.hid (HK0.out.below hB2)
 clear hB2 HF HK0
 by_cases hjl2 : j < l.length
 ·obtain ⟨b, off, rfl, -, -, -⟩ := HK.out.row.at_ (k := j) (by rw [List.length_map]; exact hjl2)
  have hcj : ¬ c = j := by omega
  have hcj2 : j < c := by omega
  have HP0 : Hid (∀ W, Pttb w (w.heap.size + 1) w.heap.size p (some ⟨b, off, none⟩) l W → W.cell? ⟨w.heap.size + 1, 0, none⟩ = some (.func (.func 126) #[] #[]) ∧ W.cell? ⟨w.heap.size, 0, none⟩ = some (.string p.u) ∧ W.cell? ⟨w.heap.size, 1, none⟩ = some (.int .i64 p.a) ∧ W.cell? ⟨b, off + j * 2, none⟩ = some (.string l[j].u) ∧ W.cell? ⟨b, off + j * 2 + 1, none⟩ = some (.int .i64 l[j].a)) := fun W h => ⟨h.f.1, (pcell2 h.p).1, (pcell2 h.p).2, (h.at_ hjl2).1, (h.at_ hjl2).2⟩
  have hpos : decide (0 < l.length - j) = true := decide_eq_true (by omega)
  have hposI : (0 : Int) < ((l.length - j : Nat) : Int) := by omega
  have hposN : 0 < l.length - j := by omega
  have K1 := HK.out.below (Below.refl _ _).drew
  have hpc : j ≤ c := by omega
  have hz1 : (0 : Int) ≤ (j : Int) := by omega
  have hz2 : (j : Int) ≤ (l.length : Int) := by omega
  have hz3 : (j : Int) ≤ (c : Int) := by omega
  have hz4 : (l.length : Int) ≤ (c : Int) := by omega
  by_cases he : TbM.u l[j] = TbM.u p
  ·have HIQ := Lib.hid (HIP.out _ (.inr ⟨hjl2, he, rfl⟩))
   have hq : ((TbM.u l[j]).toList == (TbM.u p).toList) = true := by rw [he]; exact txt_eq _
   have HAC : Hid (∀ W (g1 g2 T : Nat) (x y : Option Addr) (n1 c1 n2 c2 : Nat), PpSl W (some ⟨b, off, none⟩) (l.map tbp) → g1 = W.heap.size → g2 = W.heap.size + 1 → n1 = j → n2 = l.length - (j + 1) → (n1 = 0 ∨ x = some ⟨b, off, none⟩) → (x = none → c1 = 0) → (n2 = 0 ∨ ∃ b2 off2, (some ⟨b, off, none⟩ : Option Addr) = some ⟨b2, off2, none⟩ ∧ y = some ⟨b2, off2 + (j + 1) * 2, none⟩) → (y = none → c2 = 0) →
     Calls Tryz.prog 267 #[.slice (some ⟨g2, 0, none⟩) 3 3] ((W.alloc (.cells #[.string p.u, .int .i64 p.a] 141)).alloc (.cells #[.slice x n1 c1, .slice (some ⟨g1, 0, none⟩) 1 1, .slice y n2 c2] T)).drew fun e w' => ∃ v, e = .returned v ∧ w'.ownsRow W.heap.size 141 2 v ((l.take j ++ p :: l.drop (j + 1)).map tbp).length (pps ((l.take j ++ p :: l.drop (j + 1)).map tbp)) ∧ Below W.heap.size W w') := fun W g1 g2 T x y n1 c1 n2 c2 hs e1 e2 q1 q2 q3 q4 q5 q6 => by
    have hA : PpSl W x ((l.take j).map tbp) := by
     rw [List.map_take]
     rcases q3 with q3 | q3
     ·have : j = 0 := by omega
      subst this
      rw [List.take_zero]
      exact PpSl.nil _ _
     ·rw [q3]; exact hs.take j
    have hB : PpSl W y ((l.drop ((j + 1))).map tbp) := by
     rw [List.map_drop]
     rcases q5 with q5 | ⟨b, off, q5, q7⟩
     ·rw [List.drop_of_length_le (by rw [List.length_map]; omega)]
      exact PpSl.nil _ _
     ·cases q5; rw [q7]; exact hs.drop ((j + 1))
    have h := pconcat3_tb x y ((l.take j).map tbp) ((l.drop ((j + 1))).map tbp) c1 c2 n1 n2 (.string p.u) (.int .i64 p.a) rfl rfl W g1 g2 T (by rw [List.length_map, List.length_take]; omega) (by rw [List.length_map, List.length_drop]; omega) hA hB (by exact tbp_one _) (by exact tbp_one _) q4 q6 e1 e2 (by rw [List.length_map, List.length_map, List.length_take, List.length_drop]; omega)
    have e0 : ((l.take j ++ p :: l.drop (j + 1))).map tbp = (l.take j).map tbp ++ (.string p.u, .int .i64 p.a) :: (l.drop ((j + 1))).map tbp := by rw [List.map_append, List.map_cons]; rfl
    rw [e0]
    exact h
   clear he HIP
   have he2 : (TbM.u l[j]).toList = (TbM.u p).toList := by simpa using hq
   generalize l[j] = x at *
   go_wp2_with fail
   go_region_held3 (fun W => W.cell? ⟨w.heap.size + 1, 0, none⟩ = some (.func (.func 126) #[] #[]) ∧ W.cell? ⟨w.heap.size, 0, none⟩ = some (.string p.u) ∧ W.cell? ⟨w.heap.size, 1, none⟩ = some (.int .i64 p.a) ∧ W.cell? ⟨b, off + j * 2, none⟩ = some (.string x.u) ∧ W.cell? ⟨b, off + j * 2 + 1, none⟩ = some (.int .i64 x.a))
    (first | exact HP0.out _ K3 | exact HP0.out _ K2 | exact HP0.out _ K1)
    (first | (have hseen := K2; clear hseen; go_at_call 126; refine (HU.out _ _ _).mono ?_; rintro e w4 ⟨rfl, h4⟩; have K3 := K2.below h4) | (have hseen := K1; clear hseen; go_at_call 126; refine (HU.out _ _ _).mono ?_; rintro e w3 ⟨rfl, h3⟩; have K2 := K1.below h3))
   have K4 := K3
   have KD := K4.below (Below.refl _ _).drew
   clear HP0 K1 K2 hpos hposI hposN
   by_cases hc1 : c - j = 1
   ·have hl1 : l.length - j = 1 := by omega
    go_wp2_with fail
    go_region_held3 (fun W => W.cell? ⟨w.heap.size + 1, 0, none⟩ = some (.func (.func 126) #[] #[]) ∧ W.cell? ⟨w.heap.size, 0, none⟩ = some (.string p.u) ∧ W.cell? ⟨w.heap.size, 1, none⟩ = some (.int .i64 p.a))
     (first | with_reducible exact HSB.out _ (KD.below (below_one _ _)) | with_reducible exact HSB.out _ ((KD.below (below_one _ _)).below (below_one _ _)) | with_reducible exact HSB.out _ KD | with_reducible exact HSB.out _ KE)
     (first | (go_at_call 267; refine Calls.mono (HAC.out _ _ _ _ _ _ _ _ _ _ K4.row rfl rfl ?_ ?_ ?_ ?_ ?_ ?_) ?_; omega; omega; (first | exact Or.inr rfl | (refine Or.inl ?_; omega)); (intro h; first | rfl | cases h); (first | (refine Or.inl ?_; omega) | (refine Or.inr ⟨_, _, rfl, congrArg (fun o => some (Addr.mk _ o none)) ?_⟩; omega)); (intro h; first | rfl | cases h); rintro e w5 ⟨v, rfl, ho5, hb5⟩; have KE := K4.below hb5; have HO5 := Lib.hid ho5; have HB5 := Lib.hid hb5; clear ho5 hb5))
    go_wp2
    go_ret
    exact ⟨v, _, rfl, own_low2 HO5.out K4.frame.size, HIQ.out, KE.frame⟩
   ·have hc2 : 1 < c - j := by omega
    go_wp2_with fail
    go_region_held3 (fun W => W.cell? ⟨w.heap.size + 1, 0, none⟩ = some (.func (.func 126) #[] #[]) ∧ W.cell? ⟨w.heap.size, 0, none⟩ = some (.string p.u) ∧ W.cell? ⟨w.heap.size, 1, none⟩ = some (.int .i64 p.a))
     (first | with_reducible exact HSB.out _ (KD.below (below_one _ _)) | with_reducible exact HSB.out _ ((KD.below (below_one _ _)).below (below_one _ _)) | with_reducible exact HSB.out _ KD | with_reducible exact HSB.out _ KE)
     (first | (go_at_call 267; refine Calls.mono (HAC.out _ _ _ _ _ _ _ _ _ _ K4.row rfl rfl ?_ ?_ ?_ ?_ ?_ ?_) ?_; omega; omega; (first | exact Or.inr rfl | (refine Or.inl ?_; omega)); (intro h; first | rfl | cases h); (first | (refine Or.inl ?_; omega) | (refine Or.inr ⟨_, _, rfl, congrArg (fun o => some (Addr.mk _ o none)) ?_⟩; omega)); (intro h; first | rfl | cases h); rintro e w5 ⟨v, rfl, ho5, hb5⟩; have KE := K4.below hb5; have HO5 := Lib.hid ho5; have HB5 := Lib.hid hb5; clear ho5 hb5))
    go_wp2
    go_ret
    exact ⟨v, _, rfl, own_low2 HO5.out K4.frame.size, HIQ.out, KE.frame⟩
  ·have HIQ := Lib.hid (HIP.out _ (.inl ⟨rfl, fun _ => he⟩))
   have hq : ((TbM.u l[j]).toList == (TbM.u p).toList) = false := txt_ne he
   have HAC : Hid (∀ W (g1 g2 T : Nat) (x y : Option Addr) (n1 c1 n2 c2 : Nat), PpSl W (some ⟨b, off, none⟩) (l.map tbp) → g1 = W.heap.size → g2 = W.heap.size + 1 → n1 = j → n2 = l.length - j → (n1 = 0 ∨ x = some ⟨b, off, none⟩) → (x = none → c1 = 0) → (n2 = 0 ∨ ∃ b2 off2, (some ⟨b, off, none⟩ : Option Addr) = some ⟨b2, off2, none⟩ ∧ y = some ⟨b2, off2 + j * 2, none⟩) → (y = none → c2 = 0) →
     Calls Tryz.prog 267 #[.slice (some ⟨g2, 0, none⟩) 3 3] ((W.alloc (.cells #[.string p.u, .int .i64 p.a] 141)).alloc (.cells #[.slice x n1 c1, .slice (some ⟨g1, 0, none⟩) 1 1, .slice y n2 c2] T)).drew fun e w' => ∃ v, e = .returned v ∧ w'.ownsRow W.heap.size 141 2 v ((l.take j ++ p :: l.drop j).map tbp).length (pps ((l.take j ++ p :: l.drop j).map tbp)) ∧ Below W.heap.size W w') := fun W g1 g2 T x y n1 c1 n2 c2 hs e1 e2 q1 q2 q3 q4 q5 q6 => by
    have hA : PpSl W x ((l.take j).map tbp) := by
     rw [List.map_take]
     rcases q3 with q3 | q3
     ·have : j = 0 := by omega
      subst this
      rw [List.take_zero]
      exact PpSl.nil _ _
     ·rw [q3]; exact hs.take j
    have hB : PpSl W y ((l.drop (j)).map tbp) := by
     rw [List.map_drop]
     rcases q5 with q5 | ⟨b, off, q5, q7⟩
     ·rw [List.drop_of_length_le (by rw [List.length_map]; omega)]
      exact PpSl.nil _ _
     ·cases q5; rw [q7]; exact hs.drop (j)
    have h := pconcat3_tb x y ((l.take j).map tbp) ((l.drop (j)).map tbp) c1 c2 n1 n2 (.string p.u) (.int .i64 p.a) rfl rfl W g1 g2 T (by rw [List.length_map, List.length_take]; omega) (by rw [List.length_map, List.length_drop]; omega) hA hB (by exact tbp_one _) (by exact tbp_one _) q4 q6 e1 e2 (by rw [List.length_map, List.length_map, List.length_take, List.length_drop]; omega)
    have e0 : ((l.take j ++ p :: l.drop j)).map tbp = (l.take j).map tbp ++ (.string p.u, .int .i64 p.a) :: (l.drop (j)).map tbp := by rw [List.map_append, List.map_cons]; rfl
    rw [e0]
    exact h
   clear he HIP
   generalize l[j] = x at *
   go_wp2_with fail
   go_region_held3 (fun W => W.cell? ⟨w.heap.size + 1, 0, none⟩ = some (.func (.func 126) #[] #[]) ∧ W.cell? ⟨w.heap.size, 0, none⟩ = some (.string p.u) ∧ W.cell? ⟨w.heap.size, 1, none⟩ = some (.int .i64 p.a) ∧ W.cell? ⟨b, off + j * 2, none⟩ = some (.string x.u) ∧ W.cell? ⟨b, off + j * 2 + 1, none⟩ = some (.int .i64 x.a))
    (first | exact HP0.out _ K3 | exact HP0.out _ K2 | exact HP0.out _ K1)
    (first | (have hseen := K2; clear hseen; go_at_call 126; refine (HU.out _ _ _).mono ?_; rintro e w4 ⟨rfl, h4⟩; have K3 := K2.below h4) | (have hseen := K1; clear hseen; go_at_call 126; refine (HU.out _ _ _).mono ?_; rintro e w3 ⟨rfl, h3⟩; have K2 := K1.below h3))
   have K4 := K3
   have KD := K4.below (Below.refl _ _).drew
   clear HP0 K1 K2 hpos hposI hposN
   go_wp2_with fail
   go_region_held3 (fun W => W.cell? ⟨w.heap.size + 1, 0, none⟩ = some (.func (.func 126) #[] #[]) ∧ W.cell? ⟨w.heap.size, 0, none⟩ = some (.string p.u) ∧ W.cell? ⟨w.heap.size, 1, none⟩ = some (.int .i64 p.a))
    (first | with_reducible exact HSB.out _ (KD.below (below_one _ _)) | with_reducible exact HSB.out _ ((KD.below (below_one _ _)).below (below_one _ _)) | with_reducible exact HSB.out _ KD | with_reducible exact HSB.out _ KE)
    (first | (go_at_call 267; refine Calls.mono (HAC.out _ _ _ _ _ _ _ _ _ _ K4.row rfl rfl ?_ ?_ ?_ ?_ ?_ ?_) ?_; omega; omega; (first | exact Or.inr rfl | (refine Or.inl ?_; omega)); (intro h; first | rfl | cases h); (first | (refine Or.inl ?_; omega) | (refine Or.inr ⟨_, _, rfl, congrArg (fun o => some (Addr.mk _ o none)) ?_⟩; omega)); (intro h; first | rfl | cases h); rintro e w5 ⟨v, rfl, ho5, hb5⟩; have KE := K4.below hb5; have HO5 := Lib.hid ho5; have HB5 := Lib.hid hb5; clear ho5 hb5))
   go_wp2
   go_ret
   exact ⟨v, _, rfl, own_low2 HO5.out K4.frame.size, HIQ.out, KE.frame⟩
 ·have hje : j = l.length := by omega
  have HIQ := Lib.hid (HIP.out _ (.inl ⟨rfl, fun h => absurd h hjl2⟩))
  subst hje
  have hln : l.length - l.length = 0 := Nat.sub_self _
  have HAC : Hid (∀ W (g1 g2 T : Nat) (x y : Option Addr) (n1 c1 n2 c2 : Nat), PpSl W a (l.map tbp) → g1 = W.heap.size → g2 = W.heap.size + 1 → n1 = l.length → n2 = l.length - l.length → (n1 = 0 ∨ x = a) → (x = none → c1 = 0) → (n2 = 0 ∨ ∃ b off, a = some ⟨b, off, none⟩ ∧ y = some ⟨b, off + l.length * 2, none⟩) → (y = none → c2 = 0) →
    Calls Tryz.prog 267 #[.slice (some ⟨g2, 0, none⟩) 3 3] ((W.alloc (.cells #[.string p.u, .int .i64 p.a] 141)).alloc (.cells #[.slice x n1 c1, .slice (some ⟨g1, 0, none⟩) 1 1, .slice y n2 c2] T)).drew fun e w' => ∃ v, e = .returned v ∧ w'.ownsRow W.heap.size 141 2 v ((l.take l.length ++ p :: l.drop l.length).map tbp).length (pps ((l.take l.length ++ p :: l.drop l.length).map tbp)) ∧ Below W.heap.size W w') := fun W g1 g2 T x y n1 c1 n2 c2 hs e1 e2 q1 q2 q3 q4 q5 q6 => by
   have hA : PpSl W x ((l.take l.length).map tbp) := by
    rw [List.map_take]
    rcases q3 with q3 | q3
    ·have h0 : l.length = 0 := by omega
     have h1 : l = [] := List.eq_nil_of_length_eq_zero h0
     subst h1
     exact PpSl.nil _ _
    ·rw [q3]; exact hs.take l.length
   have hB : PpSl W y ((l.drop (l.length)).map tbp) := by
    rw [List.map_drop]
    rcases q5 with q5 | ⟨b, off, q5, q7⟩
    ·rw [List.drop_of_length_le (by rw [List.length_map]; omega)]
     exact PpSl.nil _ _
    ·rw [q7]; rw [q5] at hs; exact hs.drop (l.length)
   have h := pconcat3_tb x y ((l.take l.length).map tbp) ((l.drop (l.length)).map tbp) c1 c2 n1 n2 (.string p.u) (.int .i64 p.a) rfl rfl W g1 g2 T (by rw [List.length_map, List.length_take]; omega) (by rw [List.length_map, List.length_drop]; omega) hA hB (by exact tbp_one _) (by exact tbp_one _) q4 q6 e1 e2 (by rw [List.length_map, List.length_map, List.length_take, List.length_drop]; omega)
   have e0 : ((l.take l.length ++ p :: l.drop l.length)).map tbp = (l.take l.length).map tbp ++ (.string p.u, .int .i64 p.a) :: (l.drop (l.length)).map tbp := by rw [List.map_append, List.map_cons]; rfl
   rw [e0]
   exact h
  clear HIP hjl2
  have K1 := HK.out
  have hz0 : (0 : Int) ≤ (l.length : Int) := by omega
  have hz4 : (l.length : Int) ≤ (c : Int) := by omega
  cases a with
  | none =>
   have hc0 := HNil.out rfl
   subst hc0
   have hl0 : l = [] := List.eq_nil_of_length_eq_zero (by omega)
   subst hl0
   go_wp2_with fail
   go_quiet (fail)
   have K4 := K1.below (Drew.below (w := w2) (w' := w2.drewN nq) ⟨nq, rfl⟩ _)
   generalize w2.drewN nq = w4 at *
   have KD := K4.below (Below.refl _ _).drew
   go_wp2_with fail
   go_region_held3 (fun W => W.cell? ⟨w.heap.size + 1, 0, none⟩ = some (.func (.func 126) #[] #[]) ∧ W.cell? ⟨w.heap.size, 0, none⟩ = some (.string p.u) ∧ W.cell? ⟨w.heap.size, 1, none⟩ = some (.int .i64 p.a))
    (first | with_reducible exact HSB.out _ (KD.below (below_one _ _)) | with_reducible exact HSB.out _ ((KD.below (below_one _ _)).below (below_one _ _)) | with_reducible exact HSB.out _ KD | with_reducible exact HSB.out _ KE)
    (first | (go_at_call 267; refine Calls.mono (HAC.out _ _ _ _ _ _ _ _ _ _ K4.row rfl rfl ?_ ?_ ?_ ?_ ?_ ?_) ?_; omega; omega; (first | exact Or.inr rfl | (refine Or.inl ?_; omega)); (intro h; first | rfl | cases h); (first | (refine Or.inl ?_; omega) | (refine Or.inr ⟨_, _, rfl, congrArg (fun o => some (Addr.mk _ o none)) ?_⟩; omega)); (intro h; first | rfl | cases h); rintro e w5 ⟨v, rfl, ho5, hb5⟩; have KE := K4.below hb5; have HO5 := Lib.hid ho5; have HB5 := Lib.hid hb5; clear ho5 hb5))
   go_wp2
   go_ret
   exact ⟨v, _, rfl, own_low2 HO5.out K4.frame.size, HIQ.out, KE.frame⟩
  | some ad =>
   by_cases hcj : c = l.length
   ·subst hcj
    go_wp2_with fail
    go_quiet (fail)
    have K4 := K1.below (Drew.below (w := w2) (w' := w2.drewN nq) ⟨nq, rfl⟩ _)
    generalize w2.drewN nq = w4 at *
    have KD := K4.below (Below.refl _ _).drew
    go_wp2_with fail
    go_region_held3 (fun W => W.cell? ⟨w.heap.size + 1, 0, none⟩ = some (.func (.func 126) #[] #[]) ∧ W.cell? ⟨w.heap.size, 0, none⟩ = some (.string p.u) ∧ W.cell? ⟨w.heap.size, 1, none⟩ = some (.int .i64 p.a))
     (first | with_reducible exact HSB.out _ (KD.below (below_one _ _)) | with_reducible exact HSB.out _ ((KD.below (below_one _ _)).below (below_one _ _)) | with_reducible exact HSB.out _ KD | with_reducible exact HSB.out _ KE)
     (first | (go_at_call 267; refine Calls.mono (HAC.out _ _ _ _ _ _ _ _ _ _ K4.row rfl rfl ?_ ?_ ?_ ?_ ?_ ?_) ?_; omega; omega; (first | exact Or.inr rfl | (refine Or.inl ?_; omega)); (intro h; first | rfl | cases h); (first | (refine Or.inl ?_; omega) | (refine Or.inr ⟨_, _, rfl, congrArg (fun o => some (Addr.mk _ o none)) ?_⟩; omega)); (intro h; first | rfl | cases h); rintro e w5 ⟨v, rfl, ho5, hb5⟩; have KE := K4.below hb5; have HO5 := Lib.hid ho5; have HB5 := Lib.hid hb5; clear ho5 hb5))
    go_wp2
    go_ret
    exact ⟨v, _, rfl, own_low2 HO5.out K4.frame.size, HIQ.out, KE.frame⟩
   ·have hcj2 : l.length < c := by omega
    go_wp2_with fail
    go_quiet (fail)
    have K4 := K1.below (Drew.below (w := w2) (w' := w2.drewN nq) ⟨nq, rfl⟩ _)
    generalize w2.drewN nq = w4 at *
    have KD := K4.below (Below.refl _ _).drew
    go_wp2_with fail
    go_region_held3 (fun W => W.cell? ⟨w.heap.size + 1, 0, none⟩ = some (.func (.func 126) #[] #[]) ∧ W.cell? ⟨w.heap.size, 0, none⟩ = some (.string p.u) ∧ W.cell? ⟨w.heap.size, 1, none⟩ = some (.int .i64 p.a))
     (first | with_reducible exact HSB.out _ (KD.below (below_one _ _)) | with_reducible exact HSB.out _ ((KD.below (below_one _ _)).below (below_one _ _)) | with_reducible exact HSB.out _ KD | with_reducible exact HSB.out _ KE)
     (first | (go_at_call 267; refine Calls.mono (HAC.out _ _ _ _ _ _ _ _ _ _ K4.row rfl rfl ?_ ?_ ?_ ?_ ?_ ?_) ?_; omega; omega; (first | exact Or.inr rfl | (refine Or.inl ?_; omega)); (intro h; first | rfl | cases h); (first | (refine Or.inl ?_; omega) | (refine Or.inr ⟨_, _, rfl, congrArg (fun o => some (Addr.mk _ o none)) ?_⟩; omega)); (intro h; first | rfl | cases h); rintro e w5 ⟨v, rfl, ho5, hb5⟩; have KE := K4.below hb5; have HO5 := Lib.hid ho5; have HB5 := Lib.hid hb5; clear ho5 hb5))
    go_wp2
    go_ret
    exact ⟨v, _, rfl, own_low2 HO5.out K4.frame.size, HIQ.out, KE.frame⟩
end Go.Proofs.YtapacckmgmdnoaaGreat
