/- Texts of mine, one behind the other, of each what is wanted: DB6. -/
import Derived.Test.YtjhdhfokhkcamaaGreatProg
import Derived.WalkKit
import Derived.WalkLawsBesides
import Derived.Lib.Hide
import Derived.Lib.Bytealg
import Derived.Deep.QuietTactic
import Derived.BigQuiet
import Derived.Deep.Draws
import Derived.Below
import Derived.WalkSmall
import Derived.OwnWalk
import Derived.Maps.AppendAt
import Derived.Laws.AppendOwnNone
import Derived.BigRegion
import Derived.Deep.MidRow
import Derived.Deep.RegionHeld3
import Derived.Shelf.SlSortCmp.QuietGrown
import Derived.Shelf.SlSorted.Search
import Derived.Laws.ResultCell
import Derived.WalkMore
import Derived.Shelf.Spec.SlicesGrow
import Derived.Test.YtjhdhfokhkcamaaGreatShelf
import Derived.Shelf.SlicesG.Cmp
import Derived.Lib.SliceRun
import Derived.Deep.WholeRow
import Derived.Test.YtjhdhfokhkcamaaGreatP01
import Derived.Test.YtjhdhfokhkcamaaGreatP09
import Derived.Test.YtjhdhfokhkcamaaGreatP10
import Derived.Test.YtjhdhfokhkcamaaGreatP12
import Derived.Test.YtjhdhfokhkcamaaGreatP26
namespace Go.Proofs.YtjhdhfokhkcamaaGreat
open Go.RowKit Go.Proofs
set_option linter.unusedVariables false
set_option maxRecDepth 100000
theorem no_key {α : Type} {key : α → ByteArray} {u : ByteArray} {l : List α} (hr : RiseK key l) {k : Nat} (h : IsFst (notBel key u) l k) (hk : ∀ h : k < l.length, key l[k] ≠ u) : ∀ x ∈ l, key x ≠ u := fun x hx e => by
  obtain ⟨h1, h2⟩ := fst_parts hr h
  obtain ⟨i, hi, rfl⟩ := List.getElem_of_mem hx
  rcases Nat.lt_trichotomy i k with h3 | h3 | h3
  · have h4 : l[i] ∈ l.filter (belK key u) := by rw [h1]; exact List.mem_take_iff_getElem.2 ⟨i, by omega, rfl⟩
    exact cmpS_ne (belK_iff.1 (List.mem_filter.1 h4).2) e
  · subst h3; exact hk hi e
  · have hkl : k < l.length := by omega
    have h5 := List.pairwise_iff_getElem.1 hr k i hkl hi h3
    rw [e] at h5
    exact h2 l[k] (List.mem_drop_iff_getElem.2 ⟨0, by omega, by simp⟩) h5
def geqK {α : Type} (key : α → ByteArray) (u : ByteArray) (x : α) : Bool := decide (0 ≤ cmpS (key x) u)
theorem geq_bel {α : Type} (key : α → ByteArray) (u : ByteArray) (x : α) : geqK key u x = notBel key u x := by
  unfold geqK notBel belK
  by_cases h : cmpS (key x) u < 0
  · rw [decide_eq_true h, decide_eq_false (by omega)]; rfl
  · rw [decide_eq_false h, decide_eq_true (by omega)]; rfl
theorem geq_fst {α : Type} {key : α → ByteArray} {u : ByteArray} {l : List α} {k : Nat} (h : l.findIdx (geqK key u) = k) : IsFst (notBel key u) l k := by
  subst h
  have h1 := fst_idx (geqK key u) l
  have e : geqK key u = notBel key u := funext fun x => geq_bel key u x
  rw [e] at h1 ⊢
  exact h1
theorem umS_idx (u : ByteArray) (D : List UsL) : D.findIdx (fun x => decide (0 ≤ cmpS x.u u)) = (umS D).findIdx (geqK UsM.u u) := by
  unfold umS
  rw [List.findIdx_map]
  rfl
theorem umS_put (D : List UsL) (p : UsL) (i j : Nat) : umS (D.take i ++ p :: D.drop j) = (umS D).take i ++ ([p.m] ++ (umS D).drop j) := by
  unfold umS
  rw [List.map_append, List.map_cons, List.map_take, List.map_drop]
  rfl
theorem put_new {D : List UsL} {p : UsL} {k : Nat} (hr : RiseK UsM.u (umS D)) (hk : D.findIdx (fun x => decide (0 ≤ cmpS x.u p.u)) = k) (hn : ∀ h : k < D.length, D[k].u ≠ p.u) : umS (D.take k ++ p :: D.drop k) = insK UsM.u p.u [p.m] (umS D) := by
  rw [umS_idx] at hk
  have hf := geq_fst hk
  rw [umS_put, ins_new hr hf (no_key hr hf fun h => by have := hn (by rwa [umS_len] at h); simpa [umS, UsL.m] using this)]
theorem put_old {D : List UsL} {p : UsL} {k : Nat} (hr : RiseK UsM.u (umS D)) (hk : k < D.length) (he : D[k].u = p.u) : umS (D.take k ++ p :: D.drop (k + 1)) = insK UsM.u p.u [p.m] (umS D) := by
  rw [umS_put, ins_old hr (k := k) (by rw [umS_len]; exact hk) (by simpa [umS, UsL.m] using he)]
theorem tput_new {D : List TbM} {p : TbM} {k : Nat} (hr : RiseK TbM.u D) (hk : D.findIdx (fun x => decide (0 ≤ cmpS x.u p.u)) = k) (hn : ∀ h : k < D.length, D[k].u ≠ p.u) : D.take k ++ p :: D.drop k = insK TbM.u p.u [p] D := by
  have hf := geq_fst (key := TbM.u) hk
  rw [ins_new hr hf (no_key hr hf hn)]
  rfl
theorem tput_old {D : List TbM} {p : TbM} {k : Nat} (hr : RiseK TbM.u D) (hk : k < D.length) (he : D[k].u = p.u) : D.take k ++ p :: D.drop (k + 1) = insK TbM.u p.u [p] D := by
  rw [ins_old hr hk he]
  rfl
theorem psl_drew3 (W : World) (xs : Array Value) (t : TypeId) : Sl (W.alloc (.cells xs t)).drew (some ⟨W.heap.size, 0, none⟩) xs.toList := (sl_lit W xs t).drewN 1
theorem own_low2 {w : World} {B B' e k n : Nat} {v : Value} {xs : List Value} (h : w.ownsRow B e k v n xs) (hB : B' ≤ B) : w.ownsRow B' e k v n xs := own_base h hB
theorem pconcat3_us (x y : Option Addr) (A B : List (Value × Value)) (c1 c2 n1 n2 : Nat) (s0 s1 : Value) (h0 : s0.oneCell' = true) (h1' : s1.oneCell' = true) (W : World) (g1 g2 : Nat) (T : TypeId) (h1 : n1 = A.length) (h2 : n2 = B.length) (hA : PpSl W x A) (hB : PpSl W y B) (oA : OneP A) (oB : OneP B) (k1 : x = none → c1 = 0) (k2 : y = none → c2 = 0) (hg1 : g1 = W.heap.size) (hg2 : g2 = W.heap.size + 1) (hl : A.length + B.length ≤ 10000) :
    Calls Tryz.prog 191 #[.slice (some ⟨g2, 0, none⟩) 3 3] ((W.alloc (.cells #[s0, s1] 89)).alloc (.cells #[.slice x n1 c1, .slice (some ⟨g1, 0, none⟩) 1 1, .slice y n2 c2] T)).drew fun e w' => ∃ v, e = .returned v ∧ w'.ownsRow W.heap.size 89 2 v (A ++ (s0, s1) :: B).length (pps (A ++ (s0, s1) :: B)) ∧ Below W.heap.size W w' := by
  subst hg1 h1 h2
  have hcat : catP [⟨x, A, c1⟩, ⟨some ⟨W.heap.size, 0, none⟩, [(s0, s1)], 1⟩, ⟨y, B, c2⟩] = A ++ (s0, s1) :: B := by simp [catP]
  have hb1 := below_one W (.cells #[s0, s1] 89)
  have hS := cells_pp W [(s0, s1)] #[s0, s1] 89 _ rfl rfl
  generalize hW1 : W.alloc (.cells #[s0, s1] 89) = W1 at *
  have hz : W1.heap.size = W.heap.size + 1 := by rw [← hW1, size1]
  have hb2 := below_one W1 (.cells #[.slice x A.length c1, .slice (some ⟨W.heap.size, 0, none⟩) 1 1, .slice y B.length c2] T)
  have hb2 := hb2.drew
  have hb := hb1.trans (hb2.mono hb1.size)
  have hlen : (catP [⟨x, A, c1⟩, ⟨some ⟨W.heap.size, 0, none⟩, [(s0, s1)], 1⟩, ⟨y, B, c2⟩]).length ≤ 100000 := by rw [hcat, List.length_append, List.length_cons]; omega
  rw [hg2, ← hz]
  refine (pconcat_us (some ⟨W1.heap.size, 0, none⟩) 3 [⟨x, A, c1⟩, ⟨some ⟨W.heap.size, 0, none⟩, [(s0, s1)], 1⟩, ⟨y, B, c2⟩] _ (psl_drew3 W1 #[.slice x A.length c1, .slice (some ⟨W.heap.size, 0, none⟩) 1 1, .slice y B.length c2] T) ?_ (by show 3 ≤ _; decide) hlen).mono ?_
  · intro r hr
    simp only [List.mem_cons, List.mem_nil_iff, or_false] at hr
    rcases hr with rfl | rfl | rfl
    · exact ⟨hA.below hb, oA, k1⟩
    · exact ⟨hS.below hb2, fun y hy => by rw [List.mem_singleton.1 hy]; exact ⟨h0, h1'⟩, fun h => by cases h⟩
    · exact ⟨hB.below hb, oB, k2⟩
  · rintro e w' ⟨v, rfl, ho, hbb⟩
    rw [hcat] at ho
    exact ⟨v, rfl, own_low2 ho hb.size, hb.trans (hbb.mono hb.size)⟩
structure Ptus (w : World) (gf gp : Nat) (p : UsL) (a : Option Addr) (l : List UsL) (W : World) : Prop where
  f : CapO W gf (.func (.func 63) #[] #[])
  p : W.heap[gp]? = some (.cells #[.string p.u, .slice p.a p.l.length p.c] 89 (0, 0))
  row : PpSl W a (l.map usp)
  frame : Below w.heap.size w W
theorem Ptus.below {w W W' : World} {gf gp : Nat} {p : UsL} {a : Option Addr} {l : List UsL} (h : Ptus w gf gp p a l W) (q : Below W.heap.size W W') : Ptus w gf gp p a l W' :=
  ⟨h.f.below q, (q.block _ (heap_lt h.p)).trans h.p, h.row.below q, h.frame.trans (q.mono h.frame.size)⟩
theorem Ptus.cells {w W : World} {gf gp : Nat} {p : UsL} {a : Option Addr} {l : List UsL} (h : Ptus w gf gp p a l W) : W.cell? ⟨gf, 0, none⟩ = some (.func (.func 63) #[] #[]) ∧ W.cell? ⟨gp, 0, none⟩ = some (.string p.u) ∧ W.cell? ⟨gp, 1, none⟩ = some (.slice p.a p.l.length p.c) := ⟨h.f.1, pcell2 h.p⟩
theorem Ptus.at_ {w W : World} {gf gp : Nat} {p : UsL} {b off : Nat} {l : List UsL} (h : Ptus w gf gp p (some ⟨b, off, none⟩) l W) {j : Nat} (hj : j < l.length) : W.cell? ⟨b, off + j * 2, none⟩ = some (.string l[j].u) ∧ W.cell? ⟨b, off + j * 2 + 1, none⟩ = some (.slice l[j].a l[j].l.length l[j].c) := by
  obtain ⟨b', off', e, _, h0, h1⟩ := h.row.at_ (k := j) (by rw [List.length_map]; exact hj)
  cases e
  rw [List.getElem_map] at h0 h1
  exact ⟨h0, h1⟩
set_option maxHeartbeats 4000000 in
theorem c_put_us (x p : UsL) (gf gp : Nat) (W : World) (hf : CapO W gf (.func (.func 63) #[] #[])) (hp : W.heap[gp]? = some (.cells #[.string p.u, .slice p.a p.l.length p.c] 89 (0, 0))) :
    Calls Tryz.prog 190 #[.agg #[.string x.u, .slice x.a x.l.length x.c], .pointer (some ⟨gf, 0, none⟩), .pointer (some ⟨gp, 0, none⟩)] W fun r w' => r = .returned (.bool (decide (0 ≤ cmpS x.u p.u))) ∧ Below W.heap.size W w' := by
  have hb := below_one W (.cells #[.string x.u, .slice x.a x.l.length x.c] 89)
  have K0 : Ptus W gf gp p none [] (W.alloc (.cells #[.string x.u, .slice x.a x.l.length x.c] 89)) := ⟨hf.below hb, (hb.block _ (heap_lt hp)).trans hp, PpSl.nil _ _, hb⟩
  have HX : Hid (∀ V, Below (W.alloc (.cells #[.string x.u, .slice x.a x.l.length x.c] 89)).heap.size (W.alloc (.cells #[.string x.u, .slice x.a x.l.length x.c] 89)) V → V.cell? ⟨W.heap.size, 0, none⟩ = some (.string x.u) ∧ V.cell? ⟨W.heap.size, 1, none⟩ = some (.slice x.a x.l.length x.c)) := fun V q => pcell2 ((q.block _ (by rw [size1]; omega)).trans (heap_alloc_new W _))
  have HSC : Hid (∀ V, Ptus W gf gp p none [] V → Below (W.alloc (.cells #[.string x.u, .slice x.a x.l.length x.c] 89)).heap.size (W.alloc (.cells #[.string x.u, .slice x.a x.l.length x.c] 89)) V → V.cell? ⟨gf, 0, none⟩ = some (.func (.func 63) #[] #[]) ∧ V.cell? ⟨gp, 0, none⟩ = some (.string p.u) ∧ V.cell? ⟨gp, 1, none⟩ = some (.slice p.a p.l.length p.c) ∧ V.cell? ⟨W.heap.size, 0, none⟩ = some (.string x.u) ∧ V.cell? ⟨W.heap.size, 1, none⟩ = some (.slice x.a x.l.length x.c)) := fun V h q => ⟨h.f.1, (pcell2 h.p).1, (pcell2 h.p).2, (HX.out V q).1, (HX.out V q).2⟩
  have HU := Lib.hid userName_any
  have HC := Lib.hid (fun V => cmp_any x.u p.u V)
  have HE : Hid (Lib.compareBytes x.u.data.toList p.u.data.toList = cmpS x.u p.u) := rfl
  rw [HE.out] at HC
  have hq : Below (W.alloc (.cells #[.string x.u, .slice x.a x.l.length x.c] 89)).heap.size (W.alloc (.cells #[.string x.u, .slice x.a x.l.length x.c] 89)) (W.alloc (.cells #[.string x.u, .slice x.a x.l.length x.c] 89)).drew := (Below.refl _ _).drew
  have K1 := K0.below hq
  have Q1 := Lib.hid hq
  have hcl := K0.cells
  obtain ⟨c0, c1, c2⟩ := hcl
  clear hf hp hb HX K0 HE hq
  generalize cmpS x.u p.u = z at *
  go_enter Tryz.func190, Tryz.ntmps190
  go_wp2_with fail
  go_region_held3 (fun V => V.cell? ⟨gf, 0, none⟩ = some (.func (.func 63) #[] #[]) ∧ V.cell? ⟨gp, 0, none⟩ = some (.string p.u) ∧ V.cell? ⟨gp, 1, none⟩ = some (.slice p.a p.l.length p.c) ∧ V.cell? ⟨W.heap.size, 0, none⟩ = some (.string x.u) ∧ V.cell? ⟨W.heap.size, 1, none⟩ = some (.slice x.a x.l.length x.c))
    (first | exact HSC.out _ K3 Q3.out | exact HSC.out _ K2 Q2.out | exact HSC.out _ K1 Q1.out)
    (first | (have hseen := K3; clear hseen; go_at_call 128; refine (HC.out _).mono ?_; rintro e w4 ⟨rfl, rfl⟩) | (have hseen := K2; clear hseen; go_at_call 63; refine (HU.out _ _ _ _ _).mono ?_; rintro e w3 ⟨rfl, h3⟩; have K3 := K2.below h3; have Q3 := Lib.hid (Q2.out.trans (h3.mono Q2.out.size))) | (have hseen := K1; clear hseen; go_at_call 63; refine (HU.out _ _ _ _ _).mono ?_; rintro e w2 ⟨rfl, h2⟩; have K2 := K1.below h2; have Q2 := Lib.hid (Q1.out.trans (h2.mono Q1.out.size))))
  go_wp2
  go_ret
  exact ⟨rfl, K3.frame⟩
theorem pconcat3_tb (x y : Option Addr) (A B : List (Value × Value)) (c1 c2 n1 n2 : Nat) (s0 s1 : Value) (h0 : s0.oneCell' = true) (h1' : s1.oneCell' = true) (W : World) (g1 g2 : Nat) (T : TypeId) (h1 : n1 = A.length) (h2 : n2 = B.length) (hA : PpSl W x A) (hB : PpSl W y B) (oA : OneP A) (oB : OneP B) (k1 : x = none → c1 = 0) (k2 : y = none → c2 = 0) (hg1 : g1 = W.heap.size) (hg2 : g2 = W.heap.size + 1) (hl : A.length + B.length ≤ 10000) :
    Calls Tryz.prog 200 #[.slice (some ⟨g2, 0, none⟩) 3 3] ((W.alloc (.cells #[s0, s1] 87)).alloc (.cells #[.slice x n1 c1, .slice (some ⟨g1, 0, none⟩) 1 1, .slice y n2 c2] T)).drew fun e w' => ∃ v, e = .returned v ∧ w'.ownsRow W.heap.size 87 2 v (A ++ (s0, s1) :: B).length (pps (A ++ (s0, s1) :: B)) ∧ Below W.heap.size W w' := by
  subst hg1 h1 h2
  have hcat : catP [⟨x, A, c1⟩, ⟨some ⟨W.heap.size, 0, none⟩, [(s0, s1)], 1⟩, ⟨y, B, c2⟩] = A ++ (s0, s1) :: B := by simp [catP]
  have hb1 := below_one W (.cells #[s0, s1] 87)
  have hS := cells_pp W [(s0, s1)] #[s0, s1] 87 _ rfl rfl
  generalize hW1 : W.alloc (.cells #[s0, s1] 87) = W1 at *
  have hz : W1.heap.size = W.heap.size + 1 := by rw [← hW1, size1]
  have hb2 := below_one W1 (.cells #[.slice x A.length c1, .slice (some ⟨W.heap.size, 0, none⟩) 1 1, .slice y B.length c2] T)
  have hb2 := hb2.drew
  have hb := hb1.trans (hb2.mono hb1.size)
  have hlen : (catP [⟨x, A, c1⟩, ⟨some ⟨W.heap.size, 0, none⟩, [(s0, s1)], 1⟩, ⟨y, B, c2⟩]).length ≤ 100000 := by rw [hcat, List.length_append, List.length_cons]; omega
  rw [hg2, ← hz]
  refine (pconcat_tb (some ⟨W1.heap.size, 0, none⟩) 3 [⟨x, A, c1⟩, ⟨some ⟨W.heap.size, 0, none⟩, [(s0, s1)], 1⟩, ⟨y, B, c2⟩] _ (psl_drew3 W1 #[.slice x A.length c1, .slice (some ⟨W.heap.size, 0, none⟩) 1 1, .slice y B.length c2] T) ?_ (by show 3 ≤ _; decide) hlen).mono ?_
  · intro r hr
    simp only [List.mem_cons, List.mem_nil_iff, or_false] at hr
    rcases hr with rfl | rfl | rfl
    · exact ⟨hA.below hb, oA, k1⟩
    · exact ⟨hS.below hb2, fun y hy => by rw [List.mem_singleton.1 hy]; exact ⟨h0, h1'⟩, fun h => by cases h⟩
    · exact ⟨hB.below hb, oB, k2⟩
  · rintro e w' ⟨v, rfl, ho, hbb⟩
    rw [hcat] at ho
    exact ⟨v, rfl, own_low2 ho hb.size, hb.trans (hbb.mono hb.size)⟩
structure Pttb (w : World) (gf gp : Nat) (p : TbM) (a : Option Addr) (l : List TbM) (W : World) : Prop where
  f : CapO W gf (.func (.func 72) #[] #[])
  p : W.heap[gp]? = some (.cells #[.string p.u, .int .i64 p.a] 87 (0, 0))
  row : PpSl W a (l.map tbp)
  frame : Below w.heap.size w W
theorem Pttb.below {w W W' : World} {gf gp : Nat} {p : TbM} {a : Option Addr} {l : List TbM} (h : Pttb w gf gp p a l W) (q : Below W.heap.size W W') : Pttb w gf gp p a l W' :=
  ⟨h.f.below q, (q.block _ (heap_lt h.p)).trans h.p, h.row.below q, h.frame.trans (q.mono h.frame.size)⟩
theorem Pttb.cells {w W : World} {gf gp : Nat} {p : TbM} {a : Option Addr} {l : List TbM} (h : Pttb w gf gp p a l W) : W.cell? ⟨gf, 0, none⟩ = some (.func (.func 72) #[] #[]) ∧ W.cell? ⟨gp, 0, none⟩ = some (.string p.u) ∧ W.cell? ⟨gp, 1, none⟩ = some (.int .i64 p.a) := ⟨h.f.1, pcell2 h.p⟩
theorem Pttb.at_ {w W : World} {gf gp : Nat} {p : TbM} {b off : Nat} {l : List TbM} (h : Pttb w gf gp p (some ⟨b, off, none⟩) l W) {j : Nat} (hj : j < l.length) : W.cell? ⟨b, off + j * 2, none⟩ = some (.string l[j].u) ∧ W.cell? ⟨b, off + j * 2 + 1, none⟩ = some (.int .i64 l[j].a) := by
  obtain ⟨b', off', e, _, h0, h1⟩ := h.row.at_ (k := j) (by rw [List.length_map]; exact hj)
  cases e
  rw [List.getElem_map] at h0 h1
  exact ⟨h0, h1⟩
set_option maxHeartbeats 4000000 in
theorem c_put_tb (x p : TbM) (gf gp : Nat) (W : World) (hf : CapO W gf (.func (.func 72) #[] #[])) (hp : W.heap[gp]? = some (.cells #[.string p.u, .int .i64 p.a] 87 (0, 0))) :
    Calls Tryz.prog 199 #[.agg #[.string x.u, .int .i64 x.a], .pointer (some ⟨gf, 0, none⟩), .pointer (some ⟨gp, 0, none⟩)] W fun r w' => r = .returned (.bool (decide (0 ≤ cmpS x.u p.u))) ∧ Below W.heap.size W w' := by
  have hb := below_one W (.cells #[.string x.u, .int .i64 x.a] 87)
  have K0 : Pttb W gf gp p none [] (W.alloc (.cells #[.string x.u, .int .i64 x.a] 87)) := ⟨hf.below hb, (hb.block _ (heap_lt hp)).trans hp, PpSl.nil _ _, hb⟩
  have HX : Hid (∀ V, Below (W.alloc (.cells #[.string x.u, .int .i64 x.a] 87)).heap.size (W.alloc (.cells #[.string x.u, .int .i64 x.a] 87)) V → V.cell? ⟨W.heap.size, 0, none⟩ = some (.string x.u) ∧ V.cell? ⟨W.heap.size, 1, none⟩ = some (.int .i64 x.a)) := fun V q => pcell2 ((q.block _ (by rw [size1]; omega)).trans (heap_alloc_new W _))
  have HSC : Hid (∀ V, Pttb W gf gp p none [] V → Below (W.alloc (.cells #[.string x.u, .int .i64 x.a] 87)).heap.size (W.alloc (.cells #[.string x.u, .int .i64 x.a] 87)) V → V.cell? ⟨gf, 0, none⟩ = some (.func (.func 72) #[] #[]) ∧ V.cell? ⟨gp, 0, none⟩ = some (.string p.u) ∧ V.cell? ⟨gp, 1, none⟩ = some (.int .i64 p.a) ∧ V.cell? ⟨W.heap.size, 0, none⟩ = some (.string x.u) ∧ V.cell? ⟨W.heap.size, 1, none⟩ = some (.int .i64 x.a)) := fun V h q => ⟨h.f.1, (pcell2 h.p).1, (pcell2 h.p).2, (HX.out V q).1, (HX.out V q).2⟩
  have HU := Lib.hid tombName_any
  have HC := Lib.hid (fun V => cmp_any x.u p.u V)
  have HE : Hid (Lib.compareBytes x.u.data.toList p.u.data.toList = cmpS x.u p.u) := rfl
  rw [HE.out] at HC
  have hq : Below (W.alloc (.cells #[.string x.u, .int .i64 x.a] 87)).heap.size (W.alloc (.cells #[.string x.u, .int .i64 x.a] 87)) (W.alloc (.cells #[.string x.u, .int .i64 x.a] 87)).drew := (Below.refl _ _).drew
  have K1 := K0.below hq
  have Q1 := Lib.hid hq
  have hcl := K0.cells
  obtain ⟨c0, c1, c2⟩ := hcl
  clear hf hp hb HX K0 HE hq
  generalize cmpS x.u p.u = z at *
  go_enter Tryz.func199, Tryz.ntmps199
  go_wp2_with fail
  go_region_held3 (fun V => V.cell? ⟨gf, 0, none⟩ = some (.func (.func 72) #[] #[]) ∧ V.cell? ⟨gp, 0, none⟩ = some (.string p.u) ∧ V.cell? ⟨gp, 1, none⟩ = some (.int .i64 p.a) ∧ V.cell? ⟨W.heap.size, 0, none⟩ = some (.string x.u) ∧ V.cell? ⟨W.heap.size, 1, none⟩ = some (.int .i64 x.a))
    (first | exact HSC.out _ K3 Q3.out | exact HSC.out _ K2 Q2.out | exact HSC.out _ K1 Q1.out)
    (first | (have hseen := K3; clear hseen; go_at_call 128; refine (HC.out _).mono ?_; rintro e w4 ⟨rfl, rfl⟩) | (have hseen := K2; clear hseen; go_at_call 72; refine (HU.out _ _ _).mono ?_; rintro e w3 ⟨rfl, h3⟩; have K3 := K2.below h3; have Q3 := Lib.hid (Q2.out.trans (h3.mono Q2.out.size))) | (have hseen := K1; clear hseen; go_at_call 72; refine (HU.out _ _ _).mono ?_; rintro e w2 ⟨rfl, h2⟩; have K2 := K1.below h2; have Q2 := Lib.hid (Q1.out.trans (h2.mono Q1.out.size))))
  go_wp2
  go_ret
  exact ⟨rfl, K3.frame⟩
end Go.Proofs.YtjhdhfokhkcamaaGreat
