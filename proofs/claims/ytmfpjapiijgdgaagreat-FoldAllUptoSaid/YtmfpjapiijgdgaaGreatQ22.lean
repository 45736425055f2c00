/- Texts of mine, one behind the other, of each what is wanted. -/
import Derived.Test.YtmfpjapiijgdgaaGreatQ00
import Derived.Test.YtmfpjapiijgdgaaGreatShelf
import Derived.Test.YtmfpjapiijgdgaaGreatQ01
import Derived.Test.YtmfpjapiijgdgaaGreatQ05
import Derived.Test.YtmfpjapiijgdgaaGreatQ06
import Derived.Test.YtmfpjapiijgdgaaGreatQ12
import Derived.Test.YtmfpjapiijgdgaaGreatQ14
import Derived.Test.YtmfpjapiijgdgaaGreatQ17
import Derived.Test.YtmfpjapiijgdgaaGreatQ20
import Derived.Test.YtmfpjapiijgdgaaGreatTQ
namespace Go.Proofs.YtmfpjapiijgdgaaGreat
set_option linter.unusedVariables false
set_option maxRecDepth 100000
structure InsAt {α : Type} (key : α → ByteArray) (u : ByteArray) (m l : List α) (j : Nat) (done : Bool) (out : List α) : Prop where
 row : out = (l.take j).filter (belK key u) ++ ((if done = true then m else []) ++ (l.take j).filter (abvK key u))
 low : done = false → ∀ i (h : i < l.length), i < j → cmpS (key l[i]) u < 0
 hit : done = true → m = [] ∨ ∃ i, ∃ h : i < l.length, i < j ∧ ¬ cmpS (key l[i]) u < 0
theorem InsAt.start {α : Type} {key : α → ByteArray} {u : ByteArray} {m l : List α} {done : Bool} (h : done = true → m = []) : InsAt key u m l 0 done [] := by
 refine ⟨?_, fun _ i _ hi => absurd hi (by omega), fun hd => .inl (h hd)⟩
 cases done with
 | false => simp
 | true => simp [h rfl]
theorem abv_none {α : Type} {key : α → ByteArray} {u : ByteArray} {l : List α} {j : Nat} (h : ∀ i (h : i < l.length), i < j → cmpS (key l[i]) u < 0) : (l.take j).filter (abvK key u) = [] := by
 rw [List.filter_eq_nil_iff]
 intro x hx hk
 obtain ⟨i, hi, hij, rfl⟩ := mem_take_get hx
 exact cmpS_asym (h i hi hij) (abvK_iff.1 hk)
theorem InsAt.below {α : Type} {key : α → ByteArray} {u : ByteArray} {m l : List α} {j : Nat} {done : Bool} {out : List α} (h : InsAt key u m l j done out) (hr : RiseK key l) (hj : j < l.length) (hlt : cmpS (key l[j]) u < 0) : InsAt key u m l (j + 1) done (out ++ [l[j]]) := by
 have h1 := low_of hr hj hlt
 have h2 : (if done = true then m else []) = [] := by
  cases hd : done with
  | false => rfl
  | true =>
   rcases h.hit hd with h3 | ⟨i, hi, hij, h3⟩
   ·simp [h3]
   ·exact absurd (h1 i hi hij) h3
 have hb : belK key u l[j] = true := belK_iff.2 hlt
 have ha : ¬ abvK key u l[j] = true := fun ha => cmpS_asym hlt (abvK_iff.1 ha)
 refine ⟨?_, fun hd i hi hij => ?_, fun hd => ?_⟩
 ·rw [h.row, h2, take_next_filter _ _ _ hj, take_next_filter _ _ _ hj, if_pos hb, if_neg ha, abv_none h1]
  simp
 ·rcases Nat.lt_or_ge i j with h3 | h3
  ·exact h1 i hi h3
  ·obtain rfl : i = j := by omega
   exact hlt
 ·rcases h.hit hd with h3 | ⟨i, hi, hij, h3⟩
  ·exact .inl h3
  ·exact .inr ⟨i, hi, by omega, h3⟩
theorem InsAt.same {α : Type} {key : α → ByteArray} {u : ByteArray} {m l : List α} {j : Nat} {out : List α} (h : InsAt key u m l j true out) (hj : j < l.length) (he : key l[j] = u) : InsAt key u m l (j + 1) true out := by
 have hb : ¬ belK key u l[j] = true := fun hb => cmpS_ne (belK_iff.1 hb) he
 have ha : ¬ abvK key u l[j] = true := fun ha => cmpS_ne (abvK_iff.1 ha) he.symm
 refine ⟨?_, fun hd => (by cases hd), fun hd => ?_⟩
 ·rw [h.row, take_next_filter _ _ _ hj, take_next_filter _ _ _ hj, if_neg hb, if_neg ha, List.append_nil, List.append_nil]
 ·rcases h.hit hd with h3 | ⟨i, hi, hij, h3⟩
  ·exact .inl h3
  ·exact .inr ⟨i, hi, by omega, h3⟩
theorem InsAt.lay {α : Type} {key : α → ByteArray} {u : ByteArray} {m l : List α} {j : Nat} {out : List α} (h : InsAt key u m l j false out) (hr : RiseK key l) (hj : j < l.length) (hge : ¬ cmpS (key l[j]) u < 0) :
  (key l[j] = u → InsAt key u m l (j + 1) true (out ++ m)) ∧ (cmpS u (key l[j]) < 0 → InsAt key u m l (j + 1) true ((out ++ m) ++ [l[j]])) := by
 have h1 := h.low rfl
 have hb : ¬ belK key u l[j] = true := fun hb => hge (belK_iff.1 hb)
 have hro := h.row
 rw [abv_none h1, if_neg Bool.false_ne_true, List.append_nil, List.append_nil] at hro
 constructor
 ·intro he
  have ha : ¬ abvK key u l[j] = true := fun ha => cmpS_ne (abvK_iff.1 ha) he.symm
  refine ⟨?_, fun hd => (by cases hd), fun _ => .inr ⟨j, hj, by omega, hge⟩⟩
  rw [hro, take_next_filter _ _ _ hj, take_next_filter _ _ _ hj, if_neg hb, if_neg ha, abv_none h1, if_pos rfl]
  simp
 ·intro hlt
  have ha : abvK key u l[j] = true := abvK_iff.2 hlt
  refine ⟨?_, fun hd => (by cases hd), fun _ => .inr ⟨j, hj, by omega, hge⟩⟩
  rw [hro, take_next_filter _ _ _ hj, take_next_filter _ _ _ hj, if_neg hb, if_pos ha, abv_none h1, if_pos rfl]
  simp
theorem InsAt.above {α : Type} {key : α → ByteArray} {u : ByteArray} {m l : List α} {j : Nat} {out : List α} (h : InsAt key u m l j true out) (hj : j < l.length) (hlt : cmpS u (key l[j]) < 0) : InsAt key u m l (j + 1) true (out ++ [l[j]]) := by
 have hb : ¬ belK key u l[j] = true := fun hb => cmpS_asym hlt (belK_iff.1 hb)
 have ha : abvK key u l[j] = true := abvK_iff.2 hlt
 refine ⟨?_, fun hd => (by cases hd), fun hd => ?_⟩
 ·rw [h.row, take_next_filter _ _ _ hj, take_next_filter _ _ _ hj, if_neg hb, if_pos ha]
  simp
 ·rcases h.hit hd with h3 | ⟨i, hi, hij, h3⟩
  ·exact .inl h3
  ·exact .inr ⟨i, hi, by omega, h3⟩
theorem InsAt.done {α : Type} {key : α → ByteArray} {u : ByteArray} {m l : List α} {out : List α} (h : InsAt key u m l l.length true out) : out = insK key u m l := by
 rw [h.row, List.take_of_length_le (Nat.le_refl _), if_pos rfl]
 rfl
theorem InsAt.miss {α : Type} {key : α → ByteArray} {u : ByteArray} {m l : List α} {out : List α} (h : InsAt key u m l l.length false out) : out ++ m = insK key u m l := by
 have h1 := abv_none (h.low rfl)
 rw [List.take_of_length_le (Nat.le_refl _)] at h1
 rw [h.row, List.take_of_length_le (Nat.le_refl _), if_neg Bool.false_ne_true, h1]
 unfold insK
 rw [h1]
 simp
theorem InsAt.len {α : Type} {key : α → ByteArray} {u : ByteArray} {m l : List α} {j : Nat} {done : Bool} {out : List α} (h : InsAt key u m l j done out) : out.length ≤ j + m.length := by
 have h1 := insK_len (key := key) (u := u) (m := if done = true then m else []) (l := l.take j)
 have h2 : (if done = true then m else []).length ≤ m.length := by split <;> simp
 have h3 : (l.take j).length ≤ j := by rw [List.length_take]; omega
 unfold insK at h1
 rw [← h.row] at h1
 omega
end Go.Proofs.YtmfpjapiijgdgaaGreat
namespace Go.Proofs.YtmfpjapiijgdgaaGreat
open Go.RowKit
set_option linter.unusedVariables false
set_option maxRecDepth 100000
set_option maxRecDepth 100000
theorem infoOpR : (Tryz.prog.info? 129).map (fun i => (i.zero, i.size, i.bytes)) = some (some (.agg #[.int .i64 0, .string ⟨#[]⟩, .int .i64 0, .int .i64 0]), 4, 40) := by kernel_rfl
theorem infoEnR : (Tryz.prog.info? 135).map (fun i => (i.zero, i.size, i.bytes)) = some (some (.agg #[.string ⟨#[]⟩, .string ⟨#[]⟩, .int .i64 0, .int .i64 0]), 4, 48) := by kernel_rfl
section
variable {w W W' : World} {g : Nat} {a b c d : Value} {t : TypeId}
theorem Zb.alloc (h : Zb w g a b c d t W) (o : Obj) : Zb w g a b c d t (W.alloc o) := h.below (below_one _ _)
end
theorem infoOpR4 : (Tryz.prog.info? 129).map (·.size) = some 4 := by kernel_rfl
section
variable {w W : World} {g : Nat} {a b c d : Value} {t : TypeId}
theorem Zb.loadR (h : Zb w g a b c d t W) (x y z v : Value) : (loadVar 129 ⟨g, 0, none⟩).run Tryz.prog (setO W g x y z v) = .ok (.agg #[x, y, z, v]) (setO W g x y z v) :=
 run_loadVar_mid (P := Tryz.prog) (W.setCells g 0 [x, y, z, v]) g 0 129 [x, y, z, v] _ (World.rangeAt_setCells_same _ _ _ _ h.there) Tryz.underlying129 rfl infoOpR4
theorem Zb.loadT (h : Zb w g a b c d t W) (x y z v : Value) : (loadVar 104 ⟨g, 0, none⟩).run Tryz.prog (setO W g x y z v) = .ok (.agg #[x, y, z, v]) (setO W g x y z v) :=
 run_loadVar_mid (P := Tryz.prog) (W.setCells g 0 [x, y, z, v]) g 0 104 [x, y, z, v] _ (World.rangeAt_setCells_same _ _ _ _ h.there) Tryz.underlying104 rfl infoStayR4
end
section
variable {W : World} {g : Nat} {x : SaL} {t : TypeId}
end
section
variable {w W W' : World} {g : Nat} {x : SaL} {t : TypeId}
end
section
variable {w W W' : World} {g : Nat} {x : SaL} {t : TypeId}
end
theorem infoSaR6 : (Tryz.prog.info? 27).map (·.size) = some 6 := by kernel_rfl
theorem loadR6 {W : World} {g : Nat} {x : SaL} {t : TypeId} (h : W.heap[g]? = some (.cells (saC x) t (0, 0))) : (loadVar 27 ⟨g, 0, none⟩).run Tryz.prog W = .ok (saV x) W :=
 run_loadVar_mid (P := Tryz.prog) W g 0 27 (saC x).toList _ (fun j v hv => by
  rw [Nat.zero_add, cell_of_row _ _ _ _ _ (0, 0) h]
  rw [Array.getElem?_toList] at hv
  exact hv) Tryz.underlying27 rfl infoSaR6
structure RB (w : World) (g : Nat) (cs : Array Value) (t : TypeId) (W : World) : Prop where
 blk : W.heap[g]? = some (.cells cs t (0, 0))
theorem RB.below {w W W' : World} {g : Nat} {cs : Array Value} {t : TypeId} (h : RB w g cs t W) (q : Below W.heap.size W W') : RB w g cs t W' := ⟨(q.block g (heap_lt h.blk)).trans h.blk⟩
theorem RB.new (w V : World) (cs : Array Value) (t : TypeId) : RB w V.heap.size cs t (V.alloc (.cells cs t)) := ⟨heap_alloc_new _ _⟩
theorem RB.cell {w W : World} {g : Nat} {cs : Array Value} {t : TypeId} (h : RB w g cs t W) (j : Nat) : W.cell? ⟨g, j, none⟩ = cs[j]? := cell_of_row _ _ _ _ _ (0, 0) h.blk
set_option maxHeartbeats 2000000 in
theorem rat_any (a : Option Addr) (c : Nat) (l : List OpM) (n : Int) (w : World) (hr : OpSl w a l) (hl : l.length ≤ 1000000) :
  Calls Tryz.prog 250 #[.slice a l.length c, .int .i64 n] w fun e w' => e = .returned (.int .i64 (idxO (hasN n) l)) ∧ Below w.heap.size w w' := by
 have HR := Lib.hid hr
 clear hr
 go_enter Tryz.func250, Tryz.ntmps250
 go_wp2
 go_loopw [5] (fun i wr => ∃ (j : Nat), j ≤ l.length ∧ i = .int .i64 j ∧ Hid (LoTo (hasN n) l j) ∧ Hid (Below w.heap.size w wr)) (fun i _ => l.length - (intOf i).toNat)
 case atStart => exact ⟨0, by omega, rfl, LoTo.zero _ _, Below.refl _ _⟩
 case round =>
  obtain ⟨j, hj, rfl, HO, HB⟩ := hrel
  by_cases hjl : j < l.length
  ·obtain ⟨b, off, rfl, hbl, hc0, hc1, hc2, hc3⟩ := (HR.out.below HB.out).at_ hjl
   have HNX := Lib.hid (HO.out.next hjl)
   have HHT := Lib.hid (HO.out.hit hjl)
   generalize l[j] = x at *
   obtain ⟨xn, xu, xs, xf⟩ := x
   dsimp only at *
   by_cases h1 : xn = n
   ·subst h1
    have d1 : (xn == xn) = true := beq_self_eq_true _
    have HN := Lib.hid (idxO_hit (HHT.out (decide_eq_true rfl)) hjl)
    clear HNX HHT HO
    go_wp2
    go_ret
    exact ⟨by rw [HN.out]; rfl, HB.out⟩
   ·have d1 : (xn == n) = false := beq_eq_false_iff_ne.2 h1
    have HN := Lib.hid (HNX.out (decide_eq_false h1))
    clear HNX HHT HO
    go_wp2
    go_roundw
    case rel => exact ⟨j + 1, by omega, by go_num, HN, HB.out⟩
    case measure => simp [intOf]; omega
  ·obtain rfl : j = l.length := by omega
   have HE := Lib.hid (idxO_miss HO.out.miss)
   go_wp2
   go_ret
   exact ⟨by rw [HE.out]; rfl, HB.out⟩
set_option maxHeartbeats 2000000 in
theorem rFind_any (a : Option Addr) (c : Nat) (l : List OpM) (n : Int) (u : ByteArray) (w : World) (hr : OpSl w a l) (hl : l.length ≤ 1000000) :
  Calls Tryz.prog 251 #[.slice a l.length c, .int .i64 n, .string u] w fun e w' => e = .returned (.tuple #[opV (findE l n u), .int .i64 (findC l n u)]) ∧ Below w.heap.size w w' := by
 have HF := Lib.hid (fun W (h : OpSl W a l) => rat_any a c l n W h hl)
 have HZ := Lib.hid (Zb.new w (.int .i64 0) (.string ⟨#[]⟩) (.int .i64 0) (.int .i64 0) 129)
 have HR := Lib.hid hr
 clear hr
 unfold opV
 have HI := fst_idx (hasN n) l
 generalize l.findIdx (hasN n) = k at HI
 by_cases hk : k < l.length
 ·have hix := idxO_hit HI hk
  rw [hix] at HF
  have d0 : decide ((k : Int) < 0) = false := decide_eq_false (by omega)
  by_cases hu : l[k].u = u
  ·obtain ⟨hc, he, _⟩ := fc_hit HI hk hu
   rw [hc, he]
   have d1 : (l[k].u.toList != u.toList) = false := by rw [hu]; exact txt_ns u
   have d1' : (l[k].u.toList == u.toList) = true := by rw [hu]; exact txt_eq u
   go_enter Tryz.func251, Tryz.ntmps251
   go_wp2_with fail
   refine (HF.out _ (HR.out.below HZ.out.frame)).mono ?_
   rintro e w1 ⟨rfl, hB⟩
   have K1 := HZ.out.below hB
   obtain ⟨b, off, rfl, hbl, hc0, hc1, hc2, hc3⟩ := (HR.out.below K1.frame).at_ hk
   have HL := Lib.hid (K1.loadR (.int .i64 l[k].n) (.string l[k].u) (.int .i64 l[k].s) (.int .i64 l[k].f))
   have HS := Lib.hid (K1.set (.int .i64 l[k].n) (.string l[k].u) (.int .i64 l[k].s) (.int .i64 l[k].f))
   obtain ⟨z0, z1, z2, z3⟩ := K1.cells
   obtain ⟨f0, f1, f2, f3⟩ := K1.free
   have hgl := K1.lt
   unfold setO at HL HS
   clear HF hB K1 hc he HI hix hu
   go_wp2
   refine bodyPost_ret (v := .tuple #[.agg #[.int .i64 l[k].n, .string l[k].u, .int .i64 l[k].s, .int .i64 l[k].f], .int .i64 0]) ?_ rfl ⟨rfl, HS.out⟩
   rw [results_cell_tmp rfl]
   simp [asAddr, Result.andThen, HL.out]
  ·obtain ⟨hc, he, _⟩ := fc_user HI hk hu
   rw [hc, he]
   unfold opZ
   dsimp only
   have d1 := txt_nt hu
   have d1' := txt_ne hu
   go_enter Tryz.func251, Tryz.ntmps251
   go_wp2_with fail
   refine (HF.out _ (HR.out.below HZ.out.frame)).mono ?_
   rintro e w1 ⟨rfl, hB⟩
   have K1 := HZ.out.below hB
   obtain ⟨b, off, rfl, hbl, hc0, hc1, hc2, hc3⟩ := (HR.out.below K1.frame).at_ hk
   have HL := Lib.hid (K1.loadR (.int .i64 0) (.string ⟨#[]⟩) (.int .i64 0) (.int .i64 0))
   have HS := Lib.hid (K1.set (.int .i64 0) (.string ⟨#[]⟩) (.int .i64 0) (.int .i64 0))
   obtain ⟨z0, z1, z2, z3⟩ := K1.cells
   obtain ⟨f0, f1, f2, f3⟩ := K1.free
   have hgl := K1.lt
   unfold setO at HL HS
   clear HF hB K1 hc he HI hix hu
   go_wp2
   refine bodyPost_ret (v := .tuple #[.agg #[.int .i64 0, .string ⟨#[]⟩, .int .i64 0, .int .i64 0], .int .i64 102]) ?_ rfl ⟨rfl, HS.out⟩
   rw [results_cell_tmp rfl]
   simp [asAddr, Result.andThen, HL.out]
 ·obtain rfl : k = l.length := by have := HI.le; omega
  rw [idxO_miss HI] at HF
  obtain ⟨hc, he, _⟩ := fc_miss HI u
  rw [hc, he]
  unfold opZ
  dsimp only
  go_enter Tryz.func251, Tryz.ntmps251
  go_wp2_with fail
  refine (HF.out _ (HR.out.below HZ.out.frame)).mono ?_
  rintro e w1 ⟨rfl, hB⟩
  have K1 := HZ.out.below hB
  have HL := Lib.hid (K1.loadR (.int .i64 0) (.string ⟨#[]⟩) (.int .i64 0) (.int .i64 0))
  have HS := Lib.hid (K1.set (.int .i64 0) (.string ⟨#[]⟩) (.int .i64 0) (.int .i64 0))
  obtain ⟨z0, z1, z2, z3⟩ := K1.cells
  obtain ⟨f0, f1, f2, f3⟩ := K1.free
  have hgl := K1.lt
  unfold setO at HL HS
  clear HF hB K1 hc he HI
  go_wp2
  refine bodyPost_ret (v := .tuple #[.agg #[.int .i64 0, .string ⟨#[]⟩, .int .i64 0, .int .i64 0], .int .i64 101]) ?_ rfl ⟨rfl, HS.out⟩
  rw [results_cell_tmp rfl]
  simp [asAddr, Result.andThen, HL.out]
end Go.Proofs.YtmfpjapiijgdgaaGreat
namespace Go.Proofs.YtmfpjapiijgdgaaGreat
open Go.RowKit Go.Proofs
set_option linter.unusedVariables false
set_option maxRecDepth 100000
set_option maxRecDepth 100000
theorem eown_empty8 (w : World) (e : TypeId) (k B : Nat) (hB : B ≤ w.heap.size) : (w.alloc (.cells #[] e)).ownsRow B e k (.slice (some ⟨w.heap.size, 0, none⟩) 0 0) 0 [] :=
 ⟨by simp, .inr ⟨w.heap.size, 0, #[], rfl, hB, heap_alloc_new w _, Nat.le_refl _, by unfold maxLen; omega, by simp, by simp⟩⟩
theorem infoUsR : (Tryz.prog.info? 131).map (fun i => (i.zero, i.size, i.bytes)) = some (some (.agg #[.string ⟨#[]⟩, .slice none 0 0]), 2, 40) := by kernel_rfl
theorem infoTbR : (Tryz.prog.info? 137).map (fun i => (i.zero, i.size, i.bytes)) = some (some (.agg #[.string ⟨#[]⟩, .int .i64 0]), 2, 24) := by kernel_rfl
end Go.Proofs.YtmfpjapiijgdgaaGreat
namespace Go.Proofs.YtmfpjapiijgdgaaGreat
open Go.Lib
section order
end order
def ins (s : List UInt8) : List (List UInt8) → List (List UInt8)
 | [] => [s]
 | x :: r => if compareBytes s x = 0 then x :: r else if compareBytes s x < 0 then s :: x :: r else x :: ins s r
end Go.Proofs.YtmfpjapiijgdgaaGreat
namespace Go.Proofs.YtmfpjapiijgdgaaGreat
open Go.RowKit Go.Sort Go.Proofs
set_option linter.unusedVariables false
set_option maxRecDepth 100000
set_option maxRecDepth 100000
set_option maxHeartbeats 2000000 in
theorem orwithout_any (a : Option Addr) (c : Nat) (l : List OpM) (u : ByteArray) (w : World) (hr : OpSl w a l) (hl : l.length ≤ 100000) :
  Calls Tryz.prog 148 #[.slice a l.length c, .string u] w fun e w' => ∃ v, e = .returned v ∧ w'.ownsRow w.heap.size 129 4 v (l.filter (notU u)).length (oes (l.filter (notU u))) ∧ Below w.heap.size w w' := by
 obtain ⟨i0, hi, hz0, hz1, hz2⟩ := info_parts infoOpR
 have HR := Lib.hid hr
 clear hr
 go_enter Tryz.func148, Tryz.ntmps148
 go_wp2
 go_loopw [5, 6] (fun v i wr => ∃ (j : Nat), j ≤ l.length ∧ i = .int .i64 j ∧ Hid (wr.ownsRow w.heap.size 129 4 v ((l.take j).filter (notU u)).length (oes ((l.take j).filter (notU u)))) ∧ Hid (Below w.heap.size w wr)) (fun _ i _ => l.length - (intOf i).toNat)
 case atStart => exact ⟨0, by omega, rfl, ⟨rfl, .inl ⟨rfl, rfl⟩⟩, Below.refl _ _⟩
 case round =>
  obtain ⟨j, hj, rfl, HO, HB⟩ := hrel
  by_cases hjl : j < l.length
  ·obtain ⟨b, off, rfl, hbl, hc0, hc1, hc2, hc3⟩ := (HR.out.below HB.out).at_ hjl
   have HT := Lib.hid (ofil_take (notU u) l j hjl)
   have HLN := Lib.hid (ofil_len (notU u) l j)
   generalize l[j] = x at *
   generalize (l.take j).filter (notU u) = m at *
   have hb1 := Below.refl wr.heap.size wr
   by_cases hu : x.u = u
   ·have HC2 : Hid ((l.take (j + 1)).filter (notU u) = m) := by
     have := HT.out
     rwa [if_neg (by unfold notU; rw [decide_eq_false (fun h => h hu)]; exact Bool.false_ne_true), List.append_nil] at this
    have q1 : (x.u.toList != u.toList) = false := by rw [hu]; exact txt_ns u
    have q2 : (x.u.toList == u.toList) = true := by rw [hu]; exact txt_eq u
    have HO2 := Lib.hid (own_below HO.out hb1)
    have HB2 := Lib.hid (HB.out.trans (hb1.mono HB.out.size))
    clear HT HLN hu hb1
    go_wp2
    go_roundw
    case rel => exact ⟨j + 1, by omega, by go_num, (by unfold Hid; rw [HC2.out]; exact HO2.out), HB2.out⟩
    case measure => simp [intOf]; omega
   ·have HC2 : Hid ((l.take (j + 1)).filter (notU u) = m ++ [x]) := by
     have := HT.out
     rwa [if_pos (show notU u x = true from decide_eq_true hu)] at this
    have q1 := txt_nt hu
    have q2 := txt_ne hu
    have hb2 : Below wr.heap.size wr (wr.alloc (.cells #[.int .i64 x.n, .string x.u, .int .i64 x.s, .int .i64 x.f] 129)) := hb1.trans ((below_one wr (.cells #[.int .i64 x.n, .string x.u, .int .i64 x.s, .int .i64 x.f] 129)).mono hb1.size)
    have HO2 := Lib.hid (own_below HO.out hb2)
    have HB2 := Lib.hid (HB.out.trans (hb2.mono HB.out.size))
    have HS2 := Lib.hid HB2.out.size
    have hlm := HLN.out
    clear HT hu hb1 hb2
    go_wp2_with (at_builtin; refine wpList_append_own _ rfl (.tmp 20) (.tmp 25) 22 rfl w.heap.size 129 i0 _ 4 40 Tryz.underlying22 hi hz0 hz1 hz2 rfl (by decide) _ _ _ rfl HO2.out ⟨wr.heap.size, 0, none⟩ 1 1 [.int .i64 x.n, .string x.u, .int .i64 x.s, .int .i64 x.f] rfl rfl (news_at _ _ _ _ rfl) (four_o _ _ _ _) (by unfold maxLen; omega) (by omega) HS2.out ?_; intro v' w3 hown' hgrow hiff)
    have HB3 := Lib.hid (app_below HB2.out HS2.out HO2.out hgrow)
    have HO3 := Lib.hid hown'
    clear hown' hgrow hiff HB2 HS2 HO2
    go_wp2
    go_roundw
    case rel => exact ⟨j + 1, by omega, by go_num, (by unfold Hid; rw [HC2.out, List.length_append, oes_snoc]; exact HO3.out), HB3⟩
    case measure => simp [intOf]; omega
  ·obtain rfl : j = l.length := by omega
   rw [List.take_of_length_le (Nat.le_refl _)] at HO
   go_wp2
   go_ret
   exact ⟨_, rfl, HO.out, HB.out⟩
end Go.Proofs.YtmfpjapiijgdgaaGreat
namespace Go.Proofs.YtmfpjapiijgdgaaGreat
open Go.RowKit Go.Proofs
set_option linter.unusedVariables false
set_option maxRecDepth 100000
set_option maxRecDepth 100000
theorem oes_set4 (l : List OpM) (k : Nat) (h : k < l.length) (n : Int) (u : ByteArray) (s f : Int) (hn : l[k].n = n) (hu : l[k].u = u) : ((((oes l).set (k * 4) (.int .i64 n)).set (k * 4 + 1) (.string u)).set (k * 4 + 2) (.int .i64 s)).set (k * 4 + 3) (.int .i64 f) = oes (chgAt l k s f) := by
 have hk : (oes (l.take k)).length = k * 4 := by rw [oes_len, List.length_take]; omega
 subst hn hu
 rw [chgAt_at h, oes_split l k h, oes_append, oes_cons]
 rw [List.set_append_right _ _ (by omega), List.set_append_right _ _ (by omega), List.set_append_right _ _ (by omega), List.set_append_right _ _ (by omega), hk]
 have e0 : k * 4 - k * 4 = 0 := by omega
 have e3 : k * 4 + 1 - k * 4 = 1 := by omega
 have e1 : k * 4 + 2 - k * 4 = 2 := by omega
 have e2 : k * 4 + 3 - k * 4 = 3 := by omega
 rw [e0, e1, e2, e3]
 rfl
theorem wpList_append_op2 {P : Program} (w : World) {ops : Array Oper} {rest : List Oper} {o : Oper} {a : Act} {Q : Exit → Act → World → Prop} (hgd : o.guard = none) (s x : Operand) (t : TypeId)
  (ho : o.op = .call { callee := .builtin .append, args := #[s, x], argTypes := #[t, t] })
  (base : Nat) (e : TypeId) (i : TypeInfo) (z : Value) (ht : P.underlying t = some (.slice e)) (hi : P.info? e = some i) (hz : i.zero = some z)
  (hsize : i.size = 4) (hby : i.bytes = 40) (hzs : z.cells.size = 4)
  (v : Value) (l : List OpM) (hs : a.eval s = v) (hown : w.ownsRow base e 4 v l.length (oes l))
  (A : Option Addr) (c : Nat) (m : List OpM) (n : Nat) (hn : n = m.length) (hx : a.eval x = .slice A n c) (hsl : OpSl w A m) (hnil : A = none → c = 0)
  (hlen : l.length + m.length ≤ 1000000) (hbase : base ≤ w.heap.size)
  (h : ∀ v' w', w'.ownsRow base e 4 v' (l ++ m).length (oes (l ++ m)) → Below base w w' → wpList P ops Q rest (a.put o.dst v') w') : wpList P ops Q (o :: rest) a w := by
 subst hn
 exact wpList_append_op w hgd s x t ho base e i z ht hi hz hsize hby hzs v l hs hown A c m hx hsl hnil hlen hbase h
theorem oown_snoc {w : World} {B : Nat} {e : TypeId} {v : Value} {m : List OpM} {x : OpM} (h : w.ownsRow B e 4 v (m.length + 1) (oes m ++ [.int .i64 x.n, .string x.u, .int .i64 x.s, .int .i64 x.f])) : w.ownsRow B e 4 v (m ++ [x]).length (oes (m ++ [x])) := by
 rw [List.length_append, oes_snoc]
 exact h
set_option maxHeartbeats 8000000 in
theorem ropen_any (a : Option Addr) (c : Nat) (l : List OpM) (e : OpM) (w : World) (hr : OpSl w a l) (hn : a = none → c = 0) (hl : l.length ≤ 500) (hc : l.length ≤ c) (hcm : c ≤ maxLen) :
  Calls Tryz.prog 204 #[.slice a l.length c, opV e] w fun r w' => ∃ v, r = .returned (.tuple #[v, .int .i64 (openC l e)]) ∧ GotO w w' (openR l e) v := by
 obtain ⟨i0, hi, hz0, hz1, hz2⟩ := info_parts infoOpR
 have HIF := Lib.hid (fun W (h : OpSl W a l) => rat_any a c l e.n W h (by omega))
 have HNil := Lib.hid hn
 have HK0 := Lib.hid (RsO.new (x := e) hr (Below.refl _ _) 129)
 have HSB : Hid (∀ W, RsO w w.heap.size e a l W → W.cell? ⟨w.heap.size, 0, none⟩ = some (.int .i64 e.n) ∧ W.cell? ⟨w.heap.size, 1, none⟩ = some (.string e.u) ∧ W.cell? ⟨w.heap.size, 2, none⟩ = some (.int .i64 e.s) ∧ W.cell? ⟨w.heap.size, 3, none⟩ = some (.int .i64 e.f)) := fun W h => h.box
 have HGA := Lib.hid (fun k (h : IsFst (abvN e.n) l k) => open_at h)
 have hDA := idxO_any (hasN e.n) l
 have hOC : openC l e = if l.any (hasN e.n) = true then 100 else if 16 ≤ l.length then 103 else 0 := rfl
 have hOR : openR l e = if openC l e = 0 then openS l e else [] := rfl
 unfold opV
 unfold maxLen at hcm
 generalize idxO (hasN e.n) l = ix at *
 cases hi2 : l.any (hasN e.n) with
 | true =>
  rw [hi2] at hDA
  rw [hi2, if_pos rfl] at hOC
  rw [hOC, if_neg (by decide)] at hOR
  rw [hOC, hOR]
  clear hr hn hi2 hOC hOR HGA
  go_enter Tryz.func204, Tryz.ntmps204
  obtain ⟨y0, y1, y2, y3⟩ := HSB.out _ HK0.out
  go_wp2_with fail
  refine (HIF.out _ HK0.out.row).mono ?_
  rintro r w1 ⟨rfl, hB⟩
  have K1 := HK0.out.below hB
  clear HIF hB y0 y1 y2 y3
  go_wp2
  go_ret2
  exact ⟨_, rfl, GotO.nil K1.frame⟩
 | false =>
  rw [hi2] at hDA
  rw [hi2, if_neg Bool.false_ne_true] at hOC
  by_cases h16 : 16 ≤ l.length
  ·rw [if_pos h16] at hOC
   rw [hOC, if_neg (by decide)] at hOR
   rw [hOC, hOR]
   have d1 : decide ((16 : Int) ≤ (l.length : Int)) = true := decide_eq_true (by omega)
   have d2 : decide ((l.length : Int) ≥ (16 : Int)) = true := decide_eq_true (by omega)
   clear hr hn hi2 hOC hOR HGA
   go_enter Tryz.func204, Tryz.ntmps204
   obtain ⟨y0, y1, y2, y3⟩ := HSB.out _ HK0.out
   go_wp2_with fail
   refine (HIF.out _ HK0.out.row).mono ?_
   rintro r w1 ⟨rfl, hB⟩
   have K1 := HK0.out.below hB
   clear HIF hB y0 y1 y2 y3
   go_wp2
   go_ret2
   exact ⟨_, rfl, GotO.nil K1.frame⟩
  ·rw [if_neg h16] at hOC
   rw [hOC, if_pos rfl] at hOR
   rw [hOC, hOR]
   have d1 : decide ((16 : Int) ≤ (l.length : Int)) = false := decide_eq_false (by omega)
   have d2 : decide ((l.length : Int) ≥ (16 : Int)) = false := decide_eq_false (by omega)
   generalize hG : openS l e = G at *
   clear hr hn hi2 hOC hOR h16 hG
   go_enter Tryz.func204, Tryz.ntmps204
   obtain ⟨y0, y1, y2, y3⟩ := HSB.out _ HK0.out
   go_wp2_with fail
   refine (HIF.out _ HK0.out.row).mono ?_
   rintro r w1 ⟨rfl, hB⟩
   have K1 := HK0.out.below hB
   clear HIF hB y0 y1 y2 y3
   have HK1 := Lib.hid K1
   clear HK0 K1
   generalize w.heap.size = g at *
   go_wp2
   clear d1 d2 hDA
   go_loopw [6] (fun i wr => ∃ (j : Nat), j ≤ l.length ∧ i = .int .i64 j ∧ Hid (LoTo (abvN e.n) l j) ∧ Hid (RsO w g e a l wr)) (fun i _ => l.length - (intOf i).toNat)
   case atStart => exact ⟨0, by omega, rfl, LoTo.zero _ _, HK1.out⟩
   case round =>
    clear HK1
    obtain ⟨j, hj, rfl, HO, HK⟩ := hrel
    by_cases hjl : j < l.length
    ·obtain ⟨b, off, rfl, -, hc0, hc1, hc2, hc3⟩ := HK.out.row.at_ hjl
     obtain ⟨x0, x1, x2, x3⟩ := HSB.out _ HK.out
     have HNX := Lib.hid (HO.out.next hjl)
     have HHT := Lib.hid (HO.out.hit hjl)
     have dj : decide ((j : Int) < (l.length : Int)) = true := decide_eq_true (by omega)
     generalize l[j] = x at *
     by_cases h3 : e.n < x.n
     ·have HP := Lib.hid (HHT.out (decide_eq_true h3))
      have d4 : decide (x.n ≤ e.n) = false := decide_eq_false (by omega)
      clear HNX HHT HO h3 HNil
      go_wp2
      go_quiet (fail)
      have K3 := HK.out.below (Drew.below (w' := wr.drewN nq) ⟨nq, rfl⟩ _)
      generalize wr.drewN nq = K3W at *
      clear hc0 hc1 hc2 hc3 x0 x1 x2 x3 dj d4 HK
      have hcj : ¬ c = j := by omega
      have hcj2 : j < c := by omega
      have hpc : j ≤ c := by omega
      have hz1' : (0 : Int) ≤ (j : Int) := by omega
      have hz2' : (j : Int) ≤ (l.length : Int) := by omega
      have hz3' : (j : Int) ≤ (c : Int) := by omega
      have hz4' : (l.length : Int) ≤ (c : Int) := by omega
      obtain ⟨m1, e1⟩ : ∃ m, m = l.take j := ⟨_, rfl⟩
      obtain ⟨m2, e2⟩ : ∃ m, m = l.drop j := ⟨_, rfl⟩
      have HL1 : Hid (j = m1.length) := by unfold Hid; rw [e1, List.length_take]; omega
      have HL2 : Hid (l.length - j = m2.length) := by unfold Hid; rw [e2, List.length_drop]
      have hk1 : (some ⟨b, off, none⟩ : Option Addr) = none → c = 0 := fun h => (by cases h)
      have hk2 : (some ⟨b, off + j * 4, none⟩ : Option Addr) = none → c - j = 0 := fun h => (by cases h)
      have HS1 : Hid (∀ W, Below K3W.heap.size K3W W → OpSl W (some ⟨b, off, none⟩) m1) := fun W h => by rw [e1]; exact (K3.row.below h).take j
      have HS2 : Hid (∀ W, Below K3W.heap.size K3W W → OpSl W (some ⟨b, off + j * 4, none⟩) m2) := fun W h => by rw [e2]; exact (K3.row.below h).drop j
      have HGG : Hid (m1 ++ [e] ++ m2 = G) := by unfold Hid; rw [e1, e2, HGA.out j HP.out, List.append_assoc]; rfl
      clear e1 e2
      clear HGA HP
      have hb1 : m1.length ≤ 500 := by have := HL1.out; omega
      have hb2 : m2.length ≤ 500 := by have := HL2.out; omega
      have HE0 := Lib.hid (own_emptyO K3W 129 4 K3W.heap.size (Nat.le_refl _))
      have HEB := Lib.hid (below_one K3W (.cells #[] 129))
      have HM1 := Lib.hid (HS1.out _ HEB.out)
      have HMS := Lib.hid HEB.out.size
      go_wp2_with (first | (at_builtin; refine wpList_append_op2 _ rfl (.tmp 32) (.tmp 35) 22 rfl K3W.heap.size 129 i0 _ Tryz.underlying22 hi hz0 hz1 hz2 rfl _ [] rfl HE0.out (some ⟨b, off, none⟩) c m1 j HL1.out rfl HM1.out hk1 (by simp; omega) HMS.out ?_; intro v1 w4 ho1 hB1; have HO1 := Lib.hid ho1; have HB1 := Lib.hid (HEB.out.trans hB1); have HO1A : Hid ((w4.alloc (.cells #[.int .i64 e.n, .string e.u, .int .i64 e.s, .int .i64 e.f] 129)).ownsRow K3W.heap.size 129 4 v1 m1.length (oes m1)) := own_below HO1.out (below_one w4 (.cells #[.int .i64 e.n, .string e.u, .int .i64 e.s, .int .i64 e.f] 129)); have HB1A := Lib.hid (HB1.out.trans ((below_one w4 (.cells #[.int .i64 e.n, .string e.u, .int .i64 e.s, .int .i64 e.f] 129)).mono HB1.out.size)); have HS1A := Lib.hid HB1A.out.size; clear ho1 hB1; obtain ⟨d0, d1, d2, d3⟩ := HSB.out _ (K3.below HB1.out)) | (at_builtin; refine wpList_append_own _ rfl (.tmp 37) (.tmp 39) 22 rfl K3W.heap.size 129 i0 _ 4 40 Tryz.underlying22 hi hz0 hz1 hz2 rfl (by decide) _ _ _ rfl HO1A.out ⟨w4.heap.size, 0, none⟩ 1 1 [.int .i64 e.n, .string e.u, .int .i64 e.s, .int .i64 e.f] rfl rfl (news_at _ _ _ _ rfl) (four_o _ _ _ _) (by unfold maxLen; omega) (by omega) HS1A.out ?_; intro v2 w5 ho2 hgrow hiff; have HB2 := Lib.hid (app_below HB1A.out HS1A.out HO1A.out hgrow); have HO2 : Hid (w5.ownsRow K3W.heap.size 129 4 v2 (m1 ++ [e]).length (oes (m1 ++ [e]))) := oown_snoc ho2; clear ho2 hgrow hiff; have HM2 := Lib.hid (HS2.out _ HB2.out); have HMS2 := Lib.hid HB2.out.size) | (at_builtin; refine wpList_append_op2 _ rfl (.tmp 41) (.tmp 44) 22 rfl K3W.heap.size 129 i0 _ Tryz.underlying22 hi hz0 hz1 hz2 rfl _ (m1 ++ [e]) rfl HO2.out (some ⟨b, off + j * 4, none⟩) (c - j) m2 (l.length - j) HL2.out rfl HM2.out hk2 (by simp; omega) HMS2.out ?_; intro v3 w6 ho3 hB3; have HO3 := Lib.hid ho3; have HB3 := Lib.hid (HB2.out.trans hB3); clear ho3 hB3))
      rw [HGG.out] at HO3
      go_ret2
      first | exact ⟨v3, rfl, GotO.of HO3.out (K3.frame.trans (HB3.out.mono K3.frame.size))⟩ | exact ⟨v3, by trivial, GotO.of HO3.out (K3.frame.trans (HB3.out.mono K3.frame.size))⟩
     ·have HN := Lib.hid (HNX.out (decide_eq_false h3))
      have d4 : decide (x.n ≤ e.n) = true := decide_eq_true (by omega)
      clear HNX HHT HO h3 HNil HGA
      go_wp2
      go_quiet (fail)
      go_wp2
      go_roundw
      case rel => exact ⟨j + 1, by omega, by go_num, HN, HK.out.below (Drew.below ⟨_, rfl⟩ _)⟩
      case measure => simp [intOf]; omega
    ·have hje : j = l.length := by omega
     have HP : Hid (IsFst (abvN e.n) l j) := by rw [hje] at HO ⊢; exact HO.out.miss
     have dj : decide ((j : Int) < (l.length : Int)) = false := decide_eq_false (by omega)
     clear HO
     go_wp2
     go_quiet (fail)
     have K3 := HK.out.below (Drew.below (w' := wr.drewN nq) ⟨nq, rfl⟩ _)
     generalize wr.drewN nq = K3W at *
     clear dj HK
     cases a with
     | none =>
      have hc0 := HNil.out rfl
      have hl0 := K3.row.snil
      subst hc0 hl0
      obtain rfl : j = 0 := by simpa using hje
      obtain ⟨m1, e1⟩ : ∃ m : List OpM, m = [] := ⟨_, rfl⟩
      obtain ⟨m2, e2⟩ : ∃ m : List OpM, m = [] := ⟨_, rfl⟩
      have HL1 : Hid (0 = m1.length) := by unfold Hid; rw [e1]; rfl
      have HL2 : Hid (0 = m2.length) := by unfold Hid; rw [e2]; rfl
      have hk1 : (none : Option Addr) = none → 0 = 0 := fun _ => rfl
      have hk2 : (none : Option Addr) = none → 0 = 0 := fun _ => rfl
      have HS1 : Hid (∀ W, Below K3W.heap.size K3W W → OpSl W (none : Option Addr) m1) := fun W h => by rw [e1]; exact OpSl.nil _ _
      have HS2 : Hid (∀ W, Below K3W.heap.size K3W W → OpSl W (none : Option Addr) m2) := fun W h => by rw [e2]; exact OpSl.nil _ _
      have HGG : Hid (m1 ++ [e] ++ m2 = G) := by unfold Hid; rw [e1, e2, HGA.out 0 HP.out]; rfl
      clear e1 e2
      clear HGA HP HNil hje
      have hb1 : m1.length ≤ 500 := by have := HL1.out; omega
      have hb2 : m2.length ≤ 500 := by have := HL2.out; omega
      have HE0 := Lib.hid (own_emptyO K3W 129 4 K3W.heap.size (Nat.le_refl _))
      have HEB := Lib.hid (below_one K3W (.cells #[] 129))
      have HM1 := Lib.hid (HS1.out _ HEB.out)
      have HMS := Lib.hid HEB.out.size
      go_wp2_with (first | (at_builtin; refine wpList_append_op2 _ rfl (.tmp 32) (.tmp 35) 22 rfl K3W.heap.size 129 i0 _ Tryz.underlying22 hi hz0 hz1 hz2 rfl _ [] rfl HE0.out none 0 m1 0 HL1.out rfl HM1.out hk1 (by simp; omega) HMS.out ?_; intro v1 w4 ho1 hB1; have HO1 := Lib.hid ho1; have HB1 := Lib.hid (HEB.out.trans hB1); have HO1A : Hid ((w4.alloc (.cells #[.int .i64 e.n, .string e.u, .int .i64 e.s, .int .i64 e.f] 129)).ownsRow K3W.heap.size 129 4 v1 m1.length (oes m1)) := own_below HO1.out (below_one w4 (.cells #[.int .i64 e.n, .string e.u, .int .i64 e.s, .int .i64 e.f] 129)); have HB1A := Lib.hid (HB1.out.trans ((below_one w4 (.cells #[.int .i64 e.n, .string e.u, .int .i64 e.s, .int .i64 e.f] 129)).mono HB1.out.size)); have HS1A := Lib.hid HB1A.out.size; clear ho1 hB1; obtain ⟨d0, d1, d2, d3⟩ := HSB.out _ (K3.below HB1.out)) | (at_builtin; refine wpList_append_own _ rfl (.tmp 37) (.tmp 39) 22 rfl K3W.heap.size 129 i0 _ 4 40 Tryz.underlying22 hi hz0 hz1 hz2 rfl (by decide) _ _ _ rfl HO1A.out ⟨w4.heap.size, 0, none⟩ 1 1 [.int .i64 e.n, .string e.u, .int .i64 e.s, .int .i64 e.f] rfl rfl (news_at _ _ _ _ rfl) (four_o _ _ _ _) (by unfold maxLen; omega) (by omega) HS1A.out ?_; intro v2 w5 ho2 hgrow hiff; have HB2 := Lib.hid (app_below HB1A.out HS1A.out HO1A.out hgrow); have HO2 : Hid (w5.ownsRow K3W.heap.size 129 4 v2 (m1 ++ [e]).length (oes (m1 ++ [e]))) := oown_snoc ho2; clear ho2 hgrow hiff; have HM2 := Lib.hid (HS2.out _ HB2.out); have HMS2 := Lib.hid HB2.out.size) | (at_builtin; refine wpList_append_op2 _ rfl (.tmp 41) (.tmp 44) 22 rfl K3W.heap.size 129 i0 _ Tryz.underlying22 hi hz0 hz1 hz2 rfl _ (m1 ++ [e]) rfl HO2.out none 0 m2 0 HL2.out rfl HM2.out hk2 (by simp; omega) HMS2.out ?_; intro v3 w6 ho3 hB3; have HO3 := Lib.hid ho3; have HB3 := Lib.hid (HB2.out.trans hB3); clear ho3 hB3))
      rw [HGG.out] at HO3
      go_ret2
      first | exact ⟨v3, rfl, GotO.of HO3.out (K3.frame.trans (HB3.out.mono K3.frame.size))⟩ | exact ⟨v3, by trivial, GotO.of HO3.out (K3.frame.trans (HB3.out.mono K3.frame.size))⟩
     | some ad =>
      by_cases hlz : 0 < l.length
      ·obtain ⟨b, off, e0, -, -, -, -, -⟩ := K3.row.at_ hlz
       cases e0
       by_cases hcj : c = j
       ·subst hje
        subst hcj
        have hz2' : (l.length : Int) ≤ (l.length : Int) := Int.le_refl _
        have hz1' : (0 : Int) ≤ (l.length : Int) := by omega
        obtain ⟨m1, e1⟩ : ∃ m, m = l := ⟨_, rfl⟩
        obtain ⟨m2, e2⟩ : ∃ m : List OpM, m = [] := ⟨_, rfl⟩
        have HL1 : Hid (l.length = m1.length) := by unfold Hid; rw [e1]
        have HL2 : Hid (0 = m2.length) := by unfold Hid; rw [e2]; rfl
        have hk1 : (some ⟨b, off, none⟩ : Option Addr) = none → l.length = 0 := fun h => (by cases h)
        have hk2 : (some ⟨b, off, none⟩ : Option Addr) = none → 0 = 0 := fun h => (by cases h)
        have HS1 : Hid (∀ W, Below K3W.heap.size K3W W → OpSl W (some ⟨b, off, none⟩) m1) := fun W h => by rw [e1]; exact K3.row.below h
        have HS2 : Hid (∀ W, Below K3W.heap.size K3W W → OpSl W (some ⟨b, off, none⟩) m2) := fun W h => by rw [e2]; exact OpSl.nil _ _
        have HGG : Hid (m1 ++ [e] ++ m2 = G) := by unfold Hid; rw [e1, e2, HGA.out l.length HP.out, List.take_of_length_le (Nat.le_refl _), List.drop_of_length_le (Nat.le_refl _), List.append_nil]
        clear e1 e2 HGA HP HNil
        have hb1 : m1.length ≤ 500 := by have := HL1.out; omega
        have hb2 : m2.length ≤ 500 := by have := HL2.out; omega
        have HE0 := Lib.hid (own_emptyO K3W 129 4 K3W.heap.size (Nat.le_refl _))
        have HEB := Lib.hid (below_one K3W (.cells #[] 129))
        have HM1 := Lib.hid (HS1.out _ HEB.out)
        have HMS := Lib.hid HEB.out.size
        go_wp2_with (first | (at_builtin; refine wpList_append_op2 _ rfl (.tmp 32) (.tmp 35) 22 rfl K3W.heap.size 129 i0 _ Tryz.underlying22 hi hz0 hz1 hz2 rfl _ [] rfl HE0.out (some ⟨b, off, none⟩) l.length m1 l.length HL1.out rfl HM1.out hk1 (by simp; omega) HMS.out ?_; intro v1 w4 ho1 hB1; have HO1 := Lib.hid ho1; have HB1 := Lib.hid (HEB.out.trans hB1); have HO1A : Hid ((w4.alloc (.cells #[.int .i64 e.n, .string e.u, .int .i64 e.s, .int .i64 e.f] 129)).ownsRow K3W.heap.size 129 4 v1 m1.length (oes m1)) := own_below HO1.out (below_one w4 (.cells #[.int .i64 e.n, .string e.u, .int .i64 e.s, .int .i64 e.f] 129)); have HB1A := Lib.hid (HB1.out.trans ((below_one w4 (.cells #[.int .i64 e.n, .string e.u, .int .i64 e.s, .int .i64 e.f] 129)).mono HB1.out.size)); have HS1A := Lib.hid HB1A.out.size; clear ho1 hB1; obtain ⟨d0, d1, d2, d3⟩ := HSB.out _ (K3.below HB1.out)) | (at_builtin; refine wpList_append_own _ rfl (.tmp 37) (.tmp 39) 22 rfl K3W.heap.size 129 i0 _ 4 40 Tryz.underlying22 hi hz0 hz1 hz2 rfl (by decide) _ _ _ rfl HO1A.out ⟨w4.heap.size, 0, none⟩ 1 1 [.int .i64 e.n, .string e.u, .int .i64 e.s, .int .i64 e.f] rfl rfl (news_at _ _ _ _ rfl) (four_o _ _ _ _) (by unfold maxLen; omega) (by omega) HS1A.out ?_; intro v2 w5 ho2 hgrow hiff; have HB2 := Lib.hid (app_below HB1A.out HS1A.out HO1A.out hgrow); have HO2 : Hid (w5.ownsRow K3W.heap.size 129 4 v2 (m1 ++ [e]).length (oes (m1 ++ [e]))) := oown_snoc ho2; clear ho2 hgrow hiff; have HM2 := Lib.hid (HS2.out _ HB2.out); have HMS2 := Lib.hid HB2.out.size) | (at_builtin; refine wpList_append_op2 _ rfl (.tmp 41) (.tmp 44) 22 rfl K3W.heap.size 129 i0 _ Tryz.underlying22 hi hz0 hz1 hz2 rfl _ (m1 ++ [e]) rfl HO2.out (some ⟨b, off, none⟩) 0 m2 0 HL2.out rfl HM2.out hk2 (by simp; omega) HMS2.out ?_; intro v3 w6 ho3 hB3; have HO3 := Lib.hid ho3; have HB3 := Lib.hid (HB2.out.trans hB3); clear ho3 hB3))
        rw [HGG.out] at HO3
        go_ret2
        first | exact ⟨v3, rfl, GotO.of HO3.out (K3.frame.trans (HB3.out.mono K3.frame.size))⟩ | exact ⟨v3, by trivial, GotO.of HO3.out (K3.frame.trans (HB3.out.mono K3.frame.size))⟩
       ·have hcj2 : j < c := by omega
        have hpc : j ≤ c := by omega
        have hz1' : (0 : Int) ≤ (j : Int) := by omega
        have hz2' : (j : Int) ≤ (l.length : Int) := by omega
        have hz3' : (j : Int) ≤ (c : Int) := by omega
        have hz4' : (l.length : Int) ≤ (c : Int) := by omega
        obtain ⟨m1, e1⟩ : ∃ m, m = l.take j := ⟨_, rfl⟩
        obtain ⟨m2, e2⟩ : ∃ m, m = l.drop j := ⟨_, rfl⟩
        have HL1 : Hid (j = m1.length) := by unfold Hid; rw [e1, List.length_take]; omega
        have HL2 : Hid (l.length - j = m2.length) := by unfold Hid; rw [e2, List.length_drop]
        have hk1 : (some ⟨b, off, none⟩ : Option Addr) = none → c = 0 := fun h => (by cases h)
        have hk2 : (some ⟨b, off + j * 4, none⟩ : Option Addr) = none → c - j = 0 := fun h => (by cases h)
        have HS1 : Hid (∀ W, Below K3W.heap.size K3W W → OpSl W (some ⟨b, off, none⟩) m1) := fun W h => by rw [e1]; exact (K3.row.below h).take j
        have HS2 : Hid (∀ W, Below K3W.heap.size K3W W → OpSl W (some ⟨b, off + j * 4, none⟩) m2) := fun W h => by rw [e2]; exact (K3.row.below h).drop j
        have HGG : Hid (m1 ++ [e] ++ m2 = G) := by unfold Hid; rw [e1, e2, HGA.out j HP.out, List.append_assoc]; rfl
        clear e1 e2
        clear HGA HP HNil hje
        have hb1 : m1.length ≤ 500 := by have := HL1.out; omega
        have hb2 : m2.length ≤ 500 := by have := HL2.out; omega
        have HE0 := Lib.hid (own_emptyO K3W 129 4 K3W.heap.size (Nat.le_refl _))
        have HEB := Lib.hid (below_one K3W (.cells #[] 129))
        have HM1 := Lib.hid (HS1.out _ HEB.out)
        have HMS := Lib.hid HEB.out.size
        go_wp2_with (first | (at_builtin; refine wpList_append_op2 _ rfl (.tmp 32) (.tmp 35) 22 rfl K3W.heap.size 129 i0 _ Tryz.underlying22 hi hz0 hz1 hz2 rfl _ [] rfl HE0.out (some ⟨b, off, none⟩) c m1 j HL1.out rfl HM1.out hk1 (by simp; omega) HMS.out ?_; intro v1 w4 ho1 hB1; have HO1 := Lib.hid ho1; have HB1 := Lib.hid (HEB.out.trans hB1); have HO1A : Hid ((w4.alloc (.cells #[.int .i64 e.n, .string e.u, .int .i64 e.s, .int .i64 e.f] 129)).ownsRow K3W.heap.size 129 4 v1 m1.length (oes m1)) := own_below HO1.out (below_one w4 (.cells #[.int .i64 e.n, .string e.u, .int .i64 e.s, .int .i64 e.f] 129)); have HB1A := Lib.hid (HB1.out.trans ((below_one w4 (.cells #[.int .i64 e.n, .string e.u, .int .i64 e.s, .int .i64 e.f] 129)).mono HB1.out.size)); have HS1A := Lib.hid HB1A.out.size; clear ho1 hB1; obtain ⟨d0, d1, d2, d3⟩ := HSB.out _ (K3.below HB1.out)) | (at_builtin; refine wpList_append_own _ rfl (.tmp 37) (.tmp 39) 22 rfl K3W.heap.size 129 i0 _ 4 40 Tryz.underlying22 hi hz0 hz1 hz2 rfl (by decide) _ _ _ rfl HO1A.out ⟨w4.heap.size, 0, none⟩ 1 1 [.int .i64 e.n, .string e.u, .int .i64 e.s, .int .i64 e.f] rfl rfl (news_at _ _ _ _ rfl) (four_o _ _ _ _) (by unfold maxLen; omega) (by omega) HS1A.out ?_; intro v2 w5 ho2 hgrow hiff; have HB2 := Lib.hid (app_below HB1A.out HS1A.out HO1A.out hgrow); have HO2 : Hid (w5.ownsRow K3W.heap.size 129 4 v2 (m1 ++ [e]).length (oes (m1 ++ [e]))) := oown_snoc ho2; clear ho2 hgrow hiff; have HM2 := Lib.hid (HS2.out _ HB2.out); have HMS2 := Lib.hid HB2.out.size) | (at_builtin; refine wpList_append_op2 _ rfl (.tmp 41) (.tmp 44) 22 rfl K3W.heap.size 129 i0 _ Tryz.underlying22 hi hz0 hz1 hz2 rfl _ (m1 ++ [e]) rfl HO2.out (some ⟨b, off + j * 4, none⟩) (c - j) m2 (l.length - j) HL2.out rfl HM2.out hk2 (by simp; omega) HMS2.out ?_; intro v3 w6 ho3 hB3; have HO3 := Lib.hid ho3; have HB3 := Lib.hid (HB2.out.trans hB3); clear ho3 hB3))
        rw [HGG.out] at HO3
        go_ret2
        first | exact ⟨v3, rfl, GotO.of HO3.out (K3.frame.trans (HB3.out.mono K3.frame.size))⟩ | exact ⟨v3, by trivial, GotO.of HO3.out (K3.frame.trans (HB3.out.mono K3.frame.size))⟩
      ·have hl0 : l = [] := List.eq_nil_of_length_eq_zero (by omega)
       subst hl0
       obtain rfl : j = 0 := by simpa using hje
       have hz : (0 : Int) ≤ (c : Int) := by omega
       by_cases hcp : c = 0
       ·subst hcp
        obtain ⟨m1, e1⟩ : ∃ m : List OpM, m = [] := ⟨_, rfl⟩
        obtain ⟨m2, e2⟩ : ∃ m : List OpM, m = [] := ⟨_, rfl⟩
        have HL1 : Hid (0 = m1.length) := by unfold Hid; rw [e1]; rfl
        have HL2 : Hid (0 = m2.length) := by unfold Hid; rw [e2]; rfl
        have hk1 : (some ad) = none → 0 = 0 := fun h => (by cases h)
        have hk2 : (some ad) = none → 0 = 0 := fun h => (by cases h)
        have HS1 : Hid (∀ W, Below K3W.heap.size K3W W → OpSl W (some ad) m1) := fun W h => by rw [e1]; exact OpSl.nil _ _
        have HS2 : Hid (∀ W, Below K3W.heap.size K3W W → OpSl W (some ad) m2) := fun W h => by rw [e2]; exact OpSl.nil _ _
        have HGG : Hid (m1 ++ [e] ++ m2 = G) := by unfold Hid; rw [e1, e2, HGA.out 0 HP.out]; rfl
        clear e1 e2
        clear HGA HP HNil hje
        have hb1 : m1.length ≤ 500 := by have := HL1.out; omega
        have hb2 : m2.length ≤ 500 := by have := HL2.out; omega
        have HE0 := Lib.hid (own_emptyO K3W 129 4 K3W.heap.size (Nat.le_refl _))
        have HEB := Lib.hid (below_one K3W (.cells #[] 129))
        have HM1 := Lib.hid (HS1.out _ HEB.out)
        have HMS := Lib.hid HEB.out.size
        go_wp2_with (first | (at_builtin; refine wpList_append_op2 _ rfl (.tmp 32) (.tmp 35) 22 rfl K3W.heap.size 129 i0 _ Tryz.underlying22 hi hz0 hz1 hz2 rfl _ [] rfl HE0.out (some ad) 0 m1 0 HL1.out rfl HM1.out hk1 (by simp; omega) HMS.out ?_; intro v1 w4 ho1 hB1; have HO1 := Lib.hid ho1; have HB1 := Lib.hid (HEB.out.trans hB1); have HO1A : Hid ((w4.alloc (.cells #[.int .i64 e.n, .string e.u, .int .i64 e.s, .int .i64 e.f] 129)).ownsRow K3W.heap.size 129 4 v1 m1.length (oes m1)) := own_below HO1.out (below_one w4 (.cells #[.int .i64 e.n, .string e.u, .int .i64 e.s, .int .i64 e.f] 129)); have HB1A := Lib.hid (HB1.out.trans ((below_one w4 (.cells #[.int .i64 e.n, .string e.u, .int .i64 e.s, .int .i64 e.f] 129)).mono HB1.out.size)); have HS1A := Lib.hid HB1A.out.size; clear ho1 hB1; obtain ⟨d0, d1, d2, d3⟩ := HSB.out _ (K3.below HB1.out)) | (at_builtin; refine wpList_append_own _ rfl (.tmp 37) (.tmp 39) 22 rfl K3W.heap.size 129 i0 _ 4 40 Tryz.underlying22 hi hz0 hz1 hz2 rfl (by decide) _ _ _ rfl HO1A.out ⟨w4.heap.size, 0, none⟩ 1 1 [.int .i64 e.n, .string e.u, .int .i64 e.s, .int .i64 e.f] rfl rfl (news_at _ _ _ _ rfl) (four_o _ _ _ _) (by unfold maxLen; omega) (by omega) HS1A.out ?_; intro v2 w5 ho2 hgrow hiff; have HB2 := Lib.hid (app_below HB1A.out HS1A.out HO1A.out hgrow); have HO2 : Hid (w5.ownsRow K3W.heap.size 129 4 v2 (m1 ++ [e]).length (oes (m1 ++ [e]))) := oown_snoc ho2; clear ho2 hgrow hiff; have HM2 := Lib.hid (HS2.out _ HB2.out); have HMS2 := Lib.hid HB2.out.size) | (at_builtin; refine wpList_append_op2 _ rfl (.tmp 41) (.tmp 44) 22 rfl K3W.heap.size 129 i0 _ Tryz.underlying22 hi hz0 hz1 hz2 rfl _ (m1 ++ [e]) rfl HO2.out (some ad) 0 m2 0 HL2.out rfl HM2.out hk2 (by simp; omega) HMS2.out ?_; intro v3 w6 ho3 hB3; have HO3 := Lib.hid ho3; have HB3 := Lib.hid (HB2.out.trans hB3); clear ho3 hB3))
        rw [HGG.out] at HO3
        go_ret2
        first | exact ⟨v3, rfl, GotO.of HO3.out (K3.frame.trans (HB3.out.mono K3.frame.size))⟩ | exact ⟨v3, by trivial, GotO.of HO3.out (K3.frame.trans (HB3.out.mono K3.frame.size))⟩
       ·have hcp2 : 0 < c := by omega
        obtain ⟨m1, e1⟩ : ∃ m : List OpM, m = [] := ⟨_, rfl⟩
        obtain ⟨m2, e2⟩ : ∃ m : List OpM, m = [] := ⟨_, rfl⟩
        have HL1 : Hid (0 = m1.length) := by unfold Hid; rw [e1]; rfl
        have HL2 : Hid (0 = m2.length) := by unfold Hid; rw [e2]; rfl
        have hk1 : (some ad) = none → c = 0 := fun h => (by cases h)
        have hk2 : (some ad) = none → c = 0 := fun h => (by cases h)
        have HS1 : Hid (∀ W, Below K3W.heap.size K3W W → OpSl W (some ad) m1) := fun W h => by rw [e1]; exact OpSl.nil _ _
        have HS2 : Hid (∀ W, Below K3W.heap.size K3W W → OpSl W (some ad) m2) := fun W h => by rw [e2]; exact OpSl.nil _ _
        have HGG : Hid (m1 ++ [e] ++ m2 = G) := by unfold Hid; rw [e1, e2, HGA.out 0 HP.out]; rfl
        clear e1 e2
        clear HGA HP HNil hje
        have hb1 : m1.length ≤ 500 := by have := HL1.out; omega
        have hb2 : m2.length ≤ 500 := by have := HL2.out; omega
        have HE0 := Lib.hid (own_emptyO K3W 129 4 K3W.heap.size (Nat.le_refl _))
        have HEB := Lib.hid (below_one K3W (.cells #[] 129))
        have HM1 := Lib.hid (HS1.out _ HEB.out)
        have HMS := Lib.hid HEB.out.size
        go_wp2_with (first | (at_builtin; refine wpList_append_op2 _ rfl (.tmp 32) (.tmp 35) 22 rfl K3W.heap.size 129 i0 _ Tryz.underlying22 hi hz0 hz1 hz2 rfl _ [] rfl HE0.out (some ad) c m1 0 HL1.out rfl HM1.out hk1 (by simp; omega) HMS.out ?_; intro v1 w4 ho1 hB1; have HO1 := Lib.hid ho1; have HB1 := Lib.hid (HEB.out.trans hB1); have HO1A : Hid ((w4.alloc (.cells #[.int .i64 e.n, .string e.u, .int .i64 e.s, .int .i64 e.f] 129)).ownsRow K3W.heap.size 129 4 v1 m1.length (oes m1)) := own_below HO1.out (below_one w4 (.cells #[.int .i64 e.n, .string e.u, .int .i64 e.s, .int .i64 e.f] 129)); have HB1A := Lib.hid (HB1.out.trans ((below_one w4 (.cells #[.int .i64 e.n, .string e.u, .int .i64 e.s, .int .i64 e.f] 129)).mono HB1.out.size)); have HS1A := Lib.hid HB1A.out.size; clear ho1 hB1; obtain ⟨d0, d1, d2, d3⟩ := HSB.out _ (K3.below HB1.out)) | (at_builtin; refine wpList_append_own _ rfl (.tmp 37) (.tmp 39) 22 rfl K3W.heap.size 129 i0 _ 4 40 Tryz.underlying22 hi hz0 hz1 hz2 rfl (by decide) _ _ _ rfl HO1A.out ⟨w4.heap.size, 0, none⟩ 1 1 [.int .i64 e.n, .string e.u, .int .i64 e.s, .int .i64 e.f] rfl rfl (news_at _ _ _ _ rfl) (four_o _ _ _ _) (by unfold maxLen; omega) (by omega) HS1A.out ?_; intro v2 w5 ho2 hgrow hiff; have HB2 := Lib.hid (app_below HB1A.out HS1A.out HO1A.out hgrow); have HO2 : Hid (w5.ownsRow K3W.heap.size 129 4 v2 (m1 ++ [e]).length (oes (m1 ++ [e]))) := oown_snoc ho2; clear ho2 hgrow hiff; have HM2 := Lib.hid (HS2.out _ HB2.out); have HMS2 := Lib.hid HB2.out.size) | (at_builtin; refine wpList_append_op2 _ rfl (.tmp 41) (.tmp 44) 22 rfl K3W.heap.size 129 i0 _ Tryz.underlying22 hi hz0 hz1 hz2 rfl _ (m1 ++ [e]) rfl HO2.out (some ad) c m2 0 HL2.out rfl HM2.out hk2 (by simp; omega) HMS2.out ?_; intro v3 w6 ho3 hB3; have HO3 := Lib.hid ho3; have HB3 := Lib.hid (HB2.out.trans hB3); clear ho3 hB3))
        rw [HGG.out] at HO3
        go_ret2
        first | exact ⟨v3, rfl, GotO.of HO3.out (K3.frame.trans (HB3.out.mono K3.frame.size))⟩ | exact ⟨v3, by trivial, GotO.of HO3.out (K3.frame.trans (HB3.out.mono K3.frame.size))⟩
theorem idx_three {l : List OpM} {n : Int} {u : ByteArray} {k : Nat} (hk : k < l.length) (h : IsFst (hasN n) l k) : idxO (hasN n) l = k := idxO_hit h hk
theorem own_store4 {w : World} {B e n g cap : Nat} {l : List OpM} {k : Nat} (h : w.ownsRow B e 4 (.slice (some ⟨g, 0, none⟩) n cap) l.length (oes l)) (hk : k < l.length) (x : Int) (u : ByteArray) (s f : Int) (hn : l[k].n = x) (hu : l[k].u = u) :
  ((((w.setCell ⟨g, k * 4, none⟩ (.int .i64 x)).setCell ⟨g, k * 4 + 1, none⟩ (.string u)).setCell ⟨g, k * 4 + 2, none⟩ (.int .i64 s)).setCell ⟨g, k * 4 + 3, none⟩ (.int .i64 f)).ownsRow B e 4 (.slice (some ⟨g, 0, none⟩) n cap) (chgAt l k s f).length (oes (chgAt l k s f)) := by
 obtain ⟨rfl, -, -, -⟩ := own_opat h
 rw [← oes_set4 l k hk x u s f hn hu, chgAt_len]
 exact ((((h.stored _ _).1.stored _ _).1.stored _ _).1.stored _ _).1
set_option maxHeartbeats 4000000 in
theorem rchange_any (a : Option Addr) (c : Nat) (l : List OpM) (n : Int) (u : ByteArray) (s t : Int) (w : World) (hr : OpSl w a l) (hl : l.length ≤ 500) (hc : l.length ≤ c) (hcm : c ≤ maxLen) :
  Calls Tryz.prog 206 #[.slice a l.length c, .int .i64 n, .string u, .int .i64 s, .int .i64 t] w fun e w' => ∃ v, e = .returned (.tuple #[v, stV (fndS l n u t), .int .i64 (findC l n u)]) ∧ GotO w w' (chgR l n u s t) v := by
 obtain ⟨i0, hi, hz0, hz1, hz2⟩ := info_parts infoOpR
 have HF := Lib.hid (fun W (h : OpSl W a l) => rFind_any a c l n u W h (by omega))
 have HZ := Lib.hid (Zb.new w (.int .i64 0) (.int .i64 0) (.int .i64 0) (.int .i64 0) 104)
 have HR := Lib.hid hr
 have hCR : chgR l n u s t = if findC l n u = 0 then chgAt l (findP l n u) s t else [] := rfl
 have hFS : fndS l n u t = if findC l n u = 0 then stayO (findE l n u) t else stZ := rfl
 unfold maxLen at hcm
 clear hr
 rcases fc_three l n u with ⟨hc0, k, hk, hfst, hkn, hku, he, hp⟩ | ⟨hc0, he, hp⟩
 ·rw [hc0, he] at HF
  rw [hc0, if_pos rfl, hp] at hCR
  rw [hc0, if_pos rfl, he] at hFS
  rw [hc0, hCR, hFS]
  have HAT := Lib.hid (fun W (h : OpSl W a l) => rat_any a c l n W h (by omega))
  rw [idx_three (u := u) hk hfst] at HAT
  have HST := Lib.hid (fun W => rstay_any l[k] t W)
  unfold opV stV stayO at HST
  unfold opV at HF
  unfold stV stayO
  dsimp only at *
  have d1 : ((0 : Int) != 0) = false := rfl
  have HKN := Lib.hid hkn
  have HKU := Lib.hid hku
  obtain ⟨x, hx⟩ : ∃ x, x = l[k] := ⟨_, rfl⟩
  have HX := Lib.hid hx
  rw [← hx] at HF HST ⊢
  clear hCR hFS hc0 he hp hfst hkn hku hx
  go_enter Tryz.func206, Tryz.ntmps206
  go_wp2_with fail
  refine (HF.out _ (HR.out.below HZ.out.frame)).mono ?_
  rintro e w1 ⟨rfl, hB⟩
  have K1 := Lib.hid (HZ.out.below hB)
  have KX := Lib.hid (Zb.new w1 (.int .i64 x.n) (.string x.u) (.int .i64 x.s) (.int .i64 x.f) 129)
  clear hB HF HZ
  have hlt0 : 0 < l.length := by omega
  obtain ⟨b, off, rfl, -, -, -, -, -⟩ := (HR.out.below K1.out.frame).at_ hlt0
  have HO : Hid (((w1.alloc (.cells #[.int .i64 x.n, .string x.u, .int .i64 x.s, .int .i64 x.f] 129)).alloc (.cells #[] 129)).ownsRow (w1.heap.size + 1) 129 4 (.slice (some ⟨w1.heap.size + 1, 0, none⟩) 0 0) 0 []) := by
   have := own_emptyO (w1.alloc (.cells #[.int .i64 x.n, .string x.u, .int .i64 x.s, .int .i64 x.f] 129)) 129 4 (w1.alloc (.cells #[.int .i64 x.n, .string x.u, .int .i64 x.s, .int .i64 x.f] 129)).heap.size (Nat.le_refl _)
   rw [size1] at this
   exact this
  have HBE : Hid (Below (w1.heap.size + 1) (w1.alloc (.cells #[.int .i64 x.n, .string x.u, .int .i64 x.s, .int .i64 x.f] 129)) ((w1.alloc (.cells #[.int .i64 x.n, .string x.u, .int .i64 x.s, .int .i64 x.f] 129)).alloc (.cells #[] 129))) := by
   have := below_one (w1.alloc (.cells #[.int .i64 x.n, .string x.u, .int .i64 x.s, .int .i64 x.f] 129)) (.cells #[] 129)
   rw [size1] at this
   exact this
  have HX1 := Lib.hid ((HR.out.below K1.out.frame).below (below_two w1 (.cells #[.int .i64 x.n, .string x.u, .int .i64 x.s, .int .i64 x.f] 129) (.cells #[] 129)))
  have HSZ : Hid (w1.heap.size + 1 ≤ ((w1.alloc (.cells #[.int .i64 x.n, .string x.u, .int .i64 x.s, .int .i64 x.f] 129)).alloc (.cells #[] 129)).heap.size) := by unfold Hid; rw [size1, size1]; omega
  have HLT := Lib.hid K1.out.lt
  go_wp2_with (at_builtin; refine wpList_append_op _ rfl (.tmp 27) (.tmp 28) 22 rfl (w1.heap.size + 1) 129 i0 _ Tryz.underlying22 hi hz0 hz1 hz2 rfl _ [] rfl HO.out (some ⟨b, off, none⟩) c l rfl HX1.out (fun h => by cases h) (by simpa using (show l.length ≤ 1000000 by omega)) HSZ.out ?_; intro v2 w3 hown2 hB2)
  have hB3 : Below (w1.alloc (.cells #[.int .i64 x.n, .string x.u, .int .i64 x.s, .int .i64 x.f] 129)).heap.size (w1.alloc (.cells #[.int .i64 x.n, .string x.u, .int .i64 x.s, .int .i64 x.f] 129)) w3 := by
   rw [size1]
   exact HBE.out.trans hB2
  have K3 := Lib.hid ((K1.out.alloc (.cells #[.int .i64 x.n, .string x.u, .int .i64 x.s, .int .i64 x.f] 129)).below hB3)
  have KX3 := Lib.hid (KX.out.below hB3)
  rw [List.nil_append] at hown2
  obtain ⟨gr, cap, rfl, hge⟩ : ∃ gr cap, v2 = .slice (some ⟨gr, 0, none⟩) l.length cap ∧ w1.heap.size + 1 ≤ gr := by
   rcases hown2.2 with ⟨_, hn⟩ | ⟨g, cap, cur, h1, hg, _⟩
   ·omega
   ·exact ⟨g, cap, h1, hg⟩
  have HO3 := Lib.hid hown2
  have HGE := Lib.hid hge
  clear hown2 hB2 hB3 hge HO HBE HX1 HSZ KX K1
  refine (HAT.out _ (HR.out.below K3.out.frame)).mono ?_
  rintro e w4 ⟨rfl, hB⟩
  have ho4 := own_below HO3.out hB
  have K4 := Lib.hid (K3.out.below hB)
  have KX4 := Lib.hid (KX3.out.below hB)
  obtain ⟨⟨o0, o1, o2, o3⟩, of⟩ := own_opcell ho4 hk
  have f0 := of (k * 4)
  have f1 := of (k * 4 + 1)
  have f2 := of (k * 4 + 2)
  have f3 := of (k * 4 + 3)
  have hgrl : gr < w4.heap.size := (ho4.lt gr rfl).2
  have hb4 := Below.refl w4.heap.size w4
  have HS5 : Hid (w1.heap.size + 1 ≤ w4.heap.size) := by have h1 := HGE.out; unfold Hid; omega
  have HW5 : Hid (Below (w1.heap.size + 1) w4 ((((w4.setCell ⟨gr, k * 4, none⟩ (.int .i64 n)).setCell ⟨gr, k * 4 + 1, none⟩ (.string u)).setCell ⟨gr, k * 4 + 2, none⟩ (.int .i64 s)).setCell ⟨gr, k * 4 + 3, none⟩ (.int .i64 t))) :=
   ((((Below.refl (w1.heap.size + 1) w4).setCell (p := ⟨gr, k * 4, none⟩) HGE.out _).setCell (p := ⟨gr, k * 4 + 1, none⟩) HGE.out _).setCell (p := ⟨gr, k * 4 + 2, none⟩) HGE.out _).setCell (p := ⟨gr, k * 4 + 3, none⟩) HGE.out _
  have HO5 := Lib.hid (own_store4 ho4 hk n u s t HKN.out HKU.out)
  have HCAP := Lib.hid (own_opat ho4).2
  have q0 : ((((w4.setCell ⟨gr, k * 4, none⟩ (.int .i64 n)).setCell ⟨gr, k * 4 + 1, none⟩ (.string u)).setCell ⟨gr, k * 4 + 2, none⟩ (.int .i64 s)).setCell ⟨gr, k * 4 + 3, none⟩ (.int .i64 t)).cell? ⟨w1.heap.size, 0, none⟩ = some (.int .i64 x.n) := (HW5.out.cell (p := ⟨w1.heap.size, 0, none⟩) (by show w1.heap.size < w1.heap.size + 1; omega)).trans KX4.out.cells.1
  have q1 : ((((w4.setCell ⟨gr, k * 4, none⟩ (.int .i64 n)).setCell ⟨gr, k * 4 + 1, none⟩ (.string u)).setCell ⟨gr, k * 4 + 2, none⟩ (.int .i64 s)).setCell ⟨gr, k * 4 + 3, none⟩ (.int .i64 t)).cell? ⟨w1.heap.size, 1, none⟩ = some (.string x.u) := (HW5.out.cell (p := ⟨w1.heap.size, 1, none⟩) (by show w1.heap.size < w1.heap.size + 1; omega)).trans KX4.out.cells.2.1
  have q2 : ((((w4.setCell ⟨gr, k * 4, none⟩ (.int .i64 n)).setCell ⟨gr, k * 4 + 1, none⟩ (.string u)).setCell ⟨gr, k * 4 + 2, none⟩ (.int .i64 s)).setCell ⟨gr, k * 4 + 3, none⟩ (.int .i64 t)).cell? ⟨w1.heap.size, 2, none⟩ = some (.int .i64 x.s) := (HW5.out.cell (p := ⟨w1.heap.size, 2, none⟩) (by show w1.heap.size < w1.heap.size + 1; omega)).trans KX4.out.cells.2.2.1
  have q3 : ((((w4.setCell ⟨gr, k * 4, none⟩ (.int .i64 n)).setCell ⟨gr, k * 4 + 1, none⟩ (.string u)).setCell ⟨gr, k * 4 + 2, none⟩ (.int .i64 s)).setCell ⟨gr, k * 4 + 3, none⟩ (.int .i64 t)).cell? ⟨w1.heap.size, 3, none⟩ = some (.int .i64 x.f) := (HW5.out.cell (p := ⟨w1.heap.size, 3, none⟩) (by show w1.heap.size < w1.heap.size + 1; omega)).trans KX4.out.cells.2.2.2
  have K5 : Hid (Zb w w.heap.size (.int .i64 0) (.int .i64 0) (.int .i64 0) (.int .i64 0) 104 ((((w4.setCell ⟨gr, k * 4, none⟩ (.int .i64 n)).setCell ⟨gr, k * 4 + 1, none⟩ (.string u)).setCell ⟨gr, k * 4 + 2, none⟩ (.int .i64 s)).setCell ⟨gr, k * 4 + 3, none⟩ (.int .i64 t))) :=
   ⟨(HW5.out.block w.heap.size (by have := HLT.out; omega)).trans K4.out.blk, Nat.le_refl _, K4.out.frame.trans (HW5.out.mono (by have := HLT.out; omega))⟩
  clear of ho4 hB HO3 K3 KX3 HAT K4 KX4
  go_wp2_with fail
  refine (HST.out _).mono ?_
  rintro e w6 ⟨rfl, hB6⟩
  have K6 := K5.out.below hB6
  obtain ⟨z0, z1, z2, z3⟩ := K6.cells
  obtain ⟨y0, y1, y2, y3⟩ := K6.free
  have hgl := K6.lt
  have HL := Lib.hid (K6.loadT (.int .i64 x.f) (.int .i64 t) (.int .i64 x.n) (.int .i64 x.s))
  have HSB := Lib.hid (K6.set (.int .i64 x.f) (.int .i64 t) (.int .i64 x.n) (.int .i64 x.s))
  have HLEN := Lib.hid (chgAt_len l k s t)
  have HSL := Lib.hid ((own_opat (own_below HO5.out hB6)).2.2.2.setO w.heap.size (.int .i64 x.f) (.int .i64 t) (.int .i64 x.n) (.int .i64 x.s) (fun b o e => by cases e; have h1 := HGE.out; have h2 := HLT.out; omega))
  unfold setO at HL HSB HSL
  clear HO5 hB6 K6 HST K5 q0 q1 q2 q3 HW5 HR o0 o1 o2 o3 f0 f1 f2 f3
  go_wp2
  refine bodyPost_ret (v := .tuple #[.slice (some ⟨gr, 0, none⟩) l.length cap, .agg #[.int .i64 x.f, .int .i64 t, .int .i64 x.n, .int .i64 x.s], .int .i64 0]) ?_ rfl ⟨_, rfl, GotO.at_ HLEN.out.symm (by rw [HLEN.out]; exact HCAP.out.1) HCAP.out.2.1 HSL.out HSB.out⟩
  rw [results_tmp_cell_tmp rfl]
  simp [asAddr, Result.andThen, HL.out]
 ·rw [he] at HF
  have hne : ¬ findC l n u = 0 := by rcases hc0 with h | h <;> rw [h] <;> decide
  rw [if_neg hne] at hCR hFS
  rw [hCR, hFS]
  have d1 : (findC l n u != 0) = true := by rcases hc0 with h | h <;> rw [h] <;> rfl
  generalize findC l n u = C at *
  unfold stV stZ
  unfold opV opZ at HF
  dsimp only at *
  clear hCR hFS hc0 he hp hne
  go_enter Tryz.func206, Tryz.ntmps206
  go_wp2_with fail
  refine (HF.out _ (HR.out.below HZ.out.frame)).mono ?_
  rintro e w1 ⟨rfl, hB⟩
  have K1 := HZ.out.below hB
  have K2 := K1.alloc (.cells #[.int .i64 0, .string ⟨#[]⟩, .int .i64 0, .int .i64 0] 129)
  have HL := Lib.hid (K2.loadT (.int .i64 0) (.int .i64 0) (.int .i64 0) (.int .i64 0))
  have HS := Lib.hid (K2.set (.int .i64 0) (.int .i64 0) (.int .i64 0) (.int .i64 0))
  obtain ⟨z0, z1, z2, z3⟩ := K2.cells
  obtain ⟨f0, f1, f2, f3⟩ := K2.free
  have hgl := K2.lt
  unfold setO at HL HS
  clear HF hB K1 K2
  go_wp2
  refine bodyPost_ret (v := .tuple #[.slice none 0 0, .agg #[.int .i64 0, .int .i64 0, .int .i64 0, .int .i64 0], .int .i64 C]) ?_ rfl ⟨_, rfl, GotO.nil HS.out⟩
  rw [results_tmp_cell_tmp rfl]
  simp [asAddr, Result.andThen, HL.out]
end Go.Proofs.YtmfpjapiijgdgaaGreat
namespace Go.Proofs.YtmfpjapiijgdgaaGreat
open Go.RowKit
set_option linter.unusedVariables false
set_option maxRecDepth 100000
set_option maxRecDepth 100000
set_option maxHeartbeats 1000000 in
theorem of_any (e : EnM) (w u : ByteArray) (W : World) :
  Calls Tryz.prog 166 #[enV e, pr w u] W fun r w' => r = .returned (.bool (ofE w u e)) ∧ Below W.heap.size W w' := by
 have HB := Lib.hid (below_2 W)
 unfold enV pr
 obtain ⟨ew, eu, ef, et⟩ := e
 have HF : Hid (∀ b : Bool, (b = true ↔ ew = w ∧ eu = u) → b = ofE w u ⟨ew, eu, ef, et⟩) := fun b hb => by
  have h1 := ofE_iff (w := w) (u := u) (e := ⟨ew, eu, ef, et⟩)
  cases hc : ofE w u ⟨ew, eu, ef, et⟩ with
  | true => rw [hc] at h1; exact hb.2 (h1.1 rfl)
  | false =>
   rw [hc] at h1
   cases b with
   | false => rfl
   | true => exact absurd (h1.2 (hb.1 rfl)) Bool.false_ne_true
 dsimp only
 by_cases h0 : ew = w
 ·subst h0
  have e0 := str_eq ew
  by_cases h1 : eu = u
  ·subst h1
   have e1 := str_eq eu
   have HE := Lib.hid (HF.out true ⟨fun _ => ⟨rfl, rfl⟩, fun _ => rfl⟩)
   clear HF
   go_enter Tryz.func166, Tryz.ntmps166
   go_wp2
   go_ret
   exact ⟨retB HE.out, HB.out _ _⟩
  ·have e1 := str_ne h1
   have HE := Lib.hid (HF.out false ⟨fun h => (by cases h), fun h => absurd h.2 h1⟩)
   clear HF h1
   go_enter Tryz.func166, Tryz.ntmps166
   go_wp2
   go_ret
   exact ⟨retB HE.out, HB.out _ _⟩
 ·have e0 := str_ne h0
  have HE := Lib.hid (HF.out false ⟨fun h => (by cases h), fun h => absurd h.1 h0⟩)
  clear HF h0
  go_enter Tryz.func166, Tryz.ntmps166
  go_wp2
  go_ret
  exact ⟨retB HE.out, HB.out _ _⟩
theorem PK.cells {w W : World} {g : Nat} {p u : ByteArray} {b off : Nat} {l : List EnM} (h : PK w g p u (some ⟨b, off, none⟩) l W) {k : Nat} (hk : k < l.length) :
  W.cell? ⟨g, 0, none⟩ = some (.string p) ∧ W.cell? ⟨g, 1, none⟩ = some (.string u) ∧ W.cell? ⟨b, off + k * 4, none⟩ = some (.string l[k].w) ∧ W.cell? ⟨b, off + k * 4 + 1, none⟩ = some (.string l[k].u) ∧ W.cell? ⟨b, off + k * 4 + 2, none⟩ = some (.int .i64 l[k].f) ∧ W.cell? ⟨b, off + k * 4 + 3, none⟩ = some (.int .i64 l[k].t) := by
 obtain ⟨_, _, e, _, h0, h1, h2, h3⟩ := h.row.at_ hk
 cases e
 exact ⟨h.pc.1, h.pc.2.1, h0, h1, h2, h3⟩
set_option maxHeartbeats 4000000 in
theorem force_any (a : Option Addr) (c : Nat) (l : List EnM) (p u : ByteArray) (w : World) (hr : EnSl w a l) (hl : l.length ≤ 1000000) :
  Calls Tryz.prog 208 #[.slice a l.length c, pr p u] w fun r w' => r = .returned (.int .i64 (idxI (infE p u) l)) ∧ Below w.heap.size w w' := by
 have K0 := Lib.hid (PK.new hr p u 97)
 have HC := Lib.hid (fun e W => of_any e p u W)
 unfold enV pr at HC
 unfold pr
 clear hr
 go_enter Tryz.func208, Tryz.ntmps208
 go_wp2
 generalize w.heap.size = g at *
 go_loopw [5] (fun i wr => ∃ (j : Nat), j ≤ l.length ∧ i = .int .i64 j ∧ Hid (LowTo (infE p u) l j) ∧ Hid (PK w g p u a l wr)) (fun i _ => l.length - (intOf i).toNat)
 case atStart => exact ⟨0, by omega, rfl, fun k _ h => absurd h (by omega), K0.out⟩
 case round =>
  obtain ⟨j, hj, rfl, HO, HK⟩ := hrel
  by_cases hjl : j < l.length
  ·obtain ⟨b, off, rfl, -, -, -, -, -⟩ := HK.out.row.at_ hjl
   have HNX := Lib.hid (HO.out.next hjl)
   have HHT := Lib.hid (HO.out.hit hjl)
   have HSC := Lib.hid (fun W (h : PK w g p u (some ⟨b, off, none⟩) l W) => h.cells hjl)
   generalize l[j] = x at *
   have K1 := HK.out.below (Below.refl _ _).drew
   cases hb : ofE p u x with
   | false =>
    have HN := Lib.hid (HNX.out (by unfold infE; rw [hb]; rfl))
    have HCC := Lib.hid (HC.out x)
    rw [hb] at HCC
    clear HNX HHT hb HC
    go_wp2_with fail
    refine wp_region_held_drew (S := (fun W => W.cell? ⟨g, 0, none⟩ = some (.string p) ∧ W.cell? ⟨g, 1, none⟩ = some (.string u) ∧ W.cell? ⟨b, off + j * 4, none⟩ = some (.string x.w) ∧ W.cell? ⟨b, off + j * 4 + 1, none⟩ = some (.string x.u) ∧ W.cell? ⟨b, off + j * 4 + 2, none⟩ = some (.int .i64 x.f) ∧ W.cell? ⟨b, off + j * 4 + 3, none⟩ = some (.int .i64 x.t))) (by kernel_rfl) ?_ (fun hHeld => ?_)
    ·exact HSC.out _ K1
    refine tV 0 12 ?_
    refine tV 1 13 ?_
    refine tV 2 14 ?_
    refine tV 3 15 ?_
    refine tV 4 16 ?_
    refine wpAnyH_ready (rs := [5]) (by kernel_rfl) (by simp) ?_
    refine AllReadyH.cons (o := ⟨some 17, _, _, _, _, _⟩) rfl (fun K hK => ?_) AllReadyH.nil
    go_simp
    refine (HCC.out _).mono ?_
    rintro e w2 ⟨rfl, h2⟩
    have K2 := K1.below h2
    go_wp2_with fail
    refine hK.out _ _ ?_ (fun hH5 => ?_)
    ·exact HSC.out _ K2
    clear hK K
    (try simp only [Act.put, List.setIfInBounds_toArray, List.set_cons_zero, List.set_cons_succ])
    refine tV 6 18 ?_
    refine tU 7 19 ?_
    refine tU 8 20 ?_
    refine tU 9 21 ?_
    refine tU 10 22 ?_
    refine tU 11 23 ?_
    refine tU 12 24 ?_
    refine tV 13 25 ?_
    refine wpAnyH_done (by kernel_rfl) ?_ _
    all_goals
     go_wp2
     go_roundw
     case rel => exact ⟨j + 1, by omega, by go_num, HN, K2⟩
     case measure => simp [intOf]; omega
   | true =>
    have HCC := Lib.hid (HC.out x)
    rw [hb] at HCC
    by_cases ht : x.t = 1099511627776
    ·have HN := Lib.hid (idx_hit (HHT.out (by unfold infE; rw [hb, decide_eq_true ht]; rfl)) hjl)
     have hd : (x.t == 1099511627776) = true := beq_iff_eq.2 ht
     clear HNX HHT hb HC ht
     go_wp2_with fail
     go_region_held3 (fun W => W.cell? ⟨g, 0, none⟩ = some (.string p) ∧ W.cell? ⟨g, 1, none⟩ = some (.string u) ∧ W.cell? ⟨b, off + j * 4, none⟩ = some (.string x.w) ∧ W.cell? ⟨b, off + j * 4 + 1, none⟩ = some (.string x.u) ∧ W.cell? ⟨b, off + j * 4 + 2, none⟩ = some (.int .i64 x.f) ∧ W.cell? ⟨b, off + j * 4 + 3, none⟩ = some (.int .i64 x.t))
      (first | exact HSC.out _ K2 | exact HSC.out _ K1)
      (first | (go_at_call 166; refine (HCC.out _).mono ?_; rintro e w2 ⟨rfl, h2⟩; have K2 := K1.below h2))
     all_goals
      go_wp2
      go_ret
      exact ⟨by rw [HN.out]; rfl, K2.frame⟩
    ·have HN := Lib.hid (HNX.out (by unfold infE; rw [hb, decide_eq_false ht]; rfl))
     have hd : (x.t == 1099511627776) = false := beq_eq_false_iff_ne.2 ht
     clear HNX HHT hb HC ht
     go_wp2_with fail
     go_region_held3 (fun W => W.cell? ⟨g, 0, none⟩ = some (.string p) ∧ W.cell? ⟨g, 1, none⟩ = some (.string u) ∧ W.cell? ⟨b, off + j * 4, none⟩ = some (.string x.w) ∧ W.cell? ⟨b, off + j * 4 + 1, none⟩ = some (.string x.u) ∧ W.cell? ⟨b, off + j * 4 + 2, none⟩ = some (.int .i64 x.f) ∧ W.cell? ⟨b, off + j * 4 + 3, none⟩ = some (.int .i64 x.t))
      (first | exact HSC.out _ K2 | exact HSC.out _ K1)
      (first | (go_at_call 166; refine (HCC.out _).mono ?_; rintro e w2 ⟨rfl, h2⟩; have K2 := K1.below h2))
     all_goals
      go_wp2
      go_roundw
      case rel => exact ⟨j + 1, by omega, by go_num, HN, K2⟩
      case measure => simp [intOf]; omega
  ·obtain rfl : j = l.length := by omega
   have HE := Lib.hid (idx_miss HO.out.miss)
   go_wp2
   go_ret
   exact ⟨by rw [HE.out]; rfl, HK.out.frame⟩
end Go.Proofs.YtmfpjapiijgdgaaGreat
