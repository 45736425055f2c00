/- Texts of mine, one behind the other, of each what is wanted. -/
import Derived.Test.YtapacckmgmdnoaaGreatU00
import Derived.Test.YtapacckmgmdnoaaGreatU01
namespace Go.Proofs.YtapacckmgmdnoaaGreat
open Go.RowKit Go.Sort Go.Proofs
set_option linter.unusedVariables false
set_option maxRecDepth 100000
set_option maxRecDepth 100000
def Grew (w w' : World) : Prop := ∃ q os, w' = grow (w.drewN q) os
theorem Grew.refl (w : World) : Grew w w := ⟨0, #[], by rw [grow_empty]; rfl⟩
theorem Grew.drew {w w' : World} (h : Grew w w') : Grew w w'.drew := by
 obtain ⟨q, os, rfl⟩ := h
 exact ⟨q + 1, os, rfl⟩
theorem Grew.alloc {w w' : World} (h : Grew w w') (o : Obj) : Grew w (w'.alloc o) := by
 obtain ⟨q, os, rfl⟩ := h
 exact ⟨q, os ++ #[o], by rw [alloc_eq_grow, grow_grow]⟩
theorem Grew.trans {a b c : World} (h : Grew a b) (k : Grew b c) : Grew a c := by
 obtain ⟨q, os, rfl⟩ := h
 obtain ⟨q', os', rfl⟩ := k
 exact ⟨q + q', os ++ os', by show grow (grow ((a.drewN q).drewN q') os) os' = _; rw [grow_grow, World.drewN_drewN]⟩
theorem Grew.below {w w' : World} (h : Grew w w') {B : Nat} (hB : B ≤ w.heap.size) : Below B w w' := by
 obtain ⟨q, os, rfl⟩ := h
 exact below_grown_sl B w q os hB
theorem infoStay4 : (Tryz.prog.info? 111).map (·.size) = some 4 := by kernel_rfl
theorem loadSt {W : World} {g : Nat} {a b c d : Value} {t : TypeId} (h : W.heap[g]? = some (.cells #[a, b, c, d] t (0, 0))) :
  (loadVar 111 ⟨g, 0, none⟩).run Tryz.prog W = .ok (.agg #[a, b, c, d]) W :=
 run_loadVar_mid (P := Tryz.prog) W g 0 111 [a, b, c, d] _ (fun j v hv => by
  rw [Nat.zero_add, cell_of_row _ _ _ _ _ (0, 0) h]
  simpa using hv) Tryz.underlying111 rfl infoStay4
set_option maxHeartbeats 1000000 in
theorem ahead_any (a b : StM) (w : World) : Calls Tryz.prog 157 #[stV a, stV b] w fun e w' => e = .returned (.bool (decide (ltSt a b))) ∧ Grew w w' := by
 have HG := Lib.hid (fun o p => ((Grew.refl w).alloc o).alloc p)
 unfold stV
 obtain ⟨f1, t1, n1, s1⟩ := a
 obtain ⟨f2, t2, n2, s2⟩ := b
 have HR : Hid (∀ c : Bool, (c = true ↔ ltSt ⟨f1, t1, n1, s1⟩ ⟨f2, t2, n2, s2⟩) → c = decide (ltSt ⟨f1, t1, n1, s1⟩ ⟨f2, t2, n2, s2⟩)) := fun c h => by
  cases c with
  | true => exact (decide_eq_true (h.1 rfl)).symm
  | false => exact (decide_eq_false (fun k => by cases h.2 k)).symm
 dsimp only
 by_cases h0 : f1 = f2
 ·subst h0
  by_cases h1 : t1 = t2
  ·subst h1
   by_cases h2 : n1 = n2
   ·subst h2
    go_enter Tryz.func157, Tryz.ntmps157
    go_wp2
    go_ret
    exact ⟨retB (HR.out _ (by unfold ltSt; simp)), HG.out _ _⟩
   ·have e2 : (n1 == n2) = false := beq_eq_false_iff_ne.2 h2
    go_enter Tryz.func157, Tryz.ntmps157
    go_wp2
    go_ret
    exact ⟨retB (HR.out _ (by unfold ltSt; simp [h2])), HG.out _ _⟩
  ·have e1 : (t1 == t2) = false := beq_eq_false_iff_ne.2 h1
   go_enter Tryz.func157, Tryz.ntmps157
   go_wp2
   go_ret
   exact ⟨retB (HR.out _ (by unfold ltSt; simp [h1])), HG.out _ _⟩
 ·have e0 : (f1 == f2) = false := beq_eq_false_iff_ne.2 h0
  go_enter Tryz.func157, Tryz.ntmps157
  go_wp2
  go_ret
  exact ⟨retB (HR.out _ (by unfold ltSt; simp [h0])), HG.out _ _⟩
theorem one_any (f t n s : Int) (w : World) : Calls Tryz.prog 111 #[.int .i64 f, .int .i64 t, .int .i64 n, .int .i64 s] w fun e w' => e = .returned (.agg #[.int .i64 f, .int .i64 t, .int .i64 n, .int .i64 s]) ∧ w' = w.alloc (.cells #[.int .i64 f, .int .i64 t, .int .i64 n, .int .i64 s] 111) := by
 have HL := Lib.hid (loadSt (heap_alloc_new w (.cells #[.int .i64 f, .int .i64 t, .int .i64 n, .int .i64 s] 111)))
 go_enter Tryz.func111, Tryz.ntmps111
 go_wp2
 refine bodyPost_ret (v := .agg #[.int .i64 f, .int .i64 t, .int .i64 n, .int .i64 s]) ?_ rfl ?_
 ·rw [results_cell1 rfl]
  simp [asAddr, Result.andThen, HL.out]
 ·exact ⟨rfl, rfl⟩
set_option maxHeartbeats 1000000 in
theorem new_any (x : StM) (w : World) : Calls Tryz.prog 57 #[stV x] w fun e w' => e = .returned (stV x) ∧ Grew w w' := by
 unfold stV
 obtain ⟨f, t, n, s⟩ := x
 dsimp only
 have HO := Lib.hid one_any
 have HL : Hid (∀ o1 o3 : Obj, (loadVar 111 ⟨w.heap.size + 1, 0, none⟩).run Tryz.prog (((w.alloc o1).alloc (.cells #[.int .i64 f, .int .i64 t, .int .i64 n, .int .i64 s] 111)).alloc o3) = .ok (.agg #[.int .i64 f, .int .i64 t, .int .i64 n, .int .i64 s]) (((w.alloc o1).alloc (.cells #[.int .i64 f, .int .i64 t, .int .i64 n, .int .i64 s] 111)).alloc o3)) := fun o1 o3 => by
  have := heap_alloc_new (w.alloc o1) (.cells #[.int .i64 f, .int .i64 t, .int .i64 n, .int .i64 s] 111)
  rw [size1] at this
  exact loadSt ((Below.heap_alloc _ o3 _ (by rw [size1, size1]; omega)).trans this)
 have HG := Lib.hid (fun o p r => (((Grew.refl w).alloc o).alloc p).alloc r)
 go_enter Tryz.func57, Tryz.ntmps57
 go_wp2_with (go_at_call 111; refine (HO.out _ _ _ _ _).mono ?_; rintro e w' ⟨rfl, rfl⟩)
 refine bodyPost_ret (v := .agg #[.int .i64 f, .int .i64 t, .int .i64 n, .int .i64 s]) ?_ rfl ?_
 ·rw [results_cell1 rfl]
  simp [asAddr, Result.andThen, HL.out]
 ·exact ⟨rfl, HG.out _ _ _⟩
def orL : List Int → Int
 | [] => 0
 | x :: l => if x = 0 then orL l else x
theorem orL_drop {l : List Int} {j : Nat} (h : j < l.length) : orL (l.drop j) = if l[j] = 0 then orL (l.drop (j + 1)) else l[j] := by
 rw [List.drop_eq_getElem_cons h]; rfl
theorem or_any (a : Option Addr) (c : Nat) (l : List Int) (w : World) (hr : Sl w a (ints l)) (hl : l.length ≤ 1000) :
  Calls Tryz.prog 167 #[.slice a l.length c] w fun e w' => e = .returned (.int .i64 (orL l)) ∧ w' = w := by
 have HR := Lib.hid hr
 clear hr
 go_enter Tryz.func167, Tryz.ntmps167
 go_wp2
 go_loopw [8] (fun i wr => ∃ (j : Nat), j ≤ l.length ∧ i = .int .i64 j ∧ Hid (orL l = orL (l.drop j)) ∧ wr = w) (fun i _ => l.length - (intOf i).toNat)
 case atStart => exact ⟨0, by omega, rfl, rfl, rfl⟩
 case round =>
  obtain ⟨j, hj, rfl, HF, rfl⟩ := hrel
  by_cases hjl : j < l.length
  ·obtain ⟨b, off, rfl, hbl, hc0⟩ := ints_at HR.out hjl
   have HN := Lib.hid (HF.out.trans (orL_drop hjl))
   generalize l[j] = x at *
   by_cases h : x = 0
   ·subst h
    clear HF
    go_wp2
    go_roundw
    case rel => exact ⟨j + 1, by omega, by go_num, HN.out, trivial⟩
    case measure => simp [intOf]; omega
   ·have he : (x == 0) = false := beq_eq_false_iff_ne.2 h
    have HN2 : Hid (orL l = x) := by
     have := HN.out
     rw [if_neg h] at this
     exact this
    clear HN HF
    go_wp2
    go_ret
    exact ⟨by rw [HN2.out]; rfl, rfl⟩
  ·obtain rfl : j = l.length := by omega
   have HN2 : Hid (orL l = 0) := by
    have := HF.out
    rw [List.drop_eq_nil_of_le (Nat.le_refl _)] at this
    exact this
   go_wp2
   go_ret
   exact ⟨by rw [HN2.out]; rfl, rfl⟩
end Go.Proofs.YtapacckmgmdnoaaGreat
namespace Go.Proofs.YtapacckmgmdnoaaGreat
open Go.RowKit
set_option linter.unusedVariables false
set_option maxRecDepth 100000
set_option maxRecDepth 100000
theorem below_one (w : World) (o : Obj) : Below w.heap.size w (w.alloc o) := (Below.refl _ _).alloc (Nat.le_refl _) _
set_option maxHeartbeats 2000000 in
theorem snews_any (a : Option Addr) (c : Nat) (l : List StM) (w : World) (hr : StSl w a l) (hl : l.length ≤ 1000000) :
  Calls Tryz.prog 73 #[.slice a l.length c] w fun e w' => ∃ (v : Value), e = .returned v ∧ w'.ownsRow w.heap.size 111 4 v l.length (sts l) ∧ Below w.heap.size w w' := by
 obtain ⟨i0, hi, hz0, hz1, hz2⟩ := info_parts infoStay
 have HR := Lib.hid hr
 have HN := Lib.hid new_any
 unfold stV at HN
 clear hr
 go_enter Tryz.func73, Tryz.ntmps73
 go_wp2
 go_loopw [3, 8] (fun v i wr => ∃ (j : Nat), j ≤ l.length ∧ i = .int .i64 j ∧ Hid (wr.ownsRow w.heap.size 111 4 v j (sts (l.take j))) ∧ Hid (Below w.heap.size w wr)) (fun _ i _ => l.length - (intOf i).toNat)
 case atStart => exact ⟨0, by omega, rfl, ⟨rfl, .inl ⟨rfl, rfl⟩⟩, Below.refl _ _⟩
 case round =>
  obtain ⟨j, hj, rfl, HO, HB⟩ := hrel
  by_cases hjl : j < l.length
  ·obtain ⟨b, off, rfl, hbl, hc0, hc1, hc2, hc3⟩ := (HR.out.below HB.out).at_ hjl
   have HC := Lib.hid (sts_take l j hjl)
   generalize l[j] = x at *
   go_wp2_with fail
   refine (HN.out x _).mono ?_
   rintro e w2 ⟨rfl, hg⟩
   have hb1 := hg.below (Nat.le_refl _)
   have hb2 := (below_one wr (.cells #[.int .i64 x.f, .int .i64 x.t, .int .i64 x.n, .int .i64 x.s] 104)).trans (hb1.mono (by rw [size1]; omega))
   have HO2 := Lib.hid (own_below HO.out (hb2.trans ((below_one w2 (.cells #[.int .i64 x.f, .int .i64 x.t, .int .i64 x.n, .int .i64 x.s] 111)).mono hb2.size)))
   have HB2 : Hid (Below w.heap.size w (w2.alloc (.cells #[.int .i64 x.f, .int .i64 x.t, .int .i64 x.n, .int .i64 x.s] 111))) := HB.out.trans ((hb2.trans ((below_one w2 _).mono hb2.size)).mono HB.out.size)
   have HS2 := Lib.hid HB2.out.size
   clear hg hb1 hb2 hc0 hc1 hc2 hc3
   go_wp2_with (at_builtin; refine wpList_append_own _ rfl (.tmp 12) (.tmp 15) 69 rfl w.heap.size 111 i0 _ 4 32 Tryz.underlying69 hi hz0 hz1 hz2 rfl (by decide) _ _ _ rfl HO2.out ⟨w2.heap.size, 0, none⟩ 1 1 [.int .i64 x.f, .int .i64 x.t, .int .i64 x.n, .int .i64 x.s] rfl rfl (news_at _ _ _ _ rfl) (four_one _ _ _ _) (by unfold maxLen; omega) (by omega) HS2.out ?_; intro v' w3 hown' hgrow hiff)
   have HB3 := Lib.hid (app_below HB2.out HS2.out HO2.out hgrow)
   have HO3 := Lib.hid hown'
   clear hown' hgrow hiff HB2 HS2 HO2
   go_wp2
   go_roundw
   case rel => exact ⟨j + 1, by omega, by go_num, (by unfold Hid; rw [HC.out]; exact HO3.out), HB3⟩
   case measure => simp [intOf]; omega
  ·obtain rfl : j = l.length := by omega
   rw [List.take_of_length_le (Nat.le_refl _)] at HO
   go_wp2
   go_ret
   exact ⟨_, rfl, HO.out, HB.out⟩
end Go.Proofs.YtapacckmgmdnoaaGreat
