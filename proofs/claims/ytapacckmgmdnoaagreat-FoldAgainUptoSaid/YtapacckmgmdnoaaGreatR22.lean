/- Texts of mine, one behind the other, of each what is wanted. -/
import Derived.Test.YtapacckmgmdnoaaGreatR00
import Derived.Test.YtapacckmgmdnoaaGreatR01
import Derived.Test.YtapacckmgmdnoaaGreatR03
import Derived.Test.YtapacckmgmdnoaaGreatR04
import Derived.Test.YtapacckmgmdnoaaGreatR09
namespace Go.Proofs.YtapacckmgmdnoaaGreat
open Go.RowKit
set_option linter.unusedVariables false
set_option maxRecDepth 100000
theorem cb_drop_both (a b : ByteArray) (k : Nat) (ha : k < a.size) (hb : k < b.size) :
  Lib.compareBytes (a.data.toList.drop k) (b.data.toList.drop k) = if a[k] < b[k] then -1 else if b[k] < a[k] then 1 else Lib.compareBytes (a.data.toList.drop (k + 1)) (b.data.toList.drop (k + 1)) := by
 rw [List.drop_eq_getElem_cons (by simpa using ha), List.drop_eq_getElem_cons (l := b.data.toList) (by simpa using hb)]
 rfl
theorem cb_drop_end (a b : ByteArray) (k : Nat) (h : a.size ≤ k ∨ b.size ≤ k) (ha : k ≤ a.size) (hb : k ≤ b.size) :
  Lib.compareBytes (a.data.toList.drop k) (b.data.toList.drop k) = if a.size < b.size then -1 else if b.size < a.size then 1 else 0 := by
 by_cases h1 : k < a.size
 ·have h2 : b.size ≤ k := by omega
  rw [List.drop_eq_getElem_cons (by simpa using h1), List.drop_eq_nil_of_le (show b.data.toList.length ≤ k by simp; omega), if_neg (by omega), if_pos (by omega)]
  rfl
 ·rw [List.drop_eq_nil_of_le (show a.data.toList.length ≤ k by simp; omega)]
  by_cases h2 : k < b.size
  ·rw [List.drop_eq_getElem_cons (l := b.data.toList) (by simpa using h2), if_pos (by omega)]
   rfl
  ·rw [List.drop_eq_nil_of_le (show b.data.toList.length ≤ k by simp; omega), if_neg (by omega), if_neg (by omega)]
   rfl
set_option maxHeartbeats 1000000 in
theorem refCmp_any (a b : ByteArray) (w : World) (ha : a.size ≤ maxLen) (hb : b.size ≤ maxLen) :
  Calls Tryz.prog 69 #[.string a, .string b] w fun e w' => e = .returned (.int .i64 (Lib.compareBytes a.data.toList b.data.toList)) ∧ ∃ n, w' = w.drewN n := by
 unfold maxLen at ha hb
 go_enter Tryz.func69, Tryz.ntmps69
 go_wp2
 go_loopw [5] (fun i wr => ∃ k : Nat, k ≤ a.size ∧ k ≤ b.size ∧ i = .int .i64 k ∧ Hid (Lib.compareBytes a.data.toList b.data.toList = Lib.compareBytes (a.data.toList.drop k) (b.data.toList.drop k)) ∧ Hid (∃ n, wr = w.drewN n)) (fun i _ => a.size - (intOf i).toNat)
 case atStart => exact ⟨0, by omega, by omega, rfl, by simp [Hid], ⟨0, rfl⟩⟩
 case round =>
  obtain ⟨k, hka, hkb, rfl, H, HW⟩ := hrel
  by_cases hlt : k < a.size ∧ k < b.size
  ·obtain ⟨h1, h2⟩ := hlt
   have HB := Lib.hid (H.out.trans (cb_drop_both a b k h1 h2))
   by_cases hab : a[k].toNat < b[k].toNat
   ·have HF : Hid (Lib.compareBytes a.data.toList b.data.toList = -1) := by rw [HB.out, if_pos (by simpa [UInt8.lt_iff_toNat_lt] using hab)]; rfl
    obtain ⟨n0, rfl⟩ := HW.out
    go_wp2
    go_quiet (fail)
    go_wp2
    go_ret
    exact ⟨retI HF.out.symm, by first | exact ⟨_, rfl⟩ | (simp only [World.drewN_drewN]; exact ⟨_, rfl⟩)⟩
   ·by_cases hba : b[k].toNat < a[k].toNat
    ·have HF : Hid (Lib.compareBytes a.data.toList b.data.toList = 1) := by
      rw [HB.out, if_neg (by simpa [UInt8.lt_iff_toNat_lt] using hab), if_pos (by simpa [UInt8.lt_iff_toNat_lt] using hba)]; rfl
     obtain ⟨n0, rfl⟩ := HW.out
     go_wp2
     go_quiet (fail)
     go_wp2
     go_quiet (fail)
     go_wp2
     go_ret
     exact ⟨retI HF.out.symm, by first | exact ⟨_, rfl⟩ | (simp only [World.drewN_drewN]; exact ⟨_, rfl⟩)⟩
    ·have HF := Lib.hid (HB.out.trans ((if_neg (by simpa [UInt8.lt_iff_toNat_lt] using hab)).trans (if_neg (by simpa [UInt8.lt_iff_toNat_lt] using hba))))
     obtain ⟨n0, rfl⟩ := HW.out
     go_wp2
     go_quiet (fail)
     go_wp2
     go_quiet (fail)
     go_wp2
     go_roundw
     case rel => exact ⟨k + 1, by omega, by omega, by go_num, HF, ⟨_, rfl⟩⟩
     case measure => simp [intOf]; omega
  ·have HB := Lib.hid (H.out.trans (cb_drop_end a b k (by omega) hka hkb))
   obtain ⟨n0, rfl⟩ := HW.out
   have hcase : (k < a.size ∧ b.size < a.size ∧ b.size ≤ k) ∨ (a.size ≤ k ∧ a.size < b.size) ∨ (a.size ≤ k ∧ a.size = b.size) := by omega
   rcases hcase with ⟨c1, c2, c3⟩ | ⟨c1, c2⟩ | ⟨c1, c2⟩
   ·have HF : Hid (Lib.compareBytes a.data.toList b.data.toList = 1) := by rw [HB.out, if_neg (by omega), if_pos (by omega)]; rfl
    go_wp2
    go_ret
    exact ⟨retI HF.out.symm, by first | exact ⟨_, rfl⟩ | (simp only [World.drewN_drewN]; exact ⟨_, rfl⟩)⟩
   ·have HF : Hid (Lib.compareBytes a.data.toList b.data.toList = -1) := by rw [HB.out, if_pos (by omega)]; rfl
    go_wp2
    go_ret
    exact ⟨retI HF.out.symm, by first | exact ⟨_, rfl⟩ | (simp only [World.drewN_drewN]; exact ⟨_, rfl⟩)⟩
   ·have HF : Hid (Lib.compareBytes a.data.toList b.data.toList = 0) := by rw [HB.out, if_neg (by omega), if_neg (by omega)]; rfl
    have c3 : a.size ≤ b.size := by omega
    have c4 : b.size ≤ a.size := by omega
    clear c2 hlt
    go_wp2
    go_ret
    exact ⟨retI HF.out.symm, by first | exact ⟨_, rfl⟩ | (simp only [World.drewN_drewN]; exact ⟨_, rfl⟩)⟩
end Go.Proofs.YtapacckmgmdnoaaGreat
namespace Go.Proofs.YtapacckmgmdnoaaGreat
open Go.RowKit Go.Sort Go.Proofs
set_option linter.unusedVariables false
set_option maxRecDepth 100000
set_option maxRecDepth 100000
set_option maxHeartbeats 1000000 in
theorem ahead_any (a b : StM) (w : World) : Calls Tryz.prog 157 #[stV a, stV b] w fun e w' => e = .returned (.bool (decide (ltSt a b))) ∧ Grew w w' := by
 have HG := Lib.hid (fun o p => ((Grew.refl w).alloc o).alloc p)
 unfold stV
 obtain ⟨f1, t1, n1, s1⟩ := a
 obtain ⟨f2, t2, n2, s2⟩ := b
 have HR : Hid (∀ c : Bool, (c = true ↔ ltSt ⟨f1, t1, n1, s1⟩ ⟨f2, t2, n2, s2⟩) → c = decide (ltSt ⟨f1, t1, n1, s1⟩ ⟨f2, t2, n2, s2⟩)) := fun c h => by
  cases c with
  | true => exact (decide_eq_true (h.1 rfl)).symm
  | false => exact (decide_eq_false (fun k => by cases h.2 k)).symm
 dsimp only
 by_cases h0 : f1 = f2
 ·subst h0
  by_cases h1 : t1 = t2
  ·subst h1
   by_cases h2 : n1 = n2
   ·subst h2
    go_enter Tryz.func157, Tryz.ntmps157
    go_wp2
    go_ret
    exact ⟨retB (HR.out _ (by unfold ltSt; simp)), HG.out _ _⟩
   ·have e2 : (n1 == n2) = false := beq_eq_false_iff_ne.2 h2
    go_enter Tryz.func157, Tryz.ntmps157
    go_wp2
    go_ret
    exact ⟨retB (HR.out _ (by unfold ltSt; simp [h2])), HG.out _ _⟩
  ·have e1 : (t1 == t2) = false := beq_eq_false_iff_ne.2 h1
   go_enter Tryz.func157, Tryz.ntmps157
   go_wp2
   go_ret
   exact ⟨retB (HR.out _ (by unfold ltSt; simp [h1])), HG.out _ _⟩
 ·have e0 : (f1 == f2) = false := beq_eq_false_iff_ne.2 h0
  go_enter Tryz.func157, Tryz.ntmps157
  go_wp2
  go_ret
  exact ⟨retB (HR.out _ (by unfold ltSt; simp [h0])), HG.out _ _⟩
theorem one_any (f t n s : Int) (w : World) : Calls Tryz.prog 111 #[.int .i64 f, .int .i64 t, .int .i64 n, .int .i64 s] w fun e w' => e = .returned (.agg #[.int .i64 f, .int .i64 t, .int .i64 n, .int .i64 s]) ∧ w' = w.alloc (.cells #[.int .i64 f, .int .i64 t, .int .i64 n, .int .i64 s] 111) := by
 have HL := Lib.hid (loadSt (heap_alloc_new w (.cells #[.int .i64 f, .int .i64 t, .int .i64 n, .int .i64 s] 111)))
 go_enter Tryz.func111, Tryz.ntmps111
 go_wp2
 refine bodyPost_ret (v := .agg #[.int .i64 f, .int .i64 t, .int .i64 n, .int .i64 s]) ?_ rfl ?_
 ·rw [results_cell1 rfl]
  simp [asAddr, Result.andThen, HL.out]
 ·exact ⟨rfl, rfl⟩
set_option maxHeartbeats 1000000 in
theorem new_any (x : StM) (w : World) : Calls Tryz.prog 57 #[stV x] w fun e w' => e = .returned (stV x) ∧ Grew w w' := by
 unfold stV
 obtain ⟨f, t, n, s⟩ := x
 dsimp only
 have HO := Lib.hid one_any
 have HL : Hid (∀ o1 o3 : Obj, (loadVar 111 ⟨w.heap.size + 1, 0, none⟩).run Tryz.prog (((w.alloc o1).alloc (.cells #[.int .i64 f, .int .i64 t, .int .i64 n, .int .i64 s] 111)).alloc o3) = .ok (.agg #[.int .i64 f, .int .i64 t, .int .i64 n, .int .i64 s]) (((w.alloc o1).alloc (.cells #[.int .i64 f, .int .i64 t, .int .i64 n, .int .i64 s] 111)).alloc o3)) := fun o1 o3 => by
  have := heap_alloc_new (w.alloc o1) (.cells #[.int .i64 f, .int .i64 t, .int .i64 n, .int .i64 s] 111)
  rw [size1] at this
  exact loadSt ((Below.heap_alloc _ o3 _ (by rw [size1, size1]; omega)).trans this)
 have HG := Lib.hid (fun o p r => (((Grew.refl w).alloc o).alloc p).alloc r)
 go_enter Tryz.func57, Tryz.ntmps57
 go_wp2_with (go_at_call 111; refine (HO.out _ _ _ _ _).mono ?_; rintro e w' ⟨rfl, rfl⟩)
 refine bodyPost_ret (v := .agg #[.int .i64 f, .int .i64 t, .int .i64 n, .int .i64 s]) ?_ rfl ?_
 ·rw [results_cell1 rfl]
  simp [asAddr, Result.andThen, HL.out]
 ·exact ⟨rfl, HG.out _ _ _⟩
end Go.Proofs.YtapacckmgmdnoaaGreat
namespace Go.Proofs.YtapacckmgmdnoaaGreat
open Go.RowKit
set_option linter.unusedVariables false
set_option maxRecDepth 100000
set_option maxRecDepth 100000
theorem step_own {P : Program} {w : World} {ops : Array Oper} {o : Oper} {a : Act} {K : Act → World → Prop} {Q : Exit → Act → World → Prop} {E : Prop} (hgd : o.guard = none) (s x : Operand) (t : TypeId)
  (ho : o.op = .call { callee := .builtin .append, args := #[s, x], argTypes := #[t, t] })
  (base : Nat) (e : TypeId) (i : TypeInfo) (z : Value) (size bytes : Nat) (ht : P.underlying t = some (.slice e)) (hi : P.info? e = some i) (hz : i.zero = some z)
  (hsize : i.size = size) (hby : i.bytes = bytes) (hzs : z.cells.size = size) (hsz : 0 < size)
  (v : Value) (n : Nat) (xs : List Value) (hs : a.eval s = v) (hown : w.ownsRow base e size v n xs)
  (ad : Addr) (m c : Nat) (news : List Value) (hx : a.eval x = .slice (some ad) m c) (hl : news.length = m * size) (hnews : ∀ j u, news[j]? = some u → w.cell? (ad.add j) = some u) (h1 : ∀ u ∈ news, u.oneCell' = true)
  (h63 : n + m ≤ maxLen) (hbytes : (n + m) * bytes ≤ 140737488355328) (hbase : base ≤ w.heap.size)
  (h : ∀ v' w', w'.ownsRow base e size v' (n + m) (xs ++ news) → w.grownBy w' v.ownBlock → K (a.put o.dst v') w') :
  if Region.wanted o (yielded ops a.tmps) = true then Oper.wp P o a w K Q else E := by
 have hw : Region.wanted o (yielded ops a.tmps) = true := by simp [Region.wanted, hgd]
 rw [if_pos hw]
 exact wp_append_own w s x t ho base e i z size bytes ht hi hz hsize hby hzs hsz v n xs hs hown ad m c news hx hl hnews h1 h63 hbytes hbase fun v' w' h2 h3 _ => h v' w' h2 h3
end Go.Proofs.YtapacckmgmdnoaaGreat
