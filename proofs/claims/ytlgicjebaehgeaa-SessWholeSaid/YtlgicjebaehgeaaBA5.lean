/- Layer 10: where a session stands, and who has it, in the document; Find, and what an entry was, in both: contracts. -/
import Derived.Test.YtlgicjebaehgeaaBA4
namespace Go.Proofs.Ytlgicjebaehgeaa
open Go.RowKit
set_option linter.unusedVariables false
set_option maxRecDepth 100000

set_option maxHeartbeats 2000000 in
theorem rat_any (a : Option Addr) (c : Nat) (l : List OpM) (n : Int) (w : World) (hr : OpSl w a l) (hl : l.length ≤ 1000000) :
    Calls Try.prog 44 #[.slice a l.length c, .int .i64 n] w fun e w' => e = .returned (.int .i64 (idxO (hasN n) l)) ∧ Below w.heap.size w w' := by
  have HR := Lib.hid hr
  clear hr
  go_enter Try.func44, Try.ntmps44
  go_wp2
  go_loopw [5] (fun i wr => ∃ (j : Nat), j ≤ l.length ∧ i = .int .i64 j ∧ Hid (LoTo (hasN n) l j) ∧ Hid (Below w.heap.size w wr)) (fun i _ => l.length - (intOf i).toNat)
  case atStart => exact ⟨0, by omega, rfl, LoTo.zero _ _, Below.refl _ _⟩
  case round =>
    obtain ⟨j, hj, rfl, HO, HB⟩ := hrel
    by_cases hjl : j < l.length
    · obtain ⟨b, off, rfl, hbl, hc0, hc1, hc2, hc3⟩ := (HR.out.below HB.out).at_ hjl
      have HNX := Lib.hid (HO.out.next hjl)
      have HHT := Lib.hid (HO.out.hit hjl)
      generalize l[j] = x at *
      obtain ⟨xn, xu, xs, xf⟩ := x
      dsimp only at *
      by_cases h1 : xn = n
      · subst h1
        have d1 : (xn == xn) = true := beq_self_eq_true _
        have HN := Lib.hid (idxO_hit (HHT.out (decide_eq_true rfl)) hjl)
        clear HNX HHT HO
        go_wp2
        go_ret
        exact ⟨by rw [HN.out]; rfl, HB.out⟩
      · have d1 : (xn == n) = false := beq_eq_false_iff_ne.2 h1
        have HN := Lib.hid (HNX.out (decide_eq_false h1))
        clear HNX HHT HO
        go_wp2
        go_roundw
        case rel => exact ⟨j + 1, by omega, by go_num, HN, HB.out⟩
        case measure => simp [intOf]; omega
    · obtain rfl : j = l.length := by omega
      have HE := Lib.hid (idxO_miss HO.out.miss)
      go_wp2
      go_ret
      exact ⟨by rw [HE.out]; rfl, HB.out⟩

/-- the zero entry's block -/
def zO (w : World) (g : Nat) (t : TypeId) (W : World) : Prop := Zb w g (.int .i64 0) (.string ⟨#[]⟩) (.int .i64 0) (.int .i64 0) t W
def zS (w : World) (g : Nat) (t : TypeId) (W : World) : Prop := Zb w g (.int .i64 0) (.int .i64 0) (.int .i64 0) (.int .i64 0) t W

set_option maxHeartbeats 2000000 in
theorem Find_any (a : Option Addr) (c : Nat) (l : List OpM) (n : Int) (u : ByteArray) (w : World) (hr : OpSl w a l) (hl : l.length ≤ 1000000) :
    Calls Try.prog 20 #[.slice a l.length c, .int .i64 n, .string u] w fun e w' => e = .returned (.tuple #[opV (findE l n u), .int .i64 (findC l n u)]) ∧ Below w.heap.size w w' := by
  have HF := Lib.hid (fun W (h : OpSl W a l) => find_any a c l n u W h hl)
  have HZ := Lib.hid (Zb.new w (.int .i64 0) (.string ⟨#[]⟩) (.int .i64 0) (.int .i64 0) 31)
  have HR := Lib.hid hr
  clear hr
  unfold opV
  rcases fc_three l n u with ⟨hc, k, hk, -, -, -, he, hp⟩ | ⟨hc, he, hp⟩
  · rw [hc, hp] at HF
    rw [hc, he]
    have d1 : ((0 : Int) != 0) = false := rfl
    go_enter Try.func20, Try.ntmps20
    go_wp2_with fail
    refine (HF.out _ (HR.out.below HZ.out.frame)).mono ?_
    rintro e w1 ⟨rfl, hB⟩
    have K1 := HZ.out.below hB
    obtain ⟨b, off, rfl, hbl, hc0, hc1, hc2, hc3⟩ := (HR.out.below K1.frame).at_ hk
    have HL := Lib.hid (K1.load (.int .i64 l[k].n) (.string l[k].u) (.int .i64 l[k].s) (.int .i64 l[k].f))
    have HS := Lib.hid (K1.set (.int .i64 l[k].n) (.string l[k].u) (.int .i64 l[k].s) (.int .i64 l[k].f))
    obtain ⟨z0, z1, z2, z3⟩ := K1.cells
    obtain ⟨f0, f1, f2, f3⟩ := K1.free
    have hgl := K1.lt
    unfold setO at HL HS
    clear HF hB K1 hc hp he
    go_wp2
    refine bodyPost_ret (v := .tuple #[.agg #[.int .i64 l[k].n, .string l[k].u, .int .i64 l[k].s, .int .i64 l[k].f], .int .i64 0]) ?_ rfl ⟨rfl, HS.out⟩
    rw [results_cell_tmp rfl]
    simp [asAddr, Result.andThen, HL.out]
  · rw [hp] at HF
    rw [he]
    have d1 : (findC l n u != 0) = true := by rcases hc with h | h <;> rw [h] <;> rfl
    generalize findC l n u = C at *
    unfold opZ
    dsimp only
    go_enter Try.func20, Try.ntmps20
    go_wp2_with fail
    refine (HF.out _ (HR.out.below HZ.out.frame)).mono ?_
    rintro e w1 ⟨rfl, hB⟩
    have K1 := HZ.out.below hB
    have HL := Lib.hid (K1.load (.int .i64 0) (.string ⟨#[]⟩) (.int .i64 0) (.int .i64 0))
    have HS := Lib.hid (K1.set (.int .i64 0) (.string ⟨#[]⟩) (.int .i64 0) (.int .i64 0))
    obtain ⟨z0, z1, z2, z3⟩ := K1.cells
    obtain ⟨f0, f1, f2, f3⟩ := K1.free
    have hgl := K1.lt
    unfold setO at HL HS
    clear HF hB K1 hc hp he
    go_wp2
    refine bodyPost_ret (v := .tuple #[.agg #[.int .i64 0, .string ⟨#[]⟩, .int .i64 0, .int .i64 0], .int .i64 C]) ?_ rfl ⟨rfl, HS.out⟩
    rw [results_cell_tmp rfl]
    simp [asAddr, Result.andThen, HL.out]

set_option maxHeartbeats 2000000 in
theorem rFind_any (a : Option Addr) (c : Nat) (l : List OpM) (n : Int) (u : ByteArray) (w : World) (hr : OpSl w a l) (hl : l.length ≤ 1000000) :
    Calls Try.prog 21 #[.slice a l.length c, .int .i64 n, .string u] w fun e w' => e = .returned (.tuple #[opV (findE l n u), .int .i64 (findC l n u)]) ∧ Below w.heap.size w w' := by
  have HF := Lib.hid (fun W (h : OpSl W a l) => rat_any a c l n W h hl)
  have HZ := Lib.hid (Zb.new w (.int .i64 0) (.string ⟨#[]⟩) (.int .i64 0) (.int .i64 0) 24)
  have HR := Lib.hid hr
  clear hr
  unfold opV
  have HI := fst_idx (hasN n) l
  generalize l.findIdx (hasN n) = k at HI
  by_cases hk : k < l.length
  · have hix := idxO_hit HI hk
    rw [hix] at HF
    have d0 : decide ((k : Int) < 0) = false := decide_eq_false (by omega)
    by_cases hu : l[k].u = u
    · obtain ⟨hc, he, _⟩ := fc_hit HI hk hu
      rw [hc, he]
      have d1 : (l[k].u.toList != u.toList) = false := by rw [hu]; exact txt_ns u
      have d1' : (l[k].u.toList == u.toList) = true := by rw [hu]; exact txt_eq u
      go_enter Try.func21, Try.ntmps21
      go_wp2_with fail
      refine (HF.out _ (HR.out.below HZ.out.frame)).mono ?_
      rintro e w1 ⟨rfl, hB⟩
      have K1 := HZ.out.below hB
      obtain ⟨b, off, rfl, hbl, hc0, hc1, hc2, hc3⟩ := (HR.out.below K1.frame).at_ hk
      have HL := Lib.hid (K1.loadR (.int .i64 l[k].n) (.string l[k].u) (.int .i64 l[k].s) (.int .i64 l[k].f))
      have HS := Lib.hid (K1.set (.int .i64 l[k].n) (.string l[k].u) (.int .i64 l[k].s) (.int .i64 l[k].f))
      obtain ⟨z0, z1, z2, z3⟩ := K1.cells
      obtain ⟨f0, f1, f2, f3⟩ := K1.free
      have hgl := K1.lt
      unfold setO at HL HS
      clear HF hB K1 hc he HI hix hu
      go_wp2
      refine bodyPost_ret (v := .tuple #[.agg #[.int .i64 l[k].n, .string l[k].u, .int .i64 l[k].s, .int .i64 l[k].f], .int .i64 0]) ?_ rfl ⟨rfl, HS.out⟩
      rw [results_cell_tmp rfl]
      simp [asAddr, Result.andThen, HL.out]
    · obtain ⟨hc, he, _⟩ := fc_user HI hk hu
      rw [hc, he]
      unfold opZ
      dsimp only
      have d1 := txt_nt hu
      have d1' := txt_ne hu
      go_enter Try.func21, Try.ntmps21
      go_wp2_with fail
      refine (HF.out _ (HR.out.below HZ.out.frame)).mono ?_
      rintro e w1 ⟨rfl, hB⟩
      have K1 := HZ.out.below hB
      obtain ⟨b, off, rfl, hbl, hc0, hc1, hc2, hc3⟩ := (HR.out.below K1.frame).at_ hk
      have HL := Lib.hid (K1.loadR (.int .i64 0) (.string ⟨#[]⟩) (.int .i64 0) (.int .i64 0))
      have HS := Lib.hid (K1.set (.int .i64 0) (.string ⟨#[]⟩) (.int .i64 0) (.int .i64 0))
      obtain ⟨z0, z1, z2, z3⟩ := K1.cells
      obtain ⟨f0, f1, f2, f3⟩ := K1.free
      have hgl := K1.lt
      unfold setO at HL HS
      clear HF hB K1 hc he HI hix hu
      go_wp2
      refine bodyPost_ret (v := .tuple #[.agg #[.int .i64 0, .string ⟨#[]⟩, .int .i64 0, .int .i64 0], .int .i64 102]) ?_ rfl ⟨rfl, HS.out⟩
      rw [results_cell_tmp rfl]
      simp [asAddr, Result.andThen, HL.out]
  · obtain rfl : k = l.length := by have := HI.le; omega
    rw [idxO_miss HI] at HF
    obtain ⟨hc, he, _⟩ := fc_miss HI u
    rw [hc, he]
    unfold opZ
    dsimp only
    go_enter Try.func21, Try.ntmps21
    go_wp2_with fail
    refine (HF.out _ (HR.out.below HZ.out.frame)).mono ?_
    rintro e w1 ⟨rfl, hB⟩
    have K1 := HZ.out.below hB
    have HL := Lib.hid (K1.loadR (.int .i64 0) (.string ⟨#[]⟩) (.int .i64 0) (.int .i64 0))
    have HS := Lib.hid (K1.set (.int .i64 0) (.string ⟨#[]⟩) (.int .i64 0) (.int .i64 0))
    obtain ⟨z0, z1, z2, z3⟩ := K1.cells
    obtain ⟨f0, f1, f2, f3⟩ := K1.free
    have hgl := K1.lt
    unfold setO at HL HS
    clear HF hB K1 hc he HI
    go_wp2
    refine bodyPost_ret (v := .tuple #[.agg #[.int .i64 0, .string ⟨#[]⟩, .int .i64 0, .int .i64 0], .int .i64 101]) ?_ rfl ⟨rfl, HS.out⟩
    rw [results_cell_tmp rfl]
    simp [asAddr, Result.andThen, HL.out]

set_option maxHeartbeats 1000000 in
theorem stay_any (e : OpM) (t : Int) (w : World) : Calls Try.prog 49 #[opV e, .int .i64 t] w fun r w' => r = .returned (stV (stayO e t)) ∧ Below w.heap.size w w' := by
  unfold opV stV stayO
  obtain ⟨n, u, s, f⟩ := e
  dsimp only
  have HL : Hid (∀ o1 : Obj, (loadVar 44 ⟨w.heap.size + 1, 0, none⟩).run Try.prog ((w.alloc o1).alloc (.cells #[.int .i64 f, .int .i64 t, .int .i64 n, .int .i64 s] 44)) = .ok (.agg #[.int .i64 f, .int .i64 t, .int .i64 n, .int .i64 s]) ((w.alloc o1).alloc (.cells #[.int .i64 f, .int .i64 t, .int .i64 n, .int .i64 s] 44))) := fun o1 => by
    have := heap_alloc_new (w.alloc o1) (.cells #[.int .i64 f, .int .i64 t, .int .i64 n, .int .i64 s] 44)
    rw [size1] at this
    exact loadSt this
  have HG := Lib.hid (fun o p => below_two w o p)
  go_enter Try.func49, Try.ntmps49
  go_wp2
  refine bodyPost_ret (v := .agg #[.int .i64 f, .int .i64 t, .int .i64 n, .int .i64 s]) ?_ rfl ?_
  · rw [results_cell1 rfl]
    simp [asAddr, Result.andThen, HL.out]
  · exact ⟨rfl, HG.out _ _⟩
set_option maxHeartbeats 1000000 in
theorem rstay_any (e : OpM) (t : Int) (w : World) : Calls Try.prog 50 #[opV e, .int .i64 t] w fun r w' => r = .returned (stV (stayO e t)) ∧ Below w.heap.size w w' := by
  unfold opV stV stayO
  obtain ⟨n, u, s, f⟩ := e
  dsimp only
  have HL : Hid (∀ o1 : Obj, (loadVar 48 ⟨w.heap.size + 1, 0, none⟩).run Try.prog ((w.alloc o1).alloc (.cells #[.int .i64 f, .int .i64 t, .int .i64 n, .int .i64 s] 48)) = .ok (.agg #[.int .i64 f, .int .i64 t, .int .i64 n, .int .i64 s]) ((w.alloc o1).alloc (.cells #[.int .i64 f, .int .i64 t, .int .i64 n, .int .i64 s] 48))) := fun o1 => by
    have := heap_alloc_new (w.alloc o1) (.cells #[.int .i64 f, .int .i64 t, .int .i64 n, .int .i64 s] 48)
    rw [size1] at this
    exact loadStR this
  have HG := Lib.hid (fun o p => below_two w o p)
  go_enter Try.func50, Try.ntmps50
  go_wp2
  refine bodyPost_ret (v := .agg #[.int .i64 f, .int .i64 t, .int .i64 n, .int .i64 s]) ?_ rfl ?_
  · rw [results_cell1 rfl]
    simp [asAddr, Result.andThen, HL.out]
  · exact ⟨rfl, HG.out _ _⟩
end Go.Proofs.Ytlgicjebaehgeaa
