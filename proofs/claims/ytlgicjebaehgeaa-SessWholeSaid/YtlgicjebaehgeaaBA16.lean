/- Layer 10: a session changes, and is closed, in the document: contracts. -/
import Derived.Test.YtlgicjebaehgeaaBA12
import Derived.Test.YtlgicjebaehgeaaBA10
namespace Go.Proofs.Ytlgicjebaehgeaa
open Go.RowKit Go.Proofs
set_option linter.unusedVariables false
set_option maxRecDepth 100000

theorem idx_three {l : List OpM} {n : Int} {u : ByteArray} {k : Nat} (hk : k < l.length) (h : IsFst (hasN n) l k) : idxO (hasN n) l = k := idxO_hit h hk
/-- the four cells of one of one's own are stored -/
theorem own_store4 {w : World} {B e n g cap : Nat} {l : List OpM} {k : Nat} (h : w.ownsRow B e 4 (.slice (some ⟨g, 0, none⟩) n cap) l.length (oes l)) (hk : k < l.length) (x : Int) (u : ByteArray) (s f : Int) (hn : l[k].n = x) (hu : l[k].u = u) :
    ((((w.setCell ⟨g, k * 4, none⟩ (.int .i64 x)).setCell ⟨g, k * 4 + 1, none⟩ (.string u)).setCell ⟨g, k * 4 + 2, none⟩ (.int .i64 s)).setCell ⟨g, k * 4 + 3, none⟩ (.int .i64 f)).ownsRow B e 4 (.slice (some ⟨g, 0, none⟩) n cap) (chgAt l k s f).length (oes (chgAt l k s f)) := by
  obtain ⟨rfl, -, -, -⟩ := own_opat h
  rw [← oes_set4 l k hk x u s f hn hu, chgAt_len]
  exact ((((h.stored _ _).1.stored _ _).1.stored _ _).1.stored _ _).1

set_option maxHeartbeats 4000000 in
theorem rchange_any (a : Option Addr) (c : Nat) (l : List OpM) (n : Int) (u : ByteArray) (s t : Int) (w : World) (hr : OpSl w a l) (hl : l.length ≤ 500) (hc : l.length ≤ c) (hcm : c ≤ maxLen) :
    Calls Try.prog 19 #[.slice a l.length c, .int .i64 n, .string u, .int .i64 s, .int .i64 t] w fun e w' => ∃ v, e = .returned (.tuple #[v, stV (fndS l n u t), .int .i64 (findC l n u)]) ∧ GotO w w' (chgR l n u s t) v := by
  obtain ⟨i0, hi, hz0, hz1, hz2⟩ := info_parts infoOpR
  have HF := Lib.hid (fun W (h : OpSl W a l) => rFind_any a c l n u W h (by omega))
  have HZ := Lib.hid (Zb.new w (.int .i64 0) (.int .i64 0) (.int .i64 0) (.int .i64 0) 48)
  have HR := Lib.hid hr
  have hCR : chgR l n u s t = if findC l n u = 0 then chgAt l (findP l n u) s t else [] := rfl
  have hFS : fndS l n u t = if findC l n u = 0 then stayO (findE l n u) t else stZ := rfl
  unfold maxLen at hcm
  clear hr
  rcases fc_three l n u with ⟨hc0, k, hk, hfst, hkn, hku, he, hp⟩ | ⟨hc0, he, hp⟩
  · rw [hc0, he] at HF
    rw [hc0, if_pos rfl, hp] at hCR
    rw [hc0, if_pos rfl, he] at hFS
    rw [hc0, hCR, hFS]
    have HAT := Lib.hid (fun W (h : OpSl W a l) => rat_any a c l n W h (by omega))
    rw [idx_three (u := u) hk hfst] at HAT
    have HST := Lib.hid (fun W => rstay_any l[k] t W)
    unfold opV stV stayO at HST
    unfold opV at HF
    unfold stV stayO
    dsimp only at *
    have d1 : ((0 : Int) != 0) = false := rfl
    have HKN := Lib.hid hkn
    have HKU := Lib.hid hku
    obtain ⟨x, hx⟩ : ∃ x, x = l[k] := ⟨_, rfl⟩
    have HX := Lib.hid hx
    rw [← hx] at HF HST ⊢
    clear hCR hFS hc0 he hp hfst hkn hku hx
    go_enter Try.func19, Try.ntmps19
    go_wp2_with fail
    refine (HF.out _ (HR.out.below HZ.out.frame)).mono ?_
    rintro e w1 ⟨rfl, hB⟩
    have K1 := Lib.hid (HZ.out.below hB)
    have KX := Lib.hid (Zb.new w1 (.int .i64 x.n) (.string x.u) (.int .i64 x.s) (.int .i64 x.f) 24)
    clear hB HF HZ
    have hlt0 : 0 < l.length := by omega
    obtain ⟨b, off, rfl, -, -, -, -, -⟩ := (HR.out.below K1.out.frame).at_ hlt0
    have HO : Hid (((w1.alloc (.cells #[.int .i64 x.n, .string x.u, .int .i64 x.s, .int .i64 x.f] 24)).alloc (.cells #[] 24)).ownsRow (w1.heap.size + 1) 24 4 (.slice (some ⟨w1.heap.size + 1, 0, none⟩) 0 0) 0 []) := by
      have := own_emptyO (w1.alloc (.cells #[.int .i64 x.n, .string x.u, .int .i64 x.s, .int .i64 x.f] 24)) 24 4 (w1.alloc (.cells #[.int .i64 x.n, .string x.u, .int .i64 x.s, .int .i64 x.f] 24)).heap.size (Nat.le_refl _)
      rw [size1] at this
      exact this
    have HBE : Hid (Below (w1.heap.size + 1) (w1.alloc (.cells #[.int .i64 x.n, .string x.u, .int .i64 x.s, .int .i64 x.f] 24)) ((w1.alloc (.cells #[.int .i64 x.n, .string x.u, .int .i64 x.s, .int .i64 x.f] 24)).alloc (.cells #[] 24))) := by
      have := below_one (w1.alloc (.cells #[.int .i64 x.n, .string x.u, .int .i64 x.s, .int .i64 x.f] 24)) (.cells #[] 24)
      rw [size1] at this
      exact this
    have HX1 := Lib.hid ((HR.out.below K1.out.frame).below (below_two w1 (.cells #[.int .i64 x.n, .string x.u, .int .i64 x.s, .int .i64 x.f] 24) (.cells #[] 24)))
    have HSZ : Hid (w1.heap.size + 1 ≤ ((w1.alloc (.cells #[.int .i64 x.n, .string x.u, .int .i64 x.s, .int .i64 x.f] 24)).alloc (.cells #[] 24)).heap.size) := by unfold Hid; rw [size1, size1]; omega
    have HLT := Lib.hid K1.out.lt
    go_wp2_with (at_builtin; refine wpList_append_op _ rfl (.tmp 27) (.tmp 28) 22 rfl (w1.heap.size + 1) 24 i0 _ Try.underlying22 hi hz0 hz1 hz2 rfl _ [] rfl HO.out (some ⟨b, off, none⟩) c l rfl HX1.out (fun h => by cases h) (by simpa using (show l.length ≤ 1000000 by omega)) HSZ.out ?_; intro v2 w3 hown2 hB2)
    have hB3 : Below (w1.alloc (.cells #[.int .i64 x.n, .string x.u, .int .i64 x.s, .int .i64 x.f] 24)).heap.size (w1.alloc (.cells #[.int .i64 x.n, .string x.u, .int .i64 x.s, .int .i64 x.f] 24)) w3 := by
      rw [size1]
      exact HBE.out.trans hB2
    have K3 := Lib.hid ((K1.out.alloc (.cells #[.int .i64 x.n, .string x.u, .int .i64 x.s, .int .i64 x.f] 24)).below hB3)
    have KX3 := Lib.hid (KX.out.below hB3)
    rw [List.nil_append] at hown2
    obtain ⟨gr, cap, rfl, hge⟩ : ∃ gr cap, v2 = .slice (some ⟨gr, 0, none⟩) l.length cap ∧ w1.heap.size + 1 ≤ gr := by
      rcases hown2.2 with ⟨_, hn⟩ | ⟨g, cap, cur, h1, hg, _⟩
      · omega
      · exact ⟨g, cap, h1, hg⟩
    have HO3 := Lib.hid hown2
    have HGE := Lib.hid hge
    clear hown2 hB2 hB3 hge HO HBE HX1 HSZ KX K1
    refine (HAT.out _ (HR.out.below K3.out.frame)).mono ?_
    rintro e w4 ⟨rfl, hB⟩
    have ho4 := own_below HO3.out hB
    have K4 := Lib.hid (K3.out.below hB)
    have KX4 := Lib.hid (KX3.out.below hB)
    obtain ⟨⟨o0, o1, o2, o3⟩, of⟩ := own_opcell ho4 hk
    have f0 := of (k * 4)
    have f1 := of (k * 4 + 1)
    have f2 := of (k * 4 + 2)
    have f3 := of (k * 4 + 3)
    have hgrl : gr < w4.heap.size := (ho4.lt gr rfl).2
    have hb4 := Below.refl w4.heap.size w4
    have HS5 : Hid (w1.heap.size + 1 ≤ w4.heap.size) := by have h1 := HGE.out; unfold Hid; omega
    have HW5 : Hid (Below (w1.heap.size + 1) w4 ((((w4.setCell ⟨gr, k * 4, none⟩ (.int .i64 n)).setCell ⟨gr, k * 4 + 1, none⟩ (.string u)).setCell ⟨gr, k * 4 + 2, none⟩ (.int .i64 s)).setCell ⟨gr, k * 4 + 3, none⟩ (.int .i64 t))) :=
      ((((Below.refl (w1.heap.size + 1) w4).setCell (p := ⟨gr, k * 4, none⟩) HGE.out _).setCell (p := ⟨gr, k * 4 + 1, none⟩) HGE.out _).setCell (p := ⟨gr, k * 4 + 2, none⟩) HGE.out _).setCell (p := ⟨gr, k * 4 + 3, none⟩) HGE.out _
    have HO5 := Lib.hid (own_store4 ho4 hk n u s t HKN.out HKU.out)
    have HCAP := Lib.hid (own_opat ho4).2
    have q0 : ((((w4.setCell ⟨gr, k * 4, none⟩ (.int .i64 n)).setCell ⟨gr, k * 4 + 1, none⟩ (.string u)).setCell ⟨gr, k * 4 + 2, none⟩ (.int .i64 s)).setCell ⟨gr, k * 4 + 3, none⟩ (.int .i64 t)).cell? ⟨w1.heap.size, 0, none⟩ = some (.int .i64 x.n) := (HW5.out.cell (p := ⟨w1.heap.size, 0, none⟩) (by show w1.heap.size < w1.heap.size + 1; omega)).trans KX4.out.cells.1
    have q1 : ((((w4.setCell ⟨gr, k * 4, none⟩ (.int .i64 n)).setCell ⟨gr, k * 4 + 1, none⟩ (.string u)).setCell ⟨gr, k * 4 + 2, none⟩ (.int .i64 s)).setCell ⟨gr, k * 4 + 3, none⟩ (.int .i64 t)).cell? ⟨w1.heap.size, 1, none⟩ = some (.string x.u) := (HW5.out.cell (p := ⟨w1.heap.size, 1, none⟩) (by show w1.heap.size < w1.heap.size + 1; omega)).trans KX4.out.cells.2.1
    have q2 : ((((w4.setCell ⟨gr, k * 4, none⟩ (.int .i64 n)).setCell ⟨gr, k * 4 + 1, none⟩ (.string u)).setCell ⟨gr, k * 4 + 2, none⟩ (.int .i64 s)).setCell ⟨gr, k * 4 + 3, none⟩ (.int .i64 t)).cell? ⟨w1.heap.size, 2, none⟩ = some (.int .i64 x.s) := (HW5.out.cell (p := ⟨w1.heap.size, 2, none⟩) (by show w1.heap.size < w1.heap.size + 1; omega)).trans KX4.out.cells.2.2.1
    have q3 : ((((w4.setCell ⟨gr, k * 4, none⟩ (.int .i64 n)).setCell ⟨gr, k * 4 + 1, none⟩ (.string u)).setCell ⟨gr, k * 4 + 2, none⟩ (.int .i64 s)).setCell ⟨gr, k * 4 + 3, none⟩ (.int .i64 t)).cell? ⟨w1.heap.size, 3, none⟩ = some (.int .i64 x.f) := (HW5.out.cell (p := ⟨w1.heap.size, 3, none⟩) (by show w1.heap.size < w1.heap.size + 1; omega)).trans KX4.out.cells.2.2.2
    have K5 : Hid (Zb w w.heap.size (.int .i64 0) (.int .i64 0) (.int .i64 0) (.int .i64 0) 48 ((((w4.setCell ⟨gr, k * 4, none⟩ (.int .i64 n)).setCell ⟨gr, k * 4 + 1, none⟩ (.string u)).setCell ⟨gr, k * 4 + 2, none⟩ (.int .i64 s)).setCell ⟨gr, k * 4 + 3, none⟩ (.int .i64 t))) :=
      ⟨(HW5.out.block w.heap.size (by have := HLT.out; omega)).trans K4.out.blk, Nat.le_refl _, K4.out.frame.trans (HW5.out.mono (by have := HLT.out; omega))⟩
    clear of ho4 hB HO3 K3 KX3 HAT K4 KX4
    go_wp2_with fail
    refine (HST.out _).mono ?_
    rintro e w6 ⟨rfl, hB6⟩
    have K6 := K5.out.below hB6
    obtain ⟨z0, z1, z2, z3⟩ := K6.cells
    obtain ⟨y0, y1, y2, y3⟩ := K6.free
    have hgl := K6.lt
    have HL := Lib.hid (K6.loadT (.int .i64 x.f) (.int .i64 t) (.int .i64 x.n) (.int .i64 x.s))
    have HSB := Lib.hid (K6.set (.int .i64 x.f) (.int .i64 t) (.int .i64 x.n) (.int .i64 x.s))
    have HLEN := Lib.hid (chgAt_len l k s t)
    have HSL := Lib.hid ((own_opat (own_below HO5.out hB6)).2.2.2.setO w.heap.size (.int .i64 x.f) (.int .i64 t) (.int .i64 x.n) (.int .i64 x.s) (fun b o e => by cases e; have h1 := HGE.out; have h2 := HLT.out; omega))
    unfold setO at HL HSB HSL
    clear HO5 hB6 K6 HST K5 q0 q1 q2 q3 HW5 HR o0 o1 o2 o3 f0 f1 f2 f3
    go_wp2
    refine bodyPost_ret (v := .tuple #[.slice (some ⟨gr, 0, none⟩) l.length cap, .agg #[.int .i64 x.f, .int .i64 t, .int .i64 x.n, .int .i64 x.s], .int .i64 0]) ?_ rfl ⟨_, rfl, GotO.at_ HLEN.out.symm (by rw [HLEN.out]; exact HCAP.out.1) HCAP.out.2.1 HSL.out HSB.out⟩
    rw [results_tmp_cell_tmp rfl]
    simp [asAddr, Result.andThen, HL.out]
  · rw [he] at HF
    have hne : ¬ findC l n u = 0 := by rcases hc0 with h | h <;> rw [h] <;> decide
    rw [if_neg hne] at hCR hFS
    rw [hCR, hFS]
    have d1 : (findC l n u != 0) = true := by rcases hc0 with h | h <;> rw [h] <;> rfl
    generalize findC l n u = C at *
    unfold stV stZ
    unfold opV opZ at HF
    dsimp only at *
    clear hCR hFS hc0 he hp hne
    go_enter Try.func19, Try.ntmps19
    go_wp2_with fail
    refine (HF.out _ (HR.out.below HZ.out.frame)).mono ?_
    rintro e w1 ⟨rfl, hB⟩
    have K1 := HZ.out.below hB
    have K2 := K1.alloc (.cells #[.int .i64 0, .string ⟨#[]⟩, .int .i64 0, .int .i64 0] 24)
    have HL := Lib.hid (K2.loadT (.int .i64 0) (.int .i64 0) (.int .i64 0) (.int .i64 0))
    have HS := Lib.hid (K2.set (.int .i64 0) (.int .i64 0) (.int .i64 0) (.int .i64 0))
    obtain ⟨z0, z1, z2, z3⟩ := K2.cells
    obtain ⟨f0, f1, f2, f3⟩ := K2.free
    have hgl := K2.lt
    unfold setO at HL HS
    clear HF hB K1 K2
    go_wp2
    refine bodyPost_ret (v := .tuple #[.slice none 0 0, .agg #[.int .i64 0, .int .i64 0, .int .i64 0, .int .i64 0], .int .i64 C]) ?_ rfl ⟨_, rfl, GotO.nil HS.out⟩
    rw [results_tmp_cell_tmp rfl]
    simp [asAddr, Result.andThen, HL.out]
end Go.Proofs.Ytlgicjebaehgeaa
