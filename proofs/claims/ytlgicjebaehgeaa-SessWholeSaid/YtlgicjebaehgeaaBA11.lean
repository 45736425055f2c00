/- Layer 10: a session changes, in the program: contract. -/
import Derived.Test.YtlgicjebaehgeaaBA9
namespace Go.Proofs.Ytlgicjebaehgeaa
open Go.RowKit Go.Proofs
set_option linter.unusedVariables false
set_option maxRecDepth 100000

theorem oes_split (l : List OpM) (k : Nat) (h : k < l.length) : oes l = oes (l.take k) ++ (encO l[k] ++ oes (l.drop (k + 1))) := by
  rw [← oes_cons, ← oes_append, ← List.drop_eq_getElem_cons h, List.take_append_drop]
theorem oes_set2 (l : List OpM) (k : Nat) (h : k < l.length) (s f : Int) : ((oes l).set (k * 4 + 2) (.int .i64 s)).set (k * 4 + 3) (.int .i64 f) = oes (chgAt l k s f) := by
  have hk : (oes (l.take k)).length = k * 4 := by rw [oes_len, List.length_take]; omega
  rw [chgAt_at h, oes_split l k h, oes_append, oes_cons]
  rw [List.set_append_right _ _ (by omega), List.set_append_right _ _ (by omega), hk]
  have e1 : k * 4 + 2 - k * 4 = 2 := by omega
  have e2 : k * 4 + 3 - k * 4 = 3 := by omega
  rw [e1, e2]
  rfl
theorem oes_set4 (l : List OpM) (k : Nat) (h : k < l.length) (n : Int) (u : ByteArray) (s f : Int) (hn : l[k].n = n) (hu : l[k].u = u) : ((((oes l).set (k * 4) (.int .i64 n)).set (k * 4 + 1) (.string u)).set (k * 4 + 2) (.int .i64 s)).set (k * 4 + 3) (.int .i64 f) = oes (chgAt l k s f) := by
  have hk : (oes (l.take k)).length = k * 4 := by rw [oes_len, List.length_take]; omega
  subst hn hu
  rw [chgAt_at h, oes_split l k h, oes_append, oes_cons]
  rw [List.set_append_right _ _ (by omega), List.set_append_right _ _ (by omega), List.set_append_right _ _ (by omega), List.set_append_right _ _ (by omega), hk]
  have e0 : k * 4 - k * 4 = 0 := by omega
  have e3 : k * 4 + 1 - k * 4 = 1 := by omega
  have e1 : k * 4 + 2 - k * 4 = 2 := by omega
  have e2 : k * 4 + 3 - k * 4 = 3 := by omega
  rw [e0, e1, e2, e3]
  rfl
/-- a row of one's own, where it lies -/
theorem own_opat {w : World} {B e n g cap : Nat} {m : List OpM} (h : w.ownsRow B e 4 (.slice (some ⟨g, 0, none⟩) n cap) m.length (oes m)) : n = m.length ∧ m.length ≤ cap ∧ cap ≤ maxLen ∧ OpSl w (some ⟨g, 0, none⟩) m := by
  obtain ⟨a, c, h1, h2, h3, h4, _⟩ := own_op h
  injection h1 with h1 h5 h6
  subst h1 h5 h6
  exact ⟨rfl, h2, h3, h4⟩
theorem GotO.at_ {w w' : World} {m : List OpM} {n cap gr : Nat} (hn : n = m.length) (h2 : m.length ≤ cap) (h3 : cap ≤ maxLen) (h4 : OpSl w' (some ⟨gr, 0, none⟩) m) (hb : Below w.heap.size w w') : GotO w w' m (.slice (some ⟨gr, 0, none⟩) n cap) := by
  subst hn
  exact ⟨_, _, rfl, h2, h3, (fun h => by cases h), h4, hb⟩
/-- the cells of one of them -/
theorem own_opcell {w : World} {B e n g cap : Nat} {m : List OpM} (h : w.ownsRow B e 4 (.slice (some ⟨g, 0, none⟩) n cap) m.length (oes m)) {k : Nat} (hk : k < m.length) :
    (w.cell? ⟨g, k * 4, none⟩ = some (.int .i64 m[k].n) ∧ w.cell? ⟨g, k * 4 + 1, none⟩ = some (.string m[k].u) ∧ w.cell? ⟨g, k * 4 + 2, none⟩ = some (.int .i64 m[k].s) ∧ w.cell? ⟨g, k * 4 + 3, none⟩ = some (.int .i64 m[k].f)) ∧ (∀ j, w.frozen? ⟨g, j, none⟩ = false) := by
  obtain ⟨rfl, -, -, h4⟩ := own_opat h
  obtain ⟨b, off, e1, _, h0, h1, h2, h3⟩ := h4.at_ hk
  cases e1
  rw [Nat.zero_add] at h0 h1 h2 h3
  exact ⟨⟨h0, h1, h2, h3⟩, fun j => h.frozenAt j⟩
theorem cell_next {w : World} {g i j : Nat} {v x : Value} (h : w.cell? ⟨g, j, none⟩ = some x) (hij : ¬ i = j) : (w.setCell ⟨g, i, none⟩ v).cell? ⟨g, j, none⟩ = some x :=
  (World.cell?_setCell_other w _ _ _ (fun e => hij (by injection e))).trans h

set_option maxHeartbeats 1000000 in
theorem oclone_any (a : Option Addr) (c : Nat) (l : List OpM) (w : World) (hr : OpSl w a l) (h0 : 0 < l.length) (hl : l.length ≤ 100000) :
    Calls Try.prog 48 #[.slice a l.length c] w fun e w' => ∃ g cap, e = .returned (.slice (some ⟨g, 0, none⟩) l.length cap) ∧ w.heap.size ≤ g ∧ w'.ownsRow w.heap.size 31 4 (.slice (some ⟨g, 0, none⟩) l.length cap) l.length (oes l) ∧ Below w.heap.size w w' := by
  obtain ⟨i0, hi, hz0, hz1, hz2⟩ := info_parts infoOp
  have q22 : ∀ (W : World) (a : Option Addr) (n c n' c' : Nat), (binOp .eql 26 (.slice a n c) (.slice none n' c')).run Try.prog W = .ok (.bool a.isNone) W := fun W a n c n' c' => Lib.run_eql_slice_nil W _ _ a n c n' c' Try.underlying26
  obtain ⟨b, off, rfl, -, -, -, -, -⟩ := hr.at_ h0
  have HO := Lib.hid (own_emptyO w 31 4 w.heap.size (Nat.le_refl _))
  have HB := Lib.hid (below_one w (.cells #[] 31))
  have HX1 := Lib.hid (hr.below HB.out)
  clear hr
  go_enter Try.func48, Try.ntmps48
  go_wp2_with (at_builtin; refine wpList_append_op _ rfl (.tmp 5) (.tmp 6) 26 rfl w.heap.size 31 i0 _ Try.underlying26 hi hz0 hz1 hz2 rfl _ [] rfl HO.out (some ⟨b, off, none⟩) c l rfl HX1.out (fun h => by cases h) (by simpa using (show l.length ≤ 1000000 by omega)) HB.out.size ?_; intro v2 w2 hown2 hB2)
  have HO2 := Lib.hid hown2
  have HB2 := Lib.hid (HB.out.trans hB2)
  clear hown2 hB2
  go_wp2
  go_ret
  have ho := HO2.out
  rw [List.nil_append] at ho
  rcases ho.2 with ⟨rfl, hn⟩ | ⟨g, cap, cur, rfl, hg, _⟩
  · omega
  · exact ⟨g, cap, rfl, hg, ho, HB2.out⟩

set_option maxHeartbeats 4000000 in
theorem change_more (a : Option Addr) (c : Nat) (l : List OpM) (n : Int) (u : ByteArray) (s t : Int) (w : World) (hr : OpSl w a l) (hl : l.length ≤ 500) (hc : l.length ≤ c) (hcm : c ≤ maxLen) :
    Calls Try.prog 18 #[.slice a l.length c, .int .i64 n, .string u, .int .i64 s, .int .i64 t] w fun e w' => ∃ v, e = .returned (.tuple #[v, stV (fndS l n u t), .int .i64 (findC l n u)]) ∧ GotN w w' (chgR l n u s t) v := by
  have HF := Lib.hid (fun W (h : OpSl W a l) => find_any a c l n u W h (by omega))
  have HZ := Lib.hid (Zb.new w (.int .i64 0) (.int .i64 0) (.int .i64 0) (.int .i64 0) 44)
  have HR := Lib.hid hr
  have hCR : chgR l n u s t = if findC l n u = 0 then chgAt l (findP l n u) s t else [] := rfl
  have hFS : fndS l n u t = if findC l n u = 0 then stayO (findE l n u) t else stZ := rfl
  unfold maxLen at hcm
  clear hr
  rcases fc_three l n u with ⟨hc0, k, hk, -, -, -, he, hp⟩ | ⟨hc0, he, hp⟩
  · rw [hc0, hp] at HF
    rw [hc0, if_pos rfl, hp] at hCR
    rw [hc0, if_pos rfl, he] at hFS
    rw [hc0, hCR, hFS]
    have HCL := Lib.hid (fun W (h : OpSl W a l) => oclone_any a c l W h (by omega) (by omega))
    have HST := Lib.hid (fun W => stay_any l[k] t W)
    unfold opV stV stayO at HST
    unfold stV stayO
    dsimp only at *
    have d1 : ((0 : Int) != 0) = false := rfl
    clear hCR hFS hc0 he hp
    go_enter Try.func18, Try.ntmps18
    go_wp2_with fail
    refine (HF.out _ (HR.out.below HZ.out.frame)).mono ?_
    rintro e w1 ⟨rfl, hB⟩
    have K1 := Lib.hid (HZ.out.below hB)
    clear hB HF HZ
    go_wp2_with fail
    refine (HCL.out _ (HR.out.below K1.out.frame)).mono ?_
    rintro e w2 ⟨gr, cap, rfl, hge, ho, hB⟩
    obtain ⟨⟨-, -, o2, o3⟩, of⟩ := own_opcell ho hk
    have f2 := of (k * 4 + 2)
    have f3 := of (k * 4 + 3)
    have q3 : (w2.setCell ⟨gr, k * 4 + 2, none⟩ (.int .i64 s)).cell? ⟨gr, k * 4 + 3, none⟩ = some (.int .i64 l[k].f) := cell_next o3 (by omega)
    have HB3 := Lib.hid ((hB.setCell (p := ⟨gr, k * 4 + 2, none⟩) hge (.int .i64 s)).setCell (p := ⟨gr, k * 4 + 3, none⟩) hge (.int .i64 t))
    have HO3 := Lib.hid ((ho.stored (k * 4 + 2) (.int .i64 s)).1.stored (k * 4 + 3) (.int .i64 t)).1
    rw [oes_set2 l k hk] at HO3
    have K3 := Lib.hid (K1.out.below HB3.out)
    obtain ⟨b, off, rfl, hbl, hc0, hc1, hc2, hc3⟩ := (HR.out.below K3.out.frame).at_ hk
    have hgrl : gr < w2.heap.size := (ho.lt gr rfl).2
    have HGE := Lib.hid hge
    have HLT := Lib.hid K1.out.lt
    have hcap : l.length ≤ cap := (own_opat ho).2.1
    have hcap2 : cap ≤ maxLen := (own_opat ho).2.2.1
    have HCAP := Lib.hid hcap2
    clear of ho hB HCL hge hcap2
    go_wp2_with fail
    refine (HST.out _).mono ?_
    rintro e w4 ⟨rfl, hB4⟩
    have K4 := K3.out.below hB4
    obtain ⟨z0, z1, z2, z3⟩ := K4.cells
    obtain ⟨y0, y1, y2, y3⟩ := K4.free
    have HL := Lib.hid (K4.loadS (.int .i64 l[k].f) (.int .i64 t) (.int .i64 l[k].n) (.int .i64 l[k].s))
    have HS := Lib.hid (K4.set (.int .i64 l[k].f) (.int .i64 t) (.int .i64 l[k].n) (.int .i64 l[k].s))
    have hlen := chgAt_len l k s t
    have HO3' : Hid (((w2.setCell ⟨gr, k * 4 + 2, none⟩ (.int .i64 s)).setCell ⟨gr, k * 4 + 3, none⟩ (.int .i64 t)).ownsRow w1.heap.size 31 4 (.slice (some ⟨gr, 0, none⟩) l.length cap) (chgAt l k s t).length (oes (chgAt l k s t))) := by
      unfold Hid
      rw [hlen]
      exact HO3.out
    have HSL := Lib.hid ((own_opat (own_below HO3'.out hB4)).2.2.2.setO w.heap.size (.int .i64 l[k].f) (.int .i64 t) (.int .i64 l[k].n) (.int .i64 l[k].s) (fun b o e => by cases e; have h1 := HGE.out; have h2 := HLT.out; omega))
    have HLEN := Lib.hid hlen
    unfold setO at HL HS HSL
    clear HO3 HO3' hB4 K4 HST hlen HB3 K3 HR hc0 hc1 hc2 hc3 q3 o2 o3 f2 f3
    go_wp2
    refine bodyPost_ret (v := .tuple #[.slice (some ⟨gr, 0, none⟩) l.length cap, .agg #[.int .i64 l[k].f, .int .i64 t, .int .i64 l[k].n, .int .i64 l[k].s], .int .i64 0]) ?_ rfl ⟨_, rfl, GotO.at_ HLEN.out.symm (by rw [HLEN.out]; exact hcap) HCAP.out HSL.out HS.out, fun b o q n e => by cases e; have h1 := HGE.out; have h2 := HLT.out; omega⟩
    rw [results_tmp_cell_tmp rfl]
    simp [asAddr, Result.andThen, HL.out]
  · rw [hp] at HF
    have hne : ¬ findC l n u = 0 := by rcases hc0 with h | h <;> rw [h] <;> decide
    rw [if_neg hne] at hCR hFS
    rw [hCR, hFS]
    have d1 : (findC l n u != 0) = true := by rcases hc0 with h | h <;> rw [h] <;> rfl
    generalize findC l n u = C at *
    unfold stV stZ
    dsimp only
    clear hCR hFS hc0 he hp hne
    go_enter Try.func18, Try.ntmps18
    go_wp2_with fail
    refine (HF.out _ (HR.out.below HZ.out.frame)).mono ?_
    rintro e w1 ⟨rfl, hB⟩
    have K1 := HZ.out.below hB
    have HL := Lib.hid (K1.loadS (.int .i64 0) (.int .i64 0) (.int .i64 0) (.int .i64 0))
    have HS := Lib.hid (K1.set (.int .i64 0) (.int .i64 0) (.int .i64 0) (.int .i64 0))
    obtain ⟨z0, z1, z2, z3⟩ := K1.cells
    obtain ⟨f0, f1, f2, f3⟩ := K1.free
    have hgl := K1.lt
    unfold setO at HL HS
    clear HF hB K1
    go_wp2
    refine bodyPost_ret (v := .tuple #[.slice none 0 0, .agg #[.int .i64 0, .int .i64 0, .int .i64 0, .int .i64 0], .int .i64 C]) ?_ rfl ⟨_, rfl, GotO.nil HS.out, fun b o q n e => by cases e⟩
    rw [results_tmp_cell_tmp rfl]
    simp [asAddr, Result.andThen, HL.out]
theorem change_any (a : Option Addr) (c : Nat) (l : List OpM) (n : Int) (u : ByteArray) (s t : Int) (w : World) (hr : OpSl w a l) (hl : l.length ≤ 500) (hc : l.length ≤ c) (hcm : c ≤ maxLen) :
    Calls Try.prog 18 #[.slice a l.length c, .int .i64 n, .string u, .int .i64 s, .int .i64 t] w fun e w' => ∃ v, e = .returned (.tuple #[v, stV (fndS l n u t), .int .i64 (findC l n u)]) ∧ GotO w w' (chgR l n u s t) v :=
  (change_more a c l n u s t w hr hl hc hcm).mono fun e w' ⟨v, h1, h2⟩ => ⟨v, h1, h2.1⟩
end Go.Proofs.Ytlgicjebaehgeaa
