/- Texts of mine, one behind the other, of each what is wanted: BA8 BA11 BA12. -/
import Derived.Deep.RegionHeld3
import Derived.Test.YtjhdhfokhkcamaaGreatP11
import Derived.Test.YtjhdhfokhkcamaaGreatP14
namespace Go.Proofs.YtjhdhfokhkcamaaGreat
open Go.RowKit
set_option linter.unusedVariables false
set_option maxRecDepth 100000
set_option maxRecDepth 100000
set_option maxHeartbeats 2000000 in
theorem onews_any (a : Option Addr) (c : Nat) (l : List OpM) (w : World) (hr : OpSl w a l) (hl : l.length ≤ 1000000) :
    Calls Tryz.prog 40 #[.slice a l.length c] w fun e w' => ∃ (v : Value), e = .returned v ∧ w'.ownsRow w.heap.size 112 4 v l.length (oes l) ∧ Below w.heap.size w w' := by
  obtain ⟨i0, hi, hz0, hz1, hz2⟩ := info_parts infoOp
  have HR := Lib.hid hr
  clear hr
  go_enter Tryz.func40, Tryz.ntmps40
  go_wp2
  go_loopw [3, 8] (fun v i wr => ∃ (j : Nat), j ≤ l.length ∧ i = .int .i64 j ∧ Hid (wr.ownsRow w.heap.size 112 4 v j (oes (l.take j))) ∧ Hid (Below w.heap.size w wr)) (fun _ i _ => l.length - (intOf i).toNat)
  case atStart => exact ⟨0, by omega, rfl, ⟨rfl, .inl ⟨rfl, rfl⟩⟩, Below.refl _ _⟩
  case round =>
    obtain ⟨j, hj, rfl, HO, HB⟩ := hrel
    by_cases hjl : j < l.length
    · obtain ⟨b, off, rfl, hbl, hc0, hc1, hc2, hc3⟩ := (HR.out.below HB.out).at_ hjl
      have HC := Lib.hid (oes_take l j hjl)
      generalize l[j] = x at *
      have hbt := below_two wr (.cells #[.int .i64 x.n, .string x.u, .int .i64 x.s, .int .i64 x.f] 75) (.cells #[.int .i64 x.n, .string x.u, .int .i64 x.s, .int .i64 x.f] 112)
      have HO2 := Lib.hid (own_below HO.out hbt)
      have HB2 : Hid (Below w.heap.size w ((wr.alloc (.cells #[.int .i64 x.n, .string x.u, .int .i64 x.s, .int .i64 x.f] 75)).alloc (.cells #[.int .i64 x.n, .string x.u, .int .i64 x.s, .int .i64 x.f] 112))) := HB.out.trans (hbt.mono HB.out.size)
      have HS2 := Lib.hid HB2.out.size
      clear hbt
      go_wp2_with (at_builtin; refine wpList_append_own _ rfl (.tmp 12) (.tmp 14) 33 rfl w.heap.size 112 i0 _ 4 40 Tryz.underlying33 hi hz0 hz1 hz2 rfl (by decide) _ _ _ rfl HO2.out ⟨wr.heap.size + 1, 0, none⟩ 1 1 [.int .i64 x.n, .string x.u, .int .i64 x.s, .int .i64 x.f] rfl rfl (news_at _ _ _ _ (size1 _ _).symm) (four_o _ _ _ _) (by unfold maxLen; omega) (by omega) HS2.out ?_; intro v' w3 hown' hgrow hiff)
      have HB3 := Lib.hid (app_below HB2.out HS2.out HO2.out hgrow)
      have HO3 := Lib.hid hown'
      clear hown' hgrow hiff HB2 HS2 HO2
      go_wp2
      go_roundw
      case rel => exact ⟨j + 1, by omega, by go_num, (by unfold Hid; rw [HC.out]; exact HO3.out), HB3⟩
      case measure => simp [intOf]; omega
    · obtain rfl : j = l.length := by omega
      rw [List.take_of_length_le (Nat.le_refl _)] at HO
      go_wp2
      go_ret
      exact ⟨_, rfl, HO.out, HB.out⟩
set_option maxHeartbeats 2000000 in
theorem oolds_any (a : Option Addr) (c : Nat) (l : List OpM) (w : World) (hr : OpSl w a l) (hl : l.length ≤ 1000000) :
    Calls Tryz.prog 56 #[.slice a l.length c] w fun e w' => ∃ (v : Value), e = .returned v ∧ w'.ownsRow w.heap.size 75 4 v l.length (oes l) ∧ Below w.heap.size w w' := by
  obtain ⟨i0, hi, hz0, hz1, hz2⟩ := info_parts infoOpR
  have HR := Lib.hid hr
  clear hr
  go_enter Tryz.func56, Tryz.ntmps56
  go_wp2
  go_loopw [3, 8] (fun v i wr => ∃ (j : Nat), j ≤ l.length ∧ i = .int .i64 j ∧ Hid (wr.ownsRow w.heap.size 75 4 v j (oes (l.take j))) ∧ Hid (Below w.heap.size w wr)) (fun _ i _ => l.length - (intOf i).toNat)
  case atStart => exact ⟨0, by omega, rfl, ⟨rfl, .inl ⟨rfl, rfl⟩⟩, Below.refl _ _⟩
  case round =>
    obtain ⟨j, hj, rfl, HO, HB⟩ := hrel
    by_cases hjl : j < l.length
    · obtain ⟨b, off, rfl, hbl, hc0, hc1, hc2, hc3⟩ := (HR.out.below HB.out).at_ hjl
      have HC := Lib.hid (oes_take l j hjl)
      generalize l[j] = x at *
      have hbt := below_two wr (.cells #[.int .i64 x.n, .string x.u, .int .i64 x.s, .int .i64 x.f] 112) (.cells #[.int .i64 x.n, .string x.u, .int .i64 x.s, .int .i64 x.f] 75)
      have HO2 := Lib.hid (own_below HO.out hbt)
      have HB2 : Hid (Below w.heap.size w ((wr.alloc (.cells #[.int .i64 x.n, .string x.u, .int .i64 x.s, .int .i64 x.f] 112)).alloc (.cells #[.int .i64 x.n, .string x.u, .int .i64 x.s, .int .i64 x.f] 75))) := HB.out.trans (hbt.mono HB.out.size)
      have HS2 := Lib.hid HB2.out.size
      clear hbt
      go_wp2_with (at_builtin; refine wpList_append_own _ rfl (.tmp 12) (.tmp 14) 22 rfl w.heap.size 75 i0 _ 4 40 Tryz.underlying22 hi hz0 hz1 hz2 rfl (by decide) _ _ _ rfl HO2.out ⟨wr.heap.size + 1, 0, none⟩ 1 1 [.int .i64 x.n, .string x.u, .int .i64 x.s, .int .i64 x.f] rfl rfl (news_at _ _ _ _ (size1 _ _).symm) (four_o _ _ _ _) (by unfold maxLen; omega) (by omega) HS2.out ?_; intro v' w3 hown' hgrow hiff)
      have HB3 := Lib.hid (app_below HB2.out HS2.out HO2.out hgrow)
      have HO3 := Lib.hid hown'
      clear hown' hgrow hiff HB2 HS2 HO2
      go_wp2
      go_roundw
      case rel => exact ⟨j + 1, by omega, by go_num, (by unfold Hid; rw [HC.out]; exact HO3.out), HB3⟩
      case measure => simp [intOf]; omega
    · obtain rfl : j = l.length := by omega
      rw [List.take_of_length_le (Nat.le_refl _)] at HO
      go_wp2
      go_ret
      exact ⟨_, rfl, HO.out, HB.out⟩
end Go.Proofs.YtjhdhfokhkcamaaGreat
namespace Go.Proofs.YtjhdhfokhkcamaaGreat
open Go.RowKit Go.Proofs
set_option linter.unusedVariables false
set_option maxRecDepth 100000
set_option maxRecDepth 100000
theorem oes_split (l : List OpM) (k : Nat) (h : k < l.length) : oes l = oes (l.take k) ++ (encO l[k] ++ oes (l.drop (k + 1))) := by
  rw [← oes_cons, ← oes_append, ← List.drop_eq_getElem_cons h, List.take_append_drop]
theorem oes_set2 (l : List OpM) (k : Nat) (h : k < l.length) (s f : Int) : ((oes l).set (k * 4 + 2) (.int .i64 s)).set (k * 4 + 3) (.int .i64 f) = oes (chgAt l k s f) := by
  have hk : (oes (l.take k)).length = k * 4 := by rw [oes_len, List.length_take]; omega
  rw [chgAt_at h, oes_split l k h, oes_append, oes_cons]
  rw [List.set_append_right _ _ (by omega), List.set_append_right _ _ (by omega), hk]
  have e1 : k * 4 + 2 - k * 4 = 2 := by omega
  have e2 : k * 4 + 3 - k * 4 = 3 := by omega
  rw [e1, e2]
  rfl
theorem own_opat {w : World} {B e n g cap : Nat} {m : List OpM} (h : w.ownsRow B e 4 (.slice (some ⟨g, 0, none⟩) n cap) m.length (oes m)) : n = m.length ∧ m.length ≤ cap ∧ cap ≤ maxLen ∧ OpSl w (some ⟨g, 0, none⟩) m := by
  obtain ⟨a, c, h1, h2, h3, h4, _⟩ := own_op h
  injection h1 with h1 h5 h6
  subst h1 h5 h6
  exact ⟨rfl, h2, h3, h4⟩
theorem GotO.at_ {w w' : World} {m : List OpM} {n cap gr : Nat} (hn : n = m.length) (h2 : m.length ≤ cap) (h3 : cap ≤ maxLen) (h4 : OpSl w' (some ⟨gr, 0, none⟩) m) (hb : Below w.heap.size w w') : GotO w w' m (.slice (some ⟨gr, 0, none⟩) n cap) := by
  subst hn
  exact ⟨_, _, rfl, h2, h3, (fun h => by cases h), h4, hb⟩
theorem own_opcell {w : World} {B e n g cap : Nat} {m : List OpM} (h : w.ownsRow B e 4 (.slice (some ⟨g, 0, none⟩) n cap) m.length (oes m)) {k : Nat} (hk : k < m.length) :
    (w.cell? ⟨g, k * 4, none⟩ = some (.int .i64 m[k].n) ∧ w.cell? ⟨g, k * 4 + 1, none⟩ = some (.string m[k].u) ∧ w.cell? ⟨g, k * 4 + 2, none⟩ = some (.int .i64 m[k].s) ∧ w.cell? ⟨g, k * 4 + 3, none⟩ = some (.int .i64 m[k].f)) ∧ (∀ j, w.frozen? ⟨g, j, none⟩ = false) := by
  obtain ⟨rfl, -, -, h4⟩ := own_opat h
  obtain ⟨b, off, e1, _, h0, h1, h2, h3⟩ := h4.at_ hk
  cases e1
  rw [Nat.zero_add] at h0 h1 h2 h3
  exact ⟨⟨h0, h1, h2, h3⟩, fun j => h.frozenAt j⟩
theorem cell_next {w : World} {g i j : Nat} {v x : Value} (h : w.cell? ⟨g, j, none⟩ = some x) (hij : ¬ i = j) : (w.setCell ⟨g, i, none⟩ v).cell? ⟨g, j, none⟩ = some x :=
  (World.cell?_setCell_other w _ _ _ (fun e => hij (by injection e))).trans h
set_option maxHeartbeats 1000000 in
theorem oclone_any (a : Option Addr) (c : Nat) (l : List OpM) (w : World) (hr : OpSl w a l) (h0 : 0 < l.length) (hl : l.length ≤ 100000) :
    Calls Tryz.prog 116 #[.slice a l.length c] w fun e w' => ∃ g cap, e = .returned (.slice (some ⟨g, 0, none⟩) l.length cap) ∧ w.heap.size ≤ g ∧ w'.ownsRow w.heap.size 112 4 (.slice (some ⟨g, 0, none⟩) l.length cap) l.length (oes l) ∧ Below w.heap.size w w' := by
  obtain ⟨i0, hi, hz0, hz1, hz2⟩ := info_parts infoOp
  have q22 : ∀ (W : World) (a : Option Addr) (n c n' c' : Nat), (binOp .eql 33 (.slice a n c) (.slice none n' c')).run Tryz.prog W = .ok (.bool a.isNone) W := fun W a n c n' c' => Lib.run_eql_slice_nil W _ _ a n c n' c' Tryz.underlying33
  obtain ⟨b, off, rfl, -, -, -, -, -⟩ := hr.at_ h0
  have HO := Lib.hid (own_emptyO w 112 4 w.heap.size (Nat.le_refl _))
  have HB := Lib.hid (below_one w (.cells #[] 112))
  have HX1 := Lib.hid (hr.below HB.out)
  clear hr
  go_enter Tryz.func116, Tryz.ntmps116
  go_wp2_with (at_builtin; refine wpList_append_op _ rfl (.tmp 5) (.tmp 6) 33 rfl w.heap.size 112 i0 _ Tryz.underlying33 hi hz0 hz1 hz2 rfl _ [] rfl HO.out (some ⟨b, off, none⟩) c l rfl HX1.out (fun h => by cases h) (by simpa using (show l.length ≤ 1000000 by omega)) HB.out.size ?_; intro v2 w2 hown2 hB2)
  have HO2 := Lib.hid hown2
  have HB2 := Lib.hid (HB.out.trans hB2)
  clear hown2 hB2
  go_wp2
  go_ret
  have ho := HO2.out
  rw [List.nil_append] at ho
  rcases ho.2 with ⟨rfl, hn⟩ | ⟨g, cap, cur, rfl, hg, _⟩
  · omega
  · exact ⟨g, cap, rfl, hg, ho, HB2.out⟩
set_option maxHeartbeats 4000000 in
theorem change_more (a : Option Addr) (c : Nat) (l : List OpM) (n : Int) (u : ByteArray) (s t : Int) (w : World) (hr : OpSl w a l) (hl : l.length ≤ 500) (hc : l.length ≤ c) (hcm : c ≤ maxLen) :
    Calls Tryz.prog 111 #[.slice a l.length c, .int .i64 n, .string u, .int .i64 s, .int .i64 t] w fun e w' => ∃ v, e = .returned (.tuple #[v, stV (fndS l n u t), .int .i64 (findC l n u)]) ∧ GotN w w' (chgR l n u s t) v := by
  have HF := Lib.hid (fun W (h : OpSl W a l) => find_any a c l n u W h (by omega))
  have HZ := Lib.hid (Zb.new w (.int .i64 0) (.int .i64 0) (.int .i64 0) (.int .i64 0) 86)
  have HR := Lib.hid hr
  have hCR : chgR l n u s t = if findC l n u = 0 then chgAt l (findP l n u) s t else [] := rfl
  have hFS : fndS l n u t = if findC l n u = 0 then stayO (findE l n u) t else stZ := rfl
  unfold maxLen at hcm
  clear hr
  rcases fc_three l n u with ⟨hc0, k, hk, -, -, -, he, hp⟩ | ⟨hc0, he, hp⟩
  · rw [hc0, hp] at HF
    rw [hc0, if_pos rfl, hp] at hCR
    rw [hc0, if_pos rfl, he] at hFS
    rw [hc0, hCR, hFS]
    have HCL := Lib.hid (fun W (h : OpSl W a l) => oclone_any a c l W h (by omega) (by omega))
    have HST := Lib.hid (fun W => stay_any l[k] t W)
    unfold opV stV stayO at HST
    unfold stV stayO
    dsimp only at *
    have d1 : ((0 : Int) != 0) = false := rfl
    clear hCR hFS hc0 he hp
    go_enter Tryz.func111, Tryz.ntmps111
    go_wp2_with fail
    refine (HF.out _ (HR.out.below HZ.out.frame)).mono ?_
    rintro e w1 ⟨rfl, hB⟩
    have K1 := Lib.hid (HZ.out.below hB)
    clear hB HF HZ
    go_wp2_with fail
    refine (HCL.out _ (HR.out.below K1.out.frame)).mono ?_
    rintro e w2 ⟨gr, cap, rfl, hge, ho, hB⟩
    obtain ⟨⟨-, -, o2, o3⟩, of⟩ := own_opcell ho hk
    have f2 := of (k * 4 + 2)
    have f3 := of (k * 4 + 3)
    have q3 : (w2.setCell ⟨gr, k * 4 + 2, none⟩ (.int .i64 s)).cell? ⟨gr, k * 4 + 3, none⟩ = some (.int .i64 l[k].f) := cell_next o3 (by omega)
    have HB3 := Lib.hid ((hB.setCell (p := ⟨gr, k * 4 + 2, none⟩) hge (.int .i64 s)).setCell (p := ⟨gr, k * 4 + 3, none⟩) hge (.int .i64 t))
    have HO3 := Lib.hid ((ho.stored (k * 4 + 2) (.int .i64 s)).1.stored (k * 4 + 3) (.int .i64 t)).1
    rw [oes_set2 l k hk] at HO3
    have K3 := Lib.hid (K1.out.below HB3.out)
    obtain ⟨b, off, rfl, hbl, hc0, hc1, hc2, hc3⟩ := (HR.out.below K3.out.frame).at_ hk
    have hgrl : gr < w2.heap.size := (ho.lt gr rfl).2
    have HGE := Lib.hid hge
    have HLT := Lib.hid K1.out.lt
    have hcap : l.length ≤ cap := (own_opat ho).2.1
    have hcap2 : cap ≤ maxLen := (own_opat ho).2.2.1
    have HCAP := Lib.hid hcap2
    clear of ho hB HCL hge hcap2
    go_wp2_with fail
    refine (HST.out _).mono ?_
    rintro e w4 ⟨rfl, hB4⟩
    have K4 := K3.out.below hB4
    obtain ⟨z0, z1, z2, z3⟩ := K4.cells
    obtain ⟨y0, y1, y2, y3⟩ := K4.free
    have HL := Lib.hid (K4.loadS (.int .i64 l[k].f) (.int .i64 t) (.int .i64 l[k].n) (.int .i64 l[k].s))
    have HS := Lib.hid (K4.set (.int .i64 l[k].f) (.int .i64 t) (.int .i64 l[k].n) (.int .i64 l[k].s))
    have hlen := chgAt_len l k s t
    have HO3' : Hid (((w2.setCell ⟨gr, k * 4 + 2, none⟩ (.int .i64 s)).setCell ⟨gr, k * 4 + 3, none⟩ (.int .i64 t)).ownsRow w1.heap.size 112 4 (.slice (some ⟨gr, 0, none⟩) l.length cap) (chgAt l k s t).length (oes (chgAt l k s t))) := by
      unfold Hid
      rw [hlen]
      exact HO3.out
    have HSL := Lib.hid ((own_opat (own_below HO3'.out hB4)).2.2.2.setO w.heap.size (.int .i64 l[k].f) (.int .i64 t) (.int .i64 l[k].n) (.int .i64 l[k].s) (fun b o e => by cases e; have h1 := HGE.out; have h2 := HLT.out; omega))
    have HLEN := Lib.hid hlen
    unfold setO at HL HS HSL
    clear HO3 HO3' hB4 K4 HST hlen HB3 K3 HR hc0 hc1 hc2 hc3 q3 o2 o3 f2 f3
    go_wp2
    refine bodyPost_ret (v := .tuple #[.slice (some ⟨gr, 0, none⟩) l.length cap, .agg #[.int .i64 l[k].f, .int .i64 t, .int .i64 l[k].n, .int .i64 l[k].s], .int .i64 0]) ?_ rfl ⟨_, rfl, GotO.at_ HLEN.out.symm (by rw [HLEN.out]; exact hcap) HCAP.out HSL.out HS.out, fun b o q n e => by cases e; have h1 := HGE.out; have h2 := HLT.out; omega⟩
    rw [results_tmp_cell_tmp rfl]
    simp [asAddr, Result.andThen, HL.out]
  · rw [hp] at HF
    have hne : ¬ findC l n u = 0 := by rcases hc0 with h | h <;> rw [h] <;> decide
    rw [if_neg hne] at hCR hFS
    rw [hCR, hFS]
    have d1 : (findC l n u != 0) = true := by rcases hc0 with h | h <;> rw [h] <;> rfl
    generalize findC l n u = C at *
    unfold stV stZ
    dsimp only
    clear hCR hFS hc0 he hp hne
    go_enter Tryz.func111, Tryz.ntmps111
    go_wp2_with fail
    refine (HF.out _ (HR.out.below HZ.out.frame)).mono ?_
    rintro e w1 ⟨rfl, hB⟩
    have K1 := HZ.out.below hB
    have HL := Lib.hid (K1.loadS (.int .i64 0) (.int .i64 0) (.int .i64 0) (.int .i64 0))
    have HS := Lib.hid (K1.set (.int .i64 0) (.int .i64 0) (.int .i64 0) (.int .i64 0))
    obtain ⟨z0, z1, z2, z3⟩ := K1.cells
    obtain ⟨f0, f1, f2, f3⟩ := K1.free
    have hgl := K1.lt
    unfold setO at HL HS
    clear HF hB K1
    go_wp2
    refine bodyPost_ret (v := .tuple #[.slice none 0 0, .agg #[.int .i64 0, .int .i64 0, .int .i64 0, .int .i64 0], .int .i64 C]) ?_ rfl ⟨_, rfl, GotO.nil HS.out, fun b o q n e => by cases e⟩
    rw [results_tmp_cell_tmp rfl]
    simp [asAddr, Result.andThen, HL.out]
theorem change_any (a : Option Addr) (c : Nat) (l : List OpM) (n : Int) (u : ByteArray) (s t : Int) (w : World) (hr : OpSl w a l) (hl : l.length ≤ 500) (hc : l.length ≤ c) (hcm : c ≤ maxLen) :
    Calls Tryz.prog 111 #[.slice a l.length c, .int .i64 n, .string u, .int .i64 s, .int .i64 t] w fun e w' => ∃ v, e = .returned (.tuple #[v, stV (fndS l n u t), .int .i64 (findC l n u)]) ∧ GotO w w' (chgR l n u s t) v :=
  (change_more a c l n u s t w hr hl hc hcm).mono fun e w' ⟨v, h1, h2⟩ => ⟨v, h1, h2.1⟩
end Go.Proofs.YtjhdhfokhkcamaaGreat
namespace Go.Proofs.YtjhdhfokhkcamaaGreat
open Go.RowKit Go.Proofs
set_option linter.unusedVariables false
set_option maxRecDepth 100000
set_option maxRecDepth 100000
theorem oconcat2 (x y : Option Addr) (A B : List OpM) (c1 c2 n1 n2 : Nat) (W : World) (g : Nat) (h1 : n1 = A.length) (h2 : n2 = B.length) (hS : Sl W (some ⟨g, 0, none⟩) [.slice x n1 c1, .slice y n2 c2]) (hA : OpSl W x A) (hB : OpSl W y B) (k1 : x = none → c1 = 0) (k2 : y = none → c2 = 0) (hl : A.length + B.length ≤ 1000) :
    Calls Tryz.prog 162 #[.slice (some ⟨g, 0, none⟩) 2 2] W fun e w' => ∃ v, e = .returned v ∧ w'.ownsRow W.heap.size 112 4 v (A ++ B).length (oes (A ++ B)) ∧ Below W.heap.size W w' := by
  subst h1 h2
  have hcat : catO [⟨x, A, c1⟩, ⟨y, B, c2⟩] = A ++ B := by simp [catO]
  have hlen : (catO [⟨x, A, c1⟩, ⟨y, B, c2⟩]).length ≤ 100000 := by rw [hcat, List.length_append]; omega
  refine (oconcat_any (some ⟨g, 0, none⟩) 2 [⟨x, A, c1⟩, ⟨y, B, c2⟩] W hS ?_ (by show 2 ≤ _; decide) hlen).mono ?_
  · intro r hr
    simp only [List.mem_cons, List.mem_nil_iff, or_false] at hr
    rcases hr with rfl | rfl
    · exact ⟨hA, k1⟩
    · exact ⟨hB, k2⟩
  · rintro e w' ⟨v, rfl, ho, hbb⟩
    rw [hcat] at ho
    exact ⟨v, rfl, ho, hbb⟩
structure CzK (w : World) (g : Nat) (a : Option Addr) (l : List OpM) (W : World) : Prop where
  zb : Zb w g (.int .i64 0) (.int .i64 0) (.int .i64 0) (.int .i64 0) 86 W
  row : OpSl W a l
theorem CzK.below {w W W' : World} {g : Nat} {a : Option Addr} {l : List OpM} (h : CzK w g a l W) (q : Below W.heap.size W W') : CzK w g a l W' := ⟨h.zb.below q, h.row.below q⟩
theorem CzK.at_ {w W : World} {g b off : Nat} {l : List OpM} (h : CzK w g (some ⟨b, off, none⟩) l W) {k : Nat} (hk : k < l.length) : W.cell? ⟨b, off + k * 4, none⟩ = some (.int .i64 l[k].n) ∧ W.cell? ⟨b, off + k * 4 + 1, none⟩ = some (.string l[k].u) ∧ W.cell? ⟨b, off + k * 4 + 2, none⟩ = some (.int .i64 l[k].s) ∧ W.cell? ⟨b, off + k * 4 + 3, none⟩ = some (.int .i64 l[k].f) := by
  obtain ⟨b', off', e, _, h0⟩ := h.row.at_ hk
  cases e
  exact h0
theorem CzK.far {w W : World} {g b off : Nat} {l : List OpM} (h : CzK w g (some ⟨b, off, none⟩) l W) (hb : ¬ b = g) (x0 x1 x2 x3 : Value) {k : Nat} (hk : k < l.length) :
    (setO W g x0 x1 x2 x3).cell? ⟨b, off + k * 4, none⟩ = some (.int .i64 l[k].n) ∧ (setO W g x0 x1 x2 x3).cell? ⟨b, off + k * 4 + 1, none⟩ = some (.string l[k].u) ∧ (setO W g x0 x1 x2 x3).cell? ⟨b, off + k * 4 + 2, none⟩ = some (.int .i64 l[k].s) ∧ (setO W g x0 x1 x2 x3).cell? ⟨b, off + k * 4 + 3, none⟩ = some (.int .i64 l[k].f) := by
  obtain ⟨h0, h1, h2, h3⟩ := h.at_ hk
  exact ⟨(setO_cell W g x0 x1 x2 x3 (p := ⟨b, off + k * 4, none⟩) hb).trans h0, (setO_cell W g x0 x1 x2 x3 (p := ⟨b, off + k * 4 + 1, none⟩) hb).trans h1, (setO_cell W g x0 x1 x2 x3 (p := ⟨b, off + k * 4 + 2, none⟩) hb).trans h2, (setO_cell W g x0 x1 x2 x3 (p := ⟨b, off + k * 4 + 3, none⟩) hb).trans h3⟩
theorem GotO.far {w W : World} {m : List OpM} {v : Value} {B e g : Nat} (h : W.ownsRow B e 4 v m.length (oes m)) (hg : g < B) (x0 x1 x2 x3 : Value) (hb : Below w.heap.size w (setO W g x0 x1 x2 x3)) : GotO w (setO W g x0 x1 x2 x3) m v := by
  have hlt := h.lt
  obtain ⟨x, q, rfl, h2, h3, h4, h5⟩ := own_op h
  refine ⟨x, q, rfl, h2, h3, h5, h4.setO g x0 x1 x2 x3 (fun b o e => ?_), hb⟩
  subst e
  have := (hlt b rfl).1
  omega
set_option maxHeartbeats 4000000 in
theorem close_more (a : Option Addr) (c : Nat) (l : List OpM) (n : Int) (u : ByteArray) (t : Int) (w : World) (hr : OpSl w a l) (hl : l.length ≤ 500) (hc : l.length ≤ c) (hcm : c ≤ maxLen) :
    Calls Tryz.prog 140 #[.slice a l.length c, .int .i64 n, .string u, .int .i64 t] w fun e w' => ∃ v, e = .returned (.tuple #[v, stV (fndS l n u t), .int .i64 (findC l n u)]) ∧ GotN w w' (cloR l n u) v := by
  have HF := Lib.hid (fun W (h : OpSl W a l) => find_any a c l n u W h (by omega))
  have HZ := Lib.hid (Zb.new w (.int .i64 0) (.int .i64 0) (.int .i64 0) (.int .i64 0) 86)
  have HR := Lib.hid hr
  have hCR : cloR l n u = if findC l n u = 0 then cutAt l (findP l n u) else [] := rfl
  have hFS : fndS l n u t = if findC l n u = 0 then stayO (findE l n u) t else stZ := rfl
  unfold maxLen at hcm
  clear hr
  rcases fc_three l n u with ⟨hc0, k, hk, -, -, -, he, hp⟩ | ⟨hc0, he, hp⟩
  · rw [hc0, hp] at HF
    rw [hc0, if_pos rfl, hp] at hCR
    rw [hc0, if_pos rfl, he] at hFS
    rw [hc0, hCR, hFS]
    have HST := Lib.hid (fun W => stay_any l[k] t W)
    unfold opV stV stayO at HST
    unfold stV stayO
    dsimp only at *
    have d1 : ((0 : Int) != 0) = false := rfl
    clear hCR hFS hc0 he hp
    go_enter Tryz.func140, Tryz.ntmps140
    go_wp2_with fail
    refine (HF.out _ (HR.out.below HZ.out.frame)).mono ?_
    rintro e w1 ⟨rfl, hB⟩
    have K1Z := HZ.out.below hB
    have K1 : CzK w w.heap.size a l w1 := ⟨K1Z, HR.out.below K1Z.frame⟩
    obtain ⟨b, off, rfl, hbg, -, -, -, -⟩ := HR.out.at_ hk
    have HPS := Lib.hid (fun W (h : CzK w w.heap.size (some ⟨b, off, none⟩) l W) x0 x1 x2 x3 => h.far (by omega) x0 x1 x2 x3 hk)
    have HLO := Lib.hid (fun W (h : CzK w w.heap.size (some ⟨b, off, none⟩) l W) => h.zb.loadS (.int .i64 l[k].f) (.int .i64 t) (.int .i64 l[k].n) (.int .i64 l[k].s))
    have HGF := Lib.hid (fun W v B (ho : W.ownsRow B 112 4 v (cutAt l k).length (oes (cutAt l k))) (hg : w.heap.size < B) (h : CzK w w.heap.size (some ⟨b, off, none⟩) l W) => (show GotN w _ _ _ from ⟨GotO.far ho hg (.int .i64 l[k].f) (.int .i64 t) (.int .i64 l[k].n) (.int .i64 l[k].s) (h.zb.set (.int .i64 l[k].f) (.int .i64 t) (.int .i64 l[k].n) (.int .i64 l[k].s)), fun b' o' n' q' e => by subst e; have := (ho.lt b' rfl).1; omega⟩))
    unfold setO at HPS HLO HGF
    clear hbg
    have K1D := K1.below (Below.refl _ _).drew
    have HP0 := Lib.hid (fun W (h : CzK w w.heap.size (some ⟨b, off, none⟩) l W) => h.at_ hk)
    obtain ⟨k1, hk1⟩ : ∃ k1, k1 = k + 1 := ⟨_, rfl⟩
    have HK1 := Lib.hid hk1
    have hpw : IntKind.i64.wrap ((k : Int) + 1) = (k1 : Int) := by rw [IntWalk.i64_in] <;> omega
    have hk1l : k1 ≤ l.length := by omega
    have hkk : k < k1 := by omega
    have hz1 : (0 : Int) ≤ (k : Int) := by omega
    have hz2 : (k : Int) ≤ (l.length : Int) := by omega
    have hz3 : (k : Int) ≤ (c : Int) := by omega
    have hz4 : (l.length : Int) ≤ (c : Int) := by omega
    have hz5 : (0 : Int) ≤ (k1 : Int) := by omega
    have hz6 : (k1 : Int) ≤ (l.length : Int) := by omega
    have hz7 : (k1 : Int) ≤ (c : Int) := by omega
    have hz8 : k1 ≤ c := by omega
    have hz9 : k ≤ c := by omega
    clear hB HF HZ K1Z hk1
    generalize w.heap.size = g at *
    by_cases hck : c = k1
    · have hl1 : l.length = k1 := by omega
      have HL1 := Lib.hid hl1
      subst hck
      have HAC : Hid (∀ W gb, Sl W (some ⟨gb, 0, none⟩) (#[.slice (some ⟨b, off, none⟩) k c, .slice (some ⟨b, off, none⟩) 0 0] : Array Value).toList → OpSl W (some ⟨b, off, none⟩) l → Calls Tryz.prog 162 #[.slice (some ⟨gb, 0, none⟩) 2 2] W fun e w' => ∃ v, e = .returned v ∧ w'.ownsRow W.heap.size 112 4 v (cutAt l k).length (oes (cutAt l k)) ∧ Below W.heap.size W w') := fun W gb hS hs => by
        have h := oconcat2 (some ⟨b, off, none⟩) (some ⟨b, off, none⟩) (l.take k) (l.drop (k + 1)) c 0 k 0 W gb (by rw [List.length_take]; omega) (by have := HK1.out; have := HL1.out; rw [List.length_drop]; omega) hS (hs.take k) (by have := HK1.out; have := HL1.out; rw [List.drop_of_length_le (by omega)]; exact OpSl.nil _ _) (fun h => by cases h) (fun h => by cases h) (by have := HL1.out; rw [List.length_take, List.length_drop]; omega)
        exact h
      clear HR
      go_wp2_with fail
      go_region_held3 (fun W => W.cell? ⟨b, off + k * 4, none⟩ = some (.int .i64 l[k].n) ∧ W.cell? ⟨b, off + k * 4 + 1, none⟩ = some (.string l[k].u) ∧ W.cell? ⟨b, off + k * 4 + 2, none⟩ = some (.int .i64 l[k].s) ∧ W.cell? ⟨b, off + k * 4 + 3, none⟩ = some (.int .i64 l[k].f))
        (first | with_reducible exact HP0.out _ K1D | with_reducible exact HPS.out _ KA _ _ _ _ | with_reducible exact HPS.out _ KB _ _ _ _ | with_reducible exact HP0.out _ (K1D.below (below_one _ _)) | with_reducible exact HP0.out _ (K1.below (below_one _ _).drew) | with_reducible exact HP0.out _ KA | with_reducible exact HP0.out _ KB | with_reducible exact HP0.out _ (KB.below (below_one _ _)) | with_reducible exact HP0.out _ (KB.below (below_one _ _).drew))
        (first | (go_at_call 162; (first | (with_reducible refine (HAC.out _ _ HSL KB.row).mono ?_; rintro r w5 ⟨v, rfl, ho5, hb5⟩; have KA := KB.below hb5) | (with_reducible refine (HAC.out _ _ (sl_lit _ _ _) (KB.row.below (below_one _ _))).mono ?_; rintro r w5 ⟨v, rfl, ho5, hb5⟩; have KA := (KB.below (below_one _ _)).below hb5) | (with_reducible refine (HAC.out _ _ (sl_drewO _ _ _) (K1.row.below (below_one _ _).drew)).mono ?_; rintro r w5 ⟨v, rfl, ho5, hb5⟩; have KA := (K1.below (below_one _ _).drew).below hb5)); have HO5 := Lib.hid ho5; have HGV := Lib.hid (KA.zb.ge); obtain ⟨z0, z1, z2, z3⟩ := KA.zb.cells; obtain ⟨y0, y1, y2, y3⟩ := KA.zb.free; have hgl := KA.zb.lt) | (go_at_call 148; refine (HST.out _).mono ?_; rintro r w4 ⟨rfl, hb4⟩; (first | (with_reducible have KB := KA.below hb4) | (with_reducible have KB := (K1.below (below_one _ _).drew).below hb4; have HSL := (sl_drewO _ _ _).below hb4) | (with_reducible have KB := K1D.below hb4)); obtain ⟨z0, z1, z2, z3⟩ := KB.zb.cells; obtain ⟨y0, y1, y2, y3⟩ := KB.zb.free; have hgl := KB.zb.lt))
      have HL := Lib.hid (HLO.out _ KB)
      have HGO := Lib.hid (HGF.out w4 v _ (own_below HO5.out hb4) (by show g < (w1.alloc _).heap.size; rw [size1]; have := K1.zb.lt; omega) KB)
      clear HLO HGF HPS HP0 KA KB K1 K1D ho5 hb5 hb4 HO5 HAC
      go_wp2
      refine bodyPost_ret (v := .tuple #[v, .agg #[.int .i64 l[k].f, .int .i64 t, .int .i64 l[k].n, .int .i64 l[k].s], .int .i64 0]) ?_ rfl ⟨_, rfl, HGO.out⟩
      rw [results_tmp_cell_tmp rfl]
      simp [asAddr, Result.andThen, HL.out]
    · have hck2 : k1 < c := by omega
      have HAC : Hid (∀ W gb, Sl W (some ⟨gb, 0, none⟩) (#[.slice (some ⟨b, off, none⟩) k c, .slice (some ⟨b, off + k1 * 4, none⟩) (l.length - k1) (c - k1)] : Array Value).toList → OpSl W (some ⟨b, off, none⟩) l → Calls Tryz.prog 162 #[.slice (some ⟨gb, 0, none⟩) 2 2] W fun e w' => ∃ v, e = .returned v ∧ w'.ownsRow W.heap.size 112 4 v (cutAt l k).length (oes (cutAt l k)) ∧ Below W.heap.size W w') := fun W gb hS hs => oconcat2 (some ⟨b, off, none⟩) (some ⟨b, off + k1 * 4, none⟩) (l.take k) (l.drop (k + 1)) c (c - k1) k (l.length - k1) W gb (by rw [List.length_take]; omega) (by have := HK1.out; rw [List.length_drop]; omega) hS (hs.take k) (by rw [HK1.out]; exact hs.drop (k + 1)) (fun h => by cases h) (fun h => by cases h) (by rw [List.length_take, List.length_drop]; omega)
      clear HR
      go_wp2_with fail
      go_region_held3 (fun W => W.cell? ⟨b, off + k * 4, none⟩ = some (.int .i64 l[k].n) ∧ W.cell? ⟨b, off + k * 4 + 1, none⟩ = some (.string l[k].u) ∧ W.cell? ⟨b, off + k * 4 + 2, none⟩ = some (.int .i64 l[k].s) ∧ W.cell? ⟨b, off + k * 4 + 3, none⟩ = some (.int .i64 l[k].f))
        (first | with_reducible exact HP0.out _ K1D | with_reducible exact HPS.out _ KA _ _ _ _ | with_reducible exact HPS.out _ KB _ _ _ _ | with_reducible exact HP0.out _ (K1D.below (below_one _ _)) | with_reducible exact HP0.out _ (K1.below (below_one _ _).drew) | with_reducible exact HP0.out _ KA | with_reducible exact HP0.out _ KB | with_reducible exact HP0.out _ (KB.below (below_one _ _)) | with_reducible exact HP0.out _ (KB.below (below_one _ _).drew))
        (first | (go_at_call 162; (first | (with_reducible refine (HAC.out _ _ HSL KB.row).mono ?_; rintro r w5 ⟨v, rfl, ho5, hb5⟩; have KA := KB.below hb5) | (with_reducible refine (HAC.out _ _ (sl_lit _ _ _) (KB.row.below (below_one _ _))).mono ?_; rintro r w5 ⟨v, rfl, ho5, hb5⟩; have KA := (KB.below (below_one _ _)).below hb5) | (with_reducible refine (HAC.out _ _ (sl_drewO _ _ _) (K1.row.below (below_one _ _).drew)).mono ?_; rintro r w5 ⟨v, rfl, ho5, hb5⟩; have KA := (K1.below (below_one _ _).drew).below hb5)); have HO5 := Lib.hid ho5; have HGV := Lib.hid (KA.zb.ge); obtain ⟨z0, z1, z2, z3⟩ := KA.zb.cells; obtain ⟨y0, y1, y2, y3⟩ := KA.zb.free; have hgl := KA.zb.lt) | (go_at_call 148; refine (HST.out _).mono ?_; rintro r w4 ⟨rfl, hb4⟩; (first | (with_reducible have KB := KA.below hb4) | (with_reducible have KB := (K1.below (below_one _ _).drew).below hb4; have HSL := (sl_drewO _ _ _).below hb4) | (with_reducible have KB := K1D.below hb4)); obtain ⟨z0, z1, z2, z3⟩ := KB.zb.cells; obtain ⟨y0, y1, y2, y3⟩ := KB.zb.free; have hgl := KB.zb.lt))
      have HL := Lib.hid (HLO.out _ KB)
      have HGO := Lib.hid (HGF.out w4 v _ (own_below HO5.out hb4) (by show g < (w1.alloc _).heap.size; rw [size1]; have := K1.zb.lt; omega) KB)
      clear HLO HGF HPS HP0 KA KB K1 K1D ho5 hb5 hb4 HO5 HAC
      go_wp2
      refine bodyPost_ret (v := .tuple #[v, .agg #[.int .i64 l[k].f, .int .i64 t, .int .i64 l[k].n, .int .i64 l[k].s], .int .i64 0]) ?_ rfl ⟨_, rfl, HGO.out⟩
      rw [results_tmp_cell_tmp rfl]
      simp [asAddr, Result.andThen, HL.out]
  · rw [hp] at HF
    have hne : ¬ findC l n u = 0 := by rcases hc0 with h | h <;> rw [h] <;> decide
    rw [if_neg hne] at hCR hFS
    rw [hCR, hFS]
    have d1 : (findC l n u != 0) = true := by rcases hc0 with h | h <;> rw [h] <;> rfl
    generalize findC l n u = C at *
    unfold stV stZ
    dsimp only
    clear hCR hFS hc0 he hp hne
    go_enter Tryz.func140, Tryz.ntmps140
    go_wp2_with fail
    refine (HF.out _ (HR.out.below HZ.out.frame)).mono ?_
    rintro e w1 ⟨rfl, hB⟩
    have K1 := HZ.out.below hB
    have HL := Lib.hid (K1.loadS (.int .i64 0) (.int .i64 0) (.int .i64 0) (.int .i64 0))
    have HS := Lib.hid (K1.set (.int .i64 0) (.int .i64 0) (.int .i64 0) (.int .i64 0))
    obtain ⟨z0, z1, z2, z3⟩ := K1.cells
    obtain ⟨f0, f1, f2, f3⟩ := K1.free
    have hgl := K1.lt
    unfold setO at HL HS
    clear HF hB K1
    go_wp2
    refine bodyPost_ret (v := .tuple #[.slice none 0 0, .agg #[.int .i64 0, .int .i64 0, .int .i64 0, .int .i64 0], .int .i64 C]) ?_ rfl ⟨_, rfl, GotO.nil HS.out, fun b o q n e => by cases e⟩
    rw [results_tmp_cell_tmp rfl]
    simp [asAddr, Result.andThen, HL.out]
theorem close_any (a : Option Addr) (c : Nat) (l : List OpM) (n : Int) (u : ByteArray) (t : Int) (w : World) (hr : OpSl w a l) (hl : l.length ≤ 500) (hc : l.length ≤ c) (hcm : c ≤ maxLen) :
    Calls Tryz.prog 140 #[.slice a l.length c, .int .i64 n, .string u, .int .i64 t] w fun e w' => ∃ v, e = .returned (.tuple #[v, stV (fndS l n u t), .int .i64 (findC l n u)]) ∧ GotO w w' (cloR l n u) v :=
  (close_more a c l n u t w hr hl hc hcm).mono fun e w' ⟨v, h1, h2⟩ => ⟨v, h1, h2.1⟩
end Go.Proofs.YtjhdhfokhkcamaaGreat
