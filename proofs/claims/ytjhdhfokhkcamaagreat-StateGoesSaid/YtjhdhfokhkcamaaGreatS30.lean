/- Texts of mine, one behind the other, of each what is wanted. -/
import Derived.Test.YtjhdhfokhkcamaaGreatS00
import Derived.Test.YtjhdhfokhkcamaaGreatShelf
import Derived.Test.YtjhdhfokhkcamaaGreatS01
import Derived.Test.YtjhdhfokhkcamaaGreatS02
import Derived.Test.YtjhdhfokhkcamaaGreatS03
import Derived.Test.YtjhdhfokhkcamaaGreatS04
import Derived.Test.YtjhdhfokhkcamaaGreatS06
import Derived.Test.YtjhdhfokhkcamaaGreatS07
import Derived.Test.YtjhdhfokhkcamaaGreatS14
import Derived.Test.YtjhdhfokhkcamaaGreatS15
import Derived.Test.YtjhdhfokhkcamaaGreatS17
import Derived.Test.YtjhdhfokhkcamaaGreatS22
import Derived.Test.YtjhdhfokhkcamaaGreatS26
import Derived.Test.YtjhdhfokhkcamaaGreatS27
import Derived.Test.YtjhdhfokhkcamaaGreatS29
import Derived.Test.YtjhdhfokhkcamaaGreatTQ
namespace Go.Proofs.YtjhdhfokhkcamaaGreat
open Go.RowKit Go.Proofs
set_option linter.unusedVariables false
set_option maxRecDepth 100000
set_option maxRecDepth 100000
theorem idx_three {l : List OpM} {n : Int} {u : ByteArray} {k : Nat} (hk : k < l.length) (h : IsFst (hasN n) l k) : idxO (hasN n) l = k := idxO_hit h hk
theorem own_store4 {w : World} {B e n g cap : Nat} {l : List OpM} {k : Nat} (h : w.ownsRow B e 4 (.slice (some ⟨g, 0, none⟩) n cap) l.length (oes l)) (hk : k < l.length) (x : Int) (u : ByteArray) (s f : Int) (hn : l[k].n = x) (hu : l[k].u = u) :
  ((((w.setCell ⟨g, k * 4, none⟩ (.int .i64 x)).setCell ⟨g, k * 4 + 1, none⟩ (.string u)).setCell ⟨g, k * 4 + 2, none⟩ (.int .i64 s)).setCell ⟨g, k * 4 + 3, none⟩ (.int .i64 f)).ownsRow B e 4 (.slice (some ⟨g, 0, none⟩) n cap) (chgAt l k s f).length (oes (chgAt l k s f)) := by
 obtain ⟨rfl, -, -, -⟩ := own_opat h
 rw [← oes_set4 l k hk x u s f hn hu, chgAt_len]
 exact ((((h.stored _ _).1.stored _ _).1.stored _ _).1.stored _ _).1
set_option maxHeartbeats 4000000 in
theorem rchange_any (a : Option Addr) (c : Nat) (l : List OpM) (n : Int) (u : ByteArray) (s t : Int) (w : World) (hr : OpSl w a l) (hl : l.length ≤ 500) (hc : l.length ≤ c) (hcm : c ≤ maxLen) :
  Calls Tryz.prog 123 #[.slice a l.length c, .int .i64 n, .string u, .int .i64 s, .int .i64 t] w fun e w' => ∃ v, e = .returned (.tuple #[v, stV (fndS l n u t), .int .i64 (findC l n u)]) ∧ GotO w w' (chgR l n u s t) v := by
 obtain ⟨i0, hi, hz0, hz1, hz2⟩ := info_parts infoOpR
 have HF := Lib.hid (fun W (h : OpSl W a l) => rFind_any a c l n u W h (by omega))
 have HZ := Lib.hid (Zb.new w (.int .i64 0) (.int .i64 0) (.int .i64 0) (.int .i64 0) 135)
 have HR := Lib.hid hr
 have hCR : chgR l n u s t = if findC l n u = 0 then chgAt l (findP l n u) s t else [] := rfl
 have hFS : fndS l n u t = if findC l n u = 0 then stayO (findE l n u) t else stZ := rfl
 unfold maxLen at hcm
 clear hr
 rcases fc_three l n u with ⟨hc0, k, hk, hfst, hkn, hku, he, hp⟩ | ⟨hc0, he, hp⟩
 ·rw [hc0, he] at HF
  rw [hc0, if_pos rfl, hp] at hCR
  rw [hc0, if_pos rfl, he] at hFS
  rw [hc0, hCR, hFS]
  have HAT := Lib.hid (fun W (h : OpSl W a l) => rat_any a c l n W h (by omega))
  rw [idx_three (u := u) hk hfst] at HAT
  have HST := Lib.hid (fun W => rstay_any l[k] t W)
  unfold opV stV stayO at HST
  unfold opV at HF
  unfold stV stayO
  dsimp only at *
  have d1 : ((0 : Int) != 0) = false := rfl
  have HKN := Lib.hid hkn
  have HKU := Lib.hid hku
  obtain ⟨x, hx⟩ : ∃ x, x = l[k] := ⟨_, rfl⟩
  have HX := Lib.hid hx
  rw [← hx] at HF HST ⊢
  clear hCR hFS hc0 he hp hfst hkn hku hx
  go_enter Tryz.func123, Tryz.ntmps123
  go_wp2_with fail
  refine (HF.out _ (HR.out.below HZ.out.frame)).mono ?_
  rintro e w1 ⟨rfl, hB⟩
  have K1 := Lib.hid (HZ.out.below hB)
  have KX := Lib.hid (Zb.new w1 (.int .i64 x.n) (.string x.u) (.int .i64 x.s) (.int .i64 x.f) 75)
  clear hB HF HZ
  have hlt0 : 0 < l.length := by omega
  obtain ⟨b, off, rfl, -, -, -, -, -⟩ := (HR.out.below K1.out.frame).at_ hlt0
  have HO : Hid (((w1.alloc (.cells #[.int .i64 x.n, .string x.u, .int .i64 x.s, .int .i64 x.f] 75)).alloc (.cells #[] 75)).ownsRow (w1.heap.size + 1) 75 4 (.slice (some ⟨w1.heap.size + 1, 0, none⟩) 0 0) 0 []) := by
   have := own_emptyO (w1.alloc (.cells #[.int .i64 x.n, .string x.u, .int .i64 x.s, .int .i64 x.f] 75)) 75 4 (w1.alloc (.cells #[.int .i64 x.n, .string x.u, .int .i64 x.s, .int .i64 x.f] 75)).heap.size (Nat.le_refl _)
   rw [size1] at this
   exact this
  have HBE : Hid (Below (w1.heap.size + 1) (w1.alloc (.cells #[.int .i64 x.n, .string x.u, .int .i64 x.s, .int .i64 x.f] 75)) ((w1.alloc (.cells #[.int .i64 x.n, .string x.u, .int .i64 x.s, .int .i64 x.f] 75)).alloc (.cells #[] 75))) := by
   have := below_one (w1.alloc (.cells #[.int .i64 x.n, .string x.u, .int .i64 x.s, .int .i64 x.f] 75)) (.cells #[] 75)
   rw [size1] at this
   exact this
  have HX1 := Lib.hid ((HR.out.below K1.out.frame).below (below_two w1 (.cells #[.int .i64 x.n, .string x.u, .int .i64 x.s, .int .i64 x.f] 75) (.cells #[] 75)))
  have HSZ : Hid (w1.heap.size + 1 ≤ ((w1.alloc (.cells #[.int .i64 x.n, .string x.u, .int .i64 x.s, .int .i64 x.f] 75)).alloc (.cells #[] 75)).heap.size) := by unfold Hid; rw [size1, size1]; omega
  have HLT := Lib.hid K1.out.lt
  go_wp2_with (at_builtin; refine wpList_append_op _ rfl (.tmp 27) (.tmp 28) 22 rfl (w1.heap.size + 1) 75 i0 _ Tryz.underlying22 hi hz0 hz1 hz2 rfl _ [] rfl HO.out (some ⟨b, off, none⟩) c l rfl HX1.out (fun h => by cases h) (by simpa using (show l.length ≤ 1000000 by omega)) HSZ.out ?_; intro v2 w3 hown2 hB2)
  have hB3 : Below (w1.alloc (.cells #[.int .i64 x.n, .string x.u, .int .i64 x.s, .int .i64 x.f] 75)).heap.size (w1.alloc (.cells #[.int .i64 x.n, .string x.u, .int .i64 x.s, .int .i64 x.f] 75)) w3 := by
   rw [size1]
   exact HBE.out.trans hB2
  have K3 := Lib.hid ((K1.out.alloc (.cells #[.int .i64 x.n, .string x.u, .int .i64 x.s, .int .i64 x.f] 75)).below hB3)
  have KX3 := Lib.hid (KX.out.below hB3)
  rw [List.nil_append] at hown2
  obtain ⟨gr, cap, rfl, hge⟩ : ∃ gr cap, v2 = .slice (some ⟨gr, 0, none⟩) l.length cap ∧ w1.heap.size + 1 ≤ gr := by
   rcases hown2.2 with ⟨_, hn⟩ | ⟨g, cap, cur, h1, hg, _⟩
   ·omega
   ·exact ⟨g, cap, h1, hg⟩
  have HO3 := Lib.hid hown2
  have HGE := Lib.hid hge
  clear hown2 hB2 hB3 hge HO HBE HX1 HSZ KX K1
  refine (HAT.out _ (HR.out.below K3.out.frame)).mono ?_
  rintro e w4 ⟨rfl, hB⟩
  have ho4 := own_below HO3.out hB
  have K4 := Lib.hid (K3.out.below hB)
  have KX4 := Lib.hid (KX3.out.below hB)
  obtain ⟨⟨o0, o1, o2, o3⟩, of⟩ := own_opcell ho4 hk
  have f0 := of (k * 4)
  have f1 := of (k * 4 + 1)
  have f2 := of (k * 4 + 2)
  have f3 := of (k * 4 + 3)
  have hgrl : gr < w4.heap.size := (ho4.lt gr rfl).2
  have hb4 := Below.refl w4.heap.size w4
  have HS5 : Hid (w1.heap.size + 1 ≤ w4.heap.size) := by have h1 := HGE.out; unfold Hid; omega
  have HW5 : Hid (Below (w1.heap.size + 1) w4 ((((w4.setCell ⟨gr, k * 4, none⟩ (.int .i64 n)).setCell ⟨gr, k * 4 + 1, none⟩ (.string u)).setCell ⟨gr, k * 4 + 2, none⟩ (.int .i64 s)).setCell ⟨gr, k * 4 + 3, none⟩ (.int .i64 t))) :=
   ((((Below.refl (w1.heap.size + 1) w4).setCell (p := ⟨gr, k * 4, none⟩) HGE.out _).setCell (p := ⟨gr, k * 4 + 1, none⟩) HGE.out _).setCell (p := ⟨gr, k * 4 + 2, none⟩) HGE.out _).setCell (p := ⟨gr, k * 4 + 3, none⟩) HGE.out _
  have HO5 := Lib.hid (own_store4 ho4 hk n u s t HKN.out HKU.out)
  have HCAP := Lib.hid (own_opat ho4).2
  have q0 : ((((w4.setCell ⟨gr, k * 4, none⟩ (.int .i64 n)).setCell ⟨gr, k * 4 + 1, none⟩ (.string u)).setCell ⟨gr, k * 4 + 2, none⟩ (.int .i64 s)).setCell ⟨gr, k * 4 + 3, none⟩ (.int .i64 t)).cell? ⟨w1.heap.size, 0, none⟩ = some (.int .i64 x.n) := (HW5.out.cell (p := ⟨w1.heap.size, 0, none⟩) (by show w1.heap.size < w1.heap.size + 1; omega)).trans KX4.out.cells.1
  have q1 : ((((w4.setCell ⟨gr, k * 4, none⟩ (.int .i64 n)).setCell ⟨gr, k * 4 + 1, none⟩ (.string u)).setCell ⟨gr, k * 4 + 2, none⟩ (.int .i64 s)).setCell ⟨gr, k * 4 + 3, none⟩ (.int .i64 t)).cell? ⟨w1.heap.size, 1, none⟩ = some (.string x.u) := (HW5.out.cell (p := ⟨w1.heap.size, 1, none⟩) (by show w1.heap.size < w1.heap.size + 1; omega)).trans KX4.out.cells.2.1
  have q2 : ((((w4.setCell ⟨gr, k * 4, none⟩ (.int .i64 n)).setCell ⟨gr, k * 4 + 1, none⟩ (.string u)).setCell ⟨gr, k * 4 + 2, none⟩ (.int .i64 s)).setCell ⟨gr, k * 4 + 3, none⟩ (.int .i64 t)).cell? ⟨w1.heap.size, 2, none⟩ = some (.int .i64 x.s) := (HW5.out.cell (p := ⟨w1.heap.size, 2, none⟩) (by show w1.heap.size < w1.heap.size + 1; omega)).trans KX4.out.cells.2.2.1
  have q3 : ((((w4.setCell ⟨gr, k * 4, none⟩ (.int .i64 n)).setCell ⟨gr, k * 4 + 1, none⟩ (.string u)).setCell ⟨gr, k * 4 + 2, none⟩ (.int .i64 s)).setCell ⟨gr, k * 4 + 3, none⟩ (.int .i64 t)).cell? ⟨w1.heap.size, 3, none⟩ = some (.int .i64 x.f) := (HW5.out.cell (p := ⟨w1.heap.size, 3, none⟩) (by show w1.heap.size < w1.heap.size + 1; omega)).trans KX4.out.cells.2.2.2
  have K5 : Hid (Zb w w.heap.size (.int .i64 0) (.int .i64 0) (.int .i64 0) (.int .i64 0) 135 ((((w4.setCell ⟨gr, k * 4, none⟩ (.int .i64 n)).setCell ⟨gr, k * 4 + 1, none⟩ (.string u)).setCell ⟨gr, k * 4 + 2, none⟩ (.int .i64 s)).setCell ⟨gr, k * 4 + 3, none⟩ (.int .i64 t))) :=
   ⟨(HW5.out.block w.heap.size (by have := HLT.out; omega)).trans K4.out.blk, Nat.le_refl _, K4.out.frame.trans (HW5.out.mono (by have := HLT.out; omega))⟩
  clear of ho4 hB HO3 K3 KX3 HAT K4 KX4
  go_wp2_with fail
  refine (HST.out _).mono ?_
  rintro e w6 ⟨rfl, hB6⟩
  have K6 := K5.out.below hB6
  obtain ⟨z0, z1, z2, z3⟩ := K6.cells
  obtain ⟨y0, y1, y2, y3⟩ := K6.free
  have hgl := K6.lt
  have HL := Lib.hid (K6.loadT (.int .i64 x.f) (.int .i64 t) (.int .i64 x.n) (.int .i64 x.s))
  have HSB := Lib.hid (K6.set (.int .i64 x.f) (.int .i64 t) (.int .i64 x.n) (.int .i64 x.s))
  have HLEN := Lib.hid (chgAt_len l k s t)
  have HSL := Lib.hid ((own_opat (own_below HO5.out hB6)).2.2.2.setO w.heap.size (.int .i64 x.f) (.int .i64 t) (.int .i64 x.n) (.int .i64 x.s) (fun b o e => by cases e; have h1 := HGE.out; have h2 := HLT.out; omega))
  unfold setO at HL HSB HSL
  clear HO5 hB6 K6 HST K5 q0 q1 q2 q3 HW5 HR o0 o1 o2 o3 f0 f1 f2 f3
  go_wp2
  refine bodyPost_ret (v := .tuple #[.slice (some ⟨gr, 0, none⟩) l.length cap, .agg #[.int .i64 x.f, .int .i64 t, .int .i64 x.n, .int .i64 x.s], .int .i64 0]) ?_ rfl ⟨_, rfl, GotO.at_ HLEN.out.symm (by rw [HLEN.out]; exact HCAP.out.1) HCAP.out.2.1 HSL.out HSB.out⟩
  rw [results_tmp_cell_tmp rfl]
  simp [asAddr, Result.andThen, HL.out]
 ·rw [he] at HF
  have hne : ¬ findC l n u = 0 := by rcases hc0 with h | h <;> rw [h] <;> decide
  rw [if_neg hne] at hCR hFS
  rw [hCR, hFS]
  have d1 : (findC l n u != 0) = true := by rcases hc0 with h | h <;> rw [h] <;> rfl
  generalize findC l n u = C at *
  unfold stV stZ
  unfold opV opZ at HF
  dsimp only at *
  clear hCR hFS hc0 he hp hne
  go_enter Tryz.func123, Tryz.ntmps123
  go_wp2_with fail
  refine (HF.out _ (HR.out.below HZ.out.frame)).mono ?_
  rintro e w1 ⟨rfl, hB⟩
  have K1 := HZ.out.below hB
  have K2 := K1.alloc (.cells #[.int .i64 0, .string ⟨#[]⟩, .int .i64 0, .int .i64 0] 75)
  have HL := Lib.hid (K2.loadT (.int .i64 0) (.int .i64 0) (.int .i64 0) (.int .i64 0))
  have HS := Lib.hid (K2.set (.int .i64 0) (.int .i64 0) (.int .i64 0) (.int .i64 0))
  obtain ⟨z0, z1, z2, z3⟩ := K2.cells
  obtain ⟨f0, f1, f2, f3⟩ := K2.free
  have hgl := K2.lt
  unfold setO at HL HS
  clear HF hB K1 K2
  go_wp2
  refine bodyPost_ret (v := .tuple #[.slice none 0 0, .agg #[.int .i64 0, .int .i64 0, .int .i64 0, .int .i64 0], .int .i64 C]) ?_ rfl ⟨_, rfl, GotO.nil HS.out⟩
  rw [results_tmp_cell_tmp rfl]
  simp [asAddr, Result.andThen, HL.out]
theorem ocut_snoc (m : List OpM) (x : OpM) (k : Nat) : cutAt (m ++ [x]) k = if m.length = k then cutAt m k else cutAt m k ++ [x] := by
 unfold cutAt
 rw [List.take_append, List.drop_append]
 rcases Nat.lt_trichotomy m.length k with h | h | h
 ·rw [if_neg (by omega), List.take_of_length_le (show [x].length ≤ k - m.length by simp; omega), List.drop_of_length_le (show [x].length ≤ k + 1 - m.length by simp; omega), List.drop_of_length_le (show m.length ≤ k + 1 by omega)]
  simp
 ·rw [if_pos h]
  have e1 : k - m.length = 0 := by omega
  rw [e1, List.drop_of_length_le (show [x].length ≤ k + 1 - m.length by simp; omega), List.drop_of_length_le (show m.length ≤ k + 1 by omega)]
  simp
 ·rw [if_neg (by omega)]
  have e1 : k - m.length = 0 := by omega
  have e2 : k + 1 - m.length = 0 := by omega
  rw [e1, e2]
  simp
theorem cut_next (l : List OpM) (k j : Nat) (h : j < l.length) : cutAt (l.take (j + 1)) k = if j = k then cutAt (l.take j) k else cutAt (l.take j) k ++ [l[j]] := by
 have hl : (l.take j).length = j := by rw [List.length_take]; omega
 rw [List.take_succ_eq_append_getElem h, ocut_snoc, hl]
theorem cut_tlen (l : List OpM) (k j : Nat) : (cutAt (l.take j) k).length ≤ j := by
 have h1 := cutAt_len (l.take j) k
 have h2 : (l.take j).length ≤ j := by simp; omega
 omega
set_option maxHeartbeats 4000000 in
theorem rclose_any (a : Option Addr) (c : Nat) (l : List OpM) (n : Int) (u : ByteArray) (t : Int) (w : World) (hr : OpSl w a l) (hl : l.length ≤ 500) :
  Calls Tryz.prog 122 #[.slice a l.length c, .int .i64 n, .string u, .int .i64 t] w fun e w' => ∃ v, e = .returned (.tuple #[v, stV (fndS l n u t), .int .i64 (findC l n u)]) ∧ GotO w w' (cloR l n u) v := by
 obtain ⟨i0, hi, hz0, hz1, hz2⟩ := info_parts infoOpR
 have HF := Lib.hid (fun W (h : OpSl W a l) => rFind_any a c l n u W h (by omega))
 have HZ := Lib.hid (Zb.new w (.int .i64 0) (.int .i64 0) (.int .i64 0) (.int .i64 0) 135)
 have HR := Lib.hid hr
 have hCR : cloR l n u = if findC l n u = 0 then cutAt l (findP l n u) else [] := rfl
 have hFS : fndS l n u t = if findC l n u = 0 then stayO (findE l n u) t else stZ := rfl
 clear hr
 rcases fc_three l n u with ⟨hc0, k, hk, hfst, -, -, he, hp⟩ | ⟨hc0, he, hp⟩
 ·rw [hc0, he] at HF
  rw [hc0, if_pos rfl, hp] at hCR
  rw [hc0, if_pos rfl, he] at hFS
  rw [hc0, hCR, hFS]
  have HAT := Lib.hid (fun W (h : OpSl W a l) => rat_any a c l n W h (by omega))
  rw [idx_three (u := u) hk hfst] at HAT
  have HST := Lib.hid (fun W => rstay_any l[k] t W)
  unfold opV stV stayO at HST
  unfold opV at HF
  unfold stV stayO
  dsimp only at *
  have d1 : ((0 : Int) != 0) = false := rfl
  obtain ⟨x, hx⟩ : ∃ x, x = l[k] := ⟨_, rfl⟩
  rw [← hx] at HF HST ⊢
  clear hCR hFS hc0 he hp hfst hx
  have HLK := Lib.hid hk
  clear hk
  go_enter Tryz.func122, Tryz.ntmps122
  go_wp2_with fail
  refine (HF.out _ (HR.out.below HZ.out.frame)).mono ?_
  rintro e w1 ⟨rfl, hB⟩
  have K1 := HZ.out.below hB
  have KX := Zb.new w1 (.int .i64 x.n) (.string x.u) (.int .i64 x.s) (.int .i64 x.f) 75
  have K2 := K1.alloc (.cells #[.int .i64 x.n, .string x.u, .int .i64 x.s, .int .i64 x.f] 75)
  have HRW := HR.out.below K2.frame
  clear hB HF HZ K1 HR
  go_wp2
  generalize w1.alloc (.cells #[.int .i64 x.n, .string x.u, .int .i64 x.s, .int .i64 x.f] 75) = W2 at *
  generalize w1.heap.size = g1 at *
  have HGL := Lib.hid K2.lt
  have HKX := Lib.hid KX.blk
  have HK2 := Lib.hid K2
  have HRW2 := Lib.hid HRW
  clear K2 KX HRW
  go_loopw [13, 14] (fun v i wr => ∃ (j : Nat), j ≤ l.length ∧ i = .int .i64 j ∧ Hid (wr.ownsRow W2.heap.size 75 4 v (cutAt (l.take j) k).length (oes (cutAt (l.take j) k))) ∧ Hid (Below W2.heap.size W2 wr)) (fun _ i _ => l.length - (intOf i).toNat)
  case atStart => exact ⟨0, by omega, rfl, (by unfold Hid cutAt; rw [List.take_zero, List.take_nil, List.drop_nil]; exact ⟨rfl, .inl ⟨rfl, rfl⟩⟩), Below.refl _ _⟩
  case round =>
   obtain ⟨j, hj, rfl, HO, HB⟩ := hrel
   by_cases hjl : j < l.length
   ·have HN := Lib.hid (cut_next l k j hjl)
    have HLN := Lib.hid (cut_tlen l k j)
    obtain ⟨b, off, rfl, -, -, -, -, -⟩ := HRW2.out.at_ hjl
    generalize cutAt (l.take j) k = m at *
    by_cases hjk : j = k
    ·have HN2 : Hid (cutAt (l.take (j + 1)) k = m) := by
      have := HN.out
      rwa [if_pos hjk] at this
     have q1 : ((j : Int) != (k : Int)) = false := by rw [hjk]; simp
     have q2 : ((j : Int) == (k : Int)) = true := by rw [hjk]; simp
     clear HN hjk HST HLN
     go_wp2_with fail
     refine (HAT.out _ (HRW2.out.below HB.out)).mono ?_
     rintro e w3 ⟨rfl, hB⟩
     have HO3 := Lib.hid (own_below HO.out hB)
     have HB3 := Lib.hid (HB.out.trans (hB.mono HB.out.size))
     clear hB HAT
     go_wp2
     go_roundw
     case rel => exact ⟨j + 1, by omega, by go_num, (by unfold Hid; rw [HN2.out]; exact HO3.out), HB3.out⟩
     case measure => simp [intOf]; omega
    ·have HN2 : Hid (cutAt (l.take (j + 1)) k = m ++ [l[j]]) := by
      have := HN.out
      rwa [if_neg hjk] at this
     have q1 : ((j : Int) != (k : Int)) = true := by simp; omega
     have q2 : ((j : Int) == (k : Int)) = false := beq_eq_false_iff_ne.2 (by omega)
     clear HN hjk HST
     go_wp2_with fail
     refine (HAT.out _ (HRW2.out.below HB.out)).mono ?_
     rintro e w3 ⟨rfl, hB⟩
     have hB3 := HB.out.trans (hB.mono HB.out.size)
     obtain ⟨_, _, e0, hbl, hc0, hc1, hc2, hc3⟩ := (HRW2.out.below hB3).at_ hjl
     cases e0
     generalize l[j] = y at *
     have HO3 := Lib.hid (own_below HO.out (hB.trans ((below_one w3 (.cells #[.int .i64 y.n, .string y.u, .int .i64 y.s, .int .i64 y.f] 75)).mono hB.size)))
     have HB3 : Hid (Below W2.heap.size W2 (w3.alloc (.cells #[.int .i64 y.n, .string y.u, .int .i64 y.s, .int .i64 y.f] 75))) := hB3.trans ((below_one w3 _).mono hB3.size)
     have HS3 := Lib.hid HB3.out.size
     have hlm := HLN.out
     clear hB HAT hB3
     go_wp2_with (at_builtin; refine wpList_append_own _ rfl (.tmp 37) (.tmp 42) 22 rfl W2.heap.size 75 i0 _ 4 40 Tryz.underlying22 hi hz0 hz1 hz2 rfl (by decide) _ _ _ rfl HO3.out ⟨w3.heap.size, 0, none⟩ 1 1 [.int .i64 y.n, .string y.u, .int .i64 y.s, .int .i64 y.f] rfl rfl (news_at _ _ _ _ rfl) (four_o _ _ _ _) (by unfold maxLen; omega) (by omega) HS3.out ?_; intro v' w5 hown' hgrow hiff)
     have HB5 := Lib.hid (app_below HB3.out HS3.out HO3.out hgrow)
     have HO5 := Lib.hid hown'
     clear hown' hgrow hiff HB3 HS3 HO3
     go_wp2
     go_roundw
     case rel => exact ⟨j + 1, by omega, by go_num, (by unfold Hid; rw [HN2.out, List.length_append, oes_snoc]; exact HO5.out), HB5⟩
     case measure => simp [intOf]; omega
   ·obtain rfl : j = l.length := by omega
    rw [List.take_of_length_le (Nat.le_refl _)] at HO
    have KE := Lib.hid (HK2.out.below HB.out)
    have hx := (HB.out.block _ (heap_lt HKX.out)).trans HKX.out
    obtain ⟨c0, c1, c2, c3⟩ := cells4 hx
    clear hx HAT
    go_wp2_with fail
    refine (HST.out _).mono ?_
    rintro e w6 ⟨rfl, hB6⟩
    have K6 := KE.out.below hB6
    obtain ⟨z0, z1, z2, z3⟩ := K6.cells
    obtain ⟨y0, y1, y2, y3⟩ := K6.free
    have hgl := K6.lt
    have HL := Lib.hid (K6.loadT (.int .i64 x.f) (.int .i64 t) (.int .i64 x.n) (.int .i64 x.s))
    have hgo := GotO.far (own_below HO.out hB6) HGL.out (.int .i64 x.f) (.int .i64 t) (.int .i64 x.n) (.int .i64 x.s) (K6.set (.int .i64 x.f) (.int .i64 t) (.int .i64 x.n) (.int .i64 x.s))
    have HGO := Lib.hid hgo
    unfold setO at HL HGO
    clear hgo hB6 K6 HST KE c0 c1 c2 c3
    go_wp2
    refine bodyPost_ret (v := .tuple #[_, .agg #[.int .i64 x.f, .int .i64 t, .int .i64 x.n, .int .i64 x.s], .int .i64 0]) ?_ rfl ⟨_, rfl, HGO.out⟩
    rw [results_tmp_cell_tmp rfl]
    simp [asAddr, Result.andThen, HL.out]
 ·rw [he] at HF
  have hne : ¬ findC l n u = 0 := by rcases hc0 with h | h <;> rw [h] <;> decide
  rw [if_neg hne] at hCR hFS
  rw [hCR, hFS]
  have d1 : (findC l n u != 0) = true := by rcases hc0 with h | h <;> rw [h] <;> rfl
  generalize findC l n u = C at *
  unfold stV stZ
  unfold opV opZ at HF
  dsimp only at *
  clear hCR hFS hc0 he hp hne
  go_enter Tryz.func122, Tryz.ntmps122
  go_wp2_with fail
  refine (HF.out _ (HR.out.below HZ.out.frame)).mono ?_
  rintro e w1 ⟨rfl, hB⟩
  have K1 := HZ.out.below hB
  have K2 := K1.alloc (.cells #[.int .i64 0, .string ⟨#[]⟩, .int .i64 0, .int .i64 0] 75)
  have HL := Lib.hid (K2.loadT (.int .i64 0) (.int .i64 0) (.int .i64 0) (.int .i64 0))
  have HS := Lib.hid (K2.set (.int .i64 0) (.int .i64 0) (.int .i64 0) (.int .i64 0))
  obtain ⟨z0, z1, z2, z3⟩ := K2.cells
  obtain ⟨f0, f1, f2, f3⟩ := K2.free
  have hgl := K2.lt
  unfold setO at HL HS
  clear HF hB K1 K2
  go_wp2
  refine bodyPost_ret (v := .tuple #[.slice none 0 0, .agg #[.int .i64 0, .int .i64 0, .int .i64 0, .int .i64 0], .int .i64 C]) ?_ rfl ⟨_, rfl, GotO.nil HS.out⟩
  rw [results_tmp_cell_tmp rfl]
  simp [asAddr, Result.andThen, HL.out]
end Go.Proofs.YtjhdhfokhkcamaaGreat
namespace Go.Proofs.YtjhdhfokhkcamaaGreat
open Go.RowKit
set_option linter.unusedVariables false
set_option maxRecDepth 100000
set_option maxRecDepth 100000
theorem o_rwithout (a : Option Addr) (c : Nat) (l : List OpM) (s : ByteArray) (W : World) (h : OpSl W a l) (hl : l.length ≤ 1000) : Calls Tryz.prog 50 #[.slice a l.length c, .string s] W fun e w' => ∃ x q, e = .returned (.slice x (l.filter (notU s)).length q) ∧ (l.filter (notU s)).length ≤ q ∧ q ≤ maxLen ∧ (x = none → q = 0) ∧ OpSl w' x (l.filter (notU s)) ∧ Below W.heap.size W w' := by
 refine (orwithout_any a c l s W h (by omega)).mono ?_
 rintro e w' ⟨v, rfl, ho, hb⟩
 obtain ⟨x, q, rfl, h1, h2, h3, h4⟩ := own_op ho
 exact ⟨x, q, rfl, h1, h2, h4, h3, hb⟩
theorem o_ropen (a : Option Addr) (c : Nat) (l : List OpM) (e0 : OpM) (W : World) (h : OpSl W a l) (hn : a = none → c = 0) (hl : l.length ≤ 500) (hc : l.length ≤ c) (hcm : c ≤ maxLen) : Calls Tryz.prog 121 #[.slice a l.length c, .agg #[.int .i64 e0.n, .string e0.u, .int .i64 e0.s, .int .i64 e0.f]] W fun e w' => ∃ x q, e = .returned (.tuple #[.slice x (openR l e0).length q, .int .i64 (openC l e0)]) ∧ (openR l e0).length ≤ q ∧ q ≤ maxLen ∧ (x = none → q = 0) ∧ OpSl w' x (openR l e0) ∧ Below W.heap.size W w' := by
 refine (ropen_any a c l e0 W h hn hl hc hcm).mono ?_
 rintro e w' ⟨v, rfl, x, q, rfl, h1, h2, h3, h4, h5⟩
 exact ⟨x, q, rfl, h1, h2, h3, h4, h5⟩
theorem o_rchange (a : Option Addr) (c : Nat) (l : List OpM) (n : Int) (u : ByteArray) (s t : Int) (W : World) (h : OpSl W a l) (hl : l.length ≤ 500) (hc : l.length ≤ c) (hcm : c ≤ maxLen) : Calls Tryz.prog 123 #[.slice a l.length c, .int .i64 n, .string u, .int .i64 s, .int .i64 t] W fun e w' => ∃ x q, e = .returned (.tuple #[.slice x (chgR l n u s t).length q, .agg #[.int .i64 (fndS l n u t).f, .int .i64 (fndS l n u t).t, .int .i64 (fndS l n u t).n, .int .i64 (fndS l n u t).s], .int .i64 (findC l n u)]) ∧ (chgR l n u s t).length ≤ q ∧ q ≤ maxLen ∧ (x = none → q = 0) ∧ OpSl w' x (chgR l n u s t) ∧ Below W.heap.size W w' := by
 refine (rchange_any a c l n u s t W h hl hc hcm).mono ?_
 rintro e w' ⟨v, rfl, x, q, rfl, h1, h2, h3, h4, h5⟩
 exact ⟨x, q, rfl, h1, h2, h3, h4, h5⟩
theorem o_rclose (a : Option Addr) (c : Nat) (l : List OpM) (n : Int) (u : ByteArray) (t : Int) (W : World) (h : OpSl W a l) (hl : l.length ≤ 500) : Calls Tryz.prog 122 #[.slice a l.length c, .int .i64 n, .string u, .int .i64 t] W fun e w' => ∃ x q, e = .returned (.tuple #[.slice x (cloR l n u).length q, .agg #[.int .i64 (fndS l n u t).f, .int .i64 (fndS l n u t).t, .int .i64 (fndS l n u t).n, .int .i64 (fndS l n u t).s], .int .i64 (findC l n u)]) ∧ (cloR l n u).length ≤ q ∧ q ≤ maxLen ∧ (x = none → q = 0) ∧ OpSl w' x (cloR l n u) ∧ Below W.heap.size W w' := by
 refine (rclose_any a c l n u t W h hl).mono ?_
 rintro e w' ⟨v, rfl, x, q, rfl, h1, h2, h3, h4, h5⟩
 exact ⟨x, q, rfl, h1, h2, h3, h4, h5⟩
set_option maxHeartbeats 1000000 in
theorem of_any (e : EnM) (w u : ByteArray) (W : World) :
  Calls Tryz.prog 176 #[enV e, pr w u] W fun r w' => r = .returned (.bool (ofE w u e)) ∧ Below W.heap.size W w' := by
 have HB := Lib.hid (below_2 W)
 unfold enV pr
 obtain ⟨ew, eu, ef, et⟩ := e
 have HF : Hid (∀ b : Bool, (b = true ↔ ew = w ∧ eu = u) → b = ofE w u ⟨ew, eu, ef, et⟩) := fun b hb => by
  have h1 := ofE_iff (w := w) (u := u) (e := ⟨ew, eu, ef, et⟩)
  cases hc : ofE w u ⟨ew, eu, ef, et⟩ with
  | true => rw [hc] at h1; exact hb.2 (h1.1 rfl)
  | false =>
   rw [hc] at h1
   cases b with
   | false => rfl
   | true => exact absurd (h1.2 (hb.1 rfl)) Bool.false_ne_true
 dsimp only
 by_cases h0 : ew = w
 ·subst h0
  have e0 := str_eq ew
  by_cases h1 : eu = u
  ·subst h1
   have e1 := str_eq eu
   have HE := Lib.hid (HF.out true ⟨fun _ => ⟨rfl, rfl⟩, fun _ => rfl⟩)
   clear HF
   go_enter Tryz.func176, Tryz.ntmps176
   go_wp2
   go_ret
   exact ⟨retB HE.out, HB.out _ _⟩
  ·have e1 := str_ne h1
   have HE := Lib.hid (HF.out false ⟨fun h => (by cases h), fun h => absurd h.2 h1⟩)
   clear HF h1
   go_enter Tryz.func176, Tryz.ntmps176
   go_wp2
   go_ret
   exact ⟨retB HE.out, HB.out _ _⟩
 ·have e0 := str_ne h0
  have HE := Lib.hid (HF.out false ⟨fun h => (by cases h), fun h => absurd h.1 h0⟩)
  clear HF h0
  go_enter Tryz.func176, Tryz.ntmps176
  go_wp2
  go_ret
  exact ⟨retB HE.out, HB.out _ _⟩
theorem PK.cells {w W : World} {g : Nat} {p u : ByteArray} {b off : Nat} {l : List EnM} (h : PK w g p u (some ⟨b, off, none⟩) l W) {k : Nat} (hk : k < l.length) :
  W.cell? ⟨g, 0, none⟩ = some (.string p) ∧ W.cell? ⟨g, 1, none⟩ = some (.string u) ∧ W.cell? ⟨b, off + k * 4, none⟩ = some (.string l[k].w) ∧ W.cell? ⟨b, off + k * 4 + 1, none⟩ = some (.string l[k].u) ∧ W.cell? ⟨b, off + k * 4 + 2, none⟩ = some (.int .i64 l[k].f) ∧ W.cell? ⟨b, off + k * 4 + 3, none⟩ = some (.int .i64 l[k].t) := by
 obtain ⟨_, _, e, _, h0, h1, h2, h3⟩ := h.row.at_ hk
 cases e
 exact ⟨h.pc.1, h.pc.2.1, h0, h1, h2, h3⟩
set_option maxHeartbeats 4000000 in
theorem force_any (a : Option Addr) (c : Nat) (l : List EnM) (p u : ByteArray) (w : World) (hr : EnSl w a l) (hl : l.length ≤ 1000000) :
  Calls Tryz.prog 124 #[.slice a l.length c, pr p u] w fun r w' => r = .returned (.int .i64 (idxI (infE p u) l)) ∧ Below w.heap.size w w' := by
 have K0 := Lib.hid (PK.new hr p u 96)
 have HC := Lib.hid (fun e W => of_any e p u W)
 unfold enV pr at HC
 unfold pr
 clear hr
 go_enter Tryz.func124, Tryz.ntmps124
 go_wp2
 generalize w.heap.size = g at *
 go_loopw [5] (fun i wr => ∃ (j : Nat), j ≤ l.length ∧ i = .int .i64 j ∧ Hid (LowTo (infE p u) l j) ∧ Hid (PK w g p u a l wr)) (fun i _ => l.length - (intOf i).toNat)
 case atStart => exact ⟨0, by omega, rfl, fun k _ h => absurd h (by omega), K0.out⟩
 case round =>
  obtain ⟨j, hj, rfl, HO, HK⟩ := hrel
  by_cases hjl : j < l.length
  ·obtain ⟨b, off, rfl, -, -, -, -, -⟩ := HK.out.row.at_ hjl
   have HNX := Lib.hid (HO.out.next hjl)
   have HHT := Lib.hid (HO.out.hit hjl)
   have HSC := Lib.hid (fun W (h : PK w g p u (some ⟨b, off, none⟩) l W) => h.cells hjl)
   generalize l[j] = x at *
   have K1 := HK.out.below (Below.refl _ _).drew
   cases hb : ofE p u x with
   | false =>
    have HN := Lib.hid (HNX.out (by unfold infE; rw [hb]; rfl))
    have HCC := Lib.hid (HC.out x)
    rw [hb] at HCC
    clear HNX HHT hb HC
    go_wp2_with fail
    refine wp_region_held_drew (S := (fun W => W.cell? ⟨g, 0, none⟩ = some (.string p) ∧ W.cell? ⟨g, 1, none⟩ = some (.string u) ∧ W.cell? ⟨b, off + j * 4, none⟩ = some (.string x.w) ∧ W.cell? ⟨b, off + j * 4 + 1, none⟩ = some (.string x.u) ∧ W.cell? ⟨b, off + j * 4 + 2, none⟩ = some (.int .i64 x.f) ∧ W.cell? ⟨b, off + j * 4 + 3, none⟩ = some (.int .i64 x.t))) (by kernel_rfl) ?_ (fun hHeld => ?_)
    ·exact HSC.out _ K1
    refine tV 0 12 ?_
    refine tV 1 13 ?_
    refine tV 2 14 ?_
    refine tV 3 15 ?_
    refine tV 4 16 ?_
    refine wpAnyH_ready (rs := [5]) (by kernel_rfl) (by simp) ?_
    refine AllReadyH.cons (o := ⟨some 17, _, _, _, _, _⟩) rfl (fun K hK => ?_) AllReadyH.nil
    go_simp
    refine (HCC.out _).mono ?_
    rintro e w2 ⟨rfl, h2⟩
    have K2 := K1.below h2
    go_wp2_with fail
    refine hK.out _ _ ?_ (fun hH5 => ?_)
    ·exact HSC.out _ K2
    clear hK K
    (try simp only [Act.put, List.setIfInBounds_toArray, List.set_cons_zero, List.set_cons_succ])
    refine tV 6 18 ?_
    refine tU 7 19 ?_
    refine tU 8 20 ?_
    refine tU 9 21 ?_
    refine tU 10 22 ?_
    refine tU 11 23 ?_
    refine tU 12 24 ?_
    refine tV 13 25 ?_
    refine wpAnyH_done (by kernel_rfl) ?_ _
    all_goals
     go_wp2
     go_roundw
     case rel => exact ⟨j + 1, by omega, by go_num, HN, K2⟩
     case measure => simp [intOf]; omega
   | true =>
    have HCC := Lib.hid (HC.out x)
    rw [hb] at HCC
    by_cases ht : x.t = 1099511627776
    ·have HN := Lib.hid (idx_hit (HHT.out (by unfold infE; rw [hb, decide_eq_true ht]; rfl)) hjl)
     have hd : (x.t == 1099511627776) = true := beq_iff_eq.2 ht
     clear HNX HHT hb HC ht
     go_wp2_with fail
     go_region_held3 (fun W => W.cell? ⟨g, 0, none⟩ = some (.string p) ∧ W.cell? ⟨g, 1, none⟩ = some (.string u) ∧ W.cell? ⟨b, off + j * 4, none⟩ = some (.string x.w) ∧ W.cell? ⟨b, off + j * 4 + 1, none⟩ = some (.string x.u) ∧ W.cell? ⟨b, off + j * 4 + 2, none⟩ = some (.int .i64 x.f) ∧ W.cell? ⟨b, off + j * 4 + 3, none⟩ = some (.int .i64 x.t))
      (first | exact HSC.out _ K2 | exact HSC.out _ K1)
      (first | (go_at_call 176; refine (HCC.out _).mono ?_; rintro e w2 ⟨rfl, h2⟩; have K2 := K1.below h2))
     all_goals
      go_wp2
      go_ret
      exact ⟨by rw [HN.out]; rfl, K2.frame⟩
    ·have HN := Lib.hid (HNX.out (by unfold infE; rw [hb, decide_eq_false ht]; rfl))
     have hd : (x.t == 1099511627776) = false := beq_eq_false_iff_ne.2 ht
     clear HNX HHT hb HC ht
     go_wp2_with fail
     go_region_held3 (fun W => W.cell? ⟨g, 0, none⟩ = some (.string p) ∧ W.cell? ⟨g, 1, none⟩ = some (.string u) ∧ W.cell? ⟨b, off + j * 4, none⟩ = some (.string x.w) ∧ W.cell? ⟨b, off + j * 4 + 1, none⟩ = some (.string x.u) ∧ W.cell? ⟨b, off + j * 4 + 2, none⟩ = some (.int .i64 x.f) ∧ W.cell? ⟨b, off + j * 4 + 3, none⟩ = some (.int .i64 x.t))
      (first | exact HSC.out _ K2 | exact HSC.out _ K1)
      (first | (go_at_call 176; refine (HCC.out _).mono ?_; rintro e w2 ⟨rfl, h2⟩; have K2 := K1.below h2))
     all_goals
      go_wp2
      go_roundw
      case rel => exact ⟨j + 1, by omega, by go_num, HN, K2⟩
      case measure => simp [intOf]; omega
  ·obtain rfl : j = l.length := by omega
   have HE := Lib.hid (idx_miss HO.out.miss)
   go_wp2
   go_ret
   exact ⟨by rw [HE.out]; rfl, HK.out.frame⟩
end Go.Proofs.YtjhdhfokhkcamaaGreat
namespace Go.Proofs.YtjhdhfokhkcamaaGreat
open Go.RowKit Go.Proofs
set_option linter.unusedVariables false
set_option maxRecDepth 100000
set_option maxRecDepth 100000
theorem wpList_append_en2 {P : Program} (w : World) {ops : Array Oper} {rest : List Oper} {o : Oper} {a : Act} {Q : Exit → Act → World → Prop} (hgd : o.guard = none) (s x : Operand) (t : TypeId)
  (ho : o.op = .call { callee := .builtin .append, args := #[s, x], argTypes := #[t, t] })
  (base : Nat) (e : TypeId) (i : TypeInfo) (z : Value) (ht : P.underlying t = some (.slice e)) (hi : P.info? e = some i) (hz : i.zero = some z)
  (hsize : i.size = 4) (hby : i.bytes = 48) (hzs : z.cells.size = 4)
  (v : Value) (l : List EnM) (hs : a.eval s = v) (hown : w.ownsRow base e 4 v l.length (ens l))
  (A : Option Addr) (c : Nat) (m : List EnM) (n : Nat) (hn : n = m.length) (hx : a.eval x = .slice A n c) (hsl : EnSl w A m) (hnil : A = none → c = 0)
  (hlen : l.length + m.length ≤ 1000000) (hbase : base ≤ w.heap.size)
  (h : ∀ v' w', w'.ownsRow base e 4 v' (l ++ m).length (ens (l ++ m)) → Below base w w' → wpList P ops Q rest (a.put o.dst v') w') : wpList P ops Q (o :: rest) a w := by
 subst hn
 exact wpList_append_en w hgd s x t ho base e i z ht hi hz hsize hby hzs v l hs hown A c m hx hsl hnil hlen hbase h
theorem own_snoc {w : World} {B : Nat} {e : TypeId} {v : Value} {m : List EnM} {x : EnM} (h : w.ownsRow B e 4 v (m.length + 1) (ens m ++ [.string x.w, .string x.u, .int .i64 x.f, .int .i64 x.t])) : w.ownsRow B e 4 v (m ++ [x]).length (ens (m ++ [x])) := by
 rw [List.length_append, ens_snoc]
 exact h
set_option maxHeartbeats 8000000 in
theorem refGrant_any (a : Option Addr) (c : Nat) (l : List EnM) (p u : ByteArray) (n : Int) (w : World) (hr : EnSl w a l) (hsz : SzE l) (hsp : p.size ≤ maxLen) (hsu : u.size ≤ maxLen) (hn : a = none → c = 0) (hl : l.length ≤ 500) (hc : l.length ≤ c) (hcm : c ≤ maxLen) :
  Calls Tryz.prog 48 #[.slice a l.length c, pr p u, .int .i64 n] w fun e w' => (l.any (infE p u) = true ∧ e = .returned (.tuple #[.slice none 0 0, .int .i64 90]) ∧ Below w.heap.size w w') ∨
   (l.any (infE p u) = false ∧ ∃ v, e = .returned (.tuple #[v, .int .i64 0]) ∧ w'.ownsRow w.heap.size 82 4 v (grantS l (mkE p u n)).length (ens (grantS l (mkE p u n))) ∧ Below w.heap.size w w') := by
 obtain ⟨i0, hi, hz0, hz1, hz2⟩ := info_parts infoEnR
 have HPC := Lib.hid (PK.new hr p u 96)
 have HIF := Lib.hid (fun W (h : EnSl W a l) => force_any a c l p u W h (by omega))
 have HAB : Hid (∀ (x : EnM) (_ : x ∈ l) W, Calls Tryz.prog 102 #[.agg #[.string p, .string u, .int .i64 n, .int .i64 1099511627776], .agg #[.string x.w, .string x.u, .int .i64 x.f, .int .i64 x.t]] W fun e w' => e = .returned (.bool (decide (aheadE (mkE p u n) x))) ∧ Below W.heap.size W w') := fun x hx W => eahead_any (mkE p u n) x W hsp hsu (hsz x hx).1 (hsz x hx).2
 have HNil := Lib.hid hn
 have HGA := Lib.hid (fun k (h : IsFirst (fun x => decide (aheadE (mkE p u n) x)) l k) => grant_at h)
 have HDA := idx_any (infE p u) l
 unfold maxLen at hcm
 unfold pr at *
 generalize hG : grantS l (mkE p u n) = G at *
 generalize idxI (infE p u) l = ix at *
 clear hr hn hG hsz hsp hsu
 cases hi2 : l.any (infE p u) with
 | true =>
  rw [hi2] at HDA
  go_enter Tryz.func48, Tryz.ntmps48
  go_wp2_with fail
  refine (HIF.out _ HPC.out.row).mono ?_
  rintro e w1 ⟨rfl, hB⟩
  have K1 := Lib.hid (HPC.out.below hB)
  go_wp2
  go_ret2
  exact Or.inl ⟨by trivial, rfl, K1.out.frame⟩
 | false =>
  rw [hi2] at HDA
  go_enter Tryz.func48, Tryz.ntmps48
  go_wp2_with fail
  refine (HIF.out _ HPC.out.row).mono ?_
  rintro e w1 ⟨rfl, hB⟩
  have K1 := Lib.hid (HPC.out.below hB)
  obtain ⟨c0, c1, -⟩ := K1.out.pc
  have HK0 : Hid (RsE w w1.heap.size (mkE p u n) a l (w1.alloc (.cells #[.string p, .string u, .int .i64 n, .int .i64 1099511627776] 82))) := RsE.new (x := mkE p u n) K1.out.row K1.out.frame 82
  have HSB : Hid (∀ W, RsE w w1.heap.size (mkE p u n) a l W → W.cell? ⟨w1.heap.size, 0, none⟩ = some (.string p) ∧ W.cell? ⟨w1.heap.size, 1, none⟩ = some (.string u) ∧ W.cell? ⟨w1.heap.size, 2, none⟩ = some (.int .i64 n) ∧ W.cell? ⟨w1.heap.size, 3, none⟩ = some (.int .i64 1099511627776)) := fun W h => h.box
  have HSC : Hid (∀ b off j (hj : j < l.length) W, a = some ⟨b, off, none⟩ → RsE w w1.heap.size (mkE p u n) a l W → W.cell? ⟨w1.heap.size, 0, none⟩ = some (.string p) ∧ W.cell? ⟨w1.heap.size, 1, none⟩ = some (.string u) ∧ W.cell? ⟨w1.heap.size, 2, none⟩ = some (.int .i64 n) ∧ W.cell? ⟨w1.heap.size, 3, none⟩ = some (.int .i64 1099511627776) ∧ W.cell? ⟨b, off + j * 4, none⟩ = some (.string l[j].w) ∧ W.cell? ⟨b, off + j * 4 + 1, none⟩ = some (.string l[j].u) ∧ W.cell? ⟨b, off + j * 4 + 2, none⟩ = some (.int .i64 l[j].f) ∧ W.cell? ⟨b, off + j * 4 + 3, none⟩ = some (.int .i64 l[j].t)) := fun b off j hj W e h => by subst e; exact h.at_ hj
  clear hB HPC HIF
  go_wp2
  generalize w1.heap.size = g at *
  go_loopw [9] (fun i wr => ∃ (j : Nat), j ≤ l.length ∧ i = .int .i64 j ∧ Hid (LowTo (fun x => decide (aheadE (mkE p u n) x)) l j) ∧ Hid (RsE w g (mkE p u n) a l wr)) (fun i _ => l.length - (intOf i).toNat)
  case atStart => exact ⟨0, by omega, rfl, fun k _ h => absurd h (by omega), HK0.out⟩
  case round =>
   clear K1 HK0 c0 c1 HDA
   obtain ⟨j, hj, rfl, HO, HK⟩ := hrel
   by_cases hjl : j < l.length
   ·obtain ⟨b, off, rfl, -, -, -, -, -⟩ := HK.out.row.at_ hjl
    have HNX := Lib.hid (HO.out.next hjl)
    have HHT := Lib.hid (HO.out.hit hjl)
    have HP0 : Hid (∀ W, RsE w g (mkE p u n) (some ⟨b, off, none⟩) l W → W.cell? ⟨g, 0, none⟩ = some (.string p) ∧ W.cell? ⟨g, 1, none⟩ = some (.string u) ∧ W.cell? ⟨g, 2, none⟩ = some (.int .i64 n) ∧ W.cell? ⟨g, 3, none⟩ = some (.int .i64 1099511627776) ∧ W.cell? ⟨b, off + j * 4, none⟩ = some (.string l[j].w) ∧ W.cell? ⟨b, off + j * 4 + 1, none⟩ = some (.string l[j].u) ∧ W.cell? ⟨b, off + j * 4 + 2, none⟩ = some (.int .i64 l[j].f) ∧ W.cell? ⟨b, off + j * 4 + 3, none⟩ = some (.int .i64 l[j].t)) := fun W h => HSC.out b off j hjl W rfl h
    have HCX := Lib.hid (HAB.out l[j] (List.getElem_mem hjl))
    have K1 := HK.out.below (Below.refl _ _).drew
    generalize l[j] = x at *
    by_cases h3 : aheadE (mkE p u n) x
    ·have HP := Lib.hid (HHT.out (decide_eq_true h3))
     rw [decide_eq_true h3] at HCX
     clear HNX HHT HO h3 HAB HSC HNil
     go_wp2_with fail
     go_region_held3 (fun W => W.cell? ⟨g, 0, none⟩ = some (.string p) ∧ W.cell? ⟨g, 1, none⟩ = some (.string u) ∧ W.cell? ⟨g, 2, none⟩ = some (.int .i64 n) ∧ W.cell? ⟨g, 3, none⟩ = some (.int .i64 1099511627776) ∧ W.cell? ⟨b, off + j * 4, none⟩ = some (.string x.w) ∧ W.cell? ⟨b, off + j * 4 + 1, none⟩ = some (.string x.u) ∧ W.cell? ⟨b, off + j * 4 + 2, none⟩ = some (.int .i64 x.f) ∧ W.cell? ⟨b, off + j * 4 + 3, none⟩ = some (.int .i64 x.t))
      (first | exact HP0.out _ K1 | exact HP0.out _ K3)
      (first | (go_at_call 102; refine (HCX.out _).mono ?_; rintro e K3W ⟨rfl, h3⟩; have K3 := K1.below h3))
     have hcj : ¬ c = j := by omega
     have hcj2 : j < c := by omega
     clear h3 K1 HCX
     have hpc : j ≤ c := by omega
     have hz1' : (0 : Int) ≤ (j : Int) := by omega
     have hz2' : (j : Int) ≤ (l.length : Int) := by omega
     have hz3' : (j : Int) ≤ (c : Int) := by omega
     have hz4' : (l.length : Int) ≤ (c : Int) := by omega
     obtain ⟨m1, e1⟩ : ∃ m, m = l.take j := ⟨_, rfl⟩
     obtain ⟨m2, e2⟩ : ∃ m, m = l.drop j := ⟨_, rfl⟩
     have HL1 : Hid (j = m1.length) := by unfold Hid; rw [e1, List.length_take]; omega
     have HL2 : Hid (l.length - j = m2.length) := by unfold Hid; rw [e2, List.length_drop]
     have hk1 : (some ⟨b, off, none⟩ : Option Addr) = none → c = 0 := fun h => (by cases h)
     have hk2 : (some ⟨b, off + j * 4, none⟩ : Option Addr) = none → c - j = 0 := fun h => (by cases h)
     have HS1 : Hid (∀ W, Below K3W.heap.size K3W W → EnSl W (some ⟨b, off, none⟩) m1) := fun W h => by rw [e1]; exact (K3.row.below h).take j
     have HS2 : Hid (∀ W, Below K3W.heap.size K3W W → EnSl W (some ⟨b, off + j * 4, none⟩) m2) := fun W h => by rw [e2]; exact (K3.row.below h).drop j
     have HGG : Hid (m1 ++ [mkE p u n] ++ m2 = G) := by unfold Hid; rw [e1, e2, HGA.out j HP.out, List.append_assoc]; rfl
     clear e1 e2
     clear HGA HP HP0 HK
     have hb1 : m1.length ≤ 500 := by have := HL1.out; omega
     have hb2 : m2.length ≤ 500 := by have := HL2.out; omega
     have HE0 := Lib.hid (eown_empty8 K3W 82 4 K3W.heap.size (Nat.le_refl _))
     have HEB := Lib.hid (ebelow_one K3W (.cells #[] 82))
     have HM1 := Lib.hid (HS1.out _ HEB.out)
     have HMS := Lib.hid HEB.out.size
     go_wp2_with (first | (at_builtin; refine wpList_append_en2 _ rfl (.tmp 36) (.tmp 39) 24 rfl K3W.heap.size 82 i0 _ Tryz.underlying24 hi hz0 hz1 hz2 rfl _ [] rfl HE0.out (some ⟨b, off, none⟩) c m1 j HL1.out rfl HM1.out hk1 (by simp; omega) HMS.out ?_; intro v1 w4 ho1 hB1; have HO1 := Lib.hid ho1; have HB1 := Lib.hid (HEB.out.trans hB1); have HO1A : Hid ((w4.alloc (.cells #[.string p, .string u, .int .i64 n, .int .i64 1099511627776] 82)).ownsRow K3W.heap.size 82 4 v1 m1.length (ens m1)) := own_below HO1.out (ebelow_one w4 (.cells #[.string p, .string u, .int .i64 n, .int .i64 1099511627776] 82)); have HB1A := Lib.hid (HB1.out.trans ((ebelow_one w4 (.cells #[.string p, .string u, .int .i64 n, .int .i64 1099511627776] 82)).mono HB1.out.size)); have HS1A := Lib.hid HB1A.out.size; clear ho1 hB1; obtain ⟨d0, d1, d2, d3⟩ := HSB.out _ (K3.below HB1.out)) | (at_builtin; refine wpList_append_own _ rfl (.tmp 41) (.tmp 43) 24 rfl K3W.heap.size 82 i0 _ 4 48 Tryz.underlying24 hi hz0 hz1 hz2 rfl (by decide) _ _ _ rfl HO1A.out ⟨w4.heap.size, 0, none⟩ 1 1 [.string p, .string u, .int .i64 n, .int .i64 1099511627776] rfl rfl (news_at _ _ _ _ rfl) (four_e _ _ _ _) (by unfold maxLen; omega) (by omega) HS1A.out ?_; intro v2 w5 ho2 hgrow hiff; have HB2 := Lib.hid (app_below HB1A.out HS1A.out HO1A.out hgrow); have HO2 : Hid (w5.ownsRow K3W.heap.size 82 4 v2 (m1 ++ [mkE p u n]).length (ens (m1 ++ [mkE p u n]))) := own_snoc ho2; clear ho2 hgrow hiff; have HM2 := Lib.hid (HS2.out _ HB2.out); have HMS2 := Lib.hid HB2.out.size) | (at_builtin; refine wpList_append_en2 _ rfl (.tmp 45) (.tmp 48) 24 rfl K3W.heap.size 82 i0 _ Tryz.underlying24 hi hz0 hz1 hz2 rfl _ (m1 ++ [mkE p u n]) rfl HO2.out (some ⟨b, off + j * 4, none⟩) (c - j) m2 (l.length - j) HL2.out rfl HM2.out hk2 (by simp; omega) HMS2.out ?_; intro v3 w6 ho3 hB3; have HO3 := Lib.hid ho3; have HB3 := Lib.hid (HB2.out.trans hB3); clear ho3 hB3))
     rw [HGG.out] at HO3
     go_ret2
     first | exact Or.inr ⟨by trivial, v3, rfl, own_low HO3.out K3.frame.size, K3.frame.trans (HB3.out.mono K3.frame.size)⟩ | exact ⟨v3, rfl, own_low HO3.out K3.frame.size, K3.frame.trans (HB3.out.mono K3.frame.size)⟩
    ·have HN := Lib.hid (HNX.out (decide_eq_false h3))
     rw [decide_eq_false h3] at HCX
     clear HNX HHT HO h3 HAB HSC HNil HGA
     go_wp2_with fail
     go_region_held3 (fun W => W.cell? ⟨g, 0, none⟩ = some (.string p) ∧ W.cell? ⟨g, 1, none⟩ = some (.string u) ∧ W.cell? ⟨g, 2, none⟩ = some (.int .i64 n) ∧ W.cell? ⟨g, 3, none⟩ = some (.int .i64 1099511627776) ∧ W.cell? ⟨b, off + j * 4, none⟩ = some (.string x.w) ∧ W.cell? ⟨b, off + j * 4 + 1, none⟩ = some (.string x.u) ∧ W.cell? ⟨b, off + j * 4 + 2, none⟩ = some (.int .i64 x.f) ∧ W.cell? ⟨b, off + j * 4 + 3, none⟩ = some (.int .i64 x.t))
      (first | exact HP0.out _ K1 | exact HP0.out _ K3)
      (first | (go_at_call 102; refine (HCX.out _).mono ?_; rintro e w3 ⟨rfl, h3⟩; have K3 := K1.below h3))
     go_wp2
     go_roundw
     case rel => exact ⟨j + 1, by omega, by go_num, HN, K3⟩
     case measure => simp [intOf]; omega
   ·have hje : j = l.length := by omega
    have HP : Hid (IsFirst (fun x => decide (aheadE (mkE p u n) x)) l j) := by rw [hje] at HO ⊢; exact HO.out.miss
    have hlt : decide ((j : Int) < (l.length : Int)) = false := decide_eq_false (by omega)
    clear HAB HSC HO
    go_wp2_with fail
    refine wp_region_held_drew (S := (fun W => W.cell? ⟨g, 0, none⟩ = some (.string p) ∧ W.cell? ⟨g, 1, none⟩ = some (.string u) ∧ W.cell? ⟨g, 2, none⟩ = some (.int .i64 n) ∧ W.cell? ⟨g, 3, none⟩ = some (.int .i64 1099511627776))) (by kernel_rfl) ?_ (fun hHeld => ?_)
    ·exact HSB.out _ (HK.out.below (Below.refl _ _).drew)
    refine tV 0 21 ?_
    refine tV 1 22 ?_
    refine tV 2 23 ?_
    refine tV 3 24 ?_
    refine tV 4 25 ?_
    refine tU 5 26 ?_
    refine tU 6 27 ?_
    refine tU 7 28 ?_
    refine tU 8 29 ?_
    refine tU 9 30 ?_
    refine tU 10 31 ?_
    refine tU 11 32 ?_
    refine tV 12 33 ?_
    refine wpAnyH_done (by kernel_rfl) ?_ _
    have K3 := HK.out.below (Below.refl _ _).drew
    generalize wr.drew = K3W at *
    clear hlt HK
    cases a with
    | none =>
     have hc0 := HNil.out rfl
     have hl0 := K3.row.snil
     subst hc0 hl0
     obtain rfl : j = 0 := by simpa using hje
     obtain ⟨m1, e1⟩ : ∃ m : List EnM, m = [] := ⟨_, rfl⟩
     obtain ⟨m2, e2⟩ : ∃ m : List EnM, m = [] := ⟨_, rfl⟩
     have HL1 : Hid (0 = m1.length) := by unfold Hid; rw [e1]; rfl
     have HL2 : Hid (0 = m2.length) := by unfold Hid; rw [e2]; rfl
     have hk1 : (none : Option Addr) = none → 0 = 0 := fun _ => rfl
     have hk2 : (none : Option Addr) = none → 0 = 0 := fun _ => rfl
     have HS1 : Hid (∀ W, Below K3W.heap.size K3W W → EnSl W (none : Option Addr) m1) := fun W h => by rw [e1]; exact EnSl.nil _ _
     have HS2 : Hid (∀ W, Below K3W.heap.size K3W W → EnSl W (none : Option Addr) m2) := fun W h => by rw [e2]; exact EnSl.nil _ _
     have HGG : Hid (m1 ++ [mkE p u n] ++ m2 = G) := by unfold Hid; rw [e1, e2, HGA.out 0 HP.out]; rfl
     clear e1 e2
     clear HGA HP HNil hje
     have hb1 : m1.length ≤ 500 := by have := HL1.out; omega
     have hb2 : m2.length ≤ 500 := by have := HL2.out; omega
     have HE0 := Lib.hid (eown_empty8 K3W 82 4 K3W.heap.size (Nat.le_refl _))
     have HEB := Lib.hid (ebelow_one K3W (.cells #[] 82))
     have HM1 := Lib.hid (HS1.out _ HEB.out)
     have HMS := Lib.hid HEB.out.size
     go_wp2_with (first | (at_builtin; refine wpList_append_en2 _ rfl (.tmp 36) (.tmp 39) 24 rfl K3W.heap.size 82 i0 _ Tryz.underlying24 hi hz0 hz1 hz2 rfl _ [] rfl HE0.out none 0 m1 0 HL1.out rfl HM1.out hk1 (by simp; omega) HMS.out ?_; intro v1 w4 ho1 hB1; have HO1 := Lib.hid ho1; have HB1 := Lib.hid (HEB.out.trans hB1); have HO1A : Hid ((w4.alloc (.cells #[.string p, .string u, .int .i64 n, .int .i64 1099511627776] 82)).ownsRow K3W.heap.size 82 4 v1 m1.length (ens m1)) := own_below HO1.out (ebelow_one w4 (.cells #[.string p, .string u, .int .i64 n, .int .i64 1099511627776] 82)); have HB1A := Lib.hid (HB1.out.trans ((ebelow_one w4 (.cells #[.string p, .string u, .int .i64 n, .int .i64 1099511627776] 82)).mono HB1.out.size)); have HS1A := Lib.hid HB1A.out.size; clear ho1 hB1; obtain ⟨d0, d1, d2, d3⟩ := HSB.out _ (K3.below HB1.out)) | (at_builtin; refine wpList_append_own _ rfl (.tmp 41) (.tmp 43) 24 rfl K3W.heap.size 82 i0 _ 4 48 Tryz.underlying24 hi hz0 hz1 hz2 rfl (by decide) _ _ _ rfl HO1A.out ⟨w4.heap.size, 0, none⟩ 1 1 [.string p, .string u, .int .i64 n, .int .i64 1099511627776] rfl rfl (news_at _ _ _ _ rfl) (four_e _ _ _ _) (by unfold maxLen; omega) (by omega) HS1A.out ?_; intro v2 w5 ho2 hgrow hiff; have HB2 := Lib.hid (app_below HB1A.out HS1A.out HO1A.out hgrow); have HO2 : Hid (w5.ownsRow K3W.heap.size 82 4 v2 (m1 ++ [mkE p u n]).length (ens (m1 ++ [mkE p u n]))) := own_snoc ho2; clear ho2 hgrow hiff; have HM2 := Lib.hid (HS2.out _ HB2.out); have HMS2 := Lib.hid HB2.out.size) | (at_builtin; refine wpList_append_en2 _ rfl (.tmp 45) (.tmp 48) 24 rfl K3W.heap.size 82 i0 _ Tryz.underlying24 hi hz0 hz1 hz2 rfl _ (m1 ++ [mkE p u n]) rfl HO2.out none 0 m2 0 HL2.out rfl HM2.out hk2 (by simp; omega) HMS2.out ?_; intro v3 w6 ho3 hB3; have HO3 := Lib.hid ho3; have HB3 := Lib.hid (HB2.out.trans hB3); clear ho3 hB3))
     rw [HGG.out] at HO3
     go_ret2
     first | exact Or.inr ⟨by trivial, v3, rfl, own_low HO3.out K3.frame.size, K3.frame.trans (HB3.out.mono K3.frame.size)⟩ | exact ⟨v3, rfl, own_low HO3.out K3.frame.size, K3.frame.trans (HB3.out.mono K3.frame.size)⟩
    | some ad =>
     by_cases hlz : 0 < l.length
     ·obtain ⟨b, off, e, -, -, -, -, -⟩ := K3.row.at_ hlz
      cases e
      by_cases hcj : c = j
      ·subst hje
       subst hcj
       have hz2' : (l.length : Int) ≤ (l.length : Int) := Int.le_refl _
       have hz1' : (0 : Int) ≤ (l.length : Int) := by omega
       obtain ⟨m1, e1⟩ : ∃ m, m = l := ⟨_, rfl⟩
       obtain ⟨m2, e2⟩ : ∃ m : List EnM, m = [] := ⟨_, rfl⟩
       have HL1 : Hid (l.length = m1.length) := by unfold Hid; rw [e1]
       have HL2 : Hid (0 = m2.length) := by unfold Hid; rw [e2]; rfl
       have hk1 : (some ⟨b, off, none⟩ : Option Addr) = none → l.length = 0 := fun h => (by cases h)
       have hk2 : (some ⟨b, off, none⟩ : Option Addr) = none → 0 = 0 := fun h => (by cases h)
       have HS1 : Hid (∀ W, Below K3W.heap.size K3W W → EnSl W (some ⟨b, off, none⟩) m1) := fun W h => by rw [e1]; exact K3.row.below h
       have HS2 : Hid (∀ W, Below K3W.heap.size K3W W → EnSl W (some ⟨b, off, none⟩) m2) := fun W h => by rw [e2]; exact EnSl.nil _ _
       have HGG : Hid (m1 ++ [mkE p u n] ++ m2 = G) := by unfold Hid; rw [e1, e2, HGA.out l.length HP.out, List.take_of_length_le (Nat.le_refl _), List.drop_of_length_le (Nat.le_refl _), List.append_nil]
       clear e1 e2 HGA HP HNil
       have hb1 : m1.length ≤ 500 := by have := HL1.out; omega
       have hb2 : m2.length ≤ 500 := by have := HL2.out; omega
       have HE0 := Lib.hid (eown_empty8 K3W 82 4 K3W.heap.size (Nat.le_refl _))
       have HEB := Lib.hid (ebelow_one K3W (.cells #[] 82))
       have HM1 := Lib.hid (HS1.out _ HEB.out)
       have HMS := Lib.hid HEB.out.size
       go_wp2_with (first | (at_builtin; refine wpList_append_en2 _ rfl (.tmp 36) (.tmp 39) 24 rfl K3W.heap.size 82 i0 _ Tryz.underlying24 hi hz0 hz1 hz2 rfl _ [] rfl HE0.out (some ⟨b, off, none⟩) l.length m1 l.length HL1.out rfl HM1.out hk1 (by simp; omega) HMS.out ?_; intro v1 w4 ho1 hB1; have HO1 := Lib.hid ho1; have HB1 := Lib.hid (HEB.out.trans hB1); have HO1A : Hid ((w4.alloc (.cells #[.string p, .string u, .int .i64 n, .int .i64 1099511627776] 82)).ownsRow K3W.heap.size 82 4 v1 m1.length (ens m1)) := own_below HO1.out (ebelow_one w4 (.cells #[.string p, .string u, .int .i64 n, .int .i64 1099511627776] 82)); have HB1A := Lib.hid (HB1.out.trans ((ebelow_one w4 (.cells #[.string p, .string u, .int .i64 n, .int .i64 1099511627776] 82)).mono HB1.out.size)); have HS1A := Lib.hid HB1A.out.size; clear ho1 hB1; obtain ⟨d0, d1, d2, d3⟩ := HSB.out _ (K3.below HB1.out)) | (at_builtin; refine wpList_append_own _ rfl (.tmp 41) (.tmp 43) 24 rfl K3W.heap.size 82 i0 _ 4 48 Tryz.underlying24 hi hz0 hz1 hz2 rfl (by decide) _ _ _ rfl HO1A.out ⟨w4.heap.size, 0, none⟩ 1 1 [.string p, .string u, .int .i64 n, .int .i64 1099511627776] rfl rfl (news_at _ _ _ _ rfl) (four_e _ _ _ _) (by unfold maxLen; omega) (by omega) HS1A.out ?_; intro v2 w5 ho2 hgrow hiff; have HB2 := Lib.hid (app_below HB1A.out HS1A.out HO1A.out hgrow); have HO2 : Hid (w5.ownsRow K3W.heap.size 82 4 v2 (m1 ++ [mkE p u n]).length (ens (m1 ++ [mkE p u n]))) := own_snoc ho2; clear ho2 hgrow hiff; have HM2 := Lib.hid (HS2.out _ HB2.out); have HMS2 := Lib.hid HB2.out.size) | (at_builtin; refine wpList_append_en2 _ rfl (.tmp 45) (.tmp 48) 24 rfl K3W.heap.size 82 i0 _ Tryz.underlying24 hi hz0 hz1 hz2 rfl _ (m1 ++ [mkE p u n]) rfl HO2.out (some ⟨b, off, none⟩) 0 m2 0 HL2.out rfl HM2.out hk2 (by simp; omega) HMS2.out ?_; intro v3 w6 ho3 hB3; have HO3 := Lib.hid ho3; have HB3 := Lib.hid (HB2.out.trans hB3); clear ho3 hB3))
       rw [HGG.out] at HO3
       go_ret2
       first | exact Or.inr ⟨by trivial, v3, rfl, own_low HO3.out K3.frame.size, K3.frame.trans (HB3.out.mono K3.frame.size)⟩ | exact ⟨v3, rfl, own_low HO3.out K3.frame.size, K3.frame.trans (HB3.out.mono K3.frame.size)⟩
      ·have hcj2 : j < c := by omega
       have hpc : j ≤ c := by omega
       have hz1' : (0 : Int) ≤ (j : Int) := by omega
       have hz2' : (j : Int) ≤ (l.length : Int) := by omega
       have hz3' : (j : Int) ≤ (c : Int) := by omega
       have hz4' : (l.length : Int) ≤ (c : Int) := by omega
       obtain ⟨m1, e1⟩ : ∃ m, m = l.take j := ⟨_, rfl⟩
       obtain ⟨m2, e2⟩ : ∃ m, m = l.drop j := ⟨_, rfl⟩
       have HL1 : Hid (j = m1.length) := by unfold Hid; rw [e1, List.length_take]; omega
       have HL2 : Hid (l.length - j = m2.length) := by unfold Hid; rw [e2, List.length_drop]
       have hk1 : (some ⟨b, off, none⟩ : Option Addr) = none → c = 0 := fun h => (by cases h)
       have hk2 : (some ⟨b, off + j * 4, none⟩ : Option Addr) = none → c - j = 0 := fun h => (by cases h)
       have HS1 : Hid (∀ W, Below K3W.heap.size K3W W → EnSl W (some ⟨b, off, none⟩) m1) := fun W h => by rw [e1]; exact (K3.row.below h).take j
       have HS2 : Hid (∀ W, Below K3W.heap.size K3W W → EnSl W (some ⟨b, off + j * 4, none⟩) m2) := fun W h => by rw [e2]; exact (K3.row.below h).drop j
       have HGG : Hid (m1 ++ [mkE p u n] ++ m2 = G) := by unfold Hid; rw [e1, e2, HGA.out j HP.out, List.append_assoc]; rfl
       clear e1 e2
       clear HGA HP HNil hje
       have hb1 : m1.length ≤ 500 := by have := HL1.out; omega
       have hb2 : m2.length ≤ 500 := by have := HL2.out; omega
       have HE0 := Lib.hid (eown_empty8 K3W 82 4 K3W.heap.size (Nat.le_refl _))
       have HEB := Lib.hid (ebelow_one K3W (.cells #[] 82))
       have HM1 := Lib.hid (HS1.out _ HEB.out)
       have HMS := Lib.hid HEB.out.size
       go_wp2_with (first | (at_builtin; refine wpList_append_en2 _ rfl (.tmp 36) (.tmp 39) 24 rfl K3W.heap.size 82 i0 _ Tryz.underlying24 hi hz0 hz1 hz2 rfl _ [] rfl HE0.out (some ⟨b, off, none⟩) c m1 j HL1.out rfl HM1.out hk1 (by simp; omega) HMS.out ?_; intro v1 w4 ho1 hB1; have HO1 := Lib.hid ho1; have HB1 := Lib.hid (HEB.out.trans hB1); have HO1A : Hid ((w4.alloc (.cells #[.string p, .string u, .int .i64 n, .int .i64 1099511627776] 82)).ownsRow K3W.heap.size 82 4 v1 m1.length (ens m1)) := own_below HO1.out (ebelow_one w4 (.cells #[.string p, .string u, .int .i64 n, .int .i64 1099511627776] 82)); have HB1A := Lib.hid (HB1.out.trans ((ebelow_one w4 (.cells #[.string p, .string u, .int .i64 n, .int .i64 1099511627776] 82)).mono HB1.out.size)); have HS1A := Lib.hid HB1A.out.size; clear ho1 hB1; obtain ⟨d0, d1, d2, d3⟩ := HSB.out _ (K3.below HB1.out)) | (at_builtin; refine wpList_append_own _ rfl (.tmp 41) (.tmp 43) 24 rfl K3W.heap.size 82 i0 _ 4 48 Tryz.underlying24 hi hz0 hz1 hz2 rfl (by decide) _ _ _ rfl HO1A.out ⟨w4.heap.size, 0, none⟩ 1 1 [.string p, .string u, .int .i64 n, .int .i64 1099511627776] rfl rfl (news_at _ _ _ _ rfl) (four_e _ _ _ _) (by unfold maxLen; omega) (by omega) HS1A.out ?_; intro v2 w5 ho2 hgrow hiff; have HB2 := Lib.hid (app_below HB1A.out HS1A.out HO1A.out hgrow); have HO2 : Hid (w5.ownsRow K3W.heap.size 82 4 v2 (m1 ++ [mkE p u n]).length (ens (m1 ++ [mkE p u n]))) := own_snoc ho2; clear ho2 hgrow hiff; have HM2 := Lib.hid (HS2.out _ HB2.out); have HMS2 := Lib.hid HB2.out.size) | (at_builtin; refine wpList_append_en2 _ rfl (.tmp 45) (.tmp 48) 24 rfl K3W.heap.size 82 i0 _ Tryz.underlying24 hi hz0 hz1 hz2 rfl _ (m1 ++ [mkE p u n]) rfl HO2.out (some ⟨b, off + j * 4, none⟩) (c - j) m2 (l.length - j) HL2.out rfl HM2.out hk2 (by simp; omega) HMS2.out ?_; intro v3 w6 ho3 hB3; have HO3 := Lib.hid ho3; have HB3 := Lib.hid (HB2.out.trans hB3); clear ho3 hB3))
       rw [HGG.out] at HO3
       go_ret2
       first | exact Or.inr ⟨by trivial, v3, rfl, own_low HO3.out K3.frame.size, K3.frame.trans (HB3.out.mono K3.frame.size)⟩ | exact ⟨v3, rfl, own_low HO3.out K3.frame.size, K3.frame.trans (HB3.out.mono K3.frame.size)⟩
     ·have hl0 : l = [] := List.eq_nil_of_length_eq_zero (by omega)
      subst hl0
      obtain rfl : j = 0 := by simpa using hje
      have hz : (0 : Int) ≤ (c : Int) := by omega
      by_cases hcp : c = 0
      ·subst hcp
       obtain ⟨m1, e1⟩ : ∃ m : List EnM, m = [] := ⟨_, rfl⟩
       obtain ⟨m2, e2⟩ : ∃ m : List EnM, m = [] := ⟨_, rfl⟩
       have HL1 : Hid (0 = m1.length) := by unfold Hid; rw [e1]; rfl
       have HL2 : Hid (0 = m2.length) := by unfold Hid; rw [e2]; rfl
       have hk1 : (some ad) = none → 0 = 0 := fun h => (by cases h)
       have hk2 : (some ad) = none → 0 = 0 := fun h => (by cases h)
       have HS1 : Hid (∀ W, Below K3W.heap.size K3W W → EnSl W (some ad) m1) := fun W h => by rw [e1]; exact EnSl.nil _ _
       have HS2 : Hid (∀ W, Below K3W.heap.size K3W W → EnSl W (some ad) m2) := fun W h => by rw [e2]; exact EnSl.nil _ _
       have HGG : Hid (m1 ++ [mkE p u n] ++ m2 = G) := by unfold Hid; rw [e1, e2, HGA.out 0 HP.out]; rfl
       clear e1 e2
       clear HGA HP HNil hje
       have hb1 : m1.length ≤ 500 := by have := HL1.out; omega
       have hb2 : m2.length ≤ 500 := by have := HL2.out; omega
       have HE0 := Lib.hid (eown_empty8 K3W 82 4 K3W.heap.size (Nat.le_refl _))
       have HEB := Lib.hid (ebelow_one K3W (.cells #[] 82))
       have HM1 := Lib.hid (HS1.out _ HEB.out)
       have HMS := Lib.hid HEB.out.size
       go_wp2_with (first | (at_builtin; refine wpList_append_en2 _ rfl (.tmp 36) (.tmp 39) 24 rfl K3W.heap.size 82 i0 _ Tryz.underlying24 hi hz0 hz1 hz2 rfl _ [] rfl HE0.out (some ad) 0 m1 0 HL1.out rfl HM1.out hk1 (by simp; omega) HMS.out ?_; intro v1 w4 ho1 hB1; have HO1 := Lib.hid ho1; have HB1 := Lib.hid (HEB.out.trans hB1); have HO1A : Hid ((w4.alloc (.cells #[.string p, .string u, .int .i64 n, .int .i64 1099511627776] 82)).ownsRow K3W.heap.size 82 4 v1 m1.length (ens m1)) := own_below HO1.out (ebelow_one w4 (.cells #[.string p, .string u, .int .i64 n, .int .i64 1099511627776] 82)); have HB1A := Lib.hid (HB1.out.trans ((ebelow_one w4 (.cells #[.string p, .string u, .int .i64 n, .int .i64 1099511627776] 82)).mono HB1.out.size)); have HS1A := Lib.hid HB1A.out.size; clear ho1 hB1; obtain ⟨d0, d1, d2, d3⟩ := HSB.out _ (K3.below HB1.out)) | (at_builtin; refine wpList_append_own _ rfl (.tmp 41) (.tmp 43) 24 rfl K3W.heap.size 82 i0 _ 4 48 Tryz.underlying24 hi hz0 hz1 hz2 rfl (by decide) _ _ _ rfl HO1A.out ⟨w4.heap.size, 0, none⟩ 1 1 [.string p, .string u, .int .i64 n, .int .i64 1099511627776] rfl rfl (news_at _ _ _ _ rfl) (four_e _ _ _ _) (by unfold maxLen; omega) (by omega) HS1A.out ?_; intro v2 w5 ho2 hgrow hiff; have HB2 := Lib.hid (app_below HB1A.out HS1A.out HO1A.out hgrow); have HO2 : Hid (w5.ownsRow K3W.heap.size 82 4 v2 (m1 ++ [mkE p u n]).length (ens (m1 ++ [mkE p u n]))) := own_snoc ho2; clear ho2 hgrow hiff; have HM2 := Lib.hid (HS2.out _ HB2.out); have HMS2 := Lib.hid HB2.out.size) | (at_builtin; refine wpList_append_en2 _ rfl (.tmp 45) (.tmp 48) 24 rfl K3W.heap.size 82 i0 _ Tryz.underlying24 hi hz0 hz1 hz2 rfl _ (m1 ++ [mkE p u n]) rfl HO2.out (some ad) 0 m2 0 HL2.out rfl HM2.out hk2 (by simp; omega) HMS2.out ?_; intro v3 w6 ho3 hB3; have HO3 := Lib.hid ho3; have HB3 := Lib.hid (HB2.out.trans hB3); clear ho3 hB3))
       rw [HGG.out] at HO3
       go_ret2
       first | exact Or.inr ⟨by trivial, v3, rfl, own_low HO3.out K3.frame.size, K3.frame.trans (HB3.out.mono K3.frame.size)⟩ | exact ⟨v3, rfl, own_low HO3.out K3.frame.size, K3.frame.trans (HB3.out.mono K3.frame.size)⟩
      ·have hcp2 : 0 < c := by omega
       obtain ⟨m1, e1⟩ : ∃ m : List EnM, m = [] := ⟨_, rfl⟩
       obtain ⟨m2, e2⟩ : ∃ m : List EnM, m = [] := ⟨_, rfl⟩
       have HL1 : Hid (0 = m1.length) := by unfold Hid; rw [e1]; rfl
       have HL2 : Hid (0 = m2.length) := by unfold Hid; rw [e2]; rfl
       have hk1 : (some ad) = none → c = 0 := fun h => (by cases h)
       have hk2 : (some ad) = none → c = 0 := fun h => (by cases h)
       have HS1 : Hid (∀ W, Below K3W.heap.size K3W W → EnSl W (some ad) m1) := fun W h => by rw [e1]; exact EnSl.nil _ _
       have HS2 : Hid (∀ W, Below K3W.heap.size K3W W → EnSl W (some ad) m2) := fun W h => by rw [e2]; exact EnSl.nil _ _
       have HGG : Hid (m1 ++ [mkE p u n] ++ m2 = G) := by unfold Hid; rw [e1, e2, HGA.out 0 HP.out]; rfl
       clear e1 e2
       clear HGA HP HNil hje
       have hb1 : m1.length ≤ 500 := by have := HL1.out; omega
       have hb2 : m2.length ≤ 500 := by have := HL2.out; omega
       have HE0 := Lib.hid (eown_empty8 K3W 82 4 K3W.heap.size (Nat.le_refl _))
       have HEB := Lib.hid (ebelow_one K3W (.cells #[] 82))
       have HM1 := Lib.hid (HS1.out _ HEB.out)
       have HMS := Lib.hid HEB.out.size
       go_wp2_with (first | (at_builtin; refine wpList_append_en2 _ rfl (.tmp 36) (.tmp 39) 24 rfl K3W.heap.size 82 i0 _ Tryz.underlying24 hi hz0 hz1 hz2 rfl _ [] rfl HE0.out (some ad) c m1 0 HL1.out rfl HM1.out hk1 (by simp; omega) HMS.out ?_; intro v1 w4 ho1 hB1; have HO1 := Lib.hid ho1; have HB1 := Lib.hid (HEB.out.trans hB1); have HO1A : Hid ((w4.alloc (.cells #[.string p, .string u, .int .i64 n, .int .i64 1099511627776] 82)).ownsRow K3W.heap.size 82 4 v1 m1.length (ens m1)) := own_below HO1.out (ebelow_one w4 (.cells #[.string p, .string u, .int .i64 n, .int .i64 1099511627776] 82)); have HB1A := Lib.hid (HB1.out.trans ((ebelow_one w4 (.cells #[.string p, .string u, .int .i64 n, .int .i64 1099511627776] 82)).mono HB1.out.size)); have HS1A := Lib.hid HB1A.out.size; clear ho1 hB1; obtain ⟨d0, d1, d2, d3⟩ := HSB.out _ (K3.below HB1.out)) | (at_builtin; refine wpList_append_own _ rfl (.tmp 41) (.tmp 43) 24 rfl K3W.heap.size 82 i0 _ 4 48 Tryz.underlying24 hi hz0 hz1 hz2 rfl (by decide) _ _ _ rfl HO1A.out ⟨w4.heap.size, 0, none⟩ 1 1 [.string p, .string u, .int .i64 n, .int .i64 1099511627776] rfl rfl (news_at _ _ _ _ rfl) (four_e _ _ _ _) (by unfold maxLen; omega) (by omega) HS1A.out ?_; intro v2 w5 ho2 hgrow hiff; have HB2 := Lib.hid (app_below HB1A.out HS1A.out HO1A.out hgrow); have HO2 : Hid (w5.ownsRow K3W.heap.size 82 4 v2 (m1 ++ [mkE p u n]).length (ens (m1 ++ [mkE p u n]))) := own_snoc ho2; clear ho2 hgrow hiff; have HM2 := Lib.hid (HS2.out _ HB2.out); have HMS2 := Lib.hid HB2.out.size) | (at_builtin; refine wpList_append_en2 _ rfl (.tmp 45) (.tmp 48) 24 rfl K3W.heap.size 82 i0 _ Tryz.underlying24 hi hz0 hz1 hz2 rfl _ (m1 ++ [mkE p u n]) rfl HO2.out (some ad) c m2 0 HL2.out rfl HM2.out hk2 (by simp; omega) HMS2.out ?_; intro v3 w6 ho3 hB3; have HO3 := Lib.hid ho3; have HB3 := Lib.hid (HB2.out.trans hB3); clear ho3 hB3))
       rw [HGG.out] at HO3
       go_ret2
       first | exact Or.inr ⟨by trivial, v3, rfl, own_low HO3.out K3.frame.size, K3.frame.trans (HB3.out.mono K3.frame.size)⟩ | exact ⟨v3, rfl, own_low HO3.out K3.frame.size, K3.frame.trans (HB3.out.mono K3.frame.size)⟩
end Go.Proofs.YtjhdhfokhkcamaaGreat
