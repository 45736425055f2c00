/- Texts of mine, one behind the other, of each what is wanted. -/
import Derived.Test.YtjhdhfokhkcamaaGreatS00
import Derived.Test.YtjhdhfokhkcamaaGreatShelf
import Derived.Test.YtjhdhfokhkcamaaGreatS01
import Derived.Test.YtjhdhfokhkcamaaGreatS02
import Derived.Test.YtjhdhfokhkcamaaGreatS03
import Derived.Test.YtjhdhfokhkcamaaGreatS04
import Derived.Test.YtjhdhfokhkcamaaGreatS06
import Derived.Test.YtjhdhfokhkcamaaGreatS07
import Derived.Test.YtjhdhfokhkcamaaGreatS08
import Derived.Test.YtjhdhfokhkcamaaGreatS09
import Derived.Test.YtjhdhfokhkcamaaGreatS10
import Derived.Test.YtjhdhfokhkcamaaGreatS14
import Derived.Test.YtjhdhfokhkcamaaGreatS15
import Derived.Test.YtjhdhfokhkcamaaGreatS17
import Derived.Test.YtjhdhfokhkcamaaGreatS18
import Derived.Test.YtjhdhfokhkcamaaGreatS23
namespace Go.Proofs.YtjhdhfokhkcamaaGreat
open Go.RowKit Go.Proofs
set_option linter.unusedVariables false
set_option maxRecDepth 100000
set_option maxRecDepth 100000
theorem oes_split (l : List OpM) (k : Nat) (h : k < l.length) : oes l = oes (l.take k) ++ (encO l[k] ++ oes (l.drop (k + 1))) := by
 rw [← oes_cons, ← oes_append, ← List.drop_eq_getElem_cons h, List.take_append_drop]
theorem oes_set2 (l : List OpM) (k : Nat) (h : k < l.length) (s f : Int) : ((oes l).set (k * 4 + 2) (.int .i64 s)).set (k * 4 + 3) (.int .i64 f) = oes (chgAt l k s f) := by
 have hk : (oes (l.take k)).length = k * 4 := by rw [oes_len, List.length_take]; omega
 rw [chgAt_at h, oes_split l k h, oes_append, oes_cons]
 rw [List.set_append_right _ _ (by omega), List.set_append_right _ _ (by omega), hk]
 have e1 : k * 4 + 2 - k * 4 = 2 := by omega
 have e2 : k * 4 + 3 - k * 4 = 3 := by omega
 rw [e1, e2]
 rfl
theorem own_opat {w : World} {B e n g cap : Nat} {m : List OpM} (h : w.ownsRow B e 4 (.slice (some ⟨g, 0, none⟩) n cap) m.length (oes m)) : n = m.length ∧ m.length ≤ cap ∧ cap ≤ maxLen ∧ OpSl w (some ⟨g, 0, none⟩) m := by
 obtain ⟨a, c, h1, h2, h3, h4, _⟩ := own_op h
 injection h1 with h1 h5 h6
 subst h1 h5 h6
 exact ⟨rfl, h2, h3, h4⟩
theorem GotO.at_ {w w' : World} {m : List OpM} {n cap gr : Nat} (hn : n = m.length) (h2 : m.length ≤ cap) (h3 : cap ≤ maxLen) (h4 : OpSl w' (some ⟨gr, 0, none⟩) m) (hb : Below w.heap.size w w') : GotO w w' m (.slice (some ⟨gr, 0, none⟩) n cap) := by
 subst hn
 exact ⟨_, _, rfl, h2, h3, (fun h => by cases h), h4, hb⟩
theorem own_opcell {w : World} {B e n g cap : Nat} {m : List OpM} (h : w.ownsRow B e 4 (.slice (some ⟨g, 0, none⟩) n cap) m.length (oes m)) {k : Nat} (hk : k < m.length) :
  (w.cell? ⟨g, k * 4, none⟩ = some (.int .i64 m[k].n) ∧ w.cell? ⟨g, k * 4 + 1, none⟩ = some (.string m[k].u) ∧ w.cell? ⟨g, k * 4 + 2, none⟩ = some (.int .i64 m[k].s) ∧ w.cell? ⟨g, k * 4 + 3, none⟩ = some (.int .i64 m[k].f)) ∧ (∀ j, w.frozen? ⟨g, j, none⟩ = false) := by
 obtain ⟨rfl, -, -, h4⟩ := own_opat h
 obtain ⟨b, off, e1, _, h0, h1, h2, h3⟩ := h4.at_ hk
 cases e1
 rw [Nat.zero_add] at h0 h1 h2 h3
 exact ⟨⟨h0, h1, h2, h3⟩, fun j => h.frozenAt j⟩
theorem cell_next {w : World} {g i j : Nat} {v x : Value} (h : w.cell? ⟨g, j, none⟩ = some x) (hij : ¬ i = j) : (w.setCell ⟨g, i, none⟩ v).cell? ⟨g, j, none⟩ = some x :=
 (World.cell?_setCell_other w _ _ _ (fun e => hij (by injection e))).trans h
set_option maxHeartbeats 1000000 in
theorem oclone_any (a : Option Addr) (c : Nat) (l : List OpM) (w : World) (hr : OpSl w a l) (h0 : 0 < l.length) (hl : l.length ≤ 100000) :
  Calls Tryz.prog 116 #[.slice a l.length c] w fun e w' => ∃ g cap, e = .returned (.slice (some ⟨g, 0, none⟩) l.length cap) ∧ w.heap.size ≤ g ∧ w'.ownsRow w.heap.size 112 4 (.slice (some ⟨g, 0, none⟩) l.length cap) l.length (oes l) ∧ Below w.heap.size w w' := by
 obtain ⟨i0, hi, hz0, hz1, hz2⟩ := info_parts infoOp
 have q22 : ∀ (W : World) (a : Option Addr) (n c n' c' : Nat), (binOp .eql 33 (.slice a n c) (.slice none n' c')).run Tryz.prog W = .ok (.bool a.isNone) W := fun W a n c n' c' => Lib.run_eql_slice_nil W _ _ a n c n' c' Tryz.underlying33
 obtain ⟨b, off, rfl, -, -, -, -, -⟩ := hr.at_ h0
 have HO := Lib.hid (own_emptyO w 112 4 w.heap.size (Nat.le_refl _))
 have HB := Lib.hid (below_one w (.cells #[] 112))
 have HX1 := Lib.hid (hr.below HB.out)
 clear hr
 go_enter Tryz.func116, Tryz.ntmps116
 go_wp2_with (at_builtin; refine wpList_append_op _ rfl (.tmp 5) (.tmp 6) 33 rfl w.heap.size 112 i0 _ Tryz.underlying33 hi hz0 hz1 hz2 rfl _ [] rfl HO.out (some ⟨b, off, none⟩) c l rfl HX1.out (fun h => by cases h) (by simpa using (show l.length ≤ 1000000 by omega)) HB.out.size ?_; intro v2 w2 hown2 hB2)
 have HO2 := Lib.hid hown2
 have HB2 := Lib.hid (HB.out.trans hB2)
 clear hown2 hB2
 go_wp2
 go_ret
 have ho := HO2.out
 rw [List.nil_append] at ho
 rcases ho.2 with ⟨rfl, hn⟩ | ⟨g, cap, cur, rfl, hg, _⟩
 ·omega
 ·exact ⟨g, cap, rfl, hg, ho, HB2.out⟩
set_option maxHeartbeats 4000000 in
theorem change_more (a : Option Addr) (c : Nat) (l : List OpM) (n : Int) (u : ByteArray) (s t : Int) (w : World) (hr : OpSl w a l) (hl : l.length ≤ 500) (hc : l.length ≤ c) (hcm : c ≤ maxLen) :
  Calls Tryz.prog 111 #[.slice a l.length c, .int .i64 n, .string u, .int .i64 s, .int .i64 t] w fun e w' => ∃ v, e = .returned (.tuple #[v, stV (fndS l n u t), .int .i64 (findC l n u)]) ∧ GotN w w' (chgR l n u s t) v := by
 have HF := Lib.hid (fun W (h : OpSl W a l) => find_any a c l n u W h (by omega))
 have HZ := Lib.hid (Zb.new w (.int .i64 0) (.int .i64 0) (.int .i64 0) (.int .i64 0) 86)
 have HR := Lib.hid hr
 have hCR : chgR l n u s t = if findC l n u = 0 then chgAt l (findP l n u) s t else [] := rfl
 have hFS : fndS l n u t = if findC l n u = 0 then stayO (findE l n u) t else stZ := rfl
 unfold maxLen at hcm
 clear hr
 rcases fc_three l n u with ⟨hc0, k, hk, -, -, -, he, hp⟩ | ⟨hc0, he, hp⟩
 ·rw [hc0, hp] at HF
  rw [hc0, if_pos rfl, hp] at hCR
  rw [hc0, if_pos rfl, he] at hFS
  rw [hc0, hCR, hFS]
  have HCL := Lib.hid (fun W (h : OpSl W a l) => oclone_any a c l W h (by omega) (by omega))
  have HST := Lib.hid (fun W => stay_any l[k] t W)
  unfold opV stV stayO at HST
  unfold stV stayO
  dsimp only at *
  have d1 : ((0 : Int) != 0) = false := rfl
  clear hCR hFS hc0 he hp
  go_enter Tryz.func111, Tryz.ntmps111
  go_wp2_with fail
  refine (HF.out _ (HR.out.below HZ.out.frame)).mono ?_
  rintro e w1 ⟨rfl, hB⟩
  have K1 := Lib.hid (HZ.out.below hB)
  clear hB HF HZ
  go_wp2_with fail
  refine (HCL.out _ (HR.out.below K1.out.frame)).mono ?_
  rintro e w2 ⟨gr, cap, rfl, hge, ho, hB⟩
  obtain ⟨⟨-, -, o2, o3⟩, of⟩ := own_opcell ho hk
  have f2 := of (k * 4 + 2)
  have f3 := of (k * 4 + 3)
  have q3 : (w2.setCell ⟨gr, k * 4 + 2, none⟩ (.int .i64 s)).cell? ⟨gr, k * 4 + 3, none⟩ = some (.int .i64 l[k].f) := cell_next o3 (by omega)
  have HB3 := Lib.hid ((hB.setCell (p := ⟨gr, k * 4 + 2, none⟩) hge (.int .i64 s)).setCell (p := ⟨gr, k * 4 + 3, none⟩) hge (.int .i64 t))
  have HO3 := Lib.hid ((ho.stored (k * 4 + 2) (.int .i64 s)).1.stored (k * 4 + 3) (.int .i64 t)).1
  rw [oes_set2 l k hk] at HO3
  have K3 := Lib.hid (K1.out.below HB3.out)
  obtain ⟨b, off, rfl, hbl, hc0, hc1, hc2, hc3⟩ := (HR.out.below K3.out.frame).at_ hk
  have hgrl : gr < w2.heap.size := (ho.lt gr rfl).2
  have HGE := Lib.hid hge
  have HLT := Lib.hid K1.out.lt
  have hcap : l.length ≤ cap := (own_opat ho).2.1
  have hcap2 : cap ≤ maxLen := (own_opat ho).2.2.1
  have HCAP := Lib.hid hcap2
  clear of ho hB HCL hge hcap2
  go_wp2_with fail
  refine (HST.out _).mono ?_
  rintro e w4 ⟨rfl, hB4⟩
  have K4 := K3.out.below hB4
  obtain ⟨z0, z1, z2, z3⟩ := K4.cells
  obtain ⟨y0, y1, y2, y3⟩ := K4.free
  have HL := Lib.hid (K4.loadS (.int .i64 l[k].f) (.int .i64 t) (.int .i64 l[k].n) (.int .i64 l[k].s))
  have HS := Lib.hid (K4.set (.int .i64 l[k].f) (.int .i64 t) (.int .i64 l[k].n) (.int .i64 l[k].s))
  have hlen := chgAt_len l k s t
  have HO3' : Hid (((w2.setCell ⟨gr, k * 4 + 2, none⟩ (.int .i64 s)).setCell ⟨gr, k * 4 + 3, none⟩ (.int .i64 t)).ownsRow w1.heap.size 112 4 (.slice (some ⟨gr, 0, none⟩) l.length cap) (chgAt l k s t).length (oes (chgAt l k s t))) := by
   unfold Hid
   rw [hlen]
   exact HO3.out
  have HSL := Lib.hid ((own_opat (own_below HO3'.out hB4)).2.2.2.setO w.heap.size (.int .i64 l[k].f) (.int .i64 t) (.int .i64 l[k].n) (.int .i64 l[k].s) (fun b o e => by cases e; have h1 := HGE.out; have h2 := HLT.out; omega))
  have HLEN := Lib.hid hlen
  unfold setO at HL HS HSL
  clear HO3 HO3' hB4 K4 HST hlen HB3 K3 HR hc0 hc1 hc2 hc3 q3 o2 o3 f2 f3
  go_wp2
  refine bodyPost_ret (v := .tuple #[.slice (some ⟨gr, 0, none⟩) l.length cap, .agg #[.int .i64 l[k].f, .int .i64 t, .int .i64 l[k].n, .int .i64 l[k].s], .int .i64 0]) ?_ rfl ⟨_, rfl, GotO.at_ HLEN.out.symm (by rw [HLEN.out]; exact hcap) HCAP.out HSL.out HS.out, fun b o q n e => by cases e; have h1 := HGE.out; have h2 := HLT.out; omega⟩
  rw [results_tmp_cell_tmp rfl]
  simp [asAddr, Result.andThen, HL.out]
 ·rw [hp] at HF
  have hne : ¬ findC l n u = 0 := by rcases hc0 with h | h <;> rw [h] <;> decide
  rw [if_neg hne] at hCR hFS
  rw [hCR, hFS]
  have d1 : (findC l n u != 0) = true := by rcases hc0 with h | h <;> rw [h] <;> rfl
  generalize findC l n u = C at *
  unfold stV stZ
  dsimp only
  clear hCR hFS hc0 he hp hne
  go_enter Tryz.func111, Tryz.ntmps111
  go_wp2_with fail
  refine (HF.out _ (HR.out.below HZ.out.frame)).mono ?_
  rintro e w1 ⟨rfl, hB⟩
  have K1 := HZ.out.below hB
  have HL := Lib.hid (K1.loadS (.int .i64 0) (.int .i64 0) (.int .i64 0) (.int .i64 0))
  have HS := Lib.hid (K1.set (.int .i64 0) (.int .i64 0) (.int .i64 0) (.int .i64 0))
  obtain ⟨z0, z1, z2, z3⟩ := K1.cells
  obtain ⟨f0, f1, f2, f3⟩ := K1.free
  have hgl := K1.lt
  unfold setO at HL HS
  clear HF hB K1
  go_wp2
  refine bodyPost_ret (v := .tuple #[.slice none 0 0, .agg #[.int .i64 0, .int .i64 0, .int .i64 0, .int .i64 0], .int .i64 C]) ?_ rfl ⟨_, rfl, GotO.nil HS.out, fun b o q n e => by cases e⟩
  rw [results_tmp_cell_tmp rfl]
  simp [asAddr, Result.andThen, HL.out]
theorem change_any (a : Option Addr) (c : Nat) (l : List OpM) (n : Int) (u : ByteArray) (s t : Int) (w : World) (hr : OpSl w a l) (hl : l.length ≤ 500) (hc : l.length ≤ c) (hcm : c ≤ maxLen) :
  Calls Tryz.prog 111 #[.slice a l.length c, .int .i64 n, .string u, .int .i64 s, .int .i64 t] w fun e w' => ∃ v, e = .returned (.tuple #[v, stV (fndS l n u t), .int .i64 (findC l n u)]) ∧ GotO w w' (chgR l n u s t) v :=
 (change_more a c l n u s t w hr hl hc hcm).mono fun e w' ⟨v, h1, h2⟩ => ⟨v, h1, h2.1⟩
theorem oconcat2 (x y : Option Addr) (A B : List OpM) (c1 c2 n1 n2 : Nat) (W : World) (g : Nat) (h1 : n1 = A.length) (h2 : n2 = B.length) (hS : Sl W (some ⟨g, 0, none⟩) [.slice x n1 c1, .slice y n2 c2]) (hA : OpSl W x A) (hB : OpSl W y B) (k1 : x = none → c1 = 0) (k2 : y = none → c2 = 0) (hl : A.length + B.length ≤ 1000) :
  Calls Tryz.prog 162 #[.slice (some ⟨g, 0, none⟩) 2 2] W fun e w' => ∃ v, e = .returned v ∧ w'.ownsRow W.heap.size 112 4 v (A ++ B).length (oes (A ++ B)) ∧ Below W.heap.size W w' := by
 subst h1 h2
 have hcat : catO [⟨x, A, c1⟩, ⟨y, B, c2⟩] = A ++ B := by simp [catO]
 have hlen : (catO [⟨x, A, c1⟩, ⟨y, B, c2⟩]).length ≤ 100000 := by rw [hcat, List.length_append]; omega
 refine (oconcat_any (some ⟨g, 0, none⟩) 2 [⟨x, A, c1⟩, ⟨y, B, c2⟩] W hS ?_ (by show 2 ≤ _; decide) hlen).mono ?_
 ·intro r hr
  simp only [List.mem_cons, List.mem_nil_iff, or_false] at hr
  rcases hr with rfl | rfl
  ·exact ⟨hA, k1⟩
  ·exact ⟨hB, k2⟩
 ·rintro e w' ⟨v, rfl, ho, hbb⟩
  rw [hcat] at ho
  exact ⟨v, rfl, ho, hbb⟩
structure CzK (w : World) (g : Nat) (a : Option Addr) (l : List OpM) (W : World) : Prop where
 zb : Zb w g (.int .i64 0) (.int .i64 0) (.int .i64 0) (.int .i64 0) 86 W
 row : OpSl W a l
theorem CzK.below {w W W' : World} {g : Nat} {a : Option Addr} {l : List OpM} (h : CzK w g a l W) (q : Below W.heap.size W W') : CzK w g a l W' := ⟨h.zb.below q, h.row.below q⟩
theorem CzK.at_ {w W : World} {g b off : Nat} {l : List OpM} (h : CzK w g (some ⟨b, off, none⟩) l W) {k : Nat} (hk : k < l.length) : W.cell? ⟨b, off + k * 4, none⟩ = some (.int .i64 l[k].n) ∧ W.cell? ⟨b, off + k * 4 + 1, none⟩ = some (.string l[k].u) ∧ W.cell? ⟨b, off + k * 4 + 2, none⟩ = some (.int .i64 l[k].s) ∧ W.cell? ⟨b, off + k * 4 + 3, none⟩ = some (.int .i64 l[k].f) := by
 obtain ⟨b', off', e, _, h0⟩ := h.row.at_ hk
 cases e
 exact h0
theorem CzK.far {w W : World} {g b off : Nat} {l : List OpM} (h : CzK w g (some ⟨b, off, none⟩) l W) (hb : ¬ b = g) (x0 x1 x2 x3 : Value) {k : Nat} (hk : k < l.length) :
  (setO W g x0 x1 x2 x3).cell? ⟨b, off + k * 4, none⟩ = some (.int .i64 l[k].n) ∧ (setO W g x0 x1 x2 x3).cell? ⟨b, off + k * 4 + 1, none⟩ = some (.string l[k].u) ∧ (setO W g x0 x1 x2 x3).cell? ⟨b, off + k * 4 + 2, none⟩ = some (.int .i64 l[k].s) ∧ (setO W g x0 x1 x2 x3).cell? ⟨b, off + k * 4 + 3, none⟩ = some (.int .i64 l[k].f) := by
 obtain ⟨h0, h1, h2, h3⟩ := h.at_ hk
 exact ⟨(setO_cell W g x0 x1 x2 x3 (p := ⟨b, off + k * 4, none⟩) hb).trans h0, (setO_cell W g x0 x1 x2 x3 (p := ⟨b, off + k * 4 + 1, none⟩) hb).trans h1, (setO_cell W g x0 x1 x2 x3 (p := ⟨b, off + k * 4 + 2, none⟩) hb).trans h2, (setO_cell W g x0 x1 x2 x3 (p := ⟨b, off + k * 4 + 3, none⟩) hb).trans h3⟩
theorem GotO.far {w W : World} {m : List OpM} {v : Value} {B e g : Nat} (h : W.ownsRow B e 4 v m.length (oes m)) (hg : g < B) (x0 x1 x2 x3 : Value) (hb : Below w.heap.size w (setO W g x0 x1 x2 x3)) : GotO w (setO W g x0 x1 x2 x3) m v := by
 have hlt := h.lt
 obtain ⟨x, q, rfl, h2, h3, h4, h5⟩ := own_op h
 refine ⟨x, q, rfl, h2, h3, h5, h4.setO g x0 x1 x2 x3 (fun b o e => ?_), hb⟩
 subst e
 have := (hlt b rfl).1
 omega
set_option maxHeartbeats 4000000 in
theorem close_more (a : Option Addr) (c : Nat) (l : List OpM) (n : Int) (u : ByteArray) (t : Int) (w : World) (hr : OpSl w a l) (hl : l.length ≤ 500) (hc : l.length ≤ c) (hcm : c ≤ maxLen) :
  Calls Tryz.prog 140 #[.slice a l.length c, .int .i64 n, .string u, .int .i64 t] w fun e w' => ∃ v, e = .returned (.tuple #[v, stV (fndS l n u t), .int .i64 (findC l n u)]) ∧ GotN w w' (cloR l n u) v := by
 have HF := Lib.hid (fun W (h : OpSl W a l) => find_any a c l n u W h (by omega))
 have HZ := Lib.hid (Zb.new w (.int .i64 0) (.int .i64 0) (.int .i64 0) (.int .i64 0) 86)
 have HR := Lib.hid hr
 have hCR : cloR l n u = if findC l n u = 0 then cutAt l (findP l n u) else [] := rfl
 have hFS : fndS l n u t = if findC l n u = 0 then stayO (findE l n u) t else stZ := rfl
 unfold maxLen at hcm
 clear hr
 rcases fc_three l n u with ⟨hc0, k, hk, -, -, -, he, hp⟩ | ⟨hc0, he, hp⟩
 ·rw [hc0, hp] at HF
  rw [hc0, if_pos rfl, hp] at hCR
  rw [hc0, if_pos rfl, he] at hFS
  rw [hc0, hCR, hFS]
  have HST := Lib.hid (fun W => stay_any l[k] t W)
  unfold opV stV stayO at HST
  unfold stV stayO
  dsimp only at *
  have d1 : ((0 : Int) != 0) = false := rfl
  clear hCR hFS hc0 he hp
  go_enter Tryz.func140, Tryz.ntmps140
  go_wp2_with fail
  refine (HF.out _ (HR.out.below HZ.out.frame)).mono ?_
  rintro e w1 ⟨rfl, hB⟩
  have K1Z := HZ.out.below hB
  have K1 : CzK w w.heap.size a l w1 := ⟨K1Z, HR.out.below K1Z.frame⟩
  obtain ⟨b, off, rfl, hbg, -, -, -, -⟩ := HR.out.at_ hk
  have HPS := Lib.hid (fun W (h : CzK w w.heap.size (some ⟨b, off, none⟩) l W) x0 x1 x2 x3 => h.far (by omega) x0 x1 x2 x3 hk)
  have HLO := Lib.hid (fun W (h : CzK w w.heap.size (some ⟨b, off, none⟩) l W) => h.zb.loadS (.int .i64 l[k].f) (.int .i64 t) (.int .i64 l[k].n) (.int .i64 l[k].s))
  have HGF := Lib.hid (fun W v B (ho : W.ownsRow B 112 4 v (cutAt l k).length (oes (cutAt l k))) (hg : w.heap.size < B) (h : CzK w w.heap.size (some ⟨b, off, none⟩) l W) => (show GotN w _ _ _ from ⟨GotO.far ho hg (.int .i64 l[k].f) (.int .i64 t) (.int .i64 l[k].n) (.int .i64 l[k].s) (h.zb.set (.int .i64 l[k].f) (.int .i64 t) (.int .i64 l[k].n) (.int .i64 l[k].s)), fun b' o' n' q' e => by subst e; have := (ho.lt b' rfl).1; omega⟩))
  unfold setO at HPS HLO HGF
  clear hbg
  have K1D := K1.below (Below.refl _ _).drew
  have HP0 := Lib.hid (fun W (h : CzK w w.heap.size (some ⟨b, off, none⟩) l W) => h.at_ hk)
  obtain ⟨k1, hk1⟩ : ∃ k1, k1 = k + 1 := ⟨_, rfl⟩
  have HK1 := Lib.hid hk1
  have hpw : IntKind.i64.wrap ((k : Int) + 1) = (k1 : Int) := by rw [IntWalk.i64_in] <;> omega
  have hk1l : k1 ≤ l.length := by omega
  have hkk : k < k1 := by omega
  have hz1 : (0 : Int) ≤ (k : Int) := by omega
  have hz2 : (k : Int) ≤ (l.length : Int) := by omega
  have hz3 : (k : Int) ≤ (c : Int) := by omega
  have hz4 : (l.length : Int) ≤ (c : Int) := by omega
  have hz5 : (0 : Int) ≤ (k1 : Int) := by omega
  have hz6 : (k1 : Int) ≤ (l.length : Int) := by omega
  have hz7 : (k1 : Int) ≤ (c : Int) := by omega
  have hz8 : k1 ≤ c := by omega
  have hz9 : k ≤ c := by omega
  clear hB HF HZ K1Z hk1
  generalize w.heap.size = g at *
  by_cases hck : c = k1
  ·have hl1 : l.length = k1 := by omega
   have HL1 := Lib.hid hl1
   subst hck
   have HAC : Hid (∀ W gb, Sl W (some ⟨gb, 0, none⟩) (#[.slice (some ⟨b, off, none⟩) k c, .slice (some ⟨b, off, none⟩) 0 0] : Array Value).toList → OpSl W (some ⟨b, off, none⟩) l → Calls Tryz.prog 162 #[.slice (some ⟨gb, 0, none⟩) 2 2] W fun e w' => ∃ v, e = .returned v ∧ w'.ownsRow W.heap.size 112 4 v (cutAt l k).length (oes (cutAt l k)) ∧ Below W.heap.size W w') := fun W gb hS hs => by
    have h := oconcat2 (some ⟨b, off, none⟩) (some ⟨b, off, none⟩) (l.take k) (l.drop (k + 1)) c 0 k 0 W gb (by rw [List.length_take]; omega) (by have := HK1.out; have := HL1.out; rw [List.length_drop]; omega) hS (hs.take k) (by have := HK1.out; have := HL1.out; rw [List.drop_of_length_le (by omega)]; exact OpSl.nil _ _) (fun h => by cases h) (fun h => by cases h) (by have := HL1.out; rw [List.length_take, List.length_drop]; omega)
    exact h
   clear HR
   go_wp2_with fail
   go_region_held3 (fun W => W.cell? ⟨b, off + k * 4, none⟩ = some (.int .i64 l[k].n) ∧ W.cell? ⟨b, off + k * 4 + 1, none⟩ = some (.string l[k].u) ∧ W.cell? ⟨b, off + k * 4 + 2, none⟩ = some (.int .i64 l[k].s) ∧ W.cell? ⟨b, off + k * 4 + 3, none⟩ = some (.int .i64 l[k].f))
    (first | with_reducible exact HP0.out _ K1D | with_reducible exact HPS.out _ KA _ _ _ _ | with_reducible exact HPS.out _ KB _ _ _ _ | with_reducible exact HP0.out _ (K1D.below (below_one _ _)) | with_reducible exact HP0.out _ (K1.below (below_one _ _).drew) | with_reducible exact HP0.out _ KA | with_reducible exact HP0.out _ KB | with_reducible exact HP0.out _ (KB.below (below_one _ _)) | with_reducible exact HP0.out _ (KB.below (below_one _ _).drew))
    (first | (go_at_call 162; (first | (with_reducible refine (HAC.out _ _ HSL KB.row).mono ?_; rintro r w5 ⟨v, rfl, ho5, hb5⟩; have KA := KB.below hb5) | (with_reducible refine (HAC.out _ _ (sl_lit _ _ _) (KB.row.below (below_one _ _))).mono ?_; rintro r w5 ⟨v, rfl, ho5, hb5⟩; have KA := (KB.below (below_one _ _)).below hb5) | (with_reducible refine (HAC.out _ _ (sl_drewO _ _ _) (K1.row.below (below_one _ _).drew)).mono ?_; rintro r w5 ⟨v, rfl, ho5, hb5⟩; have KA := (K1.below (below_one _ _).drew).below hb5)); have HO5 := Lib.hid ho5; have HGV := Lib.hid (KA.zb.ge); obtain ⟨z0, z1, z2, z3⟩ := KA.zb.cells; obtain ⟨y0, y1, y2, y3⟩ := KA.zb.free; have hgl := KA.zb.lt) | (go_at_call 148; refine (HST.out _).mono ?_; rintro r w4 ⟨rfl, hb4⟩; (first | (with_reducible have KB := KA.below hb4) | (with_reducible have KB := (K1.below (below_one _ _).drew).below hb4; have HSL := (sl_drewO _ _ _).below hb4) | (with_reducible have KB := K1D.below hb4)); obtain ⟨z0, z1, z2, z3⟩ := KB.zb.cells; obtain ⟨y0, y1, y2, y3⟩ := KB.zb.free; have hgl := KB.zb.lt))
   have HL := Lib.hid (HLO.out _ KB)
   have HGO := Lib.hid (HGF.out w4 v _ (own_below HO5.out hb4) (by show g < (w1.alloc _).heap.size; rw [size1]; have := K1.zb.lt; omega) KB)
   clear HLO HGF HPS HP0 KA KB K1 K1D ho5 hb5 hb4 HO5 HAC
   go_wp2
   refine bodyPost_ret (v := .tuple #[v, .agg #[.int .i64 l[k].f, .int .i64 t, .int .i64 l[k].n, .int .i64 l[k].s], .int .i64 0]) ?_ rfl ⟨_, rfl, HGO.out⟩
   rw [results_tmp_cell_tmp rfl]
   simp [asAddr, Result.andThen, HL.out]
  ·have hck2 : k1 < c := by omega
   have HAC : Hid (∀ W gb, Sl W (some ⟨gb, 0, none⟩) (#[.slice (some ⟨b, off, none⟩) k c, .slice (some ⟨b, off + k1 * 4, none⟩) (l.length - k1) (c - k1)] : Array Value).toList → OpSl W (some ⟨b, off, none⟩) l → Calls Tryz.prog 162 #[.slice (some ⟨gb, 0, none⟩) 2 2] W fun e w' => ∃ v, e = .returned v ∧ w'.ownsRow W.heap.size 112 4 v (cutAt l k).length (oes (cutAt l k)) ∧ Below W.heap.size W w') := fun W gb hS hs => oconcat2 (some ⟨b, off, none⟩) (some ⟨b, off + k1 * 4, none⟩) (l.take k) (l.drop (k + 1)) c (c - k1) k (l.length - k1) W gb (by rw [List.length_take]; omega) (by have := HK1.out; rw [List.length_drop]; omega) hS (hs.take k) (by rw [HK1.out]; exact hs.drop (k + 1)) (fun h => by cases h) (fun h => by cases h) (by rw [List.length_take, List.length_drop]; omega)
   clear HR
   go_wp2_with fail
   go_region_held3 (fun W => W.cell? ⟨b, off + k * 4, none⟩ = some (.int .i64 l[k].n) ∧ W.cell? ⟨b, off + k * 4 + 1, none⟩ = some (.string l[k].u) ∧ W.cell? ⟨b, off + k * 4 + 2, none⟩ = some (.int .i64 l[k].s) ∧ W.cell? ⟨b, off + k * 4 + 3, none⟩ = some (.int .i64 l[k].f))
    (first | with_reducible exact HP0.out _ K1D | with_reducible exact HPS.out _ KA _ _ _ _ | with_reducible exact HPS.out _ KB _ _ _ _ | with_reducible exact HP0.out _ (K1D.below (below_one _ _)) | with_reducible exact HP0.out _ (K1.below (below_one _ _).drew) | with_reducible exact HP0.out _ KA | with_reducible exact HP0.out _ KB | with_reducible exact HP0.out _ (KB.below (below_one _ _)) | with_reducible exact HP0.out _ (KB.below (below_one _ _).drew))
    (first | (go_at_call 162; (first | (with_reducible refine (HAC.out _ _ HSL KB.row).mono ?_; rintro r w5 ⟨v, rfl, ho5, hb5⟩; have KA := KB.below hb5) | (with_reducible refine (HAC.out _ _ (sl_lit _ _ _) (KB.row.below (below_one _ _))).mono ?_; rintro r w5 ⟨v, rfl, ho5, hb5⟩; have KA := (KB.below (below_one _ _)).below hb5) | (with_reducible refine (HAC.out _ _ (sl_drewO _ _ _) (K1.row.below (below_one _ _).drew)).mono ?_; rintro r w5 ⟨v, rfl, ho5, hb5⟩; have KA := (K1.below (below_one _ _).drew).below hb5)); have HO5 := Lib.hid ho5; have HGV := Lib.hid (KA.zb.ge); obtain ⟨z0, z1, z2, z3⟩ := KA.zb.cells; obtain ⟨y0, y1, y2, y3⟩ := KA.zb.free; have hgl := KA.zb.lt) | (go_at_call 148; refine (HST.out _).mono ?_; rintro r w4 ⟨rfl, hb4⟩; (first | (with_reducible have KB := KA.below hb4) | (with_reducible have KB := (K1.below (below_one _ _).drew).below hb4; have HSL := (sl_drewO _ _ _).below hb4) | (with_reducible have KB := K1D.below hb4)); obtain ⟨z0, z1, z2, z3⟩ := KB.zb.cells; obtain ⟨y0, y1, y2, y3⟩ := KB.zb.free; have hgl := KB.zb.lt))
   have HL := Lib.hid (HLO.out _ KB)
   have HGO := Lib.hid (HGF.out w4 v _ (own_below HO5.out hb4) (by show g < (w1.alloc _).heap.size; rw [size1]; have := K1.zb.lt; omega) KB)
   clear HLO HGF HPS HP0 KA KB K1 K1D ho5 hb5 hb4 HO5 HAC
   go_wp2
   refine bodyPost_ret (v := .tuple #[v, .agg #[.int .i64 l[k].f, .int .i64 t, .int .i64 l[k].n, .int .i64 l[k].s], .int .i64 0]) ?_ rfl ⟨_, rfl, HGO.out⟩
   rw [results_tmp_cell_tmp rfl]
   simp [asAddr, Result.andThen, HL.out]
 ·rw [hp] at HF
  have hne : ¬ findC l n u = 0 := by rcases hc0 with h | h <;> rw [h] <;> decide
  rw [if_neg hne] at hCR hFS
  rw [hCR, hFS]
  have d1 : (findC l n u != 0) = true := by rcases hc0 with h | h <;> rw [h] <;> rfl
  generalize findC l n u = C at *
  unfold stV stZ
  dsimp only
  clear hCR hFS hc0 he hp hne
  go_enter Tryz.func140, Tryz.ntmps140
  go_wp2_with fail
  refine (HF.out _ (HR.out.below HZ.out.frame)).mono ?_
  rintro e w1 ⟨rfl, hB⟩
  have K1 := HZ.out.below hB
  have HL := Lib.hid (K1.loadS (.int .i64 0) (.int .i64 0) (.int .i64 0) (.int .i64 0))
  have HS := Lib.hid (K1.set (.int .i64 0) (.int .i64 0) (.int .i64 0) (.int .i64 0))
  obtain ⟨z0, z1, z2, z3⟩ := K1.cells
  obtain ⟨f0, f1, f2, f3⟩ := K1.free
  have hgl := K1.lt
  unfold setO at HL HS
  clear HF hB K1
  go_wp2
  refine bodyPost_ret (v := .tuple #[.slice none 0 0, .agg #[.int .i64 0, .int .i64 0, .int .i64 0, .int .i64 0], .int .i64 C]) ?_ rfl ⟨_, rfl, GotO.nil HS.out, fun b o q n e => by cases e⟩
  rw [results_tmp_cell_tmp rfl]
  simp [asAddr, Result.andThen, HL.out]
theorem close_any (a : Option Addr) (c : Nat) (l : List OpM) (n : Int) (u : ByteArray) (t : Int) (w : World) (hr : OpSl w a l) (hl : l.length ≤ 500) (hc : l.length ≤ c) (hcm : c ≤ maxLen) :
  Calls Tryz.prog 140 #[.slice a l.length c, .int .i64 n, .string u, .int .i64 t] w fun e w' => ∃ v, e = .returned (.tuple #[v, stV (fndS l n u t), .int .i64 (findC l n u)]) ∧ GotO w w' (cloR l n u) v :=
 (close_more a c l n u t w hr hl hc hcm).mono fun e w' ⟨v, h1, h2⟩ => ⟨v, h1, h2.1⟩
end Go.Proofs.YtjhdhfokhkcamaaGreat
namespace Go.Proofs.YtjhdhfokhkcamaaGreat
open Go.RowKit Go.Proofs
set_option linter.unusedVariables false
set_option maxRecDepth 100000
set_option maxHeartbeats 2000000 in
theorem count_any11 (x : SaL) (w : World) (h : SaAt w x) (hs : stCnt x.m ≤ 1000000) (hu : x.us.length ≤ 1000000) :
  Calls Tryz.prog 33 #[saV x] w fun e w' => e = .returned (.int .i64 (stCnt x.m : Nat)) ∧ Below w.heap.size w w' := by
 have S0 := SB.new (Below.refl w.heap.size w) h 38
 have HS := Lib.hid S0
 obtain ⟨c0, c1, c2, c3, c4, c5⟩ := S0.cells
 have hs2 : x.op.length + x.su.length + x.tb.length + cntU (umS x.us) ≤ 1000000 := hs
 have HE : Hid (stCnt x.m = x.op.length + x.su.length + x.tb.length + cntU (umS x.us)) := rfl
 have hw1 : IntKind.i64.wrap ((x.op.length : Int) + (x.su.length : Int)) = (x.op.length : Int) + (x.su.length : Int) := by rw [IntWalk.i64_in] <;> omega
 have hw2 : IntKind.i64.wrap ((x.op.length : Int) + (x.su.length : Int) + (x.tb.length : Int)) = ((x.op.length + x.su.length + x.tb.length : Nat) : Int) := by rw [IntWalk.i64_in] <;> omega
 have HU := Lib.hid S0.at_.us
 have HFR := Lib.hid S0.frame
 have HT := Lib.hid (fun j (hj : j < (umS x.us).length) => cntU_take (umS x.us) j hj)
 have HL := Lib.hid (umS_len x.us)
 have HLE : Hid (∀ j, cntU ((umS x.us).take j) ≤ cntU (umS x.us)) := fun j => by
  have := cntU_append ((umS x.us).take j) ((umS x.us).drop j)
  rw [List.take_append_drop] at this
  omega
 have HM : Hid (∀ j (h1 : j < x.us.length) (h2 : j < (umS x.us).length), ((umS x.us)[j]).l.length = x.us[j].l.length) := fun j h1 h2 => by simp [umS, UsL.m]
 unfold saV saC at *
 clear h hs S0
 obtain ⟨n0, hn0⟩ : ∃ n0, n0 = x.op.length + x.su.length + x.tb.length := ⟨_, rfl⟩
 rw [← hn0] at hw2 hs2 HE
 clear HS
 generalize x.ua = ua at *
 go_enter Tryz.func33, Tryz.ntmps33
 go_wp2
 go_loopw [3, 20] (fun v i wr => ∃ (j s : Nat), j ≤ x.us.length ∧ i = .int .i64 j ∧ v = .int .i64 s ∧ s ≤ 1000000 ∧ Hid (s = n0 + cntU ((umS x.us).take j)) ∧ Hid (Below w.heap.size w wr) ∧ Hid (UsSl wr ua x.us)) (fun _ i _ => x.us.length - (intOf i).toNat)
 case atStart => exact ⟨0, n0, by omega, rfl, congrArg (Value.int .i64) (by omega), by omega, by simp [Hid, cntU], HFR.out, HU.out⟩
 case round =>
  obtain ⟨j, s, hj, rfl, rfl, hsm, HSS, HB, HUU⟩ := hrel
  by_cases hjl : j < x.us.length
  ·obtain ⟨b, off, rfl, hbl, hc0, hc1, -⟩ := HUU.out.get hjl
   have hnx : s + x.us[j].l.length ≤ 1000000 := by
    have h1 := HT.out j (by rw [HL.out]; exact hjl)
    have h2 := HLE.out (j + 1)
    have h3 := HSS.out
    have h4 := HM.out j hjl (by rw [HL.out]; exact hjl)
    omega
   have HN : Hid (s + x.us[j].l.length = n0 + cntU ((umS x.us).take (j + 1))) := by
    have h1 := HT.out j (by rw [HL.out]; exact hjl)
    have h3 := HSS.out
    have h4 := HM.out j hjl (by rw [HL.out]; exact hjl)
    unfold Hid
    omega
   have hb1 := below_one wr (.cells #[.string x.us[j].u, .slice x.us[j].a x.us[j].l.length x.us[j].c] 89)
   have HB1 := Lib.hid (HB.out.trans (hb1.mono HB.out.size))
   have HU1 := Lib.hid (HUU.out.below hb1)
   clear hb1 HM HLE HT HSS HUU
   generalize x.us[j] = y at *
   have hwr : IntKind.i64.wrap ((s : Int) + (y.l.length : Int)) = ((s + y.l.length : Nat) : Int) := by rw [IntWalk.i64_in] <;> omega
   go_wp2
   go_roundw
   case rel => exact ⟨j + 1, s + y.l.length, by omega, by go_num, by first | rfl | go_num, hnx, HN, HB1.out, HU1.out⟩
   case measure => simp [intOf]; omega
  ·obtain rfl : j = x.us.length := by omega
   have hE2 : s = stCnt x.m := by
    have h3 := HSS.out
    rw [List.take_of_length_le (by rw [HL.out]; exact Nat.le_refl _)] at h3
    rw [HE.out]
    exact h3
   have HE2 := Lib.hid hE2
   clear hE2 HM HLE HT HSS
   go_wp2
   go_ret
   exact ⟨by rw [← HE2.out]; rfl, HB.out⟩
def latS (op : List OpM) (now n : Int) : Int := if h : op.findIdx (hasN n) < op.length then op[op.findIdx (hasN n)].f else now
def v4 (a b c d : Int) (i : Nat) : Int := if i = 0 then a else if i = 1 then b else if i = 2 then c else d
theorem arr_v4 (a b c d : Int) : arr4 (v4 a b c d) = #[.int .i64 a, .int .i64 b, .int .i64 c, .int .i64 d] := rfl
def stayB (s : SaM) (x : StM) : Bool := wiB (v4 x.f x.t x.n x.s) (v4 0 0 1 1) (v4 s.now (latS s.op s.now x.n) 999 4)
def staysB (s : SaM) (l : List StM) : Bool := decide (0 < l.length) && (decide (RiseS l) && l.all (stayB s))
def timesB (s : SaM) (e : EnM) : Bool := decide (0 ≤ e.f) && (decide (e.f ≤ s.now) && (decide (e.t ≤ s.now) || (e.t == 1099511627776)))
def tombB (s : SaM) (x : TbM) : Bool := decide (0 ≤ x.a) && decide (x.a ≤ s.now)
def fromB (s : SaM) (e : OpM) : Bool := decide (e.f ≤ s.now)
set_option maxHeartbeats 2000000 in
theorem latest_any (x : SaL) (n : Int) (w : World) (h : SaAt w x) (hl : x.op.length ≤ 100000) :
  Calls Tryz.prog 134 #[saV x, .int .i64 n] w fun e w' => e = .returned (.int .i64 (latS x.op x.now n)) ∧ Below w.heap.size w w' := by
 obtain ⟨now, hor, oa, op, oc, ua, us, uc, sa, su, sc, ta, tb, tc⟩ := x
 have S0 := SB.new (Below.refl w.heap.size w) h 38
 have hb := below_one (w.alloc (.cells (saC ⟨now, hor, oa, op, oc, ua, us, uc, sa, su, sc, ta, tb, tc⟩) 38)) (.cells #[.int .i64 n] 3)
 have S1 := S0.below hb
 have hcap : CapO ((w.alloc (.cells (saC ⟨now, hor, oa, op, oc, ua, us, uc, sa, su, sc, ta, tb, tc⟩) 38)).alloc (.cells #[.int .i64 n] 3)) (w.heap.size + 1) (.int .i64 n) := ⟨by have := cell_of_row ((w.alloc (.cells (saC ⟨now, hor, oa, op, oc, ua, us, uc, sa, su, sc, ta, tb, tc⟩) 38)).alloc (.cells #[.int .i64 n] 3)) (w.alloc (.cells (saC ⟨now, hor, oa, op, oc, ua, us, uc, sa, su, sc, ta, tb, tc⟩) 38)).heap.size 0 _ _ (0, 0) (heap_alloc_new _ _); rw [size1] at this; exact this, by rw [size1, size1]; omega⟩
 have HF := Lib.hid (find_op oa oc op 182 (w.heap.size + 1) (hasN n) (fun V => CapO V (w.heap.size + 1) (.int .i64 n)) _ S1.at_.op hcap (by exact Nat.le_trans hl (by decide)) (call_known Tryz.func182 rfl) (fun W W' h q => h.below q) (fun y hy V h => c_latest y n (w.heap.size + 1) V h))
 have HS := Lib.hid S1
 have hle : op.findIdx (hasN n) ≤ op.length := List.findIdx_le_length
 have HE : Hid (latS op now n = if h : op.findIdx (hasN n) < op.length then op[op.findIdx (hasN n)].f else now) := rfl
 obtain ⟨c0, c1, c2, c3, c4, c5⟩ := S1.cells
 unfold saV saC at *
 dsimp only at *
 clear h S0 S1 hb hcap
 generalize op.findIdx (hasN n) = k at *
 by_cases hk : k < op.length
 ·have HE2 : Hid (latS op now n = op[k].f) := by have := HE.out; rwa [dif_pos hk] at this
  have d1 : ((k : Int) == (op.length : Int)) = false := by rw [beq_eq_false_iff_ne]; omega
  clear HE
  go_enter Tryz.func134, Tryz.ntmps134
  go_wp2_with fail
  refine HF.out.mono ?_
  rintro e w2 ⟨rfl, hB⟩
  have S2 := HS.out.below hB
  clear c0 c1 c2 c3 c4 c5
  obtain ⟨b, off, rfl, hbl, hc0, hc1, hc2, hc3⟩ := S2.at_.op.at_ hk
  obtain ⟨c0, c1, c2, c3, c4, c5⟩ := S2.cells
  have HB := Lib.hid S2.frame
  clear S2 hB HS HF
  dsimp only at *
  go_wp2
  go_ret
  exact ⟨by rw [HE2.out]; rfl, HB.out⟩
 ·have HE2 : Hid (latS op now n = now) := by have := HE.out; rwa [dif_neg hk] at this
  have d1 : ((k : Int) == (op.length : Int)) = true := by rw [beq_iff_eq]; omega
  clear HE
  go_enter Tryz.func134, Tryz.ntmps134
  go_wp2_with fail
  refine HF.out.mono ?_
  rintro e w2 ⟨rfl, hB⟩
  have S2 := HS.out.below hB
  clear c0 c1 c2 c3 c4 c5
  obtain ⟨c0, c1, c2, c3, c4, c5⟩ := S2.cells
  have HB := Lib.hid S2.frame
  clear S2 hB HS HF
  dsimp only at *
  go_wp2
  go_ret
  exact ⟨by rw [HE2.out]; rfl, HB.out⟩
set_option maxHeartbeats 1000000 in
theorem c_right1 (y : OpM) (x : SaL) (w0 : World) (g : Nat) (W : World) (h : SB w0 g 38 x W) :
  Calls Tryz.prog 61 #[.agg #[.int .i64 y.n, .string y.u, .int .i64 y.s, .int .i64 y.f], .pointer (some ⟨g, 0, none⟩)] W fun r w' => r = .returned (.bool (fromB x.m y)) ∧ Below W.heap.size W w' := by
 have hb := below_one W (.cells #[.int .i64 y.n, .string y.u, .int .i64 y.s, .int .i64 y.f] 112)
 obtain ⟨c0, -⟩ := (h.below hb).cells
 have HB := Lib.hid hb
 have HE : Hid (decide (y.f ≤ x.now) = fromB x.m y) := rfl
 clear hb h
 generalize fromB x.m y = r at *
 generalize x.now = nw at *
 go_enter Tryz.func61, Tryz.ntmps61
 go_wp2
 go_ret
 exact ⟨retB HE.out, HB.out⟩
set_option maxHeartbeats 1000000 in
theorem c_right4 (y : TbM) (x : SaL) (w0 : World) (g : Nat) (W : World) (h : SB w0 g 38 x W) :
  Calls Tryz.prog 74 #[.agg #[.string y.u, .int .i64 y.a], .pointer (some ⟨g, 0, none⟩)] W fun r w' => r = .returned (.bool (tombB x.m y)) ∧ Below W.heap.size W w' := by
 have hb := below_one W (.cells #[.string y.u, .int .i64 y.a] 87)
 obtain ⟨c0, -⟩ := (h.below hb).cells
 have HB := Lib.hid hb
 have HE : Hid ((decide (0 ≤ y.a) && decide (y.a ≤ x.now)) = tombB x.m y) := rfl
 clear hb h
 generalize tombB x.m y = r at *
 generalize x.now = nw at *
 obtain ⟨yu, ya⟩ := y
 dsimp only at *
 by_cases h1 : 0 ≤ ya
 ·have d1 : decide (0 ≤ ya) = true := decide_eq_true h1
  rw [d1, Bool.true_and] at HE
  clear h1
  go_enter Tryz.func74, Tryz.ntmps74
  go_wp2
  go_ret
  exact ⟨retB HE.out, HB.out⟩
 ·have d1 : decide (0 ≤ ya) = false := decide_eq_false h1
  rw [d1, Bool.false_and] at HE
  clear h1
  go_enter Tryz.func74, Tryz.ntmps74
  go_wp2
  go_ret
  exact ⟨retB HE.out, HB.out⟩
set_option maxHeartbeats 2000000 in
theorem rightTimes_any (x : SaL) (y : EnM) (w : World) (h : SaAt w x) :
  Calls Tryz.prog 70 #[saV x, .agg #[.string y.w, .string y.u, .int .i64 y.f, .int .i64 y.t]] w fun r w' => r = .returned (.bool (timesB x.m y)) ∧ Below w.heap.size w w' := by
 have S0 := SB.new (Below.refl w.heap.size w) h 38
 have hb := below_one (w.alloc (.cells (saC x) 38)) (.cells #[.string y.w, .string y.u, .int .i64 y.f, .int .i64 y.t] 123)
 have S1 := S0.below hb
 obtain ⟨c0, -⟩ := S1.cells
 have HB := Lib.hid S1.frame
 have HE : Hid ((decide (0 ≤ y.f) && (decide (y.f ≤ x.now) && (decide (y.t ≤ x.now) || (y.t == 1099511627776)))) = timesB x.m y) := rfl
 unfold saV saC at *
 clear h S0 S1 hb
 generalize timesB x.m y = r at *
 generalize x.now = nw at *
 obtain ⟨yw, yu, yf, yt⟩ := y
 dsimp only at *
 by_cases h1 : 0 ≤ yf
 ·have d1 : decide (0 ≤ yf) = true := decide_eq_true h1
  rw [d1, Bool.true_and] at HE
  by_cases h2 : yf ≤ nw
  ·have d2 : decide (yf ≤ nw) = true := decide_eq_true h2
   rw [d2, Bool.true_and] at HE
   by_cases h3 : yt ≤ nw
   ·have d3 : decide (yt ≤ nw) = true := decide_eq_true h3
    rw [d3, Bool.true_or] at HE
    clear h1 h2 h3
    go_enter Tryz.func70, Tryz.ntmps70
    go_wp2
    go_ret
    exact ⟨retB HE.out, HB.out⟩
   ·have d3 : decide (yt ≤ nw) = false := decide_eq_false h3
    rw [d3, Bool.false_or] at HE
    clear h1 h2 h3
    go_enter Tryz.func70, Tryz.ntmps70
    go_wp2
    go_ret
    exact ⟨retB HE.out, HB.out⟩
  ·have d2 : decide (yf ≤ nw) = false := decide_eq_false h2
   rw [d2, Bool.false_and] at HE
   clear h1 h2
   go_enter Tryz.func70, Tryz.ntmps70
   go_wp2
   go_ret
   exact ⟨retB HE.out, HB.out⟩
 ·have d1 : decide (0 ≤ yf) = false := decide_eq_false h1
  rw [d1, Bool.false_and] at HE
  clear h1
  go_enter Tryz.func70, Tryz.ntmps70
  go_wp2
  go_ret
  exact ⟨retB HE.out, HB.out⟩
set_option maxHeartbeats 1000000 in
theorem c_right3 (y : EnM) (x : SaL) (w0 : World) (g : Nat) (W : World) (h : SB w0 g 38 x W) :
  Calls Tryz.prog 69 #[.agg #[.string y.w, .string y.u, .int .i64 y.f, .int .i64 y.t], .pointer (some ⟨g, 0, none⟩)] W fun r w' => r = .returned (.bool (timesB x.m y)) ∧ Below W.heap.size W w' := by
 have hb := below_one W (.cells #[.string y.w, .string y.u, .int .i64 y.f, .int .i64 y.t] 123)
 have S1 := h.below hb
 obtain ⟨c0, c1, c2, c3, c4, c5⟩ := S1.cells
 have HC := Lib.hid (fun V h => rightTimes_any x y V h)
 have HS := Lib.hid S1
 have HB := Lib.hid hb
 unfold saV saC at HC
 clear h S1 hb
 go_enter Tryz.func69, Tryz.ntmps69
 go_wp2_with fail
 refine (HC.out _ HS.out.at_).mono ?_
 rintro r w2 ⟨rfl, hB⟩
 go_wp2
 go_ret
 exact ⟨rfl, HB.out.trans (hB.mono HB.out.size)⟩
set_option maxHeartbeats 4000000 in
theorem c_rightStays (y : StM) (x : SaL) (w0 : World) (g : Nat) (W : World) (h : SB w0 g 38 x W) (hl : x.op.length ≤ 100000) :
  Calls Tryz.prog 133 #[.agg #[.int .i64 y.f, .int .i64 y.t, .int .i64 y.n, .int .i64 y.s], .pointer (some ⟨g, 0, none⟩)] W fun r w' => r = .returned (.bool (stayB x.m y)) ∧ Below W.heap.size W w' := by
 obtain ⟨yf, yt, yn, ys⟩ := y
 have hgl0 := h.lt
 have hb := below_one W (.cells #[.int .i64 yf, .int .i64 yt, .int .i64 yn, .int .i64 ys] 86)
 have K0 := h.below hb
 have hy : ∀ V, Below (W.alloc (.cells #[.int .i64 yf, .int .i64 yt, .int .i64 yn, .int .i64 ys] 86)).heap.size (W.alloc (.cells #[.int .i64 yf, .int .i64 yt, .int .i64 yn, .int .i64 ys] 86)) V → V.heap[W.heap.size]? = some (.cells #[.int .i64 yf, .int .i64 yt, .int .i64 yn, .int .i64 ys] 86 (0, 0)) := fun V q => (q.block _ (by rw [size1]; omega)).trans (heap_alloc_new W _)
 have HY := Lib.hid (fun V q => cells4 (hy V q))
 have HB := Lib.hid hb
 have HL := Lib.hid (fun V (h : SaAt V x) => latest_any x yn V h hl)
 have HW := Lib.hid (fun V => within4_any (v4 yf yt yn ys) (v4 0 0 1 1) (v4 x.now (latS x.op x.now yn) 999 4) V)
 rw [arr_v4, arr_v4, arr_v4] at HW
 have HE : Hid (wiB (v4 yf yt yn ys) (v4 0 0 1 1) (v4 x.now (latS x.op x.now yn) 999 4) = stayB x.m ⟨yf, yt, yn, ys⟩) := rfl
 rw [HE.out] at HW
 have hsc : ∀ V, SB w0 g 38 x V → Below (W.alloc (.cells #[.int .i64 yf, .int .i64 yt, .int .i64 yn, .int .i64 ys] 86)).heap.size (W.alloc (.cells #[.int .i64 yf, .int .i64 yt, .int .i64 yn, .int .i64 ys] 86)) V → V.cell? ⟨g, 0, none⟩ = some (.int .i64 x.now) ∧ V.cell? ⟨g, 1, none⟩ = some (.int .i64 x.hor) ∧ V.cell? ⟨g, 2, none⟩ = some (.slice x.oa x.op.length x.oc) ∧ V.cell? ⟨g, 3, none⟩ = some (.slice x.ua x.us.length x.uc) ∧ V.cell? ⟨g, 4, none⟩ = some (.slice x.sa x.su.length x.sc) ∧ V.cell? ⟨g, 5, none⟩ = some (.slice x.ta x.tb.length x.tc) ∧ V.cell? ⟨W.heap.size, 2, none⟩ = some (.int .i64 yn) := fun V h q => by
  obtain ⟨a0, a1, a2, a3, a4, a5⟩ := h.cells
  exact ⟨a0, a1, a2, a3, a4, a5, (cells4 (hy V q)).2.2.1⟩
 have HSC := Lib.hid hsc
 have hz := Zb.new (W.alloc (.cells #[.int .i64 yf, .int .i64 yt, .int .i64 yn, .int .i64 ys] 86)) (.int .i64 0) (.int .i64 0) (.int .i64 0) (.int .i64 0) 108
 rw [size1] at hz
 have hb2 := below_one (W.alloc (.cells #[.int .i64 yf, .int .i64 yt, .int .i64 yn, .int .i64 ys] 86)) (.cells #[.int .i64 0, .int .i64 0, .int .i64 0, .int .i64 0] 108)
 have K9 := K0.drew
 have Q9 : Below (W.alloc (.cells #[.int .i64 yf, .int .i64 yt, .int .i64 yn, .int .i64 ys] 86)).heap.size (W.alloc (.cells #[.int .i64 yf, .int .i64 yt, .int .i64 yn, .int .i64 ys] 86)) (W.alloc (.cells #[.int .i64 yf, .int .i64 yt, .int .i64 yn, .int .i64 ys] 86)).drew := (Below.refl _ _).drew
 have K1 := (K0.below hb2).drew
 have Q1 : Below (W.alloc (.cells #[.int .i64 yf, .int .i64 yt, .int .i64 yn, .int .i64 ys] 86)).heap.size (W.alloc (.cells #[.int .i64 yf, .int .i64 yt, .int .i64 yn, .int .i64 ys] 86)) ((W.alloc (.cells #[.int .i64 yf, .int .i64 yt, .int .i64 yn, .int .i64 ys] 86)).alloc (.cells #[.int .i64 0, .int .i64 0, .int .i64 0, .int .i64 0] 108)).drew := hb2.drew
 have Z1 := hz.drew
 have HSF : Hid (∀ V, SB w0 g 38 x V → Below (W.alloc (.cells #[.int .i64 yf, .int .i64 yt, .int .i64 yn, .int .i64 ys] 86)).heap.size (W.alloc (.cells #[.int .i64 yf, .int .i64 yt, .int .i64 yn, .int .i64 ys] 86)) V → Zb (W.alloc (.cells #[.int .i64 yf, .int .i64 yt, .int .i64 yn, .int .i64 ys] 86)) (W.heap.size + 1) (.int .i64 0) (.int .i64 0) (.int .i64 0) (.int .i64 0) 108 V → ∀ a b c d, (fun V => V.cell? ⟨g, 0, none⟩ = some (.int .i64 x.now) ∧ V.cell? ⟨g, 1, none⟩ = some (.int .i64 x.hor) ∧ V.cell? ⟨g, 2, none⟩ = some (.slice x.oa x.op.length x.oc) ∧ V.cell? ⟨g, 3, none⟩ = some (.slice x.ua x.us.length x.uc) ∧ V.cell? ⟨g, 4, none⟩ = some (.slice x.sa x.su.length x.sc) ∧ V.cell? ⟨g, 5, none⟩ = some (.slice x.ta x.tb.length x.tc) ∧ V.cell? ⟨W.heap.size, 2, none⟩ = some (.int .i64 yn)) (setO V (W.heap.size + 1) a b c d)) := fun V h q hz a b c d => by
  obtain ⟨a0, a1, a2, a3, a4, a5, a6⟩ := HSC.out V h q
  have hg : g ≠ W.heap.size + 1 := by have := hgl0; omega
  have hw : W.heap.size ≠ W.heap.size + 1 := by omega
  exact ⟨(setO_cell V _ a b c d (p := ⟨g, 0, none⟩) hg).trans a0, (setO_cell V _ a b c d (p := ⟨g, 1, none⟩) hg).trans a1, (setO_cell V _ a b c d (p := ⟨g, 2, none⟩) hg).trans a2, (setO_cell V _ a b c d (p := ⟨g, 3, none⟩) hg).trans a3, (setO_cell V _ a b c d (p := ⟨g, 4, none⟩) hg).trans a4, (setO_cell V _ a b c d (p := ⟨g, 5, none⟩) hg).trans a5, (setO_cell V _ a b c d (p := ⟨W.heap.size, 2, none⟩) hw).trans a6⟩
 have HGN : Hid (g ≠ W.heap.size + 1) := by unfold Hid; omega
 unfold setO at HSF
 dsimp only at HSF
 unfold saV saC at HL
 clear h hb K0 hy hsc HE hz hb2
 generalize stayB x.m ⟨yf, yt, yn, ys⟩ = R at *
 generalize latS x.op x.now yn = z at *
 go_enter Tryz.func133, Tryz.ntmps133
 go_wp2_with fail
 go_region_held3 (fun V => V.cell? ⟨g, 0, none⟩ = some (.int .i64 x.now) ∧ V.cell? ⟨g, 1, none⟩ = some (.int .i64 x.hor) ∧ V.cell? ⟨g, 2, none⟩ = some (.slice x.oa x.op.length x.oc) ∧ V.cell? ⟨g, 3, none⟩ = some (.slice x.ua x.us.length x.uc) ∧ V.cell? ⟨g, 4, none⟩ = some (.slice x.sa x.su.length x.sc) ∧ V.cell? ⟨g, 5, none⟩ = some (.slice x.ta x.tb.length x.tc) ∧ V.cell? ⟨W.heap.size, 2, none⟩ = some (.int .i64 yn))
  (first | with_reducible exact HSC.out _ K9 Q9 | with_reducible exact HSC.out _ K1 Q1 | with_reducible exact HSC.out _ K2 Q2 | exact HSF.out _ K2 Q2 Z2 _ _ _ _ | exact HSC.out _ (K2.below (below_one _ _)) (Q2.trans ((below_one _ _).mono Q2.size)))
  (first | (go_at_call 134; (first | (refine (HL.out _ K1.at_).mono ?_; rintro e w2 ⟨rfl, h2⟩; have K2 := K1.below h2; have Q2 := Q1.trans (h2.mono Q1.size); have Z2 := Z1.below h2; obtain ⟨z0, z1, z2, z3⟩ := Z2.cells; obtain ⟨y0, y1, y2, y3⟩ := Z2.free; have hgl := Z2.lt) | (refine (HL.out _ K9.at_).mono ?_; rintro e w2 ⟨rfl, h2⟩; have K2 := K9.below h2; have Q2 := Q9.trans (h2.mono Q9.size)))))
 ·obtain ⟨e0, e1, e2, e3⟩ := HY.out (w2.alloc (.cells #[.int .i64 x.now, .int .i64 z, .int .i64 999, .int .i64 4] 108)) (Q2.trans ((below_one _ _).mono Q2.size))
  obtain ⟨d0, d1, d2, d3⟩ := cells4 (heap_alloc_new w2 (.cells #[.int .i64 x.now, .int .i64 z, .int .i64 999, .int .i64 4] 108))
  have HFB := Lib.hid (HB.out.trans ((Q2.trans ((below_one w2 (.cells #[.int .i64 x.now, .int .i64 z, .int .i64 999, .int .i64 4] 108)).mono Q2.size)).mono HB.out.size))
  clear HY HSC HSF HL HB
  go_wp2_with fail
  refine (HW.out _).mono ?_
  rintro e w3 ⟨rfl, h3⟩
  go_wp2
  go_ret
  exact ⟨rfl, HFB.out.trans (h3.mono HFB.out.size)⟩
 ·obtain ⟨b0, b1, b2, b3⟩ := HY.out w2 Q2
  have hne : W.heap.size ≠ W.heap.size + 1 := by omega
  have e0 := (setO_cell w2 (W.heap.size + 1) (.int .i64 x.now) (.int .i64 z) (.int .i64 999) (.int .i64 4) (p := ⟨W.heap.size, 0, none⟩) hne).trans b0
  have e1 := (setO_cell w2 (W.heap.size + 1) (.int .i64 x.now) (.int .i64 z) (.int .i64 999) (.int .i64 4) (p := ⟨W.heap.size, 1, none⟩) hne).trans b1
  have e2 := (setO_cell w2 (W.heap.size + 1) (.int .i64 x.now) (.int .i64 z) (.int .i64 999) (.int .i64 4) (p := ⟨W.heap.size, 2, none⟩) hne).trans b2
  have e3 := (setO_cell w2 (W.heap.size + 1) (.int .i64 x.now) (.int .i64 z) (.int .i64 999) (.int .i64 4) (p := ⟨W.heap.size, 3, none⟩) hne).trans b3
  have HFB := Lib.hid (HB.out.trans ((Z2.set (.int .i64 x.now) (.int .i64 z) (.int .i64 999) (.int .i64 4)).mono HB.out.size))
  have hr := World.rangeAt_setCells_same (w := w2) (W.heap.size + 1) 0 [.int .i64 x.now, .int .i64 z, .int .i64 999, .int .i64 4] Z2.there
  have d0 : (setO w2 (W.heap.size + 1) (.int .i64 x.now) (.int .i64 z) (.int .i64 999) (.int .i64 4)).cell? ⟨W.heap.size + 1, 0, none⟩ = some (.int .i64 x.now) := hr 0 _ rfl
  have d1 : (setO w2 (W.heap.size + 1) (.int .i64 x.now) (.int .i64 z) (.int .i64 999) (.int .i64 4)).cell? ⟨W.heap.size + 1, 1, none⟩ = some (.int .i64 z) := hr 1 _ rfl
  have d2 : (setO w2 (W.heap.size + 1) (.int .i64 x.now) (.int .i64 z) (.int .i64 999) (.int .i64 4)).cell? ⟨W.heap.size + 1, 2, none⟩ = some (.int .i64 999) := hr 2 _ rfl
  have d3 : (setO w2 (W.heap.size + 1) (.int .i64 x.now) (.int .i64 z) (.int .i64 999) (.int .i64 4)).cell? ⟨W.heap.size + 1, 3, none⟩ = some (.int .i64 4) := hr 3 _ rfl
  unfold setO at e0 e1 e2 e3 d0 d1 d2 d3 HFB
  clear HY HSC HSF HL HB b0 b1 b2 b3 hr z0 z1 z2 z3 y0 y1 y2 y3
  generalize hW4 : (((w2.setCell ⟨W.heap.size + 1, 0, none⟩ (.int .i64 x.now)).setCell ⟨W.heap.size + 1, 1, none⟩ (.int .i64 z)).setCell ⟨W.heap.size + 1, 2, none⟩ (.int .i64 999)).setCell ⟨W.heap.size + 1, 3, none⟩ (.int .i64 4) = w4 at *
  clear hW4
  go_wp2_with fail
  refine (HW.out _).mono ?_
  rintro e w3 ⟨rfl, h3⟩
  go_wp2
  go_ret
  exact ⟨rfl, HFB.out.trans (h3.mono HFB.out.size)⟩
set_option maxHeartbeats 2000000 in
theorem rightStays_any (x : SaL) (a : Option Addr) (c : Nat) (l : List StM) (w : World) (h : SaAt w x) (hr : StSl w a l) (hl : x.op.length ≤ 100000) (hn : l.length ≤ 100000) :
  Calls Tryz.prog 66 #[saV x, .slice a l.length c] w fun r w' => r = .returned (.bool (staysB x.m l)) ∧ Below w.heap.size w w' := by
 have S0 := SB.new (Below.refl w.heap.size w) h 38
 have HS := Lib.hid S0
 have HR := Lib.hid (hr.below (below_one w (.cells (saC x) 38)))
 have HRI := Lib.hid (fun V (h : StSl V a l) => rising8_any a c l V h (by omega))
 have HAL := Lib.hid (fun V (h : SB w w.heap.size 38 x V) (hq : StSl V a l) => all_st a c l 133 w.heap.size (stayB x.m) (fun V => SB w w.heap.size 38 x V) V hq h (by omega) (call_known Tryz.func133 rfl) (fun W W' h q => h.below q) (fun y hy V h => c_rightStays y x w w.heap.size V h hl))
 have HE : Hid ((decide (0 < l.length) && (decide (RiseS l) && l.all (stayB x.m))) = staysB x.m l) := rfl
 unfold saV saC at *
 clear h hr S0
 generalize staysB x.m l = R at *
 generalize l.all (stayB x.m) = b3 at *
 generalize decide (RiseS l) = b2 at *
 by_cases h1 : 0 < l.length
 ·have d1 : decide (0 < l.length) = true := decide_eq_true h1
  have d1' : decide ((0 : Int) < (l.length : Int)) = true := decide_eq_true (by omega)
  rw [d1, Bool.true_and] at HE
  clear h1
  cases b2 with
  | true =>
   rw [Bool.true_and] at HE
   go_enter Tryz.func66, Tryz.ntmps66
   go_wp2_with fail
   refine (HRI.out _ HR.out).mono ?_
   rintro e w2 ⟨rfl, h2⟩
   go_wp2_with fail
   refine (HAL.out _ (HS.out.below h2) (HR.out.below h2)).mono ?_
   rintro e w3 ⟨rfl, h3⟩
   go_wp2
   go_ret
   exact ⟨retB HE.out, ((HS.out.below h2).below h3).frame⟩
  | false =>
   rw [Bool.false_and] at HE
   go_enter Tryz.func66, Tryz.ntmps66
   go_wp2_with fail
   refine (HRI.out _ HR.out).mono ?_
   rintro e w2 ⟨rfl, h2⟩
   go_wp2
   go_ret
   exact ⟨retB HE.out, (HS.out.below h2).frame⟩
 ·have d1 : decide (0 < l.length) = false := decide_eq_false h1
  have d1' : decide ((0 : Int) < (l.length : Int)) = false := decide_eq_false (by omega)
  rw [d1, Bool.false_and] at HE
  clear h1
  go_enter Tryz.func66, Tryz.ntmps66
  go_wp2
  go_ret
  exact ⟨retB HE.out, HS.out.frame⟩
set_option maxHeartbeats 1000000 in
theorem c_right2 (y : UsL) (x : SaL) (w0 : World) (g : Nat) (W : World) (h : SB w0 g 38 x W) (hy : UsAt W y) (hl : x.op.length ≤ 100000) (hn : y.l.length ≤ 100000) :
  Calls Tryz.prog 65 #[.agg #[.string y.u, .slice y.a y.l.length y.c], .pointer (some ⟨g, 0, none⟩)] W fun r w' => r = .returned (.bool (staysB x.m y.l)) ∧ Below W.heap.size W w' := by
 have hb := below_one W (.cells #[.string y.u, .slice y.a y.l.length y.c] 89)
 have S1 := h.below hb
 obtain ⟨c0, c1, c2, c3, c4, c5⟩ := S1.cells
 have HC := Lib.hid (fun V h k => rightStays_any x y.a y.c y.l V h k hl hn)
 have HS := Lib.hid S1
 have HY := Lib.hid (hy.below hb)
 have HB := Lib.hid hb
 unfold saV saC at HC
 clear h S1 hb hy
 go_enter Tryz.func65, Tryz.ntmps65
 go_wp2_with fail
 refine (HC.out _ HS.out.at_ HY.out.st).mono ?_
 rintro r w2 ⟨rfl, hB⟩
 go_wp2
 go_ret
 exact ⟨rfl, HB.out.trans (hB.mono HB.out.size)⟩
end Go.Proofs.YtjhdhfokhkcamaaGreat
