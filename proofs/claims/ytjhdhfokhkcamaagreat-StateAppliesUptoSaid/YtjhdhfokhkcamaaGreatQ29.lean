/- Texts of mine, one behind the other, of each what is wanted. -/
import Derived.Test.YtjhdhfokhkcamaaGreatQ00
import Derived.Test.YtjhdhfokhkcamaaGreatShelf
import Derived.Test.YtjhdhfokhkcamaaGreatRows
import Derived.Test.YtjhdhfokhkcamaaGreatQ01
import Derived.Test.YtjhdhfokhkcamaaGreatQ02
import Derived.Test.YtjhdhfokhkcamaaGreatQ03
import Derived.Test.YtjhdhfokhkcamaaGreatQ05
import Derived.Test.YtjhdhfokhkcamaaGreatQ09
import Derived.Test.YtjhdhfokhkcamaaGreatQ11
import Derived.Test.YtjhdhfokhkcamaaGreatQ14
import Derived.Test.YtjhdhfokhkcamaaGreatQ15
import Derived.Test.YtjhdhfokhkcamaaGreatQ18
import Derived.Test.YtjhdhfokhkcamaaGreatQ20
import Derived.Test.YtjhdhfokhkcamaaGreatQ28
namespace Go.Proofs.YtjhdhfokhkcamaaGreat
open Go.RowKit Go.Proofs
set_option linter.unusedVariables false
set_option maxRecDepth 100000
set_option maxRecDepth 100000
theorem oconcat2 (x y : Option Addr) (A B : List OpM) (c1 c2 n1 n2 : Nat) (W : World) (g : Nat) (h1 : n1 = A.length) (h2 : n2 = B.length) (hS : Sl W (some ⟨g, 0, none⟩) [.slice x n1 c1, .slice y n2 c2]) (hA : OpSl W x A) (hB : OpSl W y B) (k1 : x = none → c1 = 0) (k2 : y = none → c2 = 0) (hl : A.length + B.length ≤ 1000) :
  Calls Tryz.prog 162 #[.slice (some ⟨g, 0, none⟩) 2 2] W fun e w' => ∃ v, e = .returned v ∧ w'.ownsRow W.heap.size 112 4 v (A ++ B).length (oes (A ++ B)) ∧ Below W.heap.size W w' := by
 subst h1 h2
 have hcat : catO [⟨x, A, c1⟩, ⟨y, B, c2⟩] = A ++ B := by simp [catO]
 have hlen : (catO [⟨x, A, c1⟩, ⟨y, B, c2⟩]).length ≤ 100000 := by rw [hcat, List.length_append]; omega
 refine (oconcat_any (some ⟨g, 0, none⟩) 2 [⟨x, A, c1⟩, ⟨y, B, c2⟩] W hS ?_ (by show 2 ≤ _; decide) hlen).mono ?_
 ·intro r hr
  simp only [List.mem_cons, List.mem_nil_iff, or_false] at hr
  rcases hr with rfl | rfl
  ·exact ⟨hA, k1⟩
  ·exact ⟨hB, k2⟩
 ·rintro e w' ⟨v, rfl, ho, hbb⟩
  rw [hcat] at ho
  exact ⟨v, rfl, ho, hbb⟩
structure CzK (w : World) (g : Nat) (a : Option Addr) (l : List OpM) (W : World) : Prop where
 zb : Zb w g (.int .i64 0) (.int .i64 0) (.int .i64 0) (.int .i64 0) 86 W
 row : OpSl W a l
theorem CzK.below {w W W' : World} {g : Nat} {a : Option Addr} {l : List OpM} (h : CzK w g a l W) (q : Below W.heap.size W W') : CzK w g a l W' := ⟨h.zb.below q, h.row.below q⟩
theorem CzK.at_ {w W : World} {g b off : Nat} {l : List OpM} (h : CzK w g (some ⟨b, off, none⟩) l W) {k : Nat} (hk : k < l.length) : W.cell? ⟨b, off + k * 4, none⟩ = some (.int .i64 l[k].n) ∧ W.cell? ⟨b, off + k * 4 + 1, none⟩ = some (.string l[k].u) ∧ W.cell? ⟨b, off + k * 4 + 2, none⟩ = some (.int .i64 l[k].s) ∧ W.cell? ⟨b, off + k * 4 + 3, none⟩ = some (.int .i64 l[k].f) := by
 obtain ⟨b', off', e, _, h0⟩ := h.row.at_ hk
 cases e
 exact h0
theorem CzK.far {w W : World} {g b off : Nat} {l : List OpM} (h : CzK w g (some ⟨b, off, none⟩) l W) (hb : ¬ b = g) (x0 x1 x2 x3 : Value) {k : Nat} (hk : k < l.length) :
  (setO W g x0 x1 x2 x3).cell? ⟨b, off + k * 4, none⟩ = some (.int .i64 l[k].n) ∧ (setO W g x0 x1 x2 x3).cell? ⟨b, off + k * 4 + 1, none⟩ = some (.string l[k].u) ∧ (setO W g x0 x1 x2 x3).cell? ⟨b, off + k * 4 + 2, none⟩ = some (.int .i64 l[k].s) ∧ (setO W g x0 x1 x2 x3).cell? ⟨b, off + k * 4 + 3, none⟩ = some (.int .i64 l[k].f) := by
 obtain ⟨h0, h1, h2, h3⟩ := h.at_ hk
 exact ⟨(setO_cell W g x0 x1 x2 x3 (p := ⟨b, off + k * 4, none⟩) hb).trans h0, (setO_cell W g x0 x1 x2 x3 (p := ⟨b, off + k * 4 + 1, none⟩) hb).trans h1, (setO_cell W g x0 x1 x2 x3 (p := ⟨b, off + k * 4 + 2, none⟩) hb).trans h2, (setO_cell W g x0 x1 x2 x3 (p := ⟨b, off + k * 4 + 3, none⟩) hb).trans h3⟩
theorem GotO.far {w W : World} {m : List OpM} {v : Value} {B e g : Nat} (h : W.ownsRow B e 4 v m.length (oes m)) (hg : g < B) (x0 x1 x2 x3 : Value) (hb : Below w.heap.size w (setO W g x0 x1 x2 x3)) : GotO w (setO W g x0 x1 x2 x3) m v := by
 have hlt := h.lt
 obtain ⟨x, q, rfl, h2, h3, h4, h5⟩ := own_op h
 refine ⟨x, q, rfl, h2, h3, h5, h4.setO g x0 x1 x2 x3 (fun b o e => ?_), hb⟩
 subst e
 have := (hlt b rfl).1
 omega
set_option maxHeartbeats 4000000 in
theorem close_more (a : Option Addr) (c : Nat) (l : List OpM) (n : Int) (u : ByteArray) (t : Int) (w : World) (hr : OpSl w a l) (hl : l.length ≤ 500) (hc : l.length ≤ c) (hcm : c ≤ maxLen) :
  Calls Tryz.prog 140 #[.slice a l.length c, .int .i64 n, .string u, .int .i64 t] w fun e w' => ∃ v, e = .returned (.tuple #[v, stV (fndS l n u t), .int .i64 (findC l n u)]) ∧ GotN w w' (cloR l n u) v := by
 have HF := Lib.hid (fun W (h : OpSl W a l) => find_any a c l n u W h (by omega))
 have HZ := Lib.hid (Zb.new w (.int .i64 0) (.int .i64 0) (.int .i64 0) (.int .i64 0) 86)
 have HR := Lib.hid hr
 have hCR : cloR l n u = if findC l n u = 0 then cutAt l (findP l n u) else [] := rfl
 have hFS : fndS l n u t = if findC l n u = 0 then stayO (findE l n u) t else stZ := rfl
 unfold maxLen at hcm
 clear hr
 rcases fc_three l n u with ⟨hc0, k, hk, -, -, -, he, hp⟩ | ⟨hc0, he, hp⟩
 ·rw [hc0, hp] at HF
  rw [hc0, if_pos rfl, hp] at hCR
  rw [hc0, if_pos rfl, he] at hFS
  rw [hc0, hCR, hFS]
  have HST := Lib.hid (fun W => stay_any l[k] t W)
  unfold opV stV stayO at HST
  unfold stV stayO
  dsimp only at *
  have d1 : ((0 : Int) != 0) = false := rfl
  clear hCR hFS hc0 he hp
  go_enter Tryz.func140, Tryz.ntmps140
  go_wp2_with fail
  refine (HF.out _ (HR.out.below HZ.out.frame)).mono ?_
  rintro e w1 ⟨rfl, hB⟩
  have K1Z := HZ.out.below hB
  have K1 : CzK w w.heap.size a l w1 := ⟨K1Z, HR.out.below K1Z.frame⟩
  obtain ⟨b, off, rfl, hbg, -, -, -, -⟩ := HR.out.at_ hk
  have HPS := Lib.hid (fun W (h : CzK w w.heap.size (some ⟨b, off, none⟩) l W) x0 x1 x2 x3 => h.far (by omega) x0 x1 x2 x3 hk)
  have HLO := Lib.hid (fun W (h : CzK w w.heap.size (some ⟨b, off, none⟩) l W) => h.zb.loadS (.int .i64 l[k].f) (.int .i64 t) (.int .i64 l[k].n) (.int .i64 l[k].s))
  have HGF := Lib.hid (fun W v B (ho : W.ownsRow B 112 4 v (cutAt l k).length (oes (cutAt l k))) (hg : w.heap.size < B) (h : CzK w w.heap.size (some ⟨b, off, none⟩) l W) => (show GotN w _ _ _ from ⟨GotO.far ho hg (.int .i64 l[k].f) (.int .i64 t) (.int .i64 l[k].n) (.int .i64 l[k].s) (h.zb.set (.int .i64 l[k].f) (.int .i64 t) (.int .i64 l[k].n) (.int .i64 l[k].s)), fun b' o' n' q' e => by subst e; have := (ho.lt b' rfl).1; omega⟩))
  unfold setO at HPS HLO HGF
  clear hbg
  have K1D := K1.below (Below.refl _ _).drew
  have HP0 := Lib.hid (fun W (h : CzK w w.heap.size (some ⟨b, off, none⟩) l W) => h.at_ hk)
  obtain ⟨k1, hk1⟩ : ∃ k1, k1 = k + 1 := ⟨_, rfl⟩
  have HK1 := Lib.hid hk1
  have hpw : IntKind.i64.wrap ((k : Int) + 1) = (k1 : Int) := by rw [IntWalk.i64_in] <;> omega
  have hk1l : k1 ≤ l.length := by omega
  have hkk : k < k1 := by omega
  have hz1 : (0 : Int) ≤ (k : Int) := by omega
  have hz2 : (k : Int) ≤ (l.length : Int) := by omega
  have hz3 : (k : Int) ≤ (c : Int) := by omega
  have hz4 : (l.length : Int) ≤ (c : Int) := by omega
  have hz5 : (0 : Int) ≤ (k1 : Int) := by omega
  have hz6 : (k1 : Int) ≤ (l.length : Int) := by omega
  have hz7 : (k1 : Int) ≤ (c : Int) := by omega
  have hz8 : k1 ≤ c := by omega
  have hz9 : k ≤ c := by omega
  clear hB HF HZ K1Z hk1
  generalize w.heap.size = g at *
  by_cases hck : c = k1
  ·have hl1 : l.length = k1 := by omega
   have HL1 := Lib.hid hl1
   subst hck
   have HAC : Hid (∀ W gb, Sl W (some ⟨gb, 0, none⟩) (#[.slice (some ⟨b, off, none⟩) k c, .slice (some ⟨b, off, none⟩) 0 0] : Array Value).toList → OpSl W (some ⟨b, off, none⟩) l → Calls Tryz.prog 162 #[.slice (some ⟨gb, 0, none⟩) 2 2] W fun e w' => ∃ v, e = .returned v ∧ w'.ownsRow W.heap.size 112 4 v (cutAt l k).length (oes (cutAt l k)) ∧ Below W.heap.size W w') := fun W gb hS hs => by
    have h := oconcat2 (some ⟨b, off, none⟩) (some ⟨b, off, none⟩) (l.take k) (l.drop (k + 1)) c 0 k 0 W gb (by rw [List.length_take]; omega) (by have := HK1.out; have := HL1.out; rw [List.length_drop]; omega) hS (hs.take k) (by have := HK1.out; have := HL1.out; rw [List.drop_of_length_le (by omega)]; exact OpSl.nil _ _) (fun h => by cases h) (fun h => by cases h) (by have := HL1.out; rw [List.length_take, List.length_drop]; omega)
    exact h
   clear HR
   go_wp2_with fail
   go_region_held3 (fun W => W.cell? ⟨b, off + k * 4, none⟩ = some (.int .i64 l[k].n) ∧ W.cell? ⟨b, off + k * 4 + 1, none⟩ = some (.string l[k].u) ∧ W.cell? ⟨b, off + k * 4 + 2, none⟩ = some (.int .i64 l[k].s) ∧ W.cell? ⟨b, off + k * 4 + 3, none⟩ = some (.int .i64 l[k].f))
    (first | with_reducible exact HP0.out _ K1D | with_reducible exact HPS.out _ KA _ _ _ _ | with_reducible exact HPS.out _ KB _ _ _ _ | with_reducible exact HP0.out _ (K1D.below (below_one _ _)) | with_reducible exact HP0.out _ (K1.below (below_one _ _).drew) | with_reducible exact HP0.out _ KA | with_reducible exact HP0.out _ KB | with_reducible exact HP0.out _ (KB.below (below_one _ _)) | with_reducible exact HP0.out _ (KB.below (below_one _ _).drew))
    (first | (go_at_call 162; (first | (with_reducible refine (HAC.out _ _ HSL KB.row).mono ?_; rintro r w5 ⟨v, rfl, ho5, hb5⟩; have KA := KB.below hb5) | (with_reducible refine (HAC.out _ _ (sl_lit _ _ _) (KB.row.below (below_one _ _))).mono ?_; rintro r w5 ⟨v, rfl, ho5, hb5⟩; have KA := (KB.below (below_one _ _)).below hb5) | (with_reducible refine (HAC.out _ _ (sl_drewO _ _ _) (K1.row.below (below_one _ _).drew)).mono ?_; rintro r w5 ⟨v, rfl, ho5, hb5⟩; have KA := (K1.below (below_one _ _).drew).below hb5)); have HO5 := Lib.hid ho5; have HGV := Lib.hid (KA.zb.ge); obtain ⟨z0, z1, z2, z3⟩ := KA.zb.cells; obtain ⟨y0, y1, y2, y3⟩ := KA.zb.free; have hgl := KA.zb.lt) | (go_at_call 148; refine (HST.out _).mono ?_; rintro r w4 ⟨rfl, hb4⟩; (first | (with_reducible have KB := KA.below hb4) | (with_reducible have KB := (K1.below (below_one _ _).drew).below hb4; have HSL := (sl_drewO _ _ _).below hb4) | (with_reducible have KB := K1D.below hb4)); obtain ⟨z0, z1, z2, z3⟩ := KB.zb.cells; obtain ⟨y0, y1, y2, y3⟩ := KB.zb.free; have hgl := KB.zb.lt))
   have HL := Lib.hid (HLO.out _ KB)
   have HGO := Lib.hid (HGF.out w4 v _ (own_below HO5.out hb4) (by show g < (w1.alloc _).heap.size; rw [size1]; have := K1.zb.lt; omega) KB)
   clear HLO HGF HPS HP0 KA KB K1 K1D ho5 hb5 hb4 HO5 HAC
   go_wp2
   refine bodyPost_ret (v := .tuple #[v, .agg #[.int .i64 l[k].f, .int .i64 t, .int .i64 l[k].n, .int .i64 l[k].s], .int .i64 0]) ?_ rfl ⟨_, rfl, HGO.out⟩
   rw [results_tmp_cell_tmp rfl]
   simp [asAddr, Result.andThen, HL.out]
  ·have hck2 : k1 < c := by omega
   have HAC : Hid (∀ W gb, Sl W (some ⟨gb, 0, none⟩) (#[.slice (some ⟨b, off, none⟩) k c, .slice (some ⟨b, off + k1 * 4, none⟩) (l.length - k1) (c - k1)] : Array Value).toList → OpSl W (some ⟨b, off, none⟩) l → Calls Tryz.prog 162 #[.slice (some ⟨gb, 0, none⟩) 2 2] W fun e w' => ∃ v, e = .returned v ∧ w'.ownsRow W.heap.size 112 4 v (cutAt l k).length (oes (cutAt l k)) ∧ Below W.heap.size W w') := fun W gb hS hs => oconcat2 (some ⟨b, off, none⟩) (some ⟨b, off + k1 * 4, none⟩) (l.take k) (l.drop (k + 1)) c (c - k1) k (l.length - k1) W gb (by rw [List.length_take]; omega) (by have := HK1.out; rw [List.length_drop]; omega) hS (hs.take k) (by rw [HK1.out]; exact hs.drop (k + 1)) (fun h => by cases h) (fun h => by cases h) (by rw [List.length_take, List.length_drop]; omega)
   clear HR
   go_wp2_with fail
   go_region_held3 (fun W => W.cell? ⟨b, off + k * 4, none⟩ = some (.int .i64 l[k].n) ∧ W.cell? ⟨b, off + k * 4 + 1, none⟩ = some (.string l[k].u) ∧ W.cell? ⟨b, off + k * 4 + 2, none⟩ = some (.int .i64 l[k].s) ∧ W.cell? ⟨b, off + k * 4 + 3, none⟩ = some (.int .i64 l[k].f))
    (first | with_reducible exact HP0.out _ K1D | with_reducible exact HPS.out _ KA _ _ _ _ | with_reducible exact HPS.out _ KB _ _ _ _ | with_reducible exact HP0.out _ (K1D.below (below_one _ _)) | with_reducible exact HP0.out _ (K1.below (below_one _ _).drew) | with_reducible exact HP0.out _ KA | with_reducible exact HP0.out _ KB | with_reducible exact HP0.out _ (KB.below (below_one _ _)) | with_reducible exact HP0.out _ (KB.below (below_one _ _).drew))
    (first | (go_at_call 162; (first | (with_reducible refine (HAC.out _ _ HSL KB.row).mono ?_; rintro r w5 ⟨v, rfl, ho5, hb5⟩; have KA := KB.below hb5) | (with_reducible refine (HAC.out _ _ (sl_lit _ _ _) (KB.row.below (below_one _ _))).mono ?_; rintro r w5 ⟨v, rfl, ho5, hb5⟩; have KA := (KB.below (below_one _ _)).below hb5) | (with_reducible refine (HAC.out _ _ (sl_drewO _ _ _) (K1.row.below (below_one _ _).drew)).mono ?_; rintro r w5 ⟨v, rfl, ho5, hb5⟩; have KA := (K1.below (below_one _ _).drew).below hb5)); have HO5 := Lib.hid ho5; have HGV := Lib.hid (KA.zb.ge); obtain ⟨z0, z1, z2, z3⟩ := KA.zb.cells; obtain ⟨y0, y1, y2, y3⟩ := KA.zb.free; have hgl := KA.zb.lt) | (go_at_call 148; refine (HST.out _).mono ?_; rintro r w4 ⟨rfl, hb4⟩; (first | (with_reducible have KB := KA.below hb4) | (with_reducible have KB := (K1.below (below_one _ _).drew).below hb4; have HSL := (sl_drewO _ _ _).below hb4) | (with_reducible have KB := K1D.below hb4)); obtain ⟨z0, z1, z2, z3⟩ := KB.zb.cells; obtain ⟨y0, y1, y2, y3⟩ := KB.zb.free; have hgl := KB.zb.lt))
   have HL := Lib.hid (HLO.out _ KB)
   have HGO := Lib.hid (HGF.out w4 v _ (own_below HO5.out hb4) (by show g < (w1.alloc _).heap.size; rw [size1]; have := K1.zb.lt; omega) KB)
   clear HLO HGF HPS HP0 KA KB K1 K1D ho5 hb5 hb4 HO5 HAC
   go_wp2
   refine bodyPost_ret (v := .tuple #[v, .agg #[.int .i64 l[k].f, .int .i64 t, .int .i64 l[k].n, .int .i64 l[k].s], .int .i64 0]) ?_ rfl ⟨_, rfl, HGO.out⟩
   rw [results_tmp_cell_tmp rfl]
   simp [asAddr, Result.andThen, HL.out]
 ·rw [hp] at HF
  have hne : ¬ findC l n u = 0 := by rcases hc0 with h | h <;> rw [h] <;> decide
  rw [if_neg hne] at hCR hFS
  rw [hCR, hFS]
  have d1 : (findC l n u != 0) = true := by rcases hc0 with h | h <;> rw [h] <;> rfl
  generalize findC l n u = C at *
  unfold stV stZ
  dsimp only
  clear hCR hFS hc0 he hp hne
  go_enter Tryz.func140, Tryz.ntmps140
  go_wp2_with fail
  refine (HF.out _ (HR.out.below HZ.out.frame)).mono ?_
  rintro e w1 ⟨rfl, hB⟩
  have K1 := HZ.out.below hB
  have HL := Lib.hid (K1.loadS (.int .i64 0) (.int .i64 0) (.int .i64 0) (.int .i64 0))
  have HS := Lib.hid (K1.set (.int .i64 0) (.int .i64 0) (.int .i64 0) (.int .i64 0))
  obtain ⟨z0, z1, z2, z3⟩ := K1.cells
  obtain ⟨f0, f1, f2, f3⟩ := K1.free
  have hgl := K1.lt
  unfold setO at HL HS
  clear HF hB K1
  go_wp2
  refine bodyPost_ret (v := .tuple #[.slice none 0 0, .agg #[.int .i64 0, .int .i64 0, .int .i64 0, .int .i64 0], .int .i64 C]) ?_ rfl ⟨_, rfl, GotO.nil HS.out, fun b o q n e => by cases e⟩
  rw [results_tmp_cell_tmp rfl]
  simp [asAddr, Result.andThen, HL.out]
theorem close_any (a : Option Addr) (c : Nat) (l : List OpM) (n : Int) (u : ByteArray) (t : Int) (w : World) (hr : OpSl w a l) (hl : l.length ≤ 500) (hc : l.length ≤ c) (hcm : c ≤ maxLen) :
  Calls Tryz.prog 140 #[.slice a l.length c, .int .i64 n, .string u, .int .i64 t] w fun e w' => ∃ v, e = .returned (.tuple #[v, stV (fndS l n u t), .int .i64 (findC l n u)]) ∧ GotO w w' (cloR l n u) v :=
 (close_more a c l n u t w hr hl hc hcm).mono fun e w' ⟨v, h1, h2⟩ => ⟨v, h1, h2.1⟩
theorem wpList_append_op2 {P : Program} (w : World) {ops : Array Oper} {rest : List Oper} {o : Oper} {a : Act} {Q : Exit → Act → World → Prop} (hgd : o.guard = none) (s x : Operand) (t : TypeId)
  (ho : o.op = .call { callee := .builtin .append, args := #[s, x], argTypes := #[t, t] })
  (base : Nat) (e : TypeId) (i : TypeInfo) (z : Value) (ht : P.underlying t = some (.slice e)) (hi : P.info? e = some i) (hz : i.zero = some z)
  (hsize : i.size = 4) (hby : i.bytes = 40) (hzs : z.cells.size = 4)
  (v : Value) (l : List OpM) (hs : a.eval s = v) (hown : w.ownsRow base e 4 v l.length (oes l))
  (A : Option Addr) (c : Nat) (m : List OpM) (n : Nat) (hn : n = m.length) (hx : a.eval x = .slice A n c) (hsl : OpSl w A m) (hnil : A = none → c = 0)
  (hlen : l.length + m.length ≤ 1000000) (hbase : base ≤ w.heap.size)
  (h : ∀ v' w', w'.ownsRow base e 4 v' (l ++ m).length (oes (l ++ m)) → Below base w w' → wpList P ops Q rest (a.put o.dst v') w') : wpList P ops Q (o :: rest) a w := by
 subst hn
 exact wpList_append_op w hgd s x t ho base e i z ht hi hz hsize hby hzs v l hs hown A c m hx hsl hnil hlen hbase h
theorem oown_snoc {w : World} {B : Nat} {e : TypeId} {v : Value} {m : List OpM} {x : OpM} (h : w.ownsRow B e 4 v (m.length + 1) (oes m ++ [.int .i64 x.n, .string x.u, .int .i64 x.s, .int .i64 x.f])) : w.ownsRow B e 4 v (m ++ [x]).length (oes (m ++ [x])) := by
 rw [List.length_append, oes_snoc]
 exact h
set_option maxHeartbeats 8000000 in
theorem ropen_any (a : Option Addr) (c : Nat) (l : List OpM) (e : OpM) (w : World) (hr : OpSl w a l) (hn : a = none → c = 0) (hl : l.length ≤ 500) (hc : l.length ≤ c) (hcm : c ≤ maxLen) :
  Calls Tryz.prog 121 #[.slice a l.length c, opV e] w fun r w' => ∃ v, r = .returned (.tuple #[v, .int .i64 (openC l e)]) ∧ GotO w w' (openR l e) v := by
 obtain ⟨i0, hi, hz0, hz1, hz2⟩ := info_parts infoOpR
 have HIF := Lib.hid (fun W (h : OpSl W a l) => rat_any a c l e.n W h (by omega))
 have HNil := Lib.hid hn
 have HK0 := Lib.hid (RsO.new (x := e) hr (Below.refl _ _) 75)
 have HSB : Hid (∀ W, RsO w w.heap.size e a l W → W.cell? ⟨w.heap.size, 0, none⟩ = some (.int .i64 e.n) ∧ W.cell? ⟨w.heap.size, 1, none⟩ = some (.string e.u) ∧ W.cell? ⟨w.heap.size, 2, none⟩ = some (.int .i64 e.s) ∧ W.cell? ⟨w.heap.size, 3, none⟩ = some (.int .i64 e.f)) := fun W h => h.box
 have HGA := Lib.hid (fun k (h : IsFst (abvN e.n) l k) => open_at h)
 have hDA := idxO_any (hasN e.n) l
 have hOC : openC l e = if l.any (hasN e.n) = true then 100 else if 16 ≤ l.length then 103 else 0 := rfl
 have hOR : openR l e = if openC l e = 0 then openS l e else [] := rfl
 unfold opV
 unfold maxLen at hcm
 generalize idxO (hasN e.n) l = ix at *
 cases hi2 : l.any (hasN e.n) with
 | true =>
  rw [hi2] at hDA
  rw [hi2, if_pos rfl] at hOC
  rw [hOC, if_neg (by decide)] at hOR
  rw [hOC, hOR]
  clear hr hn hi2 hOC hOR HGA
  go_enter Tryz.func121, Tryz.ntmps121
  obtain ⟨y0, y1, y2, y3⟩ := HSB.out _ HK0.out
  go_wp2_with fail
  refine (HIF.out _ HK0.out.row).mono ?_
  rintro r w1 ⟨rfl, hB⟩
  have K1 := HK0.out.below hB
  clear HIF hB y0 y1 y2 y3
  go_wp2
  go_ret2
  exact ⟨_, rfl, GotO.nil K1.frame⟩
 | false =>
  rw [hi2] at hDA
  rw [hi2, if_neg Bool.false_ne_true] at hOC
  by_cases h16 : 16 ≤ l.length
  ·rw [if_pos h16] at hOC
   rw [hOC, if_neg (by decide)] at hOR
   rw [hOC, hOR]
   have d1 : decide ((16 : Int) ≤ (l.length : Int)) = true := decide_eq_true (by omega)
   have d2 : decide ((l.length : Int) ≥ (16 : Int)) = true := decide_eq_true (by omega)
   clear hr hn hi2 hOC hOR HGA
   go_enter Tryz.func121, Tryz.ntmps121
   obtain ⟨y0, y1, y2, y3⟩ := HSB.out _ HK0.out
   go_wp2_with fail
   refine (HIF.out _ HK0.out.row).mono ?_
   rintro r w1 ⟨rfl, hB⟩
   have K1 := HK0.out.below hB
   clear HIF hB y0 y1 y2 y3
   go_wp2
   go_ret2
   exact ⟨_, rfl, GotO.nil K1.frame⟩
  ·rw [if_neg h16] at hOC
   rw [hOC, if_pos rfl] at hOR
   rw [hOC, hOR]
   have d1 : decide ((16 : Int) ≤ (l.length : Int)) = false := decide_eq_false (by omega)
   have d2 : decide ((l.length : Int) ≥ (16 : Int)) = false := decide_eq_false (by omega)
   generalize hG : openS l e = G at *
   clear hr hn hi2 hOC hOR h16 hG
   go_enter Tryz.func121, Tryz.ntmps121
   obtain ⟨y0, y1, y2, y3⟩ := HSB.out _ HK0.out
   go_wp2_with fail
   refine (HIF.out _ HK0.out.row).mono ?_
   rintro r w1 ⟨rfl, hB⟩
   have K1 := HK0.out.below hB
   clear HIF hB y0 y1 y2 y3
   have HK1 := Lib.hid K1
   clear HK0 K1
   generalize w.heap.size = g at *
   go_wp2
   clear d1 d2 hDA
   go_loopw [6] (fun i wr => ∃ (j : Nat), j ≤ l.length ∧ i = .int .i64 j ∧ Hid (LoTo (abvN e.n) l j) ∧ Hid (RsO w g e a l wr)) (fun i _ => l.length - (intOf i).toNat)
   case atStart => exact ⟨0, by omega, rfl, LoTo.zero _ _, HK1.out⟩
   case round =>
    clear HK1
    obtain ⟨j, hj, rfl, HO, HK⟩ := hrel
    by_cases hjl : j < l.length
    ·obtain ⟨b, off, rfl, -, hc0, hc1, hc2, hc3⟩ := HK.out.row.at_ hjl
     obtain ⟨x0, x1, x2, x3⟩ := HSB.out _ HK.out
     have HNX := Lib.hid (HO.out.next hjl)
     have HHT := Lib.hid (HO.out.hit hjl)
     have dj : decide ((j : Int) < (l.length : Int)) = true := decide_eq_true (by omega)
     generalize l[j] = x at *
     by_cases h3 : e.n < x.n
     ·have HP := Lib.hid (HHT.out (decide_eq_true h3))
      have d4 : decide (x.n ≤ e.n) = false := decide_eq_false (by omega)
      clear HNX HHT HO h3 HNil
      go_wp2
      go_quiet (fail)
      have K3 := HK.out.below (Drew.below (w' := wr.drewN nq) ⟨nq, rfl⟩ _)
      generalize wr.drewN nq = K3W at *
      clear hc0 hc1 hc2 hc3 x0 x1 x2 x3 dj d4 HK
      have hcj : ¬ c = j := by omega
      have hcj2 : j < c := by omega
      have hpc : j ≤ c := by omega
      have hz1' : (0 : Int) ≤ (j : Int) := by omega
      have hz2' : (j : Int) ≤ (l.length : Int) := by omega
      have hz3' : (j : Int) ≤ (c : Int) := by omega
      have hz4' : (l.length : Int) ≤ (c : Int) := by omega
      obtain ⟨m1, e1⟩ : ∃ m, m = l.take j := ⟨_, rfl⟩
      obtain ⟨m2, e2⟩ : ∃ m, m = l.drop j := ⟨_, rfl⟩
      have HL1 : Hid (j = m1.length) := by unfold Hid; rw [e1, List.length_take]; omega
      have HL2 : Hid (l.length - j = m2.length) := by unfold Hid; rw [e2, List.length_drop]
      have hk1 : (some ⟨b, off, none⟩ : Option Addr) = none → c = 0 := fun h => (by cases h)
      have hk2 : (some ⟨b, off + j * 4, none⟩ : Option Addr) = none → c - j = 0 := fun h => (by cases h)
      have HS1 : Hid (∀ W, Below K3W.heap.size K3W W → OpSl W (some ⟨b, off, none⟩) m1) := fun W h => by rw [e1]; exact (K3.row.below h).take j
      have HS2 : Hid (∀ W, Below K3W.heap.size K3W W → OpSl W (some ⟨b, off + j * 4, none⟩) m2) := fun W h => by rw [e2]; exact (K3.row.below h).drop j
      have HGG : Hid (m1 ++ [e] ++ m2 = G) := by unfold Hid; rw [e1, e2, HGA.out j HP.out, List.append_assoc]; rfl
      clear e1 e2
      clear HGA HP
      have hb1 : m1.length ≤ 500 := by have := HL1.out; omega
      have hb2 : m2.length ≤ 500 := by have := HL2.out; omega
      have HE0 := Lib.hid (own_emptyO K3W 75 4 K3W.heap.size (Nat.le_refl _))
      have HEB := Lib.hid (below_one K3W (.cells #[] 75))
      have HM1 := Lib.hid (HS1.out _ HEB.out)
      have HMS := Lib.hid HEB.out.size
      go_wp2_with (first | (at_builtin; refine wpList_append_op2 _ rfl (.tmp 32) (.tmp 35) 22 rfl K3W.heap.size 75 i0 _ Tryz.underlying22 hi hz0 hz1 hz2 rfl _ [] rfl HE0.out (some ⟨b, off, none⟩) c m1 j HL1.out rfl HM1.out hk1 (by simp; omega) HMS.out ?_; intro v1 w4 ho1 hB1; have HO1 := Lib.hid ho1; have HB1 := Lib.hid (HEB.out.trans hB1); have HO1A : Hid ((w4.alloc (.cells #[.int .i64 e.n, .string e.u, .int .i64 e.s, .int .i64 e.f] 75)).ownsRow K3W.heap.size 75 4 v1 m1.length (oes m1)) := own_below HO1.out (below_one w4 (.cells #[.int .i64 e.n, .string e.u, .int .i64 e.s, .int .i64 e.f] 75)); have HB1A := Lib.hid (HB1.out.trans ((below_one w4 (.cells #[.int .i64 e.n, .string e.u, .int .i64 e.s, .int .i64 e.f] 75)).mono HB1.out.size)); have HS1A := Lib.hid HB1A.out.size; clear ho1 hB1; obtain ⟨d0, d1, d2, d3⟩ := HSB.out _ (K3.below HB1.out)) | (at_builtin; refine wpList_append_own _ rfl (.tmp 37) (.tmp 39) 22 rfl K3W.heap.size 75 i0 _ 4 40 Tryz.underlying22 hi hz0 hz1 hz2 rfl (by decide) _ _ _ rfl HO1A.out ⟨w4.heap.size, 0, none⟩ 1 1 [.int .i64 e.n, .string e.u, .int .i64 e.s, .int .i64 e.f] rfl rfl (news_at _ _ _ _ rfl) (four_o _ _ _ _) (by unfold maxLen; omega) (by omega) HS1A.out ?_; intro v2 w5 ho2 hgrow hiff; have HB2 := Lib.hid (app_below HB1A.out HS1A.out HO1A.out hgrow); have HO2 : Hid (w5.ownsRow K3W.heap.size 75 4 v2 (m1 ++ [e]).length (oes (m1 ++ [e]))) := oown_snoc ho2; clear ho2 hgrow hiff; have HM2 := Lib.hid (HS2.out _ HB2.out); have HMS2 := Lib.hid HB2.out.size) | (at_builtin; refine wpList_append_op2 _ rfl (.tmp 41) (.tmp 44) 22 rfl K3W.heap.size 75 i0 _ Tryz.underlying22 hi hz0 hz1 hz2 rfl _ (m1 ++ [e]) rfl HO2.out (some ⟨b, off + j * 4, none⟩) (c - j) m2 (l.length - j) HL2.out rfl HM2.out hk2 (by simp; omega) HMS2.out ?_; intro v3 w6 ho3 hB3; have HO3 := Lib.hid ho3; have HB3 := Lib.hid (HB2.out.trans hB3); clear ho3 hB3))
      rw [HGG.out] at HO3
      go_ret2
      first | exact ⟨v3, rfl, GotO.of HO3.out (K3.frame.trans (HB3.out.mono K3.frame.size))⟩ | exact ⟨v3, by trivial, GotO.of HO3.out (K3.frame.trans (HB3.out.mono K3.frame.size))⟩
     ·have HN := Lib.hid (HNX.out (decide_eq_false h3))
      have d4 : decide (x.n ≤ e.n) = true := decide_eq_true (by omega)
      clear HNX HHT HO h3 HNil HGA
      go_wp2
      go_quiet (fail)
      go_wp2
      go_roundw
      case rel => exact ⟨j + 1, by omega, by go_num, HN, HK.out.below (Drew.below ⟨_, rfl⟩ _)⟩
      case measure => simp [intOf]; omega
    ·have hje : j = l.length := by omega
     have HP : Hid (IsFst (abvN e.n) l j) := by rw [hje] at HO ⊢; exact HO.out.miss
     have dj : decide ((j : Int) < (l.length : Int)) = false := decide_eq_false (by omega)
     clear HO
     go_wp2
     go_quiet (fail)
     have K3 := HK.out.below (Drew.below (w' := wr.drewN nq) ⟨nq, rfl⟩ _)
     generalize wr.drewN nq = K3W at *
     clear dj HK
     cases a with
     | none =>
      have hc0 := HNil.out rfl
      have hl0 := K3.row.snil
      subst hc0 hl0
      obtain rfl : j = 0 := by simpa using hje
      obtain ⟨m1, e1⟩ : ∃ m : List OpM, m = [] := ⟨_, rfl⟩
      obtain ⟨m2, e2⟩ : ∃ m : List OpM, m = [] := ⟨_, rfl⟩
      have HL1 : Hid (0 = m1.length) := by unfold Hid; rw [e1]; rfl
      have HL2 : Hid (0 = m2.length) := by unfold Hid; rw [e2]; rfl
      have hk1 : (none : Option Addr) = none → 0 = 0 := fun _ => rfl
      have hk2 : (none : Option Addr) = none → 0 = 0 := fun _ => rfl
      have HS1 : Hid (∀ W, Below K3W.heap.size K3W W → OpSl W (none : Option Addr) m1) := fun W h => by rw [e1]; exact OpSl.nil _ _
      have HS2 : Hid (∀ W, Below K3W.heap.size K3W W → OpSl W (none : Option Addr) m2) := fun W h => by rw [e2]; exact OpSl.nil _ _
      have HGG : Hid (m1 ++ [e] ++ m2 = G) := by unfold Hid; rw [e1, e2, HGA.out 0 HP.out]; rfl
      clear e1 e2
      clear HGA HP HNil hje
      have hb1 : m1.length ≤ 500 := by have := HL1.out; omega
      have hb2 : m2.length ≤ 500 := by have := HL2.out; omega
      have HE0 := Lib.hid (own_emptyO K3W 75 4 K3W.heap.size (Nat.le_refl _))
      have HEB := Lib.hid (below_one K3W (.cells #[] 75))
      have HM1 := Lib.hid (HS1.out _ HEB.out)
      have HMS := Lib.hid HEB.out.size
      go_wp2_with (first | (at_builtin; refine wpList_append_op2 _ rfl (.tmp 32) (.tmp 35) 22 rfl K3W.heap.size 75 i0 _ Tryz.underlying22 hi hz0 hz1 hz2 rfl _ [] rfl HE0.out none 0 m1 0 HL1.out rfl HM1.out hk1 (by simp; omega) HMS.out ?_; intro v1 w4 ho1 hB1; have HO1 := Lib.hid ho1; have HB1 := Lib.hid (HEB.out.trans hB1); have HO1A : Hid ((w4.alloc (.cells #[.int .i64 e.n, .string e.u, .int .i64 e.s, .int .i64 e.f] 75)).ownsRow K3W.heap.size 75 4 v1 m1.length (oes m1)) := own_below HO1.out (below_one w4 (.cells #[.int .i64 e.n, .string e.u, .int .i64 e.s, .int .i64 e.f] 75)); have HB1A := Lib.hid (HB1.out.trans ((below_one w4 (.cells #[.int .i64 e.n, .string e.u, .int .i64 e.s, .int .i64 e.f] 75)).mono HB1.out.size)); have HS1A := Lib.hid HB1A.out.size; clear ho1 hB1; obtain ⟨d0, d1, d2, d3⟩ := HSB.out _ (K3.below HB1.out)) | (at_builtin; refine wpList_append_own _ rfl (.tmp 37) (.tmp 39) 22 rfl K3W.heap.size 75 i0 _ 4 40 Tryz.underlying22 hi hz0 hz1 hz2 rfl (by decide) _ _ _ rfl HO1A.out ⟨w4.heap.size, 0, none⟩ 1 1 [.int .i64 e.n, .string e.u, .int .i64 e.s, .int .i64 e.f] rfl rfl (news_at _ _ _ _ rfl) (four_o _ _ _ _) (by unfold maxLen; omega) (by omega) HS1A.out ?_; intro v2 w5 ho2 hgrow hiff; have HB2 := Lib.hid (app_below HB1A.out HS1A.out HO1A.out hgrow); have HO2 : Hid (w5.ownsRow K3W.heap.size 75 4 v2 (m1 ++ [e]).length (oes (m1 ++ [e]))) := oown_snoc ho2; clear ho2 hgrow hiff; have HM2 := Lib.hid (HS2.out _ HB2.out); have HMS2 := Lib.hid HB2.out.size) | (at_builtin; refine wpList_append_op2 _ rfl (.tmp 41) (.tmp 44) 22 rfl K3W.heap.size 75 i0 _ Tryz.underlying22 hi hz0 hz1 hz2 rfl _ (m1 ++ [e]) rfl HO2.out none 0 m2 0 HL2.out rfl HM2.out hk2 (by simp; omega) HMS2.out ?_; intro v3 w6 ho3 hB3; have HO3 := Lib.hid ho3; have HB3 := Lib.hid (HB2.out.trans hB3); clear ho3 hB3))
      rw [HGG.out] at HO3
      go_ret2
      first | exact ⟨v3, rfl, GotO.of HO3.out (K3.frame.trans (HB3.out.mono K3.frame.size))⟩ | exact ⟨v3, by trivial, GotO.of HO3.out (K3.frame.trans (HB3.out.mono K3.frame.size))⟩
     | some ad =>
      by_cases hlz : 0 < l.length
      ·obtain ⟨b, off, e0, -, -, -, -, -⟩ := K3.row.at_ hlz
       cases e0
       by_cases hcj : c = j
       ·subst hje
        subst hcj
        have hz2' : (l.length : Int) ≤ (l.length : Int) := Int.le_refl _
        have hz1' : (0 : Int) ≤ (l.length : Int) := by omega
        obtain ⟨m1, e1⟩ : ∃ m, m = l := ⟨_, rfl⟩
        obtain ⟨m2, e2⟩ : ∃ m : List OpM, m = [] := ⟨_, rfl⟩
        have HL1 : Hid (l.length = m1.length) := by unfold Hid; rw [e1]
        have HL2 : Hid (0 = m2.length) := by unfold Hid; rw [e2]; rfl
        have hk1 : (some ⟨b, off, none⟩ : Option Addr) = none → l.length = 0 := fun h => (by cases h)
        have hk2 : (some ⟨b, off, none⟩ : Option Addr) = none → 0 = 0 := fun h => (by cases h)
        have HS1 : Hid (∀ W, Below K3W.heap.size K3W W → OpSl W (some ⟨b, off, none⟩) m1) := fun W h => by rw [e1]; exact K3.row.below h
        have HS2 : Hid (∀ W, Below K3W.heap.size K3W W → OpSl W (some ⟨b, off, none⟩) m2) := fun W h => by rw [e2]; exact OpSl.nil _ _
        have HGG : Hid (m1 ++ [e] ++ m2 = G) := by unfold Hid; rw [e1, e2, HGA.out l.length HP.out, List.take_of_length_le (Nat.le_refl _), List.drop_of_length_le (Nat.le_refl _), List.append_nil]
        clear e1 e2 HGA HP HNil
        have hb1 : m1.length ≤ 500 := by have := HL1.out; omega
        have hb2 : m2.length ≤ 500 := by have := HL2.out; omega
        have HE0 := Lib.hid (own_emptyO K3W 75 4 K3W.heap.size (Nat.le_refl _))
        have HEB := Lib.hid (below_one K3W (.cells #[] 75))
        have HM1 := Lib.hid (HS1.out _ HEB.out)
        have HMS := Lib.hid HEB.out.size
        go_wp2_with (first | (at_builtin; refine wpList_append_op2 _ rfl (.tmp 32) (.tmp 35) 22 rfl K3W.heap.size 75 i0 _ Tryz.underlying22 hi hz0 hz1 hz2 rfl _ [] rfl HE0.out (some ⟨b, off, none⟩) l.length m1 l.length HL1.out rfl HM1.out hk1 (by simp; omega) HMS.out ?_; intro v1 w4 ho1 hB1; have HO1 := Lib.hid ho1; have HB1 := Lib.hid (HEB.out.trans hB1); have HO1A : Hid ((w4.alloc (.cells #[.int .i64 e.n, .string e.u, .int .i64 e.s, .int .i64 e.f] 75)).ownsRow K3W.heap.size 75 4 v1 m1.length (oes m1)) := own_below HO1.out (below_one w4 (.cells #[.int .i64 e.n, .string e.u, .int .i64 e.s, .int .i64 e.f] 75)); have HB1A := Lib.hid (HB1.out.trans ((below_one w4 (.cells #[.int .i64 e.n, .string e.u, .int .i64 e.s, .int .i64 e.f] 75)).mono HB1.out.size)); have HS1A := Lib.hid HB1A.out.size; clear ho1 hB1; obtain ⟨d0, d1, d2, d3⟩ := HSB.out _ (K3.below HB1.out)) | (at_builtin; refine wpList_append_own _ rfl (.tmp 37) (.tmp 39) 22 rfl K3W.heap.size 75 i0 _ 4 40 Tryz.underlying22 hi hz0 hz1 hz2 rfl (by decide) _ _ _ rfl HO1A.out ⟨w4.heap.size, 0, none⟩ 1 1 [.int .i64 e.n, .string e.u, .int .i64 e.s, .int .i64 e.f] rfl rfl (news_at _ _ _ _ rfl) (four_o _ _ _ _) (by unfold maxLen; omega) (by omega) HS1A.out ?_; intro v2 w5 ho2 hgrow hiff; have HB2 := Lib.hid (app_below HB1A.out HS1A.out HO1A.out hgrow); have HO2 : Hid (w5.ownsRow K3W.heap.size 75 4 v2 (m1 ++ [e]).length (oes (m1 ++ [e]))) := oown_snoc ho2; clear ho2 hgrow hiff; have HM2 := Lib.hid (HS2.out _ HB2.out); have HMS2 := Lib.hid HB2.out.size) | (at_builtin; refine wpList_append_op2 _ rfl (.tmp 41) (.tmp 44) 22 rfl K3W.heap.size 75 i0 _ Tryz.underlying22 hi hz0 hz1 hz2 rfl _ (m1 ++ [e]) rfl HO2.out (some ⟨b, off, none⟩) 0 m2 0 HL2.out rfl HM2.out hk2 (by simp; omega) HMS2.out ?_; intro v3 w6 ho3 hB3; have HO3 := Lib.hid ho3; have HB3 := Lib.hid (HB2.out.trans hB3); clear ho3 hB3))
        rw [HGG.out] at HO3
        go_ret2
        first | exact ⟨v3, rfl, GotO.of HO3.out (K3.frame.trans (HB3.out.mono K3.frame.size))⟩ | exact ⟨v3, by trivial, GotO.of HO3.out (K3.frame.trans (HB3.out.mono K3.frame.size))⟩
       ·have hcj2 : j < c := by omega
        have hpc : j ≤ c := by omega
        have hz1' : (0 : Int) ≤ (j : Int) := by omega
        have hz2' : (j : Int) ≤ (l.length : Int) := by omega
        have hz3' : (j : Int) ≤ (c : Int) := by omega
        have hz4' : (l.length : Int) ≤ (c : Int) := by omega
        obtain ⟨m1, e1⟩ : ∃ m, m = l.take j := ⟨_, rfl⟩
        obtain ⟨m2, e2⟩ : ∃ m, m = l.drop j := ⟨_, rfl⟩
        have HL1 : Hid (j = m1.length) := by unfold Hid; rw [e1, List.length_take]; omega
        have HL2 : Hid (l.length - j = m2.length) := by unfold Hid; rw [e2, List.length_drop]
        have hk1 : (some ⟨b, off, none⟩ : Option Addr) = none → c = 0 := fun h => (by cases h)
        have hk2 : (some ⟨b, off + j * 4, none⟩ : Option Addr) = none → c - j = 0 := fun h => (by cases h)
        have HS1 : Hid (∀ W, Below K3W.heap.size K3W W → OpSl W (some ⟨b, off, none⟩) m1) := fun W h => by rw [e1]; exact (K3.row.below h).take j
        have HS2 : Hid (∀ W, Below K3W.heap.size K3W W → OpSl W (some ⟨b, off + j * 4, none⟩) m2) := fun W h => by rw [e2]; exact (K3.row.below h).drop j
        have HGG : Hid (m1 ++ [e] ++ m2 = G) := by unfold Hid; rw [e1, e2, HGA.out j HP.out, List.append_assoc]; rfl
        clear e1 e2
        clear HGA HP HNil hje
        have hb1 : m1.length ≤ 500 := by have := HL1.out; omega
        have hb2 : m2.length ≤ 500 := by have := HL2.out; omega
        have HE0 := Lib.hid (own_emptyO K3W 75 4 K3W.heap.size (Nat.le_refl _))
        have HEB := Lib.hid (below_one K3W (.cells #[] 75))
        have HM1 := Lib.hid (HS1.out _ HEB.out)
        have HMS := Lib.hid HEB.out.size
        go_wp2_with (first | (at_builtin; refine wpList_append_op2 _ rfl (.tmp 32) (.tmp 35) 22 rfl K3W.heap.size 75 i0 _ Tryz.underlying22 hi hz0 hz1 hz2 rfl _ [] rfl HE0.out (some ⟨b, off, none⟩) c m1 j HL1.out rfl HM1.out hk1 (by simp; omega) HMS.out ?_; intro v1 w4 ho1 hB1; have HO1 := Lib.hid ho1; have HB1 := Lib.hid (HEB.out.trans hB1); have HO1A : Hid ((w4.alloc (.cells #[.int .i64 e.n, .string e.u, .int .i64 e.s, .int .i64 e.f] 75)).ownsRow K3W.heap.size 75 4 v1 m1.length (oes m1)) := own_below HO1.out (below_one w4 (.cells #[.int .i64 e.n, .string e.u, .int .i64 e.s, .int .i64 e.f] 75)); have HB1A := Lib.hid (HB1.out.trans ((below_one w4 (.cells #[.int .i64 e.n, .string e.u, .int .i64 e.s, .int .i64 e.f] 75)).mono HB1.out.size)); have HS1A := Lib.hid HB1A.out.size; clear ho1 hB1; obtain ⟨d0, d1, d2, d3⟩ := HSB.out _ (K3.below HB1.out)) | (at_builtin; refine wpList_append_own _ rfl (.tmp 37) (.tmp 39) 22 rfl K3W.heap.size 75 i0 _ 4 40 Tryz.underlying22 hi hz0 hz1 hz2 rfl (by decide) _ _ _ rfl HO1A.out ⟨w4.heap.size, 0, none⟩ 1 1 [.int .i64 e.n, .string e.u, .int .i64 e.s, .int .i64 e.f] rfl rfl (news_at _ _ _ _ rfl) (four_o _ _ _ _) (by unfold maxLen; omega) (by omega) HS1A.out ?_; intro v2 w5 ho2 hgrow hiff; have HB2 := Lib.hid (app_below HB1A.out HS1A.out HO1A.out hgrow); have HO2 : Hid (w5.ownsRow K3W.heap.size 75 4 v2 (m1 ++ [e]).length (oes (m1 ++ [e]))) := oown_snoc ho2; clear ho2 hgrow hiff; have HM2 := Lib.hid (HS2.out _ HB2.out); have HMS2 := Lib.hid HB2.out.size) | (at_builtin; refine wpList_append_op2 _ rfl (.tmp 41) (.tmp 44) 22 rfl K3W.heap.size 75 i0 _ Tryz.underlying22 hi hz0 hz1 hz2 rfl _ (m1 ++ [e]) rfl HO2.out (some ⟨b, off + j * 4, none⟩) (c - j) m2 (l.length - j) HL2.out rfl HM2.out hk2 (by simp; omega) HMS2.out ?_; intro v3 w6 ho3 hB3; have HO3 := Lib.hid ho3; have HB3 := Lib.hid (HB2.out.trans hB3); clear ho3 hB3))
        rw [HGG.out] at HO3
        go_ret2
        first | exact ⟨v3, rfl, GotO.of HO3.out (K3.frame.trans (HB3.out.mono K3.frame.size))⟩ | exact ⟨v3, by trivial, GotO.of HO3.out (K3.frame.trans (HB3.out.mono K3.frame.size))⟩
      ·have hl0 : l = [] := List.eq_nil_of_length_eq_zero (by omega)
       subst hl0
       obtain rfl : j = 0 := by simpa using hje
       have hz : (0 : Int) ≤ (c : Int) := by omega
       by_cases hcp : c = 0
       ·subst hcp
        obtain ⟨m1, e1⟩ : ∃ m : List OpM, m = [] := ⟨_, rfl⟩
        obtain ⟨m2, e2⟩ : ∃ m : List OpM, m = [] := ⟨_, rfl⟩
        have HL1 : Hid (0 = m1.length) := by unfold Hid; rw [e1]; rfl
        have HL2 : Hid (0 = m2.length) := by unfold Hid; rw [e2]; rfl
        have hk1 : (some ad) = none → 0 = 0 := fun h => (by cases h)
        have hk2 : (some ad) = none → 0 = 0 := fun h => (by cases h)
        have HS1 : Hid (∀ W, Below K3W.heap.size K3W W → OpSl W (some ad) m1) := fun W h => by rw [e1]; exact OpSl.nil _ _
        have HS2 : Hid (∀ W, Below K3W.heap.size K3W W → OpSl W (some ad) m2) := fun W h => by rw [e2]; exact OpSl.nil _ _
        have HGG : Hid (m1 ++ [e] ++ m2 = G) := by unfold Hid; rw [e1, e2, HGA.out 0 HP.out]; rfl
        clear e1 e2
        clear HGA HP HNil hje
        have hb1 : m1.length ≤ 500 := by have := HL1.out; omega
        have hb2 : m2.length ≤ 500 := by have := HL2.out; omega
        have HE0 := Lib.hid (own_emptyO K3W 75 4 K3W.heap.size (Nat.le_refl _))
        have HEB := Lib.hid (below_one K3W (.cells #[] 75))
        have HM1 := Lib.hid (HS1.out _ HEB.out)
        have HMS := Lib.hid HEB.out.size
        go_wp2_with (first | (at_builtin; refine wpList_append_op2 _ rfl (.tmp 32) (.tmp 35) 22 rfl K3W.heap.size 75 i0 _ Tryz.underlying22 hi hz0 hz1 hz2 rfl _ [] rfl HE0.out (some ad) 0 m1 0 HL1.out rfl HM1.out hk1 (by simp; omega) HMS.out ?_; intro v1 w4 ho1 hB1; have HO1 := Lib.hid ho1; have HB1 := Lib.hid (HEB.out.trans hB1); have HO1A : Hid ((w4.alloc (.cells #[.int .i64 e.n, .string e.u, .int .i64 e.s, .int .i64 e.f] 75)).ownsRow K3W.heap.size 75 4 v1 m1.length (oes m1)) := own_below HO1.out (below_one w4 (.cells #[.int .i64 e.n, .string e.u, .int .i64 e.s, .int .i64 e.f] 75)); have HB1A := Lib.hid (HB1.out.trans ((below_one w4 (.cells #[.int .i64 e.n, .string e.u, .int .i64 e.s, .int .i64 e.f] 75)).mono HB1.out.size)); have HS1A := Lib.hid HB1A.out.size; clear ho1 hB1; obtain ⟨d0, d1, d2, d3⟩ := HSB.out _ (K3.below HB1.out)) | (at_builtin; refine wpList_append_own _ rfl (.tmp 37) (.tmp 39) 22 rfl K3W.heap.size 75 i0 _ 4 40 Tryz.underlying22 hi hz0 hz1 hz2 rfl (by decide) _ _ _ rfl HO1A.out ⟨w4.heap.size, 0, none⟩ 1 1 [.int .i64 e.n, .string e.u, .int .i64 e.s, .int .i64 e.f] rfl rfl (news_at _ _ _ _ rfl) (four_o _ _ _ _) (by unfold maxLen; omega) (by omega) HS1A.out ?_; intro v2 w5 ho2 hgrow hiff; have HB2 := Lib.hid (app_below HB1A.out HS1A.out HO1A.out hgrow); have HO2 : Hid (w5.ownsRow K3W.heap.size 75 4 v2 (m1 ++ [e]).length (oes (m1 ++ [e]))) := oown_snoc ho2; clear ho2 hgrow hiff; have HM2 := Lib.hid (HS2.out _ HB2.out); have HMS2 := Lib.hid HB2.out.size) | (at_builtin; refine wpList_append_op2 _ rfl (.tmp 41) (.tmp 44) 22 rfl K3W.heap.size 75 i0 _ Tryz.underlying22 hi hz0 hz1 hz2 rfl _ (m1 ++ [e]) rfl HO2.out (some ad) 0 m2 0 HL2.out rfl HM2.out hk2 (by simp; omega) HMS2.out ?_; intro v3 w6 ho3 hB3; have HO3 := Lib.hid ho3; have HB3 := Lib.hid (HB2.out.trans hB3); clear ho3 hB3))
        rw [HGG.out] at HO3
        go_ret2
        first | exact ⟨v3, rfl, GotO.of HO3.out (K3.frame.trans (HB3.out.mono K3.frame.size))⟩ | exact ⟨v3, by trivial, GotO.of HO3.out (K3.frame.trans (HB3.out.mono K3.frame.size))⟩
       ·have hcp2 : 0 < c := by omega
        obtain ⟨m1, e1⟩ : ∃ m : List OpM, m = [] := ⟨_, rfl⟩
        obtain ⟨m2, e2⟩ : ∃ m : List OpM, m = [] := ⟨_, rfl⟩
        have HL1 : Hid (0 = m1.length) := by unfold Hid; rw [e1]; rfl
        have HL2 : Hid (0 = m2.length) := by unfold Hid; rw [e2]; rfl
        have hk1 : (some ad) = none → c = 0 := fun h => (by cases h)
        have hk2 : (some ad) = none → c = 0 := fun h => (by cases h)
        have HS1 : Hid (∀ W, Below K3W.heap.size K3W W → OpSl W (some ad) m1) := fun W h => by rw [e1]; exact OpSl.nil _ _
        have HS2 : Hid (∀ W, Below K3W.heap.size K3W W → OpSl W (some ad) m2) := fun W h => by rw [e2]; exact OpSl.nil _ _
        have HGG : Hid (m1 ++ [e] ++ m2 = G) := by unfold Hid; rw [e1, e2, HGA.out 0 HP.out]; rfl
        clear e1 e2
        clear HGA HP HNil hje
        have hb1 : m1.length ≤ 500 := by have := HL1.out; omega
        have hb2 : m2.length ≤ 500 := by have := HL2.out; omega
        have HE0 := Lib.hid (own_emptyO K3W 75 4 K3W.heap.size (Nat.le_refl _))
        have HEB := Lib.hid (below_one K3W (.cells #[] 75))
        have HM1 := Lib.hid (HS1.out _ HEB.out)
        have HMS := Lib.hid HEB.out.size
        go_wp2_with (first | (at_builtin; refine wpList_append_op2 _ rfl (.tmp 32) (.tmp 35) 22 rfl K3W.heap.size 75 i0 _ Tryz.underlying22 hi hz0 hz1 hz2 rfl _ [] rfl HE0.out (some ad) c m1 0 HL1.out rfl HM1.out hk1 (by simp; omega) HMS.out ?_; intro v1 w4 ho1 hB1; have HO1 := Lib.hid ho1; have HB1 := Lib.hid (HEB.out.trans hB1); have HO1A : Hid ((w4.alloc (.cells #[.int .i64 e.n, .string e.u, .int .i64 e.s, .int .i64 e.f] 75)).ownsRow K3W.heap.size 75 4 v1 m1.length (oes m1)) := own_below HO1.out (below_one w4 (.cells #[.int .i64 e.n, .string e.u, .int .i64 e.s, .int .i64 e.f] 75)); have HB1A := Lib.hid (HB1.out.trans ((below_one w4 (.cells #[.int .i64 e.n, .string e.u, .int .i64 e.s, .int .i64 e.f] 75)).mono HB1.out.size)); have HS1A := Lib.hid HB1A.out.size; clear ho1 hB1; obtain ⟨d0, d1, d2, d3⟩ := HSB.out _ (K3.below HB1.out)) | (at_builtin; refine wpList_append_own _ rfl (.tmp 37) (.tmp 39) 22 rfl K3W.heap.size 75 i0 _ 4 40 Tryz.underlying22 hi hz0 hz1 hz2 rfl (by decide) _ _ _ rfl HO1A.out ⟨w4.heap.size, 0, none⟩ 1 1 [.int .i64 e.n, .string e.u, .int .i64 e.s, .int .i64 e.f] rfl rfl (news_at _ _ _ _ rfl) (four_o _ _ _ _) (by unfold maxLen; omega) (by omega) HS1A.out ?_; intro v2 w5 ho2 hgrow hiff; have HB2 := Lib.hid (app_below HB1A.out HS1A.out HO1A.out hgrow); have HO2 : Hid (w5.ownsRow K3W.heap.size 75 4 v2 (m1 ++ [e]).length (oes (m1 ++ [e]))) := oown_snoc ho2; clear ho2 hgrow hiff; have HM2 := Lib.hid (HS2.out _ HB2.out); have HMS2 := Lib.hid HB2.out.size) | (at_builtin; refine wpList_append_op2 _ rfl (.tmp 41) (.tmp 44) 22 rfl K3W.heap.size 75 i0 _ Tryz.underlying22 hi hz0 hz1 hz2 rfl _ (m1 ++ [e]) rfl HO2.out (some ad) c m2 0 HL2.out rfl HM2.out hk2 (by simp; omega) HMS2.out ?_; intro v3 w6 ho3 hB3; have HO3 := Lib.hid ho3; have HB3 := Lib.hid (HB2.out.trans hB3); clear ho3 hB3))
        rw [HGG.out] at HO3
        go_ret2
        first | exact ⟨v3, rfl, GotO.of HO3.out (K3.frame.trans (HB3.out.mono K3.frame.size))⟩ | exact ⟨v3, by trivial, GotO.of HO3.out (K3.frame.trans (HB3.out.mono K3.frame.size))⟩
end Go.Proofs.YtjhdhfokhkcamaaGreat
namespace Go.Proofs.YtjhdhfokhkcamaaGreat
open Go.RowKit Go.Proofs
set_option linter.unusedVariables false
set_option maxRecDepth 100000
def TellsB (w : World) (P : Prop) (r : Ending) (w' : World) : Prop := ∃ b, r = .returned (.bool b) ∧ (b = true ↔ P) ∧ Below w.heap.size w w'
def StaysP (now : Int) (op : List OpM) (l : List StM) : Prop := (∀ x ∈ l, OkSt now op x) ∧ l ≠ [] ∧ RiseS l
set_option maxHeartbeats 2000000 in
theorem rstayok_any (a : Option Addr) (c : Nat) (l : List StM) (now : Int) (oa : Option Addr) (oc : Nat) (op : List OpM) (w : World) (h : StSl w a l) (ho : OpSl w oa op) (hl : l.length ≤ 1000) (hol : op.length ≤ 1000) :
  Calls Tryz.prog 38 #[.slice a l.length c, .int .i64 now, .slice oa op.length oc] w (TellsB w (StaysP now op l)) := by
 have HR := Lib.hid h
 have HO := Lib.hid ho
 have HRS := Lib.hid (fun V (h : StSl V a l) => refRising_any a c l V h (by omega))
 clear h ho
 go_enter Tryz.func38, Tryz.ntmps38
 go_wp2
 go_loopw [7, 8, 9] (fun iv pv qv wr => ∃ (j : Nat), j ≤ l.length ∧ iv = .int .i64 j ∧ Hid (∀ i (h : i < l.length), i < j → OkSt now op l[i]) ∧ Hid (Below w.heap.size w wr)) (fun iv _ _ _ => l.length - (intOf iv).toNat)
 case atStart => exact ⟨0, by omega, rfl, (fun i h hi => by omega), Below.refl _ _⟩
 case round =>
  obtain ⟨j, hj, rfl, HLW, HB⟩ := hrel
  by_cases hjl : j < l.length
  ·obtain ⟨b, off, rfl, hbl, r0, r1, r2, r3⟩ := (HR.out.below HB.out) j hjl
   have hb := below_one wr (.cells #[.int .i64 (l[j]).f, .int .i64 (l[j]).t, .int .i64 (l[j]).n, .int .i64 (l[j]).s] 135)
   have ST := heap_alloc_new wr (.cells #[.int .i64 (l[j]).f, .int .i64 (l[j]).t, .int .i64 (l[j]).n, .int .i64 (l[j]).s] 135)
   have hsz := size1 wr (.cells #[.int .i64 (l[j]).f, .int .i64 (l[j]).t, .int .i64 (l[j]).n, .int .i64 (l[j]).s] 135)
   have HX := Lib.hid (fun (h : ¬ OkSt now op l[j]) (h' : StaysP now op l) => h (h'.1 _ (List.getElem_mem hjl)))
   have HBT := Lib.hid (HB.out.trans (hb.mono HB.out.size))
   have HN := Lib.hid (fun (h : OkSt now op l[j]) => (show ∀ i (h : i < l.length), i < j + 1 → OkSt now op l[i] from fun i hi hij => by
    by_cases e : i = j
    ·subst e; exact h
    ·exact HLW.out i hi (by omega)))
   clear HLW HB
   generalize l[j] = s at *
   go_wp2
   obtain ⟨T, hT⟩ : ∃ T, T = wr.alloc (.cells #[.int .i64 s.f, .int .i64 s.t, .int .i64 s.n, .int .i64 s.s] 135) := ⟨_, rfl⟩
   rw [← hT] at ST hsz HBT ⊢
   have HST := Lib.hid ST
   have hlt : wr.heap.size < T.heap.size := by omega
   clear hb ST r0 r1 r2 r3 hT hbl
   go_loopw [9] (fun qv wq => ∃ (i : Nat), i ≤ op.length ∧ qv = .int .i64 i ∧ Hid (∀ m (h : m < op.length), m < i → op[m].n = s.n → s.t ≤ op[m].f) ∧ Hid (Below T.heap.size T wq)) (fun qv _ => op.length - (intOf qv).toNat)
   case atStart => exact ⟨0, by omega, rfl, (fun i h hi => by omega), Below.refl _ _⟩
   case round =>
    obtain ⟨i, hi, rfl, HLQ, HQ⟩ := hrel
    obtain ⟨s0, s1, s2, s3⟩ := cells4 ((HQ.out.block _ hlt).trans HST.out)
    by_cases hil : i < op.length
    ·obtain ⟨b2, off2, rfl, hbl2, o0, o1, o2, o3⟩ := ((HO.out.below HBT.out).below HQ.out) i hil
     have HQN := Lib.hid (fun (h : op[i].n = s.n → s.t ≤ op[i].f) => (show ∀ m (h : m < op.length), m < i + 1 → op[m].n = s.n → s.t ≤ op[m].f from fun m hm hmi => by
      by_cases e : m = i
      ·subst e; exact h
      ·exact HLQ.out m hm (by omega)))
     have HXX := Lib.hid (fun (h1 : op[i].n = s.n) (h2 : op[i].f < s.t) => HX.out (fun h => by have := h.2.2.2.2.2.2 _ (List.getElem_mem hil) h1; omega))
     clear HLQ HRS HN HX
     by_cases hn : op[i].n = s.n
     ·by_cases hf : op[i].f < s.t
      ·have HP := Lib.hid (HXX.out hn hf)
       have hd : decide (op[i].f < s.t) = true := decide_eq_true hf
       have HF0 := Lib.hid (HBT.out.trans (HQ.out.mono HBT.out.size))
       rw [hn] at o0
       clear HQN HXX hf HQ HST
       generalize op[i] = e at *
       clear hn
       go_wp2
       go_quiet (fail)
       go_wp2
       go_ret
       exact ⟨false, rfl, ⟨(fun h => by cases h), fun h => absurd h HP.out⟩, HF0.out.trans ((Drew.below ⟨_, rfl⟩ _).mono HF0.out.size)⟩
      ·have HQ2 := Lib.hid (HQN.out fun _ => by omega)
       have hd : decide (op[i].f < s.t) = false := decide_eq_false hf
       rw [hn] at o0
       clear HQN HXX hf
       generalize op[i] = e at *
       clear hn
       go_wp2
       go_quiet (fail)
       go_wp2
       go_roundw
       case rel => exact ⟨i + 1, by omega, by go_num, HQ2.out, HQ.out.trans ((Drew.below ⟨_, rfl⟩ _).mono HQ.out.size)⟩
       case measure => simp [intOf]; omega
     ·have HQ2 := Lib.hid (HQN.out fun h => absurd h hn)
      clear HQN HXX
      generalize op[i] = e at *
      have hd1 : (e.n == s.n) = false := beq_eq_false_iff_ne.2 hn
      go_wp2
      go_quiet (fail)
      go_wp2
      go_roundw
      case rel => exact ⟨i + 1, by omega, by go_num, HQ2.out, HQ.out.trans ((Drew.below ⟨_, rfl⟩ _).mono HQ.out.size)⟩
      case measure => simp [intOf]; omega
    ·obtain rfl : i = op.length := by omega
     have HAL : Hid (∀ o ∈ op, o.n = s.n → s.t ≤ o.f) := fun o ho => by
      obtain ⟨m, hm, rfl⟩ := List.getElem_of_mem ho
      exact HLQ.out m hm hm
     have HFR := Lib.hid (HBT.out.trans (HQ.out.mono HBT.out.size))
     clear HLQ HQ HBT HST HRS
     by_cases q0 : s.f < 0
     ·have HP := Lib.hid (HX.out (fun h => by have := h.1; omega))
      have d0 : decide (s.f < 0) = true := decide_eq_true q0
      clear HN HX HAL
      go_wp2
      go_ret
      exact ⟨false, rfl, ⟨(fun h => by cases h), fun h => absurd h HP.out⟩, HFR.out⟩
     ·skip
      by_cases q1 : now < s.t
      ·have HP := Lib.hid (HX.out (fun h => by have := h.2.1; omega))
       have d0 : decide (s.f < 0) = false := decide_eq_false q0
       have d1 : decide (now < s.t) = true := decide_eq_true q1
       clear HN HX HAL
       go_wp2
       go_ret
       exact ⟨false, rfl, ⟨(fun h => by cases h), fun h => absurd h HP.out⟩, HFR.out⟩
      ·skip
       by_cases q2 : s.n < 1
       ·have HP := Lib.hid (HX.out (fun h => by have := h.2.2.1; omega))
        have d0 : decide (s.f < 0) = false := decide_eq_false q0
        have d1 : decide (now < s.t) = false := decide_eq_false q1
        have d2 : decide (s.n < 1) = true := decide_eq_true q2
        clear HN HX HAL
        go_wp2
        go_ret
        exact ⟨false, rfl, ⟨(fun h => by cases h), fun h => absurd h HP.out⟩, HFR.out⟩
       ·skip
        by_cases q3 : 999 < s.n
        ·have HP := Lib.hid (HX.out (fun h => by have := h.2.2.2.1; omega))
         have d0 : decide (s.f < 0) = false := decide_eq_false q0
         have d1 : decide (now < s.t) = false := decide_eq_false q1
         have d2 : decide (s.n < 1) = false := decide_eq_false q2
         have d3 : decide (999 < s.n) = true := decide_eq_true q3
         clear HN HX HAL
         go_wp2
         go_ret
         exact ⟨false, rfl, ⟨(fun h => by cases h), fun h => absurd h HP.out⟩, HFR.out⟩
        ·skip
         by_cases q4 : s.s < 1
         ·have HP := Lib.hid (HX.out (fun h => by have := h.2.2.2.2.1; omega))
          have d0 : decide (s.f < 0) = false := decide_eq_false q0
          have d1 : decide (now < s.t) = false := decide_eq_false q1
          have d2 : decide (s.n < 1) = false := decide_eq_false q2
          have d3 : decide (999 < s.n) = false := decide_eq_false q3
          have d4 : decide (s.s < 1) = true := decide_eq_true q4
          clear HN HX HAL
          go_wp2
          go_ret
          exact ⟨false, rfl, ⟨(fun h => by cases h), fun h => absurd h HP.out⟩, HFR.out⟩
         ·skip
          by_cases q5 : 4 < s.s
          ·have HP := Lib.hid (HX.out (fun h => by have := h.2.2.2.2.2.1; omega))
           have d0 : decide (s.f < 0) = false := decide_eq_false q0
           have d1 : decide (now < s.t) = false := decide_eq_false q1
           have d2 : decide (s.n < 1) = false := decide_eq_false q2
           have d3 : decide (999 < s.n) = false := decide_eq_false q3
           have d4 : decide (s.s < 1) = false := decide_eq_false q4
           have d5 : decide (4 < s.s) = true := decide_eq_true q5
           clear HN HX HAL
           go_wp2
           go_ret
           exact ⟨false, rfl, ⟨(fun h => by cases h), fun h => absurd h HP.out⟩, HFR.out⟩
          ·skip
           have d0 : decide (s.f < 0) = false := decide_eq_false q0
           have d1 : decide (now < s.t) = false := decide_eq_false q1
           have d2 : decide (s.n < 1) = false := decide_eq_false q2
           have d3 : decide (999 < s.n) = false := decide_eq_false q3
           have d4 : decide (s.s < 1) = false := decide_eq_false q4
           have d5 : decide (4 < s.s) = false := decide_eq_false q5
           have HN2 := Lib.hid (HN.out ⟨by omega, by omega, by omega, by omega, by omega, by omega, HAL.out⟩)
           clear HN HX HAL
           go_wp2
           go_roundw
           case rel => exact ⟨j + 1, by omega, by go_num, HN2.out, HFR.out⟩
           case measure => simp [intOf]; omega
  ·obtain rfl : j = l.length := by omega
   have HAL : Hid (∀ x ∈ l, OkSt now op x) := fun x hx => by
    obtain ⟨m, hm, rfl⟩ := List.getElem_of_mem hx
    exact HLW.out m hm hm
   have HL := Lib.hid (HR.out.below HB.out)
   by_cases hnil : l = []
   ·have HF : Hid (¬ StaysP now op l) := fun h => h.2.1 hnil
    subst hnil
    clear HAL HL HLW HRS HR HO
    go_wp2
    go_ret
    exact ⟨false, rfl, ⟨(fun h => by cases h), fun h => absurd h HF.out⟩, HB.out⟩
   ·have hlen : 0 < l.length := List.length_pos_iff.2 hnil
    have hd : decide ((0 : Int) < (l.length : Int)) = true := decide_eq_true (by omega)
    have HF : Hid (StaysP now op l ↔ RiseS l) := ⟨fun h => h.2.2, fun h => ⟨HAL.out, hnil, h⟩⟩
    clear HAL HLW HR HO hnil
    go_wp2_with fail
    refine (HRS.out _ HL.out).mono ?_
    rintro e w2 ⟨rfl, h2⟩
    have HB2 := Lib.hid (HB.out.trans (h2.mono HB.out.size))
    clear h2 HB HL HRS
    go_wp2
    go_ret
    exact ⟨_, rfl, by rw [decide_eq_true_iff]; exact HF.out.symm, HB2.out⟩
end Go.Proofs.YtjhdhfokhkcamaaGreat
