/- Texts of mine, one behind the other, of each what is wanted. -/
import Derived.Test.YtapacckmgmdnoaaGreatU00
import Derived.Test.YtapacckmgmdnoaaGreatShelf
import Derived.Test.YtapacckmgmdnoaaGreatRows
import Derived.Test.YtapacckmgmdnoaaGreatU01
import Derived.Test.YtapacckmgmdnoaaGreatU02
import Derived.Test.YtapacckmgmdnoaaGreatU04
import Derived.Test.YtapacckmgmdnoaaGreatU07
import Derived.Test.YtapacckmgmdnoaaGreatU09
import Derived.Test.YtapacckmgmdnoaaGreatU17
namespace Go.Proofs.YtapacckmgmdnoaaGreat
open Go.RowKit Go.Proofs
set_option linter.unusedVariables false
set_option maxRecDepth 100000
set_option maxRecDepth 100000
theorem oconcat2 (x y : Option Addr) (A B : List OpM) (c1 c2 n1 n2 : Nat) (W : World) (g : Nat) (h1 : n1 = A.length) (h2 : n2 = B.length) (hS : Sl W (some ⟨g, 0, none⟩) [.slice x n1 c1, .slice y n2 c2]) (hA : OpSl W x A) (hB : OpSl W y B) (k1 : x = none → c1 = 0) (k2 : y = none → c2 = 0) (hl : A.length + B.length ≤ 1000) :
  Calls Tryz.prog 228 #[.slice (some ⟨g, 0, none⟩) 2 2] W fun e w' => ∃ v, e = .returned v ∧ w'.ownsRow W.heap.size 184 4 v (A ++ B).length (oes (A ++ B)) ∧ Below W.heap.size W w' := by
 subst h1 h2
 have hcat : catO [⟨x, A, c1⟩, ⟨y, B, c2⟩] = A ++ B := by simp [catO]
 have hlen : (catO [⟨x, A, c1⟩, ⟨y, B, c2⟩]).length ≤ 100000 := by rw [hcat, List.length_append]; omega
 refine (oconcat_any (some ⟨g, 0, none⟩) 2 [⟨x, A, c1⟩, ⟨y, B, c2⟩] W hS ?_ (by show 2 ≤ _; decide) hlen).mono ?_
 ·intro r hr
  simp only [List.mem_cons, List.mem_nil_iff, or_false] at hr
  rcases hr with rfl | rfl
  ·exact ⟨hA, k1⟩
  ·exact ⟨hB, k2⟩
 ·rintro e w' ⟨v, rfl, ho, hbb⟩
  rw [hcat] at ho
  exact ⟨v, rfl, ho, hbb⟩
structure CzK (w : World) (g : Nat) (a : Option Addr) (l : List OpM) (W : World) : Prop where
 zb : Zb w g (.int .i64 0) (.int .i64 0) (.int .i64 0) (.int .i64 0) 111 W
 row : OpSl W a l
theorem CzK.below {w W W' : World} {g : Nat} {a : Option Addr} {l : List OpM} (h : CzK w g a l W) (q : Below W.heap.size W W') : CzK w g a l W' := ⟨h.zb.below q, h.row.below q⟩
theorem CzK.at_ {w W : World} {g b off : Nat} {l : List OpM} (h : CzK w g (some ⟨b, off, none⟩) l W) {k : Nat} (hk : k < l.length) : W.cell? ⟨b, off + k * 4, none⟩ = some (.int .i64 l[k].n) ∧ W.cell? ⟨b, off + k * 4 + 1, none⟩ = some (.string l[k].u) ∧ W.cell? ⟨b, off + k * 4 + 2, none⟩ = some (.int .i64 l[k].s) ∧ W.cell? ⟨b, off + k * 4 + 3, none⟩ = some (.int .i64 l[k].f) := by
 obtain ⟨b', off', e, _, h0⟩ := h.row.at_ hk
 cases e
 exact h0
theorem CzK.far {w W : World} {g b off : Nat} {l : List OpM} (h : CzK w g (some ⟨b, off, none⟩) l W) (hb : ¬ b = g) (x0 x1 x2 x3 : Value) {k : Nat} (hk : k < l.length) :
  (setO W g x0 x1 x2 x3).cell? ⟨b, off + k * 4, none⟩ = some (.int .i64 l[k].n) ∧ (setO W g x0 x1 x2 x3).cell? ⟨b, off + k * 4 + 1, none⟩ = some (.string l[k].u) ∧ (setO W g x0 x1 x2 x3).cell? ⟨b, off + k * 4 + 2, none⟩ = some (.int .i64 l[k].s) ∧ (setO W g x0 x1 x2 x3).cell? ⟨b, off + k * 4 + 3, none⟩ = some (.int .i64 l[k].f) := by
 obtain ⟨h0, h1, h2, h3⟩ := h.at_ hk
 exact ⟨(setO_cell W g x0 x1 x2 x3 (p := ⟨b, off + k * 4, none⟩) hb).trans h0, (setO_cell W g x0 x1 x2 x3 (p := ⟨b, off + k * 4 + 1, none⟩) hb).trans h1, (setO_cell W g x0 x1 x2 x3 (p := ⟨b, off + k * 4 + 2, none⟩) hb).trans h2, (setO_cell W g x0 x1 x2 x3 (p := ⟨b, off + k * 4 + 3, none⟩) hb).trans h3⟩
theorem GotO.far {w W : World} {m : List OpM} {v : Value} {B e g : Nat} (h : W.ownsRow B e 4 v m.length (oes m)) (hg : g < B) (x0 x1 x2 x3 : Value) (hb : Below w.heap.size w (setO W g x0 x1 x2 x3)) : GotO w (setO W g x0 x1 x2 x3) m v := by
 have hlt := h.lt
 obtain ⟨x, q, rfl, h2, h3, h4, h5⟩ := own_op h
 refine ⟨x, q, rfl, h2, h3, h5, h4.setO g x0 x1 x2 x3 (fun b o e => ?_), hb⟩
 subst e
 have := (hlt b rfl).1
 omega
set_option maxHeartbeats 4000000 in
theorem close_more (a : Option Addr) (c : Nat) (l : List OpM) (n : Int) (u : ByteArray) (t : Int) (w : World) (hr : OpSl w a l) (hl : l.length ≤ 500) (hc : l.length ≤ c) (hcm : c ≤ maxLen) :
  Calls Tryz.prog 231 #[.slice a l.length c, .int .i64 n, .string u, .int .i64 t] w fun e w' => ∃ v, e = .returned (.tuple #[v, stV (fndS l n u t), .int .i64 (findC l n u)]) ∧ GotN w w' (cloR l n u) v := by
 have HF := Lib.hid (fun W (h : OpSl W a l) => find_any a c l n u W h (by omega))
 have HZ := Lib.hid (Zb.new w (.int .i64 0) (.int .i64 0) (.int .i64 0) (.int .i64 0) 111)
 have HR := Lib.hid hr
 have hCR : cloR l n u = if findC l n u = 0 then cutAt l (findP l n u) else [] := rfl
 have hFS : fndS l n u t = if findC l n u = 0 then stayO (findE l n u) t else stZ := rfl
 unfold maxLen at hcm
 clear hr
 rcases fc_three l n u with ⟨hc0, k, hk, -, -, -, he, hp⟩ | ⟨hc0, he, hp⟩
 ·rw [hc0, hp] at HF
  rw [hc0, if_pos rfl, hp] at hCR
  rw [hc0, if_pos rfl, he] at hFS
  rw [hc0, hCR, hFS]
  have HST := Lib.hid (fun W => stay_any l[k] t W)
  unfold opV stV stayO at HST
  unfold stV stayO
  dsimp only at *
  have d1 : ((0 : Int) != 0) = false := rfl
  clear hCR hFS hc0 he hp
  go_enter Tryz.func231, Tryz.ntmps231
  go_wp2_with fail
  refine (HF.out _ (HR.out.below HZ.out.frame)).mono ?_
  rintro e w1 ⟨rfl, hB⟩
  have K1Z := HZ.out.below hB
  have K1 : CzK w w.heap.size a l w1 := ⟨K1Z, HR.out.below K1Z.frame⟩
  obtain ⟨b, off, rfl, hbg, -, -, -, -⟩ := HR.out.at_ hk
  have HPS := Lib.hid (fun W (h : CzK w w.heap.size (some ⟨b, off, none⟩) l W) x0 x1 x2 x3 => h.far (by omega) x0 x1 x2 x3 hk)
  have HLO := Lib.hid (fun W (h : CzK w w.heap.size (some ⟨b, off, none⟩) l W) => h.zb.loadS (.int .i64 l[k].f) (.int .i64 t) (.int .i64 l[k].n) (.int .i64 l[k].s))
  have HGF := Lib.hid (fun W v B (ho : W.ownsRow B 184 4 v (cutAt l k).length (oes (cutAt l k))) (hg : w.heap.size < B) (h : CzK w w.heap.size (some ⟨b, off, none⟩) l W) => (show GotN w _ _ _ from ⟨GotO.far ho hg (.int .i64 l[k].f) (.int .i64 t) (.int .i64 l[k].n) (.int .i64 l[k].s) (h.zb.set (.int .i64 l[k].f) (.int .i64 t) (.int .i64 l[k].n) (.int .i64 l[k].s)), fun b' o' n' q' e => by subst e; have := (ho.lt b' rfl).1; omega⟩))
  unfold setO at HPS HLO HGF
  clear hbg
  have K1D := K1.below (Below.refl _ _).drew
  have HP0 := Lib.hid (fun W (h : CzK w w.heap.size (some ⟨b, off, none⟩) l W) => h.at_ hk)
  obtain ⟨k1, hk1⟩ : ∃ k1, k1 = k + 1 := ⟨_, rfl⟩
  have HK1 := Lib.hid hk1
  have hpw : IntKind.i64.wrap ((k : Int) + 1) = (k1 : Int) := by rw [IntWalk.i64_in] <;> omega
  have hk1l : k1 ≤ l.length := by omega
  have hkk : k < k1 := by omega
  have hz1 : (0 : Int) ≤ (k : Int) := by omega
  have hz2 : (k : Int) ≤ (l.length : Int) := by omega
  have hz3 : (k : Int) ≤ (c : Int) := by omega
  have hz4 : (l.length : Int) ≤ (c : Int) := by omega
  have hz5 : (0 : Int) ≤ (k1 : Int) := by omega
  have hz6 : (k1 : Int) ≤ (l.length : Int) := by omega
  have hz7 : (k1 : Int) ≤ (c : Int) := by omega
  have hz8 : k1 ≤ c := by omega
  have hz9 : k ≤ c := by omega
  clear hB HF HZ K1Z hk1
  generalize w.heap.size = g at *
  by_cases hck : c = k1
  ·have hl1 : l.length = k1 := by omega
   have HL1 := Lib.hid hl1
   subst hck
   have HAC : Hid (∀ W gb, Sl W (some ⟨gb, 0, none⟩) (#[.slice (some ⟨b, off, none⟩) k c, .slice (some ⟨b, off, none⟩) 0 0] : Array Value).toList → OpSl W (some ⟨b, off, none⟩) l → Calls Tryz.prog 228 #[.slice (some ⟨gb, 0, none⟩) 2 2] W fun e w' => ∃ v, e = .returned v ∧ w'.ownsRow W.heap.size 184 4 v (cutAt l k).length (oes (cutAt l k)) ∧ Below W.heap.size W w') := fun W gb hS hs => by
    have h := oconcat2 (some ⟨b, off, none⟩) (some ⟨b, off, none⟩) (l.take k) (l.drop (k + 1)) c 0 k 0 W gb (by rw [List.length_take]; omega) (by have := HK1.out; have := HL1.out; rw [List.length_drop]; omega) hS (hs.take k) (by have := HK1.out; have := HL1.out; rw [List.drop_of_length_le (by omega)]; exact OpSl.nil _ _) (fun h => by cases h) (fun h => by cases h) (by have := HL1.out; rw [List.length_take, List.length_drop]; omega)
    exact h
   clear HR
   go_wp2_with fail
   go_region_held3 (fun W => W.cell? ⟨b, off + k * 4, none⟩ = some (.int .i64 l[k].n) ∧ W.cell? ⟨b, off + k * 4 + 1, none⟩ = some (.string l[k].u) ∧ W.cell? ⟨b, off + k * 4 + 2, none⟩ = some (.int .i64 l[k].s) ∧ W.cell? ⟨b, off + k * 4 + 3, none⟩ = some (.int .i64 l[k].f))
    (first | with_reducible exact HP0.out _ K1D | with_reducible exact HPS.out _ KA _ _ _ _ | with_reducible exact HPS.out _ KB _ _ _ _ | with_reducible exact HP0.out _ (K1D.below (below_one _ _)) | with_reducible exact HP0.out _ (K1.below (below_one _ _).drew) | with_reducible exact HP0.out _ KA | with_reducible exact HP0.out _ KB | with_reducible exact HP0.out _ (KB.below (below_one _ _)) | with_reducible exact HP0.out _ (KB.below (below_one _ _).drew))
    (first | (go_at_call 228; (first | (with_reducible refine (HAC.out _ _ HSL KB.row).mono ?_; rintro r w5 ⟨v, rfl, ho5, hb5⟩; have KA := KB.below hb5) | (with_reducible refine (HAC.out _ _ (sl_lit _ _ _) (KB.row.below (below_one _ _))).mono ?_; rintro r w5 ⟨v, rfl, ho5, hb5⟩; have KA := (KB.below (below_one _ _)).below hb5) | (with_reducible refine (HAC.out _ _ (sl_drewO _ _ _) (K1.row.below (below_one _ _).drew)).mono ?_; rintro r w5 ⟨v, rfl, ho5, hb5⟩; have KA := (K1.below (below_one _ _).drew).below hb5)); have HO5 := Lib.hid ho5; have HGV := Lib.hid (KA.zb.ge); obtain ⟨z0, z1, z2, z3⟩ := KA.zb.cells; obtain ⟨y0, y1, y2, y3⟩ := KA.zb.free; have hgl := KA.zb.lt) | (go_at_call 156; refine (HST.out _).mono ?_; rintro r w4 ⟨rfl, hb4⟩; (first | (with_reducible have KB := KA.below hb4) | (with_reducible have KB := (K1.below (below_one _ _).drew).below hb4; have HSL := (sl_drewO _ _ _).below hb4) | (with_reducible have KB := K1D.below hb4)); obtain ⟨z0, z1, z2, z3⟩ := KB.zb.cells; obtain ⟨y0, y1, y2, y3⟩ := KB.zb.free; have hgl := KB.zb.lt))
   have HL := Lib.hid (HLO.out _ KB)
   have HGO := Lib.hid (HGF.out w4 v _ (own_below HO5.out hb4) (by show g < (w1.alloc _).heap.size; rw [size1]; have := K1.zb.lt; omega) KB)
   clear HLO HGF HPS HP0 KA KB K1 K1D ho5 hb5 hb4 HO5 HAC
   go_wp2
   refine bodyPost_ret (v := .tuple #[v, .agg #[.int .i64 l[k].f, .int .i64 t, .int .i64 l[k].n, .int .i64 l[k].s], .int .i64 0]) ?_ rfl ⟨_, rfl, HGO.out⟩
   rw [results_tmp_cell_tmp rfl]
   simp [asAddr, Result.andThen, HL.out]
  ·have hck2 : k1 < c := by omega
   have HAC : Hid (∀ W gb, Sl W (some ⟨gb, 0, none⟩) (#[.slice (some ⟨b, off, none⟩) k c, .slice (some ⟨b, off + k1 * 4, none⟩) (l.length - k1) (c - k1)] : Array Value).toList → OpSl W (some ⟨b, off, none⟩) l → Calls Tryz.prog 228 #[.slice (some ⟨gb, 0, none⟩) 2 2] W fun e w' => ∃ v, e = .returned v ∧ w'.ownsRow W.heap.size 184 4 v (cutAt l k).length (oes (cutAt l k)) ∧ Below W.heap.size W w') := fun W gb hS hs => oconcat2 (some ⟨b, off, none⟩) (some ⟨b, off + k1 * 4, none⟩) (l.take k) (l.drop (k + 1)) c (c - k1) k (l.length - k1) W gb (by rw [List.length_take]; omega) (by have := HK1.out; rw [List.length_drop]; omega) hS (hs.take k) (by rw [HK1.out]; exact hs.drop (k + 1)) (fun h => by cases h) (fun h => by cases h) (by rw [List.length_take, List.length_drop]; omega)
   clear HR
   go_wp2_with fail
   go_region_held3 (fun W => W.cell? ⟨b, off + k * 4, none⟩ = some (.int .i64 l[k].n) ∧ W.cell? ⟨b, off + k * 4 + 1, none⟩ = some (.string l[k].u) ∧ W.cell? ⟨b, off + k * 4 + 2, none⟩ = some (.int .i64 l[k].s) ∧ W.cell? ⟨b, off + k * 4 + 3, none⟩ = some (.int .i64 l[k].f))
    (first | with_reducible exact HP0.out _ K1D | with_reducible exact HPS.out _ KA _ _ _ _ | with_reducible exact HPS.out _ KB _ _ _ _ | with_reducible exact HP0.out _ (K1D.below (below_one _ _)) | with_reducible exact HP0.out _ (K1.below (below_one _ _).drew) | with_reducible exact HP0.out _ KA | with_reducible exact HP0.out _ KB | with_reducible exact HP0.out _ (KB.below (below_one _ _)) | with_reducible exact HP0.out _ (KB.below (below_one _ _).drew))
    (first | (go_at_call 228; (first | (with_reducible refine (HAC.out _ _ HSL KB.row).mono ?_; rintro r w5 ⟨v, rfl, ho5, hb5⟩; have KA := KB.below hb5) | (with_reducible refine (HAC.out _ _ (sl_lit _ _ _) (KB.row.below (below_one _ _))).mono ?_; rintro r w5 ⟨v, rfl, ho5, hb5⟩; have KA := (KB.below (below_one _ _)).below hb5) | (with_reducible refine (HAC.out _ _ (sl_drewO _ _ _) (K1.row.below (below_one _ _).drew)).mono ?_; rintro r w5 ⟨v, rfl, ho5, hb5⟩; have KA := (K1.below (below_one _ _).drew).below hb5)); have HO5 := Lib.hid ho5; have HGV := Lib.hid (KA.zb.ge); obtain ⟨z0, z1, z2, z3⟩ := KA.zb.cells; obtain ⟨y0, y1, y2, y3⟩ := KA.zb.free; have hgl := KA.zb.lt) | (go_at_call 156; refine (HST.out _).mono ?_; rintro r w4 ⟨rfl, hb4⟩; (first | (with_reducible have KB := KA.below hb4) | (with_reducible have KB := (K1.below (below_one _ _).drew).below hb4; have HSL := (sl_drewO _ _ _).below hb4) | (with_reducible have KB := K1D.below hb4)); obtain ⟨z0, z1, z2, z3⟩ := KB.zb.cells; obtain ⟨y0, y1, y2, y3⟩ := KB.zb.free; have hgl := KB.zb.lt))
   have HL := Lib.hid (HLO.out _ KB)
   have HGO := Lib.hid (HGF.out w4 v _ (own_below HO5.out hb4) (by show g < (w1.alloc _).heap.size; rw [size1]; have := K1.zb.lt; omega) KB)
   clear HLO HGF HPS HP0 KA KB K1 K1D ho5 hb5 hb4 HO5 HAC
   go_wp2
   refine bodyPost_ret (v := .tuple #[v, .agg #[.int .i64 l[k].f, .int .i64 t, .int .i64 l[k].n, .int .i64 l[k].s], .int .i64 0]) ?_ rfl ⟨_, rfl, HGO.out⟩
   rw [results_tmp_cell_tmp rfl]
   simp [asAddr, Result.andThen, HL.out]
 ·rw [hp] at HF
  have hne : ¬ findC l n u = 0 := by rcases hc0 with h | h <;> rw [h] <;> decide
  rw [if_neg hne] at hCR hFS
  rw [hCR, hFS]
  have d1 : (findC l n u != 0) = true := by rcases hc0 with h | h <;> rw [h] <;> rfl
  generalize findC l n u = C at *
  unfold stV stZ
  dsimp only
  clear hCR hFS hc0 he hp hne
  go_enter Tryz.func231, Tryz.ntmps231
  go_wp2_with fail
  refine (HF.out _ (HR.out.below HZ.out.frame)).mono ?_
  rintro e w1 ⟨rfl, hB⟩
  have K1 := HZ.out.below hB
  have HL := Lib.hid (K1.loadS (.int .i64 0) (.int .i64 0) (.int .i64 0) (.int .i64 0))
  have HS := Lib.hid (K1.set (.int .i64 0) (.int .i64 0) (.int .i64 0) (.int .i64 0))
  obtain ⟨z0, z1, z2, z3⟩ := K1.cells
  obtain ⟨f0, f1, f2, f3⟩ := K1.free
  have hgl := K1.lt
  unfold setO at HL HS
  clear HF hB K1
  go_wp2
  refine bodyPost_ret (v := .tuple #[.slice none 0 0, .agg #[.int .i64 0, .int .i64 0, .int .i64 0, .int .i64 0], .int .i64 C]) ?_ rfl ⟨_, rfl, GotO.nil HS.out, fun b o q n e => by cases e⟩
  rw [results_tmp_cell_tmp rfl]
  simp [asAddr, Result.andThen, HL.out]
theorem close_any (a : Option Addr) (c : Nat) (l : List OpM) (n : Int) (u : ByteArray) (t : Int) (w : World) (hr : OpSl w a l) (hl : l.length ≤ 500) (hc : l.length ≤ c) (hcm : c ≤ maxLen) :
  Calls Tryz.prog 231 #[.slice a l.length c, .int .i64 n, .string u, .int .i64 t] w fun e w' => ∃ v, e = .returned (.tuple #[v, stV (fndS l n u t), .int .i64 (findC l n u)]) ∧ GotO w w' (cloR l n u) v :=
 (close_more a c l n u t w hr hl hc hcm).mono fun e w' ⟨v, h1, h2⟩ => ⟨v, h1, h2.1⟩
theorem own_grown {w w' : World} {B B2 : Nat} {e e2 : TypeId} {k k2 n n2 : Nat} {v v2 : Value} {xs xs2 : List Value} (hv : w.ownsRow B e k v n xs) (h2 : w.ownsRow B2 e2 k2 v2 n2 xs2) (hne : e ≠ e2) (hg : w.grownBy w' v.ownBlock) : w'.ownsRow B2 e2 k2 v2 n2 xs2 := by
 refine ⟨h2.1, ?_⟩
 rcases h2.2 with ⟨h3, h4⟩ | ⟨g, cap, cur, h3, h4, h5, h6⟩
 ·exact .inl ⟨h3, h4⟩
 ·refine .inr ⟨g, cap, cur, h3, h4, ?_, h6⟩
  rw [hg.block g (heap_lt h5) ?_, h5]
  rcases hv.2 with ⟨h7, _⟩ | ⟨g', cap', cur', h7, _, h8, _⟩
  ·rw [h7]; simp [Value.ownBlock]
  ·rw [h7]
   intro e1
   simp only [Value.ownBlock] at e1
   injection e1 with e1
   subst e1
   rw [h5] at h8
   injection h8 with h8
   injection h8 with _ h8
   exact hne h8.symm
def OwnSt (W : World) (B : Nat) (y : UsL) : Prop := W.ownsRow B 111 4 (.slice y.a y.l.length y.c) y.l.length (sts y.l)
theorem OwnSt.at_ {W : World} {B : Nat} {y : UsL} (h : OwnSt W B y) : UsAt W y := by
 obtain ⟨x, q, h1, h2, h3, h4, h5⟩ := own_st h
 injection h1 with k1 k2 k3
 subst k1 k3
 exact ⟨h4, h2, h3, h5⟩
theorem usv_snoc (D : List UsL) (y : UsL) : usv (D ++ [y]) = usv D ++ [.string y.u, .slice y.a y.l.length y.c] := by
 unfold usv
 rw [List.map_append]
 exact pps_snoc _ _
end Go.Proofs.YtapacckmgmdnoaaGreat
