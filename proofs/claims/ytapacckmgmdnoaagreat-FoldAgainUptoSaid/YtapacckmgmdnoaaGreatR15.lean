/- Texts of mine, one behind the other, of each what is wanted. -/
import Derived.Test.YtapacckmgmdnoaaGreatR00
import Derived.Test.YtapacckmgmdnoaaGreatShelf
import Derived.Test.YtapacckmgmdnoaaGreatR01
import Derived.Test.YtapacckmgmdnoaaGreatR02
import Derived.Test.YtapacckmgmdnoaaGreatR03
import Derived.Test.YtapacckmgmdnoaaGreatR04
import Derived.Test.YtapacckmgmdnoaaGreatR05
import Derived.Test.YtapacckmgmdnoaaGreatR07
import Derived.Test.YtapacckmgmdnoaaGreatR08
import Derived.Test.YtapacckmgmdnoaaGreatR09
import Derived.Test.YtapacckmgmdnoaaGreatR10
import Derived.Test.YtapacckmgmdnoaaGreatR12
namespace Go.Proofs.YtapacckmgmdnoaaGreat
open Go.RowKit
set_option linter.unusedVariables false
set_option maxRecDepth 100000
set_option maxRecDepth 100000
set_option maxHeartbeats 4000000 in
theorem oequal_any (a b : Option Addr) (ca cb : Nat) (l m : List OpM) (w : World) (ha : OpSl w a l) (hb : OpSl w b m) (hla : l.length ≤ maxLen) (hlb : m.length ≤ maxLen) :
  Calls Tryz.prog 152 #[.slice a l.length ca, .slice b m.length cb] w fun e w' => e = .returned (.bool (decide (l = m))) ∧ Below w.heap.size w w' := by
 have HA := Lib.hid ha
 have HB := Lib.hid hb
 clear ha hb
 unfold maxLen at hla hlb
 by_cases hll : l.length = m.length
 ·obtain ⟨n, hn⟩ : ∃ n, n = m.length := ⟨_, rfl⟩
  have HL : Hid (l.length = n) := hll.trans hn.symm
  have HM : Hid (m.length = n) := hn.symm
  rw [HL.out, HM.out]
  rw [HM.out] at hlb
  clear hll hn hla
  go_enter Tryz.func152, Tryz.ntmps152
  go_wp2
  go_loopw [13] (fun i wr => ∃ (j : Nat), j ≤ n ∧ i = .int .i64 j ∧ Hid (l.take j = m.take j) ∧ Hid (Drew w wr)) (fun i _ => n - (intOf i).toNat)
  case atStart => exact ⟨0, by omega, rfl, (by unfold Hid; rfl), Drew.refl _⟩
  case round =>
   obtain ⟨j, hj, rfl, HT, HD⟩ := hrel
   by_cases hjn : j < n
   ·have hjl : j < l.length := by have := HL.out; omega
    have hjm : j < m.length := by have := HM.out; omega
    obtain ⟨b1, o1, rfl, hb1, hc0, hc1, hc2, hc3⟩ := (HA.out.below (HD.out.below _)).at_ hjl
    obtain ⟨b2, o2, rfl, hb2, hd0, hd1, hd2, hd3⟩ := (HB.out.below (HD.out.below _)).at_ hjm
    have HN := Lib.hid (take_same hjl hjm HT.out)
    have HNE : Hid (l[j] ≠ m[j] → l ≠ m) := fun h e => h (by subst e; rfl)
    generalize l[j] = x at *
    generalize m[j] = y at *
    clear hjl hjm
    obtain ⟨f1, t1, n1, s1⟩ := x
    obtain ⟨f2, t2, n2, s2⟩ := y
    dsimp only at *
    by_cases h0 : f1 = f2
    ·subst h0
     have he0 : (f1 == f1) = true := beq_self_eq_true _
     by_cases h1 : t1 = t2
     ·subst h1
      have he1 := txt_eq t1
      by_cases h2 : n1 = n2
      ·subst h2
       have he2 : (n1 == n1) = true := beq_self_eq_true _
       by_cases h3 : s1 = s2
       ·subst h3
        have he3 : (s1 == s1) = true := beq_self_eq_true _
        have HN2 := Lib.hid (HN.out rfl)
        clear HN HNE
        go_wp2
        go_quiet (fail)
        go_wp2
        go_roundw
        case rel => exact ⟨j + 1, by omega, by go_num, HN2, HD.out.trans ⟨_, rfl⟩⟩
        case measure => simp [intOf]; omega
       ·have HF : Hid (decide (l = m) = false) := decide_eq_false (HNE.out (fun e => h3 (congrArg OpM.f e)))
        have heq : (s1 == s2) = false := beq_eq_false_iff_ne.2 h3
        clear HN HNE
        go_wp2
        go_quiet (fail)
        go_wp2
        go_ret
        exact ⟨by rw [HF.out]; rfl, (HD.out.trans ⟨_, rfl⟩).below _⟩
      ·have HF : Hid (decide (l = m) = false) := decide_eq_false (HNE.out (fun e => h2 (congrArg OpM.s e)))
       have heq : (n1 == n2) = false := beq_eq_false_iff_ne.2 h2
       clear HN HNE
       go_wp2
       go_quiet (fail)
       go_wp2
       go_ret
       exact ⟨by rw [HF.out]; rfl, (HD.out.trans ⟨_, rfl⟩).below _⟩
     ·have HF : Hid (decide (l = m) = false) := decide_eq_false (HNE.out (fun e => h1 (congrArg OpM.u e)))
      have heq := txt_ne h1
      clear HN HNE
      go_wp2
      go_quiet (fail)
      go_wp2
      go_ret
      exact ⟨by rw [HF.out]; rfl, (HD.out.trans ⟨_, rfl⟩).below _⟩
    ·have HF : Hid (decide (l = m) = false) := decide_eq_false (HNE.out (fun e => h0 (congrArg OpM.n e)))
     have heq : (f1 == f2) = false := beq_eq_false_iff_ne.2 h0
     clear HN HNE
     go_wp2
     go_quiet (fail)
     go_wp2
     go_ret
     exact ⟨by rw [HF.out]; rfl, (HD.out.trans ⟨_, rfl⟩).below _⟩
   ·obtain rfl : j = n := by omega
    have HE : Hid (decide (l = m) = true) := decide_eq_true (by
     have := HT.out
     rwa [List.take_of_length_le (Nat.le_of_eq HL.out), List.take_of_length_le (Nat.le_of_eq HM.out)] at this)
    go_wp2
    go_ret
    exact ⟨by rw [HE.out]; rfl, HD.out.below _⟩
 ·have HE : Hid (decide (l = m) = false) := decide_eq_false (fun e => hll (by rw [e]))
  have hne : ((l.length : Int) == (m.length : Int)) = false := beq_eq_false_iff_ne.2 (by omega)
  go_enter Tryz.func152, Tryz.ntmps152
  go_wp2
  go_ret
  exact ⟨by rw [HE.out]; rfl, Below.refl _ _⟩
theorem osame_any (a b : Option Addr) (ca cb : Nat) (l m : List OpM) (w : World) (ha : OpSl w a l) (hb : OpSl w b m) (hla : l.length ≤ maxLen) (hlb : m.length ≤ maxLen) :
  Calls Tryz.prog 83 #[.slice a l.length ca, .slice b m.length cb] w fun e w' => e = .returned (.bool (decide (l = m))) ∧ Below w.heap.size w w' := by
 have HC := Lib.hid (oequal_any a b ca cb l m w ha hb hla hlb)
 unfold maxLen at hla hlb
 clear ha hb
 go_enter Tryz.func83, Tryz.ntmps83
 go_wp2_with fail
 refine HC.out.mono ?_
 rintro e w2 ⟨rfl, h2⟩
 go_wp2
 go_ret
 exact ⟨rfl, h2⟩
end Go.Proofs.YtapacckmgmdnoaaGreat
namespace Go.Proofs.YtapacckmgmdnoaaGreat
open Go.RowKit Go.Proofs
set_option linter.unusedVariables false
set_option maxRecDepth 100000
set_option maxRecDepth 100000
theorem oconcat2 (x y : Option Addr) (A B : List OpM) (c1 c2 n1 n2 : Nat) (W : World) (g : Nat) (h1 : n1 = A.length) (h2 : n2 = B.length) (hS : Sl W (some ⟨g, 0, none⟩) [.slice x n1 c1, .slice y n2 c2]) (hA : OpSl W x A) (hB : OpSl W y B) (k1 : x = none → c1 = 0) (k2 : y = none → c2 = 0) (hl : A.length + B.length ≤ 1000) :
  Calls Tryz.prog 228 #[.slice (some ⟨g, 0, none⟩) 2 2] W fun e w' => ∃ v, e = .returned v ∧ w'.ownsRow W.heap.size 184 4 v (A ++ B).length (oes (A ++ B)) ∧ Below W.heap.size W w' := by
 subst h1 h2
 have hcat : catO [⟨x, A, c1⟩, ⟨y, B, c2⟩] = A ++ B := by simp [catO]
 have hlen : (catO [⟨x, A, c1⟩, ⟨y, B, c2⟩]).length ≤ 100000 := by rw [hcat, List.length_append]; omega
 refine (oconcat_any (some ⟨g, 0, none⟩) 2 [⟨x, A, c1⟩, ⟨y, B, c2⟩] W hS ?_ (by show 2 ≤ _; decide) hlen).mono ?_
 ·intro r hr
  simp only [List.mem_cons, List.mem_nil_iff, or_false] at hr
  rcases hr with rfl | rfl
  ·exact ⟨hA, k1⟩
  ·exact ⟨hB, k2⟩
 ·rintro e w' ⟨v, rfl, ho, hbb⟩
  rw [hcat] at ho
  exact ⟨v, rfl, ho, hbb⟩
structure CzK (w : World) (g : Nat) (a : Option Addr) (l : List OpM) (W : World) : Prop where
 zb : Zb w g (.int .i64 0) (.int .i64 0) (.int .i64 0) (.int .i64 0) 111 W
 row : OpSl W a l
theorem CzK.below {w W W' : World} {g : Nat} {a : Option Addr} {l : List OpM} (h : CzK w g a l W) (q : Below W.heap.size W W') : CzK w g a l W' := ⟨h.zb.below q, h.row.below q⟩
theorem CzK.at_ {w W : World} {g b off : Nat} {l : List OpM} (h : CzK w g (some ⟨b, off, none⟩) l W) {k : Nat} (hk : k < l.length) : W.cell? ⟨b, off + k * 4, none⟩ = some (.int .i64 l[k].n) ∧ W.cell? ⟨b, off + k * 4 + 1, none⟩ = some (.string l[k].u) ∧ W.cell? ⟨b, off + k * 4 + 2, none⟩ = some (.int .i64 l[k].s) ∧ W.cell? ⟨b, off + k * 4 + 3, none⟩ = some (.int .i64 l[k].f) := by
 obtain ⟨b', off', e, _, h0⟩ := h.row.at_ hk
 cases e
 exact h0
theorem CzK.far {w W : World} {g b off : Nat} {l : List OpM} (h : CzK w g (some ⟨b, off, none⟩) l W) (hb : ¬ b = g) (x0 x1 x2 x3 : Value) {k : Nat} (hk : k < l.length) :
  (setO W g x0 x1 x2 x3).cell? ⟨b, off + k * 4, none⟩ = some (.int .i64 l[k].n) ∧ (setO W g x0 x1 x2 x3).cell? ⟨b, off + k * 4 + 1, none⟩ = some (.string l[k].u) ∧ (setO W g x0 x1 x2 x3).cell? ⟨b, off + k * 4 + 2, none⟩ = some (.int .i64 l[k].s) ∧ (setO W g x0 x1 x2 x3).cell? ⟨b, off + k * 4 + 3, none⟩ = some (.int .i64 l[k].f) := by
 obtain ⟨h0, h1, h2, h3⟩ := h.at_ hk
 exact ⟨(setO_cell W g x0 x1 x2 x3 (p := ⟨b, off + k * 4, none⟩) hb).trans h0, (setO_cell W g x0 x1 x2 x3 (p := ⟨b, off + k * 4 + 1, none⟩) hb).trans h1, (setO_cell W g x0 x1 x2 x3 (p := ⟨b, off + k * 4 + 2, none⟩) hb).trans h2, (setO_cell W g x0 x1 x2 x3 (p := ⟨b, off + k * 4 + 3, none⟩) hb).trans h3⟩
theorem GotO.far {w W : World} {m : List OpM} {v : Value} {B e g : Nat} (h : W.ownsRow B e 4 v m.length (oes m)) (hg : g < B) (x0 x1 x2 x3 : Value) (hb : Below w.heap.size w (setO W g x0 x1 x2 x3)) : GotO w (setO W g x0 x1 x2 x3) m v := by
 have hlt := h.lt
 obtain ⟨x, q, rfl, h2, h3, h4, h5⟩ := own_op h
 refine ⟨x, q, rfl, h2, h3, h5, h4.setO g x0 x1 x2 x3 (fun b o e => ?_), hb⟩
 subst e
 have := (hlt b rfl).1
 omega
set_option maxHeartbeats 4000000 in
theorem close_more (a : Option Addr) (c : Nat) (l : List OpM) (n : Int) (u : ByteArray) (t : Int) (w : World) (hr : OpSl w a l) (hl : l.length ≤ 500) (hc : l.length ≤ c) (hcm : c ≤ maxLen) :
  Calls Tryz.prog 231 #[.slice a l.length c, .int .i64 n, .string u, .int .i64 t] w fun e w' => ∃ v, e = .returned (.tuple #[v, stV (fndS l n u t), .int .i64 (findC l n u)]) ∧ GotN w w' (cloR l n u) v := by
 have HF := Lib.hid (fun W (h : OpSl W a l) => find_any a c l n u W h (by omega))
 have HZ := Lib.hid (Zb.new w (.int .i64 0) (.int .i64 0) (.int .i64 0) (.int .i64 0) 111)
 have HR := Lib.hid hr
 have hCR : cloR l n u = if findC l n u = 0 then cutAt l (findP l n u) else [] := rfl
 have hFS : fndS l n u t = if findC l n u = 0 then stayO (findE l n u) t else stZ := rfl
 unfold maxLen at hcm
 clear hr
 rcases fc_three l n u with ⟨hc0, k, hk, -, -, -, he, hp⟩ | ⟨hc0, he, hp⟩
 ·rw [hc0, hp] at HF
  rw [hc0, if_pos rfl, hp] at hCR
  rw [hc0, if_pos rfl, he] at hFS
  rw [hc0, hCR, hFS]
  have HST := Lib.hid (fun W => stay_any l[k] t W)
  unfold opV stV stayO at HST
  unfold stV stayO
  dsimp only at *
  have d1 : ((0 : Int) != 0) = false := rfl
  clear hCR hFS hc0 he hp
  go_enter Tryz.func231, Tryz.ntmps231
  go_wp2_with fail
  refine (HF.out _ (HR.out.below HZ.out.frame)).mono ?_
  rintro e w1 ⟨rfl, hB⟩
  have K1Z := HZ.out.below hB
  have K1 : CzK w w.heap.size a l w1 := ⟨K1Z, HR.out.below K1Z.frame⟩
  obtain ⟨b, off, rfl, hbg, -, -, -, -⟩ := HR.out.at_ hk
  have HPS := Lib.hid (fun W (h : CzK w w.heap.size (some ⟨b, off, none⟩) l W) x0 x1 x2 x3 => h.far (by omega) x0 x1 x2 x3 hk)
  have HLO := Lib.hid (fun W (h : CzK w w.heap.size (some ⟨b, off, none⟩) l W) => h.zb.loadS (.int .i64 l[k].f) (.int .i64 t) (.int .i64 l[k].n) (.int .i64 l[k].s))
  have HGF := Lib.hid (fun W v B (ho : W.ownsRow B 184 4 v (cutAt l k).length (oes (cutAt l k))) (hg : w.heap.size < B) (h : CzK w w.heap.size (some ⟨b, off, none⟩) l W) => (show GotN w _ _ _ from ⟨GotO.far ho hg (.int .i64 l[k].f) (.int .i64 t) (.int .i64 l[k].n) (.int .i64 l[k].s) (h.zb.set (.int .i64 l[k].f) (.int .i64 t) (.int .i64 l[k].n) (.int .i64 l[k].s)), fun b' o' n' q' e => by subst e; have := (ho.lt b' rfl).1; omega⟩))
  unfold setO at HPS HLO HGF
  clear hbg
  have K1D := K1.below (Below.refl _ _).drew
  have HP0 := Lib.hid (fun W (h : CzK w w.heap.size (some ⟨b, off, none⟩) l W) => h.at_ hk)
  obtain ⟨k1, hk1⟩ : ∃ k1, k1 = k + 1 := ⟨_, rfl⟩
  have HK1 := Lib.hid hk1
  have hpw : IntKind.i64.wrap ((k : Int) + 1) = (k1 : Int) := by rw [IntWalk.i64_in] <;> omega
  have hk1l : k1 ≤ l.length := by omega
  have hkk : k < k1 := by omega
  have hz1 : (0 : Int) ≤ (k : Int) := by omega
  have hz2 : (k : Int) ≤ (l.length : Int) := by omega
  have hz3 : (k : Int) ≤ (c : Int) := by omega
  have hz4 : (l.length : Int) ≤ (c : Int) := by omega
  have hz5 : (0 : Int) ≤ (k1 : Int) := by omega
  have hz6 : (k1 : Int) ≤ (l.length : Int) := by omega
  have hz7 : (k1 : Int) ≤ (c : Int) := by omega
  have hz8 : k1 ≤ c := by omega
  have hz9 : k ≤ c := by omega
  clear hB HF HZ K1Z hk1
  generalize w.heap.size = g at *
  by_cases hck : c = k1
  ·have hl1 : l.length = k1 := by omega
   have HL1 := Lib.hid hl1
   subst hck
   have HAC : Hid (∀ W gb, Sl W (some ⟨gb, 0, none⟩) (#[.slice (some ⟨b, off, none⟩) k c, .slice (some ⟨b, off, none⟩) 0 0] : Array Value).toList → OpSl W (some ⟨b, off, none⟩) l → Calls Tryz.prog 228 #[.slice (some ⟨gb, 0, none⟩) 2 2] W fun e w' => ∃ v, e = .returned v ∧ w'.ownsRow W.heap.size 184 4 v (cutAt l k).length (oes (cutAt l k)) ∧ Below W.heap.size W w') := fun W gb hS hs => by
    have h := oconcat2 (some ⟨b, off, none⟩) (some ⟨b, off, none⟩) (l.take k) (l.drop (k + 1)) c 0 k 0 W gb (by rw [List.length_take]; omega) (by have := HK1.out; have := HL1.out; rw [List.length_drop]; omega) hS (hs.take k) (by have := HK1.out; have := HL1.out; rw [List.drop_of_length_le (by omega)]; exact OpSl.nil _ _) (fun h => by cases h) (fun h => by cases h) (by have := HL1.out; rw [List.length_take, List.length_drop]; omega)
    exact h
   clear HR
   go_wp2_with fail
   go_region_held3 (fun W => W.cell? ⟨b, off + k * 4, none⟩ = some (.int .i64 l[k].n) ∧ W.cell? ⟨b, off + k * 4 + 1, none⟩ = some (.string l[k].u) ∧ W.cell? ⟨b, off + k * 4 + 2, none⟩ = some (.int .i64 l[k].s) ∧ W.cell? ⟨b, off + k * 4 + 3, none⟩ = some (.int .i64 l[k].f))
    (first | with_reducible exact HP0.out _ K1D | with_reducible exact HPS.out _ KA _ _ _ _ | with_reducible exact HPS.out _ KB _ _ _ _ | with_reducible exact HP0.out _ (K1D.below (below_one _ _)) | with_reducible exact HP0.out _ (K1.below (below_one _ _).drew) | with_reducible exact HP0.out _ KA | with_reducible exact HP0.out _ KB | with_reducible exact HP0.out _ (KB.below (below_one _ _)) | with_reducible exact HP0.out _ (KB.below (below_one _ _).drew))
    (first | (go_at_call 228; (first | (with_reducible refine (HAC.out _ _ HSL KB.row).mono ?_; rintro r w5 ⟨v, rfl, ho5, hb5⟩; have KA := KB.below hb5) | (with_reducible refine (HAC.out _ _ (sl_lit _ _ _) (KB.row.below (below_one _ _))).mono ?_; rintro r w5 ⟨v, rfl, ho5, hb5⟩; have KA := (KB.below (below_one _ _)).below hb5) | (with_reducible refine (HAC.out _ _ (sl_drewO _ _ _) (K1.row.below (below_one _ _).drew)).mono ?_; rintro r w5 ⟨v, rfl, ho5, hb5⟩; have KA := (K1.below (below_one _ _).drew).below hb5)); have HO5 := Lib.hid ho5; have HGV := Lib.hid (KA.zb.ge); obtain ⟨z0, z1, z2, z3⟩ := KA.zb.cells; obtain ⟨y0, y1, y2, y3⟩ := KA.zb.free; have hgl := KA.zb.lt) | (go_at_call 156; refine (HST.out _).mono ?_; rintro r w4 ⟨rfl, hb4⟩; (first | (with_reducible have KB := KA.below hb4) | (with_reducible have KB := (K1.below (below_one _ _).drew).below hb4; have HSL := (sl_drewO _ _ _).below hb4) | (with_reducible have KB := K1D.below hb4)); obtain ⟨z0, z1, z2, z3⟩ := KB.zb.cells; obtain ⟨y0, y1, y2, y3⟩ := KB.zb.free; have hgl := KB.zb.lt))
   have HL := Lib.hid (HLO.out _ KB)
   have HGO := Lib.hid (HGF.out w4 v _ (own_below HO5.out hb4) (by show g < (w1.alloc _).heap.size; rw [size1]; have := K1.zb.lt; omega) KB)
   clear HLO HGF HPS HP0 KA KB K1 K1D ho5 hb5 hb4 HO5 HAC
   go_wp2
   refine bodyPost_ret (v := .tuple #[v, .agg #[.int .i64 l[k].f, .int .i64 t, .int .i64 l[k].n, .int .i64 l[k].s], .int .i64 0]) ?_ rfl ⟨_, rfl, HGO.out⟩
   rw [results_tmp_cell_tmp rfl]
   simp [asAddr, Result.andThen, HL.out]
  ·have hck2 : k1 < c := by omega
   have HAC : Hid (∀ W gb, Sl W (some ⟨gb, 0, none⟩) (#[.slice (some ⟨b, off, none⟩) k c, .slice (some ⟨b, off + k1 * 4, none⟩) (l.length - k1) (c - k1)] : Array Value).toList → OpSl W (some ⟨b, off, none⟩) l → Calls Tryz.prog 228 #[.slice (some ⟨gb, 0, none⟩) 2 2] W fun e w' => ∃ v, e = .returned v ∧ w'.ownsRow W.heap.size 184 4 v (cutAt l k).length (oes (cutAt l k)) ∧ Below W.heap.size W w') := fun W gb hS hs => oconcat2 (some ⟨b, off, none⟩) (some ⟨b, off + k1 * 4, none⟩) (l.take k) (l.drop (k + 1)) c (c - k1) k (l.length - k1) W gb (by rw [List.length_take]; omega) (by have := HK1.out; rw [List.length_drop]; omega) hS (hs.take k) (by rw [HK1.out]; exact hs.drop (k + 1)) (fun h => by cases h) (fun h => by cases h) (by rw [List.length_take, List.length_drop]; omega)
   clear HR
   go_wp2_with fail
   go_region_held3 (fun W => W.cell? ⟨b, off + k * 4, none⟩ = some (.int .i64 l[k].n) ∧ W.cell? ⟨b, off + k * 4 + 1, none⟩ = some (.string l[k].u) ∧ W.cell? ⟨b, off + k * 4 + 2, none⟩ = some (.int .i64 l[k].s) ∧ W.cell? ⟨b, off + k * 4 + 3, none⟩ = some (.int .i64 l[k].f))
    (first | with_reducible exact HP0.out _ K1D | with_reducible exact HPS.out _ KA _ _ _ _ | with_reducible exact HPS.out _ KB _ _ _ _ | with_reducible exact HP0.out _ (K1D.below (below_one _ _)) | with_reducible exact HP0.out _ (K1.below (below_one _ _).drew) | with_reducible exact HP0.out _ KA | with_reducible exact HP0.out _ KB | with_reducible exact HP0.out _ (KB.below (below_one _ _)) | with_reducible exact HP0.out _ (KB.below (below_one _ _).drew))
    (first | (go_at_call 228; (first | (with_reducible refine (HAC.out _ _ HSL KB.row).mono ?_; rintro r w5 ⟨v, rfl, ho5, hb5⟩; have KA := KB.below hb5) | (with_reducible refine (HAC.out _ _ (sl_lit _ _ _) (KB.row.below (below_one _ _))).mono ?_; rintro r w5 ⟨v, rfl, ho5, hb5⟩; have KA := (KB.below (below_one _ _)).below hb5) | (with_reducible refine (HAC.out _ _ (sl_drewO _ _ _) (K1.row.below (below_one _ _).drew)).mono ?_; rintro r w5 ⟨v, rfl, ho5, hb5⟩; have KA := (K1.below (below_one _ _).drew).below hb5)); have HO5 := Lib.hid ho5; have HGV := Lib.hid (KA.zb.ge); obtain ⟨z0, z1, z2, z3⟩ := KA.zb.cells; obtain ⟨y0, y1, y2, y3⟩ := KA.zb.free; have hgl := KA.zb.lt) | (go_at_call 156; refine (HST.out _).mono ?_; rintro r w4 ⟨rfl, hb4⟩; (first | (with_reducible have KB := KA.below hb4) | (with_reducible have KB := (K1.below (below_one _ _).drew).below hb4; have HSL := (sl_drewO _ _ _).below hb4) | (with_reducible have KB := K1D.below hb4)); obtain ⟨z0, z1, z2, z3⟩ := KB.zb.cells; obtain ⟨y0, y1, y2, y3⟩ := KB.zb.free; have hgl := KB.zb.lt))
   have HL := Lib.hid (HLO.out _ KB)
   have HGO := Lib.hid (HGF.out w4 v _ (own_below HO5.out hb4) (by show g < (w1.alloc _).heap.size; rw [size1]; have := K1.zb.lt; omega) KB)
   clear HLO HGF HPS HP0 KA KB K1 K1D ho5 hb5 hb4 HO5 HAC
   go_wp2
   refine bodyPost_ret (v := .tuple #[v, .agg #[.int .i64 l[k].f, .int .i64 t, .int .i64 l[k].n, .int .i64 l[k].s], .int .i64 0]) ?_ rfl ⟨_, rfl, HGO.out⟩
   rw [results_tmp_cell_tmp rfl]
   simp [asAddr, Result.andThen, HL.out]
 ·rw [hp] at HF
  have hne : ¬ findC l n u = 0 := by rcases hc0 with h | h <;> rw [h] <;> decide
  rw [if_neg hne] at hCR hFS
  rw [hCR, hFS]
  have d1 : (findC l n u != 0) = true := by rcases hc0 with h | h <;> rw [h] <;> rfl
  generalize findC l n u = C at *
  unfold stV stZ
  dsimp only
  clear hCR hFS hc0 he hp hne
  go_enter Tryz.func231, Tryz.ntmps231
  go_wp2_with fail
  refine (HF.out _ (HR.out.below HZ.out.frame)).mono ?_
  rintro e w1 ⟨rfl, hB⟩
  have K1 := HZ.out.below hB
  have HL := Lib.hid (K1.loadS (.int .i64 0) (.int .i64 0) (.int .i64 0) (.int .i64 0))
  have HS := Lib.hid (K1.set (.int .i64 0) (.int .i64 0) (.int .i64 0) (.int .i64 0))
  obtain ⟨z0, z1, z2, z3⟩ := K1.cells
  obtain ⟨f0, f1, f2, f3⟩ := K1.free
  have hgl := K1.lt
  unfold setO at HL HS
  clear HF hB K1
  go_wp2
  refine bodyPost_ret (v := .tuple #[.slice none 0 0, .agg #[.int .i64 0, .int .i64 0, .int .i64 0, .int .i64 0], .int .i64 C]) ?_ rfl ⟨_, rfl, GotO.nil HS.out, fun b o q n e => by cases e⟩
  rw [results_tmp_cell_tmp rfl]
  simp [asAddr, Result.andThen, HL.out]
theorem close_any (a : Option Addr) (c : Nat) (l : List OpM) (n : Int) (u : ByteArray) (t : Int) (w : World) (hr : OpSl w a l) (hl : l.length ≤ 500) (hc : l.length ≤ c) (hcm : c ≤ maxLen) :
  Calls Tryz.prog 231 #[.slice a l.length c, .int .i64 n, .string u, .int .i64 t] w fun e w' => ∃ v, e = .returned (.tuple #[v, stV (fndS l n u t), .int .i64 (findC l n u)]) ∧ GotO w w' (cloR l n u) v :=
 (close_more a c l n u t w hr hl hc hcm).mono fun e w' ⟨v, h1, h2⟩ => ⟨v, h1, h2.1⟩
end Go.Proofs.YtapacckmgmdnoaaGreat
namespace Go.Proofs.YtapacckmgmdnoaaGreat
open Go.RowKit
set_option linter.unusedVariables false
set_option maxRecDepth 100000
set_option maxRecDepth 100000
def CapAt (W : World) (g : Nat) (v : Value) : Prop := W.cell? ⟨g, 0, none⟩ = some v ∧ g < W.heap.size
theorem CapAt.below {W W' : World} {g : Nat} {v : Value} (h : CapAt W g v) (q : Below W.heap.size W W') : CapAt W' g v :=
 ⟨(q.cell (p := ⟨g, 0, none⟩) h.2).trans h.1, Nat.lt_of_lt_of_le h.2 q.size⟩
theorem CapAt.new (W : World) (v : Value) (t : TypeId) : CapAt (W.alloc (.cells #[v] t)) W.heap.size v :=
 ⟨cell_of_row _ _ _ _ _ _ (heap_alloc_new W _), by rw [size1]; omega⟩
def wiE (s : ByteArray) (e : EnM) : Bool := decide (e.w ≠ s) && decide (e.u ≠ s)
theorem wi_eq (s : ByteArray) (e : EnM) : wiE s e = !(eqS s e.w || eqS s e.u) := by
 have h1 := eqS_iff s e.w
 have h2 := eqS_iff s e.u
 unfold wiE
 rw [Bool.eq_iff_iff]
 simp only [Bool.and_eq_true, decide_eq_true_eq, Bool.not_eq_true', Bool.or_eq_false_iff]
 rw [← Bool.not_eq_true, ← Bool.not_eq_true, h1, h2]
 exact ⟨fun h => ⟨fun e => h.1 e.symm, fun e => h.2 e.symm⟩, fun h => ⟨fun e => h.1 e.symm, fun e => h.2 e.symm⟩⟩
theorem fil_take (q : EnM → Bool) (l : List EnM) (j : Nat) (h : j < l.length) : (l.take (j + 1)).filter q = (l.take j).filter q ++ (if q l[j] = true then [l[j]] else []) := by
 rw [List.take_succ_eq_append_getElem h, List.filter_append, List.filter_cons, List.filter_nil]
theorem fil_len (q : EnM → Bool) (l : List EnM) (j : Nat) : ((l.take j).filter q).length ≤ j := Nat.le_trans (List.length_filter_le _ _) (by simp; omega)
set_option maxHeartbeats 1000000 in
theorem wic_any (e : EnM) (s : ByteArray) (g : Nat) (W : World) (h : CapAt W g (.string s)) :
  Calls Tryz.prog 264 #[enV e, .pointer (some ⟨g, 0, none⟩)] W fun r w' => r = .returned (.bool (wiE s e)) ∧ Below W.heap.size W w' := by
 have hb := ebelow_one W (.cells #[.string e.w, .string e.u, .int .i64 e.f, .int .i64 e.t] 165)
 obtain ⟨c0, hg⟩ := h.below hb
 have HB := Lib.hid hb
 have HE := Lib.hid (wi_eq s e)
 have HC := Lib.hid (fun W => pairHas_any e.w e.u s W)
 unfold pr at HC
 unfold enV
 generalize (eqS s e.w || eqS s e.u) = r at *
 clear hb hg h
 go_enter Tryz.func264, Tryz.ntmps264
 go_wp2_with fail
 refine (HC.out _).mono ?_
 rintro r w2 ⟨rfl, hB⟩
 go_wp2
 go_ret
 exact ⟨by rw [HE.out]; rfl, HB.out.trans (hB.mono HB.out.size)⟩
set_option maxHeartbeats 2000000 in
theorem thosew_any (a : Option Addr) (c : Nat) (l : List EnM) (s : ByteArray) (g : Nat) (w : World) (hr : EnSl w a l) (h : CapAt w g (.string s)) (hl : l.length ≤ 100000) :
  Calls Tryz.prog 186 #[.slice a l.length c, .func (.func 264) #[] #[.pointer (some ⟨g, 0, none⟩)]] w fun e w' => ∃ v, e = .returned v ∧ w'.ownsRow w.heap.size 165 4 v (l.filter (wiE s)).length (ens (l.filter (wiE s))) ∧ Below w.heap.size w w' := by
 obtain ⟨i0, hi, hz0, hz1, hz2⟩ := info_parts infoEn
 have HR := Lib.hid hr
 have HP := Lib.hid h
 have HC := Lib.hid (fun e V k => wic_any e s g V k)
 unfold enV at HC
 clear hr h
 go_enter Tryz.func186, Tryz.ntmps186
 go_wp2
 go_loopw [5, 10] (fun v i wr => ∃ (j : Nat), j ≤ l.length ∧ i = .int .i64 j ∧ Hid (wr.ownsRow w.heap.size 165 4 v ((l.take j).filter (wiE s)).length (ens ((l.take j).filter (wiE s)))) ∧ Hid (Below w.heap.size w wr)) (fun _ i _ => l.length - (intOf i).toNat)
 case atStart => exact ⟨0, by omega, rfl, ⟨rfl, .inl ⟨rfl, rfl⟩⟩, Below.refl _ _⟩
 case round =>
  obtain ⟨j, hj, rfl, HO, HB⟩ := hrel
  by_cases hjl : j < l.length
  ·obtain ⟨b, off, rfl, hbl, hc0, hc1, hc2, hc3⟩ := (HR.out.below HB.out).at_ hjl
   have HT := Lib.hid (fil_take (wiE s) l j hjl)
   have HLN := Lib.hid (fil_len (wiE s) l j)
   generalize l[j] = x at *
   generalize (l.take j).filter (wiE s) = m at *
   have hb0 := ebelow_one wr (.cells #[.string x.w, .string x.u, .int .i64 x.f, .int .i64 x.t] 165)
   have HX := Lib.hid (heap_alloc_new wr (.cells #[.string x.w, .string x.u, .int .i64 x.f, .int .i64 x.t] 165))
   have HPW := Lib.hid ((HP.out.below HB.out).below hb0)
   have HB0 := Lib.hid hb0
   have HCC := Lib.hid (HC.out x _ HPW.out)
   have HZ := Lib.hid (size1 wr (.cells #[.string x.w, .string x.u, .int .i64 x.f, .int .i64 x.t] 165))
   clear hb0 HC HPW
   cases hq : (wiE s) x with
   | true =>
    have HC2 : Hid ((l.take (j + 1)).filter (wiE s) = m ++ [x]) := by have := HT.out; rwa [if_pos hq] at this
    rw [hq] at HCC
    clear HT hq
    go_wp2_with fail
    refine HCC.out.mono ?_
    rintro r w2 ⟨rfl, hB⟩
    have hb2 : Below wr.heap.size wr w2 := HB0.out.trans (hB.mono (by rw [HZ.out]; omega))
    obtain ⟨d0, d1, d2, d3⟩ := ecells4 ((hB.block _ (heap_lt HX.out)).trans HX.out)
    have HO2 := Lib.hid (own_below HO.out (hb2.trans ((ebelow_one w2 (.cells #[.string x.w, .string x.u, .int .i64 x.f, .int .i64 x.t] 165)).mono hb2.size)))
    have HB2 : Hid (Below w.heap.size w (w2.alloc (.cells #[.string x.w, .string x.u, .int .i64 x.f, .int .i64 x.t] 165))) := HB.out.trans ((hb2.trans ((ebelow_one w2 _).mono hb2.size)).mono HB.out.size)
    have HS2 := Lib.hid HB2.out.size
    have hlm := HLN.out
    clear hB hb2 hc0 hc1 hc2 hc3 HX HZ HB0 HCC
    go_wp2_with (at_builtin; refine wpList_append_own _ rfl (.tmp 17) (.tmp 19) 36 rfl w.heap.size 165 i0 _ 4 48 Tryz.underlying36 hi hz0 hz1 hz2 rfl (by decide) _ _ _ rfl HO2.out ⟨w2.heap.size, 0, none⟩ 1 1 [.string x.w, .string x.u, .int .i64 x.f, .int .i64 x.t] rfl rfl (news_at _ _ _ _ rfl) (four_e _ _ _ _) (by unfold maxLen; omega) (by omega) HS2.out ?_; intro v' w3 hown' hgrow hiff)
    have HB3 := Lib.hid (app_below HB2.out HS2.out HO2.out hgrow)
    have HO3 := Lib.hid hown'
    clear hown' hgrow hiff HB2 HS2 HO2
    go_wp2
    go_roundw
    case rel => exact ⟨j + 1, by omega, by go_num, (by unfold Hid; rw [HC2.out, List.length_append, ens_snoc]; exact HO3.out), HB3⟩
    case measure => simp [intOf]; omega
   | false =>
    have HC2 : Hid ((l.take (j + 1)).filter (wiE s) = m) := by have := HT.out; rwa [if_neg (by rw [hq]; exact Bool.false_ne_true), List.append_nil] at this
    rw [hq] at HCC
    clear HT hq
    go_wp2_with fail
    refine HCC.out.mono ?_
    rintro r w2 ⟨rfl, hB⟩
    have hb2 : Below wr.heap.size wr w2 := HB0.out.trans (hB.mono (by rw [HZ.out]; omega))
    have HO2 := Lib.hid (own_below HO.out hb2)
    have HB2 : Hid (Below w.heap.size w w2) := HB.out.trans (hb2.mono HB.out.size)
    clear hB hb2 hc0 hc1 hc2 hc3 HX HZ HB0 HCC
    go_wp2
    go_roundw
    case rel => exact ⟨j + 1, by omega, by go_num, (by unfold Hid; rw [HC2.out]; exact HO2.out), HB2⟩
    case measure => simp [intOf]; omega
  ·obtain rfl : j = l.length := by omega
   rw [List.take_of_length_le (Nat.le_refl _)] at HO
   go_wp2
   go_ret
   exact ⟨_, rfl, HO.out, HB.out⟩
set_option maxHeartbeats 1000000 in
theorem without_any (a : Option Addr) (c : Nat) (l : List EnM) (s : ByteArray) (w : World) (hr : EnSl w a l) (hl : l.length ≤ 100000) :
  Calls Tryz.prog 238 #[.slice a l.length c, (.string s)] w fun e w' => ∃ v, e = .returned v ∧ w'.ownsRow w.heap.size 165 4 v (l.filter (wiE s)).length (ens (l.filter (wiE s))) ∧ Below w.heap.size w w' := by
 have hb := ebelow_one w (.cells #[.string s] 9)
 have HC := Lib.hid (thosew_any a c l s w.heap.size (w.alloc (.cells #[.string s] 9)) (hr.below hb) (CapAt.new _ _ _) hl)
 have HB := Lib.hid hb
 clear hr hb
 go_enter Tryz.func238, Tryz.ntmps238
 go_wp2_with fail
 refine HC.out.mono ?_
 rintro r w2 ⟨v, rfl, ho, hB⟩
 go_wp2
 go_ret
 exact ⟨v, rfl, own_low ho HB.out.size, HB.out.trans (hB.mono HB.out.size)⟩
end Go.Proofs.YtapacckmgmdnoaaGreat
