/- Texts of mine, one behind the other, of each what is wanted. -/
import Derived.Test.YtapacckmgmdnoaaGreatR00
import Derived.Test.YtapacckmgmdnoaaGreatShelf
import Derived.Test.YtapacckmgmdnoaaGreatR01
import Derived.Test.YtapacckmgmdnoaaGreatR03
import Derived.Test.YtapacckmgmdnoaaGreatR04
import Derived.Test.YtapacckmgmdnoaaGreatR05
import Derived.Test.YtapacckmgmdnoaaGreatR07
namespace Go.Proofs.YtapacckmgmdnoaaGreat
open Go.RowKit Go.Proofs
set_option linter.unusedVariables false
set_option maxRecDepth 100000
set_option maxRecDepth 100000
theorem OpSl.snil {w : World} {l : List OpM} (h : OpSl w none l) : l = [] := by
 cases l with
 | nil => rfl
 | cons y m => obtain ⟨_, _, e, _⟩ := h 0 (by simp); cases e
theorem sl_drewO (W : World) (xs : Array Value) (t : TypeId) : Sl (W.alloc (.cells xs t)).drew (some ⟨W.heap.size, 0, none⟩) xs.toList := (sl_lit W xs t).drewN 1
def GotO (w w' : World) (m : List OpM) (v : Value) : Prop := ∃ x q, v = .slice x m.length q ∧ m.length ≤ q ∧ q ≤ maxLen ∧ (x = none → q = 0) ∧ OpSl w' x m ∧ Below w.heap.size w w'
theorem GotO.of {w w' : World} {m : List OpM} {v : Value} {B e : Nat} (h : w'.ownsRow B e 4 v m.length (oes m)) (hb : Below w.heap.size w w') : GotO w w' m v := by
 obtain ⟨x, q, h1, h2, h3, h4, h5⟩ := own_op h
 exact ⟨x, q, h1, h2, h3, h5, h4, hb⟩
theorem GotO.nil {w w' : World} (hb : Below w.heap.size w w') : GotO w w' [] (.slice none 0 0) := ⟨none, 0, rfl, Nat.le_refl _, by unfold maxLen; omega, fun _ => rfl, OpSl.nil _ _, hb⟩
def GotN (w w' : World) (m : List OpM) (v : Value) : Prop := GotO w w' m v ∧ ∀ b o n q, v = .slice (some ⟨b, o, none⟩) n q → w.heap.size ≤ b
structure RsO (w : World) (g : Nat) (x : OpM) (a : Option Addr) (l : List OpM) (W : World) : Prop where
 box : W.cell? ⟨g, 0, none⟩ = some (.int .i64 x.n) ∧ W.cell? ⟨g, 1, none⟩ = some (.string x.u) ∧ W.cell? ⟨g, 2, none⟩ = some (.int .i64 x.s) ∧ W.cell? ⟨g, 3, none⟩ = some (.int .i64 x.f)
 lt : g < W.heap.size
 row : OpSl W a l
 frame : Below w.heap.size w W
theorem RsO.below {w W W' : World} {g : Nat} {x : OpM} {a : Option Addr} {l : List OpM} (h : RsO w g x a l W) (q : Below W.heap.size W W') : RsO w g x a l W' :=
 ⟨⟨(q.cell (p := ⟨g, 0, none⟩) h.lt).trans h.box.1, (q.cell (p := ⟨g, 1, none⟩) h.lt).trans h.box.2.1, (q.cell (p := ⟨g, 2, none⟩) h.lt).trans h.box.2.2.1, (q.cell (p := ⟨g, 3, none⟩) h.lt).trans h.box.2.2.2⟩, Nat.lt_of_lt_of_le h.lt q.size, h.row.below q, h.frame.trans (q.mono h.frame.size)⟩
theorem RsO.new {w W : World} {x : OpM} {a : Option Addr} {l : List OpM} (h : OpSl W a l) (hb : Below w.heap.size w W) (t : TypeId) : RsO w W.heap.size x a l (W.alloc (.cells #[.int .i64 x.n, .string x.u, .int .i64 x.s, .int .i64 x.f] t)) :=
 ⟨cells4 (heap_alloc_new W _), by rw [size1]; omega, h.below (below_one _ _), hb.alloc hb.size _⟩
theorem RsO.cap {w W : World} {g : Nat} {x : OpM} {a : Option Addr} {l : List OpM} (h : RsO w g x a l W) : CapO W g (.int .i64 x.n) := ⟨h.box.1, h.lt⟩
theorem oconcat3 (x y : Option Addr) (A B : List OpM) (c1 c2 n1 n2 : Nat) (s : OpM) (W : World) (g1 g2 : Nat) (T : TypeId) (h1 : n1 = A.length) (h2 : n2 = B.length) (hA : OpSl W x A) (hB : OpSl W y B) (k1 : x = none → c1 = 0) (k2 : y = none → c2 = 0) (hg1 : g1 = W.heap.size) (hg2 : g2 = W.heap.size + 1) (hl : A.length + B.length ≤ 1000) :
  Calls Tryz.prog 228 #[.slice (some ⟨g2, 0, none⟩) 3 3] ((W.alloc (.cells #[.int .i64 s.n, .string s.u, .int .i64 s.s, .int .i64 s.f] 184)).alloc (.cells #[.slice x n1 c1, .slice (some ⟨g1, 0, none⟩) 1 1, .slice y n2 c2] T)).drew fun e w' => ∃ v, e = .returned v ∧ w'.ownsRow W.heap.size 184 4 v (A ++ s :: B).length (oes (A ++ s :: B)) ∧ Below W.heap.size W w' := by
 subst hg1 h1 h2
 have hcat : catO [⟨x, A, c1⟩, ⟨some ⟨W.heap.size, 0, none⟩, [s], 1⟩, ⟨y, B, c2⟩] = A ++ s :: B := by simp [catO]
 have hb1 := below_one W (.cells #[.int .i64 s.n, .string s.u, .int .i64 s.s, .int .i64 s.f] 184)
 have hS := cells_op W [s] #[.int .i64 s.n, .string s.u, .int .i64 s.s, .int .i64 s.f] 184 _ rfl rfl
 generalize hW1 : W.alloc (.cells #[.int .i64 s.n, .string s.u, .int .i64 s.s, .int .i64 s.f] 184) = W1 at *
 have hz : W1.heap.size = W.heap.size + 1 := by rw [← hW1, size1]
 have hb2 := below_one W1 (.cells #[.slice x A.length c1, .slice (some ⟨W.heap.size, 0, none⟩) 1 1, .slice y B.length c2] T)
 have hb2 := hb2.drew
 have hb := hb1.trans (hb2.mono hb1.size)
 have hlen : (catO [⟨x, A, c1⟩, ⟨some ⟨W.heap.size, 0, none⟩, [s], 1⟩, ⟨y, B, c2⟩]).length ≤ 100000 := by rw [hcat, List.length_append, List.length_cons]; omega
 rw [hg2, ← hz]
 refine (oconcat_any (some ⟨W1.heap.size, 0, none⟩) 3 [⟨x, A, c1⟩, ⟨some ⟨W.heap.size, 0, none⟩, [s], 1⟩, ⟨y, B, c2⟩] _ (sl_drewO W1 #[.slice x A.length c1, .slice (some ⟨W.heap.size, 0, none⟩) 1 1, .slice y B.length c2] T) ?_ (by show 3 ≤ _; decide) hlen).mono ?_
 ·intro r hr
  simp only [List.mem_cons, List.mem_nil_iff, or_false] at hr
  rcases hr with rfl | rfl | rfl
  ·exact ⟨hA.below hb, k1⟩
  ·exact ⟨hS.below hb2, fun h => by cases h⟩
  ·exact ⟨hB.below hb, k2⟩
 ·rintro e w' ⟨v, rfl, ho, hbb⟩
  rw [hcat] at ho
  exact ⟨v, rfl, own_low ho hb.size, hb.trans (hbb.mono hb.size)⟩
set_option maxHeartbeats 8000000 in
theorem open_any (a : Option Addr) (c : Nat) (l : List OpM) (e : OpM) (w : World) (hr : OpSl w a l) (hn : a = none → c = 0) (hl : l.length ≤ 500) (hc : l.length ≤ c) (hcm : c ≤ maxLen) :
  Calls Tryz.prog 192 #[.slice a l.length c, opV e] w fun r w' => ∃ v, r = .returned (.tuple #[v, .int .i64 (openC l e)]) ∧ GotO w w' (openR l e) v := by
 have HCO := Lib.hid (fun W (h : OpSl W a l) (k : CapO W w.heap.size (.int .i64 e.n)) => conth_any a c l e.n w.heap.size W h k (by omega))
 have HIX := Lib.hid (fun W (h : OpSl W a l) (k : CapO W w.heap.size (.int .i64 e.n)) => idxa_any a c l e.n w.heap.size W h k (by omega))
 have HNil := Lib.hid hn
 have HK0 := Lib.hid (RsO.new (x := e) hr (Below.refl _ _) 184)
 have HSB : Hid (∀ W, RsO w w.heap.size e a l W → W.cell? ⟨w.heap.size, 0, none⟩ = some (.int .i64 e.n) ∧ W.cell? ⟨w.heap.size, 1, none⟩ = some (.string e.u) ∧ W.cell? ⟨w.heap.size, 2, none⟩ = some (.int .i64 e.s) ∧ W.cell? ⟨w.heap.size, 3, none⟩ = some (.int .i64 e.f)) := fun W h => h.box
 have hOC : openC l e = if l.any (hasN e.n) = true then 100 else if 16 ≤ l.length then 103 else 0 := rfl
 have hOR : openR l e = if openC l e = 0 then openS l e else [] := rfl
 unfold opV
 unfold maxLen at hcm
 cases hi : l.any (hasN e.n) with
 | true =>
  rw [hi, if_pos rfl] at hOC
  rw [hOC, if_neg (by decide)] at hOR
  rw [hOC, hOR]
  rw [hi] at HCO
  clear hr hn hi hOC hOR HIX
  go_enter Tryz.func192, Tryz.ntmps192
  go_wp2_with fail
  refine (HCO.out _ HK0.out.row HK0.out.cap).mono ?_
  rintro r w1 ⟨rfl, hB⟩
  have K1 := HK0.out.below hB
  clear HCO hB
  go_wp2
  go_ret2
  exact ⟨_, rfl, GotO.nil K1.frame⟩
 | false =>
  rw [hi, if_neg Bool.false_ne_true] at hOC
  rw [hi] at HCO
  by_cases h16 : 16 ≤ l.length
  ·rw [if_pos h16] at hOC
   rw [hOC, if_neg (by decide)] at hOR
   rw [hOC, hOR]
   have d1 : decide ((16 : Int) ≤ (l.length : Int)) = true := decide_eq_true (by omega)
   have d2 : decide ((l.length : Int) ≥ (16 : Int)) = true := decide_eq_true (by omega)
   clear hr hn hi hOC hOR HIX
   go_enter Tryz.func192, Tryz.ntmps192
   go_wp2_with fail
   refine (HCO.out _ HK0.out.row HK0.out.cap).mono ?_
   rintro r w1 ⟨rfl, hB⟩
   have K1 := HK0.out.below hB
   clear HCO hB
   go_wp2
   go_ret2
   exact ⟨_, rfl, GotO.nil K1.frame⟩
  ·rw [if_neg h16] at hOC
   rw [hOC, if_pos rfl] at hOR
   rw [hOC, hOR]
   have d1 : decide ((16 : Int) ≤ (l.length : Int)) = false := decide_eq_false (by omega)
   have d2 : decide ((l.length : Int) ≥ (16 : Int)) = false := decide_eq_false (by omega)
   have HF := fst_idx (abvN e.n) l
   generalize l.findIdx (abvN e.n) = j at HF
   have HGA := Lib.hid (open_at HF)
   generalize openS l e = G at *
   clear hr hn hi hOC hOR h16
   have hj := HF.le
   by_cases hjl : j < l.length
   ·have hix := idxO_hit HF hjl
    rw [hix] at HIX
    have d3 : decide ((j : Int) < 0) = false := decide_eq_false (by omega)
    have hcj : ¬ c = j := by omega
    have hcj2 : j < c := by omega
    clear HF hix HNil
    go_enter Tryz.func192, Tryz.ntmps192
    go_wp2_with fail
    refine (HCO.out _ HK0.out.row HK0.out.cap).mono ?_
    rintro r w1 ⟨rfl, hB⟩
    have K1 := HK0.out.below hB
    clear HCO hB
    go_wp2_with fail
    refine (HIX.out _ K1.row K1.cap).mono ?_
    rintro r w2 ⟨rfl, hB⟩
    have K3 := K1.below hB
    clear HIX hB K1 HK0
    have KD := K3.below (Below.refl _ _).drew
    obtain ⟨g0, g1, g2, g3⟩ := K3.box
    obtain ⟨b, off, rfl, -, -, -, -, -⟩ := K3.row.at_ hjl
    have hpc : j ≤ c := by omega
    have hz1 : (0 : Int) ≤ (j : Int) := by omega
    have hz2 : (j : Int) ≤ (l.length : Int) := by omega
    have hz3 : (j : Int) ≤ (c : Int) := by omega
    have hz4 : (l.length : Int) ≤ (c : Int) := by omega
    have HAC : Hid (∀ W g1 g2 T, OpSl W (some ⟨b, off, none⟩) l → g1 = W.heap.size → g2 = W.heap.size + 1 → Calls Tryz.prog 228 #[.slice (some ⟨g2, 0, none⟩) 3 3] ((W.alloc (.cells #[.int .i64 e.n, .string e.u, .int .i64 e.s, .int .i64 e.f] 184)).alloc (.cells #[.slice (some ⟨b, off, none⟩) j c, .slice (some ⟨g1, 0, none⟩) 1 1, .slice (some ⟨b, off + j * 4, none⟩) (l.length - j) (c - j)] T)).drew fun e w' => ∃ v, e = .returned v ∧ w'.ownsRow W.heap.size 184 4 v G.length (oes G) ∧ Below W.heap.size W w') := fun W g1 g2 T hs e1 e2 => by
     have h := oconcat3 (some ⟨b, off, none⟩) (some ⟨b, off + j * 4, none⟩) (l.take j) (l.drop j) c (c - j) j (l.length - j) e W g1 g2 T (by rw [List.length_take]; omega) (by rw [List.length_drop]) (hs.take j) (hs.drop j) (fun h => by cases h) (fun h => by cases h) e1 e2 (by rw [List.length_take, List.length_drop]; omega)
     rw [← HGA.out] at h
     exact h
    clear HGA
    generalize w.heap.size = g at *
    go_wp2_with fail
    go_region_held3 (fun W => W.cell? ⟨g, 0, none⟩ = some (.int .i64 e.n) ∧ W.cell? ⟨g, 1, none⟩ = some (.string e.u) ∧ W.cell? ⟨g, 2, none⟩ = some (.int .i64 e.s) ∧ W.cell? ⟨g, 3, none⟩ = some (.int .i64 e.f))
     (first | with_reducible exact HSB.out _ (KD.below (below_one _ _)) | with_reducible exact HSB.out _ ((KD.below (below_one _ _)).below (below_one _ _)) | with_reducible exact HSB.out _ KD | with_reducible exact HSB.out _ KE)
     (first | (go_at_call 228; refine (HAC.out _ _ _ _ K3.row rfl rfl).mono ?_; rintro r w5 ⟨v, rfl, ho5, hb5⟩; have KE := K3.below hb5; have HO5 := Lib.hid ho5; have HB5 := Lib.hid hb5; clear ho5 hb5))
    go_wp2
    go_ret2
    exact ⟨v, rfl, GotO.of (own_low HO5.out K3.frame.size) KE.frame⟩
   ·have hje : j = l.length := by omega
    rw [hje] at HF
    have hix := idxO_miss HF
    rw [hix] at HIX
    have d3 : decide ((-1 : Int) < 0) = true := rfl
    clear HF hix hjl
    cases a with
    | none =>
     have hc0 := HNil.out rfl
     have hl0 := HK0.out.row.snil
     subst hc0 hl0
     obtain rfl : j = 0 := by simpa using hje
     clear d1 d2 hje hj hl hc hcm
     go_enter Tryz.func192, Tryz.ntmps192
     go_wp2_with fail
     refine (HCO.out _ HK0.out.row HK0.out.cap).mono ?_
     rintro r w1 ⟨rfl, hB⟩
     have K1 := HK0.out.below hB
     clear HCO hB
     go_wp2_with fail
     refine (HIX.out _ K1.row K1.cap).mono ?_
     rintro r w2 ⟨rfl, hB⟩
     have K3 := K1.below hB
     clear HIX hB K1 HK0
     have KD := K3.below (Below.refl _ _).drew
     obtain ⟨g0, g1, g2, g3⟩ := K3.box
     have HAC : Hid (∀ W g1 g2 T, OpSl W none [] → g1 = W.heap.size → g2 = W.heap.size + 1 → Calls Tryz.prog 228 #[.slice (some ⟨g2, 0, none⟩) 3 3] ((W.alloc (.cells #[.int .i64 e.n, .string e.u, .int .i64 e.s, .int .i64 e.f] 184)).alloc (.cells #[.slice none 0 0, .slice (some ⟨g1, 0, none⟩) 1 1, .slice none 0 0] T)).drew fun e w' => ∃ v, e = .returned v ∧ w'.ownsRow W.heap.size 184 4 v G.length (oes G) ∧ Below W.heap.size W w') := fun W g1 g2 T hs e1 e2 => by
      have h := oconcat3 none none [] [] 0 0 0 0 e W g1 g2 T rfl rfl (OpSl.nil _ _) (OpSl.nil _ _) (fun _ => rfl) (fun _ => rfl) e1 e2 (by simp)
      have e0 := HGA.out
      rw [List.take_nil, List.drop_nil] at e0
      rw [← e0] at h
      exact h
     clear HGA HNil
     generalize w.heap.size = g at *
     go_wp2_with fail
     go_region_held3 (fun W => W.cell? ⟨g, 0, none⟩ = some (.int .i64 e.n) ∧ W.cell? ⟨g, 1, none⟩ = some (.string e.u) ∧ W.cell? ⟨g, 2, none⟩ = some (.int .i64 e.s) ∧ W.cell? ⟨g, 3, none⟩ = some (.int .i64 e.f))
      (first | with_reducible exact HSB.out _ (KD.below (below_one _ _)) | with_reducible exact HSB.out _ ((KD.below (below_one _ _)).below (below_one _ _)) | with_reducible exact HSB.out _ KD | with_reducible exact HSB.out _ KE)
      (first | (go_at_call 228; refine (HAC.out _ _ _ _ K3.row rfl rfl).mono ?_; rintro r w5 ⟨v, rfl, ho5, hb5⟩; have KE := K3.below hb5; have HO5 := Lib.hid ho5; have HB5 := Lib.hid hb5; clear ho5 hb5))
     go_wp2
     go_ret2
     exact ⟨v, rfl, GotO.of (own_low HO5.out K3.frame.size) KE.frame⟩
    | some ad =>
     by_cases hlz : 0 < l.length
     ·obtain ⟨b, off, e1, -, -, -, -, -⟩ := HK0.out.row.at_ hlz
      cases e1
      by_cases hcj : c = l.length
      ·subst hje
       subst hcj
       go_enter Tryz.func192, Tryz.ntmps192
       go_wp2_with fail
       refine (HCO.out _ HK0.out.row HK0.out.cap).mono ?_
       rintro r w1 ⟨rfl, hB⟩
       have K1 := HK0.out.below hB
       clear HCO hB
       go_wp2_with fail
       refine (HIX.out _ K1.row K1.cap).mono ?_
       rintro r w2 ⟨rfl, hB⟩
       have K3 := K1.below hB
       clear HIX hB K1 HK0
       have KD := K3.below (Below.refl _ _).drew
       obtain ⟨g0, g1, g2, g3⟩ := K3.box
       have HAC : Hid (∀ W g1 g2 T, OpSl W (some ⟨b, off, none⟩) l → g1 = W.heap.size → g2 = W.heap.size + 1 → Calls Tryz.prog 228 #[.slice (some ⟨g2, 0, none⟩) 3 3] ((W.alloc (.cells #[.int .i64 e.n, .string e.u, .int .i64 e.s, .int .i64 e.f] 184)).alloc (.cells #[.slice (some ⟨b, off, none⟩) l.length l.length, .slice (some ⟨g1, 0, none⟩) 1 1, .slice (some ⟨b, off, none⟩) 0 0] T)).drew fun e w' => ∃ v, e = .returned v ∧ w'.ownsRow W.heap.size 184 4 v G.length (oes G) ∧ Below W.heap.size W w') := fun W g1 g2 T hs e1 e2 => by
        have h := oconcat3 (some ⟨b, off, none⟩) (some ⟨b, off, none⟩) l [] l.length 0 l.length 0 e W g1 g2 T rfl rfl hs (OpSl.nil _ _) (fun h => by cases h) (fun h => by cases h) e1 e2 (by simp; omega)
        have e0 := HGA.out
        rw [List.take_of_length_le (Nat.le_refl _), List.drop_of_length_le (Nat.le_refl _)] at e0
        rw [← e0] at h
        exact h
       have hz2 : (l.length : Int) ≤ (l.length : Int) := Int.le_refl _
       have hz1 : (0 : Int) ≤ (l.length : Int) := by omega
       clear HGA HNil
       generalize w.heap.size = g at *
       go_wp2_with fail
       go_region_held3 (fun W => W.cell? ⟨g, 0, none⟩ = some (.int .i64 e.n) ∧ W.cell? ⟨g, 1, none⟩ = some (.string e.u) ∧ W.cell? ⟨g, 2, none⟩ = some (.int .i64 e.s) ∧ W.cell? ⟨g, 3, none⟩ = some (.int .i64 e.f))
        (first | with_reducible exact HSB.out _ (KD.below (below_one _ _)) | with_reducible exact HSB.out _ ((KD.below (below_one _ _)).below (below_one _ _)) | with_reducible exact HSB.out _ KD | with_reducible exact HSB.out _ KE)
        (first | (go_at_call 228; refine (HAC.out _ _ _ _ K3.row rfl rfl).mono ?_; rintro r w5 ⟨v, rfl, ho5, hb5⟩; have KE := K3.below hb5; have HO5 := Lib.hid ho5; have HB5 := Lib.hid hb5; clear ho5 hb5))
       go_wp2
       go_ret2
       exact ⟨v, rfl, GotO.of (own_low HO5.out K3.frame.size) KE.frame⟩
      ·subst hje
       have hcj2 : l.length < c := by omega
       go_enter Tryz.func192, Tryz.ntmps192
       go_wp2_with fail
       refine (HCO.out _ HK0.out.row HK0.out.cap).mono ?_
       rintro r w1 ⟨rfl, hB⟩
       have K1 := HK0.out.below hB
       clear HCO hB
       go_wp2_with fail
       refine (HIX.out _ K1.row K1.cap).mono ?_
       rintro r w2 ⟨rfl, hB⟩
       have K3 := K1.below hB
       clear HIX hB K1 HK0
       have KD := K3.below (Below.refl _ _).drew
       obtain ⟨g0, g1, g2, g3⟩ := K3.box
       have hpc : l.length ≤ c := by omega
       have hz1 : (0 : Int) ≤ (l.length : Int) := by omega
       have hz2 : (l.length : Int) ≤ (l.length : Int) := by omega
       have hz3 : (l.length : Int) ≤ (c : Int) := by omega
       have HAC : Hid (∀ W g1 g2 T, OpSl W (some ⟨b, off, none⟩) l → g1 = W.heap.size → g2 = W.heap.size + 1 → Calls Tryz.prog 228 #[.slice (some ⟨g2, 0, none⟩) 3 3] ((W.alloc (.cells #[.int .i64 e.n, .string e.u, .int .i64 e.s, .int .i64 e.f] 184)).alloc (.cells #[.slice (some ⟨b, off, none⟩) l.length c, .slice (some ⟨g1, 0, none⟩) 1 1, .slice (some ⟨b, off + l.length * 4, none⟩) 0 (c - l.length)] T)).drew fun e w' => ∃ v, e = .returned v ∧ w'.ownsRow W.heap.size 184 4 v G.length (oes G) ∧ Below W.heap.size W w') := fun W g1 g2 T hs e1 e2 => by
        have h := oconcat3 (some ⟨b, off, none⟩) (some ⟨b, off + l.length * 4, none⟩) l [] c (c - l.length) l.length 0 e W g1 g2 T rfl rfl hs (OpSl.nil _ _) (fun h => by cases h) (fun h => by cases h) e1 e2 (by simp; omega)
        have e0 := HGA.out
        rw [List.take_of_length_le (Nat.le_refl _), List.drop_of_length_le (Nat.le_refl _)] at e0
        rw [← e0] at h
        exact h
       clear HGA HNil
       generalize w.heap.size = g at *
       go_wp2_with fail
       go_region_held3 (fun W => W.cell? ⟨g, 0, none⟩ = some (.int .i64 e.n) ∧ W.cell? ⟨g, 1, none⟩ = some (.string e.u) ∧ W.cell? ⟨g, 2, none⟩ = some (.int .i64 e.s) ∧ W.cell? ⟨g, 3, none⟩ = some (.int .i64 e.f))
        (first | with_reducible exact HSB.out _ (KD.below (below_one _ _)) | with_reducible exact HSB.out _ ((KD.below (below_one _ _)).below (below_one _ _)) | with_reducible exact HSB.out _ KD | with_reducible exact HSB.out _ KE)
        (first | (go_at_call 228; refine (HAC.out _ _ _ _ K3.row rfl rfl).mono ?_; rintro r w5 ⟨v, rfl, ho5, hb5⟩; have KE := K3.below hb5; have HO5 := Lib.hid ho5; have HB5 := Lib.hid hb5; clear ho5 hb5))
       go_wp2
       go_ret2
       exact ⟨v, rfl, GotO.of (own_low HO5.out K3.frame.size) KE.frame⟩
     ·have hl0 : l = [] := List.eq_nil_of_length_eq_zero (by omega)
      subst hl0
      obtain rfl : j = 0 := by simpa using hje
      obtain ⟨b, off, sp⟩ := ad
      clear d1 d2 hje hj hl hc hlz
      go_enter Tryz.func192, Tryz.ntmps192
      go_wp2_with fail
      refine (HCO.out _ HK0.out.row HK0.out.cap).mono ?_
      rintro r w1 ⟨rfl, hB⟩
      have K1 := HK0.out.below hB
      clear HCO hB
      go_wp2_with fail
      refine (HIX.out _ K1.row K1.cap).mono ?_
      rintro r w2 ⟨rfl, hB⟩
      have K3 := K1.below hB
      clear HIX hB K1 HK0
      have KD := K3.below (Below.refl _ _).drew
      obtain ⟨g0, g1, g2, g3⟩ := K3.box
      have hz : (0 : Int) ≤ (c : Int) := by omega
      have HAC : Hid (∀ W g1 g2 T (x y : Addr) (c1 c2 : Nat), OpSl W (some ⟨b, off, sp⟩) [] → g1 = W.heap.size → g2 = W.heap.size + 1 → Calls Tryz.prog 228 #[.slice (some ⟨g2, 0, none⟩) 3 3] ((W.alloc (.cells #[.int .i64 e.n, .string e.u, .int .i64 e.s, .int .i64 e.f] 184)).alloc (.cells #[.slice (some x) 0 c1, .slice (some ⟨g1, 0, none⟩) 1 1, .slice (some y) 0 c2] T)).drew fun e w' => ∃ v, e = .returned v ∧ w'.ownsRow W.heap.size 184 4 v G.length (oes G) ∧ Below W.heap.size W w') := fun W g1 g2 T x y c1 c2 hs e1 e2 => by
       have h := oconcat3 (some x) (some y) [] [] c1 c2 0 0 e W g1 g2 T rfl rfl (OpSl.nil _ _) (OpSl.nil _ _) (fun h => by cases h) (fun h => by cases h) e1 e2 (by simp)
       have e0 := HGA.out
       rw [List.take_nil, List.drop_nil] at e0
       rw [← e0] at h
       exact h
      clear HGA HNil
      generalize w.heap.size = g at *
      by_cases hcp : c = 0
      ·subst hcp
       go_wp2_with fail
       go_region_held3 (fun W => W.cell? ⟨g, 0, none⟩ = some (.int .i64 e.n) ∧ W.cell? ⟨g, 1, none⟩ = some (.string e.u) ∧ W.cell? ⟨g, 2, none⟩ = some (.int .i64 e.s) ∧ W.cell? ⟨g, 3, none⟩ = some (.int .i64 e.f))
        (first | with_reducible exact HSB.out _ (KD.below (below_one _ _)) | with_reducible exact HSB.out _ ((KD.below (below_one _ _)).below (below_one _ _)) | with_reducible exact HSB.out _ KD | with_reducible exact HSB.out _ KE)
        (first | (go_at_call 228; refine (HAC.out _ _ _ _ _ _ _ _ K3.row rfl rfl).mono ?_; rintro r w5 ⟨v, rfl, ho5, hb5⟩; have KE := K3.below hb5; have HO5 := Lib.hid ho5; have HB5 := Lib.hid hb5; clear ho5 hb5))
       go_wp2
       go_ret2
       exact ⟨v, rfl, GotO.of (own_low HO5.out K3.frame.size) KE.frame⟩
      ·have hcp2 : 0 < c := by omega
       go_wp2_with fail
       go_region_held3 (fun W => W.cell? ⟨g, 0, none⟩ = some (.int .i64 e.n) ∧ W.cell? ⟨g, 1, none⟩ = some (.string e.u) ∧ W.cell? ⟨g, 2, none⟩ = some (.int .i64 e.s) ∧ W.cell? ⟨g, 3, none⟩ = some (.int .i64 e.f))
        (first | with_reducible exact HSB.out _ (KD.below (below_one _ _)) | with_reducible exact HSB.out _ ((KD.below (below_one _ _)).below (below_one _ _)) | with_reducible exact HSB.out _ KD | with_reducible exact HSB.out _ KE)
        (first | (go_at_call 228; refine (HAC.out _ _ _ _ _ _ _ _ K3.row rfl rfl).mono ?_; rintro r w5 ⟨v, rfl, ho5, hb5⟩; have KE := K3.below hb5; have HO5 := Lib.hid ho5; have HB5 := Lib.hid hb5; clear ho5 hb5))
       go_wp2
       go_ret2
       exact ⟨v, rfl, GotO.of (own_low HO5.out K3.frame.size) KE.frame⟩
end Go.Proofs.YtapacckmgmdnoaaGreat
