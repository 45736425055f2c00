/- Texts of mine, one behind the other, of each what is wanted. -/
import Derived.Test.YtmfpjapiijgdgaaGreatV00
import Derived.Test.YtmfpjapiijgdgaaGreatShelf
import Derived.Test.YtmfpjapiijgdgaaGreatV01
import Derived.Test.YtmfpjapiijgdgaaGreatV03
import Derived.Test.YtmfpjapiijgdgaaGreatV05
import Derived.Test.YtmfpjapiijgdgaaGreatV07
import Derived.Test.YtmfpjapiijgdgaaGreatV09
namespace Go.Proofs.YtmfpjapiijgdgaaGreat
open Go.RowKit Go.Proofs
set_option linter.unusedVariables false
set_option maxRecDepth 100000
set_option maxRecDepth 100000
theorem OpSl.snil {w : World} {l : List OpM} (h : OpSl w none l) : l = [] := by
 cases l with
 | nil => rfl
 | cons y m => obtain ⟨_, _, e, _⟩ := h 0 (by simp); cases e
theorem sl_drewO (W : World) (xs : Array Value) (t : TypeId) : Sl (W.alloc (.cells xs t)).drew (some ⟨W.heap.size, 0, none⟩) xs.toList := (sl_lit W xs t).drewN 1
def GotO (w w' : World) (m : List OpM) (v : Value) : Prop := ∃ x q, v = .slice x m.length q ∧ m.length ≤ q ∧ q ≤ maxLen ∧ (x = none → q = 0) ∧ OpSl w' x m ∧ Below w.heap.size w w'
theorem GotO.of {w w' : World} {m : List OpM} {v : Value} {B e : Nat} (h : w'.ownsRow B e 4 v m.length (oes m)) (hb : Below w.heap.size w w') : GotO w w' m v := by
 obtain ⟨x, q, h1, h2, h3, h4, h5⟩ := own_op h
 exact ⟨x, q, h1, h2, h3, h5, h4, hb⟩
theorem GotO.nil {w w' : World} (hb : Below w.heap.size w w') : GotO w w' [] (.slice none 0 0) := ⟨none, 0, rfl, Nat.le_refl _, by unfold maxLen; omega, fun _ => rfl, OpSl.nil _ _, hb⟩
def GotN (w w' : World) (m : List OpM) (v : Value) : Prop := GotO w w' m v ∧ ∀ b o n q, v = .slice (some ⟨b, o, none⟩) n q → w.heap.size ≤ b
structure RsO (w : World) (g : Nat) (x : OpM) (a : Option Addr) (l : List OpM) (W : World) : Prop where
 box : W.cell? ⟨g, 0, none⟩ = some (.int .i64 x.n) ∧ W.cell? ⟨g, 1, none⟩ = some (.string x.u) ∧ W.cell? ⟨g, 2, none⟩ = some (.int .i64 x.s) ∧ W.cell? ⟨g, 3, none⟩ = some (.int .i64 x.f)
 lt : g < W.heap.size
 row : OpSl W a l
 frame : Below w.heap.size w W
theorem RsO.below {w W W' : World} {g : Nat} {x : OpM} {a : Option Addr} {l : List OpM} (h : RsO w g x a l W) (q : Below W.heap.size W W') : RsO w g x a l W' :=
 ⟨⟨(q.cell (p := ⟨g, 0, none⟩) h.lt).trans h.box.1, (q.cell (p := ⟨g, 1, none⟩) h.lt).trans h.box.2.1, (q.cell (p := ⟨g, 2, none⟩) h.lt).trans h.box.2.2.1, (q.cell (p := ⟨g, 3, none⟩) h.lt).trans h.box.2.2.2⟩, Nat.lt_of_lt_of_le h.lt q.size, h.row.below q, h.frame.trans (q.mono h.frame.size)⟩
theorem RsO.at_ {w W : World} {g : Nat} {x : OpM} {b off : Nat} {l : List OpM} (h : RsO w g x (some ⟨b, off, none⟩) l W) {k : Nat} (hk : k < l.length) :
  W.cell? ⟨g, 0, none⟩ = some (.int .i64 x.n) ∧ W.cell? ⟨g, 1, none⟩ = some (.string x.u) ∧ W.cell? ⟨g, 2, none⟩ = some (.int .i64 x.s) ∧ W.cell? ⟨g, 3, none⟩ = some (.int .i64 x.f) ∧ W.cell? ⟨b, off + k * 4, none⟩ = some (.int .i64 l[k].n) ∧ W.cell? ⟨b, off + k * 4 + 1, none⟩ = some (.string l[k].u) ∧ W.cell? ⟨b, off + k * 4 + 2, none⟩ = some (.int .i64 l[k].s) ∧ W.cell? ⟨b, off + k * 4 + 3, none⟩ = some (.int .i64 l[k].f) := by
 obtain ⟨_, _, e, _, h0, h1, h2, h3⟩ := h.row.at_ hk
 cases e
 exact ⟨h.box.1, h.box.2.1, h.box.2.2.1, h.box.2.2.2, h0, h1, h2, h3⟩
theorem RsO.new {w W : World} {x : OpM} {a : Option Addr} {l : List OpM} (h : OpSl W a l) (hb : Below w.heap.size w W) (t : TypeId) : RsO w W.heap.size x a l (W.alloc (.cells #[.int .i64 x.n, .string x.u, .int .i64 x.s, .int .i64 x.f] t)) :=
 ⟨cells4 (heap_alloc_new W _), by rw [size1]; omega, h.below (below_one _ _), hb.alloc hb.size _⟩
theorem RsO.cap {w W : World} {g : Nat} {x : OpM} {a : Option Addr} {l : List OpM} (h : RsO w g x a l W) : CapO W g (.int .i64 x.n) := ⟨h.box.1, h.lt⟩
theorem oconcat3 (x y : Option Addr) (A B : List OpM) (c1 c2 n1 n2 : Nat) (s : OpM) (W : World) (g1 g2 : Nat) (T : TypeId) (h1 : n1 = A.length) (h2 : n2 = B.length) (hA : OpSl W x A) (hB : OpSl W y B) (k1 : x = none → c1 = 0) (k2 : y = none → c2 = 0) (hg1 : g1 = W.heap.size) (hg2 : g2 = W.heap.size + 1) (hl : A.length + B.length ≤ 1000) :
  Calls Tryz.prog 228 #[.slice (some ⟨g2, 0, none⟩) 3 3] ((W.alloc (.cells #[.int .i64 s.n, .string s.u, .int .i64 s.s, .int .i64 s.f] 184)).alloc (.cells #[.slice x n1 c1, .slice (some ⟨g1, 0, none⟩) 1 1, .slice y n2 c2] T)).drew fun e w' => ∃ v, e = .returned v ∧ w'.ownsRow W.heap.size 184 4 v (A ++ s :: B).length (oes (A ++ s :: B)) ∧ Below W.heap.size W w' := by
 subst hg1 h1 h2
 have hcat : catO [⟨x, A, c1⟩, ⟨some ⟨W.heap.size, 0, none⟩, [s], 1⟩, ⟨y, B, c2⟩] = A ++ s :: B := by simp [catO]
 have hb1 := below_one W (.cells #[.int .i64 s.n, .string s.u, .int .i64 s.s, .int .i64 s.f] 184)
 have hS := cells_op W [s] #[.int .i64 s.n, .string s.u, .int .i64 s.s, .int .i64 s.f] 184 _ rfl rfl
 generalize hW1 : W.alloc (.cells #[.int .i64 s.n, .string s.u, .int .i64 s.s, .int .i64 s.f] 184) = W1 at *
 have hz : W1.heap.size = W.heap.size + 1 := by rw [← hW1, size1]
 have hb2 := below_one W1 (.cells #[.slice x A.length c1, .slice (some ⟨W.heap.size, 0, none⟩) 1 1, .slice y B.length c2] T)
 have hb2 := hb2.drew
 have hb := hb1.trans (hb2.mono hb1.size)
 have hlen : (catO [⟨x, A, c1⟩, ⟨some ⟨W.heap.size, 0, none⟩, [s], 1⟩, ⟨y, B, c2⟩]).length ≤ 100000 := by rw [hcat, List.length_append, List.length_cons]; omega
 rw [hg2, ← hz]
 refine (oconcat_any (some ⟨W1.heap.size, 0, none⟩) 3 [⟨x, A, c1⟩, ⟨some ⟨W.heap.size, 0, none⟩, [s], 1⟩, ⟨y, B, c2⟩] _ (sl_drewO W1 #[.slice x A.length c1, .slice (some ⟨W.heap.size, 0, none⟩) 1 1, .slice y B.length c2] T) ?_ (by show 3 ≤ _; decide) hlen).mono ?_
 ·intro r hr
  simp only [List.mem_cons, List.mem_nil_iff, or_false] at hr
  rcases hr with rfl | rfl | rfl
  ·exact ⟨hA.below hb, k1⟩
  ·exact ⟨hS.below hb2, fun h => by cases h⟩
  ·exact ⟨hB.below hb, k2⟩
 ·rintro e w' ⟨v, rfl, ho, hbb⟩
  rw [hcat] at ho
  exact ⟨v, rfl, own_low ho hb.size, hb.trans (hbb.mono hb.size)⟩
set_option maxHeartbeats 8000000 in
theorem open_any (a : Option Addr) (c : Nat) (l : List OpM) (e : OpM) (w : World) (hr : OpSl w a l) (hn : a = none → c = 0) (hl : l.length ≤ 500) (hc : l.length ≤ c) (hcm : c ≤ maxLen) :
  Calls Tryz.prog 192 #[.slice a l.length c, opV e] w fun r w' => ∃ v, r = .returned (.tuple #[v, .int .i64 (openC l e)]) ∧ GotO w w' (openR l e) v := by
 have HCO := Lib.hid (fun W (h : OpSl W a l) (k : CapO W w.heap.size (.int .i64 e.n)) => conth_any a c l e.n w.heap.size W h k (by omega))
 have HIX := Lib.hid (fun W (h : OpSl W a l) (k : CapO W w.heap.size (.int .i64 e.n)) => idxa_any a c l e.n w.heap.size W h k (by omega))
 have HNil := Lib.hid hn
 have HK0 := Lib.hid (RsO.new (x := e) hr (Below.refl _ _) 184)
 have HSB : Hid (∀ W, RsO w w.heap.size e a l W → W.cell? ⟨w.heap.size, 0, none⟩ = some (.int .i64 e.n) ∧ W.cell? ⟨w.heap.size, 1, none⟩ = some (.string e.u) ∧ W.cell? ⟨w.heap.size, 2, none⟩ = some (.int .i64 e.s) ∧ W.cell? ⟨w.heap.size, 3, none⟩ = some (.int .i64 e.f)) := fun W h => h.box
 have hOC : openC l e = if l.any (hasN e.n) = true then 100 else if 16 ≤ l.length then 103 else 0 := rfl
 have hOR : openR l e = if openC l e = 0 then openS l e else [] := rfl
 unfold opV
 unfold maxLen at hcm
 cases hi : l.any (hasN e.n) with
 | true =>
  rw [hi, if_pos rfl] at hOC
  rw [hOC, if_neg (by decide)] at hOR
  rw [hOC, hOR]
  rw [hi] at HCO
  clear hr hn hi hOC hOR HIX
  go_enter Tryz.func192, Tryz.ntmps192
  go_wp2_with fail
  refine (HCO.out _ HK0.out.row HK0.out.cap).mono ?_
  rintro r w1 ⟨rfl, hB⟩
  have K1 := HK0.out.below hB
  clear HCO hB
  go_wp2
  go_ret2
  exact ⟨_, rfl, GotO.nil K1.frame⟩
 | false =>
  rw [hi, if_neg Bool.false_ne_true] at hOC
  rw [hi] at HCO
  by_cases h16 : 16 ≤ l.length
  ·rw [if_pos h16] at hOC
   rw [hOC, if_neg (by decide)] at hOR
   rw [hOC, hOR]
   have d1 : decide ((16 : Int) ≤ (l.length : Int)) = true := decide_eq_true (by omega)
   have d2 : decide ((l.length : Int) ≥ (16 : Int)) = true := decide_eq_true (by omega)
   clear hr hn hi hOC hOR HIX
   go_enter Tryz.func192, Tryz.ntmps192
   go_wp2_with fail
   refine (HCO.out _ HK0.out.row HK0.out.cap).mono ?_
   rintro r w1 ⟨rfl, hB⟩
   have K1 := HK0.out.below hB
   clear HCO hB
   go_wp2
   go_ret2
   exact ⟨_, rfl, GotO.nil K1.frame⟩
  ·rw [if_neg h16] at hOC
   rw [hOC, if_pos rfl] at hOR
   rw [hOC, hOR]
   have d1 : decide ((16 : Int) ≤ (l.length : Int)) = false := decide_eq_false (by omega)
   have d2 : decide ((l.length : Int) ≥ (16 : Int)) = false := decide_eq_false (by omega)
   have HF := fst_idx (abvN e.n) l
   generalize l.findIdx (abvN e.n) = j at HF
   have HGA := Lib.hid (open_at HF)
   generalize openS l e = G at *
   clear hr hn hi hOC hOR h16
   have hj := HF.le
   by_cases hjl : j < l.length
   ·have hix := idxO_hit HF hjl
    rw [hix] at HIX
    have d3 : decide ((j : Int) < 0) = false := decide_eq_false (by omega)
    have hcj : ¬ c = j := by omega
    have hcj2 : j < c := by omega
    clear HF hix HNil
    go_enter Tryz.func192, Tryz.ntmps192
    go_wp2_with fail
    refine (HCO.out _ HK0.out.row HK0.out.cap).mono ?_
    rintro r w1 ⟨rfl, hB⟩
    have K1 := HK0.out.below hB
    clear HCO hB
    go_wp2_with fail
    refine (HIX.out _ K1.row K1.cap).mono ?_
    rintro r w2 ⟨rfl, hB⟩
    have K3 := K1.below hB
    clear HIX hB K1 HK0
    have KD := K3.below (Below.refl _ _).drew
    obtain ⟨g0, g1, g2, g3⟩ := K3.box
    obtain ⟨b, off, rfl, -, -, -, -, -⟩ := K3.row.at_ hjl
    have hpc : j ≤ c := by omega
    have hz1 : (0 : Int) ≤ (j : Int) := by omega
    have hz2 : (j : Int) ≤ (l.length : Int) := by omega
    have hz3 : (j : Int) ≤ (c : Int) := by omega
    have hz4 : (l.length : Int) ≤ (c : Int) := by omega
    have HAC : Hid (∀ W g1 g2 T, OpSl W (some ⟨b, off, none⟩) l → g1 = W.heap.size → g2 = W.heap.size + 1 → Calls Tryz.prog 228 #[.slice (some ⟨g2, 0, none⟩) 3 3] ((W.alloc (.cells #[.int .i64 e.n, .string e.u, .int .i64 e.s, .int .i64 e.f] 184)).alloc (.cells #[.slice (some ⟨b, off, none⟩) j c, .slice (some ⟨g1, 0, none⟩) 1 1, .slice (some ⟨b, off + j * 4, none⟩) (l.length - j) (c - j)] T)).drew fun e w' => ∃ v, e = .returned v ∧ w'.ownsRow W.heap.size 184 4 v G.length (oes G) ∧ Below W.heap.size W w') := fun W g1 g2 T hs e1 e2 => by
     have h := oconcat3 (some ⟨b, off, none⟩) (some ⟨b, off + j * 4, none⟩) (l.take j) (l.drop j) c (c - j) j (l.length - j) e W g1 g2 T (by rw [List.length_take]; omega) (by rw [List.length_drop]) (hs.take j) (hs.drop j) (fun h => by cases h) (fun h => by cases h) e1 e2 (by rw [List.length_take, List.length_drop]; omega)
     rw [← HGA.out] at h
     exact h
    clear HGA
    generalize w.heap.size = g at *
    go_wp2_with fail
    go_region_held3 (fun W => W.cell? ⟨g, 0, none⟩ = some (.int .i64 e.n) ∧ W.cell? ⟨g, 1, none⟩ = some (.string e.u) ∧ W.cell? ⟨g, 2, none⟩ = some (.int .i64 e.s) ∧ W.cell? ⟨g, 3, none⟩ = some (.int .i64 e.f))
     (first | with_reducible exact HSB.out _ (KD.below (below_one _ _)) | with_reducible exact HSB.out _ ((KD.below (below_one _ _)).below (below_one _ _)) | with_reducible exact HSB.out _ KD | with_reducible exact HSB.out _ KE)
     (first | (go_at_call 228; refine (HAC.out _ _ _ _ K3.row rfl rfl).mono ?_; rintro r w5 ⟨v, rfl, ho5, hb5⟩; have KE := K3.below hb5; have HO5 := Lib.hid ho5; have HB5 := Lib.hid hb5; clear ho5 hb5))
    go_wp2
    go_ret2
    exact ⟨v, rfl, GotO.of (own_low HO5.out K3.frame.size) KE.frame⟩
   ·have hje : j = l.length := by omega
    rw [hje] at HF
    have hix := idxO_miss HF
    rw [hix] at HIX
    have d3 : decide ((-1 : Int) < 0) = true := rfl
    clear HF hix hjl
    cases a with
    | none =>
     have hc0 := HNil.out rfl
     have hl0 := HK0.out.row.snil
     subst hc0 hl0
     obtain rfl : j = 0 := by simpa using hje
     clear d1 d2 hje hj hl hc hcm
     go_enter Tryz.func192, Tryz.ntmps192
     go_wp2_with fail
     refine (HCO.out _ HK0.out.row HK0.out.cap).mono ?_
     rintro r w1 ⟨rfl, hB⟩
     have K1 := HK0.out.below hB
     clear HCO hB
     go_wp2_with fail
     refine (HIX.out _ K1.row K1.cap).mono ?_
     rintro r w2 ⟨rfl, hB⟩
     have K3 := K1.below hB
     clear HIX hB K1 HK0
     have KD := K3.below (Below.refl _ _).drew
     obtain ⟨g0, g1, g2, g3⟩ := K3.box
     have HAC : Hid (∀ W g1 g2 T, OpSl W none [] → g1 = W.heap.size → g2 = W.heap.size + 1 → Calls Tryz.prog 228 #[.slice (some ⟨g2, 0, none⟩) 3 3] ((W.alloc (.cells #[.int .i64 e.n, .string e.u, .int .i64 e.s, .int .i64 e.f] 184)).alloc (.cells #[.slice none 0 0, .slice (some ⟨g1, 0, none⟩) 1 1, .slice none 0 0] T)).drew fun e w' => ∃ v, e = .returned v ∧ w'.ownsRow W.heap.size 184 4 v G.length (oes G) ∧ Below W.heap.size W w') := fun W g1 g2 T hs e1 e2 => by
      have h := oconcat3 none none [] [] 0 0 0 0 e W g1 g2 T rfl rfl (OpSl.nil _ _) (OpSl.nil _ _) (fun _ => rfl) (fun _ => rfl) e1 e2 (by simp)
      have e0 := HGA.out
      rw [List.take_nil, List.drop_nil] at e0
      rw [← e0] at h
      exact h
     clear HGA HNil
     generalize w.heap.size = g at *
     go_wp2_with fail
     go_region_held3 (fun W => W.cell? ⟨g, 0, none⟩ = some (.int .i64 e.n) ∧ W.cell? ⟨g, 1, none⟩ = some (.string e.u) ∧ W.cell? ⟨g, 2, none⟩ = some (.int .i64 e.s) ∧ W.cell? ⟨g, 3, none⟩ = some (.int .i64 e.f))
      (first | with_reducible exact HSB.out _ (KD.below (below_one _ _)) | with_reducible exact HSB.out _ ((KD.below (below_one _ _)).below (below_one _ _)) | with_reducible exact HSB.out _ KD | with_reducible exact HSB.out _ KE)
      (first | (go_at_call 228; refine (HAC.out _ _ _ _ K3.row rfl rfl).mono ?_; rintro r w5 ⟨v, rfl, ho5, hb5⟩; have KE := K3.below hb5; have HO5 := Lib.hid ho5; have HB5 := Lib.hid hb5; clear ho5 hb5))
     go_wp2
     go_ret2
     exact ⟨v, rfl, GotO.of (own_low HO5.out K3.frame.size) KE.frame⟩
    | some ad =>
     by_cases hlz : 0 < l.length
     ·obtain ⟨b, off, e1, -, -, -, -, -⟩ := HK0.out.row.at_ hlz
      cases e1
      by_cases hcj : c = l.length
      ·subst hje
       subst hcj
       go_enter Tryz.func192, Tryz.ntmps192
       go_wp2_with fail
       refine (HCO.out _ HK0.out.row HK0.out.cap).mono ?_
       rintro r w1 ⟨rfl, hB⟩
       have K1 := HK0.out.below hB
       clear HCO hB
       go_wp2_with fail
       refine (HIX.out _ K1.row K1.cap).mono ?_
       rintro r w2 ⟨rfl, hB⟩
       have K3 := K1.below hB
       clear HIX hB K1 HK0
       have KD := K3.below (Below.refl _ _).drew
       obtain ⟨g0, g1, g2, g3⟩ := K3.box
       have HAC : Hid (∀ W g1 g2 T, OpSl W (some ⟨b, off, none⟩) l → g1 = W.heap.size → g2 = W.heap.size + 1 → Calls Tryz.prog 228 #[.slice (some ⟨g2, 0, none⟩) 3 3] ((W.alloc (.cells #[.int .i64 e.n, .string e.u, .int .i64 e.s, .int .i64 e.f] 184)).alloc (.cells #[.slice (some ⟨b, off, none⟩) l.length l.length, .slice (some ⟨g1, 0, none⟩) 1 1, .slice (some ⟨b, off, none⟩) 0 0] T)).drew fun e w' => ∃ v, e = .returned v ∧ w'.ownsRow W.heap.size 184 4 v G.length (oes G) ∧ Below W.heap.size W w') := fun W g1 g2 T hs e1 e2 => by
        have h := oconcat3 (some ⟨b, off, none⟩) (some ⟨b, off, none⟩) l [] l.length 0 l.length 0 e W g1 g2 T rfl rfl hs (OpSl.nil _ _) (fun h => by cases h) (fun h => by cases h) e1 e2 (by simp; omega)
        have e0 := HGA.out
        rw [List.take_of_length_le (Nat.le_refl _), List.drop_of_length_le (Nat.le_refl _)] at e0
        rw [← e0] at h
        exact h
       have hz2 : (l.length : Int) ≤ (l.length : Int) := Int.le_refl _
       have hz1 : (0 : Int) ≤ (l.length : Int) := by omega
       clear HGA HNil
       generalize w.heap.size = g at *
       go_wp2_with fail
       go_region_held3 (fun W => W.cell? ⟨g, 0, none⟩ = some (.int .i64 e.n) ∧ W.cell? ⟨g, 1, none⟩ = some (.string e.u) ∧ W.cell? ⟨g, 2, none⟩ = some (.int .i64 e.s) ∧ W.cell? ⟨g, 3, none⟩ = some (.int .i64 e.f))
        (first | with_reducible exact HSB.out _ (KD.below (below_one _ _)) | with_reducible exact HSB.out _ ((KD.below (below_one _ _)).below (below_one _ _)) | with_reducible exact HSB.out _ KD | with_reducible exact HSB.out _ KE)
        (first | (go_at_call 228; refine (HAC.out _ _ _ _ K3.row rfl rfl).mono ?_; rintro r w5 ⟨v, rfl, ho5, hb5⟩; have KE := K3.below hb5; have HO5 := Lib.hid ho5; have HB5 := Lib.hid hb5; clear ho5 hb5))
       go_wp2
       go_ret2
       exact ⟨v, rfl, GotO.of (own_low HO5.out K3.frame.size) KE.frame⟩
      ·subst hje
       have hcj2 : l.length < c := by omega
       go_enter Tryz.func192, Tryz.ntmps192
       go_wp2_with fail
       refine (HCO.out _ HK0.out.row HK0.out.cap).mono ?_
       rintro r w1 ⟨rfl, hB⟩
       have K1 := HK0.out.below hB
       clear HCO hB
       go_wp2_with fail
       refine (HIX.out _ K1.row K1.cap).mono ?_
       rintro r w2 ⟨rfl, hB⟩
       have K3 := K1.below hB
       clear HIX hB K1 HK0
       have KD := K3.below (Below.refl _ _).drew
       obtain ⟨g0, g1, g2, g3⟩ := K3.box
       have hpc : l.length ≤ c := by omega
       have hz1 : (0 : Int) ≤ (l.length : Int) := by omega
       have hz2 : (l.length : Int) ≤ (l.length : Int) := by omega
       have hz3 : (l.length : Int) ≤ (c : Int) := by omega
       have HAC : Hid (∀ W g1 g2 T, OpSl W (some ⟨b, off, none⟩) l → g1 = W.heap.size → g2 = W.heap.size + 1 → Calls Tryz.prog 228 #[.slice (some ⟨g2, 0, none⟩) 3 3] ((W.alloc (.cells #[.int .i64 e.n, .string e.u, .int .i64 e.s, .int .i64 e.f] 184)).alloc (.cells #[.slice (some ⟨b, off, none⟩) l.length c, .slice (some ⟨g1, 0, none⟩) 1 1, .slice (some ⟨b, off + l.length * 4, none⟩) 0 (c - l.length)] T)).drew fun e w' => ∃ v, e = .returned v ∧ w'.ownsRow W.heap.size 184 4 v G.length (oes G) ∧ Below W.heap.size W w') := fun W g1 g2 T hs e1 e2 => by
        have h := oconcat3 (some ⟨b, off, none⟩) (some ⟨b, off + l.length * 4, none⟩) l [] c (c - l.length) l.length 0 e W g1 g2 T rfl rfl hs (OpSl.nil _ _) (fun h => by cases h) (fun h => by cases h) e1 e2 (by simp; omega)
        have e0 := HGA.out
        rw [List.take_of_length_le (Nat.le_refl _), List.drop_of_length_le (Nat.le_refl _)] at e0
        rw [← e0] at h
        exact h
       clear HGA HNil
       generalize w.heap.size = g at *
       go_wp2_with fail
       go_region_held3 (fun W => W.cell? ⟨g, 0, none⟩ = some (.int .i64 e.n) ∧ W.cell? ⟨g, 1, none⟩ = some (.string e.u) ∧ W.cell? ⟨g, 2, none⟩ = some (.int .i64 e.s) ∧ W.cell? ⟨g, 3, none⟩ = some (.int .i64 e.f))
        (first | with_reducible exact HSB.out _ (KD.below (below_one _ _)) | with_reducible exact HSB.out _ ((KD.below (below_one _ _)).below (below_one _ _)) | with_reducible exact HSB.out _ KD | with_reducible exact HSB.out _ KE)
        (first | (go_at_call 228; refine (HAC.out _ _ _ _ K3.row rfl rfl).mono ?_; rintro r w5 ⟨v, rfl, ho5, hb5⟩; have KE := K3.below hb5; have HO5 := Lib.hid ho5; have HB5 := Lib.hid hb5; clear ho5 hb5))
       go_wp2
       go_ret2
       exact ⟨v, rfl, GotO.of (own_low HO5.out K3.frame.size) KE.frame⟩
     ·have hl0 : l = [] := List.eq_nil_of_length_eq_zero (by omega)
      subst hl0
      obtain rfl : j = 0 := by simpa using hje
      obtain ⟨b, off, sp⟩ := ad
      clear d1 d2 hje hj hl hc hlz
      go_enter Tryz.func192, Tryz.ntmps192
      go_wp2_with fail
      refine (HCO.out _ HK0.out.row HK0.out.cap).mono ?_
      rintro r w1 ⟨rfl, hB⟩
      have K1 := HK0.out.below hB
      clear HCO hB
      go_wp2_with fail
      refine (HIX.out _ K1.row K1.cap).mono ?_
      rintro r w2 ⟨rfl, hB⟩
      have K3 := K1.below hB
      clear HIX hB K1 HK0
      have KD := K3.below (Below.refl _ _).drew
      obtain ⟨g0, g1, g2, g3⟩ := K3.box
      have hz : (0 : Int) ≤ (c : Int) := by omega
      have HAC : Hid (∀ W g1 g2 T (x y : Addr) (c1 c2 : Nat), OpSl W (some ⟨b, off, sp⟩) [] → g1 = W.heap.size → g2 = W.heap.size + 1 → Calls Tryz.prog 228 #[.slice (some ⟨g2, 0, none⟩) 3 3] ((W.alloc (.cells #[.int .i64 e.n, .string e.u, .int .i64 e.s, .int .i64 e.f] 184)).alloc (.cells #[.slice (some x) 0 c1, .slice (some ⟨g1, 0, none⟩) 1 1, .slice (some y) 0 c2] T)).drew fun e w' => ∃ v, e = .returned v ∧ w'.ownsRow W.heap.size 184 4 v G.length (oes G) ∧ Below W.heap.size W w') := fun W g1 g2 T x y c1 c2 hs e1 e2 => by
       have h := oconcat3 (some x) (some y) [] [] c1 c2 0 0 e W g1 g2 T rfl rfl (OpSl.nil _ _) (OpSl.nil _ _) (fun h => by cases h) (fun h => by cases h) e1 e2 (by simp)
       have e0 := HGA.out
       rw [List.take_nil, List.drop_nil] at e0
       rw [← e0] at h
       exact h
      clear HGA HNil
      generalize w.heap.size = g at *
      by_cases hcp : c = 0
      ·subst hcp
       go_wp2_with fail
       go_region_held3 (fun W => W.cell? ⟨g, 0, none⟩ = some (.int .i64 e.n) ∧ W.cell? ⟨g, 1, none⟩ = some (.string e.u) ∧ W.cell? ⟨g, 2, none⟩ = some (.int .i64 e.s) ∧ W.cell? ⟨g, 3, none⟩ = some (.int .i64 e.f))
        (first | with_reducible exact HSB.out _ (KD.below (below_one _ _)) | with_reducible exact HSB.out _ ((KD.below (below_one _ _)).below (below_one _ _)) | with_reducible exact HSB.out _ KD | with_reducible exact HSB.out _ KE)
        (first | (go_at_call 228; refine (HAC.out _ _ _ _ _ _ _ _ K3.row rfl rfl).mono ?_; rintro r w5 ⟨v, rfl, ho5, hb5⟩; have KE := K3.below hb5; have HO5 := Lib.hid ho5; have HB5 := Lib.hid hb5; clear ho5 hb5))
       go_wp2
       go_ret2
       exact ⟨v, rfl, GotO.of (own_low HO5.out K3.frame.size) KE.frame⟩
      ·have hcp2 : 0 < c := by omega
       go_wp2_with fail
       go_region_held3 (fun W => W.cell? ⟨g, 0, none⟩ = some (.int .i64 e.n) ∧ W.cell? ⟨g, 1, none⟩ = some (.string e.u) ∧ W.cell? ⟨g, 2, none⟩ = some (.int .i64 e.s) ∧ W.cell? ⟨g, 3, none⟩ = some (.int .i64 e.f))
        (first | with_reducible exact HSB.out _ (KD.below (below_one _ _)) | with_reducible exact HSB.out _ ((KD.below (below_one _ _)).below (below_one _ _)) | with_reducible exact HSB.out _ KD | with_reducible exact HSB.out _ KE)
        (first | (go_at_call 228; refine (HAC.out _ _ _ _ _ _ _ _ K3.row rfl rfl).mono ?_; rintro r w5 ⟨v, rfl, ho5, hb5⟩; have KE := K3.below hb5; have HO5 := Lib.hid ho5; have HB5 := Lib.hid hb5; clear ho5 hb5))
       go_wp2
       go_ret2
       exact ⟨v, rfl, GotO.of (own_low HO5.out K3.frame.size) KE.frame⟩
end Go.Proofs.YtmfpjapiijgdgaaGreat
namespace Go.Proofs.YtmfpjapiijgdgaaGreat
open Go.RowKit
set_option linter.unusedVariables false
set_option maxRecDepth 100000
set_option maxRecDepth 100000
theorem ebelow_one (w : World) (o : Obj) : Below w.heap.size w (w.alloc o) := (Below.refl _ _).alloc (Nat.le_refl _) _
def PcAt (W : World) (g : Nat) (w u : ByteArray) : Prop := W.cell? ⟨g, 0, none⟩ = some (.string w) ∧ W.cell? ⟨g, 1, none⟩ = some (.string u) ∧ g < W.heap.size
theorem PcAt.below {W W' : World} {g : Nat} {w u : ByteArray} (h : PcAt W g w u) (q : Below W.heap.size W W') : PcAt W' g w u :=
 ⟨(q.cell (p := ⟨g, 0, none⟩) h.2.2).trans h.1, (q.cell (p := ⟨g, 1, none⟩) h.2.2).trans h.2.1, Nat.lt_of_lt_of_le h.2.2 q.size⟩
theorem PcAt.new (W : World) (w u : ByteArray) (t : TypeId) : PcAt (W.alloc (.cells #[.string w, .string u] t)) W.heap.size w u :=
 ⟨cell_of_row _ _ _ _ _ _ (heap_alloc_new W _), cell_of_row _ _ _ _ _ _ (heap_alloc_new W _), by rw [size1]; omega⟩
theorem str_ne {a b : ByteArray} (h : ¬ a = b) : (a.toList == b.toList) = false := by
 have h1 := eqS_iff a b
 unfold eqS at h1
 cases hc : (a.toList == b.toList) with
 | false => rfl
 | true => exact absurd (h1.1 hc) h
theorem str_eq (a : ByteArray) : (a.toList == a.toList) = true := beq_self_eq_true _
set_option maxHeartbeats 1000000 in
theorem infc_any (e : EnM) (w u : ByteArray) (g : Nat) (W : World) (h : PcAt W g w u) :
  Calls Tryz.prog 261 #[enV e, .pointer (some ⟨g, 0, none⟩)] W fun r w' => r = .returned (.bool (infE w u e)) ∧ Below W.heap.size W w' := by
 have HB := Lib.hid (ebelow_one W)
 obtain ⟨c0, c1, hg⟩ := h
 unfold enV
 obtain ⟨ew, eu, ef, et⟩ := e
 have HF : Hid (∀ b : Bool, (b = true ↔ ew = w ∧ eu = u ∧ et = 1099511627776) → b = infE w u ⟨ew, eu, ef, et⟩) := fun b hb => by
  have h1 := infE_iff (w := w) (u := u) (e := ⟨ew, eu, ef, et⟩)
  cases hc : infE w u ⟨ew, eu, ef, et⟩ with
  | true => rw [hc] at h1; exact hb.2 (h1.1 rfl)
  | false =>
   rw [hc] at h1
   cases b with
   | false => rfl
   | true => exact absurd (h1.2 (hb.1 rfl)) Bool.false_ne_true
 dsimp only
 by_cases h0 : ew = w
 ·subst h0
  have e0 := str_eq ew
  by_cases h1 : eu = u
  ·subst h1
   have e1 := str_eq eu
   by_cases h2 : et = 1099511627776
   ·subst h2
    have HE := Lib.hid (HF.out true ⟨fun _ => ⟨rfl, rfl, rfl⟩, fun _ => rfl⟩)
    clear HF
    go_enter Tryz.func261, Tryz.ntmps261
    go_wp2
    go_ret
    exact ⟨retB HE.out, HB.out _⟩
   ·have e2 : (et == 1099511627776) = false := beq_eq_false_iff_ne.2 h2
    have HE := Lib.hid (HF.out false ⟨fun h => (by cases h), fun h => absurd h.2.2 h2⟩)
    clear HF h2
    go_enter Tryz.func261, Tryz.ntmps261
    go_wp2
    go_ret
    exact ⟨retB HE.out, HB.out _⟩
  ·have e1 := str_ne h1
   have HE := Lib.hid (HF.out false ⟨fun h => (by cases h), fun h => absurd h.2.1 h1⟩)
   clear HF h1
   go_enter Tryz.func261, Tryz.ntmps261
   go_wp2
   go_ret
   exact ⟨retB HE.out, HB.out _⟩
 ·have e0 := str_ne h0
  have HE := Lib.hid (HF.out false ⟨fun h => (by cases h), fun h => absurd h.1 h0⟩)
  clear HF h0
  go_enter Tryz.func261, Tryz.ntmps261
  go_wp2
  go_ret
  exact ⟨retB HE.out, HB.out _⟩
def idxI (p : EnM → Bool) (l : List EnM) : Int := if l.findIdx p < l.length then (l.findIdx p : Nat) else -1
theorem idx_hit {p : EnM → Bool} {l : List EnM} {k : Nat} (h : IsFirst p l k) (hk : k < l.length) : idxI p l = k := by
 unfold idxI
 rw [h.idx, if_pos hk]
theorem idx_miss {p : EnM → Bool} {l : List EnM} (h : IsFirst p l l.length) : idxI p l = -1 := by
 unfold idxI
 rw [h.idx, if_neg (by omega)]
theorem idx_any (p : EnM → Bool) (l : List EnM) : decide (0 ≤ idxI p l) = l.any p := by
 have h := first_idx p l
 rw [h.any]
 by_cases h1 : l.findIdx p < l.length
 ·rw [idx_hit h h1, decide_eq_true h1]
  exact decide_eq_true (by omega)
 ·rw [decide_eq_false h1]
  unfold idxI
  rw [if_neg h1]
  rfl
def LowTo (p : EnM → Bool) (l : List EnM) (j : Nat) : Prop := ∀ i (h : i < l.length), i < j → p l[i] = false
theorem LowTo.next {p : EnM → Bool} {l : List EnM} {j : Nat} (h : LowTo p l j) (hj : j < l.length) (hp : p l[j] = false) : LowTo p l (j + 1) := fun i hi hij => by
 rcases Nat.lt_or_ge i j with h1 | h1
 ·exact h i hi h1
 ·obtain rfl : i = j := by omega
  exact hp
theorem LowTo.hit {p : EnM → Bool} {l : List EnM} {j : Nat} (h : LowTo p l j) (hj : j < l.length) (hp : p l[j] = true) : IsFirst p l j := ⟨Nat.le_of_lt hj, h, fun _ => hp⟩
theorem LowTo.miss {p : EnM → Bool} {l : List EnM} (h : LowTo p l l.length) : IsFirst p l l.length := ⟨Nat.le_refl _, h, fun h => absurd h (by omega)⟩
set_option maxHeartbeats 2000000 in
theorem index_any (a : Option Addr) (c : Nat) (l : List EnM) (w u : ByteArray) (g : Nat) (W : World) (hr : EnSl W a l) (h : PcAt W g w u) (hl : l.length ≤ 1000000) :
  Calls Tryz.prog 260 #[.slice a l.length c, .func (.func 261) #[] #[.pointer (some ⟨g, 0, none⟩)]] W fun r w' => r = .returned (.int .i64 (idxI (infE w u) l)) ∧ Below W.heap.size W w' := by
 have HR := Lib.hid hr
 have HP := Lib.hid h
 have HC := Lib.hid (fun e V k => infc_any e w u g V k)
 unfold enV at HC
 clear hr h
 go_enter Tryz.func260, Tryz.ntmps260
 go_wp2
 go_loopw [8] (fun i wr => ∃ (j : Nat), j ≤ l.length ∧ i = .int .i64 j ∧ Hid (LowTo (infE w u) l j) ∧ Hid (Below W.heap.size W wr)) (fun i _ => l.length - (intOf i).toNat)
 case atStart => exact ⟨0, by omega, rfl, fun k _ h => absurd h (by omega), Below.refl _ _⟩
 case round =>
  obtain ⟨j, hj, rfl, HO, HB⟩ := hrel
  by_cases hjl : j < l.length
  ·obtain ⟨b, off, rfl, hbl, hc0, hc1, hc2, hc3⟩ := (HR.out.below HB.out).at_ hjl
   have HPW := Lib.hid (HP.out.below HB.out)
   have HNX := Lib.hid (HO.out.next hjl)
   have HHT := Lib.hid (HO.out.hit hjl)
   generalize l[j] = x at *
   cases hb : infE w u x with
   | false =>
    have HN := Lib.hid (HNX.out hb)
    have HCC := Lib.hid (HC.out x wr HPW.out)
    rw [hb] at HCC
    clear HNX HHT hb HC
    go_wp2_with fail
    refine HCC.out.mono ?_
    rintro r w2 ⟨rfl, hB⟩
    go_wp2
    go_roundw
    case rel => exact ⟨j + 1, by omega, by go_num, HN, HB.out.trans (hB.mono HB.out.size)⟩
    case measure => simp [intOf]; omega
   | true =>
    have HN := Lib.hid (idx_hit (HHT.out hb) hjl)
    have HCC := Lib.hid (HC.out x wr HPW.out)
    rw [hb] at HCC
    clear HNX HHT hb HC
    go_wp2_with fail
    refine HCC.out.mono ?_
    rintro r w2 ⟨rfl, hB⟩
    go_wp2
    go_ret
    exact ⟨by rw [HN.out]; rfl, HB.out.trans (hB.mono HB.out.size)⟩
  ·obtain rfl : j = l.length := by omega
   have HE := Lib.hid (idx_miss HO.out.miss)
   go_wp2
   go_ret
   exact ⟨by rw [HE.out]; rfl, HB.out⟩
set_option maxHeartbeats 1000000 in
theorem inforce_any (a : Option Addr) (c : Nat) (l : List EnM) (w u : ByteArray) (W : World) (hr : EnSl W a l) (hl : l.length ≤ 1000000) :
  Calls Tryz.prog 234 #[.slice a l.length c, pr w u] W fun r w' => r = .returned (.int .i64 (idxI (infE w u) l)) ∧ Below W.heap.size W w' := by
 have hb := ebelow_one W (.cells #[.string w, .string u] 79)
 have HC := Lib.hid (index_any a c l w u W.heap.size (W.alloc (.cells #[.string w, .string u] 79)) (hr.below hb) (PcAt.new _ _ _ _) hl)
 have HB := Lib.hid hb
 unfold pr
 clear hr hb
 go_enter Tryz.func234, Tryz.ntmps234
 go_wp2_with fail
 refine HC.out.mono ?_
 rintro r w2 ⟨rfl, hB⟩
 go_wp2
 go_ret
 exact ⟨rfl, HB.out.trans (hB.mono HB.out.size)⟩
set_option maxHeartbeats 1000000 in
theorem inForce_any (a : Option Addr) (c : Nat) (l : List EnM) (w u : ByteArray) (W : World) (hr : EnSl W a l) (hl : l.length ≤ 1000000) :
  Calls Tryz.prog 232 #[.slice a l.length c, pr w u] W fun r w' => r = .returned (.bool (l.any (infE w u))) ∧ Below W.heap.size W w' := by
 have hb := ebelow_one W (.cells #[.string w, .string u] 79)
 have HC := Lib.hid (inforce_any a c l w u (W.alloc (.cells #[.string w, .string u] 79)) (hr.below hb) hl)
 have HB := Lib.hid hb
 have HE := Lib.hid (idx_any (infE w u) l)
 unfold pr at *
 clear hr hb
 generalize idxI (infE w u) l = n at *
 go_enter Tryz.func232, Tryz.ntmps232
 go_wp2_with fail
 refine HC.out.mono ?_
 rintro r w2 ⟨rfl, hB⟩
 go_wp2
 go_ret
 exact ⟨by rw [← HE.out]; rfl, HB.out.trans (hB.mono HB.out.size)⟩
end Go.Proofs.YtmfpjapiijgdgaaGreat
namespace Go.Proofs.YtmfpjapiijgdgaaGreat
open Go.RowKit Go.Sort Go.Proofs
set_option linter.unusedVariables false
set_option maxRecDepth 100000
set_option maxRecDepth 100000
theorem cmpSt_le (a b : StM) : cmpSt a b ≤ 0 ↔ ¬ ltSt b a := by
 unfold cmpSt
 by_cases h : ltSt a b
 ·rw [if_pos h]; exact ⟨fun _ => ltSt_asymm h, fun _ => by omega⟩
 ·rw [if_neg h]
  by_cases k : ltSt b a
  ·rw [if_pos k]; exact ⟨fun h => by omega, fun h => absurd k h⟩
  ·rw [if_neg k]; exact ⟨fun _ => k, fun _ => by omega⟩
theorem cmpSt_gt (a b : StM) : 0 < cmpSt a b ↔ ltSt b a := by
 have := cmpSt_le a b
 constructor
 ·intro h
  by_cases k : ltSt b a
  ·exact k
  ·have := this.2 k; omega
 ·intro h
  by_cases k : cmpSt a b ≤ 0
  ·exact absurd h (this.1 k)
  ·omega
structure RsK (w : World) (g : Nat) (x : StM) (a : Option Addr) (l : List StM) (W : World) : Prop where
 box : W.heap[g]? = some (.cells #[.int .i64 x.f, .int .i64 x.t, .int .i64 x.n, .int .i64 x.s] 111 (0, 0))
 row : StSl W a l
 frame : Below w.heap.size w W
theorem RsK.below {w W W' : World} {g : Nat} {x : StM} {a : Option Addr} {l : List StM} (h : RsK w g x a l W) (q : Below W.heap.size W W') : RsK w g x a l W' :=
 ⟨(q.block _ (heap_lt h.box)).trans h.box, h.row.below q, h.frame.trans (q.mono h.frame.size)⟩
theorem RsK.four {w W : World} {g : Nat} {x : StM} {a : Option Addr} {l : List StM} (h : RsK w g x a l W) :
  W.cell? ⟨g, 0, none⟩ = some (.int .i64 x.f) ∧ W.cell? ⟨g, 1, none⟩ = some (.int .i64 x.t) ∧ W.cell? ⟨g, 2, none⟩ = some (.int .i64 x.n) ∧ W.cell? ⟨g, 3, none⟩ = some (.int .i64 x.s) := cells4 h.box
theorem RsK.at_ {w W : World} {g : Nat} {x : StM} {b off : Nat} {l : List StM} (h : RsK w g x (some ⟨b, off, none⟩) l W) {k : Nat} (hk : k < l.length) :
  W.cell? ⟨b, off + k * 4, none⟩ = some (.int .i64 l[k].f) ∧ W.cell? ⟨b, off + k * 4 + 1, none⟩ = some (.int .i64 l[k].t) ∧ W.cell? ⟨b, off + k * 4 + 2, none⟩ = some (.int .i64 l[k].n) ∧ W.cell? ⟨b, off + k * 4 + 3, none⟩ = some (.int .i64 l[k].s) := by
 obtain ⟨_, _, e, _, h0, h1, h2, h3⟩ := h.row.at_ hk
 cases e
 exact ⟨h0, h1, h2, h3⟩
theorem RsK.new {w W : World} {x : StM} {a : Option Addr} {l : List StM} (h : StSl W a l) (hb : Below w.heap.size w W) : RsK w W.heap.size x a l (W.alloc (.cells #[.int .i64 x.f, .int .i64 x.t, .int .i64 x.n, .int .i64 x.s] 111)) :=
 ⟨heap_alloc_new W _, h.below (below_one _ _), hb.alloc hb.size _⟩
def RiseTo (l : List StM) (j : Nat) : Prop := ∀ k (h : k < l.length), k < j → l[k].f < l[k].t ∧ (0 < k → ltSt (l[k - 1]'(by omega)) l[k])
theorem RiseTo.all {l : List StM} (h : RiseTo l l.length) : RiseS l := fun k hk => h k hk hk
theorem RiseTo.next {l : List StM} {j : Nat} (h : RiseTo l j) (hj : j < l.length) (h1 : l[j].f < l[j].t) (h2 : 0 < j → ltSt (l[j - 1]'(by omega)) l[j]) : RiseTo l (j + 1) := fun k hk hkj => by
 rcases Nat.lt_or_ge k j with h3 | h3
 ·exact h k hk h3
 ·obtain rfl : k = j := by omega
  exact ⟨h1, h2⟩
end Go.Proofs.YtmfpjapiijgdgaaGreat
