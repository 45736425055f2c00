/- Texts of mine, one behind the other, of each what is wanted. -/
import Derived.Test.YtjhdhfokhkcamaaGreatQ00
import Derived.Test.YtjhdhfokhkcamaaGreatShelf
import Derived.Test.YtjhdhfokhkcamaaGreatRows
import Derived.Test.YtjhdhfokhkcamaaGreatQ01
import Derived.Test.YtjhdhfokhkcamaaGreatQ02
import Derived.Test.YtjhdhfokhkcamaaGreatQ03
import Derived.Test.YtjhdhfokhkcamaaGreatQ05
import Derived.Test.YtjhdhfokhkcamaaGreatQ06
import Derived.Test.YtjhdhfokhkcamaaGreatQ07
import Derived.Test.YtjhdhfokhkcamaaGreatQ08
import Derived.Test.YtjhdhfokhkcamaaGreatQ09
import Derived.Test.YtjhdhfokhkcamaaGreatQ11
import Derived.Test.YtjhdhfokhkcamaaGreatQ14
import Derived.Test.YtjhdhfokhkcamaaGreatQ17
import Derived.Test.YtjhdhfokhkcamaaGreatQ18
import Derived.Test.YtjhdhfokhkcamaaGreatQ20
import Derived.Test.YtjhdhfokhkcamaaGreatQ21
import Derived.Test.YtjhdhfokhkcamaaGreatQ23
import Derived.Test.YtjhdhfokhkcamaaGreatQ24
import Derived.Test.YtjhdhfokhkcamaaGreatQ25
import Derived.Test.YtjhdhfokhkcamaaGreatQ27
import Derived.Test.YtjhdhfokhkcamaaGreatQ31
namespace Go.Proofs.YtjhdhfokhkcamaaGreat
open Go.RowKit Go.Proofs
set_option linter.unusedVariables false
set_option maxRecDepth 100000
set_option maxRecDepth 100000
theorem econcatR (x y z : Option Addr) (A B C : List EnM) (c1 c2 c3 n1 n2 n3 : Nat) (W : World) (g : Nat) (T : TypeId) (h1 : n1 = A.length) (h2 : n2 = B.length) (h3 : n3 = C.length) (hA : EnSl W x A) (hB : EnSl W y B) (hC : EnSl W z C) (k1 : x = none → c1 = 0) (k2 : y = none → c2 = 0) (k3 : z = none → c3 = 0) (hg : g = W.heap.size) (hl : A.length + (B.length + C.length) ≤ 1000) :
  Calls Tryz.prog 167 #[.slice (some ⟨g, 0, none⟩) 3 3] (W.alloc (.cells #[.slice x n1 c1, .slice y n2 c2, .slice z n3 c3] T)).drew fun e w' => ∃ v, e = .returned v ∧ w'.ownsRow W.heap.size 123 4 v (A ++ (B ++ C)).length (ens (A ++ (B ++ C))) ∧ Below W.heap.size W w' := by
 subst hg h1 h2 h3
 have hcat : catE [⟨x, A, c1⟩, ⟨y, B, c2⟩, ⟨z, C, c3⟩] = A ++ (B ++ C) := by simp [catE]
 have hb := (ebelow_one W (.cells #[.slice x A.length c1, .slice y B.length c2, .slice z C.length c3] T)).drew
 have hlen : (catE [⟨x, A, c1⟩, ⟨y, B, c2⟩, ⟨z, C, c3⟩]).length ≤ 100000 := by rw [hcat, List.length_append, List.length_append]; omega
 refine (econcat_any (some ⟨W.heap.size, 0, none⟩) 3 [⟨x, A, c1⟩, ⟨y, B, c2⟩, ⟨z, C, c3⟩] _ (sl_drew3 W #[.slice x A.length c1, .slice y B.length c2, .slice z C.length c3] T) ?_ (by show 3 ≤ _; decide) hlen).mono ?_
 ·intro r hr
  simp only [List.mem_cons, List.mem_nil_iff, or_false] at hr
  rcases hr with rfl | rfl | rfl
  ·exact ⟨hA.below hb, k1⟩
  ·exact ⟨hB.below hb, k2⟩
  ·exact ⟨hC.below hb, k3⟩
 ·rintro e w' ⟨v, rfl, ho, hbb⟩
  rw [hcat] at ho
  exact ⟨v, rfl, own_low ho hb.size, hb.trans (hbb.mono hb.size)⟩
set_option maxHeartbeats 8000000 in
theorem revoke_any (a : Option Addr) (c : Nat) (l : List EnM) (p u : ByteArray) (n : Int) (w : World) (hr : EnSl w a l) (hl : l.length ≤ 500) (hc : l.length ≤ c) (hcm : c ≤ maxLen) :
  Calls Tryz.prog 114 #[.slice a l.length c, pr p u, .int .i64 n] w fun e w' => (l.any (infE p u) = false ∧ e = .returned (.tuple #[.slice none 0 0, .int .i64 91]) ∧ Below w.heap.size w w') ∨
   (l.any (infE p u) = true ∧ ∃ v, e = .returned (.tuple #[v, .int .i64 0]) ∧ w'.ownsRow w.heap.size 123 4 v (revokeS l p u n).length (ens (revokeS l p u n)) ∧ Below w.heap.size w w') := by
 obtain ⟨i0, hi, hz0, hz1', hz2'⟩ := info_parts infoEn
 have HPC := Lib.hid (PK.new hr p u 121)
 have HIF := Lib.hid (fun W (h : EnSl W a l) => inforce_any a c l p u W h (by omega))
 have HF := first_idx (infE p u) l
 have HREV := fun k (h : IsFirst (infE p u) l k) => revoke_at h n
 unfold maxLen at hcm
 unfold pr at *
 generalize hG : revokeS l p u n = G at *
 clear hr hG
 have hany := HF.any
 generalize l.findIdx (infE p u) = k at *
 by_cases hk : k < l.length
 ·rw [decide_eq_true hk] at hany
  rw [hany]
  have hix := idx_hit HF hk
  have hG2 := HREV k HF
  rw [cut_at hk] at hG2
  rw [hix] at HIF
  clear HREV HF hix hany
  have hd0 : decide ((k : Int) < 0) = false := decide_eq_false (by omega)
  go_enter Tryz.func114, Tryz.ntmps114
  go_wp2_with fail
  refine (HIF.out _ HPC.out.row).mono ?_
  rintro e w1 ⟨rfl, hB⟩
  have K1 := Lib.hid (HPC.out.below hB)
  obtain ⟨b, off, rfl, hbl, hc0, hc1, hc2, hc3⟩ := K1.out.row.at_ hk
  generalize l[k] = x at *
  have HGH := Lib.hid hG2
  have HK2 : Hid (RsE w w1.heap.size ⟨x.w, x.u, x.f, n⟩ (some ⟨b, off, none⟩) l (w1.alloc (.cells #[.string x.w, .string x.u, .int .i64 x.f, .int .i64 n] 123))) := RsE.new (x := ⟨x.w, x.u, x.f, n⟩) K1.out.row K1.out.frame 123
  have HSB : Hid (∀ W, RsE w w1.heap.size ⟨x.w, x.u, x.f, n⟩ (some ⟨b, off, none⟩) l W → W.cell? ⟨w1.heap.size, 0, none⟩ = some (.string x.w) ∧ W.cell? ⟨w1.heap.size, 1, none⟩ = some (.string x.u) ∧ W.cell? ⟨w1.heap.size, 2, none⟩ = some (.int .i64 x.f) ∧ W.cell? ⟨w1.heap.size, 3, none⟩ = some (.int .i64 n)) := fun W h => h.box
  have HNO := Lib.hid (fun W => enone_any x.f n W)
  obtain ⟨k1, hk1⟩ : ∃ k1, k1 = k + 1 := ⟨_, rfl⟩
  have HK1 := Lib.hid hk1
  have hpw : IntKind.i64.wrap ((k : Int) + 1) = (k1 : Int) := by rw [IntWalk.i64_in] <;> omega
  have hk1l : k1 ≤ l.length := by omega
  have hkk : k < k1 := by omega
  have hz1 : (0 : Int) ≤ (k : Int) := by omega
  have hz2 : (k : Int) ≤ (l.length : Int) := by omega
  have hz3 : (k : Int) ≤ (c : Int) := by omega
  have hz4 : (l.length : Int) ≤ (c : Int) := by omega
  have hz5 : (0 : Int) ≤ (k1 : Int) := by omega
  have hz6 : (k1 : Int) ≤ (l.length : Int) := by omega
  have hz7 : (k1 : Int) ≤ (c : Int) := by omega
  have hz8 : k1 ≤ c := by omega
  have hz9 : k ≤ c := by omega
  clear hB HPC HIF hk1 hG2
  by_cases hn : n ≤ x.f
  ·rw [decide_eq_true hn] at HNO
   have HGG : Hid (l.take k ++ ([] ++ l.drop (k + 1)) = G) := by have := HGH.out; unfold endS at this; rw [if_pos hn] at this; exact this.symm
   clear HGH hn
   go_wp2_with fail
   refine (HNO.out _).mono ?_
   rintro e w3 ⟨rfl, hB⟩
   have K3 := HK2.out.below hB
   clear HK2 HNO hB K1
   by_cases hck : c = k1
   ·have hl1 : l.length = k1 := by omega
    subst hck
    rw [hl1] at *
    have HAC : Hid (∀ W g1 T0, EnSl W (some ⟨b, off, none⟩) l → g1 = W.heap.size → Calls Tryz.prog 167 #[.slice (some ⟨g1, 0, none⟩) 3 3] (W.alloc (.cells #[.slice (some ⟨b, off, none⟩) k c, .slice none 0 0, .slice (some ⟨b, off, none⟩) 0 0] T0)).drew fun e w' => ∃ v, e = .returned v ∧ w'.ownsRow W.heap.size 123 4 v G.length (ens G) ∧ Below W.heap.size W w') := fun W g1 T0 hs e1 => by
     have h := econcatR (some ⟨b, off, none⟩) none (some ⟨b, off, none⟩) (l.take k) [] (l.drop (k + 1)) c 0 0 k 0 0 W g1 T0 (by rw [List.length_take]; omega) rfl (by have := HK1.out; rw [List.length_drop]; omega) (hs.take k) (EnSl.nil _ _) (by have := HK1.out; rw [List.drop_of_length_le (by omega)]; exact EnSl.nil _ _) (fun h => by cases h) (fun _ => rfl) (fun h => by cases h) e1 (by have := HK1.out; rw [List.length_take, List.length_drop]; simp; omega)
     rw [HGG.out] at h
     exact h
    clear HGG HSB
    go_wp2_with fail
    go_region_held3 (fun W => True)
     (first | exact trivial)
     (first | (go_at_call 167; refine (HAC.out _ _ _ K3.row rfl).mono ?_; rintro e w9 ⟨v, rfl, ho9, hb9⟩; have HO9 := Lib.hid ho9; have HB9 := Lib.hid hb9; clear ho9 hb9))
    go_wp2
    go_ret2
    exact Or.inr ⟨by trivial, v, rfl, own_low HO9.out K3.frame.size, K3.frame.trans (HB9.out.mono K3.frame.size)⟩
   ·have hck2 : k1 < c := by omega
    have HAC : Hid (∀ W g1 T0, EnSl W (some ⟨b, off, none⟩) l → g1 = W.heap.size → Calls Tryz.prog 167 #[.slice (some ⟨g1, 0, none⟩) 3 3] (W.alloc (.cells #[.slice (some ⟨b, off, none⟩) k c, .slice none 0 0, .slice (some ⟨b, off + k1 * 4, none⟩) (l.length - k1) (c - k1)] T0)).drew fun e w' => ∃ v, e = .returned v ∧ w'.ownsRow W.heap.size 123 4 v G.length (ens G) ∧ Below W.heap.size W w') := fun W g1 T0 hs e1 => by
     have h := econcatR (some ⟨b, off, none⟩) none (some ⟨b, off + k1 * 4, none⟩) (l.take k) [] (l.drop (k + 1)) c 0 (c - k1) k 0 (l.length - k1) W g1 T0 (by rw [List.length_take]; omega) rfl (by have := HK1.out; rw [List.length_drop]; omega) (hs.take k) (EnSl.nil _ _) (by rw [HK1.out]; exact hs.drop (k + 1)) (fun h => by cases h) (fun _ => rfl) (fun h => by cases h) e1 (by have := HK1.out; rw [List.length_take, List.length_drop]; simp; omega)
     rw [HGG.out] at h
     exact h
    clear HGG HSB
    go_wp2_with fail
    go_region_held3 (fun W => True)
     (first | exact trivial)
     (first | (go_at_call 167; refine (HAC.out _ _ _ K3.row rfl).mono ?_; rintro e w9 ⟨v, rfl, ho9, hb9⟩; have HO9 := Lib.hid ho9; have HB9 := Lib.hid hb9; clear ho9 hb9))
    go_wp2
    go_ret2
    exact Or.inr ⟨by trivial, v, rfl, own_low HO9.out K3.frame.size, K3.frame.trans (HB9.out.mono K3.frame.size)⟩
  ·rw [decide_eq_false hn] at HNO
   have HGG : Hid (l.take k ++ ([⟨x.w, x.u, x.f, n⟩] ++ l.drop (k + 1)) = G) := by have := HGH.out; unfold endS at this; rw [if_neg hn] at this; exact this.symm
   clear HGH hn
   go_wp2_with fail
   refine (HNO.out _).mono ?_
   rintro e w3 ⟨rfl, hB⟩
   have K3 := HK2.out.below hB
   obtain ⟨d0, d1, d2, d3⟩ := HSB.out _ K3
   have HE3 : Hid ((w3.alloc (.cells #[.string x.w, .string x.u, .int .i64 x.f, .int .i64 n] 123)).ownsRow w3.heap.size 123 4 (.slice none 0 0) 0 []) := ⟨rfl, .inl ⟨rfl, rfl⟩⟩
   have HB3 := Lib.hid (ebelow_one w3 (.cells #[.string x.w, .string x.u, .int .i64 x.f, .int .i64 n] 123))
   have HS3 := Lib.hid HB3.out.size
   clear HK2 HNO hB K1
   go_wp2_with (at_builtin; refine wpList_append_own _ rfl (.tmp 27) (.tmp 29) 35 rfl w3.heap.size 123 i0 _ 4 48 Tryz.underlying35 hi hz0 hz1' hz2' rfl (by decide) _ _ _ rfl HE3.out ⟨w3.heap.size, 0, none⟩ 1 1 [.string x.w, .string x.u, .int .i64 x.f, .int .i64 n] rfl rfl (news_at _ _ _ _ rfl) (four_e _ _ _ _) (by unfold maxLen; omega) (by omega) HS3.out ?_; intro v1 w4 ho1 hgrow hiff)
   have hb4 := app_below HB3.out HS3.out HE3.out hgrow
   have ho4 : w4.ownsRow w3.heap.size 123 4 v1 [(⟨x.w, x.u, x.f, n⟩ : EnM)].length (ens [(⟨x.w, x.u, x.f, n⟩ : EnM)]) := ho1
   obtain ⟨xa, xc, hv, -, -, hsl, hnl⟩ := own_en ho4
   have hv2 : v1 = .slice xa 1 xc := hv
   subst hv2
   have K4 := K3.below hb4
   have HY := Lib.hid hsl
   have HYN := Lib.hid hnl
   clear hv ho4 ho1 hgrow hiff hb4 HE3 HB3 HS3 d0 d1 d2 d3 hsl hnl K3
   by_cases hck : c = k1
   ·have hl1 : l.length = k1 := by omega
    subst hck
    rw [hl1] at *
    have HAC : Hid (∀ W g1 T0, EnSl W (some ⟨b, off, none⟩) l → EnSl W xa [⟨x.w, x.u, x.f, n⟩] → g1 = W.heap.size → Calls Tryz.prog 167 #[.slice (some ⟨g1, 0, none⟩) 3 3] (W.alloc (.cells #[.slice (some ⟨b, off, none⟩) k c, .slice xa 1 xc, .slice (some ⟨b, off, none⟩) 0 0] T0)).drew fun e w' => ∃ v, e = .returned v ∧ w'.ownsRow W.heap.size 123 4 v G.length (ens G) ∧ Below W.heap.size W w') := fun W g1 T0 hs hs2 e1 => by
     have h := econcatR (some ⟨b, off, none⟩) xa (some ⟨b, off, none⟩) (l.take k) [⟨x.w, x.u, x.f, n⟩] (l.drop (k + 1)) c xc 0 k 1 0 W g1 T0 (by rw [List.length_take]; omega) rfl (by have := HK1.out; rw [List.length_drop]; omega) (hs.take k) hs2 (by have := HK1.out; rw [List.drop_of_length_le (by omega)]; exact EnSl.nil _ _) (fun h => by cases h) HYN.out (fun h => by cases h) e1 (by have := HK1.out; rw [List.length_take, List.length_drop]; simp; omega)
     rw [HGG.out] at h
     exact h
    clear HGG HSB
    go_wp2_with fail
    go_region_held3 (fun W => True)
     (first | exact trivial)
     (first | (go_at_call 167; refine (HAC.out _ _ _ K4.row HY.out rfl).mono ?_; rintro e w9 ⟨v, rfl, ho9, hb9⟩; have HO9 := Lib.hid ho9; have HB9 := Lib.hid hb9; clear ho9 hb9))
    go_wp2
    go_ret2
    exact Or.inr ⟨by trivial, v, rfl, own_low HO9.out K4.frame.size, K4.frame.trans (HB9.out.mono K4.frame.size)⟩
   ·have hck2 : k1 < c := by omega
    have HAC : Hid (∀ W g1 T0, EnSl W (some ⟨b, off, none⟩) l → EnSl W xa [⟨x.w, x.u, x.f, n⟩] → g1 = W.heap.size → Calls Tryz.prog 167 #[.slice (some ⟨g1, 0, none⟩) 3 3] (W.alloc (.cells #[.slice (some ⟨b, off, none⟩) k c, .slice xa 1 xc, .slice (some ⟨b, off + k1 * 4, none⟩) (l.length - k1) (c - k1)] T0)).drew fun e w' => ∃ v, e = .returned v ∧ w'.ownsRow W.heap.size 123 4 v G.length (ens G) ∧ Below W.heap.size W w') := fun W g1 T0 hs hs2 e1 => by
     have h := econcatR (some ⟨b, off, none⟩) xa (some ⟨b, off + k1 * 4, none⟩) (l.take k) [⟨x.w, x.u, x.f, n⟩] (l.drop (k + 1)) c xc (c - k1) k 1 (l.length - k1) W g1 T0 (by rw [List.length_take]; omega) rfl (by have := HK1.out; rw [List.length_drop]; omega) (hs.take k) hs2 (by rw [HK1.out]; exact hs.drop (k + 1)) (fun h => by cases h) HYN.out (fun h => by cases h) e1 (by have := HK1.out; rw [List.length_take, List.length_drop]; simp; omega)
     rw [HGG.out] at h
     exact h
    clear HGG HSB
    go_wp2_with fail
    go_region_held3 (fun W => True)
     (first | exact trivial)
     (first | (go_at_call 167; refine (HAC.out _ _ _ K4.row HY.out rfl).mono ?_; rintro e w9 ⟨v, rfl, ho9, hb9⟩; have HO9 := Lib.hid ho9; have HB9 := Lib.hid hb9; clear ho9 hb9))
    go_wp2
    go_ret2
    exact Or.inr ⟨by trivial, v, rfl, own_low HO9.out K4.frame.size, K4.frame.trans (HB9.out.mono K4.frame.size)⟩
 ·rw [decide_eq_false hk] at hany
  rw [hany]
  have hix : idxI (infE p u) l = -1 := by
   obtain rfl : k = l.length := Nat.le_antisymm HF.le (by omega)
   exact idx_miss HF
  rw [hix] at HIF
  clear HREV HF hix hany hk
  go_enter Tryz.func114, Tryz.ntmps114
  go_wp2_with fail
  refine (HIF.out _ HPC.out.row).mono ?_
  rintro e w1 ⟨rfl, hB⟩
  have K1 := Lib.hid (HPC.out.below hB)
  go_wp2
  go_ret2
  exact Or.inl ⟨by trivial, rfl, K1.out.frame⟩
end Go.Proofs.YtjhdhfokhkcamaaGreat
namespace Go.Proofs.YtjhdhfokhkcamaaGreat
open Go.ChangeShapes Go.WideShapes Go.ChangeAt Go.RowKit
set_option linter.unusedVariables false
set_option maxRecDepth 100000
set_option maxRecDepth 100000
def FitsE (l : List EnM) : Prop := ∀ e ∈ l, e.w.size ≤ maxLen ∧ e.u.size ≤ maxLen ∧ I64 e.f ∧ I64 e.t
section
variable {H : Type} {enc : TypeId × Value → H} {P : Program} {w : World} {base : Nat} {spare : Nat → Bool} {held : Bool}
theorem eopen_quads {t e : TypeId} {f0 f1 f2 f3 : Field} {fuel : Nat} {cs : List Value} {x : DataW H × List MemPlace} (ht : P.underlying t = some (.slice e)) (he : P.underlying e = some (.struct #[f0, f1, f2, f3]))
  (ce : P.cellsOf e = 4) (o0 : f0.offset = 0) (o1 : f1.offset = 1) (o2 : f2.offset = 2) (o3 : f3.offset = 3) (c0 : P.cellsOf f0.type = 1) (c1 : P.cellsOf f1.type = 1) (c2 : P.cellsOf f2.type = 1) (c3 : P.cellsOf f3.type = 1)
  (h : DataW.trod enc P w base spare held fuel t cs = some x) :
  (cs = [.slice none 0 0] ∧ x = (.nil, [])) ∨
  ∃ (a : Addr) (len cap : Nat), cs = [.slice (some a) len cap] ∧ len ≤ cap ∧ cap ≤ maxLen ∧
   ∀ i, i < len → ∃ (v0 v1 v2 v3 : Value) (y0 y1 y2 y3 : DataW H × List MemPlace) (n : Nat), w.cell? (a.add (i * 4)) = some v0 ∧ w.cell? (a.add (i * 4 + 1)) = some v1 ∧ w.cell? (a.add (i * 4 + 2)) = some v2 ∧ w.cell? (a.add (i * 4 + 3)) = some v3 ∧
    DataW.trod enc P w base spare held n f0.type [v0] = some y0 ∧ DataW.trod enc P w base spare held n f1.type [v1] = some y1 ∧ DataW.trod enc P w base spare held n f2.type [v2] = some y2 ∧ DataW.trod enc P w base spare held n f3.type [v3] = some y3 := by
 rcases Go.Deep.open_slice ht h with h0 | ⟨a, len, cap, m, n, D, Pl, rfl, hb, hl, hm, hmm, rfl, hx⟩
 ·exact Or.inl h0
 right
 have hlm : len ≤ m := by rw [hmm]; split <;> omega
 refine ⟨a, len, cap, rfl, hl, hm, fun i hi => ?_⟩
 obtain ⟨cs', h1, h2⟩ := hx i (by omega)
 rw [ce] at h1
 obtain ⟨_, hlen, hcell⟩ := World.cells?_some h1
 obtain ⟨xs, k, hk, hxy, _, hxl, hf⟩ := DataW.trod_struct he h2
 match xs, hxl, cs', hlen with
 | [y0, y1, y2, y3], _, [v0, v1, v2, v3], _ =>
  have g0 := hf 0 f0 rfl
  have g1 := hf 1 f1 rfl
  have g2 := hf 2 f2 rfl
  have g3 := hf 3 f3 rfl
  simp [o0, o1, o2, o3, c0, c1, c2, c3] at g0 g1 g2 g3
  have e0 := hcell 0 (by omega)
  have e1 := hcell 1 (by omega)
  have e2 := hcell 2 (by omega)
  have e3 := hcell 3 (by omega)
  rw [Go.Deep.add_add] at e0 e1 e2 e3
  exact ⟨v0, v1, v2, v3, y0, y1, y2, y3, k, by simpa using e0, by simpa using e1, by simpa using e2, by simpa using e3, g0, g1, g2, g3⟩
end
theorem enFields : ∃ f0 f1 f2 f3 : Field, Tryz.prog.underlying 82 = some (.struct #[f0, f1, f2, f3]) ∧ f0.offset = 0 ∧ f1.offset = 1 ∧ f2.offset = 2 ∧ f3.offset = 3 ∧ f0.type = 9 ∧ f1.type = 9 ∧ f2.type = 3 ∧ f3.type = 3 := ⟨_, _, _, _, Tryz.underlying82, rfl, rfl, rfl, rfl, rfl, rfl, rfl, rfl⟩
theorem read_entries {H : Type} {enc : TypeId × Value → H} {W : World} {n : Nat} {cs : List Value} {x : DataW H × List MemPlace}
  (h : DataW.trod enc Tryz.prog W 0 (fun _ => true) true n 24 cs = some x) :
  ∃ (a : Option Addr) (c : Nat) (l : List EnM), cs = [.slice a l.length c] ∧ EnSl W a l ∧ FitsE l ∧ l.length ≤ c ∧ c ≤ maxLen ∧ (a = none → c = 0) := by
 obtain ⟨f0, f1, f2, f3, he, o0, o1, o2, o3, t0, t1, t2, t3⟩ := enFields
 have ci : Tryz.prog.cellsOf 3 = 1 := by kernel_rfl
 have cs' : Tryz.prog.cellsOf 9 = 1 := by kernel_rfl
 rcases eopen_quads Tryz.underlying24 he (by kernel_rfl) o0 o1 o2 o3 (by rw [t0]; exact cs') (by rw [t1]; exact cs') (by rw [t2]; exact ci) (by rw [t3]; exact ci) h with ⟨rfl, _⟩ | ⟨a, len, cap, rfl, hl, hm, hx⟩
 ·exact ⟨none, 0, [], rfl, EnSl.nil _ _, (fun s hs => by cases hs), by simp, by decide, fun _ => rfl⟩
 ·have each : ∀ i, i < len → ∃ x : EnM, W.cell? (a.add (i * 4)) = some (.string x.w) ∧ W.cell? (a.add (i * 4 + 1)) = some (.string x.u) ∧ W.cell? (a.add (i * 4 + 2)) = some (.int .i64 x.f) ∧ W.cell? (a.add (i * 4 + 3)) = some (.int .i64 x.t) ∧ x.w.size ≤ maxLen ∧ x.u.size ≤ maxLen ∧ I64 x.f ∧ I64 x.t := fun i hi => by
   obtain ⟨v0, v1, v2, v3, y0, y1, y2, y3, n, k0, k1, k2, k3, g0, g1, g2, g3⟩ := hx i hi
   rw [t0] at g0
   rw [t1] at g1
   rw [t2] at g2
   rw [t3] at g3
   obtain ⟨z0, e0, _, w0⟩ := DataW.trod_string Tryz.underlying9 g0
   obtain ⟨z1, e1, _, w1⟩ := DataW.trod_string Tryz.underlying9 g1
   obtain ⟨z2, e2, _, w2⟩ := DataW.trod_int Tryz.underlying3 g2
   obtain ⟨z3, e3, _, w3⟩ := DataW.trod_int Tryz.underlying3 g3
   simp at e0 e1 e2 e3
   exact ⟨⟨z0, z1, z2, z3⟩, by rw [k0, e0], by rw [k1, e1], by rw [k2, e2], by rw [k3, e3], w0, w1, wf64 w2, wf64 w3⟩
  have some_x : ∃ f : Nat → EnM, ∀ i, i < len → W.cell? (a.add (i * 4)) = some (.string (f i).w) ∧ W.cell? (a.add (i * 4 + 1)) = some (.string (f i).u) ∧ W.cell? (a.add (i * 4 + 2)) = some (.int .i64 (f i).f) ∧ W.cell? (a.add (i * 4 + 3)) = some (.int .i64 (f i).t) ∧ (f i).w.size ≤ maxLen ∧ (f i).u.size ≤ maxLen ∧ I64 (f i).f ∧ I64 (f i).t := by
   refine ⟨fun i => if h : i < len then (each i h).choose else ⟨ByteArray.empty, ByteArray.empty, 0, 0⟩, fun i hi => ?_⟩
   simp only [hi, ↓reduceDIte]
   exact (each i hi).choose_spec
  obtain ⟨f, hf2⟩ := some_x
  have hlen : ((List.range len).map f).length = len := by simp
  refine ⟨some a, cap, (List.range len).map f, by rw [hlen], fun k hk => ?_, fun x hxm => ?_, by omega, hm, fun h => by cases h⟩
  ·rw [hlen] at hk
   obtain ⟨b, off, spot⟩ := a
   have h0 := (hf2 0 (by omega)).1
   have hspot : spot = none := by simpa [Addr.add] using World.cell?_spot h0
   subst hspot
   obtain ⟨g0, g1, g2, g3, _⟩ := hf2 k (by omega)
   rw [Go.WideShapes.add_plain] at g0 g1 g2 g3
   simp only [List.getElem_map, List.getElem_range]
   exact ⟨b, off, rfl, World.block_lt_of_cell? W ⟨b, off + k * 4, none⟩ g0, g0, g1, g2, g3⟩
  ·obtain ⟨i, hi, rfl⟩ := List.mem_map.1 hxm
   exact (hf2 i (by have := List.mem_range.1 hi; omega)).2.2.2.2
end Go.Proofs.YtjhdhfokhkcamaaGreat
namespace Go.Proofs.YtjhdhfokhkcamaaGreat
open Go.RowKit
set_option linter.unusedVariables false
set_option maxRecDepth 100000
set_option maxRecDepth 100000
theorem e_news (a : Option Addr) (c : Nat) (l : List EnM) (W : World) (h : EnSl W a l) (hl : l.length ≤ 1000) : Calls Tryz.prog 41 #[.slice a l.length c] W fun e w' => ∃ x q, e = .returned (.slice x l.length q) ∧ l.length ≤ q ∧ q ≤ maxLen ∧ (x = none → q = 0) ∧ EnSl w' x l ∧ Below W.heap.size W w' := by
 refine (enews_any a c l W h (by omega)).mono ?_
 rintro e w' ⟨v, rfl, ho, hb⟩
 obtain ⟨x, q, rfl, h1, h2, h3, h4⟩ := own_en ho
 exact ⟨x, q, rfl, h1, h2, h4, h3, hb⟩
theorem e_olds (a : Option Addr) (c : Nat) (l : List EnM) (W : World) (h : EnSl W a l) (hl : l.length ≤ 1000) : Calls Tryz.prog 57 #[.slice a l.length c] W fun e w' => ∃ x q, e = .returned (.slice x l.length q) ∧ l.length ≤ q ∧ q ≤ maxLen ∧ (x = none → q = 0) ∧ EnSl w' x l ∧ Below W.heap.size W w' := by
 refine (eolds_any a c l W h (by omega)).mono ?_
 rintro e w' ⟨v, rfl, ho, hb⟩
 obtain ⟨x, q, rfl, h1, h2, h3, h4⟩ := own_en ho
 exact ⟨x, q, rfl, h1, h2, h4, h3, hb⟩
theorem e_without (a : Option Addr) (c : Nat) (l : List EnM) (s : ByteArray) (W : World) (h : EnSl W a l) (hl : l.length ≤ 1000) : Calls Tryz.prog 172 #[.slice a l.length c, .string s] W fun e w' => ∃ x q, e = .returned (.slice x (l.filter (wiE s)).length q) ∧ (l.filter (wiE s)).length ≤ q ∧ q ≤ maxLen ∧ (x = none → q = 0) ∧ EnSl w' x (l.filter (wiE s)) ∧ Below W.heap.size W w' := by
 refine (without_any a c l s W h (by omega)).mono ?_
 rintro e w' ⟨v, rfl, ho, hb⟩
 obtain ⟨x, q, rfl, h1, h2, h3, h4⟩ := own_en ho
 exact ⟨x, q, rfl, h1, h2, h4, h3, hb⟩
theorem e_rwithout (a : Option Addr) (c : Nat) (l : List EnM) (s : ByteArray) (W : World) (h : EnSl W a l) (hl : l.length ≤ 1000) : Calls Tryz.prog 51 #[.slice a l.length c, .string s] W fun e w' => ∃ x q, e = .returned (.slice x (l.filter (wiE s)).length q) ∧ (l.filter (wiE s)).length ≤ q ∧ q ≤ maxLen ∧ (x = none → q = 0) ∧ EnSl w' x (l.filter (wiE s)) ∧ Below W.heap.size W w' := by
 refine (rwithout_any a c l s W h (by omega)).mono ?_
 rintro e w' ⟨v, rfl, ho, hb⟩
 obtain ⟨x, q, rfl, h1, h2, h3, h4⟩ := own_en ho
 exact ⟨x, q, rfl, h1, h2, h4, h3, hb⟩
theorem e_after (a : Option Addr) (c : Nat) (l : List EnM) (s : Int) (W : World) (h : EnSl W a l) (hl : l.length ≤ 1000) : Calls Tryz.prog 77 #[.slice a l.length c, .int .i64 s] W fun e w' => ∃ x q, e = .returned (.slice x (l.filter (afE s)).length q) ∧ (l.filter (afE s)).length ≤ q ∧ q ≤ maxLen ∧ (x = none → q = 0) ∧ EnSl w' x (l.filter (afE s)) ∧ Below W.heap.size W w' := by
 refine (eafter_any a c l s W h (by omega)).mono ?_
 rintro e w' ⟨v, rfl, ho, hb⟩
 obtain ⟨x, q, rfl, h1, h2, h3, h4⟩ := own_en ho
 exact ⟨x, q, rfl, h1, h2, h4, h3, hb⟩
theorem e_grant (a : Option Addr) (c : Nat) (l : List EnM) (p u : ByteArray) (n : Int) (W : World) (h : EnSl W a l) (hn : a = none → c = 0) (hl : l.length ≤ 500) (hc : l.length ≤ c) (hcm : c ≤ maxLen) (hi : l.any (infE p u) = false) : Calls Tryz.prog 113 #[.slice a l.length c, .agg #[.string p, .string u], .int .i64 n] W fun e w' => ∃ x q, e = .returned (.tuple #[.slice x (grantS l (mkE p u n)).length q, .int .i64 0]) ∧ (grantS l (mkE p u n)).length ≤ q ∧ q ≤ maxLen ∧ (x = none → q = 0) ∧ EnSl w' x (grantS l (mkE p u n)) ∧ Below W.heap.size W w' := by
 refine Calls.mono (P := Tryz.prog) (grant_any a c l p u n W h hn hl hc hcm) ?_
 rintro e w' (⟨k, _, _⟩ | ⟨_, v, rfl, ho, hb⟩)
 ·rw [hi] at k; cases k
 ·obtain ⟨x, q, rfl, h1, h2, h3, h4⟩ := own_en ho
  exact ⟨x, q, rfl, h1, h2, h4, h3, hb⟩
theorem e_grant_no (a : Option Addr) (c : Nat) (l : List EnM) (p u : ByteArray) (n : Int) (W : World) (h : EnSl W a l) (hn : a = none → c = 0) (hl : l.length ≤ 500) (hc : l.length ≤ c) (hcm : c ≤ maxLen) (hi : l.any (infE p u) = true) : Calls Tryz.prog 113 #[.slice a l.length c, .agg #[.string p, .string u], .int .i64 n] W fun e w' => e = .returned (.tuple #[.slice none 0 0, .int .i64 90]) ∧ Below W.heap.size W w' := by
 refine Calls.mono (P := Tryz.prog) (grant_any a c l p u n W h hn hl hc hcm) ?_
 rintro e w' (⟨_, rfl, hb⟩ | ⟨k, _⟩)
 ·exact ⟨rfl, hb⟩
 ·rw [hi] at k; cases k
theorem e_rgrant (a : Option Addr) (c : Nat) (l : List EnM) (p u : ByteArray) (n : Int) (W : World) (h : EnSl W a l) (hsz : SzE l) (hp : p.size ≤ maxLen) (hu : u.size ≤ maxLen) (hn : a = none → c = 0) (hl : l.length ≤ 500) (hc : l.length ≤ c) (hcm : c ≤ maxLen) (hi : l.any (infE p u) = false) : Calls Tryz.prog 48 #[.slice a l.length c, .agg #[.string p, .string u], .int .i64 n] W fun e w' => ∃ x q, e = .returned (.tuple #[.slice x (grantS l (mkE p u n)).length q, .int .i64 0]) ∧ (grantS l (mkE p u n)).length ≤ q ∧ q ≤ maxLen ∧ (x = none → q = 0) ∧ EnSl w' x (grantS l (mkE p u n)) ∧ Below W.heap.size W w' := by
 refine Calls.mono (P := Tryz.prog) (refGrant_any a c l p u n W h hsz hp hu hn hl hc hcm) ?_
 rintro e w' (⟨k, _, _⟩ | ⟨_, v, rfl, ho, hb⟩)
 ·rw [hi] at k; cases k
 ·obtain ⟨x, q, rfl, h1, h2, h3, h4⟩ := own_en ho
  exact ⟨x, q, rfl, h1, h2, h4, h3, hb⟩
theorem e_rgrant_no (a : Option Addr) (c : Nat) (l : List EnM) (p u : ByteArray) (n : Int) (W : World) (h : EnSl W a l) (hsz : SzE l) (hp : p.size ≤ maxLen) (hu : u.size ≤ maxLen) (hn : a = none → c = 0) (hl : l.length ≤ 500) (hc : l.length ≤ c) (hcm : c ≤ maxLen) (hi : l.any (infE p u) = true) : Calls Tryz.prog 48 #[.slice a l.length c, .agg #[.string p, .string u], .int .i64 n] W fun e w' => e = .returned (.tuple #[.slice none 0 0, .int .i64 90]) ∧ Below W.heap.size W w' := by
 refine Calls.mono (P := Tryz.prog) (refGrant_any a c l p u n W h hsz hp hu hn hl hc hcm) ?_
 rintro e w' (⟨_, rfl, hb⟩ | ⟨k, _⟩)
 ·exact ⟨rfl, hb⟩
 ·rw [hi] at k; cases k
theorem e_revoke (a : Option Addr) (c : Nat) (l : List EnM) (p u : ByteArray) (n : Int) (W : World) (h : EnSl W a l) (hl : l.length ≤ 500) (hc : l.length ≤ c) (hcm : c ≤ maxLen) (hi : l.any (infE p u) = true) : Calls Tryz.prog 114 #[.slice a l.length c, .agg #[.string p, .string u], .int .i64 n] W fun e w' => ∃ x q, e = .returned (.tuple #[.slice x (revokeS l p u n).length q, .int .i64 0]) ∧ (revokeS l p u n).length ≤ q ∧ q ≤ maxLen ∧ (x = none → q = 0) ∧ EnSl w' x (revokeS l p u n) ∧ Below W.heap.size W w' := by
 refine Calls.mono (P := Tryz.prog) (revoke_any a c l p u n W h hl hc hcm) ?_
 rintro e w' (⟨k, _, _⟩ | ⟨_, v, rfl, ho, hb⟩)
 ·rw [hi] at k; cases k
 ·obtain ⟨x, q, rfl, h1, h2, h3, h4⟩ := own_en ho
  exact ⟨x, q, rfl, h1, h2, h4, h3, hb⟩
theorem e_revoke_no (a : Option Addr) (c : Nat) (l : List EnM) (p u : ByteArray) (n : Int) (W : World) (h : EnSl W a l) (hl : l.length ≤ 500) (hc : l.length ≤ c) (hcm : c ≤ maxLen) (hi : l.any (infE p u) = false) : Calls Tryz.prog 114 #[.slice a l.length c, .agg #[.string p, .string u], .int .i64 n] W fun e w' => e = .returned (.tuple #[.slice none 0 0, .int .i64 91]) ∧ Below W.heap.size W w' := by
 refine Calls.mono (P := Tryz.prog) (revoke_any a c l p u n W h hl hc hcm) ?_
 rintro e w' (⟨_, rfl, hb⟩ | ⟨k, _⟩)
 ·exact ⟨rfl, hb⟩
 ·rw [hi] at k; cases k
theorem e_rrevoke (a : Option Addr) (c : Nat) (l : List EnM) (p u : ByteArray) (n : Int) (W : World) (h : EnSl W a l) (hl : l.length ≤ 500) (hi : l.any (infE p u) = true) : Calls Tryz.prog 49 #[.slice a l.length c, .agg #[.string p, .string u], .int .i64 n] W fun e w' => ∃ x q, e = .returned (.tuple #[.slice x (revokeS l p u n).length q, .int .i64 0]) ∧ (revokeS l p u n).length ≤ q ∧ q ≤ maxLen ∧ (x = none → q = 0) ∧ EnSl w' x (revokeS l p u n) ∧ Below W.heap.size W w' := by
 refine Calls.mono (P := Tryz.prog) (refRevoke_any a c l p u n W h hl) ?_
 rintro e w' (⟨k, _, _⟩ | ⟨_, v, rfl, ho, hb⟩)
 ·rw [hi] at k; cases k
 ·obtain ⟨x, q, rfl, h1, h2, h3, h4⟩ := own_en ho
  exact ⟨x, q, rfl, h1, h2, h4, h3, hb⟩
theorem e_rrevoke_no (a : Option Addr) (c : Nat) (l : List EnM) (p u : ByteArray) (n : Int) (W : World) (h : EnSl W a l) (hl : l.length ≤ 500) (hi : l.any (infE p u) = false) : Calls Tryz.prog 49 #[.slice a l.length c, .agg #[.string p, .string u], .int .i64 n] W fun e w' => e = .returned (.tuple #[.slice none 0 0, .int .i64 91]) ∧ Below W.heap.size W w' := by
 refine Calls.mono (P := Tryz.prog) (refRevoke_any a c l p u n W h hl) ?_
 rintro e w' (⟨_, rfl, hb⟩ | ⟨k, _⟩)
 ·exact ⟨rfl, hb⟩
 ·rw [hi] at k; cases k
theorem e_rising (a : Option Addr) (c : Nat) (l : List EnM) (W : World) (h : EnSl W a l) (hs : SzE l) (hl : l.length ≤ 1000) : Calls Tryz.prog 67 #[.slice a l.length c] W fun e w' => e = .returned (.bool (decide (RiseE l))) ∧ Below W.heap.size W w' := erising_any a c l W h hs (by omega)
theorem e_rrising (a : Option Addr) (c : Nat) (l : List EnM) (W : World) (h : EnSl W a l) (hs : SzE l) (hl : l.length ≤ 1000) : Calls Tryz.prog 36 #[.slice a l.length c] W fun e w' => e = .returned (.bool (decide (RiseE l))) ∧ Below W.heap.size W w' := refERising_any a c l W h hs (by omega)
theorem e_same (a b : Option Addr) (c q : Nat) (l m : List EnM) (W : World) (ha : EnSl W a l) (hb : EnSl W b m) (hl : l.length ≤ 1000) (hm : m.length ≤ 1000) : Calls Tryz.prog 85 #[.slice a l.length c, .slice b m.length q] W fun e w' => e = .returned (.bool (decide (l = m))) ∧ Below W.heap.size W w' :=
 esame_any a b c q l m W ha hb (by unfold maxLen; omega) (by unfold maxLen; omega)
theorem e_rsame (a b : Option Addr) (c q : Nat) (l m : List EnM) (W : World) (ha : EnSl W a l) (hb : EnSl W b m) (hl : l.length ≤ 1000) (hm : m.length ≤ 1000) : Calls Tryz.prog 55 #[.slice a l.length c, .slice b m.length q] W fun e w' => e = .returned (.bool (decide (l = m))) ∧ Below W.heap.size W w' :=
 erefSame_any a b c q l m W ha hb (by unfold maxLen; omega) (by unfold maxLen; omega)
end Go.Proofs.YtjhdhfokhkcamaaGreat
namespace Go.Proofs.YtjhdhfokhkcamaaGreat
open Go.RowKit Go.Proofs
set_option linter.unusedVariables false
set_option maxRecDepth 100000
def arr4 (n : Nat → Int) : Array Value := #[.int .i64 (n 0), .int .i64 (n 1), .int .i64 (n 2), .int .i64 (n 3)]
def clampN (n l m : Nat → Int) (i : Nat) : Int := min (max (n i) (l i)) (m i)
def upN (n l m : Nat → Int) (j i : Nat) : Int := if i < j then clampN n l m i else n i
theorem arr4_get (n : Nat → Int) {i : Nat} (h : i < 4) : (arr4 n)[i]? = some (.int .i64 (n i)) := by
 have : i = 0 ∨ i = 1 ∨ i = 2 ∨ i = 3 := by omega
 rcases this with rfl | rfl | rfl | rfl <;> rfl
structure WiK (w : World) (g : Nat) (n l m v : Nat → Int) (W : World) : Prop where
 n : W.heap[g]? = some (.cells (arr4 n) 108 (0, 0))
 l : W.heap[g + 1]? = some (.cells (arr4 l) 108 (0, 0))
 m : W.heap[g + 2]? = some (.cells (arr4 m) 108 (0, 0))
 v : W.heap[g + 3]? = some (.cells (arr4 v) 108 (0, 0))
 ge : w.heap.size ≤ g
 frame : Below w.heap.size w W
theorem arr4_set (n l m : Nat → Int) {j : Nat} (h : j < 4) : (arr4 (upN n l m j)).setIfInBounds j (.int .i64 (clampN n l m j)) = arr4 (upN n l m (j + 1)) := by
 have : j = 0 ∨ j = 1 ∨ j = 2 ∨ j = 3 := by omega
 rcases this with rfl | rfl | rfl | rfl <;> simp [arr4, upN]
theorem WiK.next {w W : World} {g : Nat} {n l m : Nat → Int} {j : Nat} (h : WiK w g n l m (upN n l m j) W) (hj : j < 4) : WiK w g n l m (upN n l m (j + 1)) (W.setCell ⟨g + 3, j, none⟩ (.int .i64 (clampN n l m j))) :=
 ⟨(block_far (by omega)).trans h.n, (block_far (by omega)).trans h.l, (block_far (by omega)).trans h.m, (heap_setCell_at h.v j _).trans (by rw [arr4_set n l m hj]), h.ge, h.frame.setCell (p := ⟨g + 3, j, none⟩) (by have := h.ge; show w.heap.size ≤ g + 3; omega) _⟩
theorem WiK.drew {w W : World} {g : Nat} {n l m v : Nat → Int} (h : WiK w g n l m v W) (k : Nat) : WiK w g n l m v (W.drewN k) := ⟨h.n, h.l, h.m, h.v, h.ge, h.frame.trans (Drew.below ⟨k, rfl⟩ _)⟩
def wiB (n l m : Nat → Int) : Bool := (clampN n l m 0 == n 0) && ((clampN n l m 1 == n 1) && ((clampN n l m 2 == n 2) && (clampN n l m 3 == n 3)))
theorem eqNs (a b c d e f g h : Int) (w : World) : (Op.equalIn 10000 108 (.agg #[.int .i64 a, .int .i64 b, .int .i64 c, .int .i64 d]) (.agg #[.int .i64 e, .int .i64 f, .int .i64 g, .int .i64 h])).run Tryz.prog w = .ok ((a == e) && ((b == f) && ((c == g) && (d == h)))) w := by
 have u3 := Tryz.underlying3
 have a3 := Tryz.isAgg3
 have z3 := Tryz.sizeOf3
 rw [show (10000 : Nat) = 9999 + 1 from rfl, Op.equalIn]
 simp only [Sem.run_bind, run_underlying Tryz.underlying108, Result.andThen_ok]
 simp only [Std.Legacy.Range.forIn_eq_forIn_range', Std.Legacy.Range.size, Nat.sub_zero, Nat.add_sub_cancel, Nat.div_one, List.range'_succ, List.range'_zero, List.forIn_cons, List.forIn_nil]
 go_simp
 by_cases h1 : a = e <;> by_cases h2 : b = f <;> by_cases h3 : c = g <;> by_cases h4 : d = h <;> simp [h1, h2, h3, h4]
set_option maxHeartbeats 4000000 in
theorem within4_any (n l m : Nat → Int) (w : World) :
  Calls Tryz.prog 58 #[.agg (arr4 n), .agg (arr4 l), .agg (arr4 m)] w fun e w' => e = .returned (.bool (wiB n l m)) ∧ Below w.heap.size w w' := by
 have K0 : Hid (WiK w w.heap.size n l m (upN n l m 0) ((((w.alloc (.cells (arr4 n) 108)).alloc (.cells (arr4 l) 108)).alloc (.cells (arr4 m) 108)).alloc (.cells (arr4 n) 108))) := by
  have h1 := heap_alloc_new w (.cells (arr4 n) 108)
  have b1 := below_one w (.cells (arr4 n) 108)
  have z1 := size1 w (.cells (arr4 n) 108)
  generalize w.alloc (.cells (arr4 n) 108) = w1 at *
  have h2 := heap_alloc_new w1 (.cells (arr4 l) 108)
  have b2 := below_one w1 (.cells (arr4 l) 108)
  have z2 := size1 w1 (.cells (arr4 l) 108)
  generalize w1.alloc (.cells (arr4 l) 108) = w2 at *
  have h3 := heap_alloc_new w2 (.cells (arr4 m) 108)
  have b3 := below_one w2 (.cells (arr4 m) 108)
  have z3 := size1 w2 (.cells (arr4 m) 108)
  generalize w2.alloc (.cells (arr4 m) 108) = w3 at *
  have h4 := heap_alloc_new w3 (.cells (arr4 n) 108)
  have b4 := below_one w3 (.cells (arr4 n) 108)
  generalize w3.alloc (.cells (arr4 n) 108) = w4 at *
  have e1 : w1.heap.size = w.heap.size + 1 := z1
  have e2 : w2.heap.size = w.heap.size + 2 := by omega
  have e3 : w3.heap.size = w.heap.size + 3 := by omega
  rw [e1] at h2
  rw [e2] at h3
  rw [e3] at h4
  refine ⟨?_, ?_, ?_, ?_, Nat.le_refl _, ?_⟩
  ·rw [b4.block _ (by omega), b3.block _ (by omega), b2.block _ (by omega)]; exact h1
  ·rw [b4.block _ (by omega), b3.block _ (by omega)]; exact h2
  ·rw [b4.block _ (by omega)]; exact h3
  ·exact h4
  ·exact ((b1.trans (b2.mono (by omega))).trans (b3.mono (by omega))).trans (b4.mono (by omega))
 have HLD : Hid (∀ W, WiK w w.heap.size n l m (upN n l m 4) W → ∀ i, i < 4 → W.cell? ⟨w.heap.size + 1 + 1 + 1, i, none⟩ = some (.int .i64 (clampN n l m i)) ∧ W.cell? ⟨w.heap.size, i, none⟩ = some (.int .i64 (n i))) := fun W h i hi => by
  refine ⟨?_, ?_⟩
  ·rw [cell_of_row _ _ _ _ _ (0, 0) h.v, arr4_get _ hi]
   unfold upN
   rw [if_pos hi]
  ·rw [cell_of_row _ _ _ _ _ (0, 0) h.n, arr4_get _ hi]
 have HWI : Hid (wiB n l m = ((clampN n l m 0 == n 0) && ((clampN n l m 1 == n 1) && ((clampN n l m 2 == n 2) && (clampN n l m 3 == n 3))))) := rfl
 unfold arr4 at *
 go_enter Tryz.func58, Tryz.ntmps58
 go_wp2
 go_loopw [10] (fun i wr => ∃ (j : Nat), j ≤ 4 ∧ i = .int .i64 j ∧ Hid (WiK w w.heap.size n l m (upN n l m j) wr)) (fun i _ => 4 - (intOf i).toNat)
 case atStart => exact ⟨0, by omega, rfl, K0.out⟩
 case round =>
  clear K0
  obtain ⟨j, hj, rfl, HK⟩ := hrel
  by_cases hjl : j < 4
  ·have c0 : wr.cell? ⟨w.heap.size + 1 + 1 + 1, j, none⟩ = some (.int .i64 (n j)) := by
    rw [cell_of_row _ _ _ _ _ (0, 0) HK.out.v, arr4_get _ hjl]
    unfold upN
    rw [if_neg (by omega)]
   have c1 : wr.cell? ⟨w.heap.size + 1, j, none⟩ = some (.int .i64 (l j)) := by rw [cell_of_row _ _ _ _ _ (0, 0) HK.out.l, arr4_get _ hjl]
   have c2 : wr.cell? ⟨w.heap.size + 1 + 1, j, none⟩ = some (.int .i64 (m j)) := by rw [cell_of_row _ _ _ _ _ (0, 0) HK.out.m, arr4_get _ hjl]
   have f0 : wr.frozen? ⟨w.heap.size + 1 + 1 + 1, j, none⟩ = false := frozen_of_row _ _ j _ _ HK.out.v
   have hlt : w.heap.size + 1 + 1 + 1 < wr.heap.size := heap_lt HK.out.v
   have HN : Hid (WiK w w.heap.size n l m (upN n l m (j + 1)) (wr.setCell ⟨w.heap.size + 3, j, none⟩ (.int .i64 (clampN n l m j))).drew) := (HK.out.next hjl).drew 1
   have hjI : (j : Int) < 4 := by omega
   have hj0 : (0 : Int) ≤ (j : Int) := by omega
   clear HK HLD
   unfold clampN at HN
   generalize n j = nj at *
   generalize l j = lj at *
   generalize m j = mj at *
   go_wp2_with fail
   go_region
   go_wp2
   go_roundw
   case rel => exact ⟨j + 1, by omega, by go_num, HN⟩
   case measure => simp [intOf]; omega
  ·have hj4 : j = 4 := by omega
   have hlt : ¬ (j : Int) < 4 := by omega
   rw [hj4] at HK
   obtain ⟨a0, b0⟩ := HLD.out _ HK.out 0 (by decide)
   obtain ⟨a1, b1⟩ := HLD.out _ HK.out 1 (by decide)
   obtain ⟨a2, b2⟩ := HLD.out _ HK.out 2 (by decide)
   obtain ⟨a3, b3⟩ := HLD.out _ HK.out 3 (by decide)
   generalize clampN n l m 0 = z0 at *
   generalize clampN n l m 1 = z1 at *
   generalize clampN n l m 2 = z2 at *
   generalize clampN n l m 3 = z3 at *
   generalize n 0 = n0 at *
   generalize n 1 = n1 at *
   generalize n 2 = n2 at *
   generalize n 3 = n3 at *
   clear hj4
   have HF := Lib.hid HK.out.frame
   have heq := eqNs z0 z1 z2 z3 n0 n1 n2 n3
   clear HK HLD
   go_wp2
   go_ret
   exact ⟨retB HWI.out.symm, HF.out⟩
end Go.Proofs.YtjhdhfokhkcamaaGreat
namespace Go.Proofs.YtjhdhfokhkcamaaGreat
open Go.ChangeShapes Go.WideShapes Go.ChangeAt Go.RowKit
set_option linter.unusedVariables false
set_option maxRecDepth 100000
theorem sliceLen_le {H : Type} (d : DataW H) : Go.Joins.sliceLen d ≤ Rows.uptoBulk d := by
 have h1 : ∀ l : List (DataW H), l.length ≤ Rows.uptoBulkAll l := by
  intro l
  induction l with
  | nil => simp
  | cons x l ih =>
   have h2 : 1 ≤ Rows.uptoBulk x := by
    cases x with
    | lit l => cases l <;> simp [Rows.uptoBulk]
    | nil => simp [Rows.uptoBulk]
    | ptr d => simp [Rows.uptoBulk]
    | slice elems spare => simp [Rows.uptoBulk]
    | agg parts => simp [Rows.uptoBulk]
    | iface t d => simp [Rows.uptoBulk]
    | map entries => simp [Rows.uptoBulk]
    | held h => simp [Rows.uptoBulk]
   simp only [Rows.uptoBulkAll, List.length_cons]
   omega
 cases d with
 | slice elems spare =>
  have h2 := h1 elems
  have h3 := h1 spare
  simp only [Go.Joins.sliceLen, Rows.uptoBulk]
  omega
 | lit l => simp [Go.Joins.sliceLen]
 | nil => simp [Go.Joins.sliceLen]
 | ptr d => simp [Go.Joins.sliceLen]
 | agg parts => simp [Go.Joins.sliceLen]
 | iface t d => simp [Go.Joins.sliceLen]
 | map entries => simp [Go.Joins.sliceLen]
 | held h => simp [Go.Joins.sliceLen]
theorem tbFields : ∃ f0 f1 : Field, Tryz.prog.underlying 69 = some (.struct #[f0, f1]) ∧ f0.offset = 0 ∧ f1.offset = 1 ∧ f0.type = 9 ∧ f1.type = 3 := ⟨_, _, Tryz.underlying69, rfl, rfl, rfl, rfl⟩
theorem usFields : ∃ f0 f1 : Field, Tryz.prog.underlying 77 = some (.struct #[f0, f1]) ∧ f0.offset = 0 ∧ f1.offset = 1 ∧ f0.type = 9 ∧ f1.type = 58 := ⟨_, _, Tryz.underlying77, rfl, rfl, rfl, rfl⟩
theorem saFields : ∃ f0 f1 f2 f3 f4 f5 : Field, Tryz.prog.underlying 27 = some (.struct #[f0, f1, f2, f3, f4, f5]) ∧ f0.offset = 0 ∧ f1.offset = 1 ∧ f2.offset = 2 ∧ f3.offset = 3 ∧ f4.offset = 4 ∧ f5.offset = 5 ∧ f0.type = 3 ∧ f1.type = 3 ∧ f2.type = 22 ∧ f3.type = 23 ∧ f4.type = 24 ∧ f5.type = 25 := ⟨_, _, _, _, _, _, Tryz.underlying27, rfl, rfl, rfl, rfl, rfl, rfl, rfl, rfl, rfl, rfl, rfl, rfl⟩
theorem read_tombs {H : Type} {enc : TypeId × Value → H} {W : World} {n : Nat} {cs : List Value} {x : DataW H × List MemPlace}
  (h : DataW.trod enc Tryz.prog W 0 (fun _ => true) true n 25 cs = some x) :
  ∃ (a : Option Addr) (c : Nat) (l : List TbM), cs = [.slice a l.length c] ∧ TbSl W a l ∧ (∀ e ∈ l, e.u.size ≤ maxLen) ∧ Cp a l.length c := by
 obtain ⟨f0, f1, he, o0, o1, t0, t1⟩ := tbFields
 have ci : Tryz.prog.cellsOf 3 = 1 := by kernel_rfl
 have cs' : Tryz.prog.cellsOf 9 = 1 := by kernel_rfl
 rcases Go.Deep.open_slice_pairs Tryz.underlying25 he (by kernel_rfl) o0 o1 (by rw [t0]; exact cs') (by rw [t1]; exact ci) h with ⟨rfl, _⟩ | ⟨a, len, cap, m, n', V0, V1, D0, D1, P0, P1, rfl, _, hl, hm, hmm, _, hx⟩
 ·exact ⟨none, 0, [], rfl, TbSl.nil _ _, (fun s hs => by cases hs), Cp.none⟩
 ·have hlm : len ≤ m := by rw [hmm]; split <;> omega
  have each : ∀ i, i < len → ∃ x : TbM, W.cell? (a.add (i * 2)) = some (.string x.u) ∧ W.cell? (a.add (i * 2 + 1)) = some (.int .i64 x.a) ∧ x.u.size ≤ maxLen := fun i hi => by
   obtain ⟨k0, k1, g0, g1⟩ := hx i (by omega)
   rw [t0] at g0
   rw [t1] at g1
   obtain ⟨z0, e0, _, w0⟩ := DataW.trod_string Tryz.underlying9 g0
   obtain ⟨z1, e1, _, w1⟩ := DataW.trod_int Tryz.underlying3 g1
   simp at e0 e1
   exact ⟨⟨z0, z1⟩, by rw [k0, e0], by rw [k1, e1], w0⟩
  have some_x : ∃ f : Nat → TbM, ∀ i, i < len → W.cell? (a.add (i * 2)) = some (.string (f i).u) ∧ W.cell? (a.add (i * 2 + 1)) = some (.int .i64 (f i).a) ∧ (f i).u.size ≤ maxLen := by
   refine ⟨fun i => if h : i < len then (each i h).choose else default, fun i hi => ?_⟩
   simp only [hi, ↓reduceDIte]
   exact (each i hi).choose_spec
  obtain ⟨f, hf2⟩ := some_x
  have hlen : ((List.range len).map f).length = len := by simp
  refine ⟨some a, cap, (List.range len).map f, by rw [hlen], fun k hk => ?_, fun x hxm => ?_, ⟨by rw [hlen]; omega, hm, fun h => by cases h⟩⟩
  ·rw [List.length_map, hlen] at hk
   obtain ⟨b, off, spot⟩ := a
   have h0 := (hf2 0 (by omega)).1
   have hspot : spot = none := by simpa [Addr.add] using World.cell?_spot h0
   subst hspot
   obtain ⟨g0, g1, _⟩ := hf2 k (by omega)
   rw [Go.WideShapes.add_plain] at g0 g1
   simp only [List.getElem_map, List.getElem_range]
   exact ⟨b, off, rfl, World.block_lt_of_cell? W ⟨b, off + k * 2, none⟩ g0, g0, g1⟩
  ·obtain ⟨i, hi, rfl⟩ := List.mem_map.1 hxm
   exact (hf2 i (by have := List.mem_range.1 hi; omega)).2.2
theorem bulk_pairs {H : Type} (F : Nat → List StM) (D0 D1 : Nat → DataW H) (len : Nat) (h : ∀ i, i < len → (F i).length ≤ Rows.uptoBulk (D1 i)) :
  ((List.range len).map fun i => (F i).length).sum + len ≤ Rows.uptoBulkAll ((List.range len).map fun i => DataW.agg [D0 i, D1 i]) := by
 induction len with
 | zero => simp
 | succ n ih =>
  have happ : ∀ l r : List (DataW H), Rows.uptoBulkAll (l ++ r) = Rows.uptoBulkAll l + Rows.uptoBulkAll r := by
   intro l r
   induction l with
   | nil => simp [Rows.uptoBulkAll]
   | cons x l ih => simp only [List.cons_append, Rows.uptoBulkAll, ih]; omega
  have h1 := ih (fun i hi => h i (by omega))
  have h2 := h n (by omega)
  rw [List.range_succ, List.map_append, List.map_append, List.sum_append, happ]
  simp only [List.map_cons, List.map_nil, List.sum_cons, List.sum_nil, Rows.uptoBulkAll, Rows.uptoBulk]
  omega
theorem read_users {H : Type} {enc : TypeId × Value → H} {W : World} {n : Nat} {cs : List Value} {x : DataW H × List MemPlace}
  (h : DataW.trod enc Tryz.prog W 0 (fun _ => true) true n 23 cs = some x) :
  ∃ (a : Option Addr) (c : Nat) (D : List UsL), cs = [.slice a D.length c] ∧ UsSl W a D ∧ (∀ e ∈ umS D, e.u.size ≤ maxLen) ∧ Cp a D.length c ∧ cntU (umS D) + D.length ≤ Rows.uptoBulk x.1 := by
 obtain ⟨f0, f1, he, o0, o1, t0, t1⟩ := usFields
 have ci : Tryz.prog.cellsOf 58 = 1 := by kernel_rfl
 have cs' : Tryz.prog.cellsOf 9 = 1 := by kernel_rfl
 rcases Go.Deep.open_slice_pairs Tryz.underlying23 he (by kernel_rfl) o0 o1 (by rw [t0]; exact cs') (by rw [t1]; exact ci) h with ⟨rfl, hx⟩ | ⟨a, len, cap, m, n', V0, V1, D0, D1, P0, P1, rfl, _, hl, hm, hmm, hd, hx⟩
 ·exact ⟨none, 0, [], rfl, UsSl.nil _ _, (fun s hs => by cases hs), Cp.none, by simp [umS, cntU]⟩
 ·have hlm : len ≤ m := by rw [hmm]; split <;> omega
  have each : ∀ i, i < len → ∃ x : UsL, W.cell? (a.add (i * 2)) = some (.string x.u) ∧ W.cell? (a.add (i * 2 + 1)) = some (.slice x.a x.l.length x.c) ∧ UsAt W x ∧ x.u.size ≤ maxLen ∧ x.l.length ≤ Rows.uptoBulk (D1 i) := fun i hi => by
   obtain ⟨k0, k1, g0, g1⟩ := hx i (by omega)
   rw [t0] at g0
   rw [t1] at g1
   obtain ⟨z0, e0, _, w0⟩ := DataW.trod_string Tryz.underlying9 g0
   obtain ⟨b, q, l, e1, r1, r2, r3, r4, r5⟩ := read_stays g1
   have e2 := List.singleton_inj.1 e1
   have hb : Go.Joins.sliceLen (D1 i) = l.length := by
    rw [e2] at g1
    exact Go.Joins.sliceLen_trod Tryz.underlying58 g1
   have hb2 := sliceLen_le (D1 i)
   simp at e0
   exact ⟨⟨z0, b, l, q⟩, by rw [k0, e0], by rw [k1, e2], ⟨r1, r3, r4, r5⟩, w0, by rw [← hb]; exact hb2⟩
  have some_x : ∃ f : Nat → UsL, ∀ i, i < len → W.cell? (a.add (i * 2)) = some (.string (f i).u) ∧ W.cell? (a.add (i * 2 + 1)) = some (.slice (f i).a (f i).l.length (f i).c) ∧ UsAt W (f i) ∧ (f i).u.size ≤ maxLen ∧ (f i).l.length ≤ Rows.uptoBulk (D1 i) := by
   refine ⟨fun i => if h : i < len then (each i h).choose else default, fun i hi => ?_⟩
   simp only [hi, ↓reduceDIte]
   exact (each i hi).choose_spec
  obtain ⟨f, hf2⟩ := some_x
  have hlen : ((List.range len).map f).length = len := by simp
  refine ⟨some a, cap, (List.range len).map f, by rw [hlen], ⟨fun k hk => ?_, fun x hxm => ?_⟩, fun x hxm => ?_, ⟨by rw [hlen]; omega, hm, fun h => by cases h⟩, ?_⟩
  ·rw [List.length_map, hlen] at hk
   obtain ⟨b, off, spot⟩ := a
   have h0 := (hf2 0 (by omega)).1
   have hspot : spot = none := by simpa [Addr.add] using World.cell?_spot h0
   subst hspot
   obtain ⟨g0, g1, _⟩ := hf2 k (by omega)
   rw [Go.WideShapes.add_plain] at g0 g1
   simp only [List.getElem_map, List.getElem_range]
   exact ⟨b, off, rfl, World.block_lt_of_cell? W ⟨b, off + k * 2, none⟩ g0, g0, g1⟩
  ·obtain ⟨i, hi, rfl⟩ := List.mem_map.1 hxm
   exact (hf2 i (List.mem_range.1 hi)).2.2.1
  ·obtain ⟨y, hy, rfl⟩ := List.mem_map.1 hxm
   obtain ⟨i, hi, rfl⟩ := List.mem_map.1 hy
   exact (hf2 i (List.mem_range.1 hi)).2.2.2.1
  ·have hbk := bulk_pairs (fun i => (f i).l) D0 D1 len (fun i hi => (hf2 i hi).2.2.2.2)
   have e1 : cntU (umS ((List.range len).map f)) = ((List.range len).map fun i => (f i).l.length).sum := by
    unfold cntU umS
    rw [List.map_map, List.map_map]
    rfl
   rw [e1, hlen, hd]
   simp only [Rows.uptoBulk]
   omega
theorem open_state {H : Type} {enc : TypeId × Value → H} {W : World} {base : Nat} {v : Value} {d : DataW H} {p : List MemPlace}
  (hok : Value.okWide Tryz.prog W .any base 27 v) (h : DataW.Trod enc Tryz.prog W 0 (fun _ => true) true 27 v d p) :
  ∃ x : SaL, v = saV x ∧ SaAt W x ∧ SzS x.m ∧ stCnt x.m + x.us.length ≤ Rows.uptoBulk d := by
 obtain ⟨f0, f1, f2, f3, f4, f5, he, o0, o1, o2, o3, o4, o5, t0, t1, t2, t3, t4, t5⟩ := saFields
 have ci : Tryz.prog.cellsOf 3 = 1 := by kernel_rfl
 have k2 : Tryz.prog.cellsOf 22 = 1 := by kernel_rfl
 have k3 : Tryz.prog.cellsOf 23 = 1 := by kernel_rfl
 have k4 : Tryz.prog.cellsOf 24 = 1 := by kernel_rfl
 have k5 : Tryz.prog.cellsOf 25 = 1 := by kernel_rfl
 obtain ⟨cs, rfl, hsz⟩ := okWide_struct he hok
 obtain ⟨c0, c1, c2, c3, c4, c5, rfl⟩ := array6 (hsz.trans (by kernel_rfl))
 obtain ⟨fuel, hf⟩ := h
 obtain ⟨y0, y1, y2, y3, y4, y5, n, hx, g0, g1, g2, g3, g4, g5⟩ := trod_six (x := (d, p)) he o0 o1 o2 o3 o4 o5 (by rw [t0]; exact ci) (by rw [t1]; exact ci) (by rw [t2]; exact k2) (by rw [t3]; exact k3) (by rw [t4]; exact k4) (by rw [t5]; exact k5) (by simpa [Value.cells] using hf)
 rw [t0] at g0
 rw [t1] at g1
 rw [t2] at g2
 rw [t3] at g3
 rw [t4] at g4
 rw [t5] at g5
 obtain ⟨z0, e0, _, w0⟩ := DataW.trod_int Tryz.underlying3 g0
 obtain ⟨z1, e1, _, w1⟩ := DataW.trod_int Tryz.underlying3 g1
 obtain ⟨a2, q2, l2, e2, r2, s2, m2, n2, p2⟩ := read_sess g2
 obtain ⟨a3, q3, l3, e3, r3, s3, m3, b3⟩ := read_users g3
 obtain ⟨a4, q4, l4, e4, r4, s4, m4, n4, p4⟩ := read_entries g4
 obtain ⟨a5, q5, l5, e5, r5, s5, m5⟩ := read_tombs g5
 simp at e0 e1
 obtain rfl := List.singleton_inj.1 e2
 obtain rfl := List.singleton_inj.1 e3
 obtain rfl := List.singleton_inj.1 e4
 obtain rfl := List.singleton_inj.1 e5
 subst e0 e1
 have b2 : l2.length ≤ Rows.uptoBulk y2.1 := by rw [← Go.Joins.sliceLen_trod (d := y2.1) (ps := y2.2) Tryz.underlying22 g2]; exact sliceLen_le _
 have b4 : l4.length ≤ Rows.uptoBulk y4.1 := by rw [← Go.Joins.sliceLen_trod (d := y4.1) (ps := y4.2) Tryz.underlying24 g4]; exact sliceLen_le _
 have b5 : l5.length ≤ Rows.uptoBulk y5.1 := by rw [← Go.Joins.sliceLen_trod (d := y5.1) (ps := y5.2) Tryz.underlying25 g5]; exact sliceLen_le _
 refine ⟨⟨z0, z1, a2, l2, q2, a3, l3, q3, a4, l4, q4, a5, l5, q5⟩, rfl, ⟨r2, r3, r4, r5, ⟨m2, n2, p2⟩, m3, ⟨m4, n4, p4⟩, m5⟩, ⟨s2, s3, fun e he => ⟨(s4 e he).1, (s4 e he).2.1⟩, s5⟩, ?_⟩
 have hx' : d = .agg [y0.1, y1.1, y2.1, y3.1, y4.1, y5.1] := hx
 rw [hx']
 simp only [Rows.uptoBulk, Rows.uptoBulkAll, stCnt, SaL.m]
 omega
end Go.Proofs.YtjhdhfokhkcamaaGreat
