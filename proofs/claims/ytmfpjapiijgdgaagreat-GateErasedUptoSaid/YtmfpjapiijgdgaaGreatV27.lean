/- Texts of mine, one behind the other, of each what is wanted. -/
import Derived.Test.YtmfpjapiijgdgaaGreatV00
import Derived.Test.YtmfpjapiijgdgaaGreatShelf
import Derived.Test.YtmfpjapiijgdgaaGreatRows
import Derived.Test.YtmfpjapiijgdgaaGreatV01
import Derived.Test.YtmfpjapiijgdgaaGreatV03
import Derived.Test.YtmfpjapiijgdgaaGreatV04
import Derived.Test.YtmfpjapiijgdgaaGreatV05
import Derived.Test.YtmfpjapiijgdgaaGreatV06
import Derived.Test.YtmfpjapiijgdgaaGreatV07
import Derived.Test.YtmfpjapiijgdgaaGreatV10
import Derived.Test.YtmfpjapiijgdgaaGreatV16
import Derived.Test.YtmfpjapiijgdgaaGreatV21
import Derived.Test.YtmfpjapiijgdgaaGreatV22
import Derived.Test.YtmfpjapiijgdgaaGreatV23
import Derived.Test.YtmfpjapiijgdgaaGreatV24
import Derived.Test.YtmfpjapiijgdgaaGreatV26
namespace Go.Proofs.YtmfpjapiijgdgaaGreat
open Go.RowKit Go.Proofs
set_option linter.unusedVariables false
set_option maxRecDepth 100000
set_option maxRecDepth 100000
theorem econcatR (x y z : Option Addr) (A B C : List EnM) (c1 c2 c3 n1 n2 n3 : Nat) (W : World) (g : Nat) (T : TypeId) (h1 : n1 = A.length) (h2 : n2 = B.length) (h3 : n3 = C.length) (hA : EnSl W x A) (hB : EnSl W y B) (hC : EnSl W z C) (k1 : x = none → c1 = 0) (k2 : y = none → c2 = 0) (k3 : z = none → c3 = 0) (hg : g = W.heap.size) (hl : A.length + (B.length + C.length) ≤ 1000) :
  Calls Tryz.prog 233 #[.slice (some ⟨g, 0, none⟩) 3 3] (W.alloc (.cells #[.slice x n1 c1, .slice y n2 c2, .slice z n3 c3] T)).drew fun e w' => ∃ v, e = .returned v ∧ w'.ownsRow W.heap.size 165 4 v (A ++ (B ++ C)).length (ens (A ++ (B ++ C))) ∧ Below W.heap.size W w' := by
 subst hg h1 h2 h3
 have hcat : catE [⟨x, A, c1⟩, ⟨y, B, c2⟩, ⟨z, C, c3⟩] = A ++ (B ++ C) := by simp [catE]
 have hb := (ebelow_one W (.cells #[.slice x A.length c1, .slice y B.length c2, .slice z C.length c3] T)).drew
 have hlen : (catE [⟨x, A, c1⟩, ⟨y, B, c2⟩, ⟨z, C, c3⟩]).length ≤ 100000 := by rw [hcat, List.length_append, List.length_append]; omega
 refine (econcat_any (some ⟨W.heap.size, 0, none⟩) 3 [⟨x, A, c1⟩, ⟨y, B, c2⟩, ⟨z, C, c3⟩] _ (sl_drew3 W #[.slice x A.length c1, .slice y B.length c2, .slice z C.length c3] T) ?_ (by show 3 ≤ _; decide) hlen).mono ?_
 ·intro r hr
  simp only [List.mem_cons, List.mem_nil_iff, or_false] at hr
  rcases hr with rfl | rfl | rfl
  ·exact ⟨hA.below hb, k1⟩
  ·exact ⟨hB.below hb, k2⟩
  ·exact ⟨hC.below hb, k3⟩
 ·rintro e w' ⟨v, rfl, ho, hbb⟩
  rw [hcat] at ho
  exact ⟨v, rfl, own_low ho hb.size, hb.trans (hbb.mono hb.size)⟩
set_option maxHeartbeats 8000000 in
theorem revoke_any (a : Option Addr) (c : Nat) (l : List EnM) (p u : ByteArray) (n : Int) (w : World) (hr : EnSl w a l) (hl : l.length ≤ 500) (hc : l.length ≤ c) (hcm : c ≤ maxLen) :
  Calls Tryz.prog 197 #[.slice a l.length c, pr p u, .int .i64 n] w fun e w' => (l.any (infE p u) = false ∧ e = .returned (.tuple #[.slice none 0 0, .int .i64 91]) ∧ Below w.heap.size w w') ∨
   (l.any (infE p u) = true ∧ ∃ v, e = .returned (.tuple #[v, .int .i64 0]) ∧ w'.ownsRow w.heap.size 165 4 v (revokeS l p u n).length (ens (revokeS l p u n)) ∧ Below w.heap.size w w') := by
 obtain ⟨i0, hi, hz0, hz1', hz2'⟩ := info_parts infoEn
 have HPC := Lib.hid (PK.new hr p u 79)
 have HIF := Lib.hid (fun W (h : EnSl W a l) => inforce_any a c l p u W h (by omega))
 have HF := first_idx (infE p u) l
 have HREV := fun k (h : IsFirst (infE p u) l k) => revoke_at h n
 unfold maxLen at hcm
 unfold pr at *
 generalize hG : revokeS l p u n = G at *
 clear hr hG
 have hany := HF.any
 generalize l.findIdx (infE p u) = k at *
 by_cases hk : k < l.length
 ·rw [decide_eq_true hk] at hany
  rw [hany]
  have hix := idx_hit HF hk
  have hG2 := HREV k HF
  rw [cut_at hk] at hG2
  rw [hix] at HIF
  clear HREV HF hix hany
  have hd0 : decide ((k : Int) < 0) = false := decide_eq_false (by omega)
  go_enter Tryz.func197, Tryz.ntmps197
  go_wp2_with fail
  refine (HIF.out _ HPC.out.row).mono ?_
  rintro e w1 ⟨rfl, hB⟩
  have K1 := Lib.hid (HPC.out.below hB)
  obtain ⟨b, off, rfl, hbl, hc0, hc1, hc2, hc3⟩ := K1.out.row.at_ hk
  generalize l[k] = x at *
  have HGH := Lib.hid hG2
  have HK2 : Hid (RsE w w1.heap.size ⟨x.w, x.u, x.f, n⟩ (some ⟨b, off, none⟩) l (w1.alloc (.cells #[.string x.w, .string x.u, .int .i64 x.f, .int .i64 n] 165))) := RsE.new (x := ⟨x.w, x.u, x.f, n⟩) K1.out.row K1.out.frame 165
  have HSB : Hid (∀ W, RsE w w1.heap.size ⟨x.w, x.u, x.f, n⟩ (some ⟨b, off, none⟩) l W → W.cell? ⟨w1.heap.size, 0, none⟩ = some (.string x.w) ∧ W.cell? ⟨w1.heap.size, 1, none⟩ = some (.string x.u) ∧ W.cell? ⟨w1.heap.size, 2, none⟩ = some (.int .i64 x.f) ∧ W.cell? ⟨w1.heap.size, 3, none⟩ = some (.int .i64 n)) := fun W h => h.box
  have HNO := Lib.hid (fun W => enone_any x.f n W)
  obtain ⟨k1, hk1⟩ : ∃ k1, k1 = k + 1 := ⟨_, rfl⟩
  have HK1 := Lib.hid hk1
  have hpw : IntKind.i64.wrap ((k : Int) + 1) = (k1 : Int) := by rw [IntWalk.i64_in] <;> omega
  have hk1l : k1 ≤ l.length := by omega
  have hkk : k < k1 := by omega
  have hz1 : (0 : Int) ≤ (k : Int) := by omega
  have hz2 : (k : Int) ≤ (l.length : Int) := by omega
  have hz3 : (k : Int) ≤ (c : Int) := by omega
  have hz4 : (l.length : Int) ≤ (c : Int) := by omega
  have hz5 : (0 : Int) ≤ (k1 : Int) := by omega
  have hz6 : (k1 : Int) ≤ (l.length : Int) := by omega
  have hz7 : (k1 : Int) ≤ (c : Int) := by omega
  have hz8 : k1 ≤ c := by omega
  have hz9 : k ≤ c := by omega
  clear hB HPC HIF hk1 hG2
  by_cases hn : n ≤ x.f
  ·rw [decide_eq_true hn] at HNO
   have HGG : Hid (l.take k ++ ([] ++ l.drop (k + 1)) = G) := by have := HGH.out; unfold endS at this; rw [if_pos hn] at this; exact this.symm
   clear HGH hn
   go_wp2_with fail
   refine (HNO.out _).mono ?_
   rintro e w3 ⟨rfl, hB⟩
   have K3 := HK2.out.below hB
   clear HK2 HNO hB K1
   by_cases hck : c = k1
   ·have hl1 : l.length = k1 := by omega
    subst hck
    rw [hl1] at *
    have HAC : Hid (∀ W g1 T0, EnSl W (some ⟨b, off, none⟩) l → g1 = W.heap.size → Calls Tryz.prog 233 #[.slice (some ⟨g1, 0, none⟩) 3 3] (W.alloc (.cells #[.slice (some ⟨b, off, none⟩) k c, .slice none 0 0, .slice (some ⟨b, off, none⟩) 0 0] T0)).drew fun e w' => ∃ v, e = .returned v ∧ w'.ownsRow W.heap.size 165 4 v G.length (ens G) ∧ Below W.heap.size W w') := fun W g1 T0 hs e1 => by
     have h := econcatR (some ⟨b, off, none⟩) none (some ⟨b, off, none⟩) (l.take k) [] (l.drop (k + 1)) c 0 0 k 0 0 W g1 T0 (by rw [List.length_take]; omega) rfl (by have := HK1.out; rw [List.length_drop]; omega) (hs.take k) (EnSl.nil _ _) (by have := HK1.out; rw [List.drop_of_length_le (by omega)]; exact EnSl.nil _ _) (fun h => by cases h) (fun _ => rfl) (fun h => by cases h) e1 (by have := HK1.out; rw [List.length_take, List.length_drop]; simp; omega)
     rw [HGG.out] at h
     exact h
    clear HGG HSB
    go_wp2_with fail
    go_region_held3 (fun W => True)
     (first | exact trivial)
     (first | (go_at_call 233; refine (HAC.out _ _ _ K3.row rfl).mono ?_; rintro e w9 ⟨v, rfl, ho9, hb9⟩; have HO9 := Lib.hid ho9; have HB9 := Lib.hid hb9; clear ho9 hb9))
    go_wp2
    go_ret2
    exact Or.inr ⟨by trivial, v, rfl, own_low HO9.out K3.frame.size, K3.frame.trans (HB9.out.mono K3.frame.size)⟩
   ·have hck2 : k1 < c := by omega
    have HAC : Hid (∀ W g1 T0, EnSl W (some ⟨b, off, none⟩) l → g1 = W.heap.size → Calls Tryz.prog 233 #[.slice (some ⟨g1, 0, none⟩) 3 3] (W.alloc (.cells #[.slice (some ⟨b, off, none⟩) k c, .slice none 0 0, .slice (some ⟨b, off + k1 * 4, none⟩) (l.length - k1) (c - k1)] T0)).drew fun e w' => ∃ v, e = .returned v ∧ w'.ownsRow W.heap.size 165 4 v G.length (ens G) ∧ Below W.heap.size W w') := fun W g1 T0 hs e1 => by
     have h := econcatR (some ⟨b, off, none⟩) none (some ⟨b, off + k1 * 4, none⟩) (l.take k) [] (l.drop (k + 1)) c 0 (c - k1) k 0 (l.length - k1) W g1 T0 (by rw [List.length_take]; omega) rfl (by have := HK1.out; rw [List.length_drop]; omega) (hs.take k) (EnSl.nil _ _) (by rw [HK1.out]; exact hs.drop (k + 1)) (fun h => by cases h) (fun _ => rfl) (fun h => by cases h) e1 (by have := HK1.out; rw [List.length_take, List.length_drop]; simp; omega)
     rw [HGG.out] at h
     exact h
    clear HGG HSB
    go_wp2_with fail
    go_region_held3 (fun W => True)
     (first | exact trivial)
     (first | (go_at_call 233; refine (HAC.out _ _ _ K3.row rfl).mono ?_; rintro e w9 ⟨v, rfl, ho9, hb9⟩; have HO9 := Lib.hid ho9; have HB9 := Lib.hid hb9; clear ho9 hb9))
    go_wp2
    go_ret2
    exact Or.inr ⟨by trivial, v, rfl, own_low HO9.out K3.frame.size, K3.frame.trans (HB9.out.mono K3.frame.size)⟩
  ·rw [decide_eq_false hn] at HNO
   have HGG : Hid (l.take k ++ ([⟨x.w, x.u, x.f, n⟩] ++ l.drop (k + 1)) = G) := by have := HGH.out; unfold endS at this; rw [if_neg hn] at this; exact this.symm
   clear HGH hn
   go_wp2_with fail
   refine (HNO.out _).mono ?_
   rintro e w3 ⟨rfl, hB⟩
   have K3 := HK2.out.below hB
   obtain ⟨d0, d1, d2, d3⟩ := HSB.out _ K3
   have HE3 : Hid ((w3.alloc (.cells #[.string x.w, .string x.u, .int .i64 x.f, .int .i64 n] 165)).ownsRow w3.heap.size 165 4 (.slice none 0 0) 0 []) := ⟨rfl, .inl ⟨rfl, rfl⟩⟩
   have HB3 := Lib.hid (ebelow_one w3 (.cells #[.string x.w, .string x.u, .int .i64 x.f, .int .i64 n] 165))
   have HS3 := Lib.hid HB3.out.size
   clear HK2 HNO hB K1
   go_wp2_with (at_builtin; refine wpList_append_own _ rfl (.tmp 27) (.tmp 29) 36 rfl w3.heap.size 165 i0 _ 4 48 Tryz.underlying36 hi hz0 hz1' hz2' rfl (by decide) _ _ _ rfl HE3.out ⟨w3.heap.size, 0, none⟩ 1 1 [.string x.w, .string x.u, .int .i64 x.f, .int .i64 n] rfl rfl (news_at _ _ _ _ rfl) (four_e _ _ _ _) (by unfold maxLen; omega) (by omega) HS3.out ?_; intro v1 w4 ho1 hgrow hiff)
   have hb4 := app_below HB3.out HS3.out HE3.out hgrow
   have ho4 : w4.ownsRow w3.heap.size 165 4 v1 [(⟨x.w, x.u, x.f, n⟩ : EnM)].length (ens [(⟨x.w, x.u, x.f, n⟩ : EnM)]) := ho1
   obtain ⟨xa, xc, hv, -, -, hsl, hnl⟩ := own_en ho4
   have hv2 : v1 = .slice xa 1 xc := hv
   subst hv2
   have K4 := K3.below hb4
   have HY := Lib.hid hsl
   have HYN := Lib.hid hnl
   clear hv ho4 ho1 hgrow hiff hb4 HE3 HB3 HS3 d0 d1 d2 d3 hsl hnl K3
   by_cases hck : c = k1
   ·have hl1 : l.length = k1 := by omega
    subst hck
    rw [hl1] at *
    have HAC : Hid (∀ W g1 T0, EnSl W (some ⟨b, off, none⟩) l → EnSl W xa [⟨x.w, x.u, x.f, n⟩] → g1 = W.heap.size → Calls Tryz.prog 233 #[.slice (some ⟨g1, 0, none⟩) 3 3] (W.alloc (.cells #[.slice (some ⟨b, off, none⟩) k c, .slice xa 1 xc, .slice (some ⟨b, off, none⟩) 0 0] T0)).drew fun e w' => ∃ v, e = .returned v ∧ w'.ownsRow W.heap.size 165 4 v G.length (ens G) ∧ Below W.heap.size W w') := fun W g1 T0 hs hs2 e1 => by
     have h := econcatR (some ⟨b, off, none⟩) xa (some ⟨b, off, none⟩) (l.take k) [⟨x.w, x.u, x.f, n⟩] (l.drop (k + 1)) c xc 0 k 1 0 W g1 T0 (by rw [List.length_take]; omega) rfl (by have := HK1.out; rw [List.length_drop]; omega) (hs.take k) hs2 (by have := HK1.out; rw [List.drop_of_length_le (by omega)]; exact EnSl.nil _ _) (fun h => by cases h) HYN.out (fun h => by cases h) e1 (by have := HK1.out; rw [List.length_take, List.length_drop]; simp; omega)
     rw [HGG.out] at h
     exact h
    clear HGG HSB
    go_wp2_with fail
    go_region_held3 (fun W => True)
     (first | exact trivial)
     (first | (go_at_call 233; refine (HAC.out _ _ _ K4.row HY.out rfl).mono ?_; rintro e w9 ⟨v, rfl, ho9, hb9⟩; have HO9 := Lib.hid ho9; have HB9 := Lib.hid hb9; clear ho9 hb9))
    go_wp2
    go_ret2
    exact Or.inr ⟨by trivial, v, rfl, own_low HO9.out K4.frame.size, K4.frame.trans (HB9.out.mono K4.frame.size)⟩
   ·have hck2 : k1 < c := by omega
    have HAC : Hid (∀ W g1 T0, EnSl W (some ⟨b, off, none⟩) l → EnSl W xa [⟨x.w, x.u, x.f, n⟩] → g1 = W.heap.size → Calls Tryz.prog 233 #[.slice (some ⟨g1, 0, none⟩) 3 3] (W.alloc (.cells #[.slice (some ⟨b, off, none⟩) k c, .slice xa 1 xc, .slice (some ⟨b, off + k1 * 4, none⟩) (l.length - k1) (c - k1)] T0)).drew fun e w' => ∃ v, e = .returned v ∧ w'.ownsRow W.heap.size 165 4 v G.length (ens G) ∧ Below W.heap.size W w') := fun W g1 T0 hs hs2 e1 => by
     have h := econcatR (some ⟨b, off, none⟩) xa (some ⟨b, off + k1 * 4, none⟩) (l.take k) [⟨x.w, x.u, x.f, n⟩] (l.drop (k + 1)) c xc (c - k1) k 1 (l.length - k1) W g1 T0 (by rw [List.length_take]; omega) rfl (by have := HK1.out; rw [List.length_drop]; omega) (hs.take k) hs2 (by rw [HK1.out]; exact hs.drop (k + 1)) (fun h => by cases h) HYN.out (fun h => by cases h) e1 (by have := HK1.out; rw [List.length_take, List.length_drop]; simp; omega)
     rw [HGG.out] at h
     exact h
    clear HGG HSB
    go_wp2_with fail
    go_region_held3 (fun W => True)
     (first | exact trivial)
     (first | (go_at_call 233; refine (HAC.out _ _ _ K4.row HY.out rfl).mono ?_; rintro e w9 ⟨v, rfl, ho9, hb9⟩; have HO9 := Lib.hid ho9; have HB9 := Lib.hid hb9; clear ho9 hb9))
    go_wp2
    go_ret2
    exact Or.inr ⟨by trivial, v, rfl, own_low HO9.out K4.frame.size, K4.frame.trans (HB9.out.mono K4.frame.size)⟩
 ·rw [decide_eq_false hk] at hany
  rw [hany]
  have hix : idxI (infE p u) l = -1 := by
   obtain rfl : k = l.length := Nat.le_antisymm HF.le (by omega)
   exact idx_miss HF
  rw [hix] at HIF
  clear HREV HF hix hany hk
  go_enter Tryz.func197, Tryz.ntmps197
  go_wp2_with fail
  refine (HIF.out _ HPC.out.row).mono ?_
  rintro e w1 ⟨rfl, hB⟩
  have K1 := Lib.hid (HPC.out.below hB)
  go_wp2
  go_ret2
  exact Or.inl ⟨by trivial, rfl, K1.out.frame⟩
end Go.Proofs.YtmfpjapiijgdgaaGreat
namespace Go.Proofs.YtmfpjapiijgdgaaGreat
open Go.RowKit
set_option linter.unusedVariables false
set_option maxRecDepth 100000
set_option maxRecDepth 100000
theorem n_meet (xa : Option Addr) (ca : Nat) (xb : Option Addr) (cb : Nat) (A B : List SpM) (W : World) (ha : SpSl W xa A) (hb : SpSl W xb B) (hca : A.length ≤ ca) (hcb : B.length ≤ cb) (h1 : ca ≤ maxLen) (h2 : cb ≤ maxLen) (hl : A.length ≤ 400) (hl2 : B.length ≤ 400) :
  Calls Tryz.prog 164 #[.slice xa A.length ca, .slice xb B.length cb] W fun e w' => ∃ x q r, e = .returned (.slice x r.length q) ∧ IsSet (fun t => HasL A t ∧ HasL B t) r ∧ r.length ≤ A.length + B.length ∧ r.length ≤ q ∧ q ≤ maxLen ∧ (x = none → q = 0) ∧ SpSl w' x r ∧ Below W.heap.size W w' := by
 refine (meet_any xa ca xb cb A B W ha hb hca hcb ⟨h1, h2⟩ (by omega)).mono ?_
 rintro e w' ⟨v, r, rfl, hs, ho, hl, hb⟩
 obtain ⟨x, q, rfl, k1, k2, k3, k4⟩ := own_spm ho
 exact ⟨x, q, r, rfl, hs, hl, k1, k2, k4, k3, hb⟩
end Go.Proofs.YtmfpjapiijgdgaaGreat
namespace Go.Proofs.YtmfpjapiijgdgaaGreat
open Go.ChangeShapes Go.WideShapes Go.ChangeAt Go.RowKit
set_option linter.unusedVariables false
set_option maxRecDepth 100000
set_option maxRecDepth 100000
def FitsE (l : List EnM) : Prop := ∀ e ∈ l, e.w.size ≤ maxLen ∧ e.u.size ≤ maxLen ∧ I64 e.f ∧ I64 e.t
section
variable {H : Type} {enc : TypeId × Value → H} {P : Program} {w : World} {base : Nat} {spare : Nat → Bool} {held : Bool}
theorem eopen_quads {t e : TypeId} {f0 f1 f2 f3 : Field} {fuel : Nat} {cs : List Value} {x : DataW H × List MemPlace} (ht : P.underlying t = some (.slice e)) (he : P.underlying e = some (.struct #[f0, f1, f2, f3]))
  (ce : P.cellsOf e = 4) (o0 : f0.offset = 0) (o1 : f1.offset = 1) (o2 : f2.offset = 2) (o3 : f3.offset = 3) (c0 : P.cellsOf f0.type = 1) (c1 : P.cellsOf f1.type = 1) (c2 : P.cellsOf f2.type = 1) (c3 : P.cellsOf f3.type = 1)
  (h : DataW.trod enc P w base spare held fuel t cs = some x) :
  (cs = [.slice none 0 0] ∧ x = (.nil, [])) ∨
  ∃ (a : Addr) (len cap : Nat), cs = [.slice (some a) len cap] ∧ len ≤ cap ∧ cap ≤ maxLen ∧
   ∀ i, i < len → ∃ (v0 v1 v2 v3 : Value) (y0 y1 y2 y3 : DataW H × List MemPlace) (n : Nat), w.cell? (a.add (i * 4)) = some v0 ∧ w.cell? (a.add (i * 4 + 1)) = some v1 ∧ w.cell? (a.add (i * 4 + 2)) = some v2 ∧ w.cell? (a.add (i * 4 + 3)) = some v3 ∧
    DataW.trod enc P w base spare held n f0.type [v0] = some y0 ∧ DataW.trod enc P w base spare held n f1.type [v1] = some y1 ∧ DataW.trod enc P w base spare held n f2.type [v2] = some y2 ∧ DataW.trod enc P w base spare held n f3.type [v3] = some y3 := by
 rcases Go.Deep.open_slice ht h with h0 | ⟨a, len, cap, m, n, D, Pl, rfl, hb, hl, hm, hmm, rfl, hx⟩
 ·exact Or.inl h0
 right
 have hlm : len ≤ m := by rw [hmm]; split <;> omega
 refine ⟨a, len, cap, rfl, hl, hm, fun i hi => ?_⟩
 obtain ⟨cs', h1, h2⟩ := hx i (by omega)
 rw [ce] at h1
 obtain ⟨_, hlen, hcell⟩ := World.cells?_some h1
 obtain ⟨xs, k, hk, hxy, _, hxl, hf⟩ := DataW.trod_struct he h2
 match xs, hxl, cs', hlen with
 | [y0, y1, y2, y3], _, [v0, v1, v2, v3], _ =>
  have g0 := hf 0 f0 rfl
  have g1 := hf 1 f1 rfl
  have g2 := hf 2 f2 rfl
  have g3 := hf 3 f3 rfl
  simp [o0, o1, o2, o3, c0, c1, c2, c3] at g0 g1 g2 g3
  have e0 := hcell 0 (by omega)
  have e1 := hcell 1 (by omega)
  have e2 := hcell 2 (by omega)
  have e3 := hcell 3 (by omega)
  rw [Go.Deep.add_add] at e0 e1 e2 e3
  exact ⟨v0, v1, v2, v3, y0, y1, y2, y3, k, by simpa using e0, by simpa using e1, by simpa using e2, by simpa using e3, g0, g1, g2, g3⟩
end
theorem enFields : ∃ f0 f1 f2 f3 : Field, Tryz.prog.underlying 135 = some (.struct #[f0, f1, f2, f3]) ∧ f0.offset = 0 ∧ f1.offset = 1 ∧ f2.offset = 2 ∧ f3.offset = 3 ∧ f0.type = 9 ∧ f1.type = 9 ∧ f2.type = 3 ∧ f3.type = 3 := ⟨_, _, _, _, Tryz.underlying135, rfl, rfl, rfl, rfl, rfl, rfl, rfl, rfl⟩
theorem read_entries {H : Type} {enc : TypeId × Value → H} {W : World} {n : Nat} {cs : List Value} {x : DataW H × List MemPlace}
  (h : DataW.trod enc Tryz.prog W 0 (fun _ => true) true n 24 cs = some x) :
  ∃ (a : Option Addr) (c : Nat) (l : List EnM), cs = [.slice a l.length c] ∧ EnSl W a l ∧ FitsE l ∧ l.length ≤ c ∧ c ≤ maxLen ∧ (a = none → c = 0) := by
 obtain ⟨f0, f1, f2, f3, he, o0, o1, o2, o3, t0, t1, t2, t3⟩ := enFields
 have ci : Tryz.prog.cellsOf 3 = 1 := by kernel_rfl
 have cs' : Tryz.prog.cellsOf 9 = 1 := by kernel_rfl
 rcases eopen_quads Tryz.underlying24 he (by kernel_rfl) o0 o1 o2 o3 (by rw [t0]; exact cs') (by rw [t1]; exact cs') (by rw [t2]; exact ci) (by rw [t3]; exact ci) h with ⟨rfl, _⟩ | ⟨a, len, cap, rfl, hl, hm, hx⟩
 ·exact ⟨none, 0, [], rfl, EnSl.nil _ _, (fun s hs => by cases hs), by simp, by decide, fun _ => rfl⟩
 ·have each : ∀ i, i < len → ∃ x : EnM, W.cell? (a.add (i * 4)) = some (.string x.w) ∧ W.cell? (a.add (i * 4 + 1)) = some (.string x.u) ∧ W.cell? (a.add (i * 4 + 2)) = some (.int .i64 x.f) ∧ W.cell? (a.add (i * 4 + 3)) = some (.int .i64 x.t) ∧ x.w.size ≤ maxLen ∧ x.u.size ≤ maxLen ∧ I64 x.f ∧ I64 x.t := fun i hi => by
   obtain ⟨v0, v1, v2, v3, y0, y1, y2, y3, n, k0, k1, k2, k3, g0, g1, g2, g3⟩ := hx i hi
   rw [t0] at g0
   rw [t1] at g1
   rw [t2] at g2
   rw [t3] at g3
   obtain ⟨z0, e0, _, w0⟩ := DataW.trod_string Tryz.underlying9 g0
   obtain ⟨z1, e1, _, w1⟩ := DataW.trod_string Tryz.underlying9 g1
   obtain ⟨z2, e2, _, w2⟩ := DataW.trod_int Tryz.underlying3 g2
   obtain ⟨z3, e3, _, w3⟩ := DataW.trod_int Tryz.underlying3 g3
   simp at e0 e1 e2 e3
   exact ⟨⟨z0, z1, z2, z3⟩, by rw [k0, e0], by rw [k1, e1], by rw [k2, e2], by rw [k3, e3], w0, w1, wf64 w2, wf64 w3⟩
  have some_x : ∃ f : Nat → EnM, ∀ i, i < len → W.cell? (a.add (i * 4)) = some (.string (f i).w) ∧ W.cell? (a.add (i * 4 + 1)) = some (.string (f i).u) ∧ W.cell? (a.add (i * 4 + 2)) = some (.int .i64 (f i).f) ∧ W.cell? (a.add (i * 4 + 3)) = some (.int .i64 (f i).t) ∧ (f i).w.size ≤ maxLen ∧ (f i).u.size ≤ maxLen ∧ I64 (f i).f ∧ I64 (f i).t := by
   refine ⟨fun i => if h : i < len then (each i h).choose else ⟨ByteArray.empty, ByteArray.empty, 0, 0⟩, fun i hi => ?_⟩
   simp only [hi, ↓reduceDIte]
   exact (each i hi).choose_spec
  obtain ⟨f, hf2⟩ := some_x
  have hlen : ((List.range len).map f).length = len := by simp
  refine ⟨some a, cap, (List.range len).map f, by rw [hlen], fun k hk => ?_, fun x hxm => ?_, by omega, hm, fun h => by cases h⟩
  ·rw [hlen] at hk
   obtain ⟨b, off, spot⟩ := a
   have h0 := (hf2 0 (by omega)).1
   have hspot : spot = none := by simpa [Addr.add] using World.cell?_spot h0
   subst hspot
   obtain ⟨g0, g1, g2, g3, _⟩ := hf2 k (by omega)
   rw [Go.WideShapes.add_plain] at g0 g1 g2 g3
   simp only [List.getElem_map, List.getElem_range]
   exact ⟨b, off, rfl, World.block_lt_of_cell? W ⟨b, off + k * 4, none⟩ g0, g0, g1, g2, g3⟩
  ·obtain ⟨i, hi, rfl⟩ := List.mem_map.1 hxm
   exact (hf2 i (by have := List.mem_range.1 hi; omega)).2.2.2.2
end Go.Proofs.YtmfpjapiijgdgaaGreat
namespace Go.Proofs.YtmfpjapiijgdgaaGreat
open Go.RowKit
set_option linter.unusedVariables false
set_option maxRecDepth 100000
set_option maxRecDepth 100000
theorem e_news (a : Option Addr) (c : Nat) (l : List EnM) (W : World) (h : EnSl W a l) (hl : l.length ≤ 1000) : Calls Tryz.prog 72 #[.slice a l.length c] W fun e w' => ∃ x q, e = .returned (.slice x l.length q) ∧ l.length ≤ q ∧ q ≤ maxLen ∧ (x = none → q = 0) ∧ EnSl w' x l ∧ Below W.heap.size W w' := by
 refine (enews_any a c l W h (by omega)).mono ?_
 rintro e w' ⟨v, rfl, ho, hb⟩
 obtain ⟨x, q, rfl, h1, h2, h3, h4⟩ := own_en ho
 exact ⟨x, q, rfl, h1, h2, h4, h3, hb⟩
theorem e_without (a : Option Addr) (c : Nat) (l : List EnM) (s : ByteArray) (W : World) (h : EnSl W a l) (hl : l.length ≤ 1000) : Calls Tryz.prog 238 #[.slice a l.length c, .string s] W fun e w' => ∃ x q, e = .returned (.slice x (l.filter (wiE s)).length q) ∧ (l.filter (wiE s)).length ≤ q ∧ q ≤ maxLen ∧ (x = none → q = 0) ∧ EnSl w' x (l.filter (wiE s)) ∧ Below W.heap.size W w' := by
 refine (without_any a c l s W h (by omega)).mono ?_
 rintro e w' ⟨v, rfl, ho, hb⟩
 obtain ⟨x, q, rfl, h1, h2, h3, h4⟩ := own_en ho
 exact ⟨x, q, rfl, h1, h2, h4, h3, hb⟩
theorem e_grant (a : Option Addr) (c : Nat) (l : List EnM) (p u : ByteArray) (n : Int) (W : World) (h : EnSl W a l) (hn : a = none → c = 0) (hl : l.length ≤ 500) (hc : l.length ≤ c) (hcm : c ≤ maxLen) (hi : l.any (infE p u) = false) : Calls Tryz.prog 196 #[.slice a l.length c, .agg #[.string p, .string u], .int .i64 n] W fun e w' => ∃ x q, e = .returned (.tuple #[.slice x (grantS l (mkE p u n)).length q, .int .i64 0]) ∧ (grantS l (mkE p u n)).length ≤ q ∧ q ≤ maxLen ∧ (x = none → q = 0) ∧ EnSl w' x (grantS l (mkE p u n)) ∧ Below W.heap.size W w' := by
 refine Calls.mono (P := Tryz.prog) (grant_any a c l p u n W h hn hl hc hcm) ?_
 rintro e w' (⟨k, _, _⟩ | ⟨_, v, rfl, ho, hb⟩)
 ·rw [hi] at k; cases k
 ·obtain ⟨x, q, rfl, h1, h2, h3, h4⟩ := own_en ho
  exact ⟨x, q, rfl, h1, h2, h4, h3, hb⟩
theorem e_grant_no (a : Option Addr) (c : Nat) (l : List EnM) (p u : ByteArray) (n : Int) (W : World) (h : EnSl W a l) (hn : a = none → c = 0) (hl : l.length ≤ 500) (hc : l.length ≤ c) (hcm : c ≤ maxLen) (hi : l.any (infE p u) = true) : Calls Tryz.prog 196 #[.slice a l.length c, .agg #[.string p, .string u], .int .i64 n] W fun e w' => e = .returned (.tuple #[.slice none 0 0, .int .i64 90]) ∧ Below W.heap.size W w' := by
 refine Calls.mono (P := Tryz.prog) (grant_any a c l p u n W h hn hl hc hcm) ?_
 rintro e w' (⟨_, rfl, hb⟩ | ⟨k, _⟩)
 ·exact ⟨rfl, hb⟩
 ·rw [hi] at k; cases k
theorem e_revoke (a : Option Addr) (c : Nat) (l : List EnM) (p u : ByteArray) (n : Int) (W : World) (h : EnSl W a l) (hl : l.length ≤ 500) (hc : l.length ≤ c) (hcm : c ≤ maxLen) (hi : l.any (infE p u) = true) : Calls Tryz.prog 197 #[.slice a l.length c, .agg #[.string p, .string u], .int .i64 n] W fun e w' => ∃ x q, e = .returned (.tuple #[.slice x (revokeS l p u n).length q, .int .i64 0]) ∧ (revokeS l p u n).length ≤ q ∧ q ≤ maxLen ∧ (x = none → q = 0) ∧ EnSl w' x (revokeS l p u n) ∧ Below W.heap.size W w' := by
 refine Calls.mono (P := Tryz.prog) (revoke_any a c l p u n W h hl hc hcm) ?_
 rintro e w' (⟨k, _, _⟩ | ⟨_, v, rfl, ho, hb⟩)
 ·rw [hi] at k; cases k
 ·obtain ⟨x, q, rfl, h1, h2, h3, h4⟩ := own_en ho
  exact ⟨x, q, rfl, h1, h2, h4, h3, hb⟩
theorem e_revoke_no (a : Option Addr) (c : Nat) (l : List EnM) (p u : ByteArray) (n : Int) (W : World) (h : EnSl W a l) (hl : l.length ≤ 500) (hc : l.length ≤ c) (hcm : c ≤ maxLen) (hi : l.any (infE p u) = false) : Calls Tryz.prog 197 #[.slice a l.length c, .agg #[.string p, .string u], .int .i64 n] W fun e w' => e = .returned (.tuple #[.slice none 0 0, .int .i64 91]) ∧ Below W.heap.size W w' := by
 refine Calls.mono (P := Tryz.prog) (revoke_any a c l p u n W h hl hc hcm) ?_
 rintro e w' (⟨_, rfl, hb⟩ | ⟨k, _⟩)
 ·exact ⟨rfl, hb⟩
 ·rw [hi] at k; cases k
theorem e_rrising (a : Option Addr) (c : Nat) (l : List EnM) (W : World) (h : EnSl W a l) (hs : SzE l) (hl : l.length ≤ 1000) : Calls Tryz.prog 67 #[.slice a l.length c] W fun e w' => e = .returned (.bool (decide (RiseE l))) ∧ Below W.heap.size W w' := refERising_any a c l W h hs (by omega)
theorem e_periods (a : Option Addr) (c : Nat) (l : List EnM) (p u : ByteArray) (W : World) (h : EnSl W a l) (hl : l.length ≤ 1000) : Calls Tryz.prog 43 #[.slice a l.length c, .agg #[.string p, .string u]] W fun e w' => ∃ x q r, e = .returned (.slice x r.length q) ∧ IsSet (HasL (perS l p u)) r ∧ r.length ≤ l.length ∧ r.length ≤ q ∧ q ≤ maxLen ∧ (x = none → q = 0) ∧ SpSl w' x r ∧ Below W.heap.size W w' := by
 refine (periods_any a c l p u W h hl).mono ?_
 rintro e w' ⟨v, r, rfl, hs, hr, ho, hb⟩
 obtain ⟨x, q, rfl, h1, h2, h3, h4⟩ := own_spm ho
 exact ⟨x, q, r, rfl, hs, hr, h1, h2, h4, h3, hb⟩
end Go.Proofs.YtmfpjapiijgdgaaGreat
namespace Go.Proofs.YtmfpjapiijgdgaaGreat
open Go.RowKit Go.Proofs
set_option linter.unusedVariables false
set_option maxRecDepth 100000
set_option maxRecDepth 100000
theorem own_grown {w w' : World} {B B2 : Nat} {e e2 : TypeId} {k k2 n n2 : Nat} {v v2 : Value} {xs xs2 : List Value} (hv : w.ownsRow B e k v n xs) (h2 : w.ownsRow B2 e2 k2 v2 n2 xs2) (hne : e ≠ e2) (hg : w.grownBy w' v.ownBlock) : w'.ownsRow B2 e2 k2 v2 n2 xs2 := by
 refine ⟨h2.1, ?_⟩
 rcases h2.2 with ⟨h3, h4⟩ | ⟨g, cap, cur, h3, h4, h5, h6⟩
 ·exact .inl ⟨h3, h4⟩
 ·refine .inr ⟨g, cap, cur, h3, h4, ?_, h6⟩
  rw [hg.block g (heap_lt h5) ?_, h5]
  rcases hv.2 with ⟨h7, _⟩ | ⟨g', cap', cur', h7, _, h8, _⟩
  ·rw [h7]; simp [Value.ownBlock]
  ·rw [h7]
   intro e1
   simp only [Value.ownBlock] at e1
   injection e1 with e1
   subst e1
   rw [h5] at h8
   injection h8 with h8
   injection h8 with _ h8
   exact hne h8.symm
def OwnSt (W : World) (B : Nat) (y : UsL) : Prop := W.ownsRow B 111 4 (.slice y.a y.l.length y.c) y.l.length (sts y.l)
theorem OwnSt.at_ {W : World} {B : Nat} {y : UsL} (h : OwnSt W B y) : UsAt W y := by
 obtain ⟨x, q, h1, h2, h3, h4, h5⟩ := own_st h
 injection h1 with k1 k2 k3
 subst k1 k3
 exact ⟨h4, h2, h3, h5⟩
theorem usv_snoc (D : List UsL) (y : UsL) : usv (D ++ [y]) = usv D ++ [.string y.u, .slice y.a y.l.length y.c] := by
 unfold usv
 rw [List.map_append]
 exact pps_snoc _ _
end Go.Proofs.YtmfpjapiijgdgaaGreat
namespace Go.Proofs.YtmfpjapiijgdgaaGreat
set_option linter.unusedVariables false
def goE (s : SaM) (e : EvM) : SaM := goS s e.kind e.at_ e.n e.status e.user e.other
def errE (s : SaM) (e : EvM) : Int := errS s e.kind e.at_ e.n e.status e.user e.other
def nxE (s : SaM) (e : EvM) : SaM := if errE s e = 0 then goE s e else s
def foldE (s : SaM) (l : List EvM) : SaM := l.foldl nxE s
def errsE : SaM → List EvM → List Int
 | _, [] => []
 | s, e :: l => errE s e :: errsE (nxE s e) l
theorem nxE_ok {s : SaM} {e : EvM} (h : errE s e = 0) : nxE s e = goE s e := if_pos h
theorem nxE_no {s : SaM} {e : EvM} (h : ¬ errE s e = 0) : nxE s e = s := if_neg h
theorem foldE_append (s : SaM) (a b : List EvM) : foldE s (a ++ b) = foldE (foldE s a) b := List.foldl_append
theorem foldE_cons (s : SaM) (e : EvM) (l : List EvM) : foldE s (e :: l) = foldE (nxE s e) l := rfl
theorem foldE_take (s : SaM) (l : List EvM) (j : Nat) (h : j < l.length) : foldE s (l.take (j + 1)) = nxE (foldE s (l.take j)) l[j] := by
 rw [List.take_succ_eq_append_getElem h, foldE_append]
 rfl
theorem errsE_append : ∀ (a : List EvM) (s : SaM) (b : List EvM), errsE s (a ++ b) = errsE s a ++ errsE (foldE s a) b
 | [], _, _ => rfl
 | e :: a, s, b => by
  show errE s e :: errsE (nxE s e) (a ++ b) = errE s e :: (errsE (nxE s e) a ++ errsE (foldE (nxE s e) a) b)
  rw [errsE_append a]
theorem errsE_len : ∀ (l : List EvM) (s : SaM), (errsE s l).length = l.length
 | [], _ => rfl
 | e :: l, s => by
  show (errsE (nxE s e) l).length + 1 = l.length + 1
  rw [errsE_len l]
theorem errsE_take (s : SaM) (l : List EvM) (j : Nat) (h : j < l.length) : errsE s (l.take (j + 1)) = errsE s (l.take j) ++ [errE (foldE s (l.take j)) l[j]] := by
 rw [List.take_succ_eq_append_getElem h, errsE_append]
 rfl
theorem right_nx {s : SaM} (h : RightS s) (e : EvM) : RightS (nxE s e) := by
 unfold nxE
 split
 ·rename_i he; exact right_go h he
 ·exact h
theorem cnt_nx (s : SaM) (e : EvM) : stCnt (nxE s e) ≤ stCnt s + 1 := by
 unfold nxE
 split
 ·exact cnt_go s _ _ _ _ _ _
 ·omega
theorem right_fold : ∀ (l : List EvM) {s : SaM}, RightS s → RightS (foldE s l)
 | [], _, h => h
 | e :: l, s, h => by rw [foldE_cons]; exact right_fold l (right_nx h e)
theorem cnt_fold : ∀ (l : List EvM) (s : SaM), stCnt (foldE s l) ≤ stCnt s + l.length
 | [], _ => Nat.le_refl _
 | e :: l, s => by
  have h1 := cnt_fold l (nxE s e)
  have h2 := cnt_nx s e
  rw [foldE_cons, List.length_cons]
  omega
end Go.Proofs.YtmfpjapiijgdgaaGreat
