/- Texts of mine, one behind the other, of each what is wanted. -/
import Derived.Test.YtmfpjapiijgdgaaGreatQ00
import Derived.Test.YtmfpjapiijgdgaaGreatShelf
import Derived.Test.YtmfpjapiijgdgaaGreatRows
import Derived.Test.YtmfpjapiijgdgaaGreatQ01
import Derived.Test.YtmfpjapiijgdgaaGreatQ04
import Derived.Test.YtmfpjapiijgdgaaGreatQ06
import Derived.Test.YtmfpjapiijgdgaaGreatQ14
import Derived.Test.YtmfpjapiijgdgaaGreatQ17
import Derived.Test.YtmfpjapiijgdgaaGreatQ23
namespace Go.Proofs.YtmfpjapiijgdgaaGreat
open Go.RowKit
set_option linter.unusedVariables false
set_option maxRecDepth 100000
set_option maxRecDepth 100000
def CapAt (W : World) (g : Nat) (v : Value) : Prop := W.cell? ⟨g, 0, none⟩ = some v ∧ g < W.heap.size
theorem CapAt.below {W W' : World} {g : Nat} {v : Value} (h : CapAt W g v) (q : Below W.heap.size W W') : CapAt W' g v :=
 ⟨(q.cell (p := ⟨g, 0, none⟩) h.2).trans h.1, Nat.lt_of_lt_of_le h.2 q.size⟩
theorem CapAt.new (W : World) (v : Value) (t : TypeId) : CapAt (W.alloc (.cells #[v] t)) W.heap.size v :=
 ⟨cell_of_row _ _ _ _ _ _ (heap_alloc_new W _), by rw [size1]; omega⟩
def wiE (s : ByteArray) (e : EnM) : Bool := decide (e.w ≠ s) && decide (e.u ≠ s)
theorem wi_eq (s : ByteArray) (e : EnM) : wiE s e = !(eqS s e.w || eqS s e.u) := by
 have h1 := eqS_iff s e.w
 have h2 := eqS_iff s e.u
 unfold wiE
 rw [Bool.eq_iff_iff]
 simp only [Bool.and_eq_true, decide_eq_true_eq, Bool.not_eq_true', Bool.or_eq_false_iff]
 rw [← Bool.not_eq_true, ← Bool.not_eq_true, h1, h2]
 exact ⟨fun h => ⟨fun e => h.1 e.symm, fun e => h.2 e.symm⟩, fun h => ⟨fun e => h.1 e.symm, fun e => h.2 e.symm⟩⟩
theorem fil_take (q : EnM → Bool) (l : List EnM) (j : Nat) (h : j < l.length) : (l.take (j + 1)).filter q = (l.take j).filter q ++ (if q l[j] = true then [l[j]] else []) := by
 rw [List.take_succ_eq_append_getElem h, List.filter_append, List.filter_cons, List.filter_nil]
theorem fil_len (q : EnM → Bool) (l : List EnM) (j : Nat) : ((l.take j).filter q).length ≤ j := Nat.le_trans (List.length_filter_le _ _) (by simp; omega)
set_option maxHeartbeats 1000000 in
theorem wic_any (e : EnM) (s : ByteArray) (g : Nat) (W : World) (h : CapAt W g (.string s)) :
  Calls Tryz.prog 264 #[enV e, .pointer (some ⟨g, 0, none⟩)] W fun r w' => r = .returned (.bool (wiE s e)) ∧ Below W.heap.size W w' := by
 have hb := ebelow_one W (.cells #[.string e.w, .string e.u, .int .i64 e.f, .int .i64 e.t] 165)
 obtain ⟨c0, hg⟩ := h.below hb
 have HB := Lib.hid hb
 have HE := Lib.hid (wi_eq s e)
 have HC := Lib.hid (fun W => pairHas_any e.w e.u s W)
 unfold pr at HC
 unfold enV
 generalize (eqS s e.w || eqS s e.u) = r at *
 clear hb hg h
 go_enter Tryz.func264, Tryz.ntmps264
 go_wp2_with fail
 refine (HC.out _).mono ?_
 rintro r w2 ⟨rfl, hB⟩
 go_wp2
 go_ret
 exact ⟨by rw [HE.out]; rfl, HB.out.trans (hB.mono HB.out.size)⟩
set_option maxHeartbeats 2000000 in
theorem thosew_any (a : Option Addr) (c : Nat) (l : List EnM) (s : ByteArray) (g : Nat) (w : World) (hr : EnSl w a l) (h : CapAt w g (.string s)) (hl : l.length ≤ 100000) :
  Calls Tryz.prog 186 #[.slice a l.length c, .func (.func 264) #[] #[.pointer (some ⟨g, 0, none⟩)]] w fun e w' => ∃ v, e = .returned v ∧ w'.ownsRow w.heap.size 165 4 v (l.filter (wiE s)).length (ens (l.filter (wiE s))) ∧ Below w.heap.size w w' := by
 obtain ⟨i0, hi, hz0, hz1, hz2⟩ := info_parts infoEn
 have HR := Lib.hid hr
 have HP := Lib.hid h
 have HC := Lib.hid (fun e V k => wic_any e s g V k)
 unfold enV at HC
 clear hr h
 go_enter Tryz.func186, Tryz.ntmps186
 go_wp2
 go_loopw [5, 10] (fun v i wr => ∃ (j : Nat), j ≤ l.length ∧ i = .int .i64 j ∧ Hid (wr.ownsRow w.heap.size 165 4 v ((l.take j).filter (wiE s)).length (ens ((l.take j).filter (wiE s)))) ∧ Hid (Below w.heap.size w wr)) (fun _ i _ => l.length - (intOf i).toNat)
 case atStart => exact ⟨0, by omega, rfl, ⟨rfl, .inl ⟨rfl, rfl⟩⟩, Below.refl _ _⟩
 case round =>
  obtain ⟨j, hj, rfl, HO, HB⟩ := hrel
  by_cases hjl : j < l.length
  ·obtain ⟨b, off, rfl, hbl, hc0, hc1, hc2, hc3⟩ := (HR.out.below HB.out).at_ hjl
   have HT := Lib.hid (fil_take (wiE s) l j hjl)
   have HLN := Lib.hid (fil_len (wiE s) l j)
   generalize l[j] = x at *
   generalize (l.take j).filter (wiE s) = m at *
   have hb0 := ebelow_one wr (.cells #[.string x.w, .string x.u, .int .i64 x.f, .int .i64 x.t] 165)
   have HX := Lib.hid (heap_alloc_new wr (.cells #[.string x.w, .string x.u, .int .i64 x.f, .int .i64 x.t] 165))
   have HPW := Lib.hid ((HP.out.below HB.out).below hb0)
   have HB0 := Lib.hid hb0
   have HCC := Lib.hid (HC.out x _ HPW.out)
   have HZ := Lib.hid (size1 wr (.cells #[.string x.w, .string x.u, .int .i64 x.f, .int .i64 x.t] 165))
   clear hb0 HC HPW
   cases hq : (wiE s) x with
   | true =>
    have HC2 : Hid ((l.take (j + 1)).filter (wiE s) = m ++ [x]) := by have := HT.out; rwa [if_pos hq] at this
    rw [hq] at HCC
    clear HT hq
    go_wp2_with fail
    refine HCC.out.mono ?_
    rintro r w2 ⟨rfl, hB⟩
    have hb2 : Below wr.heap.size wr w2 := HB0.out.trans (hB.mono (by rw [HZ.out]; omega))
    obtain ⟨d0, d1, d2, d3⟩ := ecells4 ((hB.block _ (heap_lt HX.out)).trans HX.out)
    have HO2 := Lib.hid (own_below HO.out (hb2.trans ((ebelow_one w2 (.cells #[.string x.w, .string x.u, .int .i64 x.f, .int .i64 x.t] 165)).mono hb2.size)))
    have HB2 : Hid (Below w.heap.size w (w2.alloc (.cells #[.string x.w, .string x.u, .int .i64 x.f, .int .i64 x.t] 165))) := HB.out.trans ((hb2.trans ((ebelow_one w2 _).mono hb2.size)).mono HB.out.size)
    have HS2 := Lib.hid HB2.out.size
    have hlm := HLN.out
    clear hB hb2 hc0 hc1 hc2 hc3 HX HZ HB0 HCC
    go_wp2_with (at_builtin; refine wpList_append_own _ rfl (.tmp 17) (.tmp 19) 36 rfl w.heap.size 165 i0 _ 4 48 Tryz.underlying36 hi hz0 hz1 hz2 rfl (by decide) _ _ _ rfl HO2.out ⟨w2.heap.size, 0, none⟩ 1 1 [.string x.w, .string x.u, .int .i64 x.f, .int .i64 x.t] rfl rfl (news_at _ _ _ _ rfl) (four_e _ _ _ _) (by unfold maxLen; omega) (by omega) HS2.out ?_; intro v' w3 hown' hgrow hiff)
    have HB3 := Lib.hid (app_below HB2.out HS2.out HO2.out hgrow)
    have HO3 := Lib.hid hown'
    clear hown' hgrow hiff HB2 HS2 HO2
    go_wp2
    go_roundw
    case rel => exact ⟨j + 1, by omega, by go_num, (by unfold Hid; rw [HC2.out, List.length_append, ens_snoc]; exact HO3.out), HB3⟩
    case measure => simp [intOf]; omega
   | false =>
    have HC2 : Hid ((l.take (j + 1)).filter (wiE s) = m) := by have := HT.out; rwa [if_neg (by rw [hq]; exact Bool.false_ne_true), List.append_nil] at this
    rw [hq] at HCC
    clear HT hq
    go_wp2_with fail
    refine HCC.out.mono ?_
    rintro r w2 ⟨rfl, hB⟩
    have hb2 : Below wr.heap.size wr w2 := HB0.out.trans (hB.mono (by rw [HZ.out]; omega))
    have HO2 := Lib.hid (own_below HO.out hb2)
    have HB2 : Hid (Below w.heap.size w w2) := HB.out.trans (hb2.mono HB.out.size)
    clear hB hb2 hc0 hc1 hc2 hc3 HX HZ HB0 HCC
    go_wp2
    go_roundw
    case rel => exact ⟨j + 1, by omega, by go_num, (by unfold Hid; rw [HC2.out]; exact HO2.out), HB2⟩
    case measure => simp [intOf]; omega
  ·obtain rfl : j = l.length := by omega
   rw [List.take_of_length_le (Nat.le_refl _)] at HO
   go_wp2
   go_ret
   exact ⟨_, rfl, HO.out, HB.out⟩
set_option maxHeartbeats 1000000 in
theorem without_any (a : Option Addr) (c : Nat) (l : List EnM) (s : ByteArray) (w : World) (hr : EnSl w a l) (hl : l.length ≤ 100000) :
  Calls Tryz.prog 238 #[.slice a l.length c, (.string s)] w fun e w' => ∃ v, e = .returned v ∧ w'.ownsRow w.heap.size 165 4 v (l.filter (wiE s)).length (ens (l.filter (wiE s))) ∧ Below w.heap.size w w' := by
 have hb := ebelow_one w (.cells #[.string s] 9)
 have HC := Lib.hid (thosew_any a c l s w.heap.size (w.alloc (.cells #[.string s] 9)) (hr.below hb) (CapAt.new _ _ _) hl)
 have HB := Lib.hid hb
 clear hr hb
 go_enter Tryz.func238, Tryz.ntmps238
 go_wp2_with fail
 refine HC.out.mono ?_
 rintro r w2 ⟨v, rfl, ho, hB⟩
 go_wp2
 go_ret
 exact ⟨v, rfl, own_low ho HB.out.size, HB.out.trans (hB.mono HB.out.size)⟩
end Go.Proofs.YtmfpjapiijgdgaaGreat
namespace Go.Proofs.YtmfpjapiijgdgaaGreat
open Go.RowKit Go.Proofs
set_option linter.unusedVariables false
set_option maxRecDepth 100000
set_option maxRecDepth 100000
theorem econcatR (x y z : Option Addr) (A B C : List EnM) (c1 c2 c3 n1 n2 n3 : Nat) (W : World) (g : Nat) (T : TypeId) (h1 : n1 = A.length) (h2 : n2 = B.length) (h3 : n3 = C.length) (hA : EnSl W x A) (hB : EnSl W y B) (hC : EnSl W z C) (k1 : x = none → c1 = 0) (k2 : y = none → c2 = 0) (k3 : z = none → c3 = 0) (hg : g = W.heap.size) (hl : A.length + (B.length + C.length) ≤ 1000) :
  Calls Tryz.prog 233 #[.slice (some ⟨g, 0, none⟩) 3 3] (W.alloc (.cells #[.slice x n1 c1, .slice y n2 c2, .slice z n3 c3] T)).drew fun e w' => ∃ v, e = .returned v ∧ w'.ownsRow W.heap.size 165 4 v (A ++ (B ++ C)).length (ens (A ++ (B ++ C))) ∧ Below W.heap.size W w' := by
 subst hg h1 h2 h3
 have hcat : catE [⟨x, A, c1⟩, ⟨y, B, c2⟩, ⟨z, C, c3⟩] = A ++ (B ++ C) := by simp [catE]
 have hb := (ebelow_one W (.cells #[.slice x A.length c1, .slice y B.length c2, .slice z C.length c3] T)).drew
 have hlen : (catE [⟨x, A, c1⟩, ⟨y, B, c2⟩, ⟨z, C, c3⟩]).length ≤ 100000 := by rw [hcat, List.length_append, List.length_append]; omega
 refine (econcat_any (some ⟨W.heap.size, 0, none⟩) 3 [⟨x, A, c1⟩, ⟨y, B, c2⟩, ⟨z, C, c3⟩] _ (sl_drew3 W #[.slice x A.length c1, .slice y B.length c2, .slice z C.length c3] T) ?_ (by show 3 ≤ _; decide) hlen).mono ?_
 ·intro r hr
  simp only [List.mem_cons, List.mem_nil_iff, or_false] at hr
  rcases hr with rfl | rfl | rfl
  ·exact ⟨hA.below hb, k1⟩
  ·exact ⟨hB.below hb, k2⟩
  ·exact ⟨hC.below hb, k3⟩
 ·rintro e w' ⟨v, rfl, ho, hbb⟩
  rw [hcat] at ho
  exact ⟨v, rfl, own_low ho hb.size, hb.trans (hbb.mono hb.size)⟩
set_option maxHeartbeats 8000000 in
theorem revoke_any (a : Option Addr) (c : Nat) (l : List EnM) (p u : ByteArray) (n : Int) (w : World) (hr : EnSl w a l) (hl : l.length ≤ 500) (hc : l.length ≤ c) (hcm : c ≤ maxLen) :
  Calls Tryz.prog 197 #[.slice a l.length c, pr p u, .int .i64 n] w fun e w' => (l.any (infE p u) = false ∧ e = .returned (.tuple #[.slice none 0 0, .int .i64 91]) ∧ Below w.heap.size w w') ∨
   (l.any (infE p u) = true ∧ ∃ v, e = .returned (.tuple #[v, .int .i64 0]) ∧ w'.ownsRow w.heap.size 165 4 v (revokeS l p u n).length (ens (revokeS l p u n)) ∧ Below w.heap.size w w') := by
 obtain ⟨i0, hi, hz0, hz1', hz2'⟩ := info_parts infoEn
 have HPC := Lib.hid (PK.new hr p u 79)
 have HIF := Lib.hid (fun W (h : EnSl W a l) => inforce_any a c l p u W h (by omega))
 have HF := first_idx (infE p u) l
 have HREV := fun k (h : IsFirst (infE p u) l k) => revoke_at h n
 unfold maxLen at hcm
 unfold pr at *
 generalize hG : revokeS l p u n = G at *
 clear hr hG
 have hany := HF.any
 generalize l.findIdx (infE p u) = k at *
 by_cases hk : k < l.length
 ·rw [decide_eq_true hk] at hany
  rw [hany]
  have hix := idx_hit HF hk
  have hG2 := HREV k HF
  rw [cut_at hk] at hG2
  rw [hix] at HIF
  clear HREV HF hix hany
  have hd0 : decide ((k : Int) < 0) = false := decide_eq_false (by omega)
  go_enter Tryz.func197, Tryz.ntmps197
  go_wp2_with fail
  refine (HIF.out _ HPC.out.row).mono ?_
  rintro e w1 ⟨rfl, hB⟩
  have K1 := Lib.hid (HPC.out.below hB)
  obtain ⟨b, off, rfl, hbl, hc0, hc1, hc2, hc3⟩ := K1.out.row.at_ hk
  generalize l[k] = x at *
  have HGH := Lib.hid hG2
  have HK2 : Hid (RsE w w1.heap.size ⟨x.w, x.u, x.f, n⟩ (some ⟨b, off, none⟩) l (w1.alloc (.cells #[.string x.w, .string x.u, .int .i64 x.f, .int .i64 n] 165))) := RsE.new (x := ⟨x.w, x.u, x.f, n⟩) K1.out.row K1.out.frame 165
  have HSB : Hid (∀ W, RsE w w1.heap.size ⟨x.w, x.u, x.f, n⟩ (some ⟨b, off, none⟩) l W → W.cell? ⟨w1.heap.size, 0, none⟩ = some (.string x.w) ∧ W.cell? ⟨w1.heap.size, 1, none⟩ = some (.string x.u) ∧ W.cell? ⟨w1.heap.size, 2, none⟩ = some (.int .i64 x.f) ∧ W.cell? ⟨w1.heap.size, 3, none⟩ = some (.int .i64 n)) := fun W h => h.box
  have HNO := Lib.hid (fun W => enone_any x.f n W)
  obtain ⟨k1, hk1⟩ : ∃ k1, k1 = k + 1 := ⟨_, rfl⟩
  have HK1 := Lib.hid hk1
  have hpw : IntKind.i64.wrap ((k : Int) + 1) = (k1 : Int) := by rw [IntWalk.i64_in] <;> omega
  have hk1l : k1 ≤ l.length := by omega
  have hkk : k < k1 := by omega
  have hz1 : (0 : Int) ≤ (k : Int) := by omega
  have hz2 : (k : Int) ≤ (l.length : Int) := by omega
  have hz3 : (k : Int) ≤ (c : Int) := by omega
  have hz4 : (l.length : Int) ≤ (c : Int) := by omega
  have hz5 : (0 : Int) ≤ (k1 : Int) := by omega
  have hz6 : (k1 : Int) ≤ (l.length : Int) := by omega
  have hz7 : (k1 : Int) ≤ (c : Int) := by omega
  have hz8 : k1 ≤ c := by omega
  have hz9 : k ≤ c := by omega
  clear hB HPC HIF hk1 hG2
  by_cases hn : n ≤ x.f
  ·rw [decide_eq_true hn] at HNO
   have HGG : Hid (l.take k ++ ([] ++ l.drop (k + 1)) = G) := by have := HGH.out; unfold endS at this; rw [if_pos hn] at this; exact this.symm
   clear HGH hn
   go_wp2_with fail
   refine (HNO.out _).mono ?_
   rintro e w3 ⟨rfl, hB⟩
   have K3 := HK2.out.below hB
   clear HK2 HNO hB K1
   by_cases hck : c = k1
   ·have hl1 : l.length = k1 := by omega
    subst hck
    rw [hl1] at *
    have HAC : Hid (∀ W g1 T0, EnSl W (some ⟨b, off, none⟩) l → g1 = W.heap.size → Calls Tryz.prog 233 #[.slice (some ⟨g1, 0, none⟩) 3 3] (W.alloc (.cells #[.slice (some ⟨b, off, none⟩) k c, .slice none 0 0, .slice (some ⟨b, off, none⟩) 0 0] T0)).drew fun e w' => ∃ v, e = .returned v ∧ w'.ownsRow W.heap.size 165 4 v G.length (ens G) ∧ Below W.heap.size W w') := fun W g1 T0 hs e1 => by
     have h := econcatR (some ⟨b, off, none⟩) none (some ⟨b, off, none⟩) (l.take k) [] (l.drop (k + 1)) c 0 0 k 0 0 W g1 T0 (by rw [List.length_take]; omega) rfl (by have := HK1.out; rw [List.length_drop]; omega) (hs.take k) (EnSl.nil _ _) (by have := HK1.out; rw [List.drop_of_length_le (by omega)]; exact EnSl.nil _ _) (fun h => by cases h) (fun _ => rfl) (fun h => by cases h) e1 (by have := HK1.out; rw [List.length_take, List.length_drop]; simp; omega)
     rw [HGG.out] at h
     exact h
    clear HGG HSB
    go_wp2_with fail
    go_region_held3 (fun W => True)
     (first | exact trivial)
     (first | (go_at_call 233; refine (HAC.out _ _ _ K3.row rfl).mono ?_; rintro e w9 ⟨v, rfl, ho9, hb9⟩; have HO9 := Lib.hid ho9; have HB9 := Lib.hid hb9; clear ho9 hb9))
    go_wp2
    go_ret2
    exact Or.inr ⟨by trivial, v, rfl, own_low HO9.out K3.frame.size, K3.frame.trans (HB9.out.mono K3.frame.size)⟩
   ·have hck2 : k1 < c := by omega
    have HAC : Hid (∀ W g1 T0, EnSl W (some ⟨b, off, none⟩) l → g1 = W.heap.size → Calls Tryz.prog 233 #[.slice (some ⟨g1, 0, none⟩) 3 3] (W.alloc (.cells #[.slice (some ⟨b, off, none⟩) k c, .slice none 0 0, .slice (some ⟨b, off + k1 * 4, none⟩) (l.length - k1) (c - k1)] T0)).drew fun e w' => ∃ v, e = .returned v ∧ w'.ownsRow W.heap.size 165 4 v G.length (ens G) ∧ Below W.heap.size W w') := fun W g1 T0 hs e1 => by
     have h := econcatR (some ⟨b, off, none⟩) none (some ⟨b, off + k1 * 4, none⟩) (l.take k) [] (l.drop (k + 1)) c 0 (c - k1) k 0 (l.length - k1) W g1 T0 (by rw [List.length_take]; omega) rfl (by have := HK1.out; rw [List.length_drop]; omega) (hs.take k) (EnSl.nil _ _) (by rw [HK1.out]; exact hs.drop (k + 1)) (fun h => by cases h) (fun _ => rfl) (fun h => by cases h) e1 (by have := HK1.out; rw [List.length_take, List.length_drop]; simp; omega)
     rw [HGG.out] at h
     exact h
    clear HGG HSB
    go_wp2_with fail
    go_region_held3 (fun W => True)
     (first | exact trivial)
     (first | (go_at_call 233; refine (HAC.out _ _ _ K3.row rfl).mono ?_; rintro e w9 ⟨v, rfl, ho9, hb9⟩; have HO9 := Lib.hid ho9; have HB9 := Lib.hid hb9; clear ho9 hb9))
    go_wp2
    go_ret2
    exact Or.inr ⟨by trivial, v, rfl, own_low HO9.out K3.frame.size, K3.frame.trans (HB9.out.mono K3.frame.size)⟩
  ·rw [decide_eq_false hn] at HNO
   have HGG : Hid (l.take k ++ ([⟨x.w, x.u, x.f, n⟩] ++ l.drop (k + 1)) = G) := by have := HGH.out; unfold endS at this; rw [if_neg hn] at this; exact this.symm
   clear HGH hn
   go_wp2_with fail
   refine (HNO.out _).mono ?_
   rintro e w3 ⟨rfl, hB⟩
   have K3 := HK2.out.below hB
   obtain ⟨d0, d1, d2, d3⟩ := HSB.out _ K3
   have HE3 : Hid ((w3.alloc (.cells #[.string x.w, .string x.u, .int .i64 x.f, .int .i64 n] 165)).ownsRow w3.heap.size 165 4 (.slice none 0 0) 0 []) := ⟨rfl, .inl ⟨rfl, rfl⟩⟩
   have HB3 := Lib.hid (ebelow_one w3 (.cells #[.string x.w, .string x.u, .int .i64 x.f, .int .i64 n] 165))
   have HS3 := Lib.hid HB3.out.size
   clear HK2 HNO hB K1
   go_wp2_with (at_builtin; refine wpList_append_own _ rfl (.tmp 27) (.tmp 29) 36 rfl w3.heap.size 165 i0 _ 4 48 Tryz.underlying36 hi hz0 hz1' hz2' rfl (by decide) _ _ _ rfl HE3.out ⟨w3.heap.size, 0, none⟩ 1 1 [.string x.w, .string x.u, .int .i64 x.f, .int .i64 n] rfl rfl (news_at _ _ _ _ rfl) (four_e _ _ _ _) (by unfold maxLen; omega) (by omega) HS3.out ?_; intro v1 w4 ho1 hgrow hiff)
   have hb4 := app_below HB3.out HS3.out HE3.out hgrow
   have ho4 : w4.ownsRow w3.heap.size 165 4 v1 [(⟨x.w, x.u, x.f, n⟩ : EnM)].length (ens [(⟨x.w, x.u, x.f, n⟩ : EnM)]) := ho1
   obtain ⟨xa, xc, hv, -, -, hsl, hnl⟩ := own_en ho4
   have hv2 : v1 = .slice xa 1 xc := hv
   subst hv2
   have K4 := K3.below hb4
   have HY := Lib.hid hsl
   have HYN := Lib.hid hnl
   clear hv ho4 ho1 hgrow hiff hb4 HE3 HB3 HS3 d0 d1 d2 d3 hsl hnl K3
   by_cases hck : c = k1
   ·have hl1 : l.length = k1 := by omega
    subst hck
    rw [hl1] at *
    have HAC : Hid (∀ W g1 T0, EnSl W (some ⟨b, off, none⟩) l → EnSl W xa [⟨x.w, x.u, x.f, n⟩] → g1 = W.heap.size → Calls Tryz.prog 233 #[.slice (some ⟨g1, 0, none⟩) 3 3] (W.alloc (.cells #[.slice (some ⟨b, off, none⟩) k c, .slice xa 1 xc, .slice (some ⟨b, off, none⟩) 0 0] T0)).drew fun e w' => ∃ v, e = .returned v ∧ w'.ownsRow W.heap.size 165 4 v G.length (ens G) ∧ Below W.heap.size W w') := fun W g1 T0 hs hs2 e1 => by
     have h := econcatR (some ⟨b, off, none⟩) xa (some ⟨b, off, none⟩) (l.take k) [⟨x.w, x.u, x.f, n⟩] (l.drop (k + 1)) c xc 0 k 1 0 W g1 T0 (by rw [List.length_take]; omega) rfl (by have := HK1.out; rw [List.length_drop]; omega) (hs.take k) hs2 (by have := HK1.out; rw [List.drop_of_length_le (by omega)]; exact EnSl.nil _ _) (fun h => by cases h) HYN.out (fun h => by cases h) e1 (by have := HK1.out; rw [List.length_take, List.length_drop]; simp; omega)
     rw [HGG.out] at h
     exact h
    clear HGG HSB
    go_wp2_with fail
    go_region_held3 (fun W => True)
     (first | exact trivial)
     (first | (go_at_call 233; refine (HAC.out _ _ _ K4.row HY.out rfl).mono ?_; rintro e w9 ⟨v, rfl, ho9, hb9⟩; have HO9 := Lib.hid ho9; have HB9 := Lib.hid hb9; clear ho9 hb9))
    go_wp2
    go_ret2
    exact Or.inr ⟨by trivial, v, rfl, own_low HO9.out K4.frame.size, K4.frame.trans (HB9.out.mono K4.frame.size)⟩
   ·have hck2 : k1 < c := by omega
    have HAC : Hid (∀ W g1 T0, EnSl W (some ⟨b, off, none⟩) l → EnSl W xa [⟨x.w, x.u, x.f, n⟩] → g1 = W.heap.size → Calls Tryz.prog 233 #[.slice (some ⟨g1, 0, none⟩) 3 3] (W.alloc (.cells #[.slice (some ⟨b, off, none⟩) k c, .slice xa 1 xc, .slice (some ⟨b, off + k1 * 4, none⟩) (l.length - k1) (c - k1)] T0)).drew fun e w' => ∃ v, e = .returned v ∧ w'.ownsRow W.heap.size 165 4 v G.length (ens G) ∧ Below W.heap.size W w') := fun W g1 T0 hs hs2 e1 => by
     have h := econcatR (some ⟨b, off, none⟩) xa (some ⟨b, off + k1 * 4, none⟩) (l.take k) [⟨x.w, x.u, x.f, n⟩] (l.drop (k + 1)) c xc (c - k1) k 1 (l.length - k1) W g1 T0 (by rw [List.length_take]; omega) rfl (by have := HK1.out; rw [List.length_drop]; omega) (hs.take k) hs2 (by rw [HK1.out]; exact hs.drop (k + 1)) (fun h => by cases h) HYN.out (fun h => by cases h) e1 (by have := HK1.out; rw [List.length_take, List.length_drop]; simp; omega)
     rw [HGG.out] at h
     exact h
    clear HGG HSB
    go_wp2_with fail
    go_region_held3 (fun W => True)
     (first | exact trivial)
     (first | (go_at_call 233; refine (HAC.out _ _ _ K4.row HY.out rfl).mono ?_; rintro e w9 ⟨v, rfl, ho9, hb9⟩; have HO9 := Lib.hid ho9; have HB9 := Lib.hid hb9; clear ho9 hb9))
    go_wp2
    go_ret2
    exact Or.inr ⟨by trivial, v, rfl, own_low HO9.out K4.frame.size, K4.frame.trans (HB9.out.mono K4.frame.size)⟩
 ·rw [decide_eq_false hk] at hany
  rw [hany]
  have hix : idxI (infE p u) l = -1 := by
   obtain rfl : k = l.length := Nat.le_antisymm HF.le (by omega)
   exact idx_miss HF
  rw [hix] at HIF
  clear HREV HF hix hany hk
  go_enter Tryz.func197, Tryz.ntmps197
  go_wp2_with fail
  refine (HIF.out _ HPC.out.row).mono ?_
  rintro e w1 ⟨rfl, hB⟩
  have K1 := Lib.hid (HPC.out.below hB)
  go_wp2
  go_ret2
  exact Or.inl ⟨by trivial, rfl, K1.out.frame⟩
end Go.Proofs.YtmfpjapiijgdgaaGreat
namespace Go.Proofs.YtmfpjapiijgdgaaGreat
open Go.RowKit
set_option linter.unusedVariables false
set_option maxRecDepth 100000
set_option maxRecDepth 100000
theorem e_without (a : Option Addr) (c : Nat) (l : List EnM) (s : ByteArray) (W : World) (h : EnSl W a l) (hl : l.length ≤ 1000) : Calls Tryz.prog 238 #[.slice a l.length c, .string s] W fun e w' => ∃ x q, e = .returned (.slice x (l.filter (wiE s)).length q) ∧ (l.filter (wiE s)).length ≤ q ∧ q ≤ maxLen ∧ (x = none → q = 0) ∧ EnSl w' x (l.filter (wiE s)) ∧ Below W.heap.size W w' := by
 refine (without_any a c l s W h (by omega)).mono ?_
 rintro e w' ⟨v, rfl, ho, hb⟩
 obtain ⟨x, q, rfl, h1, h2, h3, h4⟩ := own_en ho
 exact ⟨x, q, rfl, h1, h2, h4, h3, hb⟩
theorem e_grant (a : Option Addr) (c : Nat) (l : List EnM) (p u : ByteArray) (n : Int) (W : World) (h : EnSl W a l) (hn : a = none → c = 0) (hl : l.length ≤ 500) (hc : l.length ≤ c) (hcm : c ≤ maxLen) (hi : l.any (infE p u) = false) : Calls Tryz.prog 196 #[.slice a l.length c, .agg #[.string p, .string u], .int .i64 n] W fun e w' => ∃ x q, e = .returned (.tuple #[.slice x (grantS l (mkE p u n)).length q, .int .i64 0]) ∧ (grantS l (mkE p u n)).length ≤ q ∧ q ≤ maxLen ∧ (x = none → q = 0) ∧ EnSl w' x (grantS l (mkE p u n)) ∧ Below W.heap.size W w' := by
 refine Calls.mono (P := Tryz.prog) (grant_any a c l p u n W h hn hl hc hcm) ?_
 rintro e w' (⟨k, _, _⟩ | ⟨_, v, rfl, ho, hb⟩)
 ·rw [hi] at k; cases k
 ·obtain ⟨x, q, rfl, h1, h2, h3, h4⟩ := own_en ho
  exact ⟨x, q, rfl, h1, h2, h4, h3, hb⟩
theorem e_grant_no (a : Option Addr) (c : Nat) (l : List EnM) (p u : ByteArray) (n : Int) (W : World) (h : EnSl W a l) (hn : a = none → c = 0) (hl : l.length ≤ 500) (hc : l.length ≤ c) (hcm : c ≤ maxLen) (hi : l.any (infE p u) = true) : Calls Tryz.prog 196 #[.slice a l.length c, .agg #[.string p, .string u], .int .i64 n] W fun e w' => e = .returned (.tuple #[.slice none 0 0, .int .i64 90]) ∧ Below W.heap.size W w' := by
 refine Calls.mono (P := Tryz.prog) (grant_any a c l p u n W h hn hl hc hcm) ?_
 rintro e w' (⟨_, rfl, hb⟩ | ⟨k, _⟩)
 ·exact ⟨rfl, hb⟩
 ·rw [hi] at k; cases k
theorem e_revoke (a : Option Addr) (c : Nat) (l : List EnM) (p u : ByteArray) (n : Int) (W : World) (h : EnSl W a l) (hl : l.length ≤ 500) (hc : l.length ≤ c) (hcm : c ≤ maxLen) (hi : l.any (infE p u) = true) : Calls Tryz.prog 197 #[.slice a l.length c, .agg #[.string p, .string u], .int .i64 n] W fun e w' => ∃ x q, e = .returned (.tuple #[.slice x (revokeS l p u n).length q, .int .i64 0]) ∧ (revokeS l p u n).length ≤ q ∧ q ≤ maxLen ∧ (x = none → q = 0) ∧ EnSl w' x (revokeS l p u n) ∧ Below W.heap.size W w' := by
 refine Calls.mono (P := Tryz.prog) (revoke_any a c l p u n W h hl hc hcm) ?_
 rintro e w' (⟨k, _, _⟩ | ⟨_, v, rfl, ho, hb⟩)
 ·rw [hi] at k; cases k
 ·obtain ⟨x, q, rfl, h1, h2, h3, h4⟩ := own_en ho
  exact ⟨x, q, rfl, h1, h2, h4, h3, hb⟩
theorem e_revoke_no (a : Option Addr) (c : Nat) (l : List EnM) (p u : ByteArray) (n : Int) (W : World) (h : EnSl W a l) (hl : l.length ≤ 500) (hc : l.length ≤ c) (hcm : c ≤ maxLen) (hi : l.any (infE p u) = false) : Calls Tryz.prog 197 #[.slice a l.length c, .agg #[.string p, .string u], .int .i64 n] W fun e w' => e = .returned (.tuple #[.slice none 0 0, .int .i64 91]) ∧ Below W.heap.size W w' := by
 refine Calls.mono (P := Tryz.prog) (revoke_any a c l p u n W h hl hc hcm) ?_
 rintro e w' (⟨_, rfl, hb⟩ | ⟨k, _⟩)
 ·exact ⟨rfl, hb⟩
 ·rw [hi] at k; cases k
theorem refRightN_any (s : ByteArray) (w : World) (hs : s.size ≤ maxLen) : Calls Tryz.prog 36 #[.string s] w fun e w' => e = .returned (.bool (isN s)) ∧ w' = w := (refRight_any s w hs).mono fun e w' ⟨h1, h2⟩ => ⟨h1, h2.symm⟩
end Go.Proofs.YtmfpjapiijgdgaaGreat
namespace Go.Proofs.YtmfpjapiijgdgaaGreat
open Go.RowKit Go.Proofs
set_option linter.unusedVariables false
set_option maxRecDepth 100000
def ers (l : List Int) : List Value := l.map (.int .i64)
theorem ers_len (l : List Int) : (ers l).length = l.length := List.length_map _
theorem ers_snoc (l : List Int) (n : Int) : ers (l ++ [n]) = ers l ++ [.int .i64 n] := by simp [ers]
def ErSl (w : World) (a : Option Addr) (l : List Int) : Prop := Sl w a (ers l)
theorem ErSl.below {w w' : World} {a : Option Addr} {l : List Int} (h : ErSl w a l) (q : Below w.heap.size w w') : ErSl w' a l := Sl.below h q
theorem ErSl.nil (w : World) (a : Option Addr) : ErSl w a [] := Sl.nil _ _
theorem ErSl.at_ {w : World} {a : Option Addr} {l : List Int} (h : ErSl w a l) {k : Nat} (hk : k < l.length) : ∃ b off, a = some ⟨b, off, none⟩ ∧ b < w.heap.size ∧ w.cell? ⟨b, off + k, none⟩ = some (.int .i64 l[k]) := by
 obtain ⟨b, off, e, hlt, hc⟩ := h k (by rw [ers_len]; exact hk)
 exact ⟨b, off, e, hlt, by rw [hc]; simp [ers]⟩
theorem evsl_setB {W : World} {g : Nat} {x : SaL} {t : TypeId} (h : W.heap[g]? = some (.cells (saC x) t (0, 0))) {a : Option Addr} {l : List EvM} (ho : EvSl W a l) (i : Nat) (v : Value) : EvSl (W.setCell ⟨g, i, none⟩ v) a l := fun k hk => by
 obtain ⟨b, off, e, hlt, h0⟩ := ho k hk
 have hne : b ≠ g := fun e => by
  subst e
  have h2 : W.cell? ⟨b, off + k * 6 + 2, none⟩ = some (.string l[k].user) := h0 2 (by decide)
  exact six_string h h2
 exact ⟨b, off, e, by rw [size_set]; exact hlt, fun i hi => (cell_far (p := ⟨b, off + k * 6 + i, none⟩) hne).trans (h0 i hi)⟩
theorem evsl_setS {w W : World} {g : Nat} {x y : SaL} {t : TypeId} (h : SB w g t x W) (hy : SaAt W y) {a : Option Addr} {l : List EvM} (ho : EvSl W a l) : EvSl (setS W g y) a l := by
 have h0 := SB.setNow h y.now
 have y0 := SaAt.setB h.blk hy 0 (.int .i64 y.now)
 have o0 := evsl_setB h.blk ho 0 (.int .i64 y.now)
 have h1 := SB.setHor h0 y.hor
 have y1 := SaAt.setB h0.blk y0 1 (.int .i64 y.hor)
 have o1 := evsl_setB h0.blk o0 1 (.int .i64 y.hor)
 have h2 := SB.setOp h1 rfl y1.op y1.oc
 have y2 := SaAt.setB h1.blk y1 2 (.slice y.oa y.op.length y.oc)
 have o2 := evsl_setB h1.blk o1 2 (.slice y.oa y.op.length y.oc)
 have h3 := SB.setUs h2 rfl y2.us y2.uc
 have y3 := SaAt.setB h2.blk y2 3 (.slice y.ua y.us.length y.uc)
 have o3 := evsl_setB h2.blk o2 3 (.slice y.ua y.us.length y.uc)
 have h4 := SB.setSu h3 rfl y3.su y3.sc
 have o4 := evsl_setB h3.blk o3 4 (.slice y.sa y.su.length y.sc)
 exact evsl_setB h4.blk o4 5 (.slice y.ta y.tb.length y.tc)
theorem taken_next (s : SaM) (l : List EvM) (j : Nat) (h : j < l.length) : takenE s (l.take (j + 1)) = takenE s (l.take j) ++ (if errE (foldE s (l.take j)) l[j] = 0 then [l[j]] else []) := by
 rw [List.take_succ_eq_append_getElem h, takenE_append]
 rfl
theorem taken_told (s : SaM) (l : List EvM) (j : Nat) (h : j < l.length) : takenE s (l.take (j + 1)) = takenE s (l.take j) ++ (if (errsE s l)[j]'(by rw [errsE_len]; exact h) = 0 then [l[j]] else []) := by
 rw [taken_next s l j h, errsE_at l s j h]
end Go.Proofs.YtmfpjapiijgdgaaGreat
namespace Go.Proofs.YtmfpjapiijgdgaaGreat
open Go.RowKit Go.Proofs
set_option linter.unusedVariables false
set_option maxRecDepth 100000
set_option maxRecDepth 100000
theorem usv_snoc (D : List UsL) (y : UsL) : usv (D ++ [y]) = usv D ++ [.string y.u, .slice y.a y.l.length y.c] := by
 unfold usv
 rw [List.map_append]
 exact pps_snoc _ _
theorem umS_snoc (E : List UsL) (y : UsL) : umS (E ++ [y]) = umS E ++ [y.m] := by unfold umS; rw [List.map_append]; rfl
theorem rcmp11 (a b : ByteArray) (w : World) (ha : a.size ≤ maxLen) (hb : b.size ≤ maxLen) :
  Calls Tryz.prog 69 #[.string a, .string b] w fun e w' => e = .returned (.int .i64 (cmpS a b)) ∧ Below w.heap.size w w' :=
 (refCmp_any a b w ha hb).mono fun e w' ⟨h1, h2⟩ => ⟨h1, Drew.below h2 _⟩
theorem tbv_snoc (D : List TbM) (y : TbM) : tbv (D ++ [y]) = tbv D ++ [.string y.u, .int .i64 y.a] := by
 unfold tbv
 rw [List.map_append]
 exact pps_snoc _ _
end Go.Proofs.YtmfpjapiijgdgaaGreat
