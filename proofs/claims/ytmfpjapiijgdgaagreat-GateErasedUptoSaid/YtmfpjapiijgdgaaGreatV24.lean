/- Texts of mine, one behind the other, of each what is wanted. -/
import Derived.Test.YtmfpjapiijgdgaaGreatV00
import Derived.Test.YtmfpjapiijgdgaaGreatShelf
import Derived.Test.YtmfpjapiijgdgaaGreatRows
import Derived.Test.YtmfpjapiijgdgaaGreatV01
import Derived.Test.YtmfpjapiijgdgaaGreatV03
import Derived.Test.YtmfpjapiijgdgaaGreatV05
import Derived.Test.YtmfpjapiijgdgaaGreatV06
import Derived.Test.YtmfpjapiijgdgaaGreatV10
import Derived.Test.YtmfpjapiijgdgaaGreatV13
import Derived.Test.YtmfpjapiijgdgaaGreatV16
import Derived.Test.YtmfpjapiijgdgaaGreatV20
namespace Go.Proofs.YtmfpjapiijgdgaaGreat
open Go.RowKit
set_option linter.unusedVariables false
set_option maxRecDepth 100000
set_option maxRecDepth 100000
def CapAt (W : World) (g : Nat) (v : Value) : Prop := W.cell? ⟨g, 0, none⟩ = some v ∧ g < W.heap.size
theorem CapAt.below {W W' : World} {g : Nat} {v : Value} (h : CapAt W g v) (q : Below W.heap.size W W') : CapAt W' g v :=
 ⟨(q.cell (p := ⟨g, 0, none⟩) h.2).trans h.1, Nat.lt_of_lt_of_le h.2 q.size⟩
theorem CapAt.new (W : World) (v : Value) (t : TypeId) : CapAt (W.alloc (.cells #[v] t)) W.heap.size v :=
 ⟨cell_of_row _ _ _ _ _ _ (heap_alloc_new W _), by rw [size1]; omega⟩
def wiE (s : ByteArray) (e : EnM) : Bool := decide (e.w ≠ s) && decide (e.u ≠ s)
theorem wi_eq (s : ByteArray) (e : EnM) : wiE s e = !(eqS s e.w || eqS s e.u) := by
 have h1 := eqS_iff s e.w
 have h2 := eqS_iff s e.u
 unfold wiE
 rw [Bool.eq_iff_iff]
 simp only [Bool.and_eq_true, decide_eq_true_eq, Bool.not_eq_true', Bool.or_eq_false_iff]
 rw [← Bool.not_eq_true, ← Bool.not_eq_true, h1, h2]
 exact ⟨fun h => ⟨fun e => h.1 e.symm, fun e => h.2 e.symm⟩, fun h => ⟨fun e => h.1 e.symm, fun e => h.2 e.symm⟩⟩
theorem fil_take (q : EnM → Bool) (l : List EnM) (j : Nat) (h : j < l.length) : (l.take (j + 1)).filter q = (l.take j).filter q ++ (if q l[j] = true then [l[j]] else []) := by
 rw [List.take_succ_eq_append_getElem h, List.filter_append, List.filter_cons, List.filter_nil]
theorem fil_len (q : EnM → Bool) (l : List EnM) (j : Nat) : ((l.take j).filter q).length ≤ j := Nat.le_trans (List.length_filter_le _ _) (by simp; omega)
set_option maxHeartbeats 1000000 in
theorem wic_any (e : EnM) (s : ByteArray) (g : Nat) (W : World) (h : CapAt W g (.string s)) :
  Calls Tryz.prog 264 #[enV e, .pointer (some ⟨g, 0, none⟩)] W fun r w' => r = .returned (.bool (wiE s e)) ∧ Below W.heap.size W w' := by
 have hb := ebelow_one W (.cells #[.string e.w, .string e.u, .int .i64 e.f, .int .i64 e.t] 165)
 obtain ⟨c0, hg⟩ := h.below hb
 have HB := Lib.hid hb
 have HE := Lib.hid (wi_eq s e)
 have HC := Lib.hid (fun W => pairHas_any e.w e.u s W)
 unfold pr at HC
 unfold enV
 generalize (eqS s e.w || eqS s e.u) = r at *
 clear hb hg h
 go_enter Tryz.func264, Tryz.ntmps264
 go_wp2_with fail
 refine (HC.out _).mono ?_
 rintro r w2 ⟨rfl, hB⟩
 go_wp2
 go_ret
 exact ⟨by rw [HE.out]; rfl, HB.out.trans (hB.mono HB.out.size)⟩
set_option maxHeartbeats 2000000 in
theorem thosew_any (a : Option Addr) (c : Nat) (l : List EnM) (s : ByteArray) (g : Nat) (w : World) (hr : EnSl w a l) (h : CapAt w g (.string s)) (hl : l.length ≤ 100000) :
  Calls Tryz.prog 186 #[.slice a l.length c, .func (.func 264) #[] #[.pointer (some ⟨g, 0, none⟩)]] w fun e w' => ∃ v, e = .returned v ∧ w'.ownsRow w.heap.size 165 4 v (l.filter (wiE s)).length (ens (l.filter (wiE s))) ∧ Below w.heap.size w w' := by
 obtain ⟨i0, hi, hz0, hz1, hz2⟩ := info_parts infoEn
 have HR := Lib.hid hr
 have HP := Lib.hid h
 have HC := Lib.hid (fun e V k => wic_any e s g V k)
 unfold enV at HC
 clear hr h
 go_enter Tryz.func186, Tryz.ntmps186
 go_wp2
 go_loopw [5, 10] (fun v i wr => ∃ (j : Nat), j ≤ l.length ∧ i = .int .i64 j ∧ Hid (wr.ownsRow w.heap.size 165 4 v ((l.take j).filter (wiE s)).length (ens ((l.take j).filter (wiE s)))) ∧ Hid (Below w.heap.size w wr)) (fun _ i _ => l.length - (intOf i).toNat)
 case atStart => exact ⟨0, by omega, rfl, ⟨rfl, .inl ⟨rfl, rfl⟩⟩, Below.refl _ _⟩
 case round =>
  obtain ⟨j, hj, rfl, HO, HB⟩ := hrel
  by_cases hjl : j < l.length
  ·obtain ⟨b, off, rfl, hbl, hc0, hc1, hc2, hc3⟩ := (HR.out.below HB.out).at_ hjl
   have HT := Lib.hid (fil_take (wiE s) l j hjl)
   have HLN := Lib.hid (fil_len (wiE s) l j)
   generalize l[j] = x at *
   generalize (l.take j).filter (wiE s) = m at *
   have hb0 := ebelow_one wr (.cells #[.string x.w, .string x.u, .int .i64 x.f, .int .i64 x.t] 165)
   have HX := Lib.hid (heap_alloc_new wr (.cells #[.string x.w, .string x.u, .int .i64 x.f, .int .i64 x.t] 165))
   have HPW := Lib.hid ((HP.out.below HB.out).below hb0)
   have HB0 := Lib.hid hb0
   have HCC := Lib.hid (HC.out x _ HPW.out)
   have HZ := Lib.hid (size1 wr (.cells #[.string x.w, .string x.u, .int .i64 x.f, .int .i64 x.t] 165))
   clear hb0 HC HPW
   cases hq : (wiE s) x with
   | true =>
    have HC2 : Hid ((l.take (j + 1)).filter (wiE s) = m ++ [x]) := by have := HT.out; rwa [if_pos hq] at this
    rw [hq] at HCC
    clear HT hq
    go_wp2_with fail
    refine HCC.out.mono ?_
    rintro r w2 ⟨rfl, hB⟩
    have hb2 : Below wr.heap.size wr w2 := HB0.out.trans (hB.mono (by rw [HZ.out]; omega))
    obtain ⟨d0, d1, d2, d3⟩ := ecells4 ((hB.block _ (heap_lt HX.out)).trans HX.out)
    have HO2 := Lib.hid (own_below HO.out (hb2.trans ((ebelow_one w2 (.cells #[.string x.w, .string x.u, .int .i64 x.f, .int .i64 x.t] 165)).mono hb2.size)))
    have HB2 : Hid (Below w.heap.size w (w2.alloc (.cells #[.string x.w, .string x.u, .int .i64 x.f, .int .i64 x.t] 165))) := HB.out.trans ((hb2.trans ((ebelow_one w2 _).mono hb2.size)).mono HB.out.size)
    have HS2 := Lib.hid HB2.out.size
    have hlm := HLN.out
    clear hB hb2 hc0 hc1 hc2 hc3 HX HZ HB0 HCC
    go_wp2_with (at_builtin; refine wpList_append_own _ rfl (.tmp 17) (.tmp 19) 36 rfl w.heap.size 165 i0 _ 4 48 Tryz.underlying36 hi hz0 hz1 hz2 rfl (by decide) _ _ _ rfl HO2.out ⟨w2.heap.size, 0, none⟩ 1 1 [.string x.w, .string x.u, .int .i64 x.f, .int .i64 x.t] rfl rfl (news_at _ _ _ _ rfl) (four_e _ _ _ _) (by unfold maxLen; omega) (by omega) HS2.out ?_; intro v' w3 hown' hgrow hiff)
    have HB3 := Lib.hid (app_below HB2.out HS2.out HO2.out hgrow)
    have HO3 := Lib.hid hown'
    clear hown' hgrow hiff HB2 HS2 HO2
    go_wp2
    go_roundw
    case rel => exact ⟨j + 1, by omega, by go_num, (by unfold Hid; rw [HC2.out, List.length_append, ens_snoc]; exact HO3.out), HB3⟩
    case measure => simp [intOf]; omega
   | false =>
    have HC2 : Hid ((l.take (j + 1)).filter (wiE s) = m) := by have := HT.out; rwa [if_neg (by rw [hq]; exact Bool.false_ne_true), List.append_nil] at this
    rw [hq] at HCC
    clear HT hq
    go_wp2_with fail
    refine HCC.out.mono ?_
    rintro r w2 ⟨rfl, hB⟩
    have hb2 : Below wr.heap.size wr w2 := HB0.out.trans (hB.mono (by rw [HZ.out]; omega))
    have HO2 := Lib.hid (own_below HO.out hb2)
    have HB2 : Hid (Below w.heap.size w w2) := HB.out.trans (hb2.mono HB.out.size)
    clear hB hb2 hc0 hc1 hc2 hc3 HX HZ HB0 HCC
    go_wp2
    go_roundw
    case rel => exact ⟨j + 1, by omega, by go_num, (by unfold Hid; rw [HC2.out]; exact HO2.out), HB2⟩
    case measure => simp [intOf]; omega
  ·obtain rfl : j = l.length := by omega
   rw [List.take_of_length_le (Nat.le_refl _)] at HO
   go_wp2
   go_ret
   exact ⟨_, rfl, HO.out, HB.out⟩
set_option maxHeartbeats 1000000 in
theorem without_any (a : Option Addr) (c : Nat) (l : List EnM) (s : ByteArray) (w : World) (hr : EnSl w a l) (hl : l.length ≤ 100000) :
  Calls Tryz.prog 238 #[.slice a l.length c, (.string s)] w fun e w' => ∃ v, e = .returned v ∧ w'.ownsRow w.heap.size 165 4 v (l.filter (wiE s)).length (ens (l.filter (wiE s))) ∧ Below w.heap.size w w' := by
 have hb := ebelow_one w (.cells #[.string s] 9)
 have HC := Lib.hid (thosew_any a c l s w.heap.size (w.alloc (.cells #[.string s] 9)) (hr.below hb) (CapAt.new _ _ _) hl)
 have HB := Lib.hid hb
 clear hr hb
 go_enter Tryz.func238, Tryz.ntmps238
 go_wp2_with fail
 refine HC.out.mono ?_
 rintro r w2 ⟨v, rfl, ho, hB⟩
 go_wp2
 go_ret
 exact ⟨v, rfl, own_low ho HB.out.size, HB.out.trans (hB.mono HB.out.size)⟩
end Go.Proofs.YtmfpjapiijgdgaaGreat
namespace Go.Proofs.YtmfpjapiijgdgaaGreat
open Go.RowKit Go.Sort Go.Proofs
set_option linter.unusedVariables false
set_option maxRecDepth 100000
set_option maxRecDepth 100000
theorem own_spm {w : World} {B e : Nat} {v : Value} {l : List SpM} (h : w.ownsRow B e 2 v l.length (sps l)) : ∃ a c, v = .slice a l.length c ∧ l.length ≤ c ∧ c ≤ maxLen ∧ SpSl w a l ∧ (a = none → c = 0) := by
 obtain ⟨a, c, rfl, hc, hs⟩ := own_sp h
 refine ⟨a, c, rfl, hc, ?_, hs, ?_⟩
 ·rcases h.2 with ⟨h0, _⟩ | ⟨g, cap', _, h0, _, _, _, h1, _⟩
  ·injection h0 with e1 e2 e3
   rw [e3]; unfold maxLen; omega
  ·injection h0 with e1 e2 e3
   rw [e3]; exact h1
 ·intro ha
  rcases h.2 with ⟨h0, _⟩ | ⟨g, cap', _, h0, _, _, _, h1, _⟩
  ·injection h0 with e1 e2 e3
  ·injection h0 with e1 e2 e3
   rw [ha] at e1; cases e1
set_option maxHeartbeats 2000000 in
theorem meet_any (xa : Option Addr) (ca : Nat) (xb : Option Addr) (cb : Nat) (A B : List SpM) (w : World) (ha : SpSl w xa A) (hb : SpSl w xb B) (hca : A.length ≤ ca) (hcb : B.length ≤ cb) (hcm : ca ≤ maxLen ∧ cb ≤ maxLen) (hl : A.length + B.length ≤ 100000) :
  Calls Tryz.prog 164 #[.slice xa A.length ca, .slice xb B.length cb] w fun e w' => ∃ (v : Value) (r : List SpM), e = .returned v ∧ IsSet (fun x => HasL A x ∧ HasL B x) r ∧ w'.ownsRow w.heap.size 90 2 v r.length (sps r) ∧ r.length ≤ A.length + B.length ∧ Below w.heap.size w w' := by
 have HNA := Lib.hid (norm_any xa ca A w ha (by omega) hca hcm.1)
 have HNB := Lib.hid (fun W (h : Below w.heap.size w W) => norm_any xb cb B W (hb.below h) (by omega) hcb hcm.2)
 have HC := Lib.hid common_any
 clear ha hb
 go_enter Tryz.func164, Tryz.ntmps164
 go_wp2_with fail
 refine HNA.out.mono ?_
 rintro e w1 ⟨v1, r1, rfl, hs1, hl1, ho1, hB1⟩
 go_wp2_with fail
 refine (HNB.out _ hB1).mono ?_
 rintro e w2 ⟨v2, r2, rfl, hs2, hl2, ho2, hB2⟩
 have ho1' := own_below ho1 hB2
 obtain ⟨a1, c1, rfl, hc1, hm1, hp1, _⟩ := own_spm ho1'
 obtain ⟨a2, c2, rfl, hc2, hm2, hp2, _⟩ := own_spm ho2
 have HB2 := Lib.hid (hB1.trans (hB2.mono hB1.size))
 have HS1 := Lib.hid hs1
 have HS2 := Lib.hid hs2
 have HCC := Lib.hid (HC.out a1 c1 a2 c2 r1 r2 w2 hp1 hp2 hs1.1.1 hs2.1.1 hc1 hc2 ⟨hm1, hm2⟩ (by omega))
 clear hs1 hs2 ho1 ho2 ho1' hB1 hB2 hp1 hp2 HC HNB HNA
 go_wp2_with fail
 refine HCC.out.mono ?_
 rintro e w3 ⟨v3, r3, rfl, hs3, ho3, hl3, hB3⟩
 have HS3 : Hid (IsSet (fun x => HasL A x ∧ HasL B x) r3) := hs3.congr fun x => and_congr (HS1.out.2 x) (HS2.out.2 x)
 have HO3 := Lib.hid (own_low ho3 HB2.out.size)
 have HB3 := Lib.hid (HB2.out.trans (hB3.mono HB2.out.size))
 clear hs3 ho3 hB3 HCC
 go_wp2
 go_ret
 first | exact ⟨_, r3, rfl, HS3.out, HO3.out, by omega, HB3.out⟩ | exact ⟨_, rfl, r3, HS3.out, HO3.out, by omega, HB3.out⟩
end Go.Proofs.YtmfpjapiijgdgaaGreat
namespace Go.Proofs.YtmfpjapiijgdgaaGreat
open Go.RowKit Go.Proofs
set_option linter.unusedVariables false
set_option maxRecDepth 100000
set_option maxRecDepth 100000
theorem per_take (l : List EnM) (p u : ByteArray) (j : Nat) (h : j < l.length) : perS (l.take (j + 1)) p u = perS (l.take j) p u ++ (if ofE p u l[j] = true then [l[j].sp] else []) := by
 unfold perS
 rw [fil_take _ l j h, List.map_append]
 congr 1
 by_cases h1 : ofE p u l[j] = true
 ·rw [if_pos h1, if_pos h1]; rfl
 ·rw [if_neg h1, if_neg h1]; rfl
theorem per_tlen (l : List EnM) (p u : ByteArray) (j : Nat) : (perS (l.take j) p u).length ≤ j := by
 unfold perS
 rw [List.length_map]
 exact fil_len _ l j
set_option maxHeartbeats 4000000 in
theorem periods_any (a : Option Addr) (c : Nat) (l : List EnM) (p u : ByteArray) (w : World) (hr : EnSl w a l) (hl : l.length ≤ 1000) :
  Calls Tryz.prog 43 #[.slice a l.length c, pr p u] w fun e w' => ∃ v r, e = .returned v ∧ IsSet (HasL (perS l p u)) r ∧ r.length ≤ l.length ∧ w'.ownsRow w.heap.size 90 2 v r.length (sps r) ∧ Below w.heap.size w w' := by
 obtain ⟨i0, hi, hz0, hz1, hz2⟩ := info_parts infoSpan
 have HK0 := Lib.hid (PK.new hr p u 79)
 have HNM := Lib.hid (fun x q W (h : SpSl W x (perS l p u)) h1 h2 => norm_any x q (perS l p u) W h (by have := per_len l p u; omega) h1 h2)
 have HPL := Lib.hid (per_len l p u)
 unfold pr
 clear hr
 go_enter Tryz.func43, Tryz.ntmps43
 go_wp2
 generalize w.alloc (.cells #[.string p, .string u] 79) = W0 at *
 generalize w.heap.size = g at *
 go_loopw [5, 10] (fun v i wr => ∃ (j : Nat), j ≤ l.length ∧ i = .int .i64 j ∧ Hid (wr.ownsRow W0.heap.size 90 2 v (perS (l.take j) p u).length (sps (perS (l.take j) p u))) ∧ Hid (Below W0.heap.size W0 wr)) (fun _ i _ => l.length - (intOf i).toNat)
 case atStart => exact ⟨0, by omega, rfl, ⟨rfl, .inl ⟨rfl, rfl⟩⟩, Below.refl _ _⟩
 case round =>
  obtain ⟨j, hj, rfl, HO, HB⟩ := hrel
  have HKW := Lib.hid (HK0.out.below HB.out)
  by_cases hjl : j < l.length
  ·obtain ⟨b, off, rfl, hbl, hc0, hc1, hc2, hc3⟩ := HKW.out.row.at_ hjl
   have HT := Lib.hid (per_take l p u j hjl)
   have HLN := Lib.hid (per_tlen l p u j)
   generalize l[j] = x at *
   generalize perS (l.take j) p u = m at *
   have HTT : Hid (x.w = p ∧ x.u = u → perS (l.take (j + 1)) p u = m ++ [x.sp]) := fun h => by have := HT.out; rwa [if_pos (ofE_iff.2 h)] at this
   have HTF : Hid (¬ (x.w = p ∧ x.u = u) → perS (l.take (j + 1)) p u = m) := fun h => by have := HT.out; rwa [if_neg (fun k => h (ofE_iff.1 k)), List.append_nil] at this
   have hb0 := ebelow_one wr (.cells #[.string x.w, .string x.u, .int .i64 x.f, .int .i64 x.t] 165)
   obtain ⟨c0, c1, -⟩ := (HKW.out.below hb0).pc
   obtain ⟨d0, d1, d2, d3⟩ := ecells4 (heap_alloc_new wr (.cells #[.string x.w, .string x.u, .int .i64 x.f, .int .i64 x.t] 165))
   have HB0 := Lib.hid hb0
   have HO1 := Lib.hid (own_below HO.out hb0)
   have HB1 := Lib.hid (HB.out.trans (hb0.mono HB.out.size))
   clear hb0 HT
   by_cases h1 : x.w = p
   ·have e1 : (x.w.toList == p.toList) = true := by rw [h1]; exact str_eq p
    by_cases h2 : x.u = u
    ·have e2 : (x.u.toList == u.toList) = true := by rw [h2]; exact str_eq u
     have HC2 := Lib.hid (HTT.out ⟨h1, h2⟩)
     clear HTT HTF h1 h2
     generalize hW1 : wr.alloc (.cells #[.string x.w, .string x.u, .int .i64 x.f, .int .i64 x.t] 165) = W1 at *
     have HO2 := Lib.hid (own_below HO1.out (ebelow_one W1 (.cells #[.int .i64 x.f, .int .i64 x.t] 90)))
     have HB2 : Hid (Below W0.heap.size W0 (W1.alloc (.cells #[.int .i64 x.f, .int .i64 x.t] 90))) := HB1.out.trans ((ebelow_one W1 _).mono HB1.out.size)
     have HS2 := Lib.hid HB2.out.size
     have hlm := HLN.out
     rw [← hW1] at c0 c1 d0 d1 d2 d3 HO2 HB2 HS2
     clear hW1
     go_wp2_with (at_builtin; refine wpList_append_own _ rfl (.tmp 18) (.tmp 21) 76 rfl W0.heap.size 90 i0 _ 2 16 Tryz.underlying76 hi hz0 hz1 hz2 rfl (by decide) _ _ _ rfl HO2.out ⟨wr.heap.size + 1, 0, none⟩ 1 1 [.int .i64 x.f, .int .i64 x.t] rfl rfl (news_at _ _ _ _ (size1 _ _).symm) (two_one _ _) (by unfold maxLen; omega) (by omega) HS2.out ?_; intro v' w3 hown' hgrow hiff)
     have HB3 := Lib.hid (app_below HB2.out HS2.out HO2.out hgrow)
     have HO3 := Lib.hid hown'
     clear hown' hgrow hiff HB2 HS2 HO2
     go_wp2
     go_roundw
     case rel => exact ⟨j + 1, by omega, by go_num, (by unfold Hid; rw [HC2.out, List.length_append, sps_snoc]; exact HO3.out), HB3⟩
     case measure => simp [intOf]; omega
    ·have e2 := str_ne h2
     have HC2 := Lib.hid (HTF.out (fun h => h2 h.2))
     clear HTT HTF h1 h2
     go_wp2
     go_roundw
     case rel => exact ⟨j + 1, by omega, by go_num, (by unfold Hid; rw [HC2.out]; exact HO1.out), HB1⟩
     case measure => simp [intOf]; omega
   ·have e1 := str_ne h1
    have HC2 := Lib.hid (HTF.out (fun h => h1 h.1))
    clear HTT HTF h1
    go_wp2
    go_roundw
    case rel => exact ⟨j + 1, by omega, by go_num, (by unfold Hid; rw [HC2.out]; exact HO1.out), HB1⟩
    case measure => simp [intOf]; omega
  ·obtain rfl : j = l.length := by omega
   rw [List.take_of_length_le (Nat.le_refl _)] at HO
   obtain ⟨x, q, rfl, h1, h2, h3, -⟩ := own_spm HO.out
   have HC := Lib.hid (HNM.out x q _ h3 h1 h2)
   have HF := Lib.hid (HKW.out.frame)
   clear h1 h2 h3 HNM HO
   go_wp2_with fail
   refine HC.out.mono ?_
   rintro e w2 ⟨v, r, rfl, hs, hrl, ho, hB⟩
   go_wp2
   go_ret
   exact ⟨v, r, rfl, hs, Nat.le_trans hrl HPL.out, own_low ho HF.out.size, HF.out.trans (hB.mono HF.out.size)⟩
end Go.Proofs.YtmfpjapiijgdgaaGreat
namespace Go.Proofs.YtmfpjapiijgdgaaGreat
open Go.ChangeShapes Go.WideShapes Go.ChangeAt Go.RowKit
set_option linter.unusedVariables false
set_option maxRecDepth 100000
set_option maxRecDepth 100000
theorem wf64 {n : Int} (h : (Lit.int .i64 n).wf = true) : I64 n := by
 have e1 : IntKind.i64.min = -9223372036854775808 := by decide
 have e2 : IntKind.i64.max = 9223372036854775807 := by decide
 have h' : (decide (IntKind.i64.min ≤ n) && decide (n ≤ IntKind.i64.max)) = true := h
 rw [e1, e2, Bool.and_eq_true, decide_eq_true_eq, decide_eq_true_eq] at h'
 exact h'
end Go.Proofs.YtmfpjapiijgdgaaGreat
