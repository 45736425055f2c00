/- Texts of mine, one behind the other, of each what is wanted: AB9. -/
import Derived.Test.YtjhdhfokhkcamaaGreatP02
import Derived.Test.YtjhdhfokhkcamaaGreatP03
namespace Go.Proofs.YtjhdhfokhkcamaaGreat
open Go.RowKit
set_option linter.unusedVariables false
set_option maxRecDepth 100000
set_option maxRecDepth 100000
def CapAt (W : World) (g : Nat) (v : Value) : Prop := W.cell? ⟨g, 0, none⟩ = some v ∧ g < W.heap.size
theorem CapAt.below {W W' : World} {g : Nat} {v : Value} (h : CapAt W g v) (q : Below W.heap.size W W') : CapAt W' g v :=
  ⟨(q.cell (p := ⟨g, 0, none⟩) h.2).trans h.1, Nat.lt_of_lt_of_le h.2 q.size⟩
theorem CapAt.new (W : World) (v : Value) (t : TypeId) : CapAt (W.alloc (.cells #[v] t)) W.heap.size v :=
  ⟨cell_of_row _ _ _ _ _ _ (heap_alloc_new W _), by rw [size1]; omega⟩
def wiE (s : ByteArray) (e : EnM) : Bool := decide (e.w ≠ s) && decide (e.u ≠ s)
def afE (t : Int) (e : EnM) : Bool := decide (t < e.t)
theorem wi_eq (s : ByteArray) (e : EnM) : wiE s e = !(eqS s e.w || eqS s e.u) := by
  have h1 := eqS_iff s e.w
  have h2 := eqS_iff s e.u
  unfold wiE
  rw [Bool.eq_iff_iff]
  simp only [Bool.and_eq_true, decide_eq_true_eq, Bool.not_eq_true', Bool.or_eq_false_iff]
  rw [← Bool.not_eq_true, ← Bool.not_eq_true, h1, h2]
  exact ⟨fun h => ⟨fun e => h.1 e.symm, fun e => h.2 e.symm⟩, fun h => ⟨fun e => h.1 e.symm, fun e => h.2 e.symm⟩⟩
theorem fil_take (q : EnM → Bool) (l : List EnM) (j : Nat) (h : j < l.length) : (l.take (j + 1)).filter q = (l.take j).filter q ++ (if q l[j] = true then [l[j]] else []) := by
  rw [List.take_succ_eq_append_getElem h, List.filter_append, List.filter_cons, List.filter_nil]
theorem fil_len (q : EnM → Bool) (l : List EnM) (j : Nat) : ((l.take j).filter q).length ≤ j := Nat.le_trans (List.length_filter_le _ _) (by simp; omega)
set_option maxHeartbeats 1000000 in
theorem wic_any (e : EnM) (s : ByteArray) (g : Nat) (W : World) (h : CapAt W g (.string s)) :
    Calls Tryz.prog 198 #[enV e, .pointer (some ⟨g, 0, none⟩)] W fun r w' => r = .returned (.bool (wiE s e)) ∧ Below W.heap.size W w' := by
  have hb := ebelow_one W (.cells #[.string e.w, .string e.u, .int .i64 e.f, .int .i64 e.t] 123)
  obtain ⟨c0, hg⟩ := h.below hb
  have HB := Lib.hid hb
  have HE := Lib.hid (wi_eq s e)
  have HC := Lib.hid (fun W => pairHas_any e.w e.u s W)
  unfold pr at HC
  unfold enV
  generalize (eqS s e.w || eqS s e.u) = r at *
  clear hb hg h
  go_enter Tryz.func198, Tryz.ntmps198
  go_wp2_with fail
  refine (HC.out _).mono ?_
  rintro r w2 ⟨rfl, hB⟩
  go_wp2
  go_ret
  exact ⟨by rw [HE.out]; rfl, HB.out.trans (hB.mono HB.out.size)⟩
set_option maxHeartbeats 1000000 in
theorem afc_any (e : EnM) (t : Int) (g : Nat) (W : World) (h : CapAt W g (.int .i64 t)) :
    Calls Tryz.prog 142 #[enV e, .pointer (some ⟨g, 0, none⟩)] W fun r w' => r = .returned (.bool (afE t e)) ∧ Below W.heap.size W w' := by
  have hb := ebelow_one W (.cells #[.string e.w, .string e.u, .int .i64 e.f, .int .i64 e.t] 123)
  obtain ⟨c0, hg⟩ := h.below hb
  have HB := Lib.hid hb
  unfold enV
  clear hb hg h
  go_enter Tryz.func142, Tryz.ntmps142
  go_wp2
  go_ret
  exact ⟨rfl, HB.out⟩
set_option maxHeartbeats 2000000 in
theorem thosew_any (a : Option Addr) (c : Nat) (l : List EnM) (s : ByteArray) (g : Nat) (w : World) (hr : EnSl w a l) (h : CapAt w g (.string s)) (hl : l.length ≤ 100000) :
    Calls Tryz.prog 141 #[.slice a l.length c, .func (.func 198) #[] #[.pointer (some ⟨g, 0, none⟩)]] w fun e w' => ∃ v, e = .returned v ∧ w'.ownsRow w.heap.size 123 4 v (l.filter (wiE s)).length (ens (l.filter (wiE s))) ∧ Below w.heap.size w w' := by
  obtain ⟨i0, hi, hz0, hz1, hz2⟩ := info_parts infoEn
  have HR := Lib.hid hr
  have HP := Lib.hid h
  have HC := Lib.hid (fun e V k => wic_any e s g V k)
  unfold enV at HC
  clear hr h
  go_enter Tryz.func141, Tryz.ntmps141
  go_wp2
  go_loopw [5, 10] (fun v i wr => ∃ (j : Nat), j ≤ l.length ∧ i = .int .i64 j ∧ Hid (wr.ownsRow w.heap.size 123 4 v ((l.take j).filter (wiE s)).length (ens ((l.take j).filter (wiE s)))) ∧ Hid (Below w.heap.size w wr)) (fun _ i _ => l.length - (intOf i).toNat)
  case atStart => exact ⟨0, by omega, rfl, ⟨rfl, .inl ⟨rfl, rfl⟩⟩, Below.refl _ _⟩
  case round =>
    obtain ⟨j, hj, rfl, HO, HB⟩ := hrel
    by_cases hjl : j < l.length
    · obtain ⟨b, off, rfl, hbl, hc0, hc1, hc2, hc3⟩ := (HR.out.below HB.out).at_ hjl
      have HT := Lib.hid (fil_take (wiE s) l j hjl)
      have HLN := Lib.hid (fil_len (wiE s) l j)
      generalize l[j] = x at *
      generalize (l.take j).filter (wiE s) = m at *
      have hb0 := ebelow_one wr (.cells #[.string x.w, .string x.u, .int .i64 x.f, .int .i64 x.t] 123)
      have HX := Lib.hid (heap_alloc_new wr (.cells #[.string x.w, .string x.u, .int .i64 x.f, .int .i64 x.t] 123))
      have HPW := Lib.hid ((HP.out.below HB.out).below hb0)
      have HB0 := Lib.hid hb0
      have HCC := Lib.hid (HC.out x _ HPW.out)
      have HZ := Lib.hid (size1 wr (.cells #[.string x.w, .string x.u, .int .i64 x.f, .int .i64 x.t] 123))
      clear hb0 HC HPW
      cases hq : (wiE s) x with
      | true =>
        have HC2 : Hid ((l.take (j + 1)).filter (wiE s) = m ++ [x]) := by have := HT.out; rwa [if_pos hq] at this
        rw [hq] at HCC
        clear HT hq
        go_wp2_with fail
        refine HCC.out.mono ?_
        rintro r w2 ⟨rfl, hB⟩
        have hb2 : Below wr.heap.size wr w2 := HB0.out.trans (hB.mono (by rw [HZ.out]; omega))
        obtain ⟨d0, d1, d2, d3⟩ := ecells4 ((hB.block _ (heap_lt HX.out)).trans HX.out)
        have HO2 := Lib.hid (own_below HO.out (hb2.trans ((ebelow_one w2 (.cells #[.string x.w, .string x.u, .int .i64 x.f, .int .i64 x.t] 123)).mono hb2.size)))
        have HB2 : Hid (Below w.heap.size w (w2.alloc (.cells #[.string x.w, .string x.u, .int .i64 x.f, .int .i64 x.t] 123))) := HB.out.trans ((hb2.trans ((ebelow_one w2 _).mono hb2.size)).mono HB.out.size)
        have HS2 := Lib.hid HB2.out.size
        have hlm := HLN.out
        clear hB hb2 hc0 hc1 hc2 hc3 HX HZ HB0 HCC
        go_wp2_with (at_builtin; refine wpList_append_own _ rfl (.tmp 17) (.tmp 19) 35 rfl w.heap.size 123 i0 _ 4 48 Tryz.underlying35 hi hz0 hz1 hz2 rfl (by decide) _ _ _ rfl HO2.out ⟨w2.heap.size, 0, none⟩ 1 1 [.string x.w, .string x.u, .int .i64 x.f, .int .i64 x.t] rfl rfl (news_at _ _ _ _ rfl) (four_e _ _ _ _) (by unfold maxLen; omega) (by omega) HS2.out ?_; intro v' w3 hown' hgrow hiff)
        have HB3 := Lib.hid (app_below HB2.out HS2.out HO2.out hgrow)
        have HO3 := Lib.hid hown'
        clear hown' hgrow hiff HB2 HS2 HO2
        go_wp2
        go_roundw
        case rel => exact ⟨j + 1, by omega, by go_num, (by unfold Hid; rw [HC2.out, List.length_append, ens_snoc]; exact HO3.out), HB3⟩
        case measure => simp [intOf]; omega
      | false =>
        have HC2 : Hid ((l.take (j + 1)).filter (wiE s) = m) := by have := HT.out; rwa [if_neg (by rw [hq]; exact Bool.false_ne_true), List.append_nil] at this
        rw [hq] at HCC
        clear HT hq
        go_wp2_with fail
        refine HCC.out.mono ?_
        rintro r w2 ⟨rfl, hB⟩
        have hb2 : Below wr.heap.size wr w2 := HB0.out.trans (hB.mono (by rw [HZ.out]; omega))
        have HO2 := Lib.hid (own_below HO.out hb2)
        have HB2 : Hid (Below w.heap.size w w2) := HB.out.trans (hb2.mono HB.out.size)
        clear hB hb2 hc0 hc1 hc2 hc3 HX HZ HB0 HCC
        go_wp2
        go_roundw
        case rel => exact ⟨j + 1, by omega, by go_num, (by unfold Hid; rw [HC2.out]; exact HO2.out), HB2⟩
        case measure => simp [intOf]; omega
    · obtain rfl : j = l.length := by omega
      rw [List.take_of_length_le (Nat.le_refl _)] at HO
      go_wp2
      go_ret
      exact ⟨_, rfl, HO.out, HB.out⟩
set_option maxHeartbeats 2000000 in
theorem thosea_any (a : Option Addr) (c : Nat) (l : List EnM) (s : Int) (g : Nat) (w : World) (hr : EnSl w a l) (h : CapAt w g (.int .i64 s)) (hl : l.length ≤ 100000) :
    Calls Tryz.prog 141 #[.slice a l.length c, .func (.func 142) #[] #[.pointer (some ⟨g, 0, none⟩)]] w fun e w' => ∃ v, e = .returned v ∧ w'.ownsRow w.heap.size 123 4 v (l.filter (afE s)).length (ens (l.filter (afE s))) ∧ Below w.heap.size w w' := by
  obtain ⟨i0, hi, hz0, hz1, hz2⟩ := info_parts infoEn
  have HR := Lib.hid hr
  have HP := Lib.hid h
  have HC := Lib.hid (fun e V k => afc_any e s g V k)
  unfold enV at HC
  clear hr h
  go_enter Tryz.func141, Tryz.ntmps141
  go_wp2
  go_loopw [5, 10] (fun v i wr => ∃ (j : Nat), j ≤ l.length ∧ i = .int .i64 j ∧ Hid (wr.ownsRow w.heap.size 123 4 v ((l.take j).filter (afE s)).length (ens ((l.take j).filter (afE s)))) ∧ Hid (Below w.heap.size w wr)) (fun _ i _ => l.length - (intOf i).toNat)
  case atStart => exact ⟨0, by omega, rfl, ⟨rfl, .inl ⟨rfl, rfl⟩⟩, Below.refl _ _⟩
  case round =>
    obtain ⟨j, hj, rfl, HO, HB⟩ := hrel
    by_cases hjl : j < l.length
    · obtain ⟨b, off, rfl, hbl, hc0, hc1, hc2, hc3⟩ := (HR.out.below HB.out).at_ hjl
      have HT := Lib.hid (fil_take (afE s) l j hjl)
      have HLN := Lib.hid (fil_len (afE s) l j)
      generalize l[j] = x at *
      generalize (l.take j).filter (afE s) = m at *
      have hb0 := ebelow_one wr (.cells #[.string x.w, .string x.u, .int .i64 x.f, .int .i64 x.t] 123)
      have HX := Lib.hid (heap_alloc_new wr (.cells #[.string x.w, .string x.u, .int .i64 x.f, .int .i64 x.t] 123))
      have HPW := Lib.hid ((HP.out.below HB.out).below hb0)
      have HB0 := Lib.hid hb0
      have HCC := Lib.hid (HC.out x _ HPW.out)
      have HZ := Lib.hid (size1 wr (.cells #[.string x.w, .string x.u, .int .i64 x.f, .int .i64 x.t] 123))
      clear hb0 HC HPW
      cases hq : (afE s) x with
      | true =>
        have HC2 : Hid ((l.take (j + 1)).filter (afE s) = m ++ [x]) := by have := HT.out; rwa [if_pos hq] at this
        rw [hq] at HCC
        clear HT hq
        go_wp2_with fail
        refine HCC.out.mono ?_
        rintro r w2 ⟨rfl, hB⟩
        have hb2 : Below wr.heap.size wr w2 := HB0.out.trans (hB.mono (by rw [HZ.out]; omega))
        obtain ⟨d0, d1, d2, d3⟩ := ecells4 ((hB.block _ (heap_lt HX.out)).trans HX.out)
        have HO2 := Lib.hid (own_below HO.out (hb2.trans ((ebelow_one w2 (.cells #[.string x.w, .string x.u, .int .i64 x.f, .int .i64 x.t] 123)).mono hb2.size)))
        have HB2 : Hid (Below w.heap.size w (w2.alloc (.cells #[.string x.w, .string x.u, .int .i64 x.f, .int .i64 x.t] 123))) := HB.out.trans ((hb2.trans ((ebelow_one w2 _).mono hb2.size)).mono HB.out.size)
        have HS2 := Lib.hid HB2.out.size
        have hlm := HLN.out
        clear hB hb2 hc0 hc1 hc2 hc3 HX HZ HB0 HCC
        go_wp2_with (at_builtin; refine wpList_append_own _ rfl (.tmp 17) (.tmp 19) 35 rfl w.heap.size 123 i0 _ 4 48 Tryz.underlying35 hi hz0 hz1 hz2 rfl (by decide) _ _ _ rfl HO2.out ⟨w2.heap.size, 0, none⟩ 1 1 [.string x.w, .string x.u, .int .i64 x.f, .int .i64 x.t] rfl rfl (news_at _ _ _ _ rfl) (four_e _ _ _ _) (by unfold maxLen; omega) (by omega) HS2.out ?_; intro v' w3 hown' hgrow hiff)
        have HB3 := Lib.hid (app_below HB2.out HS2.out HO2.out hgrow)
        have HO3 := Lib.hid hown'
        clear hown' hgrow hiff HB2 HS2 HO2
        go_wp2
        go_roundw
        case rel => exact ⟨j + 1, by omega, by go_num, (by unfold Hid; rw [HC2.out, List.length_append, ens_snoc]; exact HO3.out), HB3⟩
        case measure => simp [intOf]; omega
      | false =>
        have HC2 : Hid ((l.take (j + 1)).filter (afE s) = m) := by have := HT.out; rwa [if_neg (by rw [hq]; exact Bool.false_ne_true), List.append_nil] at this
        rw [hq] at HCC
        clear HT hq
        go_wp2_with fail
        refine HCC.out.mono ?_
        rintro r w2 ⟨rfl, hB⟩
        have hb2 : Below wr.heap.size wr w2 := HB0.out.trans (hB.mono (by rw [HZ.out]; omega))
        have HO2 := Lib.hid (own_below HO.out hb2)
        have HB2 : Hid (Below w.heap.size w w2) := HB.out.trans (hb2.mono HB.out.size)
        clear hB hb2 hc0 hc1 hc2 hc3 HX HZ HB0 HCC
        go_wp2
        go_roundw
        case rel => exact ⟨j + 1, by omega, by go_num, (by unfold Hid; rw [HC2.out]; exact HO2.out), HB2⟩
        case measure => simp [intOf]; omega
    · obtain rfl : j = l.length := by omega
      rw [List.take_of_length_le (Nat.le_refl _)] at HO
      go_wp2
      go_ret
      exact ⟨_, rfl, HO.out, HB.out⟩
set_option maxHeartbeats 1000000 in
theorem without_any (a : Option Addr) (c : Nat) (l : List EnM) (s : ByteArray) (w : World) (hr : EnSl w a l) (hl : l.length ≤ 100000) :
    Calls Tryz.prog 172 #[.slice a l.length c, (.string s)] w fun e w' => ∃ v, e = .returned v ∧ w'.ownsRow w.heap.size 123 4 v (l.filter (wiE s)).length (ens (l.filter (wiE s))) ∧ Below w.heap.size w w' := by
  have hb := ebelow_one w (.cells #[.string s] 9)
  have HC := Lib.hid (thosew_any a c l s w.heap.size (w.alloc (.cells #[.string s] 9)) (hr.below hb) (CapAt.new _ _ _) hl)
  have HB := Lib.hid hb
  clear hr hb
  go_enter Tryz.func172, Tryz.ntmps172
  go_wp2_with fail
  refine HC.out.mono ?_
  rintro r w2 ⟨v, rfl, ho, hB⟩
  go_wp2
  go_ret
  exact ⟨v, rfl, own_low ho HB.out.size, HB.out.trans (hB.mono HB.out.size)⟩
set_option maxHeartbeats 1000000 in
theorem eafter_any (a : Option Addr) (c : Nat) (l : List EnM) (s : Int) (w : World) (hr : EnSl w a l) (hl : l.length ≤ 100000) :
    Calls Tryz.prog 77 #[.slice a l.length c, (.int .i64 s)] w fun e w' => ∃ v, e = .returned v ∧ w'.ownsRow w.heap.size 123 4 v (l.filter (afE s)).length (ens (l.filter (afE s))) ∧ Below w.heap.size w w' := by
  have hb := ebelow_one w (.cells #[.int .i64 s] 3)
  have HC := Lib.hid (thosea_any a c l s w.heap.size (w.alloc (.cells #[.int .i64 s] 3)) (hr.below hb) (CapAt.new _ _ _) hl)
  have HB := Lib.hid hb
  clear hr hb
  go_enter Tryz.func77, Tryz.ntmps77
  go_wp2_with fail
  refine HC.out.mono ?_
  rintro r w2 ⟨v, rfl, ho, hB⟩
  go_wp2
  go_ret
  exact ⟨v, rfl, own_low ho HB.out.size, HB.out.trans (hB.mono HB.out.size)⟩
set_option maxHeartbeats 2000000 in
theorem rwithout_any (a : Option Addr) (c : Nat) (l : List EnM) (s : ByteArray) (w : World) (hr : EnSl w a l) (hl : l.length ≤ 100000) :
    Calls Tryz.prog 51 #[.slice a l.length c, (.string s)] w fun e w' => ∃ v, e = .returned v ∧ w'.ownsRow w.heap.size 82 4 v (l.filter (wiE s)).length (ens (l.filter (wiE s))) ∧ Below w.heap.size w w' := by
  obtain ⟨i0, hi, hz0, hz1, hz2⟩ := info_parts infoEnR
  have HR := Lib.hid hr
  clear hr
  go_enter Tryz.func51, Tryz.ntmps51
  go_wp2
  go_loopw [5, 6] (fun v i wr => ∃ (j : Nat), j ≤ l.length ∧ i = .int .i64 j ∧ Hid (wr.ownsRow w.heap.size 82 4 v ((l.take j).filter (wiE s)).length (ens ((l.take j).filter (wiE s)))) ∧ Hid (Below w.heap.size w wr)) (fun _ i _ => l.length - (intOf i).toNat)
  case atStart => exact ⟨0, by omega, rfl, ⟨rfl, .inl ⟨rfl, rfl⟩⟩, Below.refl _ _⟩
  case round =>
    obtain ⟨j, hj, rfl, HO, HB⟩ := hrel
    by_cases hjl : j < l.length
    · obtain ⟨b, off, rfl, hbl, hc0, hc1, hc2, hc3⟩ := (HR.out.below HB.out).at_ hjl
      have HT := Lib.hid (fil_take (wiE s) l j hjl)
      have HLN := Lib.hid (fil_len (wiE s) l j)
      generalize l[j] = x at *
      generalize (l.take j).filter (wiE s) = m at *
      have HTT : Hid (wiE s x = true → (l.take (j + 1)).filter (wiE s) = m ++ [x]) := fun hq => by have := HT.out; rwa [if_pos hq] at this
      have HTF : Hid (wiE s x = false → (l.take (j + 1)).filter (wiE s) = m) := fun hq => by have := HT.out; rwa [if_neg (by rw [hq]; exact Bool.false_ne_true), List.append_nil] at this
      clear HT
      by_cases h1 : x.w = s
      · have HC2 := Lib.hid (HTF.out (by unfold wiE; rw [decide_eq_false (fun h => h h1)]; rfl))
        have e1 : (x.w.toList == s.toList) = true := by rw [h1]; exact str_eq s
        clear HTT HTF h1
        go_wp2
        go_roundw
        case rel => exact ⟨j + 1, by omega, by go_num, (by unfold Hid; rw [HC2.out]; exact HO.out), HB⟩
        case measure => simp [intOf]; omega
      · have e1 := str_ne h1
        by_cases h2 : x.u = s
        · have HC2 := Lib.hid (HTF.out (by unfold wiE; rw [decide_eq_false (show ¬ x.u ≠ s from fun h => h h2)]; exact Bool.and_false _))
          have e2 : (x.u.toList == s.toList) = true := by rw [h2]; exact str_eq s
          clear HTT HTF h1 h2
          go_wp2
          go_roundw
          case rel => exact ⟨j + 1, by omega, by go_num, (by unfold Hid; rw [HC2.out]; exact HO.out), HB⟩
          case measure => simp [intOf]; omega
        · have HC2 := Lib.hid (HTT.out (by unfold wiE; rw [decide_eq_true h1, decide_eq_true h2]; rfl))
          have e2 := str_ne h2
          clear HTT HTF h1 h2
          have HO2 := Lib.hid (own_below HO.out (ebelow_one wr (.cells #[.string x.w, .string x.u, .int .i64 x.f, .int .i64 x.t] 82)))
          have HB2 : Hid (Below w.heap.size w (wr.alloc (.cells #[.string x.w, .string x.u, .int .i64 x.f, .int .i64 x.t] 82))) := HB.out.trans ((ebelow_one wr _).mono HB.out.size)
          have HS2 := Lib.hid HB2.out.size
          have hlm := HLN.out
          go_wp2_with (at_builtin; refine wpList_append_own _ rfl (.tmp 29) (.tmp 34) 24 rfl w.heap.size 82 i0 _ 4 48 Tryz.underlying24 hi hz0 hz1 hz2 rfl (by decide) _ _ _ rfl HO2.out ⟨wr.heap.size, 0, none⟩ 1 1 [.string x.w, .string x.u, .int .i64 x.f, .int .i64 x.t] rfl rfl (news_at _ _ _ _ rfl) (four_e _ _ _ _) (by unfold maxLen; omega) (by omega) HS2.out ?_; intro v' w3 hown' hgrow hiff)
          have HB3 := Lib.hid (app_below HB2.out HS2.out HO2.out hgrow)
          have HO3 := Lib.hid hown'
          clear hown' hgrow hiff HB2 HS2 HO2
          go_wp2
          go_roundw
          case rel => exact ⟨j + 1, by omega, by go_num, (by unfold Hid; rw [HC2.out, List.length_append, ens_snoc]; exact HO3.out), HB3⟩
          case measure => simp [intOf]; omega
    · obtain rfl : j = l.length := by omega
      rw [List.take_of_length_le (Nat.le_refl _)] at HO
      go_wp2
      go_ret
      exact ⟨_, rfl, HO.out, HB.out⟩
end Go.Proofs.YtjhdhfokhkcamaaGreat
