/- Layer 10: all users, and the entries of others, in the program and in the document: contracts. -/
import Derived.Test.YtlgicjebaehgeaaBA5
import Derived.Test.YtlgicjebaehgeaaBN3
namespace Go.Proofs.Ytlgicjebaehgeaa
open Go.RowKit Go.Sort Go.Proofs
set_option linter.unusedVariables false
set_option maxRecDepth 100000

theorem ofil_take (q : OpM → Bool) (l : List OpM) (j : Nat) (h : j < l.length) : (l.take (j + 1)).filter q = (l.take j).filter q ++ (if q l[j] = true then [l[j]] else []) := by
  rw [List.take_succ_eq_append_getElem h, List.filter_append, List.filter_cons, List.filter_nil]
theorem ofil_len (q : OpM → Bool) (l : List OpM) (j : Nat) : ((l.take j).filter q).length ≤ j := Nat.le_trans (List.length_filter_le _ _) (by simp; omega)
def SzO (l : List OpM) : Prop := ∀ e ∈ l, e.u.size ≤ maxLen
/-- their users, as they stand -/
def usO (l : List OpM) : List ByteArray := l.map (·.u)
theorem usO_take (l : List OpM) (j : Nat) (h : j < l.length) : usO (l.take (j + 1)) = usO (l.take j) ++ [l[j].u] := by
  unfold usO
  rw [List.take_succ_eq_append_getElem h, List.map_append]
  rfl
theorem usO_len (l : List OpM) : (usO l).length = l.length := by unfold usO; rw [List.length_map]
theorem usO_fits {l : List OpM} (h : SzO l) {x : ByteArray} (hx : x ∈ usO l) : x.size ≤ maxLen := by
  obtain ⟨e, he, rfl⟩ := List.mem_map.1 hx
  exact h e he

set_option maxHeartbeats 2000000 in
theorem owithout_any (a : Option Addr) (c : Nat) (l : List OpM) (u : ByteArray) (w : World) (hr : OpSl w a l) (hl : l.length ≤ 100000) :
    Calls Try.prog 32 #[.slice a l.length c, .string u] w fun e w' => ∃ v, e = .returned v ∧ w'.ownsRow w.heap.size 31 4 v (l.filter (notU u)).length (oes (l.filter (notU u))) ∧ Below w.heap.size w w' := by
  obtain ⟨i0, hi, hz0, hz1, hz2⟩ := info_parts infoOp
  have HR := Lib.hid hr
  clear hr
  go_enter Try.func32, Try.ntmps32
  go_wp2
  go_loopw [5, 10] (fun v i wr => ∃ (j : Nat), j ≤ l.length ∧ i = .int .i64 j ∧ Hid (wr.ownsRow w.heap.size 31 4 v ((l.take j).filter (notU u)).length (oes ((l.take j).filter (notU u)))) ∧ Hid (Below w.heap.size w wr)) (fun _ i _ => l.length - (intOf i).toNat)
  case atStart => exact ⟨0, by omega, rfl, ⟨rfl, .inl ⟨rfl, rfl⟩⟩, Below.refl _ _⟩
  case round =>
    obtain ⟨j, hj, rfl, HO, HB⟩ := hrel
    by_cases hjl : j < l.length
    · obtain ⟨b, off, rfl, hbl, hc0, hc1, hc2, hc3⟩ := (HR.out.below HB.out).at_ hjl
      have HT := Lib.hid (ofil_take (notU u) l j hjl)
      have HLN := Lib.hid (ofil_len (notU u) l j)
      generalize l[j] = x at *
      generalize (l.take j).filter (notU u) = m at *
      have HX := heap_alloc_new wr (.cells #[.int .i64 x.n, .string x.u, .int .i64 x.s, .int .i64 x.f] 31)
      obtain ⟨d0, d1, d2, d3⟩ := cells4 HX
      have hb1 := below_one wr (.cells #[.int .i64 x.n, .string x.u, .int .i64 x.s, .int .i64 x.f] 31)
      by_cases hu : x.u = u
      · have HC2 : Hid ((l.take (j + 1)).filter (notU u) = m) := by
          have := HT.out
          rwa [if_neg (by unfold notU; rw [decide_eq_false (fun h => h hu)]; exact Bool.false_ne_true), List.append_nil] at this
        have q1 : (x.u.toList != u.toList) = false := by rw [hu]; exact txt_ns u
        have q2 : (x.u.toList == u.toList) = true := by rw [hu]; exact txt_eq u
        have HO2 := Lib.hid (own_below HO.out hb1)
        have HB2 := Lib.hid (HB.out.trans (hb1.mono HB.out.size))
        clear HT HLN hu hb1
        go_wp2
        go_roundw
        case rel => exact ⟨j + 1, by omega, by go_num, (by unfold Hid; rw [HC2.out]; exact HO2.out), HB2.out⟩
        case measure => simp [intOf]; omega
      · have HC2 : Hid ((l.take (j + 1)).filter (notU u) = m ++ [x]) := by
          have := HT.out
          rwa [if_pos (show notU u x = true from decide_eq_true hu)] at this
        have q1 := txt_nt hu
        have q2 := txt_ne hu
        have hb2 : Below wr.heap.size wr ((wr.alloc (.cells #[.int .i64 x.n, .string x.u, .int .i64 x.s, .int .i64 x.f] 31)).alloc (.cells #[.int .i64 x.n, .string x.u, .int .i64 x.s, .int .i64 x.f] 31)) := hb1.trans ((below_one (wr.alloc (.cells #[.int .i64 x.n, .string x.u, .int .i64 x.s, .int .i64 x.f] 31)) (.cells #[.int .i64 x.n, .string x.u, .int .i64 x.s, .int .i64 x.f] 31)).mono hb1.size)
        have HO2 := Lib.hid (own_below HO.out hb2)
        have HB2 := Lib.hid (HB.out.trans (hb2.mono HB.out.size))
        have HS2 := Lib.hid HB2.out.size
        have hlm := HLN.out
        clear HT hu hb1 hb2
        go_wp2_with (at_builtin; refine wpList_append_own _ rfl (.tmp 18) (.tmp 20) 26 rfl w.heap.size 31 i0 _ 4 40 Try.underlying26 hi hz0 hz1 hz2 rfl (by decide) _ _ _ rfl HO2.out ⟨wr.heap.size + 1, 0, none⟩ 1 1 [.int .i64 x.n, .string x.u, .int .i64 x.s, .int .i64 x.f] rfl rfl (news_at _ _ _ _ (size1 _ _).symm) (four_o _ _ _ _) (by unfold maxLen; omega) (by omega) HS2.out ?_; intro v' w3 hown' hgrow hiff)
        have HB3 := Lib.hid (app_below HB2.out HS2.out HO2.out hgrow)
        have HO3 := Lib.hid hown'
        clear hown' hgrow hiff HB2 HS2 HO2
        go_wp2
        go_roundw
        case rel => exact ⟨j + 1, by omega, by go_num, (by unfold Hid; rw [HC2.out, List.length_append, oes_snoc]; exact HO3.out), HB3⟩
        case measure => simp [intOf]; omega
    · obtain rfl : j = l.length := by omega
      rw [List.take_of_length_le (Nat.le_refl _)] at HO
      go_wp2
      go_ret
      exact ⟨_, rfl, HO.out, HB.out⟩

set_option maxHeartbeats 2000000 in
theorem rwithout_any (a : Option Addr) (c : Nat) (l : List OpM) (u : ByteArray) (w : World) (hr : OpSl w a l) (hl : l.length ≤ 100000) :
    Calls Try.prog 33 #[.slice a l.length c, .string u] w fun e w' => ∃ v, e = .returned v ∧ w'.ownsRow w.heap.size 24 4 v (l.filter (notU u)).length (oes (l.filter (notU u))) ∧ Below w.heap.size w w' := by
  obtain ⟨i0, hi, hz0, hz1, hz2⟩ := info_parts infoOpR
  have HR := Lib.hid hr
  clear hr
  go_enter Try.func33, Try.ntmps33
  go_wp2
  go_loopw [5, 6] (fun v i wr => ∃ (j : Nat), j ≤ l.length ∧ i = .int .i64 j ∧ Hid (wr.ownsRow w.heap.size 24 4 v ((l.take j).filter (notU u)).length (oes ((l.take j).filter (notU u)))) ∧ Hid (Below w.heap.size w wr)) (fun _ i _ => l.length - (intOf i).toNat)
  case atStart => exact ⟨0, by omega, rfl, ⟨rfl, .inl ⟨rfl, rfl⟩⟩, Below.refl _ _⟩
  case round =>
    obtain ⟨j, hj, rfl, HO, HB⟩ := hrel
    by_cases hjl : j < l.length
    · obtain ⟨b, off, rfl, hbl, hc0, hc1, hc2, hc3⟩ := (HR.out.below HB.out).at_ hjl
      have HT := Lib.hid (ofil_take (notU u) l j hjl)
      have HLN := Lib.hid (ofil_len (notU u) l j)
      generalize l[j] = x at *
      generalize (l.take j).filter (notU u) = m at *
      have hb1 := Below.refl wr.heap.size wr
      by_cases hu : x.u = u
      · have HC2 : Hid ((l.take (j + 1)).filter (notU u) = m) := by
          have := HT.out
          rwa [if_neg (by unfold notU; rw [decide_eq_false (fun h => h hu)]; exact Bool.false_ne_true), List.append_nil] at this
        have q1 : (x.u.toList != u.toList) = false := by rw [hu]; exact txt_ns u
        have q2 : (x.u.toList == u.toList) = true := by rw [hu]; exact txt_eq u
        have HO2 := Lib.hid (own_below HO.out hb1)
        have HB2 := Lib.hid (HB.out.trans (hb1.mono HB.out.size))
        clear HT HLN hu hb1
        go_wp2
        go_roundw
        case rel => exact ⟨j + 1, by omega, by go_num, (by unfold Hid; rw [HC2.out]; exact HO2.out), HB2.out⟩
        case measure => simp [intOf]; omega
      · have HC2 : Hid ((l.take (j + 1)).filter (notU u) = m ++ [x]) := by
          have := HT.out
          rwa [if_pos (show notU u x = true from decide_eq_true hu)] at this
        have q1 := txt_nt hu
        have q2 := txt_ne hu
        have hb2 : Below wr.heap.size wr (wr.alloc (.cells #[.int .i64 x.n, .string x.u, .int .i64 x.s, .int .i64 x.f] 24)) := hb1.trans ((below_one wr (.cells #[.int .i64 x.n, .string x.u, .int .i64 x.s, .int .i64 x.f] 24)).mono hb1.size)
        have HO2 := Lib.hid (own_below HO.out hb2)
        have HB2 := Lib.hid (HB.out.trans (hb2.mono HB.out.size))
        have HS2 := Lib.hid HB2.out.size
        have hlm := HLN.out
        clear HT hu hb1 hb2
        go_wp2_with (at_builtin; refine wpList_append_own _ rfl (.tmp 20) (.tmp 25) 22 rfl w.heap.size 24 i0 _ 4 40 Try.underlying22 hi hz0 hz1 hz2 rfl (by decide) _ _ _ rfl HO2.out ⟨wr.heap.size, 0, none⟩ 1 1 [.int .i64 x.n, .string x.u, .int .i64 x.s, .int .i64 x.f] rfl rfl (news_at _ _ _ _ rfl) (four_o _ _ _ _) (by unfold maxLen; omega) (by omega) HS2.out ?_; intro v' w3 hown' hgrow hiff)
        have HB3 := Lib.hid (app_below HB2.out HS2.out HO2.out hgrow)
        have HO3 := Lib.hid hown'
        clear hown' hgrow hiff HB2 HS2 HO2
        go_wp2
        go_roundw
        case rel => exact ⟨j + 1, by omega, by go_num, (by unfold Hid; rw [HC2.out, List.length_append, oes_snoc]; exact HO3.out), HB3⟩
        case measure => simp [intOf]; omega
    · obtain rfl : j = l.length := by omega
      rw [List.take_of_length_le (Nat.le_refl _)] at HO
      go_wp2
      go_ret
      exact ⟨_, rfl, HO.out, HB.out⟩

set_option maxHeartbeats 2000000 in
theorem ousers_any (a : Option Addr) (c : Nat) (l : List OpM) (w : World) (hr : OpSl w a l) (hl : l.length ≤ 100000) :
    Calls Try.prog 30 #[.slice a l.length c] w fun e w' => ∃ v, e = .returned v ∧ w'.ownsRow w.heap.size 9 1 v (srt (usO l)).length (strs (srt (usO l))) ∧ Below w.heap.size w w' := by
  obtain ⟨i0, hi, hz0, hz1, hz2⟩ := info_parts Try.infoStr
  have HR := Lib.hid hr
  have HSO := Lib.hid (fun x q W (h : Sl W x (strs (usO l))) => sorted_any x q (usO l) W h (by rw [usO_len]; omega))
  rw [usO_len] at HSO
  have HE1 := Lib.hid (strs_srt (usO l))
  have HE2 := Lib.hid (srt_length (usO l))
  clear hr
  go_enter Try.func30, Try.ntmps30
  go_wp2
  go_loopw [3, 8] (fun v i wr => ∃ (j : Nat), j ≤ l.length ∧ i = .int .i64 j ∧ Hid (wr.ownsRow w.heap.size 9 1 v j (strs (usO (l.take j)))) ∧ Hid (Below w.heap.size w wr)) (fun _ i _ => l.length - (intOf i).toNat)
  case atStart => exact ⟨0, by omega, rfl, ⟨rfl, .inl ⟨rfl, rfl⟩⟩, Below.refl _ _⟩
  case round =>
    obtain ⟨j, hj, rfl, HO, HB⟩ := hrel
    by_cases hjl : j < l.length
    · obtain ⟨b, off, rfl, hbl, hc0, hc1, hc2, hc3⟩ := (HR.out.below HB.out).at_ hjl
      have HC := Lib.hid (usO_take l j hjl)
      generalize l[j] = x at *
      have HX := heap_alloc_new wr (.cells #[.int .i64 x.n, .string x.u, .int .i64 x.s, .int .i64 x.f] 31)
      obtain ⟨d0, d1, d2, d3⟩ := cells4 HX
      have hbt := below_two wr (.cells #[.int .i64 x.n, .string x.u, .int .i64 x.s, .int .i64 x.f] 31) (.cells #[.string x.u] 9)
      have HO2 := Lib.hid (own_below HO.out hbt)
      have HB2 := Lib.hid (HB.out.trans (hbt.mono HB.out.size))
      have HS2 := Lib.hid HB2.out.size
      clear hbt HSO
      go_wp2_with (at_builtin; refine wpList_append_own _ rfl (.tmp 12) (.tmp 15) 67 rfl w.heap.size 9 i0 (.string ⟨#[]⟩) 1 16 Try.underlying67 hi hz0 hz1 hz2 rfl (by decide) _ _ _ rfl HO2.out ⟨wr.heap.size + 1, 0, none⟩ 1 1 [.string x.u] rfl rfl (news_at _ _ _ _ (size1 _ _).symm) (by intro z hz; simp at hz; subst hz; rfl) (by unfold maxLen; omega) (by omega) HS2.out ?_; intro v' w3 hown' hgrow hiff)
      have HB3 := Lib.hid (app_below HB2.out HS2.out HO2.out hgrow)
      have HO3 := Lib.hid hown'
      clear hown' hgrow hiff HB2 HS2 HO2
      go_wp2
      go_roundw
      case rel => exact ⟨j + 1, by omega, by go_num, (by unfold Hid; rw [HC.out]; simpa [strs] using HO3.out), HB3⟩
      case measure => simp [intOf]; omega
    · obtain rfl : j = l.length := by omega
      rw [List.take_of_length_le (Nat.le_refl _)] at HO
      obtain ⟨x, q, rfl, _, _, hs, _⟩ := own_slice HO.out
      have HCS := Lib.hid (HSO.out x q wr hs)
      unfold Gives at HCS
      clear hs HSO
      go_wp2_with fail
      refine HCS.out.mono ?_
      rintro e w3 ⟨v, rfl, ho, hb⟩
      rw [← HE1.out] at ho
      have HO3 := Lib.hid (own_base ho HB.out.size)
      have HB3 := Lib.hid (HB.out.trans (hb.mono HB.out.size))
      clear ho hb
      go_wp2
      go_ret
      exact ⟨_, rfl, (by rw [HE2.out]; exact HO3.out), HB3.out⟩

set_option maxHeartbeats 2000000 in
theorem rusers_any (a : Option Addr) (c : Nat) (l : List OpM) (w : World) (hr : OpSl w a l) (hsz : SzO l) (hl : l.length ≤ 100000) :
    Calls Try.prog 31 #[.slice a l.length c] w fun e w' => ∃ x q, e = .returned (.slice x (srt (usO l)).length q) ∧ Sl w' x (strs (srt (usO l))) ∧ Below w.heap.size w w' := by
  have HR := Lib.hid hr
  have HSZ := Lib.hid hsz
  clear hr hsz
  go_enter Try.func31, Try.ntmps31
  go_wp2
  go_loopw [3, 4] (fun v i wr => ∃ (j : Nat) (x : Option Addr) (q : Nat), j ≤ l.length ∧ i = .int .i64 j ∧ v = .slice x (srt (usO (l.take j))).length q ∧ Hid (Sl wr x (strs (srt (usO (l.take j))))) ∧ Hid (Below w.heap.size w wr)) (fun _ i _ => l.length - (intOf i).toNat)
  case atStart => exact ⟨0, none, 0, by omega, rfl, rfl, Sl.nil _ _, Below.refl _ _⟩
  case round =>
    obtain ⟨j, x0, q0, hj, rfl, rfl, HS, HB⟩ := hrel
    by_cases hjl : j < l.length
    · obtain ⟨b, off, rfl, hbl, hc0, hc1, hc2, hc3⟩ := (HR.out.below HB.out).at_ hjl
      have HN : Hid (srt (usO (l.take (j + 1))) = put (srt (usO (l.take j))) l[j].u) := by unfold Hid; rw [usO_take l j hjl, srt_snoc]
      have hfit : Fits (srt (usO (l.take j))) := by
        have h1 := srt_len (usO (l.take j))
        have h2 := usO_len (l.take j)
        have h3 : (l.take j).length ≤ j := by simp; omega
        exact ⟨by unfold maxLen; omega, fun x hx => usO_fits (l := l.take j) (fun e he => HSZ.out e (List.mem_of_mem_take he)) (srt_mem _ _ hx)⟩
      have hln : (srt (usO (l.take j))).length ≤ 100000 := by
        have h1 := srt_len (usO (l.take j))
        have h2 := usO_len (l.take j)
        have h3 : (l.take j).length ≤ j := by simp; omega
        omega
      have hsx : l[j].u.size ≤ maxLen := HSZ.out _ (List.getElem_mem hjl)
      generalize srt (usO (l.take j)) = M at *
      generalize l[j] = x at *
      have HPU := Lib.hid (fun W (h : Sl W x0 (strs M)) => nput_any x0 q0 M x.u W h hfit hsx (by omega))
      clear hfit hsx HSZ
      go_wp2_with fail
      refine (HPU.out _ HS.out).mono ?_
      rintro r w3 ⟨v, rfl, ho, hb⟩
      obtain ⟨x1, q1, rfl, _, _, hs, _⟩ := own_slice ho
      have HS3 := Lib.hid hs
      have HB3 := Lib.hid (HB.out.trans (hb.mono HB.out.size))
      clear ho hb hs HPU hc0 hc1 hc2 hc3
      go_wp2
      go_roundw
      case rel => exact ⟨j + 1, x1, q1, by omega, by go_num, by rw [HN.out], (by unfold Hid; rw [HN.out]; exact HS3.out), HB3.out⟩
      case measure => simp [intOf]; omega
    · obtain rfl : j = l.length := by omega
      rw [List.take_of_length_le (Nat.le_refl _)] at HS
      have HE : Hid (srt (usO (l.take l.length)) = srt (usO l)) := by unfold Hid; rw [List.take_of_length_le (Nat.le_refl _)]
      go_wp2
      go_ret
      exact ⟨x0, q0, (by rw [HE.out]; rfl), HS.out, HB.out⟩
end Go.Proofs.Ytlgicjebaehgeaa
