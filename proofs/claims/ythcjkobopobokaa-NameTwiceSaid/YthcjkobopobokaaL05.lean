/- NameTwice: sorted again, or with itself, a row is the same; one more stands in it just once: for every row of texts, and every text. No condition. -/
import Derived.Test.YthcjkobopobokaaA8
import Derived.Test.YthcjkobopobokaaF1
import Derived.Test.YthcjkobopobokaaB1
import Derived.Test.YthcjkobopobokaaM2
namespace Go.Proofs.Ythcjkobopobokaa.nameTwice
open Go.ChangeShapes Go.WideShapes Go.ChangeAt Go.RowKit
open Go.ChangeMaps (open_string shut_string)
set_option linter.unusedVariables false

section plain
theorem mem_sv (l : List ByteArray) (x : List UInt8) : x ∈ sv l ↔ x ∈ l.map toL := mem_sortL _ _
theorem again (l : List ByteArray) : sv (srt l ++ l) = sv l := by
  refine rises_unique _ _ (rises_sortL _) (rises_sortL _) fun x => ?_
  rw [mem_sv, mem_sv, List.map_append, srt_sv, List.mem_append, mem_sv]
  simp
theorem more (l : List ByteArray) (s : ByteArray) : sv (srt l ++ [s]) = ins (toL s) (sv l) := by
  refine rises_unique _ _ (rises_sortL _) (rises_ins _ _ (rises_sortL _)) fun x => ?_
  rw [mem_sv, mem_ins, List.map_append, srt_sv, List.mem_append]
  simp
theorem ins_len (s : List UInt8) : ∀ l : List (List UInt8), l.length ≤ (ins s l).length ∧ (ins s l).length ≤ l.length + 1
  | [] => by simp [ins]
  | x :: r => by
    have := ins_len s r
    unfold ins
    split
    · simp
    · split
      · simp
      · simp; omega
def cnt (t : List UInt8) (l : List (List UInt8)) : Nat := (l.filter (· == t)).length
theorem cnt_next (t : List UInt8) (l : List (List UInt8)) (k : Nat) (h : k < l.length) : cnt t (l.take (k + 1)) = cnt t (l.take k) + if l[k] == t then 1 else 0 := by
  unfold cnt
  rw [List.take_succ_eq_append_getElem h, List.filter_append, List.length_append]
  congr 1
  by_cases e : l[k] == t <;> simp [e]
theorem cnt_le (t : List UInt8) (l : List (List UInt8)) (k : Nat) : cnt t (l.take k) ≤ k := by
  unfold cnt
  exact Nat.le_trans (List.length_filter_le _ _) (List.length_take_le _ _)
theorem cnt_zero (t : List UInt8) : ∀ l : List (List UInt8), t ∉ l → cnt t l = 0
  | [], _ => rfl
  | x :: r, h => by
    rw [List.mem_cons, not_or] at h
    have ih := cnt_zero t r h.2
    unfold cnt at *
    rw [List.filter_cons, if_neg (by simpa using fun e => h.1 e.symm)]
    exact ih
theorem cnt_one (t : List UInt8) : ∀ l : List (List UInt8), Rises l → t ∈ l → cnt t l = 1
  | [], _, h => by cases h
  | x :: r, hr, h => by
    unfold Rises at hr
    rw [List.pairwise_cons] at hr
    by_cases e : x = t
    · subst e
      have hn : x ∉ r := fun hm => by have := hr.1 x hm; rw [cb_refl] at this; omega
      have := cnt_zero x r hn
      unfold cnt at *
      rw [List.filter_cons, if_pos (by simp)]
      simp [this]
    · have hm : t ∈ r := by
        rcases List.mem_cons.1 h with h | h
        · exact absurd h.symm e
        · exact h
      have ih := cnt_one t r hr.2 hm
      unfold cnt at *
      rw [List.filter_cons, if_neg (by simpa using e)]
      exact ih
theorem eq_bytes (x : List UInt8) (s : ByteArray) : ((⟨x.toArray⟩ : ByteArray).toList == s.toList) = (x == toL s) := by
  rw [ByteArray.toList_eq, ByteArray.toList_eq]
  simp [toL]
theorem strs_one (l : List ByteArray) : ∀ u ∈ strs l, u.oneCell' = true := by
  intro u hu
  simp [strs] at hu
  obtain ⟨a, _, rfl⟩ := hu
  rfl
theorem own_empty (w : World) (e : TypeId) (g : Nat) (hg : g = w.heap.size) : (w.alloc (.cells #[] e)).ownsRow w.heap.size e 1 (.slice (some ⟨g, 0, none⟩) 0 0) 0 [] := by
  subst hg; exact World.ownsRow_made w #[] 0 (Nat.le_refl _) (by decide) (by simp)
theorem own_nil {w : World} {B e k n c m : Nat} {a : Option Addr} {xs : List Value} (h : w.ownsRow B e k (.slice a n c) m xs) (ha : a = none) : c = 0 := by
  rcases h.2 with ⟨e, _⟩ | ⟨_, _, _, e, _⟩
  · injection e
  · injection e with e1
    rw [ha] at e1
    cases e1
end plain

set_option maxHeartbeats 400000 in
theorem walk_long (w : World) (a : Option Addr) (c : Nat) (l : List ByteArray) (s : ByteArray) (hl : 100 < l.length) (hm : l.length ≤ maxLen) :
    Calls Try.prog 7 #[.slice a l.length c, .string s] w fun e w' => e = .returned (.bool true) ∧ Below w.heap.size w w' := by
  unfold maxLen at hm
  go_enter Try.func7, Try.ntmps7
  go_wp2_with fail
  refine (alive_any _).mono ?_
  rintro e w2 ⟨rfl, hB⟩
  go_wp2
  go_ret
  exact ⟨rfl, hB⟩

set_option maxHeartbeats 2000000 in
set_option maxRecDepth 100000 in
theorem walk_short (w : World) (a : Option Addr) (c : Nat) (l : List ByteArray) (s : ByteArray) (hr : Sl w a (strs l)) (hnil : a = none → c = 0) (hl : l.length ≤ 100) :
    Calls Try.prog 7 #[.slice a l.length c, .string s] w fun e w' => e = .returned (.bool true) ∧ Below w.heap.size w w' := by
  obtain ⟨i0, hi, hz0, hz1, hz2⟩ := info_parts Try.infoStr
  have HR := Lib.hid hr
  have HNIL := Lib.hid hnil
  have hn : (srt l).length ≤ l.length := srt_len l
  have HLEN := Lib.hid (srt_length l)
  clear hr hnil
  go_enter Try.func7, Try.ntmps7
  go_wp2_with fail
  refine (sorted_any a c l w HR.out (by omega)).mono ?_
  rintro e w1 ⟨v5, rfl, hown5, hB1⟩
  rw [← srt_length, ← strs_srt] at hown5
  obtain ⟨a5, c5, rfl, hc5, _, hs5, hn5⟩ := own_slice hown5
  have hnil5 := own_nil hown5
  have HR1 := Lib.hid (HR.out.below hB1)
  have HX1 := Lib.hid hs5
  have HN5 := Lib.hid hnil5
  have HB1 := Lib.hid hB1
  have hsz1 := hB1.size
  clear hown5 hs5 hB1 hnil5 HR hn5
  generalize hx : srt l = x at *
  have HXE := Lib.hid hx
  clear hx
  go_wp2_with (first
    | (at_builtin; refine wpList_append_sl _ rfl (.tmp 18) (.tmp 19) 22 rfl w1.heap.size 9 i0 (.string ⟨#[]⟩) 16 Try.underlying22 hi hz0 hz1 hz2 rfl (.slice (some ⟨w1.heap.size, 0, none⟩) 0 0) 0 [] rfl (own_empty w1 _ _ rfl) a5 x.length c5 (strs x) rfl (HX1.out.below ((Below.refl _ _).alloc (Nat.le_refl _) _)) (strs_length _) HN5.out (strs_one _) (by unfold maxLen; omega) (by omega) (by simp) ?_; intro v2 w2 hown2 hg2; have hB2 : Below w1.heap.size w1 w2 := ((Below.refl w1.heap.size w1).alloc (Nat.le_refl _) _).grown hg2 (by simp) (fun k hk => by cases hk; exact Nat.le_refl _))
    | (at_builtin; refine wpList_append_sl _ rfl (.tmp 20) (.tmp 21) 22 rfl w1.heap.size 9 i0 (.string ⟨#[]⟩) 16 Try.underlying22 hi hz0 hz1 hz2 rfl v2 _ _ rfl hown2 a l.length c (strs l) rfl (HR1.out.below hB2) (strs_length _) HNIL.out (strs_one _) (by unfold maxLen; omega) (by omega) hB2.size ?_; intro v3 w3 hown3 hg3))
  have hB3 : Below w1.heap.size w1 w3 := hB2.grown hg3 hB2.size (fun k hk => (hown2.lt k hk).1)
  have e1 : 0 + x.length + l.length = (x ++ l).length := by simp
  have e2 : [] ++ strs x ++ strs l = strs (x ++ l) := by simp [strs]
  rw [e1, e2] at hown3
  obtain ⟨a6, c6, rfl, _, _, hs6, _⟩ := own_slice hown3
  have hl6 : (x ++ l).length ≤ 1048576 := by simp; omega
  have H6 := Lib.hid (sorted_any a6 c6 (x ++ l) w3 hs6 hl6)
  have HX3 := Lib.hid (HX1.out.below hB3)
  have HB3 : Hid (Below w.heap.size w w3) := HB1.out.trans (hB3.mono HB1.out.size)
  clear e1 e2 hown2 hown3 hg2 hg3 hB2 hB3 hs6 hl6 HX1 HR1 hsz1 HB1
  refine H6.out.mono ?_
  rintro e w4 ⟨v6, rfl, hown6, hB4⟩
  have hsame : sv (x ++ l) = sv l := by rw [← HXE.out]; exact again l
  rw [hsame] at hown6
  obtain ⟨a7, c7, rfl, _, _, hs7, _⟩ := own_slice hown6
  have HX4 := Lib.hid (HX3.out.below hB4)
  have HY4 := Lib.hid hs7
  have HB4 : Hid (Below w.heap.size w w4) := HB3.out.trans (hB4.mono HB3.out.size)
  clear hown6 hs7 hB4 hsame H6 HX3 HB3
  go_wp2_with (first
    | (at_builtin; refine wpList_append_sl _ rfl (.tmp 24) (.tmp 25) 22 rfl w4.heap.size 9 i0 (.string ⟨#[]⟩) 16 Try.underlying22 hi hz0 hz1 hz2 rfl (.slice (some ⟨w4.heap.size, 0, none⟩) 0 0) 0 [] rfl (own_empty w4 _ _ rfl) a5 x.length c5 (strs x) rfl (HX4.out.below ((Below.refl _ _).alloc (Nat.le_refl _) _)) (strs_length _) HN5.out (strs_one _) (by unfold maxLen; omega) (by omega) (by simp) ?_; intro v5 w5 hown5 hg5; have hB5 : Below w4.heap.size w4 w5 := ((Below.refl w4.heap.size w4).alloc (Nat.le_refl _) _).grown hg5 (by simp) (fun k hk => by cases hk; exact Nat.le_refl _))
    | (at_builtin; refine wpList_append_own _ rfl (.tmp 26) (.tmp 28) 22 rfl w4.heap.size 9 i0 (.string ⟨#[]⟩) 1 16 Try.underlying22 hi hz0 hz1 hz2 rfl (by decide) v5 _ _ rfl (hown5.alloc _) ⟨w5.heap.size, 0, none⟩ 1 1 [.string s] rfl rfl (cell_one_new _ _ _) (by intro u hu; simp at hu; subst hu; rfl) (by unfold maxLen; omega) (by omega) (Nat.le_trans hB5.size (by simp)) ?_; intro v6 w6 hown6 hg6 _))
  have hB6 : Below w4.heap.size w4 w6 := (hB5.alloc hB5.size _).grown hg6 (Nat.le_trans hB5.size (by simp)) (fun k hk => (hown5.lt k hk).1)
  have e1 : 0 + x.length + 1 = (x ++ [s]).length := by simp
  have e2 : [] ++ strs x ++ [.string s] = strs (x ++ [s]) := by simp [strs]
  rw [e1, e2] at hown6
  obtain ⟨a8, c8, rfl, _, _, hs8, _⟩ := own_slice hown6
  have hl8 : (x ++ [s]).length ≤ 1048576 := by simp; omega
  have H8 := Lib.hid (sorted_any a8 c8 (x ++ [s]) w6 hs8 hl8)
  have HX6 := Lib.hid (HX4.out.below hB6)
  have HY6 := Lib.hid (HY4.out.below hB6)
  have HB6 : Hid (Below w.heap.size w w6) := HB4.out.trans (hB6.mono HB4.out.size)
  clear e1 e2 hown5 hown6 hg5 hg6 hB5 hB6 hs8 hl8 HX4 HY4 HB4
  refine H8.out.mono ?_
  rintro e w7 ⟨v7, rfl, hown7, hB7⟩
  have hins : sv (x ++ [s]) = ins (toL s) (sv l) := by rw [← HXE.out]; exact more l s
  rw [hins] at hown7
  obtain ⟨a9, c9, rfl, _, _, hs9, _⟩ := own_slice hown7
  have hzl := ins_len (toL s) (sv l)
  have hxl : x.length = (sv l).length := HLEN.out
  have HONE := Lib.hid (cnt_one (toL s) _ (rises_ins (toL s) (sv l) (rises_sortL _)) ((mem_ins _ _ _).2 (.inr rfl)))
  have HX := Lib.hid (HX6.out.below hB7)
  have HXS : Hid (strs x = (sv l).map encStr) := by unfold Hid; rw [← HXE.out]; exact strs_srt l
  have HY := Lib.hid (HY6.out.below hB7)
  have HZ := Lib.hid hs9
  have HB7 : Hid (Below w.heap.size w w7) := HB6.out.trans (hB7.mono HB6.out.size)
  clear hown7 hs9 hB7 hins H8 HX6 HY6 HB6
  generalize ins (toL s) (sv l) = z at *
  rw [HXS.out] at HX
  have hsv : (sv l).length ≤ 100 := by omega
  rw [hxl]
  clear hxl HLEN HXE HXS
  generalize sv l = y at *
  have hne : ((y.length : Int) != (y.length : Int)) = false := by simp
  go_wp2
  go_loop [8, 38] (fun n i => ∃ k : Nat, k ≤ z.length ∧ i = .int .i64 k ∧ n = .int .i64 (cnt (toL s) (z.take k) : Nat)) (fun _ i => z.length - (intOf i).toNat)
  case atStart => exact ⟨0, by omega, rfl, rfl⟩
  case round =>
    obtain ⟨k, hk, rfl, rfl⟩ := hrel
    by_cases hlt : k < z.length
    · obtain ⟨b9, o9, e9, _, hc9⟩ := HZ.out k (by simpa using hlt)
      subst e9
      simp only [List.getElem_map, encStr] at hc9
      have hnx := cnt_next (toL s) z k hlt
      have hle := cnt_le (toL s) z k
      rw [← eq_bytes] at hnx
      generalize (⟨z[k].toArray⟩ : ByteArray) = u at *
      cases hu : (u.toList == s.toList)
      · have HN : Hid (cnt (toL s) (z.take (k + 1)) = cnt (toL s) (z.take k)) := by rw [hu] at hnx; exact hnx
        clear hnx
        generalize cnt (toL s) (z.take k) = q at *
        go_wp2
        go_round
        case rel => exact ⟨k + 1, by omega, by go_num, by rw [HN.out]⟩
        case measure => simp [intOf]; omega
      · have HN : Hid (cnt (toL s) (z.take (k + 1)) = cnt (toL s) (z.take k) + 1) := by rw [hu] at hnx; exact hnx
        clear hnx
        generalize cnt (toL s) (z.take k) = q at *
        go_wp2
        go_round
        case rel => exact ⟨k + 1, by omega, by go_num, by rw [HN.out]; go_num⟩
        case measure => simp [intOf]; omega
    · have hone : cnt (toL s) (z.take k) = 1 := by rw [List.take_of_length_le (by omega)]; exact HONE.out
      rw [hone]
      clear hone HONE
      go_wp2
      go_loopw [50] (fun i wr => ∃ k : Nat, k ≤ y.length ∧ i = .int .i64 k ∧ Drew w7 wr) (fun i _ => y.length - (intOf i).toNat)
      case atStart => exact ⟨0, by omega, rfl, Drew.refl _⟩
      case round =>
        obtain ⟨m, hm, rfl, HD⟩ := hrel
        by_cases hlt : m < y.length
        · obtain ⟨b4, o4, e4, _, hc4⟩ := HX.out m (by simpa using hlt)
          obtain ⟨b5, o5, e5, _, hc5⟩ := HY.out m (by simpa using hlt)
          have hc4 := (HD.cell _).trans hc4
          have hc5 := (HD.cell _).trans hc5
          subst e4 e5
          simp only [List.getElem_map, encStr] at hc4 hc5
          generalize (⟨y[m].toArray⟩ : ByteArray) = u at *
          go_wp2
          go_quiet (fail)
          go_wp2
          go_roundw
          case rel => exact ⟨m + 1, by omega, by go_num, by obtain ⟨n, rfl⟩ := HD; exact ⟨_, by rw [World.drewN_drewN]⟩⟩
          case measure => simp [intOf]; omega
        · have HBr : Hid (Below w.heap.size w wr) := HB7.out.trans (HD.below _)
          have g1 : decide (y.length ≤ z.length) = true := by simp; omega
          have g2 : decide ((z.length : Int) ≤ (y.length : Int) + 1) = true := by simp; omega
          clear HX HY HZ HB7 HD
          go_wp2_with fail
          refine (alive_any _).mono ?_
          rintro e w8 ⟨rfl, hB8⟩
          go_wp2
          go_ret
          exact ⟨by first | rfl | simp | (simp; omega), HBr.out.trans (hB8.mono HBr.out.size)⟩

theorem walk (w : World) (a : Option Addr) (c : Nat) (l : List ByteArray) (hr : Sl w a (strs l)) (hf : Fits l) (hlc : l.length ≤ c) (hc : c ≤ maxLen) (ha : a = none → c = 0) (s : ByteArray) (hs : s.size ≤ maxLen) :
    Calls Try.prog 7 #[.slice a l.length c, .string s] w fun e w' => e = .returned (.bool true) ∧ Below w.heap.size w w' := by
  by_cases hl : l.length ≤ 100
  · exact walk_short w a c l s hr ha hl
  · exact walk_long w a c l s (by omega) hf.1

set_option maxRecDepth 100000 in
theorem lifted (os : Os) (started : os.Started) (H : Type) (enc : TypeId × Value → H) :
    ReturnsInHanded {} Try.checked os 7 .any (Rows.nameTwiceSpec.pre6 enc Try.prog Try.f7 Rows.nameTwiceRow.domain false) (Rows.nameTwiceSpec.post enc Try.prog Try.f7 false true false false) := by
  refine returnsInHanded_of_change (C := Try.checked) own started (by kernel_rfl) Try.func7
    (ChangeSpec.witness6 (enc := enc) (C := Try.checked) false ⟨#[], #[.slice none 0 0, .string ByteArray.empty], []⟩ 8 (by kernel_rfl) (by kernel_rfl) (by kernel_rfl) (by kernel_rfl)) ?_
  intro W base args ds gs before hval0 hW hcnd _
  have hval : ∀ (j : Nat) t v, Try.f7.params[j]? = some t → args[j]? = some v → Value.okWide Try.prog W .any base t v := hval0
  have hW' := hW
  have hlt := hW.lt
  obtain ⟨p, q, hA0, hV, rfl, hfz, hnd⟩ := hW
  have hA : DataW.TrodAll enc Try.prog W 0 (fun _ => true) true Try.f7.params.toList args.toList ds p := hA0
  rw [Try.params7] at hA hval
  obtain ⟨v0, vs0, d0, ds0, p0, q0, hargs, rfl, rfl, h0, r0⟩ := trodAll_cons hA
  obtain ⟨v1, vs1, d1, ds1, p1, q1, rfl, rfl, rfl, h1, r1⟩ := trodAll_cons r0
  obtain ⟨rfl, rfl, rfl⟩ := trodAll_nil r1
  obtain rfl : args = #[v0, v1] := by cases args; simp_all
  obtain ⟨a0, c0, l0, rfl, s0, f0, m0, n0, o0⟩ := open_row (hval 0 22 v0 rfl rfl) h0 (fun x hx => hlt x (by simp [hx]))
  obtain ⟨a1, rfl, -, -, w1⟩ := open_string Try.underlying9 (hval 1 9 v1 rfl rfl) h1
  refine (walk W a0 c0 l0 s0 f0 m0 n0 o0 a1 w1).mono fun e W' ⟨he, hb⟩ => ?_
  subst he
  exact ⟨_, rfl, law_post rfl hW' (fun ds h => by match ds, h with | [_, _], _ => rfl) (by kernel_rfl) (by kernel_rfl) (by kernel_rfl) hb⟩

theorem over : Rows.nameTwiceRow.holds Try.pinned (OpenSpec.ofChange Rows.nameTwiceSpec) :=
  OpenClaim.holds_of_wide 7 Try.f7 rfl rfl rfl rfl rfl rfl rfl ⟨rfl, rfl, rfl, rfl, rfl⟩ rfl rfl rfl rfl rfl (by kernel_rfl) Try.func7 (by kernel_rfl)
    (of_decide_eq_true (by kernel_rfl)) (by unfold Func.isWrapper; first | (rw [if_pos (by decide +kernel)]; kernel_rfl) | (rw [if_neg (by decide +kernel)]; exact ⟨rfl, rfl⟩))
    (fun os started H enc _ => lifted os started H enc)

theorem proved : Rows.NameTwiceSaid := over
end Go.Proofs.Ythcjkobopobokaa.nameTwice
