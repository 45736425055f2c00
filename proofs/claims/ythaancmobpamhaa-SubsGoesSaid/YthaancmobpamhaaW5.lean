/- Layer 7: the document's ends of spans: contracts. -/
import Derived.Test.YthaancmobpamhaaW3
namespace Go.Proofs.Ythaancmobpamhaa
open Go.RowKit
set_option linter.unusedVariables false
set_option maxRecDepth 100000
set_option maxRecDepth 100000

theorem infoInt : (Try.prog.info? 3).map (fun i => (i.zero, i.size, i.bytes)) = some (some (.int .i64 0), 1, 8) := by kernel_rfl
def ints (l : List Int) : List Value := l.map fun n => .int .i64 n
theorem ints_len (l : List Int) : (ints l).length = l.length := by simp [ints]
theorem ints_snoc (l : List Int) (n : Int) : ints (l ++ [n]) = ints l ++ [.int .i64 n] := by simp [ints]
theorem one_int (n : Int) : ∀ u ∈ [Value.int .i64 n], u.oneCell' = true := fun u hu => by rw [List.mem_singleton.1 hu]; rfl
theorem ints_at {w : World} {a : Option Addr} {l : List Int} (h : Sl w a (ints l)) {k : Nat} (hk : k < l.length) : ∃ b off, a = some ⟨b, off, none⟩ ∧ b < w.heap.size ∧ w.cell? ⟨b, off + k, none⟩ = some (.int .i64 l[k]) := by
  obtain ⟨b, off, e, hlt, hc⟩ := h k (by rw [ints_len]; exact hk)
  exact ⟨b, off, e, hlt, by rw [hc]; simp [ints]⟩

set_option maxHeartbeats 4000000 in
theorem put_any (a : Option Addr) (c : Nat) (l : List Int) (n : Int) (w : World) (hr : Sl w a (ints l)) (hrise : Rise l) (hl : l.length ≤ 1000000) :
    Calls Try.prog 72 #[.slice a l.length c, .int .i64 n] w fun e w' => ∃ (v : Value) (r : List Int), e = .returned v ∧ Rise r ∧ (∀ x, x ∈ r ↔ x ∈ l ∨ x = n) ∧ r.length ≤ l.length + 1 ∧ w'.ownsRow w.heap.size 3 1 v r.length (ints r) ∧ Below w.heap.size w w' := by
  obtain ⟨i0, hi, hz0, hz1, hz2⟩ := info_parts infoInt
  have HR := Lib.hid hr
  have HRS := Lib.hid hrise
  clear hr hrise
  go_enter Try.func72, Try.ntmps72
  go_wp2
  go_loopw [5, 6, 7] (fun v d i wr => ∃ (j : Nat) (out : List Int) (dn : Bool), j ≤ l.length ∧ i = .int .i64 j ∧ d = .bool dn ∧ out.length ≤ j + (if dn then 1 else 0) ∧ Hid (PutI l n j out dn) ∧ Hid (wr.ownsRow w.heap.size 3 1 v out.length (ints out)) ∧ Hid (Below w.heap.size w wr)) (fun _ _ i _ => l.length - (intOf i).toNat)
  case atStart => exact ⟨0, [], false, by omega, rfl, rfl, by simp, PutI.start l n, ⟨rfl, .inl ⟨rfl, rfl⟩⟩, Below.refl _ _⟩
  case round =>
    obtain ⟨j, out, dn, hj, rfl, rfl, hol, HI, HO, HB⟩ := hrel
    by_cases hjl : j < l.length
    · obtain ⟨b, off, rfl, hbl, hc0⟩ := ints_at (HR.out.below HB.out) hjl
      have HPL := Lib.hid (fun hd => HI.out.plain HRS.out hjl hd)
      have HPU : Hid (dn = false → n < l[j] → PutI l n (j + 1) (out ++ [n] ++ [l[j]]) true) := fun h1 h2 => by
        have h := HI.out
        rw [h1] at h
        exact h.put HRS.out hjl h2
      have HCL := Lib.hid (fun W (hW : Below w.heap.size w W) => ints_at (HR.out.below hW) hjl)
      generalize hx : l[j] = x at *
      have hol2 : out.length ≤ j + 1 := by cases dn <;> simp at hol <;> omega
      have HA1 := Lib.hid ((Below.refl wr.heap.size wr).alloc (Nat.le_refl _) (.cells #[.int .i64 x] 3))
      have HO1 := Lib.hid (own_below HO.out HA1.out)
      have HB1 := Lib.hid (HB.out.trans (HA1.out.mono HB.out.size))
      have HS1 := Lib.hid HB1.out.size
      by_cases h1 : x = n
      · have he : (x == n) = true := beq_iff_eq.2 h1
        have HI2 := Lib.hid (HPL.out (.inr (.inr h1)))
        have hdn : (dn || decide (x = n)) = true := by rw [decide_eq_true h1, Bool.or_true]
        rw [hdn] at HI2
        clear HPL HPU HI hdn HCL
        subst h1
        go_wp2_with (at_builtin; refine wpList_append_own _ rfl (.tmp 34) (.tmp 39) 81 rfl w.heap.size 3 i0 _ 1 8 Try.underlying81 hi hz0 hz1 hz2 rfl (by decide) _ _ _ rfl HO1.out ⟨wr.heap.size, 0, none⟩ 1 1 [.int .i64 x] rfl rfl (news_at _ _ _ _ rfl) (one_int _) (by unfold maxLen; omega) (by omega) HS1.out ?_; intro v' w2 hown' hgrow hiff)
        have HB3 := Lib.hid (app_below HB1.out HS1.out HO1.out hgrow)
        have HO3 : Hid (w2.ownsRow w.heap.size 3 1 v' (out ++ [x]).length (ints (out ++ [x]))) := by unfold Hid; rw [ints_snoc, List.length_append]; exact hown'
        clear hown' hgrow hiff
        go_wp2
        go_roundw
        case rel => exact ⟨j + 1, out ++ [x], true, by omega, by go_num, rfl, by rw [List.length_append]; simp; omega, HI2, HO3, HB3⟩
        case measure => simp [intOf]; omega
      · have he : (x == n) = false := beq_eq_false_iff_ne.2 h1
        by_cases h2 : dn = true ∨ ¬ n < x
        · have HI2 := Lib.hid (HPL.out (by rcases h2 with h2 | h2; exact .inl h2; exact .inr (.inl (by omega))))
          have hdn : (dn || decide (x = n)) = dn := by rw [decide_eq_false h1, Bool.or_false]
          rw [hdn] at HI2
          clear HPL HPU HI hdn HCL
          cases dn with
          | true =>
            go_wp2_with (at_builtin; refine wpList_append_own _ rfl (.tmp 34) (.tmp 39) 81 rfl w.heap.size 3 i0 _ 1 8 Try.underlying81 hi hz0 hz1 hz2 rfl (by decide) _ _ _ rfl HO1.out ⟨wr.heap.size, 0, none⟩ 1 1 [.int .i64 x] rfl rfl (news_at _ _ _ _ rfl) (one_int _) (by unfold maxLen; omega) (by omega) HS1.out ?_; intro v' w2 hown' hgrow hiff)
            have HB3 := Lib.hid (app_below HB1.out HS1.out HO1.out hgrow)
            have HO3 : Hid (w2.ownsRow w.heap.size 3 1 v' (out ++ [x]).length (ints (out ++ [x]))) := by unfold Hid; rw [ints_snoc, List.length_append]; exact hown'
            clear hown' hgrow hiff
            go_wp2
            go_roundw
            case rel => exact ⟨j + 1, out ++ [x], true, by omega, by go_num, rfl, by rw [List.length_append]; simp at hol ⊢; omega, HI2, HO3, HB3⟩
            case measure => simp [intOf]; omega
          | false =>
            have h3 : ¬ n < x := h2.resolve_left (by decide)
            clear h2
            go_wp2_with (at_builtin; refine wpList_append_own _ rfl (.tmp 34) (.tmp 39) 81 rfl w.heap.size 3 i0 _ 1 8 Try.underlying81 hi hz0 hz1 hz2 rfl (by decide) _ _ _ rfl HO1.out ⟨wr.heap.size, 0, none⟩ 1 1 [.int .i64 x] rfl rfl (news_at _ _ _ _ rfl) (one_int _) (by unfold maxLen; omega) (by omega) HS1.out ?_; intro v' w2 hown' hgrow hiff)
            have HB3 := Lib.hid (app_below HB1.out HS1.out HO1.out hgrow)
            have HO3 : Hid (w2.ownsRow w.heap.size 3 1 v' (out ++ [x]).length (ints (out ++ [x]))) := by unfold Hid; rw [ints_snoc, List.length_append]; exact hown'
            clear hown' hgrow hiff
            go_wp2
            go_roundw
            case rel => exact ⟨j + 1, out ++ [x], false, by omega, by go_num, rfl, by rw [List.length_append]; simp at hol ⊢; omega, HI2, HO3, HB3⟩
            case measure => simp [intOf]; omega
        · have h3 : dn = false := by cases dn; rfl; exact absurd (.inl rfl) h2
          have h4 : n < x := by
            rcases Int.lt_or_le n x with h | h
            · exact h
            · exact absurd (.inr (by omega)) h2
          have HI2 := Lib.hid (HPU.out h3 h4)
          subst h3
          clear HPL HPU HI h2
          have HA2 := Lib.hid ((Below.refl wr.heap.size wr).alloc (Nat.le_refl _) (.cells #[.int .i64 n] 3))
          have HO2 := Lib.hid (own_below HO.out HA2.out)
          have HB2 := Lib.hid (HB.out.trans (HA2.out.mono HB.out.size))
          have HS2 := Lib.hid HB2.out.size
          have hol3 : out.length ≤ j := by simpa using hol
          go_wp2_with (first | (at_builtin; (refine wpList_append_own _ rfl (.tmp 30) (.tmp 32) 81 rfl w.heap.size 3 i0 _ 1 8 Try.underlying81 hi hz0 hz1 hz2 rfl (by decide) _ _ _ rfl HO2.out ⟨wr.heap.size, 0, none⟩ 1 1 [.int .i64 n] rfl rfl (news_at _ _ _ _ rfl) (one_int _) (by unfold maxLen; omega) (by omega) HS2.out ?_; intro v' w2 hown' hgrow hiff; have HB3 := Lib.hid (app_below HB2.out HS2.out HO2.out hgrow); have HO3 := Lib.hid hown'; clear hown' hgrow hiff; obtain ⟨_, _, hee, _, hc0⟩ := HCL.out _ HB3.out; cases hee; have HA4 := Lib.hid ((Below.refl w2.heap.size w2).alloc (Nat.le_refl _) (.cells #[.int .i64 x] 3)); have HO4 := Lib.hid (own_below HO3.out HA4.out); have HB4 := Lib.hid (HB3.out.trans (HA4.out.mono HB3.out.size)); have HS4 := Lib.hid HB4.out.size)) | (at_builtin; (refine wpList_append_own _ rfl (.tmp 34) (.tmp 39) 81 rfl w.heap.size 3 i0 _ 1 8 Try.underlying81 hi hz0 hz1 hz2 rfl (by decide) _ _ _ rfl HO4.out ⟨w2.heap.size, 0, none⟩ 1 1 [.int .i64 x] rfl rfl (news_at _ _ _ _ rfl) (one_int _) (by unfold maxLen; omega) (by omega) HS4.out ?_; intro v5 w5 hown' hgrow hiff)))
          have HB5 := Lib.hid (app_below HB4.out HS4.out HO4.out hgrow)
          have HO5 : Hid (w5.ownsRow w.heap.size 3 1 v5 (out ++ [n] ++ [x]).length (ints (out ++ [n] ++ [x]))) := by unfold Hid; rw [ints_snoc, ints_snoc, List.length_append, List.length_append]; exact hown'
          clear hown' hgrow hiff
          go_wp2
          go_roundw
          case rel => exact ⟨j + 1, out ++ [n] ++ [x], true, by omega, by go_num, rfl, by rw [List.length_append, List.length_append]; simp; omega, HI2, HO5, HB5⟩
          case measure => simp [intOf]; omega
    · obtain rfl : j = l.length := by omega
      obtain ⟨hr1, hr2⟩ := HI.out.done
      have HR1 := Lib.hid hr1
      have HR2 := Lib.hid hr2
      clear hr1 hr2
      cases dn with
      | true =>
        go_wp2
        go_ret
        first | exact ⟨_, out, rfl, HR1.out, HR2.out, by simpa using hol, HO.out, HB.out⟩ | exact ⟨_, rfl, out, HR1.out, HR2.out, by simpa using hol, HO.out, HB.out⟩
      | false =>
        have hol3 : out.length ≤ l.length := by simpa using hol
        have HA2 := Lib.hid ((Below.refl wr.heap.size wr).alloc (Nat.le_refl _) (.cells #[.int .i64 n] 3))
        have HO2 := Lib.hid (own_below HO.out HA2.out)
        have HB2 := Lib.hid (HB.out.trans (HA2.out.mono HB.out.size))
        have HS2 := Lib.hid HB2.out.size
        go_wp2_with (at_builtin; refine wpList_append_own _ rfl (.tmp 43) (.tmp 45) 81 rfl w.heap.size 3 i0 _ 1 8 Try.underlying81 hi hz0 hz1 hz2 rfl (by decide) _ _ _ rfl HO2.out ⟨wr.heap.size, 0, none⟩ 1 1 [.int .i64 n] rfl rfl (news_at _ _ _ _ rfl) (one_int _) (by unfold maxLen; omega) (by omega) HS2.out ?_; intro v' w2 hown' hgrow hiff)
        have HB3 := Lib.hid (app_below HB2.out HS2.out HO2.out hgrow)
        have HO3 : Hid (w2.ownsRow w.heap.size 3 1 v' (out ++ [n]).length (ints (out ++ [n]))) := by unfold Hid; rw [ints_snoc, List.length_append]; exact hown'
        clear hown' hgrow hiff
        go_wp2
        go_ret
        exact ⟨_, out ++ [n], rfl, HR1.out, HR2.out, by rw [List.length_append]; simp; omega, HO3.out, HB3.out⟩
end Go.Proofs.Ythaancmobpamhaa
