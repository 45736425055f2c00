/- Contracts of the laws' own words of layer 4: all frames' texts, one behind the other, and where each ends. -/
import Derived.Test.YtkfddmbhokeofaaI6
import Derived.OwnWalk
namespace Go.Proofs.Ytkfddmbhokeofaa
open Go.RowKit
set_option linter.unusedVariables false

/-- all frames' texts, one behind the other -/
def flatP (l : List Fr) : List UInt8 := l.flatMap fun x => packT x.1 x.2
theorem flatP_take (l : List Fr) (j : Nat) (h : j < l.length) : flatP (l.take (j + 1)) = flatP (l.take j) ++ packT l[j].1 l[j].2 := by
  rw [List.take_add_one, List.getElem?_eq_getElem h]
  unfold flatP
  rw [List.flatMap_append]; simp
/-- where each ends, as cells -/
def endsTo (l : List Fr) (j : Nat) : List Value := (List.range j).map fun k => .int .i64 ((flatP (l.take (k + 1))).length : Int)
theorem endsTo_next (l : List Fr) (j : Nat) : endsTo l (j + 1) = endsTo l j ++ [.int .i64 ((flatP (l.take (j + 1))).length : Int)] := by simp [endsTo, List.range_succ]
theorem endsTo_len (l : List Fr) (j : Nat) : (endsTo l j).length = j := by simp [endsTo]
theorem endsTo_get (l : List Fr) (j k : Nat) (h : k < j) : (endsTo l j)[k]'(by rw [endsTo_len]; exact h) = .int .i64 ((flatP (l.take (k + 1))).length : Int) := by simp [endsTo]
/-- a frame that Whole takes -/
def OkW (x : Fr) : Prop := packE x.1 x.2 = 0 ∧ (packT x.1 x.2).length ≤ 100
/-- what was given as a row of frames: bodies that a machine can hold -/
def FitsF (l : List Fr) : Prop := l.length ≤ maxLen ∧ ∀ x ∈ l, x.2.length ≤ maxLen
theorem flatP_size (l : List Fr) (j : Nat) (h : ∀ k (hk : k < l.length), k < j → (packT l[k].1 l[k].2).length ≤ 100) : ∀ i, i ≤ j → i ≤ l.length → (flatP (l.take i)).length ≤ 100 * i
  | 0, _, _ => by simp [flatP]
  | i + 1, h1, h2 => by
    rw [flatP_take l i (by omega), List.length_append]
    have a := flatP_size l j h i (by omega) (by omega)
    have b := h i (by omega) (by omega)
    omega
theorem infoI : (Try.prog.info? 3).map (fun i => (i.zero, i.size, i.bytes)) = some (some (.int .i64 0), 1, 8) := by kernel_rfl

/-- what Whole tells -/
def WholeR (w : World) (l : List Fr) (e : Ending) (w' : World) : Prop :=
  (∃ v, e = .returned (.tuple #[.string (tx (flatP l)), v, .bool true]) ∧ (∀ x ∈ l, OkW x) ∧ l.length ≤ 20 ∧ w'.ownsRow w.heap.size 3 1 v l.length (endsTo l l.length)) ∨
  e = .returned (.tuple #[.string ⟨#[]⟩, .slice none 0 0, .bool false])

set_option maxHeartbeats 4000000 in
theorem whole_any (a : Option Addr) (c : Nat) (l : List Fr) (w : World) (hr : FrSl w a l) (hf : FitsF l) :
    Calls Try.prog 22 #[.slice a l.length c] w fun e w' => WholeR w l e w' ∧ Below w.heap.size w w' := by
  obtain ⟨i0, hi, hz0, hz1, hz2⟩ := info_parts infoI
  have HR := Lib.hid hr
  have HF := Lib.hid hf
  have hll := hf.1
  unfold maxLen at hll
  clear hr hf
  have HP := Lib.hid (fun k b hb W => refPack_any k b hb W)
  have HLEN : ∃ n, n = l.length := ⟨_, rfl⟩
  obtain ⟨n, hn⟩ := HLEN
  rw [← hn] at hll ⊢
  have HN := Lib.hid hn
  clear hn
  go_enter Try.func22, Try.ntmps22
  go_wp2
  go_loopw [2, 3, 11] (fun o v i wr => ∃ (j : Nat), j ≤ n ∧ i = .int .i64 j ∧ o = .string (tx (flatP (l.take j))) ∧ (j = 0 ∨ n ≤ 20) ∧ Hid (∀ k (hk : k < l.length), k < j → OkW l[k]) ∧ Hid (wr.ownsRow w.heap.size 3 1 v j (endsTo l j)) ∧ Hid (Below w.heap.size w wr)) (fun _ _ i _ => n - (intOf i).toNat)
  case atStart => exact ⟨0, by omega, rfl, rfl, .inl rfl, (fun k hk h => absurd h (by omega)), ⟨rfl, .inl ⟨rfl, rfl⟩⟩, Below.refl _ _⟩
  case round =>
    obtain ⟨j, hj, rfl, rfl, h20, HOK, HO, HB⟩ := hrel
    by_cases hjn : j < n
    · have hjl : j < l.length := by have := HN.out; omega
      obtain ⟨b, off, rfl, hbl, hc0, hc1⟩ := (HR.out.below HB.out).at hjl
      have HFL := Lib.hid (flatP_take l j hjl)
      have HSZ := Lib.hid (flatP_size l j (fun k hk h => (HOK.out k hk h).2) j (Nat.le_refl _) (by omega))
      have hdl := HF.out.2 l[j] (List.getElem_mem hjl)
      have HNX : Hid (OkW l[j] → ∀ k (hk : k < l.length), k < j + 1 → OkW l[k]) := fun h k hk hkj => by
        rcases Nat.lt_or_ge k j with h1 | h1
        · exact HOK.out k hk h1
        · obtain rfl : k = j := by omega
          exact h
      generalize l[j] = x at *
      obtain ⟨k, d⟩ := x
      have hd : (tx d).size ≤ maxLen := by rw [tx_size]; exact hdl
      have HP1 := Lib.hid (HP.out k (tx d) hd)
      rw [toL_tx] at HP1
      have hkb : 0 ≤ (k.toNat : Int) ∧ (k.toNat : Int) ≤ 255 := ⟨by omega, by have := k.toNat_lt; omega⟩
      have HB1 := Lib.hid (HB.out.alloc HB.out.size (.cells #[.int .u8 (k.toNat : Int), .string (tx d)] 23))
      have HO1 := Lib.hid (own_below HO.out ((Below.refl wr.heap.size wr).alloc (Nat.le_refl _) (.cells #[.int .u8 (k.toNat : Int), .string (tx d)] 23)))
      clear hjl hdl hd HO HB HP hbl HR HF
      by_cases hE : packE k d = 0
      · have hS : packS k d = packT k d := by unfold packS; rw [if_pos hE]
        rw [hS, hE] at HP1
        clear hS
        have hts : (tx (packT k d)).size = (packT k d).length := tx_size _
        have HOKX : Hid ((packT k d).length ≤ 100 → OkW (k, d)) := fun h => ⟨hE, h⟩
        clear hE
        by_cases hbig : 20 < n
        · generalize tx (packT k d) = t at *
          go_wp2_with fail
          refine (HP1.out _).mono ?_
          rintro e w2 ⟨rfl, hB2⟩
          have HB2 : Hid (Below w.heap.size w w2) := HB1.out.trans (hB2.mono HB1.out.size)
          clear hB2 HB1 HP1 HO1
          go_wp2
          go_ret3
          exact ⟨.inr rfl, HB2.out⟩
        · by_cases hlong : 100 < (packT k d).length
          · rw [← hts] at hlong
            clear hts HOKX
            generalize tx (packT k d) = t at *
            go_wp2_with fail
            refine (HP1.out _).mono ?_
            rintro e w2 ⟨rfl, hB2⟩
            have HB2 : Hid (Below w.heap.size w w2) := HB1.out.trans (hB2.mono HB1.out.size)
            clear hB2 HB1 HP1 HO1
            go_wp2
            go_ret3
            exact ⟨.inr rfl, HB2.out⟩
          · have HOK2 := Lib.hid (HNX.out (HOKX.out (by omega)))
            have hs1 : (tx (flatP (l.take j))).size ≤ 2000 := by rw [tx_size]; have := HSZ.out; omega
            have hs2 : (tx (packT k d)).size ≤ 100 := by omega
            have HCAT : Hid (tx (flatP (l.take j)) ++ tx (packT k d) = tx (flatP (l.take (j + 1)))) := by unfold Hid; rw [HFL.out, tx_append]
            have hs3 : (tx (flatP (l.take j)) ++ tx (packT k d)).size = (flatP (l.take (j + 1))).length := by rw [HCAT.out, tx_size]
            have HEN := Lib.hid (endsTo_next l j)
            have hs4 : (flatP (l.take (j + 1))).length ≤ 2100 := by rw [← hs3, ByteArray.size_append]; omega
            clear hts HOKX HNX HFL HSZ HOK hlong
            generalize tx (flatP (l.take j)) = S at *
            generalize tx (packT k d) = t at *
            generalize (flatP (l.take (j + 1))).length = z at *
            go_wp2_with fail
            refine (HP1.out _).mono ?_
            rintro e w2 ⟨rfl, hB2⟩
            have HB2 : Hid (Below w.heap.size w w2) := HB1.out.trans (hB2.mono HB1.out.size)
            have HO2 := Lib.hid (own_below HO1.out hB2)
            clear hB2 HB1 HP1 HO1
            have HB3 : Hid (Below w.heap.size w (w2.alloc (.cells #[.int .i64 (z : Int)] 3))) := HB2.out.alloc HB2.out.size _
            have HO3 := Lib.hid (own_below HO2.out ((Below.refl w2.heap.size w2).alloc (Nat.le_refl _) (.cells #[.int .i64 (z : Int)] 3)))
            have HS3 : Hid (w.heap.size ≤ (w2.alloc (.cells #[.int .i64 (z : Int)] 3)).heap.size) := HB3.out.size
            go_wp2_with (at_builtin; refine wpList_append_own _ rfl (.tmp 35) (.tmp 38) 46 rfl w.heap.size 3 i0 _ 1 8 Try.underlying46 hi hz0 hz1 hz2 rfl (by decide) _ _ _ rfl HO3.out ⟨w2.heap.size, 0, none⟩ 1 1 [.int .i64 (z : Int)] rfl rfl (news_at _ _ _ _ rfl) (by intro u hu; rw [List.mem_singleton.1 hu]; rfl) (by unfold maxLen; omega) (by omega) HS3.out ?_; intro v' w3 hown' hgrow hiff)
            have HB4 := Lib.hid (app_below HB3.out HS3.out HO3.out hgrow)
            have HO4 := Lib.hid hown'
            clear hown' hgrow hiff HB3 HS3 HO3 HB2 HO2
            go_wp2
            go_roundw
            case rel => exact ⟨j + 1, by omega, by go_num, (by rw [HCAT.out]), .inr (by omega), HOK2, (by unfold Hid; rw [HEN.out]; exact HO4.out), HB4⟩
            case measure => simp [intOf]; omega
      · have hne : ((packE k d : Int) == 0) = false := beq_eq_false_iff_ne.2 (by omega)
        generalize packE k d = E at *
        generalize tx (packS k d) = t at *
        go_wp2_with fail
        refine (HP1.out _).mono ?_
        rintro e w2 ⟨rfl, hB2⟩
        have HB2 : Hid (Below w.heap.size w w2) := HB1.out.trans (hB2.mono HB1.out.size)
        clear hB2 HB1 HP1 HO1
        go_wp2
        go_ret3
        exact ⟨.inr rfl, HB2.out⟩
    · obtain rfl : j = n := by omega
      rw [List.take_of_length_le (Nat.le_of_eq HN.out.symm)]
      have HR2 : Hid (∀ v, wr.ownsRow w.heap.size 3 1 v j (endsTo l j) → WholeR w l (.returned (.tuple #[.string (tx (flatP l)), v, .bool true])) wr) := fun v h => by
        rw [HN.out] at h
        refine .inl ⟨v, rfl, fun x hx => ?_, ?_, h⟩
        · obtain ⟨k, hk, rfl⟩ := List.mem_iff_getElem.1 hx
          exact HOK.out k hk (by rw [HN.out]; exact hk)
        · have := HN.out; omega
      go_wp2
      go_ret3
      exact ⟨HR2.out _ HO.out, HB.out⟩
end Go.Proofs.Ytkfddmbhokeofaa
