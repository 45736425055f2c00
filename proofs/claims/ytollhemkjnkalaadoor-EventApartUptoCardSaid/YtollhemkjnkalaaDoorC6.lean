/- Contract of layer 3: the sum of all texts. -/
import Derived.Test.YtollhemkjnkalaaDoorC4
import Derived.Test.YtollhemkjnkalaaDoorC5
namespace Go.Proofs.YtollhemkjnkalaaDoor
open Go.RowKit
set_option linter.unusedVariables false
set_option maxRecDepth 100000

/-- the bytes of all texts, one behind the other -/
def flat (l : List ByteArray) : List UInt8 := (l.map toL).flatten
theorem flat_take (l : List ByteArray) (j : Nat) (h : j < l.length) : flat (l.take (j + 1)) = flat (l.take j) ++ toL l[j] := by
  unfold flat
  rw [List.take_add_one, List.getElem?_eq_getElem h, List.map_append, List.flatten_append]
  simp only [Option.toList, List.map_cons, List.map_nil, List.flatten_cons, List.flatten_nil, List.append_nil]
theorem flat_one (s : ByteArray) : flat [s] = toL s := by simp [flat]
theorem flat_two (s t : ByteArray) : flat [s, t] = toL s ++ toL t := by simp [flat]
theorem flat_snoc (l : List ByteArray) (s : ByteArray) : flat (l ++ [s]) = flat l ++ toL s := by simp [flat]
/-- the table, laid into a new block -/
theorem store_tab (W : World) : (storeCells ⟨W.heap.size, 0, none⟩ tab.toList 0).run Tryd.prog (W.alloc (.cells (tabUp 1) 115)) = .ok () (W.alloc (.cells tab 115)) :=
  run_storeCells_new W 115 (tabUp 1) tab (by rw [tab_size]; exact sizeTab) (by rw [tab_size, tabUp_size]) tab_one
/-- the table lies in block b -/
def TabAt (W : World) (b : Nat) : Prop := b < W.heap.size ∧ ∀ c, c < 256 → W.cell? ⟨b, c, none⟩ = some (.int .u32 (entryN c : Int))
theorem TabAt.new (W : World) : TabAt (W.alloc (.cells tab 115)) W.heap.size := ⟨by rw [size1]; omega, fun c hc => by
  rw [cell_of_row _ _ _ _ _ (0, 0) (heap_alloc_last W _)]
  exact tab_at c hc⟩
theorem TabAt.below {W W' : World} {b : Nat} (h : TabAt W b) (hb : Below W.heap.size W W') : TabAt W' b := ⟨Nat.lt_of_lt_of_le h.1 hb.size, fun c hc => (hb.cell (p := ⟨b, c, none⟩) h.1).trans (h.2 c hc)⟩

set_option maxHeartbeats 1000000 in
set_option maxRecDepth 100000 in
theorem sum_any (a : Option Addr) (c : Nat) (l : List ByteArray) (w : World) (hs : Sl w a (strs l)) (hf : Fits l) :
    Calls Tryd.prog 68 #[.slice a l.length c] w fun e w' => e = .returned (.int .u32 (sumN (flat l) : Int)) ∧ Below w.heap.size w w' := by
  have HT := Lib.hid table_any
  have HFL := Lib.hid hf.2
  have hll := hf.1
  have hz := zeroTab
  have hts := tab_size
  have hst := store_tab
  clear hf
  unfold maxLen at hll
  go_enter Tryd.func68, Tryd.ntmps68
  go_wp2_with fail
  refine (HT.out _).mono ?_
  rintro e w1 ⟨rfl, hB1⟩
  have HS1 := Lib.hid (hs.below hB1)
  clear HT hs
  go_wp2
  clear hz hts hst
  have HTB := Lib.hid (TabAt.new w1)
  have hB2 : Below w.heap.size w (w1.alloc (.cells tab 115)) := hB1.alloc hB1.size _
  have HS2 := Lib.hid (HS1.out.below ((Below.refl w1.heap.size w1).alloc (Nat.le_refl _) (.cells tab 115)))
  clear hB1 HS1
  generalize w1.alloc (.cells tab 115) = W at *
  generalize w1.heap.size = tb at *
  have HB2 := Lib.hid hB2
  clear hB2
  go_loopw [4, 11] (fun v i wr => ∃ j : Nat, j ≤ l.length ∧ i = .int .i64 j ∧ v = .int .u32 (goN 4294967295 (flat (l.take j)) : Int) ∧ W = wr) (fun _ i _ => l.length - (intOf i).toNat)
  case atStart => exact ⟨0, by omega, rfl, rfl, rfl⟩
  case round =>
    obtain ⟨j, hj, rfl, rfl, rfl⟩ := hrel
    have hlt : goN 4294967295 (flat (l.take j)) < 4294967296 := goN_lt _ (by decide)
    by_cases hjl : j < l.length
    · have HN : Hid (goN (goN 4294967295 (flat (l.take j))) (toL l[j]) = goN 4294967295 (flat (l.take (j + 1)))) := by
        unfold Hid
        rw [flat_take l j hjl, goN_append]
      obtain ⟨b, off, rfl, hbl, hcell⟩ := HS2.out.str hjl
      have hsz := HFL.out l[j] (List.getElem_mem hjl)
      unfold maxLen at hsz
      generalize l[j] = s at *
      generalize goN 4294967295 (flat (l.take j)) = m at *
      have HF : Hid ((toL s).take s.size = toL s) := List.take_of_length_le (by rw [toL_length]; exact Nat.le_refl _)
      clear HFL hbl
      go_wp2_with fail
      go_loopw [4, 17] (fun v i wr => ∃ k : Nat, k ≤ s.size ∧ i = .int .i64 k ∧ v = .int .u32 (goN m ((toL s).take k) : Int) ∧ W = wr) (fun _ i _ => s.size - (intOf i).toNat)
      case atStart => exact ⟨0, by omega, rfl, rfl, rfl⟩
      case round =>
        obtain ⟨k, hk, rfl, rfl, rfl⟩ := hrel
        have hnt : goN m ((toL s).take k) < 4294967296 := goN_lt _ hlt
        by_cases hks : k < s.size
        · have HM := Lib.hid (goN_take s k hks m)
          generalize goN m ((toL s).take k) = n at *
          obtain ⟨x, hx⟩ : ∃ x, s[k]'hks = x := ⟨_, rfl⟩
          rw [hx] at HM
          have hc : x.toNat < 256 := x.toNat_lt
          have e1 : (n : Int) / 256 = ((n / 256 : Nat) : Int) := by omega
          have e2 : IntKind.u8.wrap (n : Int) = ((n % 256 : Nat) : Int) := by rw [IntKind.wrap_u8']; omega
          have e3 := b_xor8 (n % 256) x.toNat (by omega) hc
          have hxx := xor8 (show n % 256 < 256 by omega) hc
          have e4 := b_xor32 (n / 256) (entryN ((n % 256) ^^^ x.toNat)) (by omega) (entryN_lt hxx)
          have hct := HTB.out.2 _ hxx
          have HE : Hid (stepN n x.toNat = (n / 256) ^^^ entryN ((n % 256) ^^^ x.toNat)) := rfl
          have hi : ((n % 256 ^^^ x.toNat : Nat) : Int) < 256 := by omega
          generalize n / 256 = q at *
          generalize n % 256 = r at *
          generalize r ^^^ x.toNat = y at *
          generalize entryN y = z at *
          go_wp2
          go_roundw
          case rel => exact ⟨k + 1, by omega, by go_num, by rw [← HM.out, HE.out], by trivial⟩
          case measure => simp [intOf]; omega
        · obtain rfl : k = s.size := by omega
          go_wp2
          go_roundw
          case rel => exact ⟨j + 1, by omega, by go_num, by rw [← HN.out, HF.out], by trivial⟩
          case measure => simp [intOf]; omega
    · obtain rfl : j = l.length := by omega
      have HE : Hid (sumN (flat l) = 4294967295 ^^^ goN 4294967295 (flat (l.take l.length))) := by
        unfold Hid
        rw [List.take_of_length_le (Nat.le_refl _)]; rfl
      have e1 := b_ones _ hlt
      generalize goN 4294967295 (flat (l.take l.length)) = m at *
      go_wp2
      go_ret
      exact ⟨retI (by rw [HE.out]), HB2.out⟩
end Go.Proofs.YtollhemkjnkalaaDoor
