/- Contracts of the document's own words of layer 5: how two texts compare, where a file stands, how many bytes are used. -/
import Derived.Test.YtammmhbkfdmbfaaT1
namespace Go.Proofs.Ytammmhbkfdmbfaa
open Go.RowKit
set_option linter.unusedVariables false

theorem cb_drop_both (a b : ByteArray) (k : Nat) (ha : k < a.size) (hb : k < b.size) :
    Lib.compareBytes (a.data.toList.drop k) (b.data.toList.drop k) = if a[k] < b[k] then -1 else if b[k] < a[k] then 1 else Lib.compareBytes (a.data.toList.drop (k + 1)) (b.data.toList.drop (k + 1)) := by
  rw [List.drop_eq_getElem_cons (by simpa using ha), List.drop_eq_getElem_cons (l := b.data.toList) (by simpa using hb)]
  rfl
theorem cb_drop_end (a b : ByteArray) (k : Nat) (h : a.size ≤ k ∨ b.size ≤ k) (ha : k ≤ a.size) (hb : k ≤ b.size) :
    Lib.compareBytes (a.data.toList.drop k) (b.data.toList.drop k) = if a.size < b.size then -1 else if b.size < a.size then 1 else 0 := by
  by_cases h1 : k < a.size
  · have h2 : b.size ≤ k := by omega
    rw [List.drop_eq_getElem_cons (by simpa using h1), List.drop_eq_nil_of_le (show b.data.toList.length ≤ k by simp; omega), if_neg (by omega), if_pos (by omega)]
    rfl
  · rw [List.drop_eq_nil_of_le (show a.data.toList.length ≤ k by simp; omega)]
    by_cases h2 : k < b.size
    · rw [List.drop_eq_getElem_cons (l := b.data.toList) (by simpa using h2), if_pos (by omega)]
      rfl
    · rw [List.drop_eq_nil_of_le (show b.data.toList.length ≤ k by simp; omega), if_neg (by omega), if_neg (by omega)]
      rfl

set_option maxHeartbeats 1000000 in
theorem refCmp_any (a b : ByteArray) (w : World) (ha : a.size ≤ maxLen) (hb : b.size ≤ maxLen) :
    Calls Try.prog 70 #[.string a, .string b] w fun e w' => e = .returned (.int .i64 (Lib.compareBytes a.data.toList b.data.toList)) ∧ ∃ n, w' = w.drewN n := by
  unfold maxLen at ha hb
  go_enter Try.func70, Try.ntmps70
  go_wp2
  go_loopw [5] (fun i wr => ∃ k : Nat, k ≤ a.size ∧ k ≤ b.size ∧ i = .int .i64 k ∧ Hid (Lib.compareBytes a.data.toList b.data.toList = Lib.compareBytes (a.data.toList.drop k) (b.data.toList.drop k)) ∧ Hid (∃ n, wr = w.drewN n)) (fun i _ => a.size - (intOf i).toNat)
  case atStart => exact ⟨0, by omega, by omega, rfl, by simp [Hid], ⟨0, rfl⟩⟩
  case round =>
    obtain ⟨k, hka, hkb, rfl, H, HW⟩ := hrel
    by_cases hlt : k < a.size ∧ k < b.size
    · obtain ⟨h1, h2⟩ := hlt
      have HB := Lib.hid (H.out.trans (cb_drop_both a b k h1 h2))
      by_cases hab : a[k].toNat < b[k].toNat
      · have HF : Hid (Lib.compareBytes a.data.toList b.data.toList = -1) := by rw [HB.out, if_pos (by simpa [UInt8.lt_iff_toNat_lt] using hab)]; rfl
        obtain ⟨n0, rfl⟩ := HW.out
        go_wp2
        go_quiet (fail)
        go_wp2
        go_ret
        exact ⟨retI HF.out.symm, by first | exact ⟨_, rfl⟩ | (simp only [World.drewN_drewN]; exact ⟨_, rfl⟩)⟩
      · by_cases hba : b[k].toNat < a[k].toNat
        · have HF : Hid (Lib.compareBytes a.data.toList b.data.toList = 1) := by
            rw [HB.out, if_neg (by simpa [UInt8.lt_iff_toNat_lt] using hab), if_pos (by simpa [UInt8.lt_iff_toNat_lt] using hba)]; rfl
          obtain ⟨n0, rfl⟩ := HW.out
          go_wp2
          go_quiet (fail)
          go_wp2
          go_quiet (fail)
          go_wp2
          go_ret
          exact ⟨retI HF.out.symm, by first | exact ⟨_, rfl⟩ | (simp only [World.drewN_drewN]; exact ⟨_, rfl⟩)⟩
        · have HF := Lib.hid (HB.out.trans ((if_neg (by simpa [UInt8.lt_iff_toNat_lt] using hab)).trans (if_neg (by simpa [UInt8.lt_iff_toNat_lt] using hba))))
          obtain ⟨n0, rfl⟩ := HW.out
          go_wp2
          go_quiet (fail)
          go_wp2
          go_quiet (fail)
          go_wp2
          go_roundw
          case rel => exact ⟨k + 1, by omega, by omega, by go_num, HF, ⟨_, rfl⟩⟩
          case measure => simp [intOf]; omega
    · have HB := Lib.hid (H.out.trans (cb_drop_end a b k (by omega) hka hkb))
      obtain ⟨n0, rfl⟩ := HW.out
      have hcase : (k < a.size ∧ b.size < a.size ∧ b.size ≤ k) ∨ (a.size ≤ k ∧ a.size < b.size) ∨ (a.size ≤ k ∧ a.size = b.size) := by omega
      rcases hcase with ⟨c1, c2, c3⟩ | ⟨c1, c2⟩ | ⟨c1, c2⟩
      · have HF : Hid (Lib.compareBytes a.data.toList b.data.toList = 1) := by rw [HB.out, if_neg (by omega), if_pos (by omega)]; rfl
        go_wp2
        go_ret
        exact ⟨retI HF.out.symm, by first | exact ⟨_, rfl⟩ | (simp only [World.drewN_drewN]; exact ⟨_, rfl⟩)⟩
      · have HF : Hid (Lib.compareBytes a.data.toList b.data.toList = -1) := by rw [HB.out, if_pos (by omega)]; rfl
        go_wp2
        go_ret
        exact ⟨retI HF.out.symm, by first | exact ⟨_, rfl⟩ | (simp only [World.drewN_drewN]; exact ⟨_, rfl⟩)⟩
      · have HF : Hid (Lib.compareBytes a.data.toList b.data.toList = 0) := by rw [HB.out, if_neg (by omega), if_neg (by omega)]; rfl
        have c3 : a.size ≤ b.size := by omega
        have c4 : b.size ≤ a.size := by omega
        clear c2 hlt
        go_wp2
        go_ret
        exact ⟨retI HF.out.symm, by first | exact ⟨_, rfl⟩ | (simp only [World.drewN_drewN]; exact ⟨_, rfl⟩)⟩

/-- where a file stands; below 0: nowhere -/
def atI (L : List FileM) (n : Nm) : Int := if hasL L n = true then (atL L n : Int) else -1
theorem atI_hit {L : List FileM} {n : Nm} {k : Nat} (hk : k < L.length) (hb : ∀ j (h : j < k), (L[j]'(by omega)).name ≠ n) (h : L[k].name = n) : atI L n = k := by
  have h1 : hasL L n = true := hasL_iff.2 ⟨L[k], List.getElem_mem hk, h⟩
  unfold atI
  rw [if_pos h1]
  have h2 : atL L n = k := by
    unfold atL
    rw [List.findIdx_eq hk]
    exact ⟨by simpa using h, fun j hj => by simpa using hb j hj⟩
  rw [h2]
theorem atI_miss {L : List FileM} {n : Nm} (hb : ∀ j (h : j < L.length), L[j].name ≠ n) : atI L n = -1 := by
  have h1 : hasL L n = false := hasL_false.2 fun f hf => by
    obtain ⟨j, hj, rfl⟩ := List.getElem_of_mem hf
    exact hb j hj
  unfold atI
  rw [h1]; rfl
theorem atI_has {L : List FileM} {n : Nm} (h : hasL L n = true) : ∃ k, ∃ h : k < L.length, atI L n = k ∧ getL L n = some L[k] := by
  obtain ⟨f, hf⟩ := getL_has h
  unfold getL at hf
  obtain ⟨k, hk, h1, h2⟩ : ∃ k, ∃ h : k < L.length, L.findIdx (fun f => f.name == n) = k ∧ L[k] = f := by
    have hlt : L.findIdx (fun f => f.name == n) < L.length := List.findIdx_lt_length_of_exists (by
      obtain ⟨g, hg, e⟩ := hasL_iff.1 h
      exact ⟨g, hg, by simpa using e⟩)
    refine ⟨_, hlt, rfl, ?_⟩
    have := List.find?_eq_some_iff_getElem.1 hf
    obtain ⟨h3, i, hi, e, h4⟩ := this
    have h5 : L.findIdx (fun f => f.name == n) = i := by
      rw [List.findIdx_eq hi]
      exact ⟨by rw [e]; exact h3, fun j hj => by simpa using h4 j hj⟩
    simp only [h5]
    exact e
  refine ⟨k, hk, ?_, ?_⟩
  · unfold atI atL
    rw [if_pos h, h1]
  · unfold getL
    rw [h2]; exact hf
theorem atI_no {L : List FileM} {n : Nm} (h : hasL L n = false) : atI L n = -1 := by unfold atI; rw [h]; rfl

set_option maxHeartbeats 1000000 in
theorem at_any (n : Nm) (a : Option Addr) (c : Nat) (d : DiskM) (w : World) (h : FiSl w a d.L) (hl : d.L.length ≤ 1000000) :
    Calls Try.prog 23 #[refV a c d, .string (tx n)] w fun e w' => e = .returned (.int .i64 (atI d.L n)) ∧ Below w.heap.size w w' := by
  unfold refV
  have hB : ∀ o : Obj, Below w.heap.size w (w.alloc o) := fun o => (Below.refl _ _).alloc (Nat.le_refl _) o
  have HS := Lib.hid (fun o => h.below (hB o))
  have HB := Lib.hid (hB (.cells #[.slice a d.L.length c, .int .i64 d.limit, .int .i64 d.fuse, .int .i64 d.ops, .int .i64 d.reads, .bool d.down] 30))
  have HA := Lib.hid (fun k h1 h2 h3 => atI_hit (L := d.L) (n := n) (k := k) h1 h2 h3)
  have HM := Lib.hid (fun h => atI_miss (L := d.L) (n := n) h)
  obtain ⟨N, hN⟩ : ∃ N, N = d.L.length := ⟨_, rfl⟩
  have HN := Lib.hid hN
  rw [← hN] at hl HB ⊢
  clear hN hB h
  go_enter Try.func23, Try.ntmps23
  go_wp2
  go_loopw [5] (fun i wr => ∃ k : Nat, k ≤ N ∧ i = .int .i64 k ∧ Hid (∀ j (h : j < d.L.length), j < k → d.L[j].name ≠ n) ∧ wr = w.alloc (.cells #[.slice a N c, .int .i64 d.limit, .int .i64 d.fuse, .int .i64 d.ops, .int .i64 d.reads, .bool d.down] 30)) (fun i _ => N - (intOf i).toNat)
  case atStart => exact ⟨0, by omega, rfl, fun j _ hj => by omega, rfl⟩
  case round =>
    obtain ⟨k, hk, rfl, HP, rfl⟩ := hrel
    by_cases hlt : k < N
    · have hkl : k < d.L.length := by have := HN.out; omega
      obtain ⟨b, off, rfl, hbl, hc0, _⟩ := (HS.out (.cells #[.slice a N c, .int .i64 d.limit, .int .i64 d.fuse, .int .i64 d.ops, .int .i64 d.reads, .bool d.down] 30)).at hkl
      by_cases he : d.L[k].name = n
      · have HE := Lib.hid (HA.out k hkl (fun j hj => HP.out j (by omega) hj) he)
        have heq : ((tx d.L[k].name).toList == (tx n).toList) = true := by rw [eqT]; exact decide_eq_true he
        clear he HP HA
        generalize tx d.L[k].name = x at *
        generalize tx n = y at *
        go_wp2
        go_ret
        exact ⟨retI HE.out.symm, HB.out⟩
      · have heq : ((tx d.L[k].name).toList == (tx n).toList) = false := by rw [eqT]; exact decide_eq_false he
        have HP2 : Hid (∀ j (h : j < d.L.length), j < k + 1 → d.L[j].name ≠ n) := fun j h hj => by
          rcases Nat.lt_or_ge j k with h1 | h1
          · exact HP.out j h h1
          · have : j = k := by omega
            subst this; exact he
        clear he HP
        generalize tx d.L[k].name = x at *
        generalize tx n = y at *
        go_wp2
        go_roundw
        case rel => exact ⟨k + 1, by omega, by go_num, HP2, by trivial⟩
        case measure => simp [intOf]; omega
    · obtain rfl : k = N := by omega
      have HE := Lib.hid (HM.out (fun j hj => HP.out j hj (by rw [HN.out]; exact hj)))
      go_wp2
      go_ret
      exact ⟨retI HE.out.symm, HB.out⟩

theorem used_step (L : List FileM) (k : Nat) (h : k < L.length) : usedL (L.take (k + 1)) = usedL (L.take k) + (L[k].safe.length + L[k].loose.length) := by
  rw [List.take_add_one, List.getElem?_eq_getElem h, usedL_append]
  simp [usedL, FileM.bytes]
theorem used_take (L : List FileM) (k : Nat) : usedL (L.take k) ≤ usedL L := by
  conv => rhs; rw [← List.take_append_drop k L]
  rw [usedL_append]; omega
set_option maxHeartbeats 1000000 in
theorem refUsed_any (a : Option Addr) (c : Nat) (d : DiskM) (w : World) (h : FiSl w a d.L) (hl : d.L.length ≤ 1000000) (hu : usedL d.L ≤ 1000000000000000000) :
    Calls Try.prog 42 #[refV a c d] w fun e w' => e = .returned (.int .i64 (usedL d.L : Int)) ∧ Below w.heap.size w w' := by
  unfold refV
  have hB : ∀ o : Obj, Below w.heap.size w (w.alloc o) := fun o => (Below.refl _ _).alloc (Nat.le_refl _) o
  have HS := Lib.hid (fun o => h.below (hB o))
  have HB := Lib.hid (hB (.cells #[.slice a d.L.length c, .int .i64 d.limit, .int .i64 d.fuse, .int .i64 d.ops, .int .i64 d.reads, .bool d.down] 30))
  have HU := Lib.hid (used_step d.L)
  have HT := Lib.hid (used_take d.L)
  have HALL : Hid (usedL (d.L.take d.L.length) = usedL d.L) := by unfold Hid; rw [List.take_length]
  obtain ⟨N, hN⟩ : ∃ N, N = d.L.length := ⟨_, rfl⟩
  have HN := Lib.hid hN
  rw [← hN] at hl HB HALL ⊢
  clear hN hB h
  generalize usedL d.L = U at *
  go_enter Try.func42, Try.ntmps42
  go_wp2
  generalize hW : w.alloc (.cells #[.slice a N c, .int .i64 d.limit, .int .i64 d.fuse, .int .i64 d.ops, .int .i64 d.reads, .bool d.down] 30) = W at *
  have hc1 : W.cell? ⟨w.heap.size, 0, none⟩ = some (.slice a N c) := by rw [← hW, cell_of_row _ _ 0 _ _ (0, 0) (heap_alloc_new w _)]; rfl
  have HSW : Hid (FiSl W a d.L) := by rw [← hW]; exact HS.out _
  clear hW HS
  go_loopw [3, 4] (fun n i wr => ∃ k : Nat, k ≤ N ∧ i = .int .i64 k ∧ n = .int .i64 (usedL (d.L.take k) : Int) ∧ ∃ q, wr = W.drewN q) (fun _ i _ => N - (intOf i).toNat)
  case atStart => exact ⟨0, by omega, rfl, rfl, 0, rfl⟩
  case round =>
    obtain ⟨k, hk, rfl, rfl, q, rfl⟩ := hrel
    by_cases hlt : k < N
    · have hkl : k < d.L.length := by have := HN.out; omega
      obtain ⟨b, off, rfl, hbl, _, hc2, hc3⟩ := HSW.out.at hkl
      have hs := HU.out k hkl
      have ht := HT.out (k + 1)
      have z1 := tx_size d.L[k].safe
      have z2 := tx_size d.L[k].loose
      have HSUM : Hid ((usedL (d.L.take (k + 1)) : Int) = (usedL (d.L.take k) : Int) + ((tx d.L[k].safe).size : Int) + ((tx d.L[k].loose).size : Int)) := by unfold Hid; rw [hs, z1, z2]; omega
      have hw1 : IntKind.i64.wrap ((usedL (d.L.take k) : Int) + ((tx d.L[k].safe).size : Int)) = (usedL (d.L.take k) : Int) + ((tx d.L[k].safe).size : Int) := IntWalk.i64_in _ (by omega)
      have hw2 : IntKind.i64.wrap ((usedL (d.L.take k) : Int) + ((tx d.L[k].safe).size : Int) + ((tx d.L[k].loose).size : Int)) = (usedL (d.L.take k) : Int) + ((tx d.L[k].safe).size : Int) + ((tx d.L[k].loose).size : Int) := IntWalk.i64_in _ (by omega)
      clear hs ht z1 z2
      generalize tx d.L[k].safe = x at *
      generalize tx d.L[k].loose = y at *
      generalize (usedL (d.L.take k) : Int) = u at *
      go_wp2
      go_quiet (fail)
      go_wp2
      go_roundw
      case rel => exact ⟨k + 1, by omega, by go_num, by rw [HSUM.out], by first | exact ⟨_, rfl⟩ | (simp only [World.drewN_drewN]; exact ⟨_, rfl⟩)⟩
      case measure => simp [intOf]; omega
    · obtain rfl : k = N := by omega
      rw [HALL.out]
      go_wp2
      go_ret
      exact ⟨rfl, HB.out.trans (Drew.below (show Drew W (W.drewN q) from ⟨q, rfl⟩) _)⟩
end Go.Proofs.Ytammmhbkfdmbfaa
