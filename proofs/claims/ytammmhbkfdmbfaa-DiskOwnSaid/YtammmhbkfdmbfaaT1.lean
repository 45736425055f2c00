/- Contracts of the document's own words of layer 5: rows of files, right names, where a file stands, how many bytes are used. -/
import Derived.Test.YtammmhbkfdmbfaaS16
import Derived.Deep.QuietTactic
import Derived.BigQuiet
namespace Go.Proofs.Ytammmhbkfdmbfaa
open Go.RowKit
set_option linter.unusedVariables false

/-! ### rows of files -/
def fc (f : FileM) : List Value := [.string (tx f.name), .string (tx f.safe), .string (tx f.loose)]
def fV (f : FileM) : Value := .agg #[.string (tx f.name), .string (tx f.safe), .string (tx f.loose)]
def fiC (L : List FileM) : List Value := L.flatMap fc
theorem fiC_len (L : List FileM) : (fiC L).length = L.length * 3 := by
  induction L with
  | nil => rfl
  | cons x l ih => simp [fiC, fc] at ih ⊢; omega
theorem fiC_snoc (L : List FileM) (x : FileM) : fiC (L ++ [x]) = fiC L ++ fc x := by simp [fiC]
theorem fiC_get (L : List FileM) : ∀ (k : Nat) (h : k < L.length), (fiC L)[k * 3]? = some (.string (tx L[k].name)) ∧ (fiC L)[k * 3 + 1]? = some (.string (tx L[k].safe)) ∧ (fiC L)[k * 3 + 2]? = some (.string (tx L[k].loose)) := by
  induction L with
  | nil => intro k h; exact absurd h (by simp)
  | cons x l ih =>
    intro k h
    have e : fiC (x :: l) = .string (tx x.name) :: .string (tx x.safe) :: .string (tx x.loose) :: fiC l := by simp [fiC, fc]
    cases k with
    | zero => rw [e]; exact ⟨rfl, rfl, rfl⟩
    | succ k =>
      have := ih k (by simpa using h)
      rw [e, show (k + 1) * 3 = k * 3 + 1 + 1 + 1 by omega]
      simpa using this
/-- the row that begins at a holds these files -/
def FiSl (w : World) (a : Option Addr) (L : List FileM) : Prop := Sl w a (fiC L)
theorem FiSl.at {w : World} {a : Option Addr} {L : List FileM} (h : FiSl w a L) {k : Nat} (hk : k < L.length) : ∃ b off, a = some ⟨b, off, none⟩ ∧ b < w.heap.size ∧
    w.cell? ⟨b, off + k * 3, none⟩ = some (.string (tx L[k].name)) ∧ w.cell? ⟨b, off + k * 3 + 1, none⟩ = some (.string (tx L[k].safe)) ∧ w.cell? ⟨b, off + k * 3 + 2, none⟩ = some (.string (tx L[k].loose)) := by
  have hl := fiC_len L
  obtain ⟨g0, g1, g2⟩ := fiC_get L k hk
  obtain ⟨b, off, e, h1, h2⟩ := h (k * 3) (by omega)
  obtain ⟨b', off', e', _, h3⟩ := h (k * 3 + 1) (by omega)
  cases e.symm.trans e'
  obtain ⟨b', off', e', _, h4⟩ := h (k * 3 + 2) (by omega)
  cases e.symm.trans e'
  rw [List.getElem?_eq_getElem (by omega)] at g0 g1 g2
  rw [Option.some.inj g0] at h2
  rw [Option.some.inj g1, ← Nat.add_assoc] at h3
  rw [Option.some.inj g2, ← Nat.add_assoc] at h4
  exact ⟨b, off, e, h1, h2, h3, h4⟩
theorem FiSl.below {w w' : World} {a : Option Addr} {L : List FileM} (h : FiSl w a L) (k : Below w.heap.size w w') : FiSl w' a L := Sl.below h k
/-- a row that a call has made -/
theorem own_fi {w : World} {B e : Nat} {v : Value} {L : List FileM} (h : w.ownsRow B e 3 v L.length (fiC L)) : ∃ a c, v = .slice a L.length c ∧ L.length ≤ c ∧ c ≤ maxLen ∧ FiSl w a L ∧ (∀ b o, a = some ⟨b, o, none⟩ → B ≤ b) ∧ (a = none → c = 0) := by
  rcases h.2 with ⟨rfl, hn⟩ | ⟨g, cap, cur, rfl, hg, hh, hn, hc, hsz, ht⟩
  · have : L = [] := List.eq_nil_of_length_eq_zero hn
    subst this
    exact ⟨none, 0, rfl, Nat.le_refl _, by decide, Sl.nil _ _, fun b o e => (by cases e), fun _ => rfl⟩
  · refine ⟨_, cap, rfl, hn, hc, fun k hk => ⟨g, 0, rfl, ?_, ?_⟩, fun b o e => (by cases e; exact hg), fun e => (by cases e)⟩
    · rcases Nat.lt_or_ge g w.heap.size with h1 | h1
      · exact h1
      · rw [Array.getElem?_eq_none h1] at hh; cases hh
    · rw [cell_of_row w g _ cur e (0, 0) hh, Nat.zero_add]
      have hl := fiC_len L
      have h3 : (fiC L)[k]? = some (fiC L)[k] := List.getElem?_eq_getElem hk
      generalize (fiC L)[k] = u at *
      rw [← ht, List.getElem?_take, if_pos (by omega), Array.getElem?_toList] at h3
      exact h3
/-- texts that a machine can hold -/
def FitM (L : List FileM) : Prop := ∀ f ∈ L, f.name.length ≤ 100000000000 ∧ f.safe.length ≤ 100000000000 ∧ f.loose.length ≤ 100000000000

/-- the document's disk, as a value -/
def refV (a : Option Addr) (c : Nat) (d : DiskM) : Value := .agg #[.slice a d.L.length c, .int .i64 d.limit, .int .i64 d.fuse, .int .i64 d.ops, .int .i64 d.reads, .bool d.down]

set_option maxHeartbeats 1000000 in
theorem refRight_any (s : ByteArray) (w : World) (hs : s.size ≤ maxLen) : Calls Try.prog 25 #[.string s] w fun e w' => e = .returned (.bool (rightN (toL s))) ∧ w' = w := by
  unfold maxLen at hs
  have hl := toL_length s
  by_cases h1 : s.size < 1
  · have HE : Hid (rightN (toL s) = false) := by unfold Hid rightN; rw [hl, decide_eq_false (by omega)]; rfl
    go_enter Try.func25, Try.ntmps25
    go_wp2
    go_ret
    exact ⟨retB HE.out.symm, rfl⟩
  by_cases h2 : 20 < s.size
  · have HE : Hid (rightN (toL s) = false) := by unfold Hid rightN; rw [hl, decide_eq_false (p := s.size ≤ 20) (by omega)]; simp
    go_enter Try.func25, Try.ntmps25
    go_wp2
    go_ret
    exact ⟨retB HE.out.symm, rfl⟩
  have HE : Hid (rightN (toL s) = (toL s).all rightB) := by unfold Hid rightN; rw [hl, decide_eq_true (by omega), decide_eq_true (by omega)]; rfl
  have HI := Lib.hid (index_u s)
  go_enter Try.func25, Try.ntmps25
  go_wp2
  go_loopw [3] (fun i wr => ∃ (k : Nat), k ≤ s.size ∧ i = .int .i64 k ∧ Hid (((toL s).take k).all rightB = true) ∧ wr = w) (fun i _ => s.size - (intOf i).toNat)
  case atStart => exact ⟨0, by omega, rfl, rfl, rfl⟩
  case round =>
    obtain ⟨k, hk, rfl, HA, rfl⟩ := hrel
    by_cases hlt : k < s.size
    · have hi := HI.out k hlt
      have hkl : k < (toL s).length := by rw [hl]; exact hlt
      have HS := Lib.hid (all_step rightB (toL s) k hkl)
      have HM : Hid ((toL s).all rightB = true → rightB (toL s)[k] = true) := fun h => List.all_eq_true.1 h _ (List.getElem_mem hkl)
      generalize (toL s)[k] = c at *
      have HX := Lib.hid (rightB_int c)
      by_cases hc : rightB c = true
      · have HN : Hid (((toL s).take (k + 1)).all rightB = true) := by unfold Hid; rw [HS.out, HA.out, hc]; rfl
        rw [hc] at HX
        clear HS HA hc HM
        generalize (c.toNat : Int) = x at *
        have hx : (97 ≤ x ∧ x ≤ 122) ∨ (48 ≤ x ∧ x ≤ 57) := by have := HX.out.symm; simpa using this
        rcases hx with ⟨x1, x2⟩ | ⟨x1, x2⟩
        · go_wp2
          go_roundw
          case rel => exact ⟨k + 1, by omega, by go_num, HN, by trivial⟩
          case measure => simp [intOf]; omega
        · have x3 : ¬ 97 ≤ x := by omega
          go_wp2
          go_roundw
          case rel => exact ⟨k + 1, by omega, by go_num, HN, by trivial⟩
          case measure => simp [intOf]; omega
      · have hc' : rightB c = false := by simpa using hc
        have HN : Hid ((toL s).all rightB = false) := by
          unfold Hid
          cases h : (toL s).all rightB with
          | false => rfl
          | true => rw [HM.out h] at hc'; cases hc'
        rw [hc'] at HX
        clear HS HA hc hc' HM
        generalize (c.toNat : Int) = x at *
        have hx : ¬ ((97 ≤ x ∧ x ≤ 122) ∨ (48 ≤ x ∧ x ≤ 57)) := by
          intro h
          have := HX.out
          rcases h with ⟨a, b⟩ | ⟨a, b⟩ <;> simp [a, b] at this
        have hx2 : (97 ≤ x ∧ ¬ x ≤ 122 ∧ 48 ≤ x ∧ ¬ x ≤ 57) ∨ (¬ 97 ≤ x ∧ 48 ≤ x ∧ ¬ x ≤ 57) ∨ (¬ 97 ≤ x ∧ ¬ 48 ≤ x) := by omega
        clear hx
        rcases hx2 with ⟨x1, x2, x3, x4⟩ | ⟨x1, x2, x3⟩ | ⟨x1, x2⟩
        all_goals
          go_wp2
          go_ret
          exact ⟨retB (by rw [HE.out, HN.out]), rfl⟩
    · obtain rfl : k = s.size := by omega
      have HN : Hid ((toL s).all rightB = true) := by
        have := HA.out
        rwa [List.take_of_length_le (by rw [hl]; omega)] at this
      go_wp2
      go_ret
      exact ⟨retB (by rw [HE.out, HN.out]), rfl⟩

theorem refBytes_any (f : FileM) (hf : f.safe.length ≤ 100000000000 ∧ f.loose.length ≤ 100000000000) (w : World) : Calls Try.prog 27 #[fV f] w fun e w' => e = .returned (.string (tx f.bytes)) ∧ Below w.heap.size w w' := by
  unfold fV
  have HE : Hid (tx f.bytes = tx f.safe ++ tx f.loose) := by unfold Hid; rw [tx_append]; rfl
  have hz : (tx f.safe).size + (tx f.loose).size ≤ 200000000000 := by rw [tx_size, tx_size]; omega
  generalize tx f.safe = a at *
  generalize tx f.loose = b at *
  generalize tx f.name = c at *
  go_enter Try.func27, Try.ntmps27
  go_wp2
  go_ret
  exact ⟨retS HE.out.symm, (Below.refl _ _).alloc (Nat.le_refl _) _⟩
end Go.Proofs.Ytammmhbkfdmbfaa
