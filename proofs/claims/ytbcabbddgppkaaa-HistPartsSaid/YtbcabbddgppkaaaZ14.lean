/- Layer 8: the first span that a stay can meet: contracts. -/
import Derived.Test.YtbcabbddgppkaaaZ7
namespace Go.Proofs.Ytbcabbddgppkaaa
open Go.RowKit Go.Sort Go.Proofs
set_option linter.unusedVariables false
set_option maxRecDepth 100000

theorem count_mono (p : Nat → Bool) : ∀ n, (∀ a b, a ≤ b → b < n → p a = true → p b = true) → (List.range n).countP (fun i => !p i) ≤ n ∧ (∀ j, j < (List.range n).countP (fun i => !p i) → p j = false) ∧ (∀ j, (List.range n).countP (fun i => !p i) ≤ j → j < n → p j = true)
  | 0, _ => ⟨by simp, fun j h => absurd h (by simp), fun j _ h => absurd h (by omega)⟩
  | n + 1, h => by
    obtain ⟨h1, h2, h3⟩ := count_mono p n (fun a b hab hb => h a b hab (by omega))
    rw [List.range_succ, List.countP_append]
    generalize (List.range n).countP (fun i => !p i) = k at *
    by_cases hp : p n = true
    · have e : [n].countP (fun i => !p i) = 0 := by simp [hp]
      rw [e, Nat.add_zero]
      refine ⟨by omega, h2, fun j hj hjn => ?_⟩
      rcases Nat.lt_or_ge j n with h4 | h4
      · exact h3 j hj h4
      · obtain rfl : j = n := by omega
        exact hp
    · have hp' : p n = false := by simpa using hp
      have e : [n].countP (fun i => !p i) = 1 := by simp [hp']
      have hk : k = n := by
        rcases Nat.lt_or_ge k n with h4 | h4
        · exact absurd (h k n (by omega) (by omega) (h3 k (Nat.le_refl _) h4)) hp
        · omega
      subst hk
      rw [e]
      refine ⟨Nat.le_refl _, fun j hj => ?_, fun j hj hjn => absurd hjn (by omega)⟩
      rcases Nat.lt_or_ge j k with h4 | h4
      · exact h2 j h4
      · obtain rfl : j = k := by omega
        exact hp'
def pS (f : Int) (r : List SpM) (i : Nat) : Bool := decide (f < (r.getD i ⟨0, 0⟩).t)
theorem pS_at {f : Int} {r : List SpM} {i : Nat} (h : i < r.length) : pS f r i = decide (f < r[i].t) := by
  unfold pS
  rw [List.getD_eq_getElem?_getD, List.getElem?_eq_getElem h]
  rfl
theorem norm_up {r : List SpM} (h : NormL r) : ∀ a b, a ≤ b → ∀ (hb : b < r.length), ∀ (ha : a < r.length), r[a].t ≤ r[b].t := by
  induction r with
  | nil => intro a b _ hb; exact absurd hb (by simp)
  | cons s r ih =>
    intro a b hab hb ha
    cases a with
    | zero =>
      cases b with
      | zero => exact Int.le_refl _
      | succ b =>
        have hb' : b < r.length := by simpa using hb
        have h1 := h.1.2.1 r[b] (List.getElem_mem hb')
        have h2 := h.2 r[b] (List.mem_cons_of_mem _ (List.getElem_mem hb'))
        show s.t ≤ r[b].t
        omega
    | succ a =>
      cases b with
      | zero => omega
      | succ b => exact ih h.tail a b (by omega) (by simpa using hb) (by simpa using ha)
theorem pS_mono {f : Int} {r : List SpM} (h : NormL r) : ∀ a b, a ≤ b → b < r.length → pS f r a = true → pS f r b = true := fun a b hab hb hp => by
  rw [pS_at (by omega)] at hp
  rw [pS_at hb]
  have h1 := norm_up h a b hab hb (by omega)
  have h2 := of_decide_eq_true hp
  exact decide_eq_true (by omega)
theorem norm_drop : ∀ {r : List SpM} (k : Nat), NormL r → NormL (r.drop k)
  | [], k, h => by simpa using h
  | s :: r, 0, h => h
  | s :: r, k + 1, h => norm_drop k h.tail
theorem rowOf_stop {s : SpM} {q : List SpM} {j : Nat} (hq : NormL q) (ht : ∀ n ∈ q, s.f < n.t) (hj : j < q.length) (h : ¬ (meetS s q[j]).f < (meetS s q[j]).t) : rowOf s (q.take j) = rowOf s q := by
  have h1 := rowOf_append s (q.take j) (q.drop j)
  rw [List.take_append_drop, List.drop_eq_getElem_cons hj] at h1
  have h2 := norm_drop j hq
  rw [List.drop_eq_getElem_cons hj] at h2
  rw [rowOf_rest h2 (ht _ (List.getElem_mem hj)) h, List.append_nil] at h1
  exact h1.symm
/-- how many spans end ahead of it -/
def cntS (f : Int) (r : List SpM) : Nat := (List.range r.length).countP (fun i => !pS f r i)
theorem cntS_is {s : SpM} {r : List SpM} (h : NormL r) : cntS s.f r ≤ r.length ∧ rowOf s (r.drop (cntS s.f r)) = rowOf s r ∧ (∀ n ∈ r.drop (cntS s.f r), s.f < n.t) := by
  obtain ⟨h1, h2, h3⟩ := count_mono (pS s.f r) r.length (pS_mono h)
  refine ⟨h1, rowOf_drop fun j hj hjk => ?_, fun n hn => ?_⟩
  · have := h2 j hjk
    rw [pS_at hj] at this
    have := of_decide_eq_false this
    omega
  · obtain ⟨j, hj, hkj, rfl⟩ := mem_drop_get hn
    have := h3 j hkj hj
    rw [pS_at hj] at this
    exact of_decide_eq_true this

set_option maxHeartbeats 1000000 in
theorem closure8_any (x : StM) (b off c p g i : Nat) (r : List SpM) (W : World) (hi : i < r.length) (hr : SpSl W (some ⟨b, off, none⟩) r)
    (hp : W.cell? ⟨p, 0, none⟩ = some (.slice (some ⟨b, off, none⟩) r.length c)) (hg : W.cell? ⟨g, 0, none⟩ = some (.int .i64 x.f)) (hl : r.length ≤ 1000000) :
    Calls Try.prog 74 #[.int .i64 i, .pointer (some ⟨p, 0, none⟩), .pointer (some ⟨g, 0, none⟩)] W fun e w' => e = .returned (.bool (pS x.f r i)) ∧ Grew W w' := by
  obtain ⟨b1, o1, e1, hb1, hc0, hc1⟩ := hr.at_ hi
  cases e1
  have HE := Lib.hid (pS_at (f := x.f) hi)
  rw [HE.out]
  clear hr
  generalize r[i] = y at *
  generalize x.f = f at *
  go_enter Try.func74, Try.ntmps74
  go_wp2
  go_quiet (fail)
  go_wp2
  go_ret
  exact ⟨rfl, ⟨_, #[], by rw [grow_empty]⟩⟩
end Go.Proofs.Ytbcabbddgppkaaa
