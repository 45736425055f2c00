/- Layer 5's laws: rows of ops; few, Do, Bytes. -/
import Derived.Test.YtammmhbkfdmbfaaU2
namespace Go.Proofs.Ytammmhbkfdmbfaa
open Go.RowKit
set_option linter.unusedVariables false

/-! ### rows of ops -/
def opc (o : OpM) : List Value := [.int .i64 o.kind, .string (tx o.a), .string (tx o.b), .int .i64 o.n]
def opV (o : OpM) : Value := .agg #[.int .i64 o.kind, .string (tx o.a), .string (tx o.b), .int .i64 o.n]
def opC (L : List OpM) : List Value := L.flatMap opc
theorem opC_len (L : List OpM) : (opC L).length = L.length * 4 := by
  induction L with
  | nil => rfl
  | cons x l ih => simp [opC, opc] at ih ⊢; omega
theorem opC_get (L : List OpM) : ∀ (k : Nat) (h : k < L.length), (opC L)[k * 4]? = some (.int .i64 L[k].kind) ∧ (opC L)[k * 4 + 1]? = some (.string (tx L[k].a)) ∧ (opC L)[k * 4 + 2]? = some (.string (tx L[k].b)) ∧ (opC L)[k * 4 + 3]? = some (.int .i64 L[k].n) := by
  induction L with
  | nil => intro k h; exact absurd h (by simp)
  | cons x l ih =>
    intro k h
    have e : opC (x :: l) = .int .i64 x.kind :: .string (tx x.a) :: .string (tx x.b) :: .int .i64 x.n :: opC l := by simp [opC, opc]
    cases k with
    | zero => rw [e]; exact ⟨rfl, rfl, rfl, rfl⟩
    | succ k =>
      have := ih k (by simpa using h)
      rw [e, show (k + 1) * 4 = k * 4 + 1 + 1 + 1 + 1 by omega]
      simpa using this
/-- the row that begins at a holds these ops -/
def OpSl (w : World) (a : Option Addr) (L : List OpM) : Prop := Sl w a (opC L)
theorem OpSl.at {w : World} {a : Option Addr} {L : List OpM} (h : OpSl w a L) {k : Nat} (hk : k < L.length) : ∃ b off, a = some ⟨b, off, none⟩ ∧ b < w.heap.size ∧
    w.cell? ⟨b, off + k * 4, none⟩ = some (.int .i64 L[k].kind) ∧ w.cell? ⟨b, off + k * 4 + 1, none⟩ = some (.string (tx L[k].a)) ∧ w.cell? ⟨b, off + k * 4 + 2, none⟩ = some (.string (tx L[k].b)) ∧ w.cell? ⟨b, off + k * 4 + 3, none⟩ = some (.int .i64 L[k].n) := by
  have hl := opC_len L
  obtain ⟨g0, g1, g2, g3⟩ := opC_get L k hk
  obtain ⟨b, off, e, h1, h2⟩ := h (k * 4) (by omega)
  obtain ⟨b', off', e', _, h3⟩ := h (k * 4 + 1) (by omega)
  cases e.symm.trans e'
  obtain ⟨b', off', e', _, h4⟩ := h (k * 4 + 2) (by omega)
  cases e.symm.trans e'
  obtain ⟨b', off', e', _, h5⟩ := h (k * 4 + 3) (by omega)
  cases e.symm.trans e'
  rw [List.getElem?_eq_getElem (by omega)] at g0 g1 g2 g3
  rw [Option.some.inj g0] at h2
  rw [Option.some.inj g1, ← Nat.add_assoc] at h3
  rw [Option.some.inj g2, ← Nat.add_assoc] at h4
  rw [Option.some.inj g3, ← Nat.add_assoc] at h5
  exact ⟨b, off, e, h1, h2, h3, h4, h5⟩
theorem OpSl.below {w w' : World} {a : Option Addr} {L : List OpM} (h : OpSl w a L) (k : Below w.heap.size w w') : OpSl w' a L := Sl.below h k

def sumO (L : List OpM) : Nat := (L.map fun o => o.a.length + o.b.length).sum
theorem sumO_step (L : List OpM) (k : Nat) (h : k < L.length) : sumO (L.take (k + 1)) = sumO (L.take k) + (L[k].a.length + L[k].b.length) := by
  unfold sumO
  rw [List.take_add_one, List.getElem?_eq_getElem h, List.map_append, List.sum_append]
  rfl
theorem sumO_take (L : List OpM) (k : Nat) : sumO (L.take k) ≤ sumO L := by
  have h : sumO L = sumO (L.take k) + sumO (L.drop k) := by
    unfold sumO
    rw [← List.sum_append, ← List.map_append, List.take_append_drop]
  omega
def fewB (L : List OpM) : Bool := decide (sumO L ≤ 3000) && decide (L.length ≤ 60)
/-- what a machine can hold -/
def FitO (L : List OpM) : Prop := ∀ o ∈ L, o.a.length ≤ 140737488351232 ∧ o.b.length ≤ 140737488351232 ∧ o.n ≤ 9223372036854775807

set_option maxHeartbeats 1000000 in
theorem few_any (a : Option Addr) (c : Nat) (L : List OpM) (w : World) (h : OpSl w a L) (hl : L.length ≤ maxLen) (hf : FitO L) :
    Calls Try.prog 11 #[.slice a L.length c] w fun e w' => e = .returned (.bool (fewB L)) ∧ Below w.heap.size w w' := by
  have HS := Lib.hid h
  have HF := Lib.hid hf
  have HU := Lib.hid (sumO_step L)
  have HT := Lib.hid (sumO_take L)
  have HALL : Hid (sumO (L.take L.length) = sumO L) := by unfold Hid; rw [List.take_length]
  have HR : Hid (fewB L = (decide (sumO L ≤ 3000) && decide (L.length ≤ 60))) := rfl
  obtain ⟨N, hN⟩ : ∃ N, N = L.length := ⟨_, rfl⟩
  have HN := Lib.hid hN
  rw [← hN] at hl HALL HR ⊢
  clear hN h hf
  unfold maxLen at hl
  generalize fewB L = FB at *
  generalize sumO L = U at *
  go_enter Try.func11, Try.ntmps11
  go_wp2
  go_loopw [3, 8] (fun n i wr => ∃ k u : Nat, k ≤ N ∧ i = .int .i64 k ∧ n = .int .i64 (u : Int) ∧ u ≤ 3000 ∧ Hid (u = sumO (L.take k)) ∧ Hid (Below w.heap.size w wr)) (fun _ i _ => N - (intOf i).toNat)
  case atStart => exact ⟨0, 0, by omega, rfl, rfl, by omega, rfl, Below.refl _ _⟩
  case round =>
    obtain ⟨k, u, hk, rfl, rfl, hu, HK, HB⟩ := hrel
    by_cases hlt : k < N
    · have hkl : k < L.length := by have := HN.out; omega
      obtain ⟨b, off, rfl, hbl, hc0, hc1, hc2, hc3⟩ := (HS.out.below HB.out).at hkl
      have hs := HU.out k hkl
      have ht := HT.out (k + 1)
      obtain ⟨f1, f2, _⟩ := HF.out _ (List.getElem_mem hkl)
      rw [← tx_size] at f1 f2
      rw [← tx_size L[k].a, ← tx_size L[k].b, ← HK.out] at hs
      have HBA := Lib.hid (fun o => HB.out.alloc HB.out.size o)
      generalize L[k].kind = x0 at *
      generalize L[k].n = x3 at *
      generalize tx L[k].a = x1 at *
      generalize tx L[k].b = x2 at *
      have HS2 := Lib.hid hs
      have HT2 := Lib.hid ht
      clear hs ht HK
      have hw1 : IntKind.i64.wrap ((x1.size : Int) + (x2.size : Int)) = (x1.size : Int) + (x2.size : Int) := IntWalk.i64_in _ (by omega)
      have hw2 : IntKind.i64.wrap ((u : Int) + ((x1.size : Int) + (x2.size : Int))) = (u : Int) + ((x1.size : Int) + (x2.size : Int)) := IntWalk.i64_in _ (by omega)
      by_cases hbig : u + (x1.size + x2.size) ≤ 3000
      · go_wp2
        go_roundw
        case rel => exact ⟨k + 1, u + (x1.size + x2.size), by omega, by go_num, by go_num, hbig, HS2.out.symm, HBA.out _⟩
        case measure => simp [intOf]; omega
      · have HE : Hid (FB = false) := by
          unfold Hid
          rw [HR.out, decide_eq_false (by have := HS2.out; have := HT2.out; omega)]; rfl
        go_wp2
        go_ret
        exact ⟨retB HE.out.symm, HBA.out _⟩
    · obtain rfl : k = N := by omega
      have HE : Hid (FB = decide (k ≤ 60)) := by
        unfold Hid
        rw [HR.out, decide_eq_true (by have := HK.out; have := HALL.out; omega), Bool.true_and]
      go_wp2
      go_ret
      refine ⟨?_, HB.out⟩
      rw [HE.out]
      by_cases h60 : k ≤ 60 <;> simp [h60] <;> omega

/-! ### Do -/
variable {K : Nat → Prop} {w0 w : World} {p : Nat} {d d' : DiskM}
theorem stepM_do {d : DiskM} {o : OpM} (h1 : 0 ≤ o.kind) (h2 : o.kind < 5) (keep : List Int) : stepM d o keep = doM d o := by unfold stepM; rw [if_pos ⟨h1, h2⟩]
theorem stepM_read {d : DiskM} {o : OpM} (h : o.kind = 5) (keep : List Int) : stepM d o keep = (readD d o.a o.n, readE d o.a o.n) := by unfold stepM; rw [if_neg (by omega), if_pos h]
theorem stepM_fuse {d : DiskM} {o : OpM} (h : o.kind = 6) (keep : List Int) : stepM d o keep = ({ d with fuse := max o.n (-1) }, 0) := by unfold stepM; rw [if_neg (by omega), if_neg (by omega), if_pos h]
theorem stepM_crash {d : DiskM} {o : OpM} (h : o.kind = 7) (keep : List Int) : stepM d o keep = (crashM d keep, 0) := by unfold stepM; rw [if_neg (by omega), if_neg (by omega), if_neg (by omega), if_pos h]
theorem stepM_not {d : DiskM} {o : OpM} (h : o.kind < 0 ∨ 7 < o.kind) (keep : List Int) : stepM d o keep = (d, 0) := by unfold stepM; rw [if_neg (by omega), if_neg (by omega), if_neg (by omega), if_neg (by omega)]

set_option maxHeartbeats 1000000 in
theorem do_gen (o : OpM) (ha : o.a.length ≤ maxLen) (hb : o.b.length ≤ maxLen) (hn : o.n ≤ 9223372036854775807) (keep : List Int) (ka : Option Addr) (kc : Nat) (hkc : keep.length ≤ kc) (hkm : kc ≤ maxLen) (h : Liv K w0 w p d) (hl : d.L.length ≤ 1000000) (hko : ∀ W S, Below w.heap.size w W → (∀ i, S i → K i) → DiskAt W p S d → Out S W ka (intV keep)) :
    Calls Try.prog 17 #[pt p, opV o, .slice ka keep.length kc] w fun e w' => e = .returned (.int .i64 (stepM d o keep).2) ∧ Liv K w0 w' p (stepM d o keep).1 := by
  have H := Lib.hid (fun ob => h.alloc ob)
  have ta : toL (tx o.a) = o.a := toL_tx _
  have tb : toL (tx o.b) = o.b := toL_tx _
  have sa : (tx o.a).size ≤ maxLen := by rw [tx_size]; exact ha
  have sb : (tx o.b).size ≤ maxLen := by rw [tx_size]; exact hb
  have hcase : o.kind = 0 ∨ o.kind = 1 ∨ o.kind = 2 ∨ o.kind = 3 ∨ o.kind = 4 ∨ o.kind = 5 ∨ o.kind = 6 ∨ o.kind = 7 ∨ (o.kind < 0 ∨ 7 < o.kind) := by omega
  unfold opV
  rcases hcase with hk | hk | hk | hk | hk | hk | hk | hk | hk
  · rw [stepM_do (by omega) (by omega)]
    have HC := Lib.hid (fun ob => liv_create (tx o.a) sa o hk ta.symm (H.out ob) hl)
    generalize doM d o = D at *
    generalize tx o.a = xa at *
    generalize tx o.b = xb at *
    rw [hk]
    clear hk ta tb sa sb ha hb h
    go_enter Try.func17, Try.ntmps17
    go_wp2_with fail
    refine (HC.out _).mono ?_
    rintro e w1 ⟨rfl, h1⟩
    have H1 := Lib.hid h1
    clear h1
    go_wp2
    go_ret
    exact ⟨rfl, H1.out⟩
  · rw [stepM_do (by omega) (by omega)]
    have HC := Lib.hid (fun ob => liv_append (tx o.a) (tx o.b) sa sb o hk ta.symm tb.symm (H.out ob) hl)
    generalize doM d o = D at *
    generalize tx o.a = xa at *
    generalize tx o.b = xb at *
    rw [hk]
    clear hk ta tb sa sb ha hb h
    go_enter Try.func17, Try.ntmps17
    go_wp2_with fail
    refine (HC.out _).mono ?_
    rintro e w1 ⟨rfl, h1⟩
    have H1 := Lib.hid h1
    clear h1
    go_wp2
    go_ret
    exact ⟨rfl, H1.out⟩
  · rw [stepM_do (by omega) (by omega)]
    have HC := Lib.hid (fun ob => liv_sync (tx o.a) sa o hk ta.symm (H.out ob) hl)
    generalize doM d o = D at *
    generalize tx o.a = xa at *
    generalize tx o.b = xb at *
    rw [hk]
    clear hk ta tb sa sb ha hb h
    go_enter Try.func17, Try.ntmps17
    go_wp2_with fail
    refine (HC.out _).mono ?_
    rintro e w1 ⟨rfl, h1⟩
    have H1 := Lib.hid h1
    clear h1
    go_wp2
    go_ret
    exact ⟨rfl, H1.out⟩
  · rw [stepM_do (by omega) (by omega)]
    have HC := Lib.hid (fun ob => liv_rename (tx o.a) (tx o.b) sa sb o hk ta.symm tb.symm (H.out ob) hl)
    generalize doM d o = D at *
    generalize tx o.a = xa at *
    generalize tx o.b = xb at *
    rw [hk]
    clear hk ta tb sa sb ha hb h
    go_enter Try.func17, Try.ntmps17
    go_wp2_with fail
    refine (HC.out _).mono ?_
    rintro e w1 ⟨rfl, h1⟩
    have H1 := Lib.hid h1
    clear h1
    go_wp2
    go_ret
    exact ⟨rfl, H1.out⟩
  · rw [stepM_do (by omega) (by omega)]
    have HC := Lib.hid (fun ob => liv_delete (tx o.a) sa o hk ta.symm (H.out ob))
    generalize doM d o = D at *
    generalize tx o.a = xa at *
    generalize tx o.b = xb at *
    rw [hk]
    clear hk ta tb sa sb ha hb h
    go_enter Try.func17, Try.ntmps17
    go_wp2_with fail
    refine (HC.out _).mono ?_
    rintro e w1 ⟨rfl, h1⟩
    have H1 := Lib.hid h1
    clear h1
    go_wp2
    go_ret
    exact ⟨rfl, H1.out⟩
  · rw [stepM_read hk]
    have HC := Lib.hid (fun ob => liv_read (tx o.a) sa o.n (H.out ob))
    rw [ta] at HC
    generalize readD d o.a o.n = D at *
    generalize readE d o.a o.n = E at *
    generalize tx (readT d o.a o.n) = TT at *
    generalize tx o.a = xa at *
    generalize tx o.b = xb at *
    generalize o.n = xn at *
    rw [hk]
    clear hk ta tb sa sb ha hb h
    go_enter Try.func17, Try.ntmps17
    go_wp2_with fail
    refine (HC.out _).mono ?_
    rintro e w1 ⟨rfl, h1⟩
    have H1 := Lib.hid h1
    clear h1
    go_wp2
    go_ret
    exact ⟨rfl, H1.out⟩
  · rw [stepM_fuse hk]
    have HC := Lib.hid (fun ob => liv_setFuse o.n hn (H.out ob))
    generalize ({ d with fuse := max o.n (-1) } : DiskM) = D at *
    generalize tx o.a = xa at *
    generalize tx o.b = xb at *
    generalize o.n = xn at *
    rw [hk]
    clear hk ta tb sa sb ha hb h
    go_enter Try.func17, Try.ntmps17
    go_wp2_with fail
    refine (HC.out _).mono ?_
    rintro e w1 ⟨rfl, h1⟩
    have H1 := Lib.hid h1
    clear h1
    go_wp2
    go_ret
    exact ⟨rfl, H1.out⟩
  · rw [stepM_crash hk]
    have HC := Lib.hid (fun ob => liv_crash keep ka kc hkc hkm (H.out ob) hl (fun S hS hD => hko _ S ((Below.refl _ _).alloc (Nat.le_refl _) ob) (fun i hi => (hS i hi).1) hD))
    generalize crashM d keep = D at *
    generalize tx o.a = xa at *
    generalize tx o.b = xb at *
    generalize o.n = xn at *
    rw [hk]
    clear hk ta tb sa sb ha hb h hko hkc hkm
    go_enter Try.func17, Try.ntmps17
    go_wp2_with fail
    refine (HC.out _).mono ?_
    rintro e w1 ⟨rfl, h1⟩
    have H1 := Lib.hid h1
    clear h1
    go_wp2
    go_ret
    exact ⟨rfl, H1.out⟩
  · rw [stepM_not hk]
    generalize tx o.a = xa at *
    generalize tx o.b = xb at *
    generalize o.n = xn at *
    generalize o.kind = kd at *
    clear ta tb sa sb ha hb h hko hkc hkm
    have n0 : ¬ kd = 0 := by omega
    have n1 : ¬ kd = 1 := by omega
    have n2 : ¬ kd = 2 := by omega
    have n3 : ¬ kd = 3 := by omega
    have n4 : ¬ kd = 4 := by omega
    have n5 : ¬ kd = 5 := by omega
    have n6 : ¬ kd = 6 := by omega
    have n7 : ¬ kd = 7 := by omega
    clear hk
    go_enter Try.func17, Try.ntmps17
    go_wp2
    go_ret
    exact ⟨rfl, H.out _⟩
theorem do_any (o : OpM) (ha : o.a.length ≤ maxLen) (hb : o.b.length ≤ maxLen) (hn : o.n ≤ 9223372036854775807) (keep : List Int) (ka : Option Addr) (kc : Nat) (hkc : keep.length ≤ kc) (hkm : kc ≤ maxLen) (h : Liv K w0 w p d) (hl : d.L.length ≤ 1000000) (hs : Sl w0 ka (intV keep)) (hK : ∀ b, b < w0.heap.size → ¬ K b) :
    Calls Try.prog 17 #[pt p, opV o, .slice ka keep.length kc] w fun e w' => e = .returned (.int .i64 (stepM d o keep).2) ∧ Liv K w0 w' p (stepM d o keep).1 :=
  do_gen o ha hb hn keep ka kc hkc hkm h hl fun W S hB hS _ j hj => by
    obtain ⟨b, off, e, h1, h2⟩ := hs j hj
    have hlt := Nat.lt_of_lt_of_le h1 h.kept.size
    exact ⟨b, off, e, Nat.lt_of_lt_of_le hlt hB.size, fun e2 => hK b h1 (hS b e2), (Kept.of_below hB (fun _ => False)).cell (h.kept.cell h2 (hK b h1)) (fun e => e)⟩
end Go.Proofs.Ytammmhbkfdmbfaa
