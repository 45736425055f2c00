/- Contracts of layer 4: all frames with which a text begins, and all that may be found in it. -/
import Derived.Test.YtkfddmbhokeofaaH6
import Derived.Test.YtkfddmbhokeofaaH7
namespace Go.Proofs.Ytkfddmbhokeofaa
open Go.RowKit
set_option linter.unusedVariables false

abbrev Fr := UInt8 × List UInt8
/-- the cells of a row of frames -/
def frC (l : List Fr) : List Value := l.flatMap fun x => [.int .u8 (x.1.toNat : Int), .string (tx x.2)]
theorem frC_len (l : List Fr) : (frC l).length = l.length * 2 := by
  induction l with
  | nil => rfl
  | cons x l ih => simp [frC] at ih ⊢; omega
theorem frC_snoc (l : List Fr) (x : Fr) : frC (l ++ [x]) = frC l ++ [.int .u8 (x.1.toNat : Int), .string (tx x.2)] := by simp [frC]

/-- the frames with which s begins are l, and they have n bytes together -/
inductive Scans : List UInt8 → List Fr → Nat → Prop
  | done {s : List UInt8} {e : Nat} (h : nextL s = .err e) : Scans s [] 0
  | step {s : List UInt8} {k : UInt8} {b : List UInt8} {l : List Fr} {n : Nat} (h : nextL s = .ok k b) (r : Scans (s.drop (14 + b.length)) l n) : Scans s ((k, b) :: l) (14 + b.length + n)
theorem Scans.only {s : List UInt8} {l : List Fr} {n : Nat} (h : Scans s l n) : ∀ {l' : List Fr} {n' : Nat}, Scans s l' n' → l = l' ∧ n = n' := by
  induction h with
  | done h =>
    intro l' n' h'
    cases h' with
    | done _ => exact ⟨rfl, rfl⟩
    | step h2 _ => rw [h] at h2; cases h2
  | step h r ih =>
    intro l' n' h'
    cases h' with
    | done h2 => rw [h] at h2; cases h2
    | step h2 r2 =>
      rw [h] at h2
      injection h2 with e1 e2
      subst e1 e2
      obtain ⟨rfl, rfl⟩ := ih r2
      exact ⟨rfl, rfl⟩
/-- what was read up to a place, and goes on from there -/
def Reads (s : List UInt8) (l : List Fr) (at' : Nat) : Prop := ∀ g m, Scans (s.drop at') g m → Scans s (l ++ g) (at' + m)
theorem Reads.start (s : List UInt8) : Reads s [] 0 := fun g m h => by simpa using h
theorem Reads.next {s : List UInt8} {l : List Fr} {a : Nat} {k : UInt8} {b : List UInt8} (h : Reads s l a) (hn : nextL (s.drop a) = .ok k b) : Reads s (l ++ [(k, b)]) (a + (14 + b.length)) := fun g m hs => by
  have := h ((k, b) :: g) (14 + b.length + m) (.step hn (by rw [List.drop_drop]; exact hs))
  simpa [Nat.add_assoc] using this
theorem Reads.done {s : List UInt8} {l : List Fr} {a e : Nat} (h : Reads s l a) (hn : nextL (s.drop a) = .err e) : Scans s l a := by
  have := h [] 0 (.done hn)
  simpa using this

/-- the frames that are found up to a place -/
def NR.list : NR → List Fr | .err _ => [] | .ok k b => [(k, b)]
def findTo (s : List UInt8) : Nat → List Fr
  | 0 => []
  | n + 1 => findTo s n ++ (nextL (s.drop n)).list
theorem findTo_len (s : List UInt8) : ∀ n, (findTo s n).length ≤ n
  | 0 => Nat.le_refl _
  | n + 1 => by
    have := findTo_len s n
    unfold findTo
    rw [List.length_append]
    cases nextL (s.drop n) <;> simp [NR.list] <;> omega

theorem own_below {w w' : World} {B e k n : Nat} {v : Value} {xs : List Value} (h : w.ownsRow B e k v n xs) (hb : Below w.heap.size w w') : w'.ownsRow B e k v n xs := by
  refine ⟨h.1, ?_⟩
  rcases h.2 with h | ⟨g, cap, cur, r1, r2, r3, r4⟩
  · exact .inl h
  · refine .inr ⟨g, cap, cur, r1, r2, ?_, r4⟩
    rw [hb.block g ?_]
    · exact r3
    · rcases Nat.lt_or_ge g w.heap.size with h1 | h1
      · exact h1
      · rw [Array.getElem?_eq_none h1] at r3; cases r3
theorem infoFrame : (Try.prog.info? 28).map (fun i => (i.zero, i.size, i.bytes)) = some (some (.agg #[.int .u8 0, .string ⟨#[]⟩]), 2, 24) := by kernel_rfl
theorem one_cells (x y : Value) (hx : x.oneCell' = true) (hy : y.oneCell' = true) : ∀ u ∈ [x, y], u.oneCell' = true := by
  intro u hu
  simp at hu
  rcases hu with rfl | rfl
  · exact hx
  · exact hy
theorem below_two (w : World) (o p : Obj) : Below w.heap.size w ((w.alloc o).alloc p) := ((Below.refl _ _).alloc (Nat.le_refl _) _).alloc (by rw [size1]; omega) _
theorem extract_size (s : ByteArray) (a : Nat) : (s.extract a s.size).size = s.size - a := by rw [ByteArray.size_extract]; omega
theorem toL_from (s : ByteArray) (a : Nat) : toL (s.extract a s.size) = (toL s).drop a := by rw [toL_extract, take_size]
theorem slice_from (s : ByteArray) (a : Nat) (h : a ≤ s.size) (W : World) : (Instr.slice 9 (.string s) (some (.int .i64 (a : Int))) none none).run Try.prog W = .ok (.string (s.extract a s.size)) W := by
  rw [run_slice_string_from_if W 9 s .i64 a Try.underlying9, if_pos (by omega)]
  simp

theorem news_at (W : World) (xs : Array Value) (t : TypeId) (g : Nat) (hg : g = W.heap.size) : ∀ j u, xs.toList[j]? = some u → (W.alloc (.cells xs t)).cell? ((⟨g, 0, none⟩ : Addr).add j) = some u := by
  subst hg; exact Sl.cells (sl_lit W xs t)
theorem app_below {B : Nat} {w W w' : World} {e k n : Nat} {v : Value} {xs : List Value} (hB : Below B w W) (hs : B ≤ W.heap.size) (ho : W.ownsRow B e k v n xs) (hg : W.grownBy w' v.ownBlock) : Below B w w' :=
  hB.grown hg hs (fun j hj => (ho.lt j hj).1)

set_option maxHeartbeats 2000000 in
theorem scan_any (s : ByteArray) (hs : s.size ≤ 1000000) (w : World) :
    Calls Try.prog 16 #[.string s] w fun e w' => ∃ (v : Value) (l : List Fr) (n : Nat), e = .returned (.tuple #[v, .int .i64 (n : Int)]) ∧ Scans (toL s) l n ∧ w'.ownsRow w.heap.size 28 2 v l.length (frC l) ∧ l.length ≤ s.size ∧ Below w.heap.size w w' := by
  obtain ⟨i0, hi, hz0, hz1, hz2⟩ := info_parts infoFrame
  have HN := Lib.hid (fun t (ht : t.size ≤ 1000000000000000000) W => next_any t ht W)
  go_enter Try.func16, Try.ntmps16
  go_wp2
  go_loopw [4, 5] (fun v i wr => ∃ (a : Nat) (l : List Fr), a ≤ s.size ∧ l.length * 14 ≤ a ∧ i = .int .i64 a ∧ Hid (Reads (toL s) l a) ∧ Hid (wr.ownsRow w.heap.size 28 2 v l.length (frC l)) ∧ Hid (Below w.heap.size w wr)) (fun _ i _ => s.size - (intOf i).toNat)
  case atStart => exact ⟨0, [], by omega, by simp, rfl, Reads.start _, ⟨rfl, .inl ⟨rfl, rfl⟩⟩, Below.refl _ _⟩
  case round =>
    obtain ⟨a, l, ha, hla, rfl, HR, HO, HB⟩ := hrel
    have HC := Lib.hid (fun W => HN.out (s.extract a s.size) (by rw [extract_size]; omega) W)
    rw [toL_from] at HC
    have hsl := slice_from s a ha
    generalize s.extract a s.size = T at *
    unfold NR.val frV at HC
    go_wp2_with fail
    refine (HC.out _).mono ?_
    rintro e w1 ⟨rfl, hB1⟩
    have HO1 := Lib.hid (own_below HO.out hB1)
    have HB1 : Hid (Below w.heap.size w w1) := HB.out.trans (hB1.mono HB.out.size)
    clear hB1 HB HO HC hsl
    rcases hx : nextL ((toL s).drop a) with E | ⟨k, b⟩
    · have hE : E ≠ 0 := by
        rcases nextL_cases ((toL s).drop a) with ⟨e, he, h2⟩ | ⟨_, _, _, h2⟩
        · rw [hx] at h2; injection h2 with h3; omega
        · rw [hx] at h2; cases h2
      have hne : ((E : Int) == 0) = false := beq_eq_false_iff_ne.2 (by omega)
      have HD := Lib.hid (HR.out.done hx)
      have HBA : Hid (Below w.heap.size w (w1.alloc (.cells #[.int .u8 0, .string ⟨#[]⟩] 28))) := HB1.out.alloc HB1.out.size _
      have HOA := Lib.hid (own_below HO1.out ((Below.refl w1.heap.size w1).alloc (Nat.le_refl _) (.cells #[.int .u8 0, .string ⟨#[]⟩] 28)))
      simp only [NR.kind, NR.body, NR.long, NR.code]
      clear hx HR
      go_wp2
      go_ret2
      exact ⟨_, l, a, rfl, HD.out, HOA.out, by omega, HBA.out⟩
    · have HX := Lib.hid hx
      simp only [NR.kind, NR.body, NR.long, NR.code]
      have HR2 := Lib.hid (HR.out.next hx)
      have hlen := (nextL_inv hx).2.2
      rw [List.length_drop, toL_length] at hlen
      clear hx HR
      have hkb : 0 ≤ (k.toNat : Int) ∧ (k.toNat : Int) ≤ 255 := ⟨by omega, by have := k.toNat_lt; omega⟩
      have HO2 := Lib.hid (own_below HO1.out (below_two w1 (.cells #[.int .u8 (k.toNat : Int), .string (tx b)] 28) (.cells #[.int .u8 (k.toNat : Int), .string (tx b)] 28)))
      have HB2 : Hid (Below w.heap.size w ((w1.alloc (.cells #[.int .u8 (k.toNat : Int), .string (tx b)] 28)).alloc (.cells #[.int .u8 (k.toNat : Int), .string (tx b)] 28))) := HB1.out.trans ((below_two _ _ _).mono HB1.out.size)
      have HS2 : Hid (w.heap.size ≤ ((w1.alloc (.cells #[.int .u8 (k.toNat : Int), .string (tx b)] 28)).alloc (.cells #[.int .u8 (k.toNat : Int), .string (tx b)] 28)).heap.size) := HB2.out.size
      go_wp2_with (at_builtin; refine wpList_append_own _ rfl (.tmp 21) (.tmp 23) 36 rfl w.heap.size 28 i0 _ 2 24 Try.underlying36 hi hz0 hz1 hz2 rfl (by decide) _ _ _ rfl HO2.out ⟨w1.heap.size + 1, 0, none⟩ 1 1 [.int .u8 (k.toNat : Int), .string (tx b)] rfl rfl (news_at _ _ _ _ (size1 _ _).symm) (one_cells _ _ rfl rfl) (by unfold maxLen; omega) (by omega) HS2.out ?_; intro v' w2 hown' hgrow hiff)
      have HB3 := Lib.hid (app_below HB2.out HS2.out HO2.out hgrow)
      have HO3 := Lib.hid hown'
      clear hown' hgrow hiff HB2 HS2 HO2
      go_wp2
      go_roundw
      case rel => exact ⟨a + (14 + b.length), l ++ [(k, b)], by omega, by rw [List.length_append]; simp; omega, by go_num, HR2, (by unfold Hid; rw [List.length_append, frC_snoc]; exact HO3.out), HB3⟩
      case measure => simp [intOf]; omega
end Go.Proofs.Ytkfddmbhokeofaa
