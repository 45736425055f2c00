/- Contracts of layer 4: all frames with which a text begins, and all that may be found in it. -/
import Derived.Test.YtollhemkjnkalaaGreatDoorH6
import Derived.Test.YtollhemkjnkalaaGreatDoorH7
namespace Go.Proofs.YtollhemkjnkalaaGreatDoor
open Go.RowKit
set_option linter.unusedVariables false
set_option maxRecDepth 100000

abbrev Fr := UInt8 × List UInt8
/-- the cells of a row of frames -/
def frC (l : List Fr) : List Value := l.flatMap fun x => [.int .u8 (x.1.toNat : Int), .string (tx x.2)]
theorem frC_len (l : List Fr) : (frC l).length = l.length * 2 := by
  induction l with
  | nil => rfl
  | cons x l ih => simp [frC] at ih ⊢; omega
theorem frC_snoc (l : List Fr) (x : Fr) : frC (l ++ [x]) = frC l ++ [.int .u8 (x.1.toNat : Int), .string (tx x.2)] := by simp [frC]

/-- the frames with which s begins are l, and they have n bytes together -/
inductive Scans : List UInt8 → List Fr → Nat → Prop
  | done {s : List UInt8} {e : Nat} (h : nextL s = .err e) : Scans s [] 0
  | step {s : List UInt8} {k : UInt8} {b : List UInt8} {l : List Fr} {n : Nat} (h : nextL s = .ok k b) (r : Scans (s.drop (14 + b.length)) l n) : Scans s ((k, b) :: l) (14 + b.length + n)
theorem Scans.only {s : List UInt8} {l : List Fr} {n : Nat} (h : Scans s l n) : ∀ {l' : List Fr} {n' : Nat}, Scans s l' n' → l = l' ∧ n = n' := by
  induction h with
  | done h =>
    intro l' n' h'
    cases h' with
    | done _ => exact ⟨rfl, rfl⟩
    | step h2 _ => rw [h] at h2; cases h2
  | step h r ih =>
    intro l' n' h'
    cases h' with
    | done h2 => rw [h] at h2; cases h2
    | step h2 r2 =>
      rw [h] at h2
      injection h2 with e1 e2
      subst e1 e2
      obtain ⟨rfl, rfl⟩ := ih r2
      exact ⟨rfl, rfl⟩
/-- what was read up to a place, and goes on from there -/
def Reads (s : List UInt8) (l : List Fr) (at' : Nat) : Prop := ∀ g m, Scans (s.drop at') g m → Scans s (l ++ g) (at' + m)
theorem Reads.start (s : List UInt8) : Reads s [] 0 := fun g m h => by simpa using h
theorem Reads.next {s : List UInt8} {l : List Fr} {a : Nat} {k : UInt8} {b : List UInt8} (h : Reads s l a) (hn : nextL (s.drop a) = .ok k b) : Reads s (l ++ [(k, b)]) (a + (14 + b.length)) := fun g m hs => by
  have := h ((k, b) :: g) (14 + b.length + m) (.step hn (by rw [List.drop_drop]; exact hs))
  simpa [Nat.add_assoc] using this
theorem Reads.done {s : List UInt8} {l : List Fr} {a e : Nat} (h : Reads s l a) (hn : nextL (s.drop a) = .err e) : Scans s l a := by
  have := h [] 0 (.done hn)
  simpa using this

/-- the frames that are found up to a place -/
def NR.list : NR → List Fr | .err _ => [] | .ok k b => [(k, b)]
def findTo (s : List UInt8) : Nat → List Fr
  | 0 => []
  | n + 1 => findTo s n ++ (nextL (s.drop n)).list
theorem findTo_len (s : List UInt8) : ∀ n, (findTo s n).length ≤ n
  | 0 => Nat.le_refl _
  | n + 1 => by
    have := findTo_len s n
    unfold findTo
    rw [List.length_append]
    cases nextL (s.drop n) <;> simp [NR.list] <;> omega

theorem own_below {w w' : World} {B e k n : Nat} {v : Value} {xs : List Value} (h : w.ownsRow B e k v n xs) (hb : Below w.heap.size w w') : w'.ownsRow B e k v n xs := by
  refine ⟨h.1, ?_⟩
  rcases h.2 with h | ⟨g, cap, cur, r1, r2, r3, r4⟩
  · exact .inl h
  · refine .inr ⟨g, cap, cur, r1, r2, ?_, r4⟩
    rw [hb.block g ?_]
    · exact r3
    · rcases Nat.lt_or_ge g w.heap.size with h1 | h1
      · exact h1
      · rw [Array.getElem?_eq_none h1] at r3; cases r3
theorem infoFrame : (Tryz.prog.info? 42).map (fun i => (i.zero, i.size, i.bytes)) = some (some (.agg #[.int .u8 0, .string ⟨#[]⟩]), 2, 24) := by kernel_rfl
theorem one_cells (x y : Value) (hx : x.oneCell' = true) (hy : y.oneCell' = true) : ∀ u ∈ [x, y], u.oneCell' = true := by
  intro u hu
  simp at hu
  rcases hu with rfl | rfl
  · exact hx
  · exact hy
theorem below_two (w : World) (o p : Obj) : Below w.heap.size w ((w.alloc o).alloc p) := ((Below.refl _ _).alloc (Nat.le_refl _) _).alloc (by rw [size1]; omega) _
theorem extract_size (s : ByteArray) (a : Nat) : (s.extract a s.size).size = s.size - a := by rw [ByteArray.size_extract]; omega
theorem toL_from (s : ByteArray) (a : Nat) : toL (s.extract a s.size) = (toL s).drop a := by rw [toL_extract, take_size]
theorem slice_from (s : ByteArray) (a : Nat) (h : a ≤ s.size) (W : World) : (Instr.slice 9 (.string s) (some (.int .i64 (a : Int))) none none).run Tryz.prog W = .ok (.string (s.extract a s.size)) W := by
  rw [run_slice_string_from_if W 9 s .i64 a Tryz.underlying9, if_pos (by omega)]
  simp

theorem news_at (W : World) (xs : Array Value) (t : TypeId) (g : Nat) (hg : g = W.heap.size) : ∀ j u, xs.toList[j]? = some u → (W.alloc (.cells xs t)).cell? ((⟨g, 0, none⟩ : Addr).add j) = some u := by
  subst hg; exact Sl.cells (sl_lit W xs t)
theorem app_below {B : Nat} {w W w' : World} {e k n : Nat} {v : Value} {xs : List Value} (hB : Below B w W) (hs : B ≤ W.heap.size) (ho : W.ownsRow B e k v n xs) (hg : W.grownBy w' v.ownBlock) : Below B w w' :=
  hB.grown hg hs (fun j hj => (ho.lt j hj).1)

end Go.Proofs.YtollhemkjnkalaaGreatDoor
