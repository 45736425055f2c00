/- Contracts of layer 5: whether there is a file, how long it is, what of it is loose. -/
import Derived.Test.YtammmhbkfdmbfaaS4
namespace Go.Proofs.Ytammmhbkfdmbfaa
open Go.RowKit
set_option linter.unusedVariables false

/-- a file's value is a slice -/
theorem Row.shape {w : World} {f : FileM} {v : Value} (h : Row w (f, v)) : ∃ a c, v = .slice a f.bytes.length c ∧ f.bytes.length ≤ c ∧ c ≤ maxLen ∧ Sl w a (bv f.bytes) ∧ (a = none → c = 0) := by
  obtain ⟨a, c, h1, h2, h3, h4, _, h6⟩ := own_slice h
  exact ⟨a, c, h1, h2, h3, h4, h6⟩
/-- what a look-up finds: no file, or a file's value -/
theorem DiskRaw.find {w : World} {p : Nat} {S : Nat → Prop} {m : Meta} {L : List FileM} {b : Nat} {F : List (FileM × Value)} (h : DiskRaw w p b S m F) (hp : (F.map (·.1)).Perm L) (n : Nm) :
    (getL L n = none ∧ lookE (F.map fv) n = none) ∨ ∃ f a c, getL L n = some f ∧ (f, Value.slice a f.bytes.length c) ∈ F ∧ f.name = n ∧ lookE (F.map fv) n = some (cv (.slice a f.bytes.length c) f.safe.length) ∧
      f.bytes.length ≤ c ∧ c ≤ maxLen ∧ Sl w a (bv f.bytes) ∧ (a = none → c = 0) := by
  cases hg : getL L n with
  | none => exact .inl ⟨rfl, look_none (perm_no hp (getL_none.1 hg))⟩
  | some f =>
    obtain ⟨v, hv, e⟩ := perm_get hp hg
    obtain ⟨a, c, e1, e2, e3, e4, e5⟩ := (h.own _ hv).1.shape
    subst e1
    have := h.look_some hv
    rw [e] at this
    exact .inr ⟨f, a, c, rfl, hv, e, this, e2, e3, e4, e5⟩

theorem has_any (s : ByteArray) (hs : s.size ≤ maxLen) (w : World) (p : Nat) (S : Nat → Prop) (d : DiskM) (h : DiskAt w p S d) :
    Calls Try.prog 52 #[pt p, .string s] w fun e w' => e = .returned (.bool (hasL d.L (toL s))) ∧ Below w.heap.size w w' := by
  obtain ⟨b, F, hr, hp⟩ := h
  have hc : w.cell? ⟨p, 2, none⟩ = some (.map (some b)) := hr.cells.2.2.1
  have hlk := hr.fs.look_ok hs
  rcases hr.find hp (toL s) with ⟨h1, h2⟩ | ⟨f, a, c, h1, _, _, h2, _⟩
  · rw [h2] at hlk
    have HE := Lib.hid (getL_none.1 h1)
    simp only [Option.getD_none, Option.isSome_none, cv] at hlk
    clear h1 h2 hr
    go_enter Try.func52, Try.ntmps52
    go_wp2
    go_ret
    exact ⟨retB HE.out.symm, (Below.refl _ _).alloc (Nat.le_refl _) _⟩
  · rw [h2] at hlk
    have HE := Lib.hid (hasL_get h1)
    simp only [Option.getD_some, Option.isSome_some, cv] at hlk
    clear h1 h2 hr
    go_enter Try.func52, Try.ntmps52
    go_wp2
    go_ret
    exact ⟨retB HE.out.symm, (Below.refl _ _).alloc (Nat.le_refl _) _⟩

theorem loose_get (a : Option Addr) (n c k : Nat) (hn : n ≤ maxLen) (hk : k ≤ n) (w : World) :
    Calls Try.prog 46 #[.agg #[.slice a n c, .int .i64 (k : Int)]] w fun e w' => e = .returned (.int .i64 ((n - k : Nat) : Int)) ∧ Below w.heap.size w w' := by
  unfold maxLen at hn
  have hw : IntKind.i64.wrap ((n : Int) - k) = ((n - k : Nat) : Int) := by rw [IntWalk.i64_in _ (by omega)]; omega
  go_enter Try.func46, Try.ntmps46
  go_wp2
  go_ret
  exact ⟨rfl, (Below.refl _ _).alloc (Nat.le_refl _) _⟩

/-- how many bytes of a file are loose -/
def looseN (L : List FileM) (n : Nm) : Nat := match getL L n with | none => 0 | some f => f.loose.length
theorem loose_any (s : ByteArray) (hs : s.size ≤ maxLen) (w : World) (p : Nat) (S : Nat → Prop) (d : DiskM) (h : DiskAt w p S d) :
    Calls Try.prog 26 #[pt p, .string s] w fun e w' => e = .returned (.int .i64 (looseN d.L (toL s) : Int)) ∧ Below w.heap.size w w' := by
  obtain ⟨b, F, hr, hp⟩ := h
  have hc : w.cell? ⟨p, 2, none⟩ = some (.map (some b)) := hr.cells.2.2.1
  have hlk := hr.fs.look hs
  rcases hr.find hp (toL s) with ⟨h1, h2⟩ | ⟨f, a, c, h1, _, _, h2, h3, h4, _⟩
  · rw [h2] at hlk
    have HE : Hid (looseN d.L (toL s) = 0) := by unfold Hid looseN; rw [h1]
    have HC := Lib.hid (loose_get none 0 0 0 (by decide) (by decide))
    simp only [Option.getD_none, cv] at hlk
    clear h1 h2 hr
    go_enter Try.func26, Try.ntmps26
    go_wp2_with fail
    refine (HC.out _).mono ?_
    rintro e w1 ⟨rfl, hB⟩
    go_wp2
    go_ret
    exact ⟨retI (by rw [HE.out]; rfl), hB⟩
  · rw [h2] at hlk
    have hl : f.bytes.length - f.safe.length = f.loose.length := by simp [FileM.bytes]
    have HE : Hid (looseN d.L (toL s) = f.bytes.length - f.safe.length) := by unfold Hid looseN; rw [h1, hl]
    have HC := Lib.hid (loose_get a f.bytes.length c f.safe.length (by omega) (by simp [FileM.bytes]))
    simp only [Option.getD_some, cv] at hlk
    clear h1 h2 hr hl
    generalize f.bytes.length = n at *
    generalize f.safe.length = k at *
    go_enter Try.func26, Try.ntmps26
    go_wp2_with fail
    refine (HC.out _).mono ?_
    rintro e w1 ⟨rfl, hB⟩
    go_wp2
    go_ret
    exact ⟨retI (by rw [HE.out]), hB⟩

/-- how many bytes a file has -/
def sizeN (L : List FileM) (n : Nm) : Nat := match getL L n with | none => 0 | some f => f.bytes.length
theorem size_any (s : ByteArray) (hs : s.size ≤ maxLen) (w : World) (p : Nat) (S : Nat → Prop) (d : DiskM) (h : DiskAt w p S d) :
    Calls Try.prog 22 #[pt p, .string s] w fun e w' => e = .returned (.tuple #[.int .i64 (sizeN d.L (toL s) : Int), .bool (hasL d.L (toL s))]) ∧ Below w.heap.size w w' := by
  obtain ⟨b, F, hr, hp⟩ := h
  have hc : w.cell? ⟨p, 2, none⟩ = some (.map (some b)) := hr.cells.2.2.1
  have hlk := hr.fs.look_ok hs
  rcases hr.find hp (toL s) with ⟨h1, h2⟩ | ⟨f, a, c, h1, _, _, h2, h3, h4, _⟩
  · rw [h2] at hlk
    have HE : Hid ((sizeN d.L (toL s) : Int) = 0) := by unfold Hid sizeN; rw [h1]; rfl
    have HH := Lib.hid (getL_none.1 h1)
    simp only [Option.getD_none, Option.isSome_none, cv] at hlk
    clear h1 h2 hr
    go_enter Try.func22, Try.ntmps22
    go_wp2
    go_ret2
    rw [HE.out, HH.out]
    exact ⟨rfl, (Below.refl _ _).alloc (Nat.le_refl _) _⟩
  · rw [h2] at hlk
    have HE : Hid ((sizeN d.L (toL s) : Int) = f.bytes.length) := by unfold Hid sizeN; rw [h1]
    have HH := Lib.hid (hasL_get h1)
    simp only [Option.getD_some, Option.isSome_some, cv] at hlk
    clear h1 h2 hr
    generalize f.bytes.length = n at *
    generalize f.safe.length = k at *
    go_enter Try.func22, Try.ntmps22
    go_wp2
    go_ret2
    rw [HE.out, HH.out]
    exact ⟨rfl, (Below.refl _ _).alloc (Nat.le_refl _) _⟩

theorem setFuse_any (n : Int) (w : World) (p : Nat) (S : Nat → Prop) (d : DiskM) (h : DiskAt w p S d) :
    Calls Try.prog 34 #[pt p, .int .i64 n] w fun e w' => e = .returned (.tuple #[]) ∧ DiskAt w' p (Grow S w w') { d with fuse := max n (-1) } ∧ Kept S w w' := by
  obtain ⟨b, F, hr, hp⟩ := h
  have hc : w.cell? ⟨p, 5, none⟩ = some (.int .i64 d.fuse) := hr.cells.2.2.2.2.2.1
  have hf := hr.free 5
  have HS := Lib.hid hr.sp
  by_cases h1 : n < -1
  · have HR := Lib.hid (hr.setFuse (-1))
    have HM : Hid (max n (-1) = -1) := by unfold Hid; omega
    clear hr
    go_enter Try.func34, Try.ntmps34
    go_wp2
    all_goals first | omega | skip
    all_goals
      go_end0
      rw [HM.out]
      exact ⟨rfl, DiskAt.grow ⟨b, F, HR.out, hp⟩ (by simp [World.setCell]), (Kept.refl S w).setCell (.inl HS.out) 5 _⟩
  have HR := Lib.hid (hr.setFuse n)
  have HM : Hid (max n (-1) = n) := by unfold Hid; omega
  clear hr
  go_enter Try.func34, Try.ntmps34
  go_wp2
  all_goals first | omega | skip
  all_goals
    go_end0
    rw [HM.out]
    exact ⟨rfl, DiskAt.grow ⟨b, F, HR.out, hp⟩ (by simp [World.setCell]), (Kept.refl S w).setCell (.inl HS.out) 5 _⟩

theorem size1 (w : World) (o : Obj) : (w.alloc o).heap.size = w.heap.size + 1 := by simp
theorem new_at (l : Int) (w : World) : ∃ S, DiskAt ((w.alloc (.map #[] 0)).alloc (.cells #[.int .i64 l, .int .i64 0, .map (some w.heap.size), .int .i64 0, .int .i64 0, .int .i64 (-1), .bool false] 71)) (w.heap.size + 1) S ⟨[], l, -1, 0, 0, false⟩ ∧
    Below w.heap.size w ((w.alloc (.map #[] 0)).alloc (.cells #[.int .i64 l, .int .i64 0, .map (some w.heap.size), .int .i64 0, .int .i64 0, .int .i64 (-1), .bool false] 71)) ∧ ∀ i, S i → w.heap.size ≤ i := by
  have hfs := Fs.made w
  have hB : Below w.heap.size w ((w.alloc (.map #[] 0)).alloc (.cells #[.int .i64 l, .int .i64 0, .map (some w.heap.size), .int .i64 0, .int .i64 0, .int .i64 (-1), .bool false] 71)) := ((Below.refl _ w).alloc (Nat.le_refl _) _).alloc (by simp) _
  refine ⟨fun i => i = w.heap.size ∨ i = w.heap.size + 1, ⟨w.heap.size, [], ⟨?_, ?_, fun x hx => (by cases hx), List.Pairwise.nil, .inr rfl, .inl rfl, ?_⟩, List.Perm.refl _⟩, hB, fun i hi => by omega⟩
  · have := heap_alloc_new (w.alloc (.map #[] 0)) (.cells #[.int .i64 l, .int .i64 0, .map (some w.heap.size), .int .i64 0, .int .i64 0, .int .i64 (-1), .bool false] 71)
    rw [size1] at this
    exact this
  · exact hfs.same (Below.heap_alloc _ _ _ hfs.lt)
  · intro i hi
    simp only [size1]
    omega
theorem new_any (n : Int) (w : World) : Calls Try.prog 13 #[.int .i64 n] w fun e w' => ∃ p S, e = .returned (pt p) ∧ DiskAt w' p S (newM n) ∧ Below w.heap.size w w' ∧ ∀ i, S i → w.heap.size ≤ i := by
  have hmm := @run_makeMap Try.prog
  have HN := Lib.hid (fun l => new_at l w)
  have hE : newM n = ⟨[], min (max n 0) 1073741824, -1, 0, 0, false⟩ := rfl
  have hcase : n < 0 ∨ (0 ≤ n ∧ 1073741824 < n) ∨ (0 ≤ n ∧ n ≤ 1073741824) := by omega
  rcases hcase with h1 | ⟨h1, h2⟩ | ⟨h1, h2⟩
  · have HE : Hid (newM n = ⟨[], 0, -1, 0, 0, false⟩) := by unfold Hid; rw [hE, show min (max n 0) 1073741824 = 0 by omega]
    clear hE
    go_enter Try.func13, Try.ntmps13
    go_wp2
    all_goals first | omega | skip
    all_goals
      go_ret
      obtain ⟨S, a1, a2, a3⟩ := HN.out 0
      exact ⟨_, S, rfl, HE.out ▸ a1, a2, a3⟩
  · have HE : Hid (newM n = ⟨[], 1073741824, -1, 0, 0, false⟩) := by unfold Hid; rw [hE, show min (max n 0) 1073741824 = 1073741824 by omega]
    clear hE
    go_enter Try.func13, Try.ntmps13
    go_wp2
    all_goals first | omega | skip
    all_goals
      go_ret
      obtain ⟨S, a1, a2, a3⟩ := HN.out 1073741824
      exact ⟨_, S, rfl, HE.out ▸ a1, a2, a3⟩
  · have HE : Hid (newM n = ⟨[], n, -1, 0, 0, false⟩) := by unfold Hid; rw [hE, show min (max n 0) 1073741824 = n by omega]
    clear hE
    go_enter Try.func13, Try.ntmps13
    go_wp2
    all_goals first | omega | skip
    all_goals
      go_ret
      obtain ⟨S, a1, a2, a3⟩ := HN.out n
      exact ⟨_, S, rfl, HE.out ▸ a1, a2, a3⟩
end Go.Proofs.Ytammmhbkfdmbfaa
