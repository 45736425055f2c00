/- Layer 5, plain mathematics: a disk as a rising row of files. -/
import Derived.Test.YtammmhbkfdmbfaaG0
namespace Go.Proofs.Ytammmhbkfdmbfaa
set_option linter.unusedVariables false

abbrev Nm := List UInt8
theorem cmp_lt : ∀ a b : Nm, Lib.compareBytes a b < 0 ↔ a < b
  | [], [] => by simp [Lib.compareBytes]
  | [], b :: ys => by simp [Lib.compareBytes]
  | a :: xs, [] => by simp [Lib.compareBytes]
  | a :: xs, b :: ys => by
    rw [Lib.compareBytes, List.cons_lt_cons_iff]
    by_cases h : a < b
    · simp [h]
    · by_cases h2 : b < a
      · have : ¬ (a = b) := fun e => by subst e; exact h h2
        simp [h, h2, this]
      · have e : a = b := UInt8.le_antisymm (UInt8.not_lt.1 h2) (UInt8.not_lt.1 h)
        subst e
        simp [h, cmp_lt xs ys]
theorem nm_irrefl (a : Nm) : ¬ a < a := List.lt_irrefl a
theorem nm_trans {a b c : Nm} (h : a < b) (k : b < c) : a < c := List.lt_trans h k
theorem nm_total {a b : Nm} (h : ¬ a < b) (hne : a ≠ b) : b < a := by
  rcases Classical.em (b < a) with k | k
  · exact k
  · exact absurd (List.le_antisymm (show a ≤ b from k) (show b ≤ a from h)) hne
theorem nm_ne {a b : Nm} (h : a < b) : a ≠ b := fun e => nm_irrefl b (e ▸ h)

structure FileM where
  name : Nm
  safe : Nm
  loose : Nm
def FileM.bytes (f : FileM) : Nm := f.safe ++ f.loose
structure DiskM where
  L : List FileM
  limit : Int
  fuse : Int
  ops : Int
  reads : Int
  down : Bool
structure OpM where
  kind : Int
  a : Nm
  b : Nm
  n : Int

def usedL (L : List FileM) : Nat := (L.map fun f => f.bytes.length).sum
def hasL (L : List FileM) (n : Nm) : Bool := L.any fun f => f.name == n
def getL (L : List FileM) (n : Nm) : Option FileM := L.find? fun f => f.name == n
def wo (L : List FileM) (n : Nm) : List FileM := L.filter fun f => f.name != n
def ins (f : FileM) : List FileM → List FileM
  | [] => [f]
  | g :: r => if f.name < g.name then f :: g :: r else g :: ins f r
def putL (L : List FileM) (f : FileM) : List FileM := ins f (wo L f.name)
/-- where a file stands -/
def atL (L : List FileM) (n : Nm) : Nat := L.findIdx fun f => f.name == n
def Rise (L : List FileM) : Prop := L.Pairwise fun f g => f.name < g.name

theorem ins_perm (f : FileM) : ∀ L, (ins f L).Perm (f :: L)
  | [] => List.Perm.refl _
  | g :: r => by
    unfold ins
    split
    · exact List.Perm.refl _
    · exact ((ins_perm f r).cons g).trans (List.Perm.swap f g r)
theorem usedL_perm {L M : List FileM} (h : L.Perm M) : usedL L = usedL M := (h.map _).sum_nat
theorem usedL_cons (f : FileM) (L : List FileM) : usedL (f :: L) = f.bytes.length + usedL L := by simp [usedL]
theorem usedL_nil : usedL [] = 0 := rfl
theorem usedL_append (L M : List FileM) : usedL (L ++ M) = usedL L + usedL M := by simp [usedL]
theorem usedL_put (L : List FileM) (f : FileM) : usedL (putL L f) = f.bytes.length + usedL (wo L f.name) := by
  unfold putL
  rw [usedL_perm (ins_perm f _), usedL_cons]
theorem hasL_iff {L : List FileM} {n : Nm} : hasL L n = true ↔ ∃ f ∈ L, f.name = n := by simp [hasL]
theorem hasL_false {L : List FileM} {n : Nm} : hasL L n = false ↔ ∀ f ∈ L, f.name ≠ n := by simp [hasL]
theorem getL_none {L : List FileM} {n : Nm} : getL L n = none ↔ hasL L n = false := by simp [getL, hasL]
theorem getL_some {L : List FileM} {n : Nm} {f : FileM} (h : getL L n = some f) : f ∈ L ∧ f.name = n := by
  have h1 := List.find?_some h
  exact ⟨List.mem_of_find?_eq_some h, by simpa using h1⟩
theorem Rise.nodup {L : List FileM} (h : Rise L) : (L.map (·.name)).Nodup := by
  unfold Rise at h
  rw [List.Nodup, List.pairwise_map]
  exact h.imp fun k => nm_ne k
theorem Rise.one {L : List FileM} (h : Rise L) {f g : FileM} (hf : f ∈ L) (hg : g ∈ L) (e : f.name = g.name) : f = g := by
  induction L with
  | nil => cases hf
  | cons x r ih =>
    obtain ⟨h1, h2⟩ := List.pairwise_cons.1 h
    rcases List.mem_cons.1 hf with e1 | hf1 <;> rcases List.mem_cons.1 hg with e2 | hg1
    · rw [e1, e2]
    · subst e1; exact absurd e (nm_ne (h1 _ hg1))
    · subst e2; exact absurd e.symm (nm_ne (h1 _ hf1))
    · exact ih h2 hf1 hg1
theorem Rise.get {L : List FileM} (h : Rise L) {f : FileM} (hf : f ∈ L) : getL L f.name = some f := by
  cases hg : getL L f.name with
  | none => exact absurd rfl ((hasL_false.1 (getL_none.1 hg)) f hf)
  | some g => obtain ⟨h1, h2⟩ := getL_some hg; rw [h.one h1 hf h2]
theorem getL_has {L : List FileM} {n : Nm} (h : hasL L n = true) : ∃ f, getL L n = some f := by
  cases hg : getL L n with
  | none => rw [getL_none.1 hg] at h; cases h
  | some f => exact ⟨f, rfl⟩
theorem hasL_get {L : List FileM} {n : Nm} {f : FileM} (h : getL L n = some f) : hasL L n = true := hasL_iff.2 ⟨f, getL_some h⟩

theorem wo_none {L : List FileM} {n : Nm} (h : hasL L n = false) : wo L n = L := by
  unfold wo
  rw [List.filter_eq_self]
  intro f hf
  simpa using hasL_false.1 h f hf
theorem used_wo {L : List FileM} (hr : Rise L) {n : Nm} {f : FileM} (h : getL L n = some f) : usedL L = usedL (wo L n) + f.bytes.length := by
  induction L with
  | nil => cases h
  | cons x r ih =>
    obtain ⟨h1, h2⟩ := List.pairwise_cons.1 hr
    unfold getL at h
    rw [List.find?_cons] at h
    by_cases hx : (x.name == n) = true
    · rw [hx] at h
      injection h with h
      subst h
      have hx' : x.name = n := by simpa using hx
      have hno : hasL r n = false := hasL_false.2 fun g hg e => nm_ne (h1 g hg) (hx'.trans e.symm)
      have : wo (x :: r) n = wo r n := by unfold wo; rw [List.filter_cons]; simp [hx']
      rw [this, wo_none hno, usedL_cons]; omega
    · have hx' : (x.name == n) = false := by simpa using hx
      rw [hx'] at h
      have hne : (x.name != n) = true := by simp [bne, hx']
      have : wo (x :: r) n = x :: wo r n := by unfold wo; rw [List.filter_cons, hne]; rfl
      rw [this, usedL_cons, usedL_cons, ih h2 h]; omega
theorem used_le {L : List FileM} {f : FileM} (h : f ∈ L) : f.bytes.length ≤ usedL L := by
  induction L with
  | nil => cases h
  | cons x r ih =>
    rw [usedL_cons]
    rcases List.mem_cons.1 h with rfl | h
    · omega
    · have := ih h; omega

theorem rise_wo {L : List FileM} (h : Rise L) (n : Nm) : Rise (wo L n) := h.filter _
theorem mem_wo {L : List FileM} {n : Nm} {f : FileM} : f ∈ wo L n ↔ f ∈ L ∧ f.name ≠ n := by simp [wo]
theorem rise_ins {f : FileM} : ∀ {L : List FileM}, Rise L → (∀ g ∈ L, g.name ≠ f.name) → Rise (ins f L)
  | [], _, _ => by simp [ins, Rise]
  | g :: r, h, hne => by
    obtain ⟨h1, h2⟩ := List.pairwise_cons.1 h
    unfold ins
    split
    · rename_i hlt
      refine List.pairwise_cons.2 ⟨fun x hx => ?_, h⟩
      rcases List.mem_cons.1 hx with rfl | hx
      · exact hlt
      · exact nm_trans hlt (h1 x hx)
    · rename_i hlt
      have hgf := nm_total hlt (fun e => hne g (by simp) e.symm)
      refine List.pairwise_cons.2 ⟨fun x hx => ?_, rise_ins h2 (fun y hy => hne y (List.mem_cons_of_mem _ hy))⟩
      rcases List.mem_cons.1 ((ins_perm f r).mem_iff.1 hx) with rfl | hx
      · exact hgf
      · exact h1 x hx
theorem rise_put {L : List FileM} (h : Rise L) (f : FileM) : Rise (putL L f) := rise_ins (rise_wo h _) fun g hg => (mem_wo.1 hg).2
theorem mem_put {L : List FileM} {f g : FileM} : g ∈ putL L f ↔ g = f ∨ (g ∈ L ∧ g.name ≠ f.name) := by
  unfold putL
  rw [(ins_perm f _).mem_iff, List.mem_cons, mem_wo]
theorem len_wo (L : List FileM) (n : Nm) : (wo L n).length ≤ L.length := List.length_filter_le _ _
theorem len_put (L : List FileM) (f : FileM) : (putL L f).length ≤ L.length + 1 := by
  unfold putL
  rw [(ins_perm f _).length_eq, List.length_cons]
  have := len_wo L f.name; omega
theorem len_wo_get {L : List FileM} {n : Nm} {f : FileM} (h : getL L n = some f) : (wo L n).length + 1 ≤ L.length := by
  obtain ⟨h1, h2⟩ := getL_some h
  unfold wo
  have := List.length_filter_lt_length_iff_exists (l := L) (p := fun f => f.name != n)
  have : (L.filter fun f => f.name != n).length < L.length := this.2 ⟨f, h1, by simp [h2]⟩
  omega

def rightB (c : UInt8) : Bool := (decide (97 ≤ c.toNat) && decide (c.toNat ≤ 122)) || (decide (48 ≤ c.toNat) && decide (c.toNat ≤ 57))
def rightN (n : Nm) : Bool := decide (1 ≤ n.length) && decide (n.length ≤ 20) && n.all rightB

def whyM (d : DiskM) (o : OpM) : Int :=
  if o.kind = 0 ∧ (hasL d.L o.a = true ∨ rightN o.a = false) then 51 else
  if o.kind ≠ 0 ∧ hasL d.L o.a = false then 51 else
  if o.kind = 1 ∧ d.limit < (usedL d.L : Int) + o.b.length then 52 else
  if o.kind = 3 ∧ rightN o.b = false then 51 else 0
/-- what is there behind an op that is done -/
def doesL (L : List FileM) (o : OpM) : List FileM :=
  if o.kind = 0 then putL L ⟨o.a, [], []⟩ else
  match getL L o.a with
  | none => L
  | some f => if o.kind = 1 then putL L ⟨f.name, f.safe, f.loose ++ o.b⟩ else if o.kind = 2 then putL L ⟨f.name, f.safe ++ f.loose, []⟩ else if o.kind = 3 then putL (wo L o.a) ⟨o.b, f.safe, f.loose⟩ else if o.kind = 4 then wo L o.a else L
def DiskM.next (d : DiskM) (o : OpM) : DiskM := { d with L := doesL d.L o, fuse := if 0 < d.fuse then d.fuse - 1 else d.fuse, ops := IntKind.i64.wrap (d.ops + 1) }
def doM (d : DiskM) (o : OpM) : DiskM × Int :=
  if d.down = true then (d, 50) else if whyM d o ≠ 0 then (d, whyM d o) else if d.fuse = 0 then ({ d with down := true }, 50) else (d.next o, 0)
def readE (d : DiskM) (n : Nm) (at_ : Int) : Int :=
  if d.down = true then 50 else match getL d.L n with | none => 51 | some f => if at_ < 0 ∨ (f.bytes.length : Int) < at_ then 1 else 0
def readT (d : DiskM) (n : Nm) (at_ : Int) : Nm :=
  if readE d n at_ ≠ 0 then [] else match getL d.L n with | none => [] | some f => (f.bytes.drop at_.toNat).take 64
def readD (d : DiskM) (n : Nm) (at_ : Int) : DiskM := if readE d n at_ ≠ 0 then d else { d with reads := IntKind.i64.wrap (d.reads + 1) }
/-- how many of n loose bytes are kept -/
def kept (k : Int) (n : Nat) : Nat := min (max k 0).toNat n
def settleF (f : FileM) (k : Int) : FileM := ⟨f.name, f.safe ++ f.loose.take (kept k f.loose.length), []⟩
def crashL : List FileM → List Int → List FileM
  | [], _ => []
  | f :: r, keep => if f.loose = [] then f :: crashL r keep else settleF f (keep.headD 0) :: crashL r keep.tail
def crashM (d : DiskM) (keep : List Int) : DiskM := { d with L := crashL d.L keep, down := false, fuse := -1 }
def stepM (d : DiskM) (o : OpM) (keep : List Int) : DiskM × Int :=
  if 0 ≤ o.kind ∧ o.kind < 5 then doM d o else if o.kind = 5 then (readD d o.a o.n, readE d o.a o.n) else if o.kind = 6 then ({ d with fuse := max o.n (-1) }, 0) else if o.kind = 7 then (crashM d keep, 0) else (d, 0)
def newM (limit : Int) : DiskM := ⟨[], min (max limit 0) 1073741824, -1, 0, 0, false⟩

/-- a disk that may be -/
structure Ok (d : DiskM) : Prop where
  rise : Rise d.L
  names : ∀ f ∈ d.L, rightN f.name = true
  room : (usedL d.L : Int) ≤ d.limit
  most : 0 ≤ d.limit ∧ d.limit ≤ 1073741824
  fuse : -1 ≤ d.fuse ∧ d.fuse ≤ 9223372036854775807

theorem settle_name (f : FileM) (k : Int) : (settleF f k).name = f.name := rfl
theorem settle_len (f : FileM) (k : Int) : (settleF f k).bytes.length ≤ f.bytes.length := by
  simp [settleF, FileM.bytes]; omega
theorem crashL_names : ∀ (L : List FileM) (keep : List Int), (crashL L keep).map (·.name) = L.map (·.name)
  | [], _ => rfl
  | f :: r, keep => by
    unfold crashL
    split <;> simp [crashL_names r, settle_name]
theorem crashL_len (L : List FileM) (keep : List Int) : (crashL L keep).length = L.length := by
  have := congrArg List.length (crashL_names L keep)
  simpa using this
theorem crashL_used : ∀ (L : List FileM) (keep : List Int), usedL (crashL L keep) ≤ usedL L
  | [], _ => Nat.le_refl _
  | f :: r, keep => by
    unfold crashL
    split
    · rw [usedL_cons, usedL_cons]; have := crashL_used r keep; omega
    · rw [usedL_cons, usedL_cons]; have := crashL_used r keep.tail; have := settle_len f (keep.headD 0); omega
theorem rise_names {L M : List FileM} (h : Rise L) (e : M.map (·.name) = L.map (·.name)) : Rise M := by
  unfold Rise at *
  have h1 : (L.map (·.name)).Pairwise (· < ·) := List.pairwise_map.2 h
  rw [← e] at h1
  exact List.pairwise_map.1 h1
theorem names_of {L M : List FileM} (h : ∀ f ∈ L, rightN f.name = true) (e : M.map (·.name) = L.map (·.name)) : ∀ f ∈ M, rightN f.name = true := fun f hf => by
  have h1 : f.name ∈ L.map (·.name) := e ▸ List.mem_map_of_mem (f := (·.name)) hf
  obtain ⟨g, hg, h2⟩ := List.mem_map.1 h1
  rw [← h2]; exact h g hg

theorem Ok.new (limit : Int) : Ok (newM limit) := ⟨List.Pairwise.nil, fun f h => (by cases h), by simp [newM, usedL_nil]; omega, ⟨by simp [newM]; omega, by simp [newM]; omega⟩, by simp [newM]⟩
theorem Ok.crash {d : DiskM} (h : Ok d) (keep : List Int) : Ok (crashM d keep) :=
  ⟨rise_names h.rise (crashL_names _ _), names_of h.names (crashL_names _ _), by have := crashL_used d.L keep; have := h.room; simp [crashM]; omega, h.most, by simp [crashM]⟩

theorem why_zero {d : DiskM} {o : OpM} (h : whyM d o = 0) :
    (o.kind = 0 → hasL d.L o.a = false ∧ rightN o.a = true) ∧ (o.kind ≠ 0 → ∃ f, getL d.L o.a = some f) ∧ (o.kind = 1 → (usedL d.L : Int) + o.b.length ≤ d.limit) ∧ (o.kind = 3 → rightN o.b = true) := by
  unfold whyM at h
  split at h
  · cases h
  · rename_i h1
    split at h
    · cases h
    · rename_i h2
      split at h
      · cases h
      · rename_i h3
        split at h
        · cases h
        · rename_i h4
          refine ⟨fun e => ?_, fun e => ?_, fun e => ?_, fun e => ?_⟩
          · refine ⟨?_, ?_⟩
            · cases hh : hasL d.L o.a with
              | false => rfl
              | true => exact absurd ⟨e, .inl hh⟩ h1
            · cases hh : rightN o.a with
              | true => rfl
              | false => exact absurd ⟨e, .inr hh⟩ h1
          · cases hh : hasL d.L o.a with
            | true => exact getL_has hh
            | false => exact absurd ⟨e, hh⟩ h2
          · rcases Int.lt_or_le d.limit ((usedL d.L : Int) + o.b.length) with hh | hh
            · exact absurd ⟨e, hh⟩ h3
            · exact hh
          · cases hh : rightN o.b with
            | true => rfl
            | false => exact absurd ⟨e, hh⟩ h4

theorem does_ok {d : DiskM} (h : Ok d) {o : OpM} (hw : whyM d o = 0) : Rise (doesL d.L o) ∧ (∀ f ∈ doesL d.L o, rightN f.name = true) ∧ (usedL (doesL d.L o) : Int) ≤ d.limit := by
  obtain ⟨w0, w1, w2, w3⟩ := why_zero hw
  have hroom := h.room
  unfold doesL
  split
  · rename_i h0
    obtain ⟨a1, a2⟩ := w0 h0
    refine ⟨rise_put h.rise _, fun f hf => ?_, ?_⟩
    · rcases mem_put.1 hf with rfl | ⟨hf, _⟩
      · exact a2
      · exact h.names f hf
    · rw [usedL_put, wo_none a1]
      simp [FileM.bytes]; omega
  · rename_i h0
    obtain ⟨f, hf⟩ := w1 h0
    obtain ⟨m1, m2⟩ := getL_some hf
    have hu := used_wo h.rise hf
    rw [hf]
    dsimp only
    have hfn := h.names f m1
    split
    · rename_i h1
      have := w2 h1
      refine ⟨rise_put h.rise _, fun g hg => ?_, ?_⟩
      · rcases mem_put.1 hg with rfl | ⟨hg, _⟩
        · exact hfn
        · exact h.names g hg
      · rw [usedL_put]
        simp only [m2]
        simp only [FileM.bytes, List.length_append] at hu ⊢
        omega
    · split
      · refine ⟨rise_put h.rise _, fun g hg => ?_, ?_⟩
        · rcases mem_put.1 hg with rfl | ⟨hg, _⟩
          · exact hfn
          · exact h.names g hg
        · rw [usedL_put]
          simp only [m2]
          simp only [FileM.bytes, List.length_append, List.length_nil] at hu ⊢
          omega
      · split
        · rename_i h3
          refine ⟨rise_put (rise_wo h.rise _) _, fun g hg => ?_, ?_⟩
          · rcases mem_put.1 hg with rfl | ⟨hg, _⟩
            · exact w3 h3
            · exact h.names g (mem_wo.1 hg).1
          · rw [usedL_put]
            have h5 : usedL (wo (wo d.L o.a) o.b) ≤ usedL (wo d.L o.a) := by
              cases hg : getL (wo d.L o.a) o.b with
              | none => rw [wo_none (getL_none.1 hg)]; exact Nat.le_refl _
              | some g => have := used_wo (rise_wo h.rise _) hg; omega
            simp only [FileM.bytes, List.length_append] at hu ⊢
            omega
        · split
          · refine ⟨rise_wo h.rise _, fun g hg => h.names g (mem_wo.1 hg).1, ?_⟩
            omega
          · exact ⟨h.rise, h.names, hroom⟩
theorem Ok.do {d : DiskM} (h : Ok d) (o : OpM) : Ok (doM d o).1 := by
  unfold doM
  split
  · exact h
  · split
    · exact h
    · rename_i hw
      split
      · exact ⟨h.rise, h.names, h.room, h.most, h.fuse⟩
      · have hw : whyM d o = 0 := by
          rcases Int.lt_trichotomy (whyM d o) 0 with k | k | k
          · exact absurd (by omega) hw
          · exact k
          · exact absurd (by omega) hw
        obtain ⟨a, b, c⟩ := does_ok h hw
        have := h.fuse
        exact ⟨a, b, c, h.most, by simp only [DiskM.next]; split <;> omega⟩
theorem Ok.step {d : DiskM} (h : Ok d) (o : OpM) (ho : o.n ≤ 9223372036854775807) (keep : List Int) : Ok (stepM d o keep).1 := by
  unfold stepM
  split
  · exact h.do o
  · split
    · unfold readD
      split
      · exact h
      · exact ⟨h.rise, h.names, h.room, h.most, h.fuse⟩
    · split
      · exact ⟨h.rise, h.names, h.room, h.most, by simp only; omega⟩
      · split
        · exact h.crash keep
        · exact h
theorem does_len (d : DiskM) (o : OpM) : (doesL d.L o).length ≤ d.L.length + 1 := by
  unfold doesL
  split
  · exact len_put _ _
  · split
    · omega
    · rename_i f hf
      have := len_wo d.L o.a
      split
      · exact len_put _ _
      · split
        · exact len_put _ _
        · split
          · have := len_put (wo d.L o.a) ⟨o.b, f.safe, f.loose⟩; omega
          · split
            · omega
            · omega
theorem step_len (d : DiskM) (o : OpM) (keep : List Int) : (stepM d o keep).1.L.length ≤ d.L.length + 1 := by
  unfold stepM
  split
  · unfold doM
    split
    · simp
    · split
      · simp
      · split
        · simp
        · exact does_len d o
  · split
    · unfold readD; split <;> simp
    · split
      · simp
      · split
        · simp [crashM, crashL_len]
        · simp
end Go.Proofs.Ytammmhbkfdmbfaa
