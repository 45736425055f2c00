/- Layer 5: a disk in memory: its own cells, its map, and a row of bytes for each file. -/
import Derived.Test.YtammmhbkfdmbfaaS2
namespace Go.Proofs.Ytammmhbkfdmbfaa
open Go.RowKit
set_option linter.unusedVariables false

/-! ### what stays -/
/-- all blocks that were there stay as they were, but those of T -/
structure Kept (T : Nat → Prop) (w w' : World) : Prop where
  os : w'.os = w.os
  tape : w'.tape = w.tape
  output : w'.output = w.output
  size : w.heap.size ≤ w'.heap.size
  block : ∀ i, i < w.heap.size → ¬ T i → w'.heap[i]? = w.heap[i]?
theorem Kept.refl (T : Nat → Prop) (w : World) : Kept T w w := ⟨rfl, rfl, rfl, Nat.le_refl _, fun _ _ _ => rfl⟩
theorem Kept.of_below {w w' : World} (h : Below w.heap.size w w') (T : Nat → Prop) : Kept T w w' := ⟨h.os, h.tape, h.output, h.size, fun i hi _ => h.block i hi⟩
theorem Kept.of_grown {w w' : World} {r : Option Nat} (h : w.grownBy w' r) {T : Nat → Prop} (hr : ∀ i, r = some i → T i) : Kept T w w' :=
  ⟨h.os, h.tape, h.output, h.size, fun i hi hT => h.block i hi (fun e => hT (hr i e.symm))⟩
theorem Kept.below {T : Nat → Prop} {w w' : World} (h : Kept T w w') {B : Nat} (hB : B ≤ w.heap.size) (hT : ∀ i, T i → B ≤ i) : Below B w w' :=
  ⟨h.os, h.tape, h.output, h.size, fun i hi => h.block i (Nat.lt_of_lt_of_le hi hB) (fun e => by have := hT i e; omega)⟩
/-- what T becomes by all that is new -/
def Grow (T : Nat → Prop) (w w' : World) (i : Nat) : Prop := T i ∨ (w.heap.size ≤ i ∧ i < w'.heap.size)
theorem Kept.trans {T U : Nat → Prop} {a b c : World} (h : Kept T a b) (k : Kept U b c) (hU : ∀ i, i < a.heap.size → U i → T i) : Kept T a c :=
  ⟨k.os.trans h.os, k.tape.trans h.tape, k.output.trans h.output, Nat.le_trans h.size k.size, fun i hi hT => (k.block i (Nat.lt_of_lt_of_le hi h.size) (fun e => hT (hU i hi e))).trans (h.block i hi hT)⟩
theorem Kept.mono {T U : Nat → Prop} {a b : World} (h : Kept T a b) (hU : ∀ i, T i → U i) : Kept U a b := ⟨h.os, h.tape, h.output, h.size, fun i hi hT => h.block i hi (fun e => hT (hU i e))⟩
theorem Kept.then_ {T : Nat → Prop} {a b c : World} (h : Kept T a b) (k : Kept (Grow T a b) b c) : Kept T a c :=
  h.trans k (fun i hi e => by rcases e with e | e; exact e; omega)
theorem Kept.drew {T : Nat → Prop} {a b : World} (h : Kept T a b) : Kept T a b.drew := ⟨h.os, h.tape, h.output, h.size, h.block⟩
theorem Kept.alloc {T : Nat → Prop} {a b : World} (h : Kept T a b) (o : Obj) : Kept T a (b.alloc o) :=
  h.trans (Kept.of_grown (World.grownBy_alloc b o none) (T := T) (fun i e => by cases e)) (fun _ _ e => e)
theorem grownBy_setCell (w : World) (p i : Nat) (v : Value) : w.grownBy (w.setCell ⟨p, i, none⟩ v) (some p) :=
  ⟨rfl, rfl, rfl, by simp [World.setCell], fun k _ hk => Below.heap_setCell _ _ _ k (fun e => hk (by rw [e]))⟩
theorem Kept.setCell {T : Nat → Prop} {a b : World} (h : Kept T a b) {p : Nat} (hp : T p ∨ a.heap.size ≤ p) (i : Nat) (v : Value) : Kept T a (b.setCell ⟨p, i, none⟩ v) :=
  h.trans (Kept.of_grown (grownBy_setCell b p i v) (T := fun j => j = p) (fun j e => by injection e with e; exact e.symm)) (fun j hj e => by
    subst e
    rcases hp with hp | hp
    · exact hp
    · omega)

theorem heap_setCell_at {w : World} {p : Nat} {cur : Array Value} {t : TypeId} (h : w.heap[p]? = some (.cells cur t (0, 0))) (i : Nat) (v : Value) :
    (w.setCell ⟨p, i, none⟩ v).heap[p]? = some (.cells (cur.setIfInBounds i v) t (0, 0)) := by
  obtain ⟨hlt, hk⟩ := Array.getElem?_eq_some_iff.1 h
  show (w.heap.modify p _)[p]? = _
  rw [Array.getElem?_eq_getElem (by rw [Array.size_modify]; exact hlt), Array.getElem_modify_self, hk]
  rfl

/-! ### a disk -/
def bv (l : Nm) : List Value := l.map fun c => .int .u8 (c.toNat : Int)
theorem bv_len (l : Nm) : (bv l).length = l.length := by simp [bv]
structure Meta where
  limit : Int
  used : Int
  ops : Int
  reads : Int
  fuse : Int
  down : Bool
def dCells (m : Meta) (b : Nat) : Array Value := #[.int .i64 m.limit, .int .i64 m.used, .map (some b), .int .i64 m.ops, .int .i64 m.reads, .int .i64 m.fuse, .bool m.down]
def fv (x : FileM × Value) : Nm × Value := (x.1.name, cv x.2 x.1.safe.length)
/-- a file's bytes in memory -/
def Row (w : World) (x : FileM × Value) : Prop := w.ownsRow 0 5 1 x.2 x.1.bytes.length (bv x.1.bytes)
def notN (n : Nm) (x : FileM × Value) : Bool := x.1.name != n

theorem pw_all {α : Type} {R : α → α → Prop} (hs : ∀ a b, R a b → R b a) : ∀ {l : List α}, l.Pairwise R → ∀ x ∈ l, ∀ y ∈ l, x = y ∨ R x y
  | [], _, x, hx, _, _ => by cases hx
  | a :: r, h, x, hx, y, hy => by
    obtain ⟨h1, h2⟩ := List.pairwise_cons.1 h
    rcases List.mem_cons.1 hx with e1 | k1 <;> rcases List.mem_cons.1 hy with e2 | k2
    · exact .inl (e1.trans e2.symm)
    · subst e1; exact .inr (h1 y k2)
    · subst e2; exact .inr (hs _ _ (h1 x k1))
    · exact pw_all hs h2 x k1 y k2

structure DiskRaw (w : World) (p b : Nat) (S : Nat → Prop) (m : Meta) (F : List (FileM × Value)) : Prop where
  blk : w.heap[p]? = some (.cells (dCells m b) 71 (0, 0))
  fs : Fs w b (F.map fv)
  own : ∀ x ∈ F, Row w x ∧ ∀ g, x.2.ownBlock = some g → S g
  apart : F.Pairwise fun x y => ∀ g, x.2.ownBlock = some g → y.2.ownBlock ≠ some g
  sp : S p
  sb : S b
  lt : ∀ i, S i → i < w.heap.size

theorem Row.obj {w : World} {x : FileM × Value} (h : Row w x) {g : Nat} (hg : x.2.ownBlock = some g) : ∃ cur, w.heap[g]? = some (.cells cur 5 (0, 0)) := by
  rcases h.2 with ⟨e, _⟩ | ⟨g', cap, cur, e, _, hh, _⟩
  · rw [e] at hg; cases hg
  · rw [e] at hg
    simp [Value.ownBlock] at hg
    subst hg
    exact ⟨cur, hh⟩
theorem Row.same {w w' : World} {x : FileM × Value} (h : Row w x) (e : ∀ g, x.2.ownBlock = some g → w'.heap[g]? = w.heap[g]?) : Row w' x := by
  refine ⟨h.1, ?_⟩
  rcases h.2 with hn | ⟨g, cap, cur, e1, hb, hh, r⟩
  · exact .inl hn
  · exact .inr ⟨g, cap, cur, e1, hb, (e g (by rw [e1]; rfl)).trans hh, r⟩

section
variable {w w' : World} {p b : Nat} {S : Nat → Prop} {m m' : Meta} {F : List (FileM × Value)}
theorem DiskRaw.bp (h : DiskRaw w p b S m F) : b ≠ p := fun e => by
  obtain ⟨xs, c, hb⟩ := h.fs.obj
  rw [e, h.blk] at hb
  cases hb
theorem DiskRaw.row_p (h : DiskRaw w p b S m F) {x : FileM × Value} (hr : Row w x) : x.2.ownBlock ≠ some p := fun e => by
  obtain ⟨cur, hh⟩ := hr.obj e
  rw [h.blk] at hh
  injection hh with hh
  injection hh with _ h2 _
  exact absurd h2 (by decide)
theorem DiskRaw.row_b (h : DiskRaw w p b S m F) {x : FileM × Value} (hr : Row w x) : x.2.ownBlock ≠ some b := fun e => by
  obtain ⟨cur, hh⟩ := hr.obj e
  obtain ⟨xs, c, hb⟩ := h.fs.obj
  rw [hb] at hh
  cases hh
/-- other blocks are written -/
theorem DiskRaw.kept {T : Nat → Prop} (h : DiskRaw w p b S m F) (k : Kept T w w') (hT : ∀ i, S i → ¬ T i) : DiskRaw w' p b S m F :=
  ⟨(k.block p (h.lt p h.sp) (hT p h.sp)).trans h.blk, h.fs.same (k.block b (h.lt b h.sb) (hT b h.sb)),
    fun x hx => ⟨(h.own x hx).1.same fun g hg => k.block g (h.lt g ((h.own x hx).2 g hg)) (hT g ((h.own x hx).2 g hg)), (h.own x hx).2⟩, h.apart, h.sp, h.sb, fun i hi => Nat.lt_of_lt_of_le (h.lt i hi) k.size⟩
theorem DiskRaw.below (h : DiskRaw w p b S m F) (k : Below w.heap.size w w') : DiskRaw w' p b S m F := h.kept (Kept.of_below k (fun _ => False)) (fun _ _ e => e)
theorem DiskRaw.mono (h : DiskRaw w p b S m F) {S' : Nat → Prop} (h1 : ∀ i, S i → S' i) (h2 : ∀ i, S' i → i < w.heap.size) : DiskRaw w p b S' m F :=
  ⟨h.blk, h.fs, fun x hx => ⟨(h.own x hx).1, fun g hg => h1 g ((h.own x hx).2 g hg)⟩, h.apart, h1 _ h.sp, h1 _ h.sb, h2⟩
theorem DiskRaw.wide {w0 w1 : World} (h : DiskRaw w p b (Grow S w0 w1) m F) (h1 : w1.heap.size ≤ w.heap.size) : DiskRaw w p b (Grow S w0 w) m F :=
  h.mono (fun i hi => by rcases hi with hi | hi; exact .inl hi; exact .inr ⟨hi.1, by omega⟩) (fun i hi => by
    rcases hi with hi | hi
    · exact h.lt i (.inl hi)
    · exact hi.2)
theorem DiskRaw.grow {w0 : World} (h : DiskRaw w p b S m F) (h1 : w0.heap.size ≤ w.heap.size) : DiskRaw w p b (Grow S w0 w) m F :=
  h.mono (fun i hi => .inl hi) (fun i hi => by
    rcases hi with hi | hi
    · exact h.lt i hi
    · exact hi.2)
/-- its own cells are written -/
theorem DiskRaw.block (h : DiskRaw w p b S m F) (k : w.grownBy w' (some p)) (hb : w'.heap[p]? = some (.cells (dCells m' b) 71 (0, 0))) : DiskRaw w' p b S m' F :=
  ⟨hb, h.fs.same (k.block b (h.lt b h.sb) (fun e => h.bp (Option.some.inj e))),
    fun x hx => ⟨(h.own x hx).1.same fun g hg => k.block g (h.lt g ((h.own x hx).2 g hg)) (fun e => h.row_p (h.own x hx).1 (hg.trans e)), (h.own x hx).2⟩, h.apart, h.sp, h.sb, fun i hi => Nat.lt_of_lt_of_le (h.lt i hi) k.size⟩
theorem DiskRaw.setUsed (h : DiskRaw w p b S m F) (u : Int) : DiskRaw (w.setCell ⟨p, 1, none⟩ (.int .i64 u)) p b S { m with used := u } F := h.block (grownBy_setCell w p 1 _) (heap_setCell_at h.blk 1 _)
theorem DiskRaw.setOps (h : DiskRaw w p b S m F) (u : Int) : DiskRaw (w.setCell ⟨p, 3, none⟩ (.int .i64 u)) p b S { m with ops := u } F := h.block (grownBy_setCell w p 3 _) (heap_setCell_at h.blk 3 _)
theorem DiskRaw.setReads (h : DiskRaw w p b S m F) (u : Int) : DiskRaw (w.setCell ⟨p, 4, none⟩ (.int .i64 u)) p b S { m with reads := u } F := h.block (grownBy_setCell w p 4 _) (heap_setCell_at h.blk 4 _)
theorem DiskRaw.setFuse (h : DiskRaw w p b S m F) (u : Int) : DiskRaw (w.setCell ⟨p, 5, none⟩ (.int .i64 u)) p b S { m with fuse := u } F := h.block (grownBy_setCell w p 5 _) (heap_setCell_at h.blk 5 _)
theorem DiskRaw.setDown (h : DiskRaw w p b S m F) (u : Bool) : DiskRaw (w.setCell ⟨p, 6, none⟩ (.bool u)) p b S { m with down := u } F := h.block (grownBy_setCell w p 6 _) (heap_setCell_at h.blk 6 _)
theorem DiskRaw.cells (h : DiskRaw w p b S m F) :
    w.cell? ⟨p, 0, none⟩ = some (.int .i64 m.limit) ∧ w.cell? ⟨p, 1, none⟩ = some (.int .i64 m.used) ∧ w.cell? ⟨p, 2, none⟩ = some (.map (some b)) ∧ w.cell? ⟨p, 3, none⟩ = some (.int .i64 m.ops) ∧
    w.cell? ⟨p, 4, none⟩ = some (.int .i64 m.reads) ∧ w.cell? ⟨p, 5, none⟩ = some (.int .i64 m.fuse) ∧ w.cell? ⟨p, 6, none⟩ = some (.bool m.down) :=
  ⟨cell_of_row _ _ 0 _ _ _ h.blk, cell_of_row _ _ 1 _ _ _ h.blk, cell_of_row _ _ 2 _ _ _ h.blk, cell_of_row _ _ 3 _ _ _ h.blk, cell_of_row _ _ 4 _ _ _ h.blk, cell_of_row _ _ 5 _ _ _ h.blk, cell_of_row _ _ 6 _ _ _ h.blk⟩
theorem DiskRaw.free (h : DiskRaw w p b S m F) (i : Nat) : w.frozen? ⟨p, i, none⟩ = false := frozen_of_row _ _ i _ _ h.blk

/-- the rows of a file and of another one are two -/
theorem DiskRaw.two (h : DiskRaw w p b S m F) {x y : FileM × Value} (hx : x ∈ F) (hy : y ∈ F) (hne : x.1.name ≠ y.1.name) {g : Nat} (hg : x.2.ownBlock = some g) : y.2.ownBlock ≠ some g := by
  rcases pw_all (fun a c k g h1 h2 => k g h2 h1) h.apart x hx y hy with e | e
  · exact absurd (by rw [e]) hne
  · exact e g hg
theorem filt_fv (F : List (FileM × Value)) (n : Nm) : (F.map fv).filter (noKey n) = (F.filter (notN n)).map fv := by
  rw [List.filter_map]; rfl
/-- a file is put -/
theorem DiskRaw.put (h : DiskRaw w p b S m F) {n : Nm} {x : FileM} {v : Value} (hx : x.name = n) (hs : w.heap.size ≤ w'.heap.size)
    (hk : ∀ i, i < w.heap.size → i ≠ b → (∀ y ∈ F, y.1.name = n → y.2.ownBlock ≠ some i) → w'.heap[i]? = w.heap[i]? ∨ v.ownBlock = some i)
    (hfs : Fs w' b ((n, cv v x.safe.length) :: (F.map fv).filter (noKey n))) (hown : Row w' (x, v))
    (hap : ∀ g, v.ownBlock = some g → ∀ y ∈ F, y.1.name ≠ n → y.2.ownBlock ≠ some g) (hp : v.ownBlock ≠ some p)
    (hin : ∀ g, v.ownBlock = some g → S g ∨ (w.heap.size ≤ g ∧ g < w'.heap.size)) : DiskRaw w' p b (Grow S w w') m ((x, v) :: F.filter (notN n)) := by
  have hmem : ∀ y ∈ F.filter (notN n), y ∈ F ∧ y.1.name ≠ n := fun y hy => by
    obtain ⟨h1, h2⟩ := List.mem_filter.1 hy
    exact ⟨h1, by simpa [notN] using h2⟩
  have hrows : ∀ y ∈ F.filter (notN n), Row w' y := fun y hy => by
    obtain ⟨h1, h2⟩ := hmem y hy
    refine (h.own y h1).1.same fun g hg => ?_
    rcases hk g (h.lt g ((h.own y h1).2 g hg)) (fun e => h.row_b (h.own y h1).1 (e ▸ hg)) (fun z hz hzn e => h.two hz h1 (fun e2 => h2 (e2 ▸ hzn)) e hg) with e | e
    · exact e
    · exact absurd hg (hap g e y h1 h2)
  have hpk : w'.heap[p]? = w.heap[p]? := by
    rcases hk p (h.lt p h.sp) h.bp.symm (fun y hy _ e => h.row_p (h.own y hy).1 e) with e | e
    · exact e
    · exact absurd e hp
  refine ⟨hpk.trans h.blk, ?_, ?_, ?_, .inl h.sp, .inl h.sb, ?_⟩
  · rw [filt_fv] at hfs
    rw [List.map_cons]
    unfold fv at hfs ⊢
    rw [hx]; exact hfs
  · intro y hy
    rcases List.mem_cons.1 hy with e | hy
    · subst e; exact ⟨hown, fun g hg => hin g hg⟩
    · exact ⟨hrows y hy, fun g hg => .inl ((h.own y (hmem y hy).1).2 g hg)⟩
  · refine List.pairwise_cons.2 ⟨fun y hy g hg => hap g hg y (hmem y hy).1 (hmem y hy).2, h.apart.filter _⟩
  · intro i hi
    rcases hi with hi | hi
    · exact Nat.lt_of_lt_of_le (h.lt i hi) hs
    · exact hi.2
/-- a file is taken out -/
theorem DiskRaw.del (h : DiskRaw w p b S m F) {n : Nm} (k : w.grownBy w' (some b)) (hfs : Fs w' b ((F.map fv).filter (noKey n))) : DiskRaw w' p b S m (F.filter (notN n)) := by
  have hmem : ∀ y ∈ F.filter (notN n), y ∈ F := fun y hy => (List.mem_filter.1 hy).1
  refine ⟨(k.block p (h.lt p h.sp) (fun e => h.bp (Option.some.inj e).symm)).trans h.blk, by rw [filt_fv] at hfs; exact hfs, fun x hx => ?_, h.apart.filter _, h.sp, h.sb, fun i hi => Nat.lt_of_lt_of_le (h.lt i hi) k.size⟩
  have hx' := hmem x hx
  exact ⟨(h.own x hx').1.same fun g hg => k.block g (h.lt g ((h.own x hx').2 g hg)) (fun e => h.row_b (h.own x hx').1 (hg.trans e)), (h.own x hx').2⟩
theorem DiskRaw.names (h : DiskRaw w p b S m F) : (F.map (·.1.name)).Nodup := by
  have := h.fs.nodup
  rw [List.map_map] at this
  exact this
theorem DiskRaw.look_some (h : DiskRaw w p b S m F) {x : FileM × Value} (hx : x ∈ F) : lookE (F.map fv) x.1.name = some (cv x.2 x.1.safe.length) := by
  cases hl : lookE (F.map fv) x.1.name with
  | none =>
    unfold lookE at hl
    rw [Option.map_eq_none_iff, List.find?_eq_none] at hl
    exact absurd (by simp [fv]) (hl (fv x) (List.mem_map_of_mem hx))
  | some v =>
    obtain ⟨y, hy, e⟩ := List.mem_map.1 (lookE_mem hl)
    unfold fv at e
    simp only [Prod.mk.injEq] at e
    have hxy : y = x := by
      have hn := h.names
      rw [List.Nodup, List.pairwise_map] at hn
      rcases pw_all (fun a c k => k.symm) hn y hy x hx with k | k
      · exact k
      · exact absurd e.1 k
    subst hxy
    rw [e.2]
theorem look_none {n : Nm} (h : ∀ x ∈ F, x.1.name ≠ n) : lookE (F.map fv) n = none := by
  unfold lookE
  rw [Option.map_eq_none_iff, List.find?_eq_none]
  intro y hy
  obtain ⟨x, hx, rfl⟩ := List.mem_map.1 hy
  simpa [fv] using h x hx
end

/-- a disk, by the document's words -/
def DiskM.meta_ (d : DiskM) : Meta := ⟨d.limit, (usedL d.L : Int), d.ops, d.reads, d.fuse, d.down⟩
def DiskAt (w : World) (p : Nat) (S : Nat → Prop) (d : DiskM) : Prop := ∃ b F, DiskRaw w p b S d.meta_ F ∧ (F.map (·.1)).Perm d.L
theorem DiskAt.kept {w w' : World} {p : Nat} {S T : Nat → Prop} {d : DiskM} (h : DiskAt w p S d) (k : Kept T w w') (hT : ∀ i, S i → ¬ T i) : DiskAt w' p S d := by
  obtain ⟨b, F, h1, h2⟩ := h
  exact ⟨b, F, h1.kept k hT, h2⟩
theorem DiskAt.below {w w' : World} {p : Nat} {S : Nat → Prop} {d : DiskM} (h : DiskAt w p S d) (k : Below w.heap.size w w') : DiskAt w' p S d := h.kept (Kept.of_below k (fun _ => False)) (fun _ _ e => e)
theorem DiskAt.lt {w : World} {p : Nat} {S : Nat → Prop} {d : DiskM} (h : DiskAt w p S d) : ∀ i, S i → i < w.heap.size := by
  obtain ⟨b, F, h1, h2⟩ := h
  exact h1.lt
theorem DiskAt.mono {w : World} {p : Nat} {S S' : Nat → Prop} {d : DiskM} (h : DiskAt w p S d) (h1 : ∀ i, S i → S' i) (h2 : ∀ i, S' i → i < w.heap.size) : DiskAt w p S' d := by
  obtain ⟨b, F, h3, h4⟩ := h
  exact ⟨b, F, h3.mono h1 h2, h4⟩
theorem DiskAt.grow {w w' : World} {p : Nat} {S : Nat → Prop} {d : DiskM} (h : DiskAt w' p S d) (hs : w.heap.size ≤ w'.heap.size) : DiskAt w' p (Grow S w w') d :=
  h.mono (fun i hi => .inl hi) (fun i hi => by rcases hi with hi | hi; exact h.lt i hi; exact hi.2)
theorem perm_get {F : List (FileM × Value)} {L : List FileM} (h : (F.map (·.1)).Perm L) {n : Nm} {f : FileM} (hg : getL L n = some f) : ∃ v, (f, v) ∈ F ∧ f.name = n := by
  obtain ⟨h1, h2⟩ := getL_some hg
  obtain ⟨x, hx, rfl⟩ := List.mem_map.1 (h.mem_iff.2 h1)
  exact ⟨x.2, hx, h2⟩
theorem perm_no {F : List (FileM × Value)} {L : List FileM} (h : (F.map (·.1)).Perm L) {n : Nm} (hg : hasL L n = false) : ∀ x ∈ F, x.1.name ≠ n := fun x hx =>
  hasL_false.1 hg x.1 (h.mem_iff.1 (List.mem_map_of_mem hx))
theorem perm_wo {F : List (FileM × Value)} {L : List FileM} (h : (F.map (·.1)).Perm L) (n : Nm) : ((F.filter (notN n)).map (·.1)).Perm (wo L n) := by
  have := h.filter (fun f => f.name != n)
  rw [List.filter_map] at this
  exact this
theorem perm_put {F : List (FileM × Value)} {L : List FileM} (h : (F.map (·.1)).Perm L) (x : FileM) (v : Value) : (((x, v) :: F.filter (notN x.name)).map (·.1)).Perm (putL L x) := by
  unfold putL
  rw [List.map_cons]
  exact ((perm_wo h x.name).cons x).trans (ins_perm x _).symm
theorem perm_len {F : List (FileM × Value)} {L : List FileM} (h : (F.map (·.1)).Perm L) : F.length = L.length := by simpa using h.length_eq
end Go.Proofs.Ytammmhbkfdmbfaa
