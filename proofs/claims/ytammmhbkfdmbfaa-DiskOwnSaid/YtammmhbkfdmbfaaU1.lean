/- Layer 5's laws: a disk, in its own corner of the world; alive. -/
import Derived.Test.YtammmhbkfdmbfaaS19
namespace Go.Proofs.Ytammmhbkfdmbfaa
open Go.RowKit
set_option linter.unusedVariables false

/-- a disk stands at p; only blocks of K have changed since w0 -/
structure Liv (K : Nat → Prop) (w0 w : World) (p : Nat) (d : DiskM) : Prop where
  new : ∀ i, w0.heap.size ≤ i → K i
  ex : ∃ S, DiskAt w p S d ∧ ∀ i, S i → K i
  kept : Kept K w0 w
  ok : Ok d
variable {K : Nat → Prop} {w0 w : World} {p : Nat} {d d' : DiskM}
theorem Liv.step {P : Program} {f : FuncId} {args : Array Value} {r : Value} (h : Liv K w0 w p d) (hok : Ok d')
    (hc : ∀ S, (∀ i, S i → K i) → DiskAt w p S d → Calls P f args w fun e w' => e = .returned r ∧ DiskAt w' p (Grow S w w') d' ∧ Kept S w w') :
    Calls P f args w fun e w' => e = .returned r ∧ Liv K w0 w' p d' := by
  obtain ⟨S, hS, hK⟩ := h.ex
  refine (hc S hK hS).mono ?_
  rintro e w' ⟨h1, h2, h3⟩
  refine ⟨h1, h.new, ⟨Grow S w w', h2, fun i hi => ?_⟩, h.kept.trans h3 (fun i _ hi => hK i hi), hok⟩
  rcases hi with hi | hi
  · exact hK i hi
  · exact h.new i (by have := h.kept.size; omega)
theorem Liv.below {w' : World} (h : Liv K w0 w p d) (hb : Below w.heap.size w w') : Liv K w0 w' p d := by
  obtain ⟨S, hS, hK⟩ := h.ex
  exact ⟨h.new, ⟨S, hS.below hb, hK⟩, h.kept.trans (Kept.of_below hb K) (fun _ _ e => e), h.ok⟩
theorem Liv.alloc (h : Liv K w0 w p d) (o : Obj) : Liv K w0 (w.alloc o) p d := h.below ((Below.refl _ _).alloc (Nat.le_refl _) o)
theorem Liv.drew (h : Liv K w0 w p d) : Liv K w0 w.drew p d := h.below (Below.refl _ _).drew
theorem Liv.ask {P : Program} {f : FuncId} {args : Array Value} {r : Value} (h : Liv K w0 w p d)
    (hc : ∀ S, DiskAt w p S d → Calls P f args w fun e w' => e = .returned r ∧ Below w.heap.size w w') :
    Calls P f args w fun e w' => e = .returned r ∧ Liv K w0 w' p d := by
  obtain ⟨S, hS, hK⟩ := h.ex
  refine (hc S hS).mono ?_
  rintro e w' ⟨h1, h2⟩
  exact ⟨h1, h.below h2⟩
theorem Liv.same {P : Program} {f : FuncId} {args : Array Value} {r : Value} (h : Liv K w0 w p d)
    (hc : ∀ S, DiskAt w p S d → Calls P f args w fun e w' => e = .returned r ∧ w' = w) :
    Calls P f args w fun e w' => e = .returned r ∧ Liv K w0 w' p d := by
  obtain ⟨S, hS, hK⟩ := h.ex
  refine (hc S hS).mono ?_
  rintro e w' ⟨h1, rfl⟩
  exact ⟨h1, h⟩
theorem Liv.frame (h : Liv K w0 w p d) {B : Nat} (hB : B ≤ w0.heap.size) (hK : ∀ i, i < B → ¬ K i) : Below B w0 w :=
  h.kept.below hB (fun i hi => by rcases Nat.lt_or_ge i B with hlt | hge; exact absurd hi (hK i hlt); exact hge)
/-- a disk that nobody touches stays -/
theorem Liv.other {q : Nat} {T : Nat → Prop} {x : DiskM} (h : Liv K w0 w p d) (hx : DiskAt w0 q T x) (hT : ∀ i, T i → ¬ K i) : DiskAt w q T x := hx.kept h.kept hT
def NewK (w0 : World) (i : Nat) : Prop := w0.heap.size ≤ i

theorem liv_new (n : Int) (w : World) : Calls Try.prog 13 #[.int .i64 n] w fun e w' => ∃ p, e = .returned (.pointer (some ⟨p, 0, none⟩)) ∧ Liv (NewK w) w w' p (newM n) := by
  refine (new_any n w).mono ?_
  rintro e w' ⟨p, S, h1, h2, h3, h4⟩
  exact ⟨p, h1, fun i hi => hi, ⟨S, h2, h4⟩, Kept.of_below h3 _, Ok.new n⟩
theorem liv_create (s : ByteArray) (hs : s.size ≤ maxLen) (o : OpM) (hk : o.kind = 0) (ha : o.a = toL s) (h : Liv K w0 w p d) (hl : d.L.length ≤ 1000000) :
    Calls Try.prog 33 #[pt p, .string s] w fun e w' => e = .returned (.int .i64 (doM d o).2) ∧ Liv K w0 w' p (doM d o).1 := h.step (h.ok.do o) fun S _ hS => create_any s hs o hk ha w p S d h.ok hl hS
theorem liv_append (s t : ByteArray) (hs : s.size ≤ maxLen) (ht : t.size ≤ maxLen) (o : OpM) (hk : o.kind = 1) (ha : o.a = toL s) (hb : o.b = toL t) (h : Liv K w0 w p d) (hl : d.L.length ≤ 1000000) :
    Calls Try.prog 38 #[pt p, .string s, .string t] w fun e w' => e = .returned (.int .i64 (doM d o).2) ∧ Liv K w0 w' p (doM d o).1 := h.step (h.ok.do o) fun S _ hS => append_any s t hs ht o hk ha hb w p S d h.ok hl hS
theorem liv_sync (s : ByteArray) (hs : s.size ≤ maxLen) (o : OpM) (hk : o.kind = 2) (ha : o.a = toL s) (h : Liv K w0 w p d) (hl : d.L.length ≤ 1000000) :
    Calls Try.prog 39 #[pt p, .string s] w fun e w' => e = .returned (.int .i64 (doM d o).2) ∧ Liv K w0 w' p (doM d o).1 := h.step (h.ok.do o) fun S _ hS => sync_any s hs o hk ha w p S d h.ok hl hS
theorem liv_rename (s t : ByteArray) (hs : s.size ≤ maxLen) (ht : t.size ≤ maxLen) (o : OpM) (hk : o.kind = 3) (ha : o.a = toL s) (hb : o.b = toL t) (h : Liv K w0 w p d) (hl : d.L.length ≤ 1000000) :
    Calls Try.prog 40 #[pt p, .string s, .string t] w fun e w' => e = .returned (.int .i64 (doM d o).2) ∧ Liv K w0 w' p (doM d o).1 := h.step (h.ok.do o) fun S _ hS => rename_any s t hs ht o hk ha hb w p S d h.ok hl hS
theorem liv_delete (s : ByteArray) (hs : s.size ≤ maxLen) (o : OpM) (hk : o.kind = 4) (ha : o.a = toL s) (h : Liv K w0 w p d) :
    Calls Try.prog 41 #[pt p, .string s] w fun e w' => e = .returned (.int .i64 (doM d o).2) ∧ Liv K w0 w' p (doM d o).1 := h.step (h.ok.do o) fun S _ hS => delete_any s hs o hk ha w p S d h.ok hS
theorem readD_ok (h : Ok d) (n : Nm) (x : Int) : Ok (readD d n x) := by
  unfold readD
  split
  · exact h
  · exact ⟨h.rise, h.names, h.room, h.most, h.fuse⟩
theorem liv_read (s : ByteArray) (hs : s.size ≤ maxLen) (x : Int) (h : Liv K w0 w p d) :
    Calls Try.prog 20 #[pt p, .string s, .int .i64 x] w fun e w' => e = .returned (.tuple #[.string (tx (readT d (toL s) x)), .int .i64 (readE d (toL s) x)]) ∧ Liv K w0 w' p (readD d (toL s) x) :=
  h.step (readD_ok h.ok _ _) fun S _ hS => read_any s hs x w p S d h.ok hS
theorem liv_setFuse (n : Int) (hn : n ≤ 9223372036854775807) (h : Liv K w0 w p d) :
    Calls Try.prog 34 #[pt p, .int .i64 n] w fun e w' => e = .returned (.tuple #[]) ∧ Liv K w0 w' p { d with fuse := max n (-1) } :=
  h.step ⟨h.ok.rise, h.ok.names, h.ok.room, h.ok.most, by simp only; omega⟩ fun S _ hS => setFuse_any n w p S d hS
theorem liv_crash (keep : List Int) (ka : Option Addr) (kc : Nat) (hkc : keep.length ≤ kc) (hkm : kc ≤ maxLen) (h : Liv K w0 w p d) (hl : d.L.length ≤ 1000000) (hko : ∀ S, (∀ i, S i → K i ∧ i < w.heap.size) → DiskAt w p S d → Out S w ka (intV keep)) :
    Calls Try.prog 28 #[pt p, .slice ka keep.length kc] w fun e w' => e = .returned (.tuple #[]) ∧ Liv K w0 w' p (crashM d keep) :=
  h.step (h.ok.crash keep) fun S hK hS => crash_any keep ka kc hkc hkm w p S d h.ok hl hS (hko S (fun i hi => ⟨hK i hi, hS.lt i hi⟩) hS)
/-- a crash that keeps what a row of old says -/
theorem liv_crash_old (keep : List Int) (ka : Option Addr) (kc : Nat) (hkc : keep.length ≤ kc) (hkm : kc ≤ maxLen) (h : Liv K w0 w p d) (hl : d.L.length ≤ 1000000) (hs : Sl w0 ka (intV keep)) (hK : ∀ b, b < w0.heap.size → ¬ K b) :
    Calls Try.prog 28 #[pt p, .slice ka keep.length kc] w fun e w' => e = .returned (.tuple #[]) ∧ Liv K w0 w' p (crashM d keep) :=
  liv_crash keep ka kc hkc hkm h hl fun S hS _ j hj => by
    obtain ⟨b, off, e, h1, h2⟩ := hs j hj
    exact ⟨b, off, e, Nat.lt_of_lt_of_le h1 h.kept.size, fun e2 => hK b h1 (hS b e2).1, h.kept.cell h2 (hK b h1)⟩
/-- a crash that keeps what a row just made says -/
theorem liv_crash_lit (keep : List Int) (h : Liv K w0 w p d) (hl : d.L.length ≤ 1000000) (hk : keep.length ≤ maxLen) (xs : Array Value) (hxs : xs.toList = intV keep) (t : TypeId) (g n : Nat) (hg : g = w.heap.size) (hn : n = keep.length) :
    Calls Try.prog 28 #[pt p, .slice (some ⟨g, 0, none⟩) n n] (w.alloc (.cells xs t)) fun e w' => e = .returned (.tuple #[]) ∧ Liv K w0 w' p (crashM d keep) := by
  subst hg hn
  obtain ⟨S, hS, hK⟩ := h.ex
  have hb : Below w.heap.size w (w.alloc (.cells xs t)) := (Below.refl _ _).alloc (Nat.le_refl _) _
  refine (crash_any keep _ keep.length (Nat.le_refl _) hk _ p S d h.ok hl (hS.below hb) (Out.of_sl (hxs ▸ sl_lit w xs t) (fun b o e hb2 => by have := hS.lt b hb2; injection e with e; injection e with e; omega))).mono ?_
  rintro e w' ⟨h1, h2, h3⟩
  have hs : w.heap.size ≤ w'.heap.size := Nat.le_trans hb.size h3.size
  refine ⟨h1, h.new, ⟨Grow S (w.alloc (.cells xs t)) w', h2, fun i hi => ?_⟩, (h.alloc _).kept.trans h3 (fun i _ hi => hK i hi), h.ok.crash keep⟩
  rcases hi with hi | hi
  · exact hK i hi
  · exact h.new i (by have := h.kept.size; have := hb.size; omega)
theorem liv_loose (s : ByteArray) (hs : s.size ≤ maxLen) (h : Liv K w0 w p d) : Calls Try.prog 26 #[pt p, .string s] w fun e w' => e = .returned (.int .i64 (looseN d.L (toL s) : Int)) ∧ Liv K w0 w' p d := h.ask fun S hS => loose_any s hs w p S d hS
theorem liv_size (s : ByteArray) (hs : s.size ≤ maxLen) (h : Liv K w0 w p d) : Calls Try.prog 22 #[pt p, .string s] w fun e w' => e = .returned (.tuple #[.int .i64 (sizeN d.L (toL s) : Int), .bool (hasL d.L (toL s))]) ∧ Liv K w0 w' p d := h.ask fun S hS => size_any s hs w p S d hS
theorem liv_used (h : Liv K w0 w p d) : Calls Try.prog 32 #[pt p] w fun e w' => e = .returned (.int .i64 (usedL d.L : Int)) ∧ w' = w := by
  obtain ⟨S, hS, _⟩ := h.ex
  exact used_any w p S d hS
theorem liv_limit (h : Liv K w0 w p d) : Calls Try.prog 36 #[pt p] w fun e w' => e = .returned (.int .i64 d.limit) ∧ w' = w := by
  obtain ⟨S, hS, _⟩ := h.ex
  exact limit_any w p S d hS
theorem liv_ops (h : Liv K w0 w p d) : Calls Try.prog 35 #[pt p] w fun e w' => e = .returned (.int .i64 d.ops) ∧ w' = w := by
  obtain ⟨S, hS, _⟩ := h.ex
  exact ops_any w p S d hS
theorem liv_reads (h : Liv K w0 w p d) : Calls Try.prog 18 #[pt p] w fun e w' => e = .returned (.int .i64 d.reads) ∧ w' = w := by
  obtain ⟨S, hS, _⟩ := h.ex
  exact reads_any w p S d hS
theorem liv_down (h : Liv K w0 w p d) : Calls Try.prog 29 #[pt p] w fun e w' => e = .returned (.bool d.down) ∧ w' = w := by
  obtain ⟨S, hS, _⟩ := h.ex
  exact down_any w p S d hS
theorem liv_files (h : Liv K w0 w p d) (hl : d.L.length ≤ 1000000) : Calls Try.prog 30 #[pt p] w fun e w' => ∃ v, e = .returned v ∧ w'.ownsRow w.heap.size 9 1 v d.L.length (nameV d.L) ∧ Below w.heap.size w w' := by
  obtain ⟨S, hS, _⟩ := h.ex
  exact files_any w p S d h.ok hl hS
/-- a copy stands apart; and from there on the disk changes nothing of the copy -/
theorem liv_copy (h : Liv K w0 w p d) (hl : d.L.length ≤ 1000000) : Calls Try.prog 37 #[pt p] w fun e w' => ∃ q T, e = .returned (.pointer (some ⟨q, 0, none⟩)) ∧ DiskAt w' q T d ∧ (∀ i, T i → w.heap.size ≤ i) ∧ Liv K w0 w' p d ∧ Liv (fun i => K i ∧ ¬ T i) w' w' p d := by
  obtain ⟨S, hS, hK⟩ := h.ex
  refine (copy_any w p S d h.ok hl hS).mono ?_
  rintro e w' ⟨q, T, h1, h2, h3, h4⟩
  refine ⟨q, T, h1, h2, h3, h.below h4, fun i hi => ⟨h.new i (Nat.le_trans h.kept.size (Nat.le_trans h4.size hi)), fun hT => by have := h2.lt i hT; omega⟩, ⟨S, hS.below h4, fun i hi => ⟨hK i hi, fun hT => by have := h3 i hT; have := hS.lt i hi; omega⟩⟩, Kept.refl _ _, h.ok⟩
end Go.Proofs.Ytammmhbkfdmbfaa
