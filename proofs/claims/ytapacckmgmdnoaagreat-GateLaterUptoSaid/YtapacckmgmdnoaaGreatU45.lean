/- Texts of mine, one behind the other, of each what is wanted. -/
import Derived.Test.YtapacckmgmdnoaaGreatU00
import Derived.Test.YtapacckmgmdnoaaGreatShelf
import Derived.Test.YtapacckmgmdnoaaGreatRows
import Derived.Test.YtapacckmgmdnoaaGreatU01
import Derived.Test.YtapacckmgmdnoaaGreatU02
import Derived.Test.YtapacckmgmdnoaaGreatU07
import Derived.Test.YtapacckmgmdnoaaGreatU09
import Derived.Test.YtapacckmgmdnoaaGreatU11
import Derived.Test.YtapacckmgmdnoaaGreatU16
import Derived.Test.YtapacckmgmdnoaaGreatU35
import Derived.Test.YtapacckmgmdnoaaGreatU36
namespace Go.Proofs.YtapacckmgmdnoaaGreat
set_option linter.unusedVariables false
set_option maxRecDepth 100000
theorem rows_norm (q : List SpM) (hq : NormL q) : ∀ {r : List SpM}, NormL r → NormL (r.flatMap fun s => rowOf s q)
 | [], _ => NormL.nil
 | s :: r, h => by
  have ih := rows_norm q hq h.tail
  rw [List.flatMap_cons]
  have hin : ∀ u ∈ rowOf s q, u.t ≤ s.t := fun u hu => by
   obtain ⟨o, _, rfl, _⟩ := rowOf_mem hu
   show min s.t o.t ≤ s.t
   omega
  have hout : ∀ u ∈ r.flatMap (fun s => rowOf s q), s.t < u.f := fun u hu => by
   obtain ⟨o, ho, hu⟩ := List.mem_flatMap.1 hu
   obtain ⟨n, _, rfl, _⟩ := rowOf_mem hu
   have := h.1.2.1 o ho
   show s.t < max o.f n.f
   omega
  have key : ∀ (A B : List SpM), NormL A → NormL B → (∀ u ∈ A, u.t ≤ s.t) → (∀ u ∈ B, s.t < u.f) → NormL (A ++ B) := by
   intro A
   induction A with
   | nil => intro B _ hB _ _; exact hB
   | cons u A ihA =>
    intro B hA hB h1 h2
    have h3 := ihA B hA.tail hB (fun v hv => h1 v (List.mem_cons_of_mem _ hv)) h2
    refine ⟨⟨hA.1.1, fun v hv => ?_, h3.1⟩, fun v hv => ?_⟩
    ·rcases List.mem_append.1 hv with hv | hv
     ·exact hA.1.2.1 v hv
     ·have := h2 v hv
      have := h1 u (by simp)
      omega
    ·rcases List.mem_cons.1 hv with rfl | hv
     ·exact hA.2 v (by simp)
     ·exact h3.2 v hv
  exact key _ _ (rowOf_norm s hq) ih hin hout
theorem rows_has (q : List SpM) (x : Int) (r : List SpM) : HasL (r.flatMap fun s => rowOf s q) x ↔ HasL r x ∧ HasL q x := by
 constructor
 ·rintro ⟨u, hu, h1⟩
  obtain ⟨s, hs, hu⟩ := List.mem_flatMap.1 hu
  have := (rowOf_has s x).1 ⟨u, hu, h1⟩
  exact ⟨⟨s, hs, this.1⟩, this.2⟩
 ·rintro ⟨⟨s, hs, h1⟩, h2⟩
  obtain ⟨u, hu, h3⟩ := (rowOf_has s x).2 ⟨h1, h2⟩
  exact ⟨u, List.mem_flatMap.2 ⟨s, hs, hu⟩, h3⟩
theorem pieces_twice {P Q : Int → Prop} {r q z : List SpM} (hr : IsSet P r) (hq : IsSet Q q) (hz : IsSet (fun x => P x ∧ Q x) z) (x : StM) : rawS (piecesS x r) q = piecesS x z := by
 unfold rawS piecesS
 rw [List.flatMap_map]
 have e : ∀ m : SpM, (rowOf (ofSp x m).sp q).map (ofSp (ofSp x m)) = (rowOf m q).map (ofSp x) := fun m => rfl
 simp only [e]
 rw [← List.map_flatMap]
 congr 1
 have h1 : IsSet (fun y => (x.sp.f ≤ y ∧ y < x.sp.t) ∧ (P y ∧ Q y)) ((rowOf x.sp r).flatMap fun s => rowOf s q) := by
  refine ⟨rows_norm q hq.1 (rowOf_norm _ hr.1), fun y => ?_⟩
  rw [rows_has, rowOf_has, hr.2, hq.2, and_assoc]
 exact h1.only (rowOf_set hz)
theorem raw_twice {P Q : Int → Prop} {r q z : List SpM} (hr : IsSet P r) (hq : IsSet Q q) (hz : IsSet (fun x => P x ∧ Q x) z) (l : List StM) : rawS (rawS l r) q = rawS l z := by
 induction l with
 | nil => rfl
 | cons x l ih =>
  have h1 : rawS (x :: l) r = piecesS x r ++ rawS l r := by simp [rawS]
  have h2 : rawS (x :: l) z = piecesS x z ++ rawS l z := by simp [rawS]
  have h3 : ∀ a b : List StM, rawS (a ++ b) q = rawS a q ++ rawS b q := fun a b => by simp [rawS]
  rw [h1, h2, h3, ih, pieces_twice hr hq hz]
end Go.Proofs.YtapacckmgmdnoaaGreat
namespace Go.Proofs.YtapacckmgmdnoaaGreat
open Go.RowKit Go.Proofs
set_option linter.unusedVariables false
set_option maxRecDepth 100000
structure FrP (P : Nat → Prop) (T W : World) : Prop where
 size : T.heap.size ≤ W.heap.size
 blk : ∀ b, b < T.heap.size → ¬ P b → W.heap[b]? = T.heap[b]?
theorem FrP.refl (P : Nat → Prop) (T : World) : FrP P T T := ⟨Nat.le_refl _, fun _ _ _ => rfl⟩
theorem FrP.cell {P : Nat → Prop} {T W : World} (h : FrP P T W) {p : Addr} (hl : p.block < T.heap.size) (hn : ¬ P p.block) : W.cell? p = T.cell? p := by
 unfold World.cell?
 rw [h.blk _ hl hn]
def FarA (P : Nat → Prop) (y : SaL) (T : World) : Prop := ∀ W, FrP P T W → SaAt W y
section
variable {P Q : Nat → Prop} {y : SaL} {T T' : World}
theorem FarA.at_ (h : FarA P y T) : SaAt T y := h T (FrP.refl _ _)
theorem FarA.below (h : FarA P y T) (q : Below T.heap.size T T') : FarA P y T' := fun W f =>
 h W ⟨Nat.le_trans q.size f.size, fun b hb hn => (f.blk b (Nat.lt_of_lt_of_le hb q.size) hn).trans (q.block b hb)⟩
theorem FarA.mono (h : FarA P y T) (k : ∀ b, Q b → P b) : FarA Q y T := fun W f => h W ⟨f.size, fun b hb hn => f.blk b hb fun hq => hn (k b hq)⟩
theorem FarA.set (h : FarA P y T) {g : Nat} (hg : P g) (i : Nat) (v : Value) : FarA P y (T.setCell ⟨g, i, none⟩ v) := fun W f =>
 h W ⟨by have := f.size; rw [size_set] at this; exact this, fun b hb hn => (f.blk b (by rw [size_set]; exact hb) hn).trans (block_far (fun e => hn (e ▸ hg)))⟩
theorem FarA.setS (h : FarA P y T) {g : Nat} (hg : P g) (z : SaL) : FarA P y (setS T g z) := by
 unfold Go.Proofs.YtapacckmgmdnoaaGreat.setS
 exact (((((h.set hg _ _).set hg _ _).set hg _ _).set hg _ _).set hg _ _).set hg _ _
end
def ask0 : AskM := ⟨⟨#[]⟩, ⟨#[]⟩, 0, 0, 0⟩
theorem ask_get (j : Nat) : (askC ask0)[j]? = some (.string ⟨#[]⟩) ∧ j ≤ 1 ∨ (askC ask0)[j]? = some (.int .i64 0) ∧ 2 ≤ j ∧ j ≤ 4 ∨ (askC ask0)[j]? = none := by
 match j with
 | 0 => exact .inl ⟨rfl, by omega⟩
 | 1 => exact .inl ⟨rfl, by omega⟩
 | 2 => exact .inr (.inl ⟨rfl, by omega, by omega⟩)
 | 3 => exact .inr (.inl ⟨rfl, by omega, by omega⟩)
 | 4 => exact .inr (.inl ⟨rfl, by omega, by omega⟩)
 | j + 5 => exact .inr (.inr (by simp [askC]))
def Bad (P : Nat → Prop) (T : World) : Prop := ∀ b, P b → T.heap.size ≤ b ∨ (∃ t, T.heap[b]? = some (.cells (saC saO) t (0, 0))) ∨ (∃ t, T.heap[b]? = some (.cells (askC ask0) t (0, 0)))
theorem bad_string {P : Nat → Prop} {T : World} (h : Bad P T) {b j : Nat} {s : ByteArray} (hb : P b) (e : T.cell? ⟨b, j, none⟩ = some (.string s)) : s = ⟨#[]⟩ := by
 rcases h b hb with k | ⟨t, k⟩ | ⟨t, k⟩
 ·have k2 : T.heap[b]? = none := Array.getElem?_eq_none k
  simp [World.cell?, k2] at e
 ·exact absurd e (six_string k)
 ·rw [cell_of_row _ _ _ _ _ (0, 0) k] at e
  rcases ask_get j with ⟨h1, _⟩ | ⟨h1, _⟩ | h1
  ·rw [h1] at e
   injection e with e
   injection e with e
   exact e.symm
  ·rw [h1] at e; cases e
  ·rw [h1] at e; cases e
theorem bad_int {P : Nat → Prop} {T : World} (h : Bad P T) {b j : Nat} {m n : Int} (hb : P b) (e : T.cell? ⟨b, j, none⟩ = some (.int .i64 m)) (e3 : T.cell? ⟨b, j + 3, none⟩ = some (.int .i64 n)) : False := by
 rcases h b hb with k | ⟨t, k⟩ | ⟨t, k⟩
 ·have k2 : T.heap[b]? = none := Array.getElem?_eq_none k
  simp [World.cell?, k2] at e
 ·have := six_int k e3
  omega
 ·rw [cell_of_row _ _ _ _ _ (0, 0) k] at e e3
  rcases ask_get j with ⟨h1, _⟩ | ⟨h1, _, _⟩ | h1
  ·rw [h1] at e; cases e
  ·rcases ask_get (j + 3) with ⟨h2, _⟩ | ⟨h2, _, _⟩ | h2
   ·omega
   ·omega
   ·rw [h2] at e3; cases e3
  ·rw [h1] at e; cases e
theorem nameO_nil : nameO ⟨#[]⟩ = false := by decide
theorem StSl.frP {P : Nat → Prop} {T W : World} (hP : Bad P T) {a : Option Addr} {l : List StM} (ho : StSl T a l) (f : FrP P T W) : StSl W a l := fun k hk => by
 obtain ⟨b, off, e, hlt, h0, h1, h2, h3⟩ := ho k hk
 have hn : ¬ P b := fun hb => bad_int hP hb h0 h3
 exact ⟨b, off, e, Nat.lt_of_lt_of_le hlt f.size, (f.cell (p := ⟨b, off + k * 4, none⟩) hlt hn).trans h0, (f.cell (p := ⟨b, off + k * 4 + 1, none⟩) hlt hn).trans h1, (f.cell (p := ⟨b, off + k * 4 + 2, none⟩) hlt hn).trans h2, (f.cell (p := ⟨b, off + k * 4 + 3, none⟩) hlt hn).trans h3⟩
theorem PpSl.frP {P : Nat → Prop} {T W : World} (hP : Bad P T) {a : Option Addr} {l : List (Value × Value)} (hs : ∀ y ∈ l, ∃ s, y.1 = .string s ∧ s ≠ ⟨#[]⟩) (ho : PpSl T a l) (f : FrP P T W) : PpSl W a l := fun k hk => by
 obtain ⟨b, off, e, hlt, h0, h1⟩ := ho k hk
 have hn : ¬ P b := fun hb => by
  obtain ⟨s, hs, hne⟩ := hs _ (List.getElem_mem hk)
  rw [hs] at h0
  exact hne (bad_string hP hb h0)
 exact ⟨b, off, e, Nat.lt_of_lt_of_le hlt f.size, (f.cell (p := ⟨b, off + k * 2, none⟩) hlt hn).trans h0, (f.cell (p := ⟨b, off + k * 2 + 1, none⟩) hlt hn).trans h1⟩
theorem far_new {P : Nat → Prop} {T : World} {y : SaL} (h : SaAt T y) (hr : RightS y.m) (hP : Bad P T) : FarA P y T := fun W f => by
 refine ⟨fun k hk => ?_, ⟨PpSl.frP hP (fun z hz => ?_) h.us.row f, fun z hz => ⟨(h.us.at_ z hz).st.frP hP f, (h.us.at_ z hz).le, (h.us.at_ z hz).mx, (h.us.at_ z hz).nil⟩⟩, fun k hk => ?_, PpSl.frP hP (fun z hz => ?_) h.tb f, h.oc, h.uc, h.sc, h.tc⟩
 ·obtain ⟨b, off, e, hlt, h0, h1, h2, h3⟩ := h.op k hk
  have hn : ¬ P b := fun hb => by
   have e1 := bad_string hP hb h1
   have e2 : nameO y.op[k].u = true := (riseO_iff.1 hr.op).2.1 _ (List.getElem_mem hk) |>.1
   rw [e1, nameO_nil] at e2
   cases e2
  exact ⟨b, off, e, Nat.lt_of_lt_of_le hlt f.size, (f.cell (p := ⟨b, off + k * 4, none⟩) hlt hn).trans h0, (f.cell (p := ⟨b, off + k * 4 + 1, none⟩) hlt hn).trans h1, (f.cell (p := ⟨b, off + k * 4 + 2, none⟩) hlt hn).trans h2, (f.cell (p := ⟨b, off + k * 4 + 3, none⟩) hlt hn).trans h3⟩
 ·obtain ⟨x, hx, rfl⟩ := List.mem_map.1 hz
  refine ⟨x.u, rfl, fun e => ?_⟩
  have e2 : nameB x.m.u = true := (hr.us x.m (List.mem_map.2 ⟨x, hx, rfl⟩)).1
  rw [show x.m.u = x.u from rfl, e, nameB_nil] at e2
  cases e2
 ·obtain ⟨b, off, e, hlt, h0, h1, h2, h3⟩ := h.su k hk
  have hn : ¬ P b := fun hb => by
   have e1 := bad_string hP hb h0
   have e2 : nameB y.su[k].w = true := ((riseE_iff.1 hr.su.rise).1 _ (List.getElem_mem hk)).2.1
   rw [e1, nameB_nil] at e2
   cases e2
  exact ⟨b, off, e, Nat.lt_of_lt_of_le hlt f.size, (f.cell (p := ⟨b, off + k * 4, none⟩) hlt hn).trans h0, (f.cell (p := ⟨b, off + k * 4 + 1, none⟩) hlt hn).trans h1, (f.cell (p := ⟨b, off + k * 4 + 2, none⟩) hlt hn).trans h2, (f.cell (p := ⟨b, off + k * 4 + 3, none⟩) hlt hn).trans h3⟩
 ·obtain ⟨x, hx, rfl⟩ := List.mem_map.1 hz
  refine ⟨x.u, rfl, fun e => ?_⟩
  have e2 : nameB x.u = true := (hr.tb x hx).1
  rw [e, nameB_nil] at e2
  cases e2
def setQ (W : World) (g : Nat) (q : AskM) : World := ((((W.setCell ⟨g, 0, none⟩ (.string q.w)).setCell ⟨g, 1, none⟩ (.string q.u)).setCell ⟨g, 2, none⟩ (.int .i64 q.f)).setCell ⟨g, 3, none⟩ (.int .i64 q.t)).setCell ⟨g, 4, none⟩ (.int .i64 q.n)
section
variable {w W : World} {g : Nat} {T : TypeId} {q : AskM}
theorem QB.setW (h : QB w g T q W) (s : ByteArray) : QB w g T { q with w := s } (W.setCell ⟨g, 0, none⟩ (.string s)) := ⟨heap_setCell_at h.blk 0 _, h.ge, h.frame.setCell (p := ⟨g, 0, none⟩) h.ge _⟩
theorem QB.setU (h : QB w g T q W) (s : ByteArray) : QB w g T { q with u := s } (W.setCell ⟨g, 1, none⟩ (.string s)) := ⟨heap_setCell_at h.blk 1 _, h.ge, h.frame.setCell (p := ⟨g, 1, none⟩) h.ge _⟩
theorem QB.setF (h : QB w g T q W) (n : Int) : QB w g T { q with f := n } (W.setCell ⟨g, 2, none⟩ (.int .i64 n)) := ⟨heap_setCell_at h.blk 2 _, h.ge, h.frame.setCell (p := ⟨g, 2, none⟩) h.ge _⟩
theorem QB.setT (h : QB w g T q W) (n : Int) : QB w g T { q with t := n } (W.setCell ⟨g, 3, none⟩ (.int .i64 n)) := ⟨heap_setCell_at h.blk 3 _, h.ge, h.frame.setCell (p := ⟨g, 3, none⟩) h.ge _⟩
theorem QB.setN (h : QB w g T q W) (n : Int) : QB w g T { q with n := n } (W.setCell ⟨g, 4, none⟩ (.int .i64 n)) := ⟨heap_setCell_at h.blk 4 _, h.ge, h.frame.setCell (p := ⟨g, 4, none⟩) h.ge _⟩
theorem QB.free (h : QB w g T q W) : W.frozen? ⟨g, 0, none⟩ = false ∧ W.frozen? ⟨g, 1, none⟩ = false ∧ W.frozen? ⟨g, 2, none⟩ = false ∧ W.frozen? ⟨g, 3, none⟩ = false ∧ W.frozen? ⟨g, 4, none⟩ = false :=
 ⟨frozen_of_row _ _ 0 _ _ h.blk, frozen_of_row _ _ 1 _ _ h.blk, frozen_of_row _ _ 2 _ _ h.blk, frozen_of_row _ _ 3 _ _ h.blk, frozen_of_row _ _ 4 _ _ h.blk⟩
end
structure SQE (w : World) (x : SaL) (q : AskM) (hi : Nat) (ob : Option Obj) (W : World) : Prop where
 at_ : SaAt w x
 k : SQ w w.heap.size (w.heap.size + 1) 27 86 x q W
 lo : w.heap.size + 1 < hi
 up : hi ≤ W.heap.size
 e : ∀ o, ob = some o → w.heap.size + 2 < hi ∧ W.heap[w.heap.size + 2]? = some o
section
variable {w W W' : World} {x y : SaL} {q a : AskM} {ga gb hi : Nat} {ob : Option Obj}
theorem SQE.below (h : SQE w x q hi ob W) (b : Below W.heap.size W W') : SQE w x q hi ob W' := ⟨h.at_, h.k.below b, h.lo, Nat.le_trans h.up b.size, fun o e => ⟨(h.e o e).1, (b.block _ (heap_lt (h.e o e).2)).trans (h.e o e).2⟩⟩
theorem SQE.drew (h : SQE w x q hi ob W) : SQE w x q hi ob W.drew := h.below (Below.refl _ _).drew
theorem SQE.set (h : SQE w x q hi ob W) {g : Nat} (hg : hi ≤ g) (i : Nat) (v : Value) : SQE w x q hi ob (W.setCell ⟨g, i, none⟩ v) := by
 have hlo := h.lo
 have hb : Below w.heap.size w (W.setCell ⟨g, i, none⟩ v) := h.k.s.frame.setCell (p := ⟨g, i, none⟩) (by show w.heap.size ≤ g; omega) _
 exact ⟨h.at_, ⟨⟨(block_far (by omega)).trans h.k.s.blk, h.k.s.ge, hb, h.at_.below hb⟩, ⟨(block_far (by omega)).trans h.k.q.blk, h.k.q.ge, hb⟩⟩, hlo, by rw [size_set]; exact h.up, fun o e => ⟨(h.e o e).1, (block_far (by have := (h.e o e).1; omega)).trans (h.e o e).2⟩⟩
theorem SQE.setS (h : SQE w x q hi ob W) {g : Nat} (hg : hi ≤ g) (y : SaL) : SQE w x q hi ob (setS W g y) := by
 unfold Go.Proofs.YtapacckmgmdnoaaGreat.setS
 exact (((((h.set hg _ _).set hg _ _).set hg _ _).set hg _ _).set hg _ _).set hg _ _
end
structure GNK (w : World) (x : SaL) (q : AskM) (hi : Nat) (ob : Option Obj) (ga : Nat) (y : SaL) (gb : Nat) (a : AskM) (W : World) : Prop where
 k : SQE w x q hi ob W
 hy : W.heap[ga]? = some (.cells (saC y) 39 (0, 0))
 far : FarA (fun b => b = ga ∨ b = gb) y W
 ha : QB w gb 92 a W
 ge : hi ≤ ga
 hb : hi ≤ gb
 ne : ga ≠ gb
section
variable {w W W' : World} {x y : SaL} {q a : AskM} {ga gb hi : Nat} {ob : Option Obj}
theorem GNK.below (h : GNK w x q hi ob ga y gb a W) (b : Below W.heap.size W W') : GNK w x q hi ob ga y gb a W' := ⟨h.k.below b, (b.block _ (heap_lt h.hy)).trans h.hy, h.far.below b, h.ha.below b, h.ge, h.hb, h.ne⟩
theorem GNK.cells (h : GNK w x q hi ob ga y gb a W) : W.cell? ⟨ga, 0, none⟩ = some (.int .i64 y.now) ∧ W.cell? ⟨ga, 1, none⟩ = some (.int .i64 y.hor) ∧ W.cell? ⟨ga, 2, none⟩ = some (.slice y.oa y.op.length y.oc) ∧ W.cell? ⟨ga, 3, none⟩ = some (.slice y.ua y.us.length y.uc) ∧ W.cell? ⟨ga, 4, none⟩ = some (.slice y.sa y.su.length y.sc) ∧ W.cell? ⟨ga, 5, none⟩ = some (.slice y.ta y.tb.length y.tc) ∧ W.cell? ⟨gb, 0, none⟩ = some (.string a.w) ∧ W.cell? ⟨gb, 1, none⟩ = some (.string a.u) ∧ W.cell? ⟨gb, 2, none⟩ = some (.int .i64 a.f) ∧ W.cell? ⟨gb, 3, none⟩ = some (.int .i64 a.t) ∧ W.cell? ⟨gb, 4, none⟩ = some (.int .i64 a.n) :=
 ⟨cell_of_row _ _ _ _ _ _ h.hy, cell_of_row _ _ _ _ _ _ h.hy, cell_of_row _ _ _ _ _ _ h.hy, cell_of_row _ _ _ _ _ _ h.hy, cell_of_row _ _ _ _ _ _ h.hy, cell_of_row _ _ _ _ _ _ h.hy, h.ha.cells⟩
theorem GNK.setN (h : GNK w x q hi ob ga y gb a W) (n : Int) : GNK w x q hi ob ga y gb { a with n := n } (W.setCell ⟨gb, 4, none⟩ (.int .i64 n)) :=
 ⟨h.k.set h.hb _ _, (block_far h.ne).trans h.hy, h.far.set (Or.inr rfl) _ _, h.ha.setN n, h.ge, h.hb, h.ne⟩
theorem GNK.setF (h : GNK w x q hi ob ga y gb a W) (n : Int) : GNK w x q hi ob ga y gb { a with f := n } (W.setCell ⟨gb, 2, none⟩ (.int .i64 n)) :=
 ⟨h.k.set h.hb _ _, (block_far h.ne).trans h.hy, h.far.set (Or.inr rfl) _ _, h.ha.setF n, h.ge, h.hb, h.ne⟩
theorem GNK.setT (h : GNK w x q hi ob ga y gb a W) (n : Int) : GNK w x q hi ob ga y gb { a with t := n } (W.setCell ⟨gb, 3, none⟩ (.int .i64 n)) :=
 ⟨h.k.set h.hb _ _, (block_far h.ne).trans h.hy, h.far.set (Or.inr rfl) _ _, h.ha.setT n, h.ge, h.hb, h.ne⟩
theorem GNK.setW (h : GNK w x q hi ob ga y gb a W) (s : ByteArray) : GNK w x q hi ob ga y gb { a with w := s } (W.setCell ⟨gb, 0, none⟩ (.string s)) :=
 ⟨h.k.set h.hb _ _, (block_far h.ne).trans h.hy, h.far.set (Or.inr rfl) _ _, h.ha.setW s, h.ge, h.hb, h.ne⟩
theorem GNK.setU (h : GNK w x q hi ob ga y gb a W) (s : ByteArray) : GNK w x q hi ob ga y gb { a with u := s } (W.setCell ⟨gb, 1, none⟩ (.string s)) :=
 ⟨h.k.set h.hb _ _, (block_far h.ne).trans h.hy, h.far.set (Or.inr rfl) _ _, h.ha.setU s, h.ge, h.hb, h.ne⟩
theorem GNK.setQ (h : GNK w x q hi ob ga y gb a W) (p : AskM) : GNK w x q hi ob ga y gb p (setQ W gb p) := ((((h.setW p.w).setU p.u).setF p.f).setT p.t).setN p.n
end
structure FkN (w : World) (x : SaL) (q : AskM) (hi : Nat) (ob : Option Obj) (ga : Nat) (y : SaL) (gb : Nat) (T : World) : Prop where
 k : SQE w x q hi ob T
 za : T.heap[ga]? = some (.cells (saC saO) 39 (0, 0))
 zb : T.heap[gb]? = some (.cells (askC ask0) 92 (0, 0))
 far : FarA (fun b => b = ga ∨ b = gb) y T
 m : y.m = x.m
 ge : hi ≤ ga
 hb : hi ≤ gb
 ne : ga ≠ gb
theorem heap_setS {W : World} {g : Nat} {x y : SaL} {t : TypeId} (h : W.heap[g]? = some (.cells (saC x) t (0, 0))) : (setS W g y).heap[g]? = some (.cells (saC y) t (0, 0)) := by
 unfold setS
 exact heap_setCell_at (heap_setCell_at (heap_setCell_at (heap_setCell_at (heap_setCell_at (heap_setCell_at h 0 _) 1 _) 2 _) 3 _) 4 _) 5 _
theorem far_setS {W : World} {g b : Nat} {y : SaL} (h : b ≠ g) : (setS W g y).heap[b]? = W.heap[b]? := by
 unfold setS
 exact (block_far h).trans ((block_far h).trans ((block_far h).trans ((block_far h).trans ((block_far h).trans (block_far h)))))
theorem FkN.setS {w T : World} {x y : SaL} {q : AskM} {ga gb hi : Nat} {ob : Option Obj} (h : FkN w x q hi ob ga y gb T) : GNK w x q hi ob ga y gb ask0 (setS T ga y) :=
 have k := h.k.setS h.ge y
 ⟨k, heap_setS h.za, h.far.setS (Or.inl rfl) y, ⟨(far_setS (Ne.symm h.ne)).trans h.zb, by have := h.hb; have := h.k.lo; omega, k.k.s.frame⟩, h.ge, h.hb, h.ne⟩
theorem ask_get2 (q : AskM) (j : Nat) : (∃ s, (askC q)[j]? = some (.string s)) ∧ j ≤ 1 ∨ (∃ n, (askC q)[j]? = some (.int .i64 n)) ∧ 2 ≤ j ∧ j ≤ 4 ∨ (askC q)[j]? = none := by
 match j with
 | 0 => exact .inl ⟨⟨_, rfl⟩, by omega⟩
 | 1 => exact .inl ⟨⟨_, rfl⟩, by omega⟩
 | 2 => exact .inr (.inl ⟨⟨_, rfl⟩, by omega, by omega⟩)
 | 3 => exact .inr (.inl ⟨⟨_, rfl⟩, by omega, by omega⟩)
 | 4 => exact .inr (.inl ⟨⟨_, rfl⟩, by omega, by omega⟩)
 | j + 5 => exact .inr (.inr (by simp [askC]))
theorem qb_st {w W : World} {g : Nat} {T : TypeId} {q : AskM} (h : QB w g T q W) {a : Option Addr} {l : List StM} (ho : StSl W a l) (i : Nat) (v : Value) : StSl (W.setCell ⟨g, i, none⟩ v) a l := fun k hk => by
 obtain ⟨b, off, e, hlt, h0, h1, h2, h3⟩ := ho k hk
 have hn : b ≠ g := fun hb => by
  subst hb
  rw [cell_of_row _ _ _ _ _ (0, 0) h.blk] at h0 h3
  rcases ask_get2 q (off + k * 4) with ⟨⟨s, h4⟩, _⟩ | ⟨_, h4, _⟩ | h4
  ·rw [h4] at h0; cases h0
  ·rcases ask_get2 q (off + k * 4 + 3) with ⟨_, h5⟩ | ⟨_, _, h5⟩ | h5
   ·omega
   ·omega
   ·rw [h5] at h3; cases h3
  ·rw [h4] at h0; cases h0
 exact ⟨b, off, e, by rw [size_set]; exact hlt, (cell_far (p := ⟨b, off + k * 4, none⟩) hn).trans h0, (cell_far (p := ⟨b, off + k * 4 + 1, none⟩) hn).trans h1, (cell_far (p := ⟨b, off + k * 4 + 2, none⟩) hn).trans h2, (cell_far (p := ⟨b, off + k * 4 + 3, none⟩) hn).trans h3⟩
end Go.Proofs.YtapacckmgmdnoaaGreat
