/- Texts of mine, one behind the other, of each what is wanted: DB0 DB2 DB3 BA7. -/
import Derived.Test.YtjhdhfokhkcamaaGreatProg
import Derived.WalkKit
import Derived.WalkLawsBesides
import Derived.Lib.Hide
import Derived.Lib.Bytealg
import Derived.Deep.QuietTactic
import Derived.BigQuiet
import Derived.Deep.Draws
import Derived.Below
import Derived.WalkSmall
import Derived.OwnWalk
import Derived.Maps.AppendAt
import Derived.Laws.AppendOwnNone
import Derived.BigRegion
import Derived.Deep.MidRow
import Derived.Deep.RegionHeld3
import Derived.Shelf.SlSortCmp.QuietGrown
import Derived.Shelf.SlSorted.Search
import Derived.Laws.ResultCell
import Derived.WalkMore
import Derived.Shelf.Spec.SlicesGrow
import Derived.Test.YtjhdhfokhkcamaaGreatShelf
import Derived.Shelf.SlicesG.Cmp
import Derived.Test.YtjhdhfokhkcamaaGreatP01
import Derived.Test.YtjhdhfokhkcamaaGreatP09
import Derived.Test.YtjhdhfokhkcamaaGreatP10
import Derived.Test.YtjhdhfokhkcamaaGreatP11
namespace Go.Proofs.YtjhdhfokhkcamaaGreat
open Go.RowKit
set_option linter.unusedVariables false
set_option maxRecDepth 100000
def pps (l : List (Value × Value)) : List Value := l.flatMap fun x => [x.1, x.2]
theorem pps_cons (s : Value × Value) (l : List (Value × Value)) : pps (s :: l) = [s.1, s.2] ++ pps l := by simp [pps]
theorem pps_len (l : List (Value × Value)) : (pps l).length = l.length * 2 := by
  induction l with
  | nil => rfl
  | cons e l ih => rw [pps_cons, List.length_append, ih, List.length_cons]; simp only [List.length_cons, List.length_nil]; omega
theorem pps_append (l m : List (Value × Value)) : pps (l ++ m) = pps l ++ pps m := by simp [pps]
theorem pps_snoc (l : List (Value × Value)) (x : Value × Value) : pps (l ++ [x]) = pps l ++ [x.1, x.2] := by simp [pps]
theorem pps_get (l : List (Value × Value)) : ∀ (k : Nat) (h : k < l.length), (pps l)[k * 2]? = some l[k].1 ∧ (pps l)[k * 2 + 1]? = some l[k].2 := by
  induction l with
  | nil => intro k h; exact absurd h (by simp)
  | cons x l ih =>
    intro k h
    rw [pps_cons]
    cases k with
    | zero => exact ⟨rfl, rfl⟩
    | succ k =>
      have := ih k (by simpa using h)
      rw [show (k + 1) * 2 = k * 2 + 1 + 1 by omega]
      simpa using this
def PpSl (w : World) (a : Option Addr) (l : List (Value × Value)) : Prop := ∀ k (h : k < l.length), ∃ b off, a = some ⟨b, off, none⟩ ∧ b < w.heap.size ∧
  w.cell? ⟨b, off + k * 2, none⟩ = some l[k].1 ∧ w.cell? ⟨b, off + k * 2 + 1, none⟩ = some l[k].2
theorem PpSl.nil (w : World) (a : Option Addr) : PpSl w a [] := fun k h => absurd h (by simp)
theorem PpSl.below {w w' : World} {a : Option Addr} {l : List (Value × Value)} (h : PpSl w a l) (hb : Below w.heap.size w w') : PpSl w' a l := fun k hk => by
  obtain ⟨b, off, e, hlt, h0, h1⟩ := h k hk
  exact ⟨b, off, e, Nat.lt_of_lt_of_le hlt hb.size, (hb.cell (p := ⟨b, off + k * 2, none⟩) hlt).trans h0, (hb.cell (p := ⟨b, off + k * 2 + 1, none⟩) hlt).trans h1⟩
theorem PpSl.at_ {w : World} {a : Option Addr} {l : List (Value × Value)} (h : PpSl w a l) {k : Nat} (hk : k < l.length) : ∃ b off, a = some ⟨b, off, none⟩ ∧ b < w.heap.size ∧
    w.cell? ⟨b, off + k * 2, none⟩ = some l[k].1 ∧ w.cell? ⟨b, off + k * 2 + 1, none⟩ = some l[k].2 := h k hk
theorem PpSl.take {w : World} {a : Option Addr} {l : List (Value × Value)} (h : PpSl w a l) (n : Nat) : PpSl w a (l.take n) := fun k hk => by
  have hk2 : k < l.length := by simp at hk; omega
  obtain ⟨b, off, e, hlt, h0, h1⟩ := h k hk2
  rw [List.getElem_take]
  exact ⟨b, off, e, hlt, h0, h1⟩
theorem PpSl.drop {w : World} {b off : Nat} {l : List (Value × Value)} (h : PpSl w (some ⟨b, off, none⟩) l) (n : Nat) : PpSl w (some ⟨b, off + n * 2, none⟩) (l.drop n) := fun k hk => by
  have hk2 : n + k < l.length := by simp at hk; omega
  obtain ⟨b', off', e, hlt, h0, h1⟩ := h (n + k) hk2
  cases e
  rw [List.getElem_drop]
  have e1 : off + n * 2 + k * 2 = off + (n + k) * 2 := by omega
  exact ⟨b, off + n * 2, rfl, hlt, by rw [e1]; exact h0, by rw [e1]; exact h1⟩
theorem PpSl.cells {w : World} {a : Option Addr} {l : List (Value × Value)} (h : PpSl w a l) : ∀ ad, a = some ad → ∀ j u, (pps l)[j]? = some u → w.cell? (ad.add j) = some u := fun ad ha j u hu => by
  have hj : j < l.length * 2 := by rw [← pps_len]; exact (List.getElem?_eq_some_iff.1 hu).1
  have hk : j / 2 < l.length := by omega
  obtain ⟨b, off, e, _, h1, h2⟩ := h (j / 2) hk
  rw [ha] at e
  cases e
  obtain ⟨g1, g2⟩ := pps_get l (j / 2) hk
  have hadd : (⟨b, off, none⟩ : Addr).add j = ⟨b, off + j, none⟩ := by
    unfold Addr.add
    split
    · rename_i h; subst h; rfl
    · rfl
  rw [hadd]
  have hd : j = j / 2 * 2 ∨ j = j / 2 * 2 + 1 := by omega
  generalize j / 2 = k at *
  rcases hd with rfl | rfl
  · rw [g1] at hu
    cases hu
    exact h1
  · rw [g2] at hu
    cases hu
    exact h2
def OneP (l : List (Value × Value)) : Prop := ∀ x ∈ l, x.1.oneCell' = true ∧ x.2.oneCell' = true
theorem pps_one {l : List (Value × Value)} (h : OneP l) : ∀ u ∈ pps l, u.oneCell' = true := fun u hu => by
  unfold pps at hu
  obtain ⟨y, hy, hu⟩ := List.mem_flatMap.1 hu
  simp only [List.mem_cons, List.mem_nil_iff, or_false] at hu
  rcases hu with rfl | rfl
  · exact (h y hy).1
  · exact (h y hy).2
theorem own_pp {w : World} {B e : Nat} {v : Value} {l : List (Value × Value)} (h : w.ownsRow B e 2 v l.length (pps l)) : ∃ a c, v = .slice a l.length c ∧ l.length ≤ c ∧ c ≤ maxLen ∧ PpSl w a l ∧ (a = none → c = 0) := by
  rcases h.2 with ⟨rfl, hn⟩ | ⟨g, cap, cur, rfl, hg, hh, hn, hc, hsz, ht⟩
  · have : l = [] := List.eq_nil_of_length_eq_zero hn
    subst this
    exact ⟨none, 0, rfl, Nat.le_refl _, by unfold maxLen; omega, PpSl.nil _ _, fun _ => rfl⟩
  · have hlt : g < w.heap.size := by
      rcases Nat.lt_or_ge g w.heap.size with h1 | h1
      · exact h1
      · rw [Array.getElem?_eq_none h1] at hh; cases hh
    refine ⟨_, cap, rfl, hn, hc, fun k hk => ⟨g, 0, rfl, hlt, ?_, ?_⟩, fun e => by cases e⟩
    · have hg := (pps_get l k hk).1
      rw [← ht, List.getElem?_take, if_pos (by omega), Array.getElem?_toList] at hg
      rw [cell_of_row w g _ cur e (0, 0) hh, Nat.zero_add, hg]
    · have hg := (pps_get l k hk).2
      rw [← ht, List.getElem?_take, if_pos (by omega), Array.getElem?_toList] at hg
      rw [cell_of_row w g _ cur e (0, 0) hh, Nat.zero_add, hg]
theorem cells_pp (W : World) (l : List (Value × Value)) (xs : Array Value) (t : TypeId) (g : Nat) (hg : g = W.heap.size) (hx : xs.toList = pps l) : PpSl (W.alloc (.cells xs t)) (some ⟨g, 0, none⟩) l := fun k hk => by
  subst hg
  obtain ⟨g1, g2⟩ := pps_get l k hk
  rw [← hx, Array.getElem?_toList] at g1 g2
  refine ⟨W.heap.size, 0, rfl, by rw [size1]; omega, ?_, ?_⟩
  · rw [cell_of_row _ _ _ xs t (0, 0) (heap_alloc_new W _), Nat.zero_add, g1]
  · rw [cell_of_row _ _ _ xs t (0, 0) (heap_alloc_new W _), Nat.zero_add, g2]
theorem pcell2 {g : Nat} {a b : Value} {t : TypeId} {W : World} (h : W.heap[g]? = some (.cells #[a, b] t (0, 0))) : W.cell? ⟨g, 0, none⟩ = some a ∧ W.cell? ⟨g, 1, none⟩ = some b :=
  ⟨cell_of_row _ _ _ _ _ _ h, cell_of_row _ _ _ _ _ _ h⟩
theorem wpList_append_pp {P : Program} (w : World) {ops : Array Oper} {rest : List Oper} {o : Oper} {a : Act} {Q : Exit → Act → World → Prop} (hgd : o.guard = none) (s x : Operand) (t : TypeId)
    (ho : o.op = .call { callee := .builtin .append, args := #[s, x], argTypes := #[t, t] })
    (base : Nat) (e : TypeId) (i : TypeInfo) (z : Value) (bb : Nat) (ht : P.underlying t = some (.slice e)) (hi : P.info? e = some i) (hz : i.zero = some z)
    (hsize : i.size = 2) (hby : i.bytes = bb) (hbb : bb ≤ 64) (hzs : z.cells.size = 2)
    (v : Value) (l : List (Value × Value)) (hs : a.eval s = v) (hown : w.ownsRow base e 2 v l.length (pps l))
    (A : Option Addr) (c : Nat) (m : List (Value × Value)) (hx : a.eval x = .slice A m.length c) (hsl : PpSl w A m) (hone : OneP m) (hnil : A = none → c = 0)
    (hlen : l.length + m.length ≤ 1000000) (hbase : base ≤ w.heap.size)
    (h : ∀ v' w', w'.ownsRow base e 2 v' (l ++ m).length (pps (l ++ m)) → Below base w w' → wpList P ops Q rest (a.put o.dst v') w') : wpList P ops Q (o :: rest) a w := by
  rw [List.length_append, pps_append] at h
  cases A with
  | none =>
    have hc := hnil rfl
    subst hc
    have hm0 : m = [] := by
      cases m with
      | nil => rfl
      | cons y m => obtain ⟨_, _, e, _⟩ := hsl 0 (by simp); cases e
    subst hm0
    exact wpList_append_own_none hgd s x t ho base e i 2 ht hi v l.length (pps l) hs hown hx (h v w (by simpa [pps] using hown) (Below.refl _ _))
  | some ad =>
    exact wpList_append_own w hgd s x t ho base e i z 2 bb ht hi hz hsize hby hzs (by decide) v l.length (pps l) hs hown ad m.length c (pps m) hx (pps_len m) (hsl.cells ad rfl) (pps_one hone) (by unfold maxLen; omega)
      (Nat.le_trans (Nat.mul_le_mul hlen hbb) (by decide)) hbase (fun v' w' h2 h3 _ => h v' w' h2 (app_below (Below.refl _ _) hbase hown h3))
structure UsL where
  u : ByteArray
  a : Option Addr
  l : List StM
  c : Nat
def UsL.m (x : UsL) : UsM := ⟨x.u, x.l⟩
def usp (x : UsL) : Value × Value := (.string x.u, .slice x.a x.l.length x.c)
structure UsAt (W : World) (x : UsL) : Prop where
  st : StSl W x.a x.l
  le : x.l.length ≤ x.c
  mx : x.c ≤ maxLen
  nil : x.a = none → x.c = 0
theorem UsAt.below {W W' : World} {x : UsL} (h : UsAt W x) (q : Below W.heap.size W W') : UsAt W' x := ⟨h.st.below q, h.le, h.mx, h.nil⟩
instance : Inhabited UsL := ⟨⟨⟨#[]⟩, none, [], 0⟩⟩
theorem usp_one (l : List UsL) : OneP (l.map usp) := fun x hx => by
  obtain ⟨y, _, rfl⟩ := List.mem_map.1 hx
  exact ⟨rfl, rfl⟩
structure UsSl (W : World) (a : Option Addr) (D : List UsL) : Prop where
  row : PpSl W a (D.map usp)
  at_ : ∀ x ∈ D, UsAt W x
theorem UsSl.below {W W' : World} {a : Option Addr} {D : List UsL} (h : UsSl W a D) (q : Below W.heap.size W W') : UsSl W' a D := ⟨h.row.below q, fun x hx => (h.at_ x hx).below q⟩
theorem UsSl.nil (W : World) (a : Option Addr) : UsSl W a [] := ⟨PpSl.nil _ _, fun x h => by cases h⟩
theorem UsSl.get {W : World} {a : Option Addr} {D : List UsL} (h : UsSl W a D) {k : Nat} (hk : k < D.length) : ∃ b off, a = some ⟨b, off, none⟩ ∧ b < W.heap.size ∧
    W.cell? ⟨b, off + k * 2, none⟩ = some (.string D[k].u) ∧ W.cell? ⟨b, off + k * 2 + 1, none⟩ = some (.slice D[k].a D[k].l.length D[k].c) ∧ UsAt W D[k] := by
  obtain ⟨b, off, e, h1, h2, h3⟩ := h.row.at_ (k := k) (by simpa using hk)
  rw [List.getElem_map] at h2 h3
  exact ⟨b, off, e, h1, h2, h3, h.at_ _ (List.getElem_mem hk)⟩
def usv (D : List UsL) : List Value := pps (D.map usp)
def umS (D : List UsL) : List UsM := D.map UsL.m
theorem umS_len (D : List UsL) : (umS D).length = D.length := List.length_map _
theorem own_us {w : World} {B e : Nat} {v : Value} {D : List UsL} (h : w.ownsRow B e 2 v D.length (usv D)) : ∃ a c, v = .slice a D.length c ∧ D.length ≤ c ∧ c ≤ maxLen ∧ PpSl w a (D.map usp) ∧ (a = none → c = 0) := by
  have h2 := own_pp (l := D.map usp) (by rw [List.length_map]; exact h)
  rw [List.length_map] at h2
  exact h2
def tbp (x : TbM) : Value × Value := (.string x.u, .int .i64 x.a)
theorem tbp_one (l : List TbM) : OneP (l.map tbp) := fun x hx => by
  obtain ⟨y, _, rfl⟩ := List.mem_map.1 hx
  exact ⟨rfl, rfl⟩
def TbSl (W : World) (a : Option Addr) (l : List TbM) : Prop := PpSl W a (l.map tbp)
theorem TbSl.below {W W' : World} {a : Option Addr} {D : List TbM} (h : TbSl W a D) (q : Below W.heap.size W W') : TbSl W' a D := PpSl.below h q
theorem TbSl.nil (W : World) (a : Option Addr) : TbSl W a [] := PpSl.nil _ _
theorem TbSl.get {W : World} {a : Option Addr} {D : List TbM} (h : TbSl W a D) {k : Nat} (hk : k < D.length) : ∃ b off, a = some ⟨b, off, none⟩ ∧ b < W.heap.size ∧
    W.cell? ⟨b, off + k * 2, none⟩ = some (.string D[k].u) ∧ W.cell? ⟨b, off + k * 2 + 1, none⟩ = some (.int .i64 D[k].a) := by
  obtain ⟨b, off, e, h1, h2, h3⟩ := PpSl.at_ h (k := k) (by simpa using hk)
  rw [List.getElem_map] at h2 h3
  exact ⟨b, off, e, h1, h2, h3⟩
def tbv (D : List TbM) : List Value := pps (D.map tbp)
theorem own_tb {w : World} {B e : Nat} {v : Value} {D : List TbM} (h : w.ownsRow B e 2 v D.length (tbv D)) : ∃ a c, v = .slice a D.length c ∧ D.length ≤ c ∧ c ≤ maxLen ∧ TbSl w a D ∧ (a = none → c = 0) := by
  have h2 := own_pp (l := D.map tbp) (by rw [List.length_map]; exact h)
  rw [List.length_map] at h2
  exact h2
structure SaL where
  now : Int
  hor : Int
  oa : Option Addr
  op : List OpM
  oc : Nat
  ua : Option Addr
  us : List UsL
  uc : Nat
  sa : Option Addr
  su : List EnM
  sc : Nat
  ta : Option Addr
  tb : List TbM
  tc : Nat
def SaL.m (x : SaL) : SaM := ⟨x.now, x.hor, x.op, umS x.us, x.su, x.tb⟩
structure Cp (a : Option Addr) (n c : Nat) : Prop where
  le : n ≤ c
  mx : c ≤ maxLen
  nil : a = none → c = 0
theorem Cp.none : Cp none 0 0 := ⟨Nat.le_refl _, by unfold maxLen; omega, fun _ => rfl⟩
structure SaAt (W : World) (x : SaL) : Prop where
  op : OpSl W x.oa x.op
  us : UsSl W x.ua x.us
  su : EnSl W x.sa x.su
  tb : TbSl W x.ta x.tb
  oc : Cp x.oa x.op.length x.oc
  uc : Cp x.ua x.us.length x.uc
  sc : Cp x.sa x.su.length x.sc
  tc : Cp x.ta x.tb.length x.tc
theorem SaAt.below {W W' : World} {x : SaL} (h : SaAt W x) (q : Below W.heap.size W W') : SaAt W' x := ⟨h.op.below q, h.us.below q, h.su.below q, h.tb.below q, h.oc, h.uc, h.sc, h.tc⟩
def saC (x : SaL) : Array Value := #[.int .i64 x.now, .int .i64 x.hor, .slice x.oa x.op.length x.oc, .slice x.ua x.us.length x.uc, .slice x.sa x.su.length x.sc, .slice x.ta x.tb.length x.tc]
def saV (x : SaL) : Value := .agg (saC x)
def saO : SaL := ⟨0, 0, none, [], 0, none, [], 0, none, [], 0, none, [], 0⟩
theorem saO_m : saO.m = saZ := rfl
theorem SaAt.zero (W : World) : SaAt W saO := ⟨OpSl.nil _ _, UsSl.nil _ _, EnSl.nil _ _, TbSl.nil _ _, Cp.none, Cp.none, Cp.none, Cp.none⟩
structure Few (x : SaM) (n : Nat) : Prop where
  op : x.op.length ≤ n
  us : x.us.length ≤ n
  su : x.su.length ≤ n
  tb : x.tb.length ≤ n
  st : ∀ u ∈ x.us, u.l.length ≤ n
structure SzS (x : SaM) : Prop where
  op : ∀ e ∈ x.op, e.u.size ≤ maxLen
  us : ∀ e ∈ x.us, e.u.size ≤ maxLen
  su : ∀ e ∈ x.su, e.w.size ≤ maxLen ∧ e.u.size ≤ maxLen
  tb : ∀ e ∈ x.tb, e.u.size ≤ maxLen
end Go.Proofs.YtjhdhfokhkcamaaGreat
namespace Go.Proofs.YtjhdhfokhkcamaaGreat
open Go.RowKit
set_option linter.unusedVariables false
set_option maxRecDepth 100000
theorem six_get (x : SaL) (j : Nat) : (saC x)[j]? = some (.int .i64 x.now) ∧ j = 0 ∨ (saC x)[j]? = some (.int .i64 x.hor) ∧ j = 1 ∨ (∃ a n c, (saC x)[j]? = some (.slice a n c)) ∧ 2 ≤ j ∧ j ≤ 5 ∨ (saC x)[j]? = none := by
  match j with
  | 0 => exact .inl ⟨rfl, rfl⟩
  | 1 => exact .inr (.inl ⟨rfl, rfl⟩)
  | 2 => exact .inr (.inr (.inl ⟨⟨_, _, _, rfl⟩, by omega, by omega⟩))
  | 3 => exact .inr (.inr (.inl ⟨⟨_, _, _, rfl⟩, by omega, by omega⟩))
  | 4 => exact .inr (.inr (.inl ⟨⟨_, _, _, rfl⟩, by omega, by omega⟩))
  | 5 => exact .inr (.inr (.inl ⟨⟨_, _, _, rfl⟩, by omega, by omega⟩))
  | j + 6 => exact .inr (.inr (.inr (by simp [saC])))
theorem six_string {W : World} {g : Nat} {x : SaL} {t : TypeId} (h : W.heap[g]? = some (.cells (saC x) t (0, 0))) {j : Nat} {s : ByteArray} : ¬ W.cell? ⟨g, j, none⟩ = some (.string s) := fun e => by
  rw [cell_of_row _ _ _ _ _ (0, 0) h] at e
  rcases six_get x j with ⟨h1, _⟩ | ⟨h1, _⟩ | ⟨⟨a, n, c, h1⟩, _⟩ | h1 <;> (rw [h1] at e; cases e)
theorem six_int {W : World} {g : Nat} {x : SaL} {t : TypeId} (h : W.heap[g]? = some (.cells (saC x) t (0, 0))) {j : Nat} {k : IntKind} {n : Int} (e : W.cell? ⟨g, j, none⟩ = some (.int k n)) : j ≤ 1 := by
  rw [cell_of_row _ _ _ _ _ (0, 0) h] at e
  rcases six_get x j with ⟨_, h1⟩ | ⟨_, h1⟩ | ⟨⟨a, n, c, h1⟩, _⟩ | h1
  · omega
  · omega
  · rw [h1] at e; cases e
  · rw [h1] at e; cases e
theorem cell_far {W : World} {g i : Nat} {v : Value} {p : Addr} (h : p.block ≠ g) : (W.setCell ⟨g, i, none⟩ v).cell? p = W.cell? p := by
  unfold World.cell?
  rw [Below.heap_setCell _ _ _ _ h]
theorem size_set (W : World) (p : Addr) (v : Value) : (W.setCell p v).heap.size = W.heap.size := by simp [World.setCell]
theorem block_far {W : World} {g i b : Nat} {v : Value} (h : b ≠ g) : (W.setCell ⟨g, i, none⟩ v).heap[b]? = W.heap[b]? := Below.heap_setCell _ _ _ _ h
section
variable {W : World} {g : Nat} {x : SaL} {t : TypeId}
theorem OpSl.setB (h : W.heap[g]? = some (.cells (saC x) t (0, 0))) {a : Option Addr} {l : List OpM} (ho : OpSl W a l) (i : Nat) (v : Value) : OpSl (W.setCell ⟨g, i, none⟩ v) a l := fun k hk => by
  obtain ⟨b, off, e, hlt, h0, h1, h2, h3⟩ := ho k hk
  have hne : b ≠ g := fun e => by subst e; exact six_string h h1
  exact ⟨b, off, e, by rw [size_set]; exact hlt, (cell_far (p := ⟨b, off + k * 4, none⟩) hne).trans h0, (cell_far (p := ⟨b, off + k * 4 + 1, none⟩) hne).trans h1, (cell_far (p := ⟨b, off + k * 4 + 2, none⟩) hne).trans h2, (cell_far (p := ⟨b, off + k * 4 + 3, none⟩) hne).trans h3⟩
theorem EnSl.setB (h : W.heap[g]? = some (.cells (saC x) t (0, 0))) {a : Option Addr} {l : List EnM} (ho : EnSl W a l) (i : Nat) (v : Value) : EnSl (W.setCell ⟨g, i, none⟩ v) a l := fun k hk => by
  obtain ⟨b, off, e, hlt, h0, h1, h2, h3⟩ := ho k hk
  have hne : b ≠ g := fun e => by subst e; exact six_string h h1
  exact ⟨b, off, e, by rw [size_set]; exact hlt, (cell_far (p := ⟨b, off + k * 4, none⟩) hne).trans h0, (cell_far (p := ⟨b, off + k * 4 + 1, none⟩) hne).trans h1, (cell_far (p := ⟨b, off + k * 4 + 2, none⟩) hne).trans h2, (cell_far (p := ⟨b, off + k * 4 + 3, none⟩) hne).trans h3⟩
theorem StSl.setB (h : W.heap[g]? = some (.cells (saC x) t (0, 0))) {a : Option Addr} {l : List StM} (ho : StSl W a l) (i : Nat) (v : Value) : StSl (W.setCell ⟨g, i, none⟩ v) a l := fun k hk => by
  obtain ⟨b, off, e, hlt, h0, h1, h2, h3⟩ := ho k hk
  have hne : b ≠ g := fun e => by
    subst e
    have := six_int h h3
    omega
  exact ⟨b, off, e, by rw [size_set]; exact hlt, (cell_far (p := ⟨b, off + k * 4, none⟩) hne).trans h0, (cell_far (p := ⟨b, off + k * 4 + 1, none⟩) hne).trans h1, (cell_far (p := ⟨b, off + k * 4 + 2, none⟩) hne).trans h2, (cell_far (p := ⟨b, off + k * 4 + 3, none⟩) hne).trans h3⟩
theorem PpSl.setB (h : W.heap[g]? = some (.cells (saC x) t (0, 0))) {a : Option Addr} {l : List (Value × Value)} (hs : ∀ y ∈ l, ∃ s, y.1 = .string s) (ho : PpSl W a l) (i : Nat) (v : Value) : PpSl (W.setCell ⟨g, i, none⟩ v) a l := fun k hk => by
  obtain ⟨b, off, e, hlt, h0, h1⟩ := ho k hk
  have hne : b ≠ g := fun e => by
    subst e
    obtain ⟨s, hs⟩ := hs _ (List.getElem_mem hk)
    rw [hs] at h0
    exact six_string h h0
  exact ⟨b, off, e, by rw [size_set]; exact hlt, (cell_far (p := ⟨b, off + k * 2, none⟩) hne).trans h0, (cell_far (p := ⟨b, off + k * 2 + 1, none⟩) hne).trans h1⟩
theorem TbSl.setB (h : W.heap[g]? = some (.cells (saC x) t (0, 0))) {a : Option Addr} {l : List TbM} (ho : TbSl W a l) (i : Nat) (v : Value) : TbSl (W.setCell ⟨g, i, none⟩ v) a l :=
  PpSl.setB h (fun y hy => by obtain ⟨z, _, rfl⟩ := List.mem_map.1 hy; exact ⟨_, rfl⟩) ho i v
theorem UsAt.setB (h : W.heap[g]? = some (.cells (saC x) t (0, 0))) {y : UsL} (ho : UsAt W y) (i : Nat) (v : Value) : UsAt (W.setCell ⟨g, i, none⟩ v) y := ⟨ho.st.setB h i v, ho.le, ho.mx, ho.nil⟩
theorem UsSl.setB (h : W.heap[g]? = some (.cells (saC x) t (0, 0))) {a : Option Addr} {l : List UsL} (ho : UsSl W a l) (i : Nat) (v : Value) : UsSl (W.setCell ⟨g, i, none⟩ v) a l :=
  ⟨PpSl.setB h (fun y hy => by obtain ⟨z, _, rfl⟩ := List.mem_map.1 hy; exact ⟨_, rfl⟩) ho.row i v, fun y hy => (ho.at_ y hy).setB h i v⟩
theorem SaAt.setB (h : W.heap[g]? = some (.cells (saC x) t (0, 0))) {y : SaL} (ho : SaAt W y) (i : Nat) (v : Value) : SaAt (W.setCell ⟨g, i, none⟩ v) y :=
  ⟨ho.op.setB h i v, ho.us.setB h i v, ho.su.setB h i v, ho.tb.setB h i v, ho.oc, ho.uc, ho.sc, ho.tc⟩
end
structure SB (w : World) (g : Nat) (t : TypeId) (x : SaL) (W : World) : Prop where
  blk : W.heap[g]? = some (.cells (saC x) t (0, 0))
  ge : w.heap.size ≤ g
  frame : Below w.heap.size w W
  at_ : SaAt W x
section
variable {w W W' : World} {g : Nat} {x : SaL} {t : TypeId}
theorem SB.lt (h : SB w g t x W) : g < W.heap.size := heap_lt h.blk
theorem SB.below (h : SB w g t x W) (q : Below W.heap.size W W') : SB w g t x W' := ⟨(q.block g h.lt).trans h.blk, h.ge, h.frame.trans (q.mono h.frame.size), h.at_.below q⟩
theorem SB.alloc (h : SB w g t x W) (o : Obj) : SB w g t x (W.alloc o) := h.below (below_one _ _)
theorem SB.drew (h : SB w g t x W) : SB w g t x W.drew := h.below (Below.refl _ _).drew
theorem SB.new {V : World} (hb : Below w.heap.size w V) (h : SaAt V x) (t : TypeId) : SB w V.heap.size t x (V.alloc (.cells (saC x) t)) := ⟨heap_alloc_new _ _, hb.size, hb.trans ((below_one _ _).mono hb.size), h.below (below_one _ _)⟩
theorem SB.cells (h : SB w g t x W) : W.cell? ⟨g, 0, none⟩ = some (.int .i64 x.now) ∧ W.cell? ⟨g, 1, none⟩ = some (.int .i64 x.hor) ∧ W.cell? ⟨g, 2, none⟩ = some (.slice x.oa x.op.length x.oc) ∧ W.cell? ⟨g, 3, none⟩ = some (.slice x.ua x.us.length x.uc) ∧ W.cell? ⟨g, 4, none⟩ = some (.slice x.sa x.su.length x.sc) ∧ W.cell? ⟨g, 5, none⟩ = some (.slice x.ta x.tb.length x.tc) :=
  ⟨cell_of_row _ _ _ _ _ _ h.blk, cell_of_row _ _ _ _ _ _ h.blk, cell_of_row _ _ _ _ _ _ h.blk, cell_of_row _ _ _ _ _ _ h.blk, cell_of_row _ _ _ _ _ _ h.blk, cell_of_row _ _ _ _ _ _ h.blk⟩
theorem SB.free (h : SB w g t x W) : W.frozen? ⟨g, 0, none⟩ = false ∧ W.frozen? ⟨g, 1, none⟩ = false ∧ W.frozen? ⟨g, 2, none⟩ = false ∧ W.frozen? ⟨g, 3, none⟩ = false ∧ W.frozen? ⟨g, 4, none⟩ = false ∧ W.frozen? ⟨g, 5, none⟩ = false :=
  ⟨frozen_of_row _ _ 0 _ _ h.blk, frozen_of_row _ _ 1 _ _ h.blk, frozen_of_row _ _ 2 _ _ h.blk, frozen_of_row _ _ 3 _ _ h.blk, frozen_of_row _ _ 4 _ _ h.blk, frozen_of_row _ _ 5 _ _ h.blk⟩
theorem SB.setNow (h : SB w g t x W) (n : Int) : SB w g t { x with now := n } (W.setCell ⟨g, 0, none⟩ (.int .i64 n)) :=
  ⟨heap_setCell_at h.blk 0 _, h.ge, h.frame.setCell (p := ⟨g, 0, none⟩) h.ge _, by have := h.at_.setB h.blk 0 (.int .i64 n); exact ⟨this.op, this.us, this.su, this.tb, this.oc, this.uc, this.sc, this.tc⟩⟩
theorem SB.setHor (h : SB w g t x W) (n : Int) : SB w g t { x with hor := n } (W.setCell ⟨g, 1, none⟩ (.int .i64 n)) :=
  ⟨heap_setCell_at h.blk 1 _, h.ge, h.frame.setCell (p := ⟨g, 1, none⟩) h.ge _, by have := h.at_.setB h.blk 1 (.int .i64 n); exact ⟨this.op, this.us, this.su, this.tb, this.oc, this.uc, this.sc, this.tc⟩⟩
theorem SB.setOp (h : SB w g t x W) {a : Option Addr} {l : List OpM} {n c : Nat} (hn : n = l.length) (ho : OpSl W a l) (hc : Cp a l.length c) : SB w g t { x with oa := a, op := l, oc := c } (W.setCell ⟨g, 2, none⟩ (.slice a n c)) := by
  subst hn
  exact ⟨heap_setCell_at h.blk 2 _, h.ge, h.frame.setCell (p := ⟨g, 2, none⟩) h.ge _, by have := h.at_.setB h.blk 2 (.slice a l.length c); exact ⟨ho.setB h.blk 2 _, this.us, this.su, this.tb, hc, this.uc, this.sc, this.tc⟩⟩
theorem SB.setUs (h : SB w g t x W) {a : Option Addr} {l : List UsL} {n c : Nat} (hn : n = l.length) (ho : UsSl W a l) (hc : Cp a l.length c) : SB w g t { x with ua := a, us := l, uc := c } (W.setCell ⟨g, 3, none⟩ (.slice a n c)) := by
  subst hn
  exact ⟨heap_setCell_at h.blk 3 _, h.ge, h.frame.setCell (p := ⟨g, 3, none⟩) h.ge _, by have := h.at_.setB h.blk 3 (.slice a l.length c); exact ⟨this.op, ho.setB h.blk 3 _, this.su, this.tb, this.oc, hc, this.sc, this.tc⟩⟩
theorem SB.setSu (h : SB w g t x W) {a : Option Addr} {l : List EnM} {n c : Nat} (hn : n = l.length) (ho : EnSl W a l) (hc : Cp a l.length c) : SB w g t { x with sa := a, su := l, sc := c } (W.setCell ⟨g, 4, none⟩ (.slice a n c)) := by
  subst hn
  exact ⟨heap_setCell_at h.blk 4 _, h.ge, h.frame.setCell (p := ⟨g, 4, none⟩) h.ge _, by have := h.at_.setB h.blk 4 (.slice a l.length c); exact ⟨this.op, this.us, ho.setB h.blk 4 _, this.tb, this.oc, this.uc, hc, this.tc⟩⟩
theorem SB.setTb (h : SB w g t x W) {a : Option Addr} {l : List TbM} {n c : Nat} (hn : n = l.length) (ho : TbSl W a l) (hc : Cp a l.length c) : SB w g t { x with ta := a, tb := l, tc := c } (W.setCell ⟨g, 5, none⟩ (.slice a n c)) := by
  subst hn
  exact ⟨heap_setCell_at h.blk 5 _, h.ge, h.frame.setCell (p := ⟨g, 5, none⟩) h.ge _, by have := h.at_.setB h.blk 5 (.slice a l.length c); exact ⟨this.op, this.us, this.su, ho.setB h.blk 5 _, this.oc, this.uc, this.sc, hc⟩⟩
end
def setS (W : World) (g : Nat) (y : SaL) : World := (((((W.setCell ⟨g, 0, none⟩ (.int .i64 y.now)).setCell ⟨g, 1, none⟩ (.int .i64 y.hor)).setCell ⟨g, 2, none⟩ (.slice y.oa y.op.length y.oc)).setCell ⟨g, 3, none⟩ (.slice y.ua y.us.length y.uc)).setCell ⟨g, 4, none⟩ (.slice y.sa y.su.length y.sc)).setCell ⟨g, 5, none⟩ (.slice y.ta y.tb.length y.tc)
section
variable {w W W' : World} {g : Nat} {x : SaL} {t : TypeId}
theorem SB.set (h : SB w g t x W) {y : SaL} (hy : SaAt W y) : SB w g t y (setS W g y) := by
  have h0 := h.setNow y.now
  have y0 := hy.setB h.blk 0 (.int .i64 y.now)
  have h1 := h0.setHor y.hor
  have y1 := y0.setB h0.blk 1 (.int .i64 y.hor)
  have h2 := h1.setOp rfl y1.op y1.oc
  have y2 := y1.setB h1.blk 2 (.slice y.oa y.op.length y.oc)
  have h3 := h2.setUs rfl y2.us y2.uc
  have y3 := y2.setB h2.blk 3 (.slice y.ua y.us.length y.uc)
  have h4 := h3.setSu rfl y3.su y3.sc
  have y4 := y3.setB h3.blk 4 (.slice y.sa y.su.length y.sc)
  exact h4.setTb rfl y4.tb y4.tc
theorem SB.far {g' : Nat} {x' : SaL} {t' : TypeId} (h : SB w g t x W) (h' : SB w g' t' x' W) (hne : g ≠ g') (i : Nat) (v : Value) : SB w g t x (W.setCell ⟨g', i, none⟩ v) :=
  ⟨(block_far hne).trans h.blk, h.ge, h.frame.setCell (p := ⟨g', i, none⟩) h'.ge _, h.at_.setB h'.blk i v⟩
end
theorem infoSa6 : (Tryz.prog.info? 38).map (·.size) = some 6 := by kernel_rfl
theorem infoSaR6 : (Tryz.prog.info? 27).map (·.size) = some 6 := by kernel_rfl
theorem loadS6 {W : World} {g : Nat} {x : SaL} {t : TypeId} (h : W.heap[g]? = some (.cells (saC x) t (0, 0))) : (loadVar 38 ⟨g, 0, none⟩).run Tryz.prog W = .ok (saV x) W :=
  run_loadVar_mid (P := Tryz.prog) W g 0 38 (saC x).toList _ (fun j v hv => by
    rw [Nat.zero_add, cell_of_row _ _ _ _ _ (0, 0) h]
    rw [Array.getElem?_toList] at hv
    exact hv) Tryz.underlying38 rfl infoSa6
theorem loadR6 {W : World} {g : Nat} {x : SaL} {t : TypeId} (h : W.heap[g]? = some (.cells (saC x) t (0, 0))) : (loadVar 27 ⟨g, 0, none⟩).run Tryz.prog W = .ok (saV x) W :=
  run_loadVar_mid (P := Tryz.prog) W g 0 27 (saC x).toList _ (fun j v hv => by
    rw [Nat.zero_add, cell_of_row _ _ _ _ _ (0, 0) h]
    rw [Array.getElem?_toList] at hv
    exact hv) Tryz.underlying27 rfl infoSaR6
structure RB (w : World) (g : Nat) (cs : Array Value) (t : TypeId) (W : World) : Prop where
  blk : W.heap[g]? = some (.cells cs t (0, 0))
end Go.Proofs.YtjhdhfokhkcamaaGreat
namespace Go.Proofs.YtjhdhfokhkcamaaGreat
open Go.RowKit Go.Proofs
set_option linter.unusedVariables false
set_option maxRecDepth 100000
theorem infoUs : (Tryz.prog.info? 89).map (fun i => (i.zero, i.size, i.bytes)) = some (some (.agg #[.string ⟨#[]⟩, .slice none 0 0]), 2, 40) := by kernel_rfl
theorem infoTb : (Tryz.prog.info? 87).map (fun i => (i.zero, i.size, i.bytes)) = some (some (.agg #[.string ⟨#[]⟩, .int .i64 0]), 2, 24) := by kernel_rfl
theorem infoUsR : (Tryz.prog.info? 77).map (fun i => (i.zero, i.size, i.bytes)) = some (some (.agg #[.string ⟨#[]⟩, .slice none 0 0]), 2, 40) := by kernel_rfl
theorem infoTbR : (Tryz.prog.info? 69).map (fun i => (i.zero, i.size, i.bytes)) = some (some (.agg #[.string ⟨#[]⟩, .int .i64 0]), 2, 24) := by kernel_rfl
set_option maxHeartbeats 1000000 in
theorem clone_op (a : Option Addr) (c : Nat) (l : List OpM) (w : World) (hr : OpSl w a l) (hc : Cp a l.length c) (hl : l.length ≤ 100000) :
    Calls Tryz.prog 116 #[.slice a l.length c] w fun e w' => ∃ v, e = .returned v ∧ w'.ownsRow w.heap.size 112 4 v l.length (oes l) ∧ Below w.heap.size w w' := by
  obtain ⟨i0, hi, hz0, hz1, hz2⟩ := info_parts infoOp
  have q22 : ∀ (W : World) (a : Option Addr) (n c n' c' : Nat), (binOp .eql 33 (.slice a n c) (.slice none n' c')).run Tryz.prog W = .ok (.bool a.isNone) W := fun W a n c n' c' => Lib.run_eql_slice_nil W _ _ a n c n' c' Tryz.underlying33
  cases a with
  | none =>
    have hc0 := hc.nil rfl
    subst hc0
    have hl0 : l = [] := List.eq_nil_of_length_eq_zero (by have := hc.le; omega)
    subst hl0
    clear hr hc
    go_enter Tryz.func116, Tryz.ntmps116
    go_wp2
    go_ret
    exact ⟨_, rfl, ⟨rfl, .inl ⟨rfl, rfl⟩⟩, Below.refl _ _⟩
  | some ad =>
    have HO := Lib.hid (own_emptyO w 112 4 w.heap.size (Nat.le_refl _))
    have HB := Lib.hid (below_one w (.cells #[] 112))
    have HX1 := Lib.hid (hr.below HB.out)
    clear hr hc
    go_enter Tryz.func116, Tryz.ntmps116
    go_wp2_with (at_builtin; refine wpList_append_op _ rfl (.tmp 5) (.tmp 6) 33 rfl w.heap.size 112 i0 _ Tryz.underlying33 hi hz0 hz1 hz2 rfl _ [] rfl HO.out (some ad) c l rfl HX1.out (fun h => by cases h) (by simpa using (show l.length ≤ 1000000 by omega)) HB.out.size ?_; intro v2 w2 hown2 hB2)
    have HO2 := Lib.hid hown2
    have HB2 := Lib.hid (HB.out.trans hB2)
    clear hown2 hB2
    go_wp2
    go_ret
    exact ⟨_, rfl, (by have ho := HO2.out; rw [List.nil_append] at ho; exact ho), HB2.out⟩
set_option maxHeartbeats 1000000 in
theorem clone_en (a : Option Addr) (c : Nat) (l : List EnM) (w : World) (hr : EnSl w a l) (hc : Cp a l.length c) (hl : l.length ≤ 100000) :
    Calls Tryz.prog 117 #[.slice a l.length c] w fun e w' => ∃ v, e = .returned v ∧ w'.ownsRow w.heap.size 123 4 v l.length (ens l) ∧ Below w.heap.size w w' := by
  obtain ⟨i0, hi, hz0, hz1, hz2⟩ := info_parts infoEn
  have q22 : ∀ (W : World) (a : Option Addr) (n c n' c' : Nat), (binOp .eql 35 (.slice a n c) (.slice none n' c')).run Tryz.prog W = .ok (.bool a.isNone) W := fun W a n c n' c' => Lib.run_eql_slice_nil W _ _ a n c n' c' Tryz.underlying35
  cases a with
  | none =>
    have hc0 := hc.nil rfl
    subst hc0
    have hl0 : l = [] := List.eq_nil_of_length_eq_zero (by have := hc.le; omega)
    subst hl0
    clear hr hc
    go_enter Tryz.func117, Tryz.ntmps117
    go_wp2
    go_ret
    exact ⟨_, rfl, ⟨rfl, .inl ⟨rfl, rfl⟩⟩, Below.refl _ _⟩
  | some ad =>
    have HO := Lib.hid (own_emptyO w 123 4 w.heap.size (Nat.le_refl _))
    have HB := Lib.hid (below_one w (.cells #[] 123))
    have HX1 := Lib.hid (hr.below HB.out)
    clear hr hc
    go_enter Tryz.func117, Tryz.ntmps117
    go_wp2_with (at_builtin; refine wpList_append_en _ rfl (.tmp 5) (.tmp 6) 35 rfl w.heap.size 123 i0 _ Tryz.underlying35 hi hz0 hz1 hz2 rfl _ [] rfl HO.out (some ad) c l rfl HX1.out (fun h => by cases h) (by simpa using (show l.length ≤ 1000000 by omega)) HB.out.size ?_; intro v2 w2 hown2 hB2)
    have HO2 := Lib.hid hown2
    have HB2 := Lib.hid (HB.out.trans hB2)
    clear hown2 hB2
    go_wp2
    go_ret
    exact ⟨_, rfl, (by have ho := HO2.out; rw [List.nil_append] at ho; exact ho), HB2.out⟩
set_option maxHeartbeats 1000000 in
theorem clone_st (a : Option Addr) (c : Nat) (l : List StM) (w : World) (hr : StSl w a l) (hc : Cp a l.length c) (hl : l.length ≤ 100000) :
    Calls Tryz.prog 88 #[.slice a l.length c] w fun e w' => ∃ v, e = .returned v ∧ w'.ownsRow w.heap.size 86 4 v l.length (sts l) ∧ Below w.heap.size w w' := by
  obtain ⟨i0, hi, hz0, hz1, hz2⟩ := info_parts infoStay
  have q22 : ∀ (W : World) (a : Option Addr) (n c n' c' : Nat), (binOp .eql 60 (.slice a n c) (.slice none n' c')).run Tryz.prog W = .ok (.bool a.isNone) W := fun W a n c n' c' => Lib.run_eql_slice_nil W _ _ a n c n' c' Tryz.underlying60
  cases a with
  | none =>
    have hc0 := hc.nil rfl
    subst hc0
    have hl0 : l = [] := List.eq_nil_of_length_eq_zero (by have := hc.le; omega)
    subst hl0
    clear hr hc
    go_enter Tryz.func88, Tryz.ntmps88
    go_wp2
    go_ret
    exact ⟨_, rfl, ⟨rfl, .inl ⟨rfl, rfl⟩⟩, Below.refl _ _⟩
  | some ad =>
    have HO := Lib.hid (own_emptyO w 86 4 w.heap.size (Nat.le_refl _))
    have HB := Lib.hid (below_one w (.cells #[] 86))
    have HX1 := Lib.hid (hr.below HB.out)
    clear hr hc
    go_enter Tryz.func88, Tryz.ntmps88
    go_wp2_with (at_builtin; refine wpList_append_st _ rfl (.tmp 5) (.tmp 6) 60 rfl w.heap.size 86 i0 _ Tryz.underlying60 hi hz0 hz1 hz2 rfl _ [] rfl HO.out (some ad) c l rfl HX1.out (fun h => by cases h) (by simpa using (show l.length ≤ 1000000 by omega)) HB.out.size ?_; intro v2 w2 hown2 hB2)
    have HO2 := Lib.hid hown2
    have HB2 := Lib.hid (HB.out.trans hB2)
    clear hown2 hB2
    go_wp2
    go_ret
    exact ⟨_, rfl, (by have ho := HO2.out; rw [List.nil_append] at ho; exact ho), HB2.out⟩
set_option maxHeartbeats 1000000 in
theorem pclone_us (a : Option Addr) (c : Nat) (l : List (Value × Value)) (h1 : OneP l) (w : World) (hr : PpSl w a l) (hc : Cp a l.length c) (hl : l.length ≤ 100000) :
    Calls Tryz.prog 119 #[.slice a l.length c] w fun e w' => ∃ v, e = .returned v ∧ w'.ownsRow w.heap.size 89 2 v l.length (pps l) ∧ Below w.heap.size w w' := by
  obtain ⟨i0, hi, hz0, hz1, hz2⟩ := info_parts infoUs
  have q22 : ∀ (W : World) (a : Option Addr) (n c n' c' : Nat), (binOp .eql 34 (.slice a n c) (.slice none n' c')).run Tryz.prog W = .ok (.bool a.isNone) W := fun W a n c n' c' => Lib.run_eql_slice_nil W _ _ a n c n' c' Tryz.underlying34
  cases a with
  | none =>
    have hc0 := hc.nil rfl
    subst hc0
    have hl0 : l = [] := List.eq_nil_of_length_eq_zero (by have := hc.le; omega)
    subst hl0
    clear hr hc
    go_enter Tryz.func119, Tryz.ntmps119
    go_wp2
    go_ret
    exact ⟨_, rfl, ⟨rfl, .inl ⟨rfl, rfl⟩⟩, Below.refl _ _⟩
  | some ad =>
    have HO := Lib.hid (own_emptyO w 89 2 w.heap.size (Nat.le_refl _))
    have HB := Lib.hid (below_one w (.cells #[] 89))
    have HX1 := Lib.hid (hr.below HB.out)
    clear hr hc
    go_enter Tryz.func119, Tryz.ntmps119
    go_wp2_with (at_builtin; refine wpList_append_pp _ rfl (.tmp 5) (.tmp 6) 34 rfl w.heap.size 89 i0 _ 40 Tryz.underlying34 hi hz0 hz1 hz2 (by decide) rfl _ [] rfl HO.out (some ad) c l rfl HX1.out h1 (fun h => by cases h) (by simpa using (show l.length ≤ 1000000 by omega)) HB.out.size ?_; intro v2 w2 hown2 hB2)
    have HO2 := Lib.hid hown2
    have HB2 := Lib.hid (HB.out.trans hB2)
    clear hown2 hB2
    go_wp2
    go_ret
    exact ⟨_, rfl, (by have ho := HO2.out; rw [List.nil_append] at ho; exact ho), HB2.out⟩
set_option maxHeartbeats 1000000 in
theorem pclone_tb (a : Option Addr) (c : Nat) (l : List (Value × Value)) (h1 : OneP l) (w : World) (hr : PpSl w a l) (hc : Cp a l.length c) (hl : l.length ≤ 100000) :
    Calls Tryz.prog 118 #[.slice a l.length c] w fun e w' => ∃ v, e = .returned v ∧ w'.ownsRow w.heap.size 87 2 v l.length (pps l) ∧ Below w.heap.size w w' := by
  obtain ⟨i0, hi, hz0, hz1, hz2⟩ := info_parts infoTb
  have q22 : ∀ (W : World) (a : Option Addr) (n c n' c' : Nat), (binOp .eql 36 (.slice a n c) (.slice none n' c')).run Tryz.prog W = .ok (.bool a.isNone) W := fun W a n c n' c' => Lib.run_eql_slice_nil W _ _ a n c n' c' Tryz.underlying36
  cases a with
  | none =>
    have hc0 := hc.nil rfl
    subst hc0
    have hl0 : l = [] := List.eq_nil_of_length_eq_zero (by have := hc.le; omega)
    subst hl0
    clear hr hc
    go_enter Tryz.func118, Tryz.ntmps118
    go_wp2
    go_ret
    exact ⟨_, rfl, ⟨rfl, .inl ⟨rfl, rfl⟩⟩, Below.refl _ _⟩
  | some ad =>
    have HO := Lib.hid (own_emptyO w 87 2 w.heap.size (Nat.le_refl _))
    have HB := Lib.hid (below_one w (.cells #[] 87))
    have HX1 := Lib.hid (hr.below HB.out)
    clear hr hc
    go_enter Tryz.func118, Tryz.ntmps118
    go_wp2_with (at_builtin; refine wpList_append_pp _ rfl (.tmp 5) (.tmp 6) 36 rfl w.heap.size 87 i0 _ 24 Tryz.underlying36 hi hz0 hz1 hz2 (by decide) rfl _ [] rfl HO.out (some ad) c l rfl HX1.out h1 (fun h => by cases h) (by simpa using (show l.length ≤ 1000000 by omega)) HB.out.size ?_; intro v2 w2 hown2 hB2)
    have HO2 := Lib.hid hown2
    have HB2 := Lib.hid (HB.out.trans hB2)
    clear hown2 hB2
    go_wp2
    go_ret
    exact ⟨_, rfl, (by have ho := HO2.out; rw [List.nil_append] at ho; exact ho), HB2.out⟩
structure PpR where
  a : Option Addr
  l : List (Value × Value)
  c : Nat
def pprV (r : PpR) : Value := .slice r.a r.l.length r.c
def catP (R : List PpR) : List (Value × Value) := R.flatMap (·.l)
theorem catP_take (R : List PpR) (j : Nat) (h : j < R.length) : catP (R.take (j + 1)) = catP (R.take j) ++ R[j].l := by
  unfold catP
  rw [List.take_succ_eq_append_getElem h, List.flatMap_append]
  simp
theorem catP_le (R : List PpR) (j : Nat) : (catP (R.take j)).length ≤ (catP R).length := by
  have : catP R = catP (R.take j) ++ catP (R.drop j) := by
    unfold catP
    rw [← List.flatMap_append, List.take_append_drop]
  rw [this, List.length_append]
  omega
def PpRAt (w : World) (r : PpR) : Prop := PpSl w r.a r.l ∧ OneP r.l ∧ (r.a = none → r.c = 0)
theorem prows_at {w : World} {a : Option Addr} {R : List PpR} (h : Sl w a (R.map pprV)) {k : Nat} (hk : k < R.length) : ∃ b off, a = some ⟨b, off, none⟩ ∧ b < w.heap.size ∧ w.cell? ⟨b, off + k, none⟩ = some (pprV R[k]) := by
  obtain ⟨b, off, e, hlt, hc⟩ := h k (by simpa using hk)
  exact ⟨b, off, e, hlt, by rw [hc]; simp⟩
theorem pgrow_us (n : Nat) (w : World) (hn : n ≤ 1000000) : Calls Tryz.prog 214 #[.slice none 0 0, .int .i64 n] w fun e w' => ∃ v, e = .returned v ∧ w'.ownsRow w.heap.size 89 2 v 0 [] ∧ Below w.heap.size w w' := by
  obtain ⟨i0, hi, hz0, hz1, hz2⟩ := info_parts infoUs
  rcases Nat.eq_zero_or_pos n with h0 | h0
  · subst h0
    have h := Any8.slices_Grow_room Tryz.laysGrowUs none 0 0 0 w (by omega) (by omega) (by omega) (by omega)
    refine Calls.mono h ?_
    rintro e w' ⟨rfl, rfl⟩
    exact ⟨_, rfl, ⟨rfl, .inl ⟨rfl, rfl⟩⟩, Below.refl _ _⟩
  · have h := Any8.slices_Grow_grow Tryz.laysGrowUs i0 _ hi hz0 (by rw [hz1]; omega) none 0 0 n [] w (by omega) (by omega) (by rw [hz2]; omega) (by omega) (by simp) (fun _ => rfl) (fun a h => by cases h)
    refine Calls.mono h ?_
    rintro e w' ⟨rfl, rfl⟩
    have hge := grownCap_ge w (0 + n) 0 89
    have hle := grownCap_le_maxLen w (0 + n) 0 89 (by unfold maxLen; omega)
    refine ⟨_, rfl, ⟨rfl, .inr ⟨w.heap.size, _, _, rfl, Nat.le_refl _, heap_alloc_new w.drew _, Nat.zero_le _, hle, ?_, by simp⟩⟩, ?_⟩
    · simp only [Array.size_append, size_zeroCells]
      show 0 + (0 + n - 0) * 2 + (grownCap w (0 + n) 0 89 - (0 + n)) * 2 = grownCap w (0 + n) 0 89 * 2
      omega
    · exact (Below.refl w.heap.size w).drew.alloc (Nat.le_refl _) _
set_option maxHeartbeats 1000000 in
theorem pconcat_us (a : Option Addr) (c : Nat) (R : List PpR) (w : World) (hr : Sl w a (R.map pprV)) (hR : ∀ r ∈ R, PpRAt w r) (hl : R.length ≤ 100000) (hs : (catP R).length ≤ 100000) :
    Calls Tryz.prog 191 #[.slice a R.length c] w fun e w' => ∃ v, e = .returned v ∧ w'.ownsRow w.heap.size 89 2 v (catP R).length (pps (catP R)) ∧ Below w.heap.size w w' := by
  obtain ⟨i0, hi, hz0, hz1, hz2⟩ := info_parts infoUs
  have HR := Lib.hid hr
  have HRR := Lib.hid hR
  have HG := Lib.hid (pgrow_us (catP R).length w (by omega))
  clear hr hR
  go_enter Tryz.func191, Tryz.ntmps191
  go_wp2
  go_loopw [3, 11] (fun v i wr => ∃ (j s : Nat), j ≤ R.length ∧ i = .int .i64 j ∧ v = .int .i64 s ∧ s ≤ 100000 ∧ Hid (s = (catP (R.take j)).length) ∧ wr = w) (fun _ i _ => R.length - (intOf i).toNat)
  case atStart => exact ⟨0, 0, by omega, rfl, rfl, by omega, rfl, rfl⟩
  case round =>
    obtain ⟨j, s, hj, rfl, rfl, hs1, HS, hw⟩ := hrel
    obtain rfl : w = wr := hw.symm
    clear hw
    by_cases hjl : j < R.length
    · obtain ⟨b, off, rfl, hbl, hc0⟩ := prows_at HR.out hjl
      have HN := Lib.hid (catP_take R j hjl)
      have hle := catP_le R (j + 1)
      rw [HN.out, List.length_append, ← HS.out] at hle
      generalize R[j] = x at *
      unfold pprV at hc0
      obtain ⟨xa, xl, xc⟩ := x
      simp only at hc0 hle HN
      have hsum : s + xl.length ≤ 100000 := by omega
      clear hle
      go_wp2
      go_roundw
      case rel => exact ⟨j + 1, s + xl.length, by omega, by go_num, by go_num, hsum, (by unfold Hid; rw [HN.out, List.length_append, ← HS.out]), (by first | rfl | trivial)⟩
      case measure => simp [intOf]; omega
    · obtain rfl : j = R.length := by omega
      rw [List.take_of_length_le (Nat.le_refl _)] at HS
      have HS2 := HS.out
      subst HS2
      go_wp2_with fail
      refine HG.out.mono ?_
      rintro e w1 ⟨v, rfl, ho, hb⟩
      have HO := Lib.hid ho
      have HB := Lib.hid hb
      clear ho hb HG HS
      go_wp2
      go_loopw [6, 27] (fun v i wx => ∃ (j : Nat), j ≤ R.length ∧ i = .int .i64 j ∧ Hid (wx.ownsRow w.heap.size 89 2 v (catP (R.take j)).length (pps (catP (R.take j)))) ∧ Hid (Below w.heap.size w wx)) (fun _ i _ => R.length - (intOf i).toNat)
      case atStart => exact ⟨0, by omega, rfl, HO.out, HB.out⟩
      case round =>
        obtain ⟨j, hj, rfl, HO, HB⟩ := hrel
        by_cases hjl : j < R.length
        · obtain ⟨b, off, rfl, hbl, hc0⟩ := prows_at (HR.out.below HB.out) hjl
          have HN := Lib.hid (catP_take R j hjl)
          have hle := catP_le R (j + 1)
          have hle2 := catP_le R j
          rw [HN.out, List.length_append] at hle
          have HX := Lib.hid (HRR.out _ (List.getElem_mem hjl))
          generalize R[j] = x at *
          unfold pprV at hc0
          obtain ⟨xa, xl, xc⟩ := x
          simp only at hc0 hle HN
          obtain ⟨hx1, hx3, hx2⟩ := HX.out
          simp only at hx1 hx2 hx3
          have HX1 := Lib.hid (hx1.below HB.out)
          have HX2 := Lib.hid hx2
          have HX3 := Lib.hid hx3
          generalize hct : catP (R.take j) = ct at *
          have hsum : ct.length + xl.length ≤ 1000000 := by omega
          clear hle hle2 hx1 hx2 hx3 HX hct
          go_wp2_with (at_builtin; refine wpList_append_pp _ rfl (.tmp 31) (.tmp 32) 34 rfl w.heap.size 89 i0 _ 40 Tryz.underlying34 hi hz0 hz1 hz2 (by decide) rfl _ ct rfl HO.out xa xc xl rfl HX1.out HX3.out HX2.out hsum HB.out.size ?_; intro v2 w2 hown2 hB2)
          have HO2 := Lib.hid hown2
          have HB2 := Lib.hid (HB.out.trans hB2)
          clear hown2 hB2
          go_wp2
          go_roundw
          case rel => exact ⟨j + 1, by omega, by go_num, (by unfold Hid; rw [HN.out]; exact HO2.out), HB2⟩
          case measure => simp [intOf]; omega
        · obtain rfl : j = R.length := by omega
          rw [List.take_of_length_le (Nat.le_refl _)] at HO
          go_wp2
          go_ret
          exact ⟨_, rfl, HO.out, HB.out⟩
theorem pgrow_tb (n : Nat) (w : World) (hn : n ≤ 1000000) : Calls Tryz.prog 216 #[.slice none 0 0, .int .i64 n] w fun e w' => ∃ v, e = .returned v ∧ w'.ownsRow w.heap.size 87 2 v 0 [] ∧ Below w.heap.size w w' := by
  obtain ⟨i0, hi, hz0, hz1, hz2⟩ := info_parts infoTb
  rcases Nat.eq_zero_or_pos n with h0 | h0
  · subst h0
    have h := Any8.slices_Grow_room Tryz.laysGrowTb none 0 0 0 w (by omega) (by omega) (by omega) (by omega)
    refine Calls.mono h ?_
    rintro e w' ⟨rfl, rfl⟩
    exact ⟨_, rfl, ⟨rfl, .inl ⟨rfl, rfl⟩⟩, Below.refl _ _⟩
  · have h := Any8.slices_Grow_grow Tryz.laysGrowTb i0 _ hi hz0 (by rw [hz1]; omega) none 0 0 n [] w (by omega) (by omega) (by rw [hz2]; omega) (by omega) (by simp) (fun _ => rfl) (fun a h => by cases h)
    refine Calls.mono h ?_
    rintro e w' ⟨rfl, rfl⟩
    have hge := grownCap_ge w (0 + n) 0 87
    have hle := grownCap_le_maxLen w (0 + n) 0 87 (by unfold maxLen; omega)
    refine ⟨_, rfl, ⟨rfl, .inr ⟨w.heap.size, _, _, rfl, Nat.le_refl _, heap_alloc_new w.drew _, Nat.zero_le _, hle, ?_, by simp⟩⟩, ?_⟩
    · simp only [Array.size_append, size_zeroCells]
      show 0 + (0 + n - 0) * 2 + (grownCap w (0 + n) 0 87 - (0 + n)) * 2 = grownCap w (0 + n) 0 87 * 2
      omega
    · exact (Below.refl w.heap.size w).drew.alloc (Nat.le_refl _) _
set_option maxHeartbeats 1000000 in
theorem pconcat_tb (a : Option Addr) (c : Nat) (R : List PpR) (w : World) (hr : Sl w a (R.map pprV)) (hR : ∀ r ∈ R, PpRAt w r) (hl : R.length ≤ 100000) (hs : (catP R).length ≤ 100000) :
    Calls Tryz.prog 200 #[.slice a R.length c] w fun e w' => ∃ v, e = .returned v ∧ w'.ownsRow w.heap.size 87 2 v (catP R).length (pps (catP R)) ∧ Below w.heap.size w w' := by
  obtain ⟨i0, hi, hz0, hz1, hz2⟩ := info_parts infoTb
  have HR := Lib.hid hr
  have HRR := Lib.hid hR
  have HG := Lib.hid (pgrow_tb (catP R).length w (by omega))
  clear hr hR
  go_enter Tryz.func200, Tryz.ntmps200
  go_wp2
  go_loopw [3, 11] (fun v i wr => ∃ (j s : Nat), j ≤ R.length ∧ i = .int .i64 j ∧ v = .int .i64 s ∧ s ≤ 100000 ∧ Hid (s = (catP (R.take j)).length) ∧ wr = w) (fun _ i _ => R.length - (intOf i).toNat)
  case atStart => exact ⟨0, 0, by omega, rfl, rfl, by omega, rfl, rfl⟩
  case round =>
    obtain ⟨j, s, hj, rfl, rfl, hs1, HS, hw⟩ := hrel
    obtain rfl : w = wr := hw.symm
    clear hw
    by_cases hjl : j < R.length
    · obtain ⟨b, off, rfl, hbl, hc0⟩ := prows_at HR.out hjl
      have HN := Lib.hid (catP_take R j hjl)
      have hle := catP_le R (j + 1)
      rw [HN.out, List.length_append, ← HS.out] at hle
      generalize R[j] = x at *
      unfold pprV at hc0
      obtain ⟨xa, xl, xc⟩ := x
      simp only at hc0 hle HN
      have hsum : s + xl.length ≤ 100000 := by omega
      clear hle
      go_wp2
      go_roundw
      case rel => exact ⟨j + 1, s + xl.length, by omega, by go_num, by go_num, hsum, (by unfold Hid; rw [HN.out, List.length_append, ← HS.out]), (by first | rfl | trivial)⟩
      case measure => simp [intOf]; omega
    · obtain rfl : j = R.length := by omega
      rw [List.take_of_length_le (Nat.le_refl _)] at HS
      have HS2 := HS.out
      subst HS2
      go_wp2_with fail
      refine HG.out.mono ?_
      rintro e w1 ⟨v, rfl, ho, hb⟩
      have HO := Lib.hid ho
      have HB := Lib.hid hb
      clear ho hb HG HS
      go_wp2
      go_loopw [6, 27] (fun v i wx => ∃ (j : Nat), j ≤ R.length ∧ i = .int .i64 j ∧ Hid (wx.ownsRow w.heap.size 87 2 v (catP (R.take j)).length (pps (catP (R.take j)))) ∧ Hid (Below w.heap.size w wx)) (fun _ i _ => R.length - (intOf i).toNat)
      case atStart => exact ⟨0, by omega, rfl, HO.out, HB.out⟩
      case round =>
        obtain ⟨j, hj, rfl, HO, HB⟩ := hrel
        by_cases hjl : j < R.length
        · obtain ⟨b, off, rfl, hbl, hc0⟩ := prows_at (HR.out.below HB.out) hjl
          have HN := Lib.hid (catP_take R j hjl)
          have hle := catP_le R (j + 1)
          have hle2 := catP_le R j
          rw [HN.out, List.length_append] at hle
          have HX := Lib.hid (HRR.out _ (List.getElem_mem hjl))
          generalize R[j] = x at *
          unfold pprV at hc0
          obtain ⟨xa, xl, xc⟩ := x
          simp only at hc0 hle HN
          obtain ⟨hx1, hx3, hx2⟩ := HX.out
          simp only at hx1 hx2 hx3
          have HX1 := Lib.hid (hx1.below HB.out)
          have HX2 := Lib.hid hx2
          have HX3 := Lib.hid hx3
          generalize hct : catP (R.take j) = ct at *
          have hsum : ct.length + xl.length ≤ 1000000 := by omega
          clear hle hle2 hx1 hx2 hx3 HX hct
          go_wp2_with (at_builtin; refine wpList_append_pp _ rfl (.tmp 31) (.tmp 32) 36 rfl w.heap.size 87 i0 _ 24 Tryz.underlying36 hi hz0 hz1 hz2 (by decide) rfl _ ct rfl HO.out xa xc xl rfl HX1.out HX3.out HX2.out hsum HB.out.size ?_; intro v2 w2 hown2 hB2)
          have HO2 := Lib.hid hown2
          have HB2 := Lib.hid (HB.out.trans hB2)
          clear hown2 hB2
          go_wp2
          go_roundw
          case rel => exact ⟨j + 1, by omega, by go_num, (by unfold Hid; rw [HN.out]; exact HO2.out), HB2⟩
          case measure => simp [intOf]; omega
        · obtain rfl : j = R.length := by omega
          rw [List.take_of_length_le (Nat.le_refl _)] at HO
          go_wp2
          go_ret
          exact ⟨_, rfl, HO.out, HB.out⟩
end Go.Proofs.YtjhdhfokhkcamaaGreat
namespace Go.Proofs.YtjhdhfokhkcamaaGreat
open Go.RowKit
set_option linter.unusedVariables false
set_option maxRecDepth 100000
set_option maxRecDepth 100000
set_option maxHeartbeats 4000000 in
theorem oequal_any (a b : Option Addr) (ca cb : Nat) (l m : List OpM) (w : World) (ha : OpSl w a l) (hb : OpSl w b m) (hla : l.length ≤ maxLen) (hlb : m.length ≤ maxLen) :
    Calls Tryz.prog 143 #[.slice a l.length ca, .slice b m.length cb] w fun e w' => e = .returned (.bool (decide (l = m))) ∧ Below w.heap.size w w' := by
  have HA := Lib.hid ha
  have HB := Lib.hid hb
  clear ha hb
  unfold maxLen at hla hlb
  by_cases hll : l.length = m.length
  · obtain ⟨n, hn⟩ : ∃ n, n = m.length := ⟨_, rfl⟩
    have HL : Hid (l.length = n) := hll.trans hn.symm
    have HM : Hid (m.length = n) := hn.symm
    rw [HL.out, HM.out]
    rw [HM.out] at hlb
    clear hll hn hla
    go_enter Tryz.func143, Tryz.ntmps143
    go_wp2
    go_loopw [13] (fun i wr => ∃ (j : Nat), j ≤ n ∧ i = .int .i64 j ∧ Hid (l.take j = m.take j) ∧ Hid (Drew w wr)) (fun i _ => n - (intOf i).toNat)
    case atStart => exact ⟨0, by omega, rfl, (by unfold Hid; rfl), Drew.refl _⟩
    case round =>
      obtain ⟨j, hj, rfl, HT, HD⟩ := hrel
      by_cases hjn : j < n
      · have hjl : j < l.length := by have := HL.out; omega
        have hjm : j < m.length := by have := HM.out; omega
        obtain ⟨b1, o1, rfl, hb1, hc0, hc1, hc2, hc3⟩ := (HA.out.below (HD.out.below _)).at_ hjl
        obtain ⟨b2, o2, rfl, hb2, hd0, hd1, hd2, hd3⟩ := (HB.out.below (HD.out.below _)).at_ hjm
        have HN := Lib.hid (take_same hjl hjm HT.out)
        have HNE : Hid (l[j] ≠ m[j] → l ≠ m) := fun h e => h (by subst e; rfl)
        generalize l[j] = x at *
        generalize m[j] = y at *
        clear hjl hjm
        obtain ⟨f1, t1, n1, s1⟩ := x
        obtain ⟨f2, t2, n2, s2⟩ := y
        dsimp only at *
        by_cases h0 : f1 = f2
        · subst h0
          have he0 : (f1 == f1) = true := beq_self_eq_true _
          by_cases h1 : t1 = t2
          · subst h1
            have he1 := txt_eq t1
            by_cases h2 : n1 = n2
            · subst h2
              have he2 : (n1 == n1) = true := beq_self_eq_true _
              by_cases h3 : s1 = s2
              · subst h3
                have he3 : (s1 == s1) = true := beq_self_eq_true _
                have HN2 := Lib.hid (HN.out rfl)
                clear HN HNE
                go_wp2
                go_quiet (fail)
                go_wp2
                go_roundw
                case rel => exact ⟨j + 1, by omega, by go_num, HN2, HD.out.trans ⟨_, rfl⟩⟩
                case measure => simp [intOf]; omega
              · have HF : Hid (decide (l = m) = false) := decide_eq_false (HNE.out (fun e => h3 (congrArg OpM.f e)))
                have heq : (s1 == s2) = false := beq_eq_false_iff_ne.2 h3
                clear HN HNE
                go_wp2
                go_quiet (fail)
                go_wp2
                go_ret
                exact ⟨by rw [HF.out]; rfl, (HD.out.trans ⟨_, rfl⟩).below _⟩
            · have HF : Hid (decide (l = m) = false) := decide_eq_false (HNE.out (fun e => h2 (congrArg OpM.s e)))
              have heq : (n1 == n2) = false := beq_eq_false_iff_ne.2 h2
              clear HN HNE
              go_wp2
              go_quiet (fail)
              go_wp2
              go_ret
              exact ⟨by rw [HF.out]; rfl, (HD.out.trans ⟨_, rfl⟩).below _⟩
          · have HF : Hid (decide (l = m) = false) := decide_eq_false (HNE.out (fun e => h1 (congrArg OpM.u e)))
            have heq := txt_ne h1
            clear HN HNE
            go_wp2
            go_quiet (fail)
            go_wp2
            go_ret
            exact ⟨by rw [HF.out]; rfl, (HD.out.trans ⟨_, rfl⟩).below _⟩
        · have HF : Hid (decide (l = m) = false) := decide_eq_false (HNE.out (fun e => h0 (congrArg OpM.n e)))
          have heq : (f1 == f2) = false := beq_eq_false_iff_ne.2 h0
          clear HN HNE
          go_wp2
          go_quiet (fail)
          go_wp2
          go_ret
          exact ⟨by rw [HF.out]; rfl, (HD.out.trans ⟨_, rfl⟩).below _⟩
      · obtain rfl : j = n := by omega
        have HE : Hid (decide (l = m) = true) := decide_eq_true (by
          have := HT.out
          rwa [List.take_of_length_le (Nat.le_of_eq HL.out), List.take_of_length_le (Nat.le_of_eq HM.out)] at this)
        go_wp2
        go_ret
        exact ⟨by rw [HE.out]; rfl, HD.out.below _⟩
  · have HE : Hid (decide (l = m) = false) := decide_eq_false (fun e => hll (by rw [e]))
    have hne : ((l.length : Int) == (m.length : Int)) = false := beq_eq_false_iff_ne.2 (by omega)
    go_enter Tryz.func143, Tryz.ntmps143
    go_wp2
    go_ret
    exact ⟨by rw [HE.out]; rfl, Below.refl _ _⟩
set_option maxHeartbeats 4000000 in
theorem orefSame_any (a b : Option Addr) (ca cb : Nat) (l m : List OpM) (w : World) (ha : OpSl w a l) (hb : OpSl w b m) (hla : l.length ≤ maxLen) (hlb : m.length ≤ maxLen) :
    Calls Tryz.prog 54 #[.slice a l.length ca, .slice b m.length cb] w fun e w' => e = .returned (.bool (decide (l = m))) ∧ Below w.heap.size w w' := by
  have HA := Lib.hid ha
  have HB := Lib.hid hb
  clear ha hb
  unfold maxLen at hla hlb
  by_cases hll : l.length = m.length
  · obtain ⟨n, hn⟩ : ∃ n, n = m.length := ⟨_, rfl⟩
    have HL : Hid (l.length = n) := hll.trans hn.symm
    have HM : Hid (m.length = n) := hn.symm
    rw [HL.out, HM.out]
    rw [HM.out] at hlb
    clear hll hn hla
    go_enter Tryz.func54, Tryz.ntmps54
    go_wp2
    go_loopw [5] (fun i wr => ∃ (j : Nat), j ≤ n ∧ i = .int .i64 j ∧ Hid (l.take j = m.take j) ∧ Hid (Drew w wr)) (fun i _ => n - (intOf i).toNat)
    case atStart => exact ⟨0, by omega, rfl, (by unfold Hid; rfl), Drew.refl _⟩
    case round =>
      obtain ⟨j, hj, rfl, HT, HD⟩ := hrel
      by_cases hjn : j < n
      · have hjl : j < l.length := by have := HL.out; omega
        have hjm : j < m.length := by have := HM.out; omega
        obtain ⟨b1, o1, rfl, hb1, hc0, hc1, hc2, hc3⟩ := (HA.out.below (HD.out.below _)).at_ hjl
        obtain ⟨b2, o2, rfl, hb2, hd0, hd1, hd2, hd3⟩ := (HB.out.below (HD.out.below _)).at_ hjm
        have HN := Lib.hid (take_same hjl hjm HT.out)
        have HNE : Hid (l[j] ≠ m[j] → l ≠ m) := fun h e => h (by subst e; rfl)
        generalize l[j] = x at *
        generalize m[j] = y at *
        clear hjl hjm
        obtain ⟨f1, t1, n1, s1⟩ := x
        obtain ⟨f2, t2, n2, s2⟩ := y
        dsimp only at *
        by_cases h0 : f1 = f2
        · subst h0
          have he0 : (f1 == f1) = true := beq_self_eq_true _
          by_cases h1 : t1 = t2
          · subst h1
            have he1 := txt_eq t1
            by_cases h2 : n1 = n2
            · subst h2
              have he2 : (n1 == n1) = true := beq_self_eq_true _
              by_cases h3 : s1 = s2
              · subst h3
                have he3 : (s1 == s1) = true := beq_self_eq_true _
                have HN2 := Lib.hid (HN.out rfl)
                clear HN HNE
                go_wp2
                go_quiet (fail)
                go_wp2
                go_roundw
                case rel => exact ⟨j + 1, by omega, by go_num, HN2, HD.out.trans ⟨_, rfl⟩⟩
                case measure => simp [intOf]; omega
              · have HF : Hid (decide (l = m) = false) := decide_eq_false (HNE.out (fun e => h3 (congrArg OpM.f e)))
                have heq : (s1 == s2) = false := beq_eq_false_iff_ne.2 h3
                clear HN HNE
                go_wp2
                go_quiet (fail)
                go_wp2
                go_ret
                exact ⟨by rw [HF.out]; rfl, (HD.out.trans ⟨_, rfl⟩).below _⟩
            · have HF : Hid (decide (l = m) = false) := decide_eq_false (HNE.out (fun e => h2 (congrArg OpM.s e)))
              have heq : (n1 == n2) = false := beq_eq_false_iff_ne.2 h2
              clear HN HNE
              go_wp2
              go_quiet (fail)
              go_wp2
              go_ret
              exact ⟨by rw [HF.out]; rfl, (HD.out.trans ⟨_, rfl⟩).below _⟩
          · have HF : Hid (decide (l = m) = false) := decide_eq_false (HNE.out (fun e => h1 (congrArg OpM.u e)))
            have heq := txt_ne h1
            clear HN HNE
            go_wp2
            go_quiet (fail)
            go_wp2
            go_ret
            exact ⟨by rw [HF.out]; rfl, (HD.out.trans ⟨_, rfl⟩).below _⟩
        · have HF : Hid (decide (l = m) = false) := decide_eq_false (HNE.out (fun e => h0 (congrArg OpM.n e)))
          have heq : (f1 == f2) = false := beq_eq_false_iff_ne.2 h0
          clear HN HNE
          go_wp2
          go_quiet (fail)
          go_wp2
          go_ret
          exact ⟨by rw [HF.out]; rfl, (HD.out.trans ⟨_, rfl⟩).below _⟩
      · obtain rfl : j = n := by omega
        have HE : Hid (decide (l = m) = true) := decide_eq_true (by
          have := HT.out
          rwa [List.take_of_length_le (Nat.le_of_eq HL.out), List.take_of_length_le (Nat.le_of_eq HM.out)] at this)
        go_wp2
        go_ret
        exact ⟨by rw [HE.out]; rfl, HD.out.below _⟩
  · have HE : Hid (decide (l = m) = false) := decide_eq_false (fun e => hll (by rw [e]))
    have hne : ((l.length : Int) == (m.length : Int)) = false := beq_eq_false_iff_ne.2 (by omega)
    go_enter Tryz.func54, Tryz.ntmps54
    go_wp2
    go_ret
    exact ⟨by rw [HE.out]; rfl, Below.refl _ _⟩
theorem osame_any (a b : Option Addr) (ca cb : Nat) (l m : List OpM) (w : World) (ha : OpSl w a l) (hb : OpSl w b m) (hla : l.length ≤ maxLen) (hlb : m.length ≤ maxLen) :
    Calls Tryz.prog 81 #[.slice a l.length ca, .slice b m.length cb] w fun e w' => e = .returned (.bool (decide (l = m))) ∧ Below w.heap.size w w' := by
  have HC := Lib.hid (oequal_any a b ca cb l m w ha hb hla hlb)
  unfold maxLen at hla hlb
  clear ha hb
  go_enter Tryz.func81, Tryz.ntmps81
  go_wp2_with fail
  refine HC.out.mono ?_
  rintro e w2 ⟨rfl, h2⟩
  go_wp2
  go_ret
  exact ⟨rfl, h2⟩
end Go.Proofs.YtjhdhfokhkcamaaGreat
