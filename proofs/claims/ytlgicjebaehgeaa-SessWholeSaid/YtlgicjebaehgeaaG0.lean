/- Words that my texts use: rows of texts in memory, worlds that only grow, what a contract leaves. -/
import Derived.Test.YtlgicjebaehgeaaProg
import Derived.WalkKit
import Derived.WalkLawsBesides
import Derived.Lib.Hide
import Derived.Lib.Bytealg
import Derived.Deep.QuietTactic
import Derived.BigQuiet
import Derived.Deep.Draws
import Derived.Below
import Derived.WalkSmall
import Derived.OwnWalk
import Derived.Maps.AppendAt
import Derived.Laws.AppendOwnNone
namespace Go.Proofs.Ytlgicjebaehgeaa
open Go.RowKit
set_option linter.unusedVariables false
set_option maxRecDepth 100000

theorem retB {a b : Bool} (h : a = b) : Ending.returned (.bool a) = .returned (.bool b) := by rw [h]
theorem retI {k : IntKind} {a b : Int} (h : a = b) : Ending.returned (.int k a) = .returned (.int k b) := by rw [h]
theorem retS {a b : ByteArray} (h : a = b) : Ending.returned (.string a) = .returned (.string b) := by rw [h]

def toL (b : ByteArray) : List UInt8 := b.data.toList
/-- a text out of its bytes -/
def tx (l : List UInt8) : ByteArray := ⟨l.toArray⟩
theorem toL_tx (l : List UInt8) : toL (tx l) = l := by simp [toL, tx]
theorem tx_toL (b : ByteArray) : tx (toL b) = b := by cases b; simp [toL, tx]
theorem tx_size (l : List UInt8) : (tx l).size = l.length := by simp [tx, ByteArray.size]
theorem toL_length (b : ByteArray) : (toL b).length = b.size := by simp [toL]
theorem tx_data (l : List UInt8) : (tx l).data.toList = l := by simp [tx]
theorem tx_inj {a b : List UInt8} (h : tx a = tx b) : a = b := by rw [← toL_tx a, h, toL_tx]
theorem toL_inj {a b : ByteArray} (h : toL a = toL b) : a = b := by rw [← tx_toL a, h, tx_toL]
theorem tx_append (a b : List UInt8) : tx a ++ tx b = tx (a ++ b) := by
  apply toL_inj
  simp [toL, tx]
theorem toList_tx (l : List UInt8) : (tx l).toList = l := by rw [ByteArray.toList_eq]; simp [tx]

/-- the slice that begins at a (if it has any element) holds the values xs, one cell each -/
def Sl (w : World) (a : Option Addr) (xs : List Value) : Prop :=
  ∀ k (h : k < xs.length), ∃ b off, a = some ⟨b, off, none⟩ ∧ b < w.heap.size ∧ w.cell? ⟨b, off + k, none⟩ = some xs[k]
theorem Sl.below {w w' : World} {a : Option Addr} {xs : List Value} (h : Sl w a xs) (hb : Below w.heap.size w w') : Sl w' a xs := fun k hk => by
  obtain ⟨b, off, e, hlt, hc⟩ := h k hk
  exact ⟨b, off, e, Nat.lt_of_lt_of_le hlt hb.size, (hb.cell (p := ⟨b, off + k, none⟩) hlt).trans hc⟩
theorem Sl.drewN {w : World} {a : Option Addr} {xs : List Value} (h : Sl w a xs) (n : Nat) : Sl (w.drewN n) a xs := h
theorem Sl.nil (w : World) (a : Option Addr) : Sl w a [] := fun k hk => absurd hk (by simp)

/-- the values of texts -/
def strs (l : List ByteArray) : List Value := l.map .string
theorem strs_length (l : List ByteArray) : (strs l).length = l.length := by simp [strs]
theorem Sl.str {w : World} {a : Option Addr} {l : List ByteArray} (h : Sl w a (strs l)) {k : Nat} (hk : k < l.length) :
    ∃ b off, a = some ⟨b, off, none⟩ ∧ b < w.heap.size ∧ w.cell? ⟨b, off + k, none⟩ = some (.string l[k]) := by
  obtain ⟨b, off, e, hlt, hc⟩ := h k (by rw [strs_length]; exact hk)
  exact ⟨b, off, e, hlt, by rw [hc]; simp [strs]⟩
/-- texts that a machine can hold -/
def Fits (l : List ByteArray) : Prop := l.length ≤ maxLen ∧ ∀ s ∈ l, s.size ≤ maxLen

/-- the world is as it was, but for the count of draws -/
def Drew (w w' : World) : Prop := ∃ n, w' = w.drewN n
theorem Drew.refl (w : World) : Drew w w := ⟨0, rfl⟩
theorem Drew.heap {w w' : World} (h : Drew w w') : w'.heap = w.heap := by obtain ⟨n, rfl⟩ := h; rfl
theorem Drew.le {w w' : World} (h : Drew w w') {B : Nat} (hB : B ≤ w.heap.size) : B ≤ w'.heap.size := by rw [h.heap]; exact hB
theorem Drew.below {w w' : World} (h : Drew w w') (B : Nat) : Below B w w' := by obtain ⟨n, rfl⟩ := h; exact ⟨rfl, rfl, rfl, Nat.le_refl _, fun _ _ => rfl⟩
theorem Drew.own {w w' : World} (h : Drew w w') {B e k : Nat} {v : Value} {n : Nat} {xs : List Value} (ho : w.ownsRow B e k v n xs) : w'.ownsRow B e k v n xs := by
  obtain ⟨n, rfl⟩ := h; exact ho
theorem Drew.cell {w w' : World} (h : Drew w w') (a : Addr) : w'.cell? a = w.cell? a := by obtain ⟨n, rfl⟩ := h; rfl
theorem Drew.trans {w w' w'' : World} (h : Drew w w') (k : Drew w' w'') : Drew w w'' := by
  obtain ⟨n, rfl⟩ := h; obtain ⟨m, rfl⟩ := k; exact ⟨_, by rw [World.drewN_drewN]⟩
theorem Drew.drew {w w' : World} (h : Drew w w') : Drew w w'.drew := by
  obtain ⟨n, rfl⟩ := h; exact ⟨n + 1, rfl⟩

theorem Try.infoStr : (Try.prog.info? 9).map (fun i => (i.zero, i.size, i.bytes)) = some (some (.string ⟨#[]⟩), 1, 16) := by kernel_rfl
theorem Try.infoByte : (Try.prog.info? 5).map (fun i => (i.zero, i.size, i.bytes)) = some (some (.int .u8 0), 1, 1) := by kernel_rfl

/-- what is behind an append of one text, in the words of the loop -/
theorem own_next {W w1 w2 : World} {B : Nat} {t : TypeId} {v v' : Value} {n : Nat} {xs ys : List Value} {o : Obj} (hB : Below B W w1) (hs : B ≤ w1.heap.size) (hown : w1.ownsRow B t 1 v n xs)
    (hown' : w2.ownsRow B t 1 v' (n + 1) ys) (hg : (w1.alloc o).grownBy w2 v.ownBlock) : Below B W w2 ∧ B ≤ w2.heap.size := by
  have h1 : Below B W (w1.alloc o) := hB.alloc hs o
  have h2 := h1.grown hg (by simp; omega) (fun k hk => (hown.lt k hk).1)
  exact ⟨h2, by have := hg.size; simp at this; omega⟩

theorem own_slice {w : World} {B e n : Nat} {v : Value} {xs : List Value} (h : w.ownsRow B e 1 v n xs) : ∃ a c, v = .slice a n c ∧ n ≤ c ∧ c ≤ maxLen ∧ Sl w a xs ∧ (∀ b o, a = some ⟨b, o, none⟩ → B ≤ b) ∧ (a = none → c = 0) := by
  rcases h.2 with ⟨rfl, rfl⟩ | ⟨g, cap, cur, rfl, hg, hh, hn, hc, hsz, ht⟩
  · refine ⟨none, 0, rfl, Nat.le_refl _, by unfold maxLen; omega, ?_, fun b o e => (by cases e), fun _ => rfl⟩
    have : xs = [] := List.eq_nil_of_length_eq_zero (by simpa using h.1)
    subst this
    exact Sl.nil _ _
  · refine ⟨_, cap, rfl, hn, hc, fun k hk => ⟨g, 0, rfl, ?_, ?_⟩, fun b o e => (by cases e; exact hg), fun e => by cases e⟩
    · rcases Nat.lt_or_ge g w.heap.size with h1 | h1
      · exact h1
      · rw [Array.getElem?_eq_none h1] at hh; cases hh
    · have hl := h.1
      simp only [Nat.mul_one] at hl ht
      rw [cell_of_row w g (0 + k) cur e (0, 0) hh, Nat.zero_add]
      subst ht
      simp at hk
      simp [Array.getElem?_eq_getElem (show k < cur.size by omega)]
theorem own_base {w : World} {B B' e k n : Nat} {v : Value} {xs : List Value} (h : w.ownsRow B e k v n xs) (hB : B' ≤ B) : w.ownsRow B' e k v n xs := by
  refine ⟨h.1, ?_⟩
  rcases h.2 with h | ⟨g, cap, cur, r1, r2, r3⟩
  · exact .inl h
  · exact .inr ⟨g, cap, cur, r1, Nat.le_trans hB r2, r3⟩

theorem sl_lit (w : World) (xs : Array Value) (t : TypeId) : Sl (w.alloc (.cells xs t)) (some ⟨w.heap.size, 0, none⟩) xs.toList := fun k hk => by
  refine ⟨_, _, rfl, by simp, ?_⟩
  rw [cell_of_row _ _ _ xs t (0, 0) (heap_alloc_new w _), Nat.zero_add]
  have : k < xs.size := by simpa using hk
  simp [Array.getElem?_eq_getElem this]
theorem cell_mid (W : World) (xs : Array Value) (t : TypeId) (o : Obj) (i g : Nat) (v : Value) (hg : g = W.heap.size) (h : xs[i]? = some v) : ((W.alloc (.cells xs t)).alloc o).cell? ⟨g, i, none⟩ = some v := by
  subst hg
  rw [World.cell?_alloc_lt _ _ _ (by simp), cell_of_row _ _ _ xs t (0, 0) (heap_alloc_new W _), h]

theorem Sl.cells {w : World} {ad : Addr} {xs : List Value} (h : Sl w (some ad) xs) : ∀ j u, xs[j]? = some u → w.cell? (ad.add j) = some u := fun j u hu => by
  have hj : j < xs.length := by
    rcases Nat.lt_or_ge j xs.length with h1 | h1
    · exact h1
    · rw [List.getElem?_eq_none h1] at hu; cases hu
  obtain ⟨b, off, e, _, hc⟩ := h j hj
  cases e
  rw [Go.WideShapes.add_plain, hc]
  rw [List.getElem?_eq_getElem hj] at hu
  exact hu

theorem wpList_append_sl {P : Program} (w : World) {ops : Array Oper} {rest : List Oper} {o : Oper} {a : Act} {Q : Exit → Act → World → Prop} (hgd : o.guard = none) (s x : Operand) (t : TypeId)
    (ho : o.op = .call { callee := .builtin .append, args := #[s, x], argTypes := #[t, t] })
    (base : Nat) (e : TypeId) (i : TypeInfo) (z : Value) (bytes : Nat) (ht : P.underlying t = some (.slice e)) (hi : P.info? e = some i) (hz : i.zero = some z)
    (hsize : i.size = 1) (hby : i.bytes = bytes) (hzs : z.cells.size = 1)
    (v : Value) (n : Nat) (xs : List Value) (hs : a.eval s = v) (hown : w.ownsRow base e 1 v n xs)
    (A : Option Addr) (m c : Nat) (news : List Value) (hx : a.eval x = .slice A m c) (hsl : Sl w A news) (hm : news.length = m) (hnil : A = none → c = 0) (h1 : ∀ u ∈ news, u.oneCell' = true)
    (h63 : n + m ≤ maxLen) (hbytes : (n + m) * bytes ≤ 140737488355328) (hbase : base ≤ w.heap.size)
    (h : ∀ v' w', w'.ownsRow base e 1 v' (n + m) (xs ++ news) → w.grownBy w' v.ownBlock → wpList P ops Q rest (a.put o.dst v') w') : wpList P ops Q (o :: rest) a w := by
  cases A with
  | none =>
    have hc := hnil rfl
    subst hc
    have hm0 : m = 0 := by
      rcases Nat.eq_zero_or_pos m with h0 | h0
      · exact h0
      · obtain ⟨_, _, e, _⟩ := hsl 0 (by omega)
        cases e
    subst hm0
    have hn : news = [] := List.eq_nil_of_length_eq_zero hm
    subst hn
    exact wpList_append_own_none hgd s x t ho base e i 1 ht hi v n xs hs hown hx (h v w (by simpa using hown) (World.grownBy.refl w _))
  | some ad =>
    exact wpList_append_own w hgd s x t ho base e i z 1 bytes ht hi hz hsize hby hzs (by decide) v n xs hs hown ad m c news hx (by omega) hsl.cells h1 h63 hbytes hbase (fun v' w' h2 h3 _ => h v' w' h2 h3)

/-- two texts are the same, as the model asks it -/
theorem eqT (a b : List UInt8) : ((tx a).toList == (tx b).toList) = decide (a = b) := by
  rw [toList_tx, toList_tx]
  by_cases h : a = b
  · subst h; simp
  · rw [decide_eq_false h]; simpa using h
end Go.Proofs.Ytlgicjebaehgeaa
