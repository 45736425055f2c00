/- Layer 5: a map from texts to values in memory, told as a row of pairs. -/
import Derived.Test.YtammmhbkfdmbfaaS1
import Derived.Maps.RangeWalk
import Derived.Maps.OwnSet
import Derived.Maps.Ext
import Derived.Sort.KeysCollected
namespace Go.Proofs.Ytammmhbkfdmbfaa
open Go.RowKit
open Go.Maps (Keyed)
set_option linter.unusedVariables false

def valR (v : Value) : Option (DataW Value × List MemPlace) := some (.held v, [])
def ent (x : Nm × Value) : Lit × DataW Value := (.string x.1, .held x.2)
theorem sKey : Keyed Try.prog 9 := Maps.string_keyed Try.underlying9
theorem uMap : Try.prog.underlying 69 = some (.map 9 77) := Try.underlying69
/-- a file's value: its bytes, and how many of them are safe -/
def cv (v : Value) (n : Nat) : Value := .agg #[v, .int .i64 n]
theorem zeroC (w : World) : (zeroValue 77).run Try.prog w = .ok (cv (.slice none 0 0) 0) w := by kernel_rfl

/-- block b is a map that holds just these pairs -/
def Fs (w : World) (b : Nat) (E : List (Nm × Value)) : Prop := ∃ es, w.ownsMap Try.prog 9 valR b E.length (.map es) ∧ es.Perm (E.map ent)
def noKey (k : Nm) (x : Nm × Value) : Bool := x.1 != k
def lookE (E : List (Nm × Value)) (k : Nm) : Option Value := (E.find? fun x => x.1 == k).map (·.2)

theorem ownsMap_tight {w : World} {b n : Nat} {D : DataW Value} (h : w.ownsMap Try.prog 9 valR b n D) : w.ownsMap Try.prog 9 valR b (Maps.size D) D := by
  obtain ⟨es, clock, hb, F, hs, rfl⟩ := h
  exact ⟨es, clock, hb, F, by simp [Maps.size, length_sorted], rfl⟩
theorem Fs.of {w : World} {b n : Nat} {es : List (Lit × DataW Value)} {E : List (Nm × Value)} (h : w.ownsMap Try.prog 9 valR b n (.map es)) (p : es.Perm (E.map ent)) : Fs w b E := by
  refine ⟨es, ?_, p⟩
  have := ownsMap_tight h
  have e : Maps.size (.map es : DataW Value) = E.length := by rw [Maps.size_eq, p.length_eq, List.length_map]
  rwa [e] at this
theorem Fs.made (w : World) : Fs (w.alloc (.map #[] 0)) w.heap.size [] := ⟨[], World.ownsMap_made w _ _ _, List.Perm.refl _⟩
theorem Fs.perm {w : World} {b : Nat} {E E' : List (Nm × Value)} (h : Fs w b E) (p : E.Perm E') : Fs w b E' := by
  obtain ⟨es, h1, h2⟩ := h
  exact .of h1 (h2.trans (p.map ent))
theorem Fs.lt {w : World} {b : Nat} {E : List (Nm × Value)} (h : Fs w b E) : b < w.heap.size := by obtain ⟨es, h1, _⟩ := h; exact h1.lt
theorem Fs.same {w w' : World} {b : Nat} {E : List (Nm × Value)} (h : Fs w b E) (e : w'.heap[b]? = w.heap[b]?) : Fs w' b E := by
  obtain ⟨es, ⟨xs, clock, hb, r⟩, p⟩ := h
  exact ⟨es, ⟨xs, clock, e.trans hb, r⟩, p⟩
theorem Fs.obj {w : World} {b : Nat} {E : List (Nm × Value)} (h : Fs w b E) : ∃ xs clock, w.heap[b]? = some (.map xs clock) := by
  obtain ⟨es, ⟨xs, clock, hb, r⟩, p⟩ := h
  exact ⟨xs, clock, hb⟩
theorem Fs.nodup {w : World} {b : Nat} {E : List (Nm × Value)} (h : Fs w b E) : (E.map (·.1)).Nodup := by
  obtain ⟨es, h1, p⟩ := h
  obtain ⟨es', hD, hpw, _⟩ := h1.entries sKey
  obtain rfl : es = es' := by simpa using hD
  have h2 : (E.map ent).Pairwise (fun p q => p.1 ≠ q.1) := (p.pairwise_iff (fun {a b} (h : a.1 ≠ b.1) => h.symm)).1 hpw
  rw [List.pairwise_map] at h2
  exact List.pairwise_map.2 (h2.imp fun h e => h (by simp [ent, e]))
theorem any_ent (E : List (Nm × Value)) (k : Nm) : (E.map ent).any (fun p => p.1.sameKey (.string k)) = (lookE E k).isSome := by
  induction E with
  | nil => rfl
  | cons x r ih =>
    rw [List.map_cons, List.any_cons, ih]
    unfold lookE
    rw [List.find?_cons]
    by_cases h : (x.1 == k) = true
    · have : x.1 = k := by simpa using h
      simp [ent, Lit.sameKey, this]
    · have h' : (x.1 == k) = false := by simpa using h
      have : ¬ x.1 = k := by simpa using h
      simp [h', ent, Lit.sameKey]
theorem Fs.has {w : World} {b : Nat} {E : List (Nm × Value)} {es : List (Lit × DataW Value)} (p : es.Perm (E.map ent)) (k : Nm) : Maps.has (.map es : DataW Value) (.string k) = (lookE E k).isSome := by
  rw [Maps.has_eq, p.any_eq, any_ent]
theorem lookE_mem {E : List (Nm × Value)} {k : Nm} {v : Value} (h : lookE E k = some v) : (k, v) ∈ E := by
  unfold lookE at h
  obtain ⟨x, hx, rfl⟩ := Option.map_eq_some_iff.1 h
  have := List.find?_some hx
  have e : x.1 = k := by simpa using this
  rw [← e]
  exact List.mem_of_find?_eq_some hx
theorem at_ent {es : List (Lit × DataW Value)} {E : List (Nm × Value)} (p : es.Perm (E.map ent)) (hn : es.Pairwise (fun p q => p.1 ≠ q.1)) (k : Nm) (z : Value) :
    (DataW.map es).atKey (.string k) (.held z) = .held ((lookE E k).getD z) := by
  cases h : lookE E k with
  | none =>
    have h1 : Maps.has (.map es : DataW Value) (.string k) = false := by rw [Fs.has (w := default) (b := 0) p, h]; rfl
    have h2 : es.find? (fun p => p.1.sameKey (.string k)) = none := by
      rw [Maps.has_eq] at h1
      rw [List.find?_eq_none]
      intro x hx hxs
      exact List.any_eq_false.1 h1 x hx hxs
    simp only [DataW.atKey, h2]; rfl
  | some v =>
    have hm : (Lit.string k, DataW.held v) ∈ es := p.mem_iff.2 (List.mem_map.2 ⟨(k, v), lookE_mem h, rfl⟩)
    exact WideAt.atKey_mem (DataW.held z) (by trivial) hn hm
theorem keyS {s : ByteArray} (hs : s.size ≤ maxLen) : keyOf Try.prog 9 (.string s) = some (.string (toL s)) := WideMaps.keyOf_string_mk Try.underlying9 hs

/-- a look-up -/
theorem Fs.look {w : World} {b : Nat} {E : List (Nm × Value)} (h : Fs w b E) {s : ByteArray} (hs : s.size ≤ maxLen) :
    (Instr.lookup 69 (.map (some b)) (.string s) false).run Try.prog w = .ok ((lookE E (toL s)).getD (cv (.slice none 0 0) 0)) w := by
  obtain ⟨es, h1, p⟩ := h
  obtain ⟨es', hD, hpw, _⟩ := h1.entries sKey
  obtain rfl : es = es' := by simpa using hD
  obtain ⟨v, ps, hr, hv⟩ := h1.lookup sKey uMap (zeroC w) (zd := .held _) (zp := []) rfl (keyS hs)
  rw [at_ent p hpw] at hv
  rw [hr]
  unfold valR at hv
  simp only [Option.some.injEq, Prod.mk.injEq, DataW.held.injEq] at hv
  rw [hv.1]
theorem Fs.look_ok {w : World} {b : Nat} {E : List (Nm × Value)} (h : Fs w b E) {s : ByteArray} (hs : s.size ≤ maxLen) :
    (Instr.lookup 69 (.map (some b)) (.string s) true).run Try.prog w = .ok (.tuple #[(lookE E (toL s)).getD (cv (.slice none 0 0) 0), .bool (lookE E (toL s)).isSome]) w := by
  obtain ⟨es, h1, p⟩ := h
  obtain ⟨es', hD, hpw, _⟩ := h1.entries sKey
  obtain rfl : es = es' := by simpa using hD
  obtain ⟨v, ps, hr, hv⟩ := h1.look_ok sKey uMap (zeroC w) (zd := .held _) (zp := []) rfl (keyS hs)
  rw [at_ent p hpw] at hv
  rw [hr, Fs.has (w := w) (b := b) p]
  unfold valR at hv
  simp only [Option.some.injEq, Prod.mk.injEq, DataW.held.injEq] at hv
  rw [hv.1]
theorem filt_ent (E : List (Nm × Value)) (k : Nm) : (E.map ent).filter (fun p => !p.1.sameKey (.string k)) = (E.filter (noKey k)).map ent := by
  rw [List.filter_map]
  congr 1
theorem Fs.store {w : World} {b : Nat} {E : List (Nm × Value)} (h : Fs w b E) {s : ByteArray} (hs : s.size ≤ maxLen) (hl : E.length < maxLen) (v : Value) :
    ∃ w', (Instr.mapUpdate 69 (.map (some b)) (.string s) v).run Try.prog w = .ok () w' ∧ Fs w' b ((toL s, v) :: E.filter (noKey (toL s))) ∧ w.grownBy w' (some b) := by
  obtain ⟨es, h1, p⟩ := h
  obtain ⟨w', hr, h2, h3⟩ := h1.store (d := .held v) (ps := []) sKey uMap hl (keyS hs) rfl
  refine ⟨w', hr, ?_, h3.grown⟩
  refine .of h2 ?_
  refine (WideShapes.insert_perm _ _).trans ?_
  rw [List.map_cons]
  refine List.Perm.cons _ ?_
  have := p.filter (fun p => !p.1.sameKey (.string (toL s)))
  rwa [filt_ent] at this
theorem Fs.drop {w : World} {b : Nat} {E : List (Nm × Value)} (h : Fs w b E) {s : ByteArray} (hs : s.size ≤ maxLen) (ty : TypeId) :
    ∃ w', (Builtin.delete_ #[69, 9] ty #[.map (some b), .string s]).run Try.prog w = .ok (.tuple #[]) w' ∧ Fs w' b (E.filter (noKey (toL s))) ∧ w.grownBy w' (some b) := by
  obtain ⟨es, h1, p⟩ := h
  obtain ⟨w', hr, h2, h3⟩ := h1.drop sKey uMap (keyS hs) ty
  refine ⟨w', hr, ?_, h3.grown⟩
  refine .of h2 ?_
  have := p.filter (fun p => !p.1.sameKey (.string (toL s)))
  rwa [filt_ent] at this
theorem Fs.keys {w : World} {b : Nat} {E : List (Nm × Value)} {es : List (Lit × DataW Value)} (p : es.Perm (E.map ent)) : (strKeys (.map es : DataW Value)).Perm (E.map (·.1)) := by
  show (es.map fun p => strOf p.1).Perm _
  refine (p.map _).trans ?_
  rw [List.map_map]
  exact List.Perm.refl _
end Go.Proofs.Ytammmhbkfdmbfaa
