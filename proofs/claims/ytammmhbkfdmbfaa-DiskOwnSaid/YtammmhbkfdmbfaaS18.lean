/- Contracts of layer 5: Copy. -/
import Derived.Test.YtammmhbkfdmbfaaS17
import Derived.Deep.LoopGhost
namespace Go.Proofs.Ytammmhbkfdmbfaa
open Go.RowKit Go.Maps
open Go.WideElems (Fit rd rg pl rd_val)
set_option linter.unusedVariables false

theorem run_makeMap_n (n : Nat) (w : World) : (Instr.makeMap 69 (some (.int .i64 (n : Int)))).run Try.prog w = .ok (.map (some w.heap.size)) (w.alloc (.map #[] 0)) := by
  simp [Instr.makeMap, run_underlying uMap, asInt, asIntOf, Result.andThen]

/-- the clone of a file's bytes -/
theorem clone_any (f : FileM) (a : Option Addr) (c : Nat) (w : World) (h : Row w (f, .slice a f.bytes.length c)) (hb : f.bytes.length ≤ 10000000000) :
    Calls Try.prog 54 #[.slice a f.bytes.length c] w fun e w' => ∃ v', e = .returned v' ∧ w'.ownsRow w.heap.size 5 1 v' f.bytes.length (bv f.bytes) ∧ Below w.heap.size w w' := by
  obtain ⟨i0, hi, hz0, hz1, hz2⟩ := info_parts Try.infoByte
  rcases h.2 with ⟨e1, e2⟩ | ⟨g, cap, cur, e1, _, hh, _, _, _, ht⟩
  · simp only at e1 e2
    injection e1 with e3 e4 e5
    subst e3
    refine (AnyE.slices_Clone_nil Try.laysClone f.bytes.length c w).mono ?_
    rintro e w' ⟨rfl, rfl⟩
    refine ⟨_, rfl, ⟨h.1, .inl ⟨rfl, e4⟩⟩, Below.refl _ _⟩
  · injection e1 with e3 e4 e5
    subst e3
    have hsl := h.sl
    refine (AnyE.slices_Clone Try.laysClone i0 (.int .u8 0) 1 1 hi hz0 hz1 hz2 rfl (by decide) Try.sizeOf5 g 0 f.bytes.length c (bv f.bytes) w (by rw [bv_len]; omega) (by unfold maxLen; omega) (by omega) (fun j u hu => ?_) (fun u hu => ?_)).mono ?_
    · have hj : j < (bv f.bytes).length := by
        rcases Nat.lt_or_ge j (bv f.bytes).length with h1 | h1
        · exact h1
        · rw [List.getElem?_eq_none h1] at hu; cases hu
      obtain ⟨b', off', e, _, hc⟩ := hsl j hj
      cases e
      rw [hc]
      rw [List.getElem?_eq_getElem hj] at hu
      exact hu
    · obtain ⟨x, _, rfl⟩ := List.mem_map.1 hu
      rfl
    · rintro e w' ⟨v', rfl, h1, _, h2⟩
      exact ⟨v', rfl, h1, h2⟩

/-- a file's value, as a map's element -/
def mkC (x : Option Addr × Nat × Nat × Int) : Value := .agg #[.slice x.1 x.2.1 x.2.2.1, .int .i64 x.2.2.2]
def valL : List Value → Option (DataW Value × List MemPlace)
  | [.slice a n c, .int .i64 k] => some (.held (mkC (a, n, c, k)), [])
  | _ => none
def valC : Value → Option (DataW Value × List MemPlace)
  | .agg cs => valL cs.toList
  | _ => none
theorem valC_inv (v : Value) (y : DataW Value × List MemPlace) (h : valC v = some y) : ∃ c, v = mkC c := by
  unfold valC at h
  split at h
  · rename_i cs
    unfold valL at h
    split at h
    · rename_i a n c k he
      refine ⟨(a, n, c, k), ?_⟩
      have : cs = #[.slice a n c, .int .i64 k] := by
        apply Array.toList_inj.1
        rw [he]
      rw [this]; rfl
    · cases h
  · cases h
theorem valC_mk (x : Option Addr × Nat × Nat × Int) : valC (mkC x) = some (.held (mkC x), []) := rfl

theorem lookE_of {E : List (Nm × Value)} {es : List (Lit × DataW Value)} (p : es.Perm (E.map ent)) (hn : es.Pairwise (fun p q => p.1 ≠ q.1)) {k : Nm} {v : Value} (h : ∀ zd, (DataW.map es).atKey (.string k) zd = .held v) : (k, v) ∈ E := by
  have h1 := h (.held (.bool true))
  have h2 := h (.held (.bool false))
  rw [at_ent p hn] at h1 h2
  injection h1 with h1
  injection h2 with h2
  cases hl : lookE E k with
  | none =>
    rw [hl] at h1 h2
    simp only [Option.getD_none] at h1 h2
    rw [← h2] at h1
    cases h1
  | some u =>
    rw [hl] at h1
    simp only [Option.getD_some] at h1
    subst h1
    exact lookE_mem hl
end Go.Proofs.Ytammmhbkfdmbfaa
