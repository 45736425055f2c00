/- Layer 7: the document's Meet and Less: contracts. -/
import Derived.Test.YtlgicjebaehgeaaW8
namespace Go.Proofs.Ytlgicjebaehgeaa
open Go.RowKit
set_option linter.unusedVariables false
set_option maxRecDepth 100000
set_option maxRecDepth 100000

theorem addr_add (b off j : Nat) : (⟨b, off, none⟩ : Addr).add j = ⟨b, off + j, none⟩ := by
  unfold Addr.add
  split
  · rename_i h; subst h; rfl
  · rfl
theorem SpSl.cells {w : World} {a : Option Addr} {l : List SpM} (h : SpSl w a l) : ∀ ad, a = some ad → ∀ j u, (sps l)[j]? = some u → w.cell? (ad.add j) = some u := fun ad ha j u hu => by
  have hj : j < l.length * 2 := by rw [← sps_len]; exact (List.getElem?_eq_some_iff.1 hu).1
  have hk : j / 2 < l.length := by omega
  obtain ⟨b, off, e, _, h1, h2⟩ := h (j / 2) hk
  rw [ha] at e
  cases e
  obtain ⟨g1, g2⟩ := sps_get l (j / 2) hk
  rw [addr_add]
  have hd : j = j / 2 * 2 ∨ j = j / 2 * 2 + 1 := by omega
  generalize j / 2 = k at *
  rcases hd with rfl | rfl
  · rw [g1] at hu
    cases hu
    exact h1
  · rw [g2] at hu
    cases hu
    exact h2
theorem sps_one (l : List SpM) : ∀ u ∈ sps l, u.oneCell' = true := fun u hu => by
  unfold sps at hu
  obtain ⟨y, _, hy⟩ := List.mem_flatMap.1 hu
  exact two_one _ _ u hy
theorem wpList_append_sp {P : Program} (w : World) {ops : Array Oper} {rest : List Oper} {o : Oper} {a : Act} {Q : Exit → Act → World → Prop} (hgd : o.guard = none) (s x : Operand) (t : TypeId)
    (ho : o.op = .call { callee := .builtin .append, args := #[s, x], argTypes := #[t, t] })
    (base : Nat) (e : TypeId) (i : TypeInfo) (z : Value) (ht : P.underlying t = some (.slice e)) (hi : P.info? e = some i) (hz : i.zero = some z)
    (hsize : i.size = 2) (hby : i.bytes = 16) (hzs : z.cells.size = 2)
    (v : Value) (l : List SpM) (hs : a.eval s = v) (hown : w.ownsRow base e 2 v l.length (sps l))
    (A : Option Addr) (c : Nat) (m : List SpM) (hx : a.eval x = .slice A m.length c) (hsl : SpSl w A m) (hnil : A = none → c = 0)
    (hlen : l.length + m.length ≤ 1000000) (hbase : base ≤ w.heap.size)
    (h : ∀ v' w', w'.ownsRow base e 2 v' (l ++ m).length (sps (l ++ m)) → Below base w w' → wpList P ops Q rest (a.put o.dst v') w') : wpList P ops Q (o :: rest) a w := by
  rw [List.length_append, sps_append] at h
  cases A with
  | none =>
    have hc := hnil rfl
    subst hc
    have hm0 : m = [] := by
      cases m with
      | nil => rfl
      | cons y m => obtain ⟨_, _, e, _⟩ := hsl 0 (by simp); cases e
    subst hm0
    exact wpList_append_own_none hgd s x t ho base e i 2 ht hi v l.length (sps l) hs hown hx (h v w (by simpa [sps] using hown) (Below.refl _ _))
  | some ad =>
    exact wpList_append_own w hgd s x t ho base e i z 2 16 ht hi hz hsize hby hzs (by decide) v l.length (sps l) hs hown ad m.length c (sps m) hx (sps_len m) (hsl.cells ad rfl) (sps_one m) (by unfold maxLen; omega) (by omega) hbase (fun v' w' h2 h3 _ => h v' w' h2 (app_below (Below.refl _ _) hbase hown h3))

end Go.Proofs.Ytlgicjebaehgeaa
