/- Texts of mine, one behind the other, of each what is wanted. -/
import Derived.Test.YtapacckmgmdnoaaGreatR00
namespace Go.Proofs.YtapacckmgmdnoaaGreat
open Go.RowKit
set_option linter.unusedVariables false
set_option maxRecDepth 100000
theorem retB {a b : Bool} (h : a = b) : Ending.returned (.bool a) = .returned (.bool b) := by rw [h]
theorem retI {k : IntKind} {a b : Int} (h : a = b) : Ending.returned (.int k a) = .returned (.int k b) := by rw [h]
def toL (b : ByteArray) : List UInt8 := b.data.toList
def tx (l : List UInt8) : ByteArray := ⟨l.toArray⟩
theorem tx_toL (b : ByteArray) : tx (toL b) = b := by cases b; simp [toL, tx]
theorem toL_inj {a b : ByteArray} (h : toL a = toL b) : a = b := by rw [← tx_toL a, h, tx_toL]
theorem toList_tx (l : List UInt8) : (tx l).toList = l := by rw [ByteArray.toList_eq]; simp [tx]
def Sl (w : World) (a : Option Addr) (xs : List Value) : Prop :=
 ∀ k (h : k < xs.length), ∃ b off, a = some ⟨b, off, none⟩ ∧ b < w.heap.size ∧ w.cell? ⟨b, off + k, none⟩ = some xs[k]
theorem Sl.below {w w' : World} {a : Option Addr} {xs : List Value} (h : Sl w a xs) (hb : Below w.heap.size w w') : Sl w' a xs := fun k hk => by
 obtain ⟨b, off, e, hlt, hc⟩ := h k hk
 exact ⟨b, off, e, Nat.lt_of_lt_of_le hlt hb.size, (hb.cell (p := ⟨b, off + k, none⟩) hlt).trans hc⟩
theorem Sl.drewN {w : World} {a : Option Addr} {xs : List Value} (h : Sl w a xs) (n : Nat) : Sl (w.drewN n) a xs := h
theorem Sl.nil (w : World) (a : Option Addr) : Sl w a [] := fun k hk => absurd hk (by simp)
def Drew (w w' : World) : Prop := ∃ n, w' = w.drewN n
theorem Drew.refl (w : World) : Drew w w := ⟨0, rfl⟩
theorem Drew.below {w w' : World} (h : Drew w w') (B : Nat) : Below B w w' := by obtain ⟨n, rfl⟩ := h; exact ⟨rfl, rfl, rfl, Nat.le_refl _, fun _ _ => rfl⟩
theorem Drew.cell {w w' : World} (h : Drew w w') (a : Addr) : w'.cell? a = w.cell? a := by obtain ⟨n, rfl⟩ := h; rfl
theorem Drew.trans {w w' w'' : World} (h : Drew w w') (k : Drew w' w'') : Drew w w'' := by
 obtain ⟨n, rfl⟩ := h; obtain ⟨m, rfl⟩ := k; exact ⟨_, by rw [World.drewN_drewN]⟩
theorem own_base {w : World} {B B' e k n : Nat} {v : Value} {xs : List Value} (h : w.ownsRow B e k v n xs) (hB : B' ≤ B) : w.ownsRow B' e k v n xs := by
 refine ⟨h.1, ?_⟩
 rcases h.2 with h | ⟨g, cap, cur, r1, r2, r3⟩
 ·exact .inl h
 ·exact .inr ⟨g, cap, cur, r1, Nat.le_trans hB r2, r3⟩
theorem sl_lit (w : World) (xs : Array Value) (t : TypeId) : Sl (w.alloc (.cells xs t)) (some ⟨w.heap.size, 0, none⟩) xs.toList := fun k hk => by
 refine ⟨_, _, rfl, by simp, ?_⟩
 rw [cell_of_row _ _ _ xs t (0, 0) (heap_alloc_new w _), Nat.zero_add]
 have : k < xs.size := by simpa using hk
 simp [Array.getElem?_eq_getElem this]
theorem Sl.cells {w : World} {ad : Addr} {xs : List Value} (h : Sl w (some ad) xs) : ∀ j u, xs[j]? = some u → w.cell? (ad.add j) = some u := fun j u hu => by
 have hj : j < xs.length := by
  rcases Nat.lt_or_ge j xs.length with h1 | h1
  ·exact h1
  ·rw [List.getElem?_eq_none h1] at hu; cases hu
 obtain ⟨b, off, e, _, hc⟩ := h j hj
 cases e
 rw [Go.WideShapes.add_plain, hc]
 rw [List.getElem?_eq_getElem hj] at hu
 exact hu
end Go.Proofs.YtapacckmgmdnoaaGreat
namespace Go.Proofs.YtapacckmgmdnoaaGreat
open Go.RowKit
set_option linter.unusedVariables false
set_option maxRecDepth 100000
set_option maxRecDepth 100000
theorem size1 (w : World) (o : Obj) : (w.alloc o).heap.size = w.heap.size + 1 := by simp
theorem own_below {w w' : World} {B e k n : Nat} {v : Value} {xs : List Value} (h : w.ownsRow B e k v n xs) (hb : Below w.heap.size w w') : w'.ownsRow B e k v n xs := by
 refine ⟨h.1, ?_⟩
 rcases h.2 with h | ⟨g, cap, cur, r1, r2, r3, r4⟩
 ·exact .inl h
 ·refine .inr ⟨g, cap, cur, r1, r2, ?_, r4⟩
  rw [hb.block g ?_]
  ·exact r3
  ·rcases Nat.lt_or_ge g w.heap.size with h1 | h1
   ·exact h1
   ·rw [Array.getElem?_eq_none h1] at r3; cases r3
theorem app_below {B : Nat} {w W w' : World} {e k n : Nat} {v : Value} {xs : List Value} (hB : Below B w W) (hs : B ≤ W.heap.size) (ho : W.ownsRow B e k v n xs) (hg : W.grownBy w' v.ownBlock) : Below B w w' :=
 hB.grown hg hs (fun j hj => (ho.lt j hj).1)
theorem news_at (W : World) (xs : Array Value) (t : TypeId) (g : Nat) (hg : g = W.heap.size) : ∀ j u, xs.toList[j]? = some u → (W.alloc (.cells xs t)).cell? ((⟨g, 0, none⟩ : Addr).add j) = some u := by
 subst hg; exact Sl.cells (sl_lit W xs t)
theorem below_two (w : World) (o p : Obj) : Below w.heap.size w ((w.alloc o).alloc p) := ((Below.refl _ _).alloc (Nat.le_refl _) _).alloc (by rw [size1]; omega) _
theorem heap_lt {W : World} {G : Nat} {o : Obj} (h : W.heap[G]? = some o) : G < W.heap.size := (Array.getElem?_eq_some_iff.1 h).1
theorem heap_setCell_at {w : World} {p : Nat} {cur : Array Value} {t : TypeId} (h : w.heap[p]? = some (.cells cur t (0, 0))) (i : Nat) (v : Value) :
  (w.setCell ⟨p, i, none⟩ v).heap[p]? = some (.cells (cur.setIfInBounds i v) t (0, 0)) := by
 obtain ⟨hlt, hk⟩ := Array.getElem?_eq_some_iff.1 h
 show (w.heap.modify p _)[p]? = _
 rw [Array.getElem?_eq_getElem (by rw [Array.size_modify]; exact hlt), Array.getElem_modify_self, hk]
 rfl
theorem results_cell1 {fn : Func} {p : Tmp} {ty : TypeId} (h : fn.results = #[.cell p ty]) (tmps : Array Value) (P : Program) (w : World) :
  (results fn tmps).run P w = ((asAddr (tmps.getD p undef)).run P w).andThen fun a w₁ => (loadVar ty a).run P w₁ := by
 simp only [results, h]
 simp [Sem.run_bind, Result.andThen]
theorem none_any (f t : Int) (w : World) : Calls Tryz.prog 108 #[.agg #[.int .i64 f, .int .i64 t]] w fun e w' => e = .returned (.bool (decide (t ≤ f))) ∧ Below w.heap.size w w' := by
 have HBB := Lib.hid (fun o => (Below.refl w.heap.size w).alloc (Nat.le_refl _) o)
 go_enter Tryz.func108, Tryz.ntmps108
 go_wp2
 go_ret
 exact ⟨retB (by simp), HBB.out _⟩
end Go.Proofs.YtapacckmgmdnoaaGreat
