/- Texts of mine, one behind the other, of each what is wanted. -/
import Derived.Test.YtjhdhfokhkcamaaGreatS00
import Derived.Test.YtjhdhfokhkcamaaGreatShelf
import Derived.Test.YtjhdhfokhkcamaaGreatRows
import Derived.Test.YtjhdhfokhkcamaaGreatS02
import Derived.Test.YtjhdhfokhkcamaaGreatS03
import Derived.Test.YtjhdhfokhkcamaaGreatS04
import Derived.Test.YtjhdhfokhkcamaaGreatS06
import Derived.Test.YtjhdhfokhkcamaaGreatS07
import Derived.Test.YtjhdhfokhkcamaaGreatS09
import Derived.Test.YtjhdhfokhkcamaaGreatS13
import Derived.Test.YtjhdhfokhkcamaaGreatS14
import Derived.Test.YtjhdhfokhkcamaaGreatS32
namespace Go.Proofs.YtjhdhfokhkcamaaGreat
open Go.RowKit Go.Proofs
set_option linter.unusedVariables false
set_option maxRecDepth 100000
structure NPK (w : World) (g : Nat) (tp tO : TypeId) (x : SaL) (W : World) : Prop where
 s : SB w g tp x W
 z : SB w (g + 1) tO saO W
theorem NPK.below {w W W' : World} {g : Nat} {tp tO : TypeId} {x : SaL} (h : NPK w g tp tO x W) (q : Below W.heap.size W W') : NPK w g tp tO x W' := ⟨h.s.below q, h.z.below q⟩
structure FrG (g : Nat) (T W : World) : Prop where
 size : T.heap.size ≤ W.heap.size
 blk : ∀ b, b < T.heap.size → b ≠ g → W.heap[b]? = T.heap[b]?
theorem FrG.refl (g : Nat) (T : World) : FrG g T T := ⟨Nat.le_refl _, fun _ _ _ => rfl⟩
theorem FrG.below {g : Nat} {T W W' : World} (h : FrG g T W) (q : Below T.heap.size W W') : FrG g T W' := ⟨Nat.le_trans h.size q.size, fun b hb hn => (q.block b hb).trans (h.blk b hb hn)⟩
theorem FrG.set {g i : Nat} {v : Value} {T W : World} (h : FrG g T W) : FrG g T (W.setCell ⟨g, i, none⟩ v) := ⟨by rw [size_set]; exact h.size, fun b hb hn => (block_far hn).trans (h.blk b hb hn)⟩
theorem FrG.setS (g : Nat) (T : World) (y : SaL) : FrG g T (setS T g y) := ((((((FrG.refl g T).set).set).set).set).set).set
theorem FrG.cell {g : Nat} {T W : World} (h : FrG g T W) {p : Addr} (hl : p.block < T.heap.size) (hn : p.block ≠ g) : W.cell? p = T.cell? p := by
 unfold World.cell?
 rw [h.blk _ hl hn]
section
variable {T W : World} {g : Nat} {x : SaL} {t : TypeId}
theorem OpSl.frG (h : T.heap[g]? = some (.cells (saC x) t (0, 0))) {a : Option Addr} {l : List OpM} (ho : OpSl T a l) (f : FrG g T W) : OpSl W a l := fun k hk => by
 obtain ⟨b, off, e, hlt, h0, h1, h2, h3⟩ := ho k hk
 have hne : b ≠ g := fun e => by subst e; exact six_string h h1
 exact ⟨b, off, e, Nat.lt_of_lt_of_le hlt f.size, (f.cell (p := ⟨b, off + k * 4, none⟩) hlt hne).trans h0, (f.cell (p := ⟨b, off + k * 4 + 1, none⟩) hlt hne).trans h1, (f.cell (p := ⟨b, off + k * 4 + 2, none⟩) hlt hne).trans h2, (f.cell (p := ⟨b, off + k * 4 + 3, none⟩) hlt hne).trans h3⟩
theorem EnSl.frG (h : T.heap[g]? = some (.cells (saC x) t (0, 0))) {a : Option Addr} {l : List EnM} (ho : EnSl T a l) (f : FrG g T W) : EnSl W a l := fun k hk => by
 obtain ⟨b, off, e, hlt, h0, h1, h2, h3⟩ := ho k hk
 have hne : b ≠ g := fun e => by subst e; exact six_string h h1
 exact ⟨b, off, e, Nat.lt_of_lt_of_le hlt f.size, (f.cell (p := ⟨b, off + k * 4, none⟩) hlt hne).trans h0, (f.cell (p := ⟨b, off + k * 4 + 1, none⟩) hlt hne).trans h1, (f.cell (p := ⟨b, off + k * 4 + 2, none⟩) hlt hne).trans h2, (f.cell (p := ⟨b, off + k * 4 + 3, none⟩) hlt hne).trans h3⟩
theorem StSl.frG (h : T.heap[g]? = some (.cells (saC x) t (0, 0))) {a : Option Addr} {l : List StM} (ho : StSl T a l) (f : FrG g T W) : StSl W a l := fun k hk => by
 obtain ⟨b, off, e, hlt, h0, h1, h2, h3⟩ := ho k hk
 have hne : b ≠ g := fun e => by
  subst e
  have := six_int h h3
  omega
 exact ⟨b, off, e, Nat.lt_of_lt_of_le hlt f.size, (f.cell (p := ⟨b, off + k * 4, none⟩) hlt hne).trans h0, (f.cell (p := ⟨b, off + k * 4 + 1, none⟩) hlt hne).trans h1, (f.cell (p := ⟨b, off + k * 4 + 2, none⟩) hlt hne).trans h2, (f.cell (p := ⟨b, off + k * 4 + 3, none⟩) hlt hne).trans h3⟩
theorem PpSl.frG (h : T.heap[g]? = some (.cells (saC x) t (0, 0))) {a : Option Addr} {l : List (Value × Value)} (hs : ∀ y ∈ l, ∃ s, y.1 = .string s) (ho : PpSl T a l) (f : FrG g T W) : PpSl W a l := fun k hk => by
 obtain ⟨b, off, e, hlt, h0, h1⟩ := ho k hk
 have hne : b ≠ g := fun e => by
  subst e
  obtain ⟨s, hs⟩ := hs _ (List.getElem_mem hk)
  rw [hs] at h0
  exact six_string h h0
 exact ⟨b, off, e, Nat.lt_of_lt_of_le hlt f.size, (f.cell (p := ⟨b, off + k * 2, none⟩) hlt hne).trans h0, (f.cell (p := ⟨b, off + k * 2 + 1, none⟩) hlt hne).trans h1⟩
theorem SaAt.frG (h : T.heap[g]? = some (.cells (saC x) t (0, 0))) {y : SaL} (ho : SaAt T y) (f : FrG g T W) : SaAt W y :=
 ⟨ho.op.frG h f, ⟨PpSl.frG h (fun y hy => by obtain ⟨z, _, rfl⟩ := List.mem_map.1 hy; exact ⟨_, rfl⟩) ho.us.row f, fun y hy => ⟨(ho.us.at_ y hy).st.frG h f, (ho.us.at_ y hy).le, (ho.us.at_ y hy).mx, (ho.us.at_ y hy).nil⟩⟩, ho.su.frG h f, PpSl.frG h (fun y hy => by obtain ⟨z, _, rfl⟩ := List.mem_map.1 hy; exact ⟨_, rfl⟩) ho.tb f, ho.oc, ho.uc, ho.sc, ho.tc⟩
theorem SB.frG {w : World} {g' : Nat} {t' : TypeId} {y : SaL} (h : T.heap[g]? = some (.cells (saC x) t (0, 0))) (ho : SB w g' t' y T) (hne : g' ≠ g) (f : FrG g T W) (hb : Below w.heap.size w W) : SB w g' t' y W :=
 ⟨(f.blk _ ho.lt hne).trans ho.blk, ho.ge, hb, ho.at_.frG h f⟩
theorem NPK.frG {w : World} {gp : Nat} {tp tO : TypeId} {y : SaL} (h : T.heap[g]? = some (.cells (saC x) t (0, 0))) (ho : NPK w gp tp tO y T) (hne : gp + 1 < g) (f : FrG g T W) (hb : Below w.heap.size w W) : NPK w gp tp tO y W :=
 ⟨ho.s.frG h (by omega) f hb, ho.z.frG h (by omega) f hb⟩
end
theorem z_two {w : World} {gp : Nat} {tp tO : TypeId} {x : SaL} {o1 o2 : Obj} (h : NPK w gp tp tO x ((w.alloc o1).alloc o2).drew) : SB w (w.heap.size + 1 + 1) tO saO (((w.alloc o1).alloc o2).drew.alloc (.cells (saC saO) tO)) := by
 have e : ((w.alloc o1).alloc o2).drew.heap.size = w.heap.size + 1 + 1 := by
  show ((w.alloc o1).alloc o2).heap.size = _
  rw [size1, size1]
 have k := SB.new h.s.frame (SaAt.zero _) tO
 rw [e] at k
 exact k
theorem s_news11 (a : Option Addr) (c : Nat) (l : List StM) (u : ByteArray) (W : World) (h : StSl W a l) (hl : l.length ≤ 1000) : Calls Tryz.prog 42 #[.slice a l.length c] W fun e w' => ∃ x q, e = .returned (.slice x l.length q) ∧ OwnSt w' W.heap.size ⟨u, x, l, q⟩ ∧ Below W.heap.size W w' := by
 refine Calls.mono (snews_any a c l W h (by omega)) ?_
 rintro e w' ⟨v, rfl, ho, hb⟩
 obtain ⟨x, q, rfl, h1, h2, h3, h4⟩ := own_st ho
 exact ⟨x, q, rfl, ho, hb⟩
theorem s_olds11 (a : Option Addr) (c : Nat) (l : List StM) (u : ByteArray) (W : World) (h : StSl W a l) (hl : l.length ≤ 1000) : Calls Tryz.prog 28 #[.slice a l.length c] W fun e w' => ∃ x q, e = .returned (.slice x l.length q) ∧ OwnStR w' W.heap.size ⟨u, x, l, q⟩ ∧ Below W.heap.size W w' := by
 refine Calls.mono (solds_any a c l W h (by omega)) ?_
 rintro e w' ⟨v, rfl, ho, hb⟩
 obtain ⟨x, q, rfl, h1, h2, h3, h4⟩ := own_st ho
 exact ⟨x, q, rfl, ho, hb⟩
theorem two_sl (a : ByteArray) (b : Option Addr) (n c : Nat) : ∀ u ∈ [Value.string a, .slice b n c], u.oneCell' = true := by
 intro u hu
 simp at hu
 rcases hu with rfl | rfl <;> rfl
theorem two_in (a : ByteArray) (b : Int) : ∀ u ∈ [Value.string a, .int .i64 b], u.oneCell' = true := by
 intro u hu
 simp at hu
 rcases hu with rfl | rfl <;> rfl
section
variable {w T W W' : World} {g : Nat} {now hor : Int} {x1 x2 : Option Addr} {n1 q1 n2 q2 : Nat} {D : List UsL} {E : List TbM} {v vt : Value}
end
end Go.Proofs.YtjhdhfokhkcamaaGreat
