/- Layer 7's laws: rows of rows of spans: opened; copies of great rows; two rows of rows that grow beside one another. -/
import Derived.Test.YtbcabbddgppkaaaW19
import Derived.Maps.AppendAt
namespace Go.Proofs.Ytbcabbddgppkaaa
open Go.ChangeShapes Go.WideShapes Go.ChangeAt Go.RowKit
set_option linter.unusedVariables false
set_option maxRecDepth 100000

def bnd : Nat := 140737488351232
set_option maxHeartbeats 2000000 in
theorem news_big (a : Option Addr) (c : Nat) (l : List SpM) (w : World) (hr : SpSl w a l) (hl : l.length * 16 ≤ bnd) :
    Calls Try.prog 17 #[.slice a l.length c] w fun e w' => ∃ (v : Value), e = .returned v ∧ w'.ownsRow w.heap.size 24 2 v l.length (sps l) ∧ Below w.heap.size w w' := by
  obtain ⟨i0, hi, hz0, hz1, hz2⟩ := info_parts infoSpan
  have HR := Lib.hid hr
  unfold bnd at hl
  clear hr
  go_enter Try.func17, Try.ntmps17
  go_wp2
  go_loopw [3, 8] (fun v i wr => ∃ (j : Nat), j ≤ l.length ∧ i = .int .i64 j ∧ Hid (wr.ownsRow w.heap.size 24 2 v j (sps (l.take j))) ∧ Hid (Below w.heap.size w wr)) (fun _ i _ => l.length - (intOf i).toNat)
  case atStart => exact ⟨0, by omega, rfl, ⟨rfl, .inl ⟨rfl, rfl⟩⟩, Below.refl _ _⟩
  case round =>
    obtain ⟨j, hj, rfl, HO, HB⟩ := hrel
    by_cases hjl : j < l.length
    · obtain ⟨b, off, rfl, hbl, hc0, hc1⟩ := (HR.out.below HB.out).at_ hjl
      have HC := Lib.hid (sps_take l j hjl)
      generalize l[j] = x at *
      have HO2 := Lib.hid (own_below HO.out (below_two wr (.cells #[.int .i64 x.f, .int .i64 x.t] 23) (.cells #[.int .i64 x.f, .int .i64 x.t] 24)))
      have HB2 : Hid (Below w.heap.size w ((wr.alloc (.cells #[.int .i64 x.f, .int .i64 x.t] 23)).alloc (.cells #[.int .i64 x.f, .int .i64 x.t] 24))) := HB.out.trans ((below_two _ _ _).mono HB.out.size)
      have HS2 := Lib.hid HB2.out.size
      go_wp2_with (at_builtin; refine wpList_append_own _ rfl (.tmp 12) (.tmp 14) 32 rfl w.heap.size 24 i0 _ 2 16 Try.underlying32 hi hz0 hz1 hz2 rfl (by decide) _ _ _ rfl HO2.out ⟨wr.heap.size + 1, 0, none⟩ 1 1 [.int .i64 x.f, .int .i64 x.t] rfl rfl (news_at _ _ _ _ (size1 _ _).symm) (two_one _ _) (by unfold maxLen; omega) (by omega) HS2.out ?_; intro v' w2 hown' hgrow hiff)
      have HB3 := Lib.hid (app_below HB2.out HS2.out HO2.out hgrow)
      have HO3 := Lib.hid hown'
      clear hown' hgrow hiff HB2 HS2 HO2
      go_wp2
      go_roundw
      case rel => exact ⟨j + 1, by omega, by go_num, (by unfold Hid; rw [HC.out]; exact HO3.out), HB3⟩
      case measure => simp [intOf]; omega
    · obtain rfl : j = l.length := by omega
      rw [List.take_of_length_le (Nat.le_refl _)] at HO
      go_wp2
      go_ret
      exact ⟨_, rfl, HO.out, HB.out⟩

/-! ### rows of rows that came in -/
theorem weightsAll_in {H : Type} {P : Program} {e : TypeId} {d : DataW H} {n : Nat} (hn : n ∈ d.weights P e) : ∀ {l : List (DataW H)}, d ∈ l → n ∈ DataW.weightsAll P e l
  | x :: r, h => by
    simp only [DataW.weightsAll, List.mem_append]
    rcases List.mem_cons.1 h with rfl | h
    · exact Or.inl hn
    · exact Or.inr (weightsAll_in hn h)
theorem span_small {H : Type} {enc : TypeId × Value → H} {W : World} {n : Nat} {a : Option Addr} {len c : Nat} {x : DataW H × List MemPlace}
    (hf : DataW.trod enc Try.prog W 0 (fun _ => true) true n 30 [.slice a len c] = some x) (hw : ∀ k ∈ x.1.weights Try.prog 30, k ≤ bnd) : len * 16 ≤ bnd := by
  rcases Go.Deep.open_slice_pairs Try.underlying30 Try.underlying23 (by kernel_rfl) rfl rfl (by kernel_rfl) (by kernel_rfl) hf with ⟨hcs, _⟩ | ⟨a', len', cap, m, n', V0, V1, D0, D1, P0, P1, hcs, _, hl, hm, hmm, hx, _⟩
  · simp at hcs
    obtain ⟨rfl, rfl, rfl⟩ := hcs
    exact Nat.le_of_lt (by decide)
  · simp at hcs
    obtain ⟨rfl, rfl, rfl⟩ := hcs
    have hb : Try.prog.bytesOf 23 = 16 := by kernel_rfl
    have := hw ((len + (m - len)) * 16) (by
      rw [hx]
      simp only [DataW.weights, Try.underlying30, List.length_map, List.length_range, hb, List.mem_cons, true_or])
    omega
theorem open_rows {H : Type} {enc : TypeId × Value → H} {W : World} {base : Nat} {v : Value} {d : DataW H} {p : List MemPlace}
    (hok : Value.okWide Try.prog W .any base 29 v) (h : DataW.Trod enc Try.prog W 0 (fun _ => true) true 29 v d p)
    (hw : ∀ n ∈ d.weights Try.prog 29, n ≤ bnd) :
    ∃ (a : Option Addr) (c : Nat) (D : List RwM), v = .slice a D.length c ∧ Sl W a (D.map rwV) ∧ (∀ r ∈ D, RwAt W r ∧ r.l.length * 16 ≤ bnd) ∧ D.length ≤ c ∧ c ≤ maxLen := by
  obtain ⟨a0, len, cap, rfl⟩ := okWide_slice Try.underlying29 hok
  obtain ⟨fuel, hf⟩ := h
  rcases Go.Deep.open_slice1 Try.underlying29 (by kernel_rfl) hf with ⟨hcs, _⟩ | ⟨a, len', cap', m, n, V, DD, Pl, hcs, _, hl, hm, hmm, hd, hx⟩
  · simp [Value.cells] at hcs
    obtain ⟨rfl, rfl, rfl⟩ := hcs
    exact ⟨none, 0, [], rfl, Sl.nil _ _, (fun r hr => by cases hr), by simp, by decide⟩
  · simp [Value.cells] at hcs
    obtain ⟨rfl, rfl, rfl⟩ := hcs
    simp only [↓reduceIte] at hmm
    subst hmm
    simp only [Prod.mk.injEq] at hd
    obtain ⟨rfl, rfl⟩ := hd
    have each : ∀ i, i < len → ∃ r : RwM, W.cell? (a.add i) = some (rwV r) ∧ RwAt W r ∧ r.l.length * 16 ≤ bnd := fun i hi => by
      obtain ⟨k0, k1⟩ := hx i (by omega)
      obtain ⟨b, c, l, e, h1, h2, h3, h4, h5⟩ := read_spans k1
      have e1 := List.singleton_inj.1 e
      rw [e1] at k1
      have hsm := span_small k1 (fun k hk => hw k (by
        simp only [DataW.weights, Try.underlying29, List.mem_cons, List.mem_append]
        exact Or.inr (Or.inl (weightsAll_in hk (List.mem_map.2 ⟨i, List.mem_range.2 hi, rfl⟩)))))
      exact ⟨⟨b, l, c⟩, by rw [k0, e1]; rfl, ⟨h1, h5⟩, hsm⟩
    have some_x : ∃ f : Nat → RwM, ∀ i, i < len → W.cell? (a.add i) = some (rwV (f i)) ∧ RwAt W (f i) ∧ (f i).l.length * 16 ≤ bnd := by
      refine ⟨fun i => if h : i < len then (each i h).choose else ⟨none, [], 0⟩, fun i hi => ?_⟩
      simp only [hi, ↓reduceDIte]
      exact (each i hi).choose_spec
    obtain ⟨f, hf2⟩ := some_x
    have hlen : ((List.range len).map f).length = len := by simp
    refine ⟨some a, m, (List.range len).map f, by rw [hlen], fun k hk => ?_, fun r hr => ?_, by rw [hlen]; exact hl, hm⟩
    · have hk' : k < len := by simpa using hk
      obtain ⟨b, off, spot⟩ := a
      have h0 := (hf2 0 (by omega)).1
      have hspot : spot = none := by simpa [Addr.add] using World.cell?_spot h0
      subst hspot
      have g0 := (hf2 k hk').1
      rw [Go.WideShapes.add_plain] at g0
      simp only [List.getElem_map, List.getElem_range]
      exact ⟨b, off, rfl, World.block_lt_of_cell? W ⟨b, off + k, none⟩ g0, g0⟩
    · obtain ⟨i, hi, rfl⟩ := List.mem_map.1 hr
      exact (hf2 i (List.mem_range.1 hi)).2

/-! ### three rows that grow beside one another -/
def Apart (u v : Value) : Prop := ∀ g, u.ownBlock = some g → v.ownBlock ≠ some g
def FarR (r : RwM) (v : Value) : Prop := r.l ≠ [] → ∀ ad, r.a = some ad → v.ownBlock ≠ some ad.block
theorem Apart.symm {u v : Value} (h : Apart u v) : Apart v u := fun g h1 h2 => h g h2 h1
theorem rw_lt {W : World} {r : RwM} (h : RwAt W r) (hn : r.l ≠ []) : ∀ ad, r.a = some ad → ad.block < W.heap.size := fun ad e => by
  obtain ⟨b, off, e1, hb, _⟩ := h.1 0 (List.length_pos_iff.2 hn)
  rw [e] at e1
  cases e1
  exact hb
theorem RwAt.below {W W' : World} {r : RwM} (h : RwAt W r) (q : Below W.heap.size W W') : RwAt W' r := ⟨h.1.below q, h.2⟩
theorem RwAt.grown {W W' : World} {r : RwM} {v : Value} (h : RwAt W r) (hf : FarR r v) (q : W.grownBy W' v.ownBlock) : RwAt W' r := by
  refine ⟨fun k hk => ?_, h.2⟩
  obtain ⟨b, off, e, hb, h0, h1⟩ := h.1 k hk
  have hne : some b ≠ v.ownBlock := fun e2 => hf (fun e3 => by rw [e3] at hk; exact absurd hk (by simp)) _ e e2.symm
  exact ⟨b, off, e, Nat.lt_of_lt_of_le hb q.size, q.cell h0 hne, q.cell h1 hne⟩
/-- the rows that the law has made so far -/
structure Jn (w : World) (va vr vb : Value) (A : List SpM) (R K : List RwM) (W : World) : Prop where
  all : W.ownsRow w.heap.size 23 2 va A.length (sps A)
  rows : W.ownsRow w.heap.size 32 1 vr R.length (R.map rwV)
  back : W.ownsRow w.heap.size 32 1 vb K.length (K.map rwV)
  rat : ∀ r ∈ R, RwAt W r
  kat : ∀ r ∈ K, RwAt W r
  ar : Apart va vr
  ab : Apart va vb
  rb : Apart vr vb
  fr : ∀ r ∈ R, FarR r va ∧ FarR r vr ∧ FarR r vb
  fk : ∀ r ∈ K, FarR r va ∧ FarR r vr ∧ FarR r vb
  frame : Below w.heap.size w W
theorem Jn.below {w W W' : World} {va vr vb : Value} {A : List SpM} {R K : List RwM} (h : Jn w va vr vb A R K W) (q : Below W.heap.size W W') : Jn w va vr vb A R K W' :=
  ⟨own_below h.all q, own_below h.rows q, own_below h.back q, fun r hr => (h.rat r hr).below q, fun r hr => (h.kat r hr).below q, h.ar, h.ab, h.rb, h.fr, h.fk, h.frame.trans (q.mono h.frame.size)⟩
theorem Jn.start (w : World) : Jn w (.slice none 0 0) (.slice none 0 0) (.slice none 0 0) [] [] [] w :=
  ⟨World.ownsRow_nil _ _ _ _, World.ownsRow_nil _ _ _ _, World.ownsRow_nil _ _ _ _, (fun r h => by cases h), (fun r h => by cases h), (fun g h => by cases h), (fun g h => by cases h), (fun g h => by cases h), (fun r h => by cases h), (fun r h => by cases h), Below.refl _ _⟩
theorem apart_new {W : World} {B : Nat} {e : TypeId} {k n : Nat} {v v' u : Value} {xs : List Value} (hu : W.ownsRow B e k u n xs) (h : Apart v u) (hat : v'.ownBlock = v.ownBlock ∨ v'.ownBlock = some W.heap.size) : Apart v' u := fun g hg hg2 => by
  rcases hat with e1 | e1
  · exact h g (e1 ▸ hg) hg2
  · rw [e1] at hg
    cases hg
    exact absurd (hu.lt _ hg2).2 (Nat.lt_irrefl _)
theorem far_new {W : World} {r : RwM} {v v' : Value} (hr : RwAt W r) (h : FarR r v) (hat : v'.ownBlock = v.ownBlock ∨ v'.ownBlock = some W.heap.size) : FarR r v' := fun hn ad e e2 => by
  rcases hat with e1 | e1
  · exact h hn ad e (e1 ▸ e2)
  · rw [e1] at e2
    have := rw_lt hr hn ad e
    have e3 : W.heap.size = ad.block := Option.some.inj e2
    omega
theorem apart_ne {u v : Value} (h : Apart u v) : v.ownBlock = none ∨ v.ownBlock ≠ u.ownBlock := by
  cases e : u.ownBlock with
  | none =>
    cases e2 : v.ownBlock with
    | none => exact .inl rfl
    | some g => exact .inr (by simp)
  | some g => exact .inr (h g e)
theorem Jn.addAll {w W W' : World} {va vr vb va' : Value} {A m : List SpM} {R K : List RwM} (h : Jn w va vr vb A R K W) (ho : W'.ownsRow w.heap.size 23 2 va' (A ++ m).length (sps (A ++ m))) (hg : W.grownBy W' va.ownBlock) (hat : va'.ownBlock = va.ownBlock ∨ va'.ownBlock = some W.heap.size) :
    Jn w va' vr vb (A ++ m) R K W' :=
  ⟨ho, h.rows.kept hg (apart_ne h.ar), h.back.kept hg (apart_ne h.ab), fun r hr => (h.rat r hr).grown (h.fr r hr).1 hg, fun r hr => (h.kat r hr).grown (h.fk r hr).1 hg,
    apart_new h.rows h.ar hat, apart_new h.back h.ab hat, h.rb, fun r hr => ⟨far_new (h.rat r hr) (h.fr r hr).1 hat, (h.fr r hr).2⟩, fun r hr => ⟨far_new (h.kat r hr) (h.fk r hr).1 hat, (h.fk r hr).2⟩, app_below h.frame h.frame.size h.all hg⟩
theorem Jn.addRow {w W W' : World} {va vr vb vr' : Value} {A : List SpM} {R K : List RwM} {r : RwM} (h : Jn w va vr vb A R K W) (hr : RwAt W r) (hf : FarR r va ∧ FarR r vr ∧ FarR r vb) (ho : W'.ownsRow w.heap.size 32 1 vr' (R.length + 1) (R.map rwV ++ [rwV r])) (hg : W.grownBy W' vr.ownBlock) (hat : vr'.ownBlock = vr.ownBlock ∨ vr'.ownBlock = some W.heap.size) :
    Jn w va vr' vb A (R ++ [r]) K W' := by
  have e1 : (R ++ [r]).length = R.length + 1 := by simp
  have e2 : (R ++ [r]).map rwV = R.map rwV ++ [rwV r] := by simp
  refine ⟨h.all.kept hg (apart_ne h.ar.symm), by rw [e1, e2]; exact ho, h.back.kept hg (apart_ne h.rb), fun x hx => ?_, fun x hx => (h.kat x hx).grown (h.fk x hx).2.1 hg,
    (apart_new h.all h.ar.symm hat).symm, h.ab, apart_new h.back h.rb hat, fun x hx => ?_, fun x hx => ⟨(h.fk x hx).1, far_new (h.kat x hx) (h.fk x hx).2.1 hat, (h.fk x hx).2.2⟩, app_below h.frame h.frame.size h.rows hg⟩
  · rcases List.mem_append.1 hx with hx | hx
    · exact (h.rat x hx).grown (h.fr x hx).2.1 hg
    · rw [List.mem_singleton.1 hx]; exact hr.grown hf.2.1 hg
  · rcases List.mem_append.1 hx with hx | hx
    · exact ⟨(h.fr x hx).1, far_new (h.rat x hx) (h.fr x hx).2.1 hat, (h.fr x hx).2.2⟩
    · rw [List.mem_singleton.1 hx]; exact ⟨hf.1, far_new hr hf.2.1 hat, hf.2.2⟩
theorem Jn.addBack {w W W' : World} {va vr vb vb' : Value} {A : List SpM} {R K : List RwM} {r : RwM} (h : Jn w va vr vb A R K W) (hr : RwAt W r) (hf : FarR r va ∧ FarR r vr ∧ FarR r vb) (ho : W'.ownsRow w.heap.size 32 1 vb' (K.length + 1) (K.map rwV ++ [rwV r])) (hg : W.grownBy W' vb.ownBlock) (hat : vb'.ownBlock = vb.ownBlock ∨ vb'.ownBlock = some W.heap.size) :
    Jn w va vr vb' A R (K ++ [r]) W' := by
  have e1 : (K ++ [r]).length = K.length + 1 := by simp
  have e2 : (K ++ [r]).map rwV = K.map rwV ++ [rwV r] := by simp
  refine ⟨h.all.kept hg (apart_ne h.ab.symm), h.rows.kept hg (apart_ne h.rb.symm), by rw [e1, e2]; exact ho, fun x hx => (h.rat x hx).grown (h.fr x hx).2.2 hg, fun x hx => ?_,
    h.ar, (apart_new h.all h.ab.symm hat).symm, (apart_new h.rows h.rb.symm hat).symm, fun x hx => ⟨(h.fr x hx).1, (h.fr x hx).2.1, far_new (h.rat x hx) (h.fr x hx).2.2 hat⟩, fun x hx => ?_, app_below h.frame h.frame.size h.back hg⟩
  · rcases List.mem_append.1 hx with hx | hx
    · exact (h.kat x hx).grown (h.fk x hx).2.2 hg
    · rw [List.mem_singleton.1 hx]; exact hr.grown hf.2.2 hg
  · rcases List.mem_append.1 hx with hx | hx
    · exact ⟨(h.fk x hx).1, (h.fk x hx).2.1, far_new (h.kat x hx) (h.fk x hx).2.2 hat⟩
    · rw [List.mem_singleton.1 hx]; exact ⟨hf.1, hf.2.1, far_new hr hf.2.2 hat⟩
/-- a row that a callee has just made is far from all -/
theorem Jn.far {w W W' : World} {va vr vb v : Value} {A : List SpM} {R K : List RwM} (h : Jn w va vr vb A R K W) {l : List SpM} {T : TypeId} (ho : W'.ownsRow W.heap.size T 2 v l.length (sps l)) :
    ∃ r : RwM, r.l = l ∧ v = rwV r ∧ RwAt W' r ∧ (FarR r va ∧ FarR r vr ∧ FarR r vb) := by
  obtain ⟨x, q, rfl, k1, k2, k3, k4⟩ := own_spm ho
  have hlt : ∀ ad, x = some ad → W.heap.size ≤ ad.block := fun ad e => (ho.lt ad.block (by rw [e]; rfl)).1
  refine ⟨⟨x, l, q⟩, rfl, rfl, ⟨k3, k4⟩, fun _ ad e e2 => ?_, fun _ ad e e2 => ?_, fun _ ad e e2 => ?_⟩
  · have := (h.all.lt _ e2).2; have := hlt ad e; omega
  · have := (h.rows.lt _ e2).2; have := hlt ad e; omega
  · have := (h.back.lt _ e2).2; have := hlt ad e; omega
theorem j_news {w W : World} {va vr vb : Value} {A : List SpM} {R K : List RwM} (d : RwM) (hd : RwAt W d) (hb : d.l.length * 16 ≤ bnd) (h : Jn w va vr vb A R K W) :
    Calls Try.prog 17 #[rwV d] W fun e w' => ∃ r : RwM, Hid (r.l = d.l) ∧ e = .returned (.slice r.a r.l.length r.c) ∧ RwAt w' r ∧ (FarR r va ∧ FarR r vr ∧ FarR r vb) ∧ Below W.heap.size W w' := by
  refine (news_big d.a d.c d.l W hd.1 hb).mono ?_
  rintro e w' ⟨v, rfl, ho, hb⟩
  obtain ⟨r, h1, rfl, h3, h4⟩ := h.far ho
  exact ⟨r, h1, rfl, h3, h4, hb⟩
theorem wpList_all {P : Program} {w W : World} {ops : Array Oper} {rest : List Oper} {o : Oper} {a : Act} {Q : Exit → Act → World → Prop} (hgd : o.guard = none) (s x : Operand) (t : TypeId)
    (ho : o.op = .call { callee := .builtin .append, args := #[s, x], argTypes := #[t, t] })
    (i : TypeInfo) (z : Value) (ht : P.underlying t = some (.slice 23)) (hi : P.info? 23 = some i) (hz : i.zero = some z)
    (hsize : i.size = 2) (hby : i.bytes = 16) (hzs : z.cells.size = 2)
    (va vr vb : Value) (A : List SpM) (R K : List RwM) (hs : a.eval s = va) (hJ : Jn w va vr vb A R K W)
    (d : RwM) (hx : a.eval x = rwV d) (hd : RwAt W d) (hlen : A.length + d.l.length ≤ 1000000)
    (h : ∀ v' w', Jn w v' vr vb (A ++ d.l) R K w' → Below w.heap.size w w' → wpList P ops Q rest (a.put o.dst v') w') : wpList P ops Q (o :: rest) a W := by
  obtain ⟨ad, l, c⟩ := d
  cases ad with
  | none =>
    have hc : c = 0 := hd.2 rfl
    subst hc
    have hm0 : l = [] := by
      cases l with
      | nil => rfl
      | cons y m => obtain ⟨_, _, e, _⟩ := hd.1 0 (by simp); cases e
    subst hm0
    refine wpList_append_own_none hgd s x t ho w.heap.size 23 i 2 ht hi va A.length (sps A) hs hJ.all hx (h va W ?_ hJ.frame)
    simpa using hJ
  | some ad =>
    refine wpList_append_own_at W hgd s x t ho w.heap.size 23 i z 2 16 ht hi hz hsize hby hzs (by decide) va A.length (sps A) hs hJ.all ad l.length c (sps l) hx (sps_len l) (hd.1.cells ad rfl) (sps_one l) (by unfold maxLen; simp at hlen; omega) (by simp at hlen; omega) hJ.frame.size (fun v' w' h2 h3 _ h5 => ?_)
    have hJ' := hJ.addAll (m := l) (by rw [List.length_append, sps_append]; exact h2) h3 h5
    exact h v' w' hJ' hJ'.frame
end Go.Proofs.Ytbcabbddgppkaaa
