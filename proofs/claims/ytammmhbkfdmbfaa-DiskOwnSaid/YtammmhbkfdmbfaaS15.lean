/- Contracts of layer 5: Crash. -/
import Derived.Test.YtammmhbkfdmbfaaS14
namespace Go.Proofs.Ytammmhbkfdmbfaa
open Go.RowKit
set_option linter.unusedVariables false

theorem add_zero' (x : Addr) : x.add 0 = x := by
  unfold Addr.add
  split
  · rfl
  · cases x; simp_all
theorem bytes_to (a : Option Addr) (n c h : Nat) (hc : h ≤ c) (W : World) : (Instr.slice 75 (.slice a n c) none (some (.int .i64 (h : Int))) none).run Try.prog W = .ok (.slice a h c) W := by
  rw [run_slice_h W 75 a n c (by kernel_rfl) .i64 h (by omega) (by omega), sizeB]
  show Result.ok (sliced a 0 h c 1) W = _
  unfold sliced
  congr 2
  split
  · rfl
  · cases a
    · rfl
    · simp [add_zero']
theorem Row.cut {w : World} {f x : FileM} {a : Option Addr} {c : Nat} (h : Row w (f, .slice a f.bytes.length c)) (n : Nat) (hn : n ≤ f.bytes.length) (hx : x.bytes = f.bytes.take n) : Row w (x, .slice a n c) := by
  have hl : x.bytes.length = n := by rw [hx, List.length_take]; omega
  unfold Row at h ⊢
  simp only [hl]
  rw [hx]
  refine ⟨by rw [bv_len, List.length_take]; omega, ?_⟩
  rcases h.2 with ⟨e, e2⟩ | ⟨g, cap, cur, e, hb, hh, h1, h2, h3, h4⟩
  · simp only at e e2
    injection e with e3 e4 e5
    have : n = 0 := by omega
    subst this
    exact .inl ⟨by rw [e3, e5], rfl⟩
  · injection e with e3 e4 e5
    refine .inr ⟨g, cap, cur, by rw [e3, e5], hb, hh, by omega, h2, h3, ?_⟩
    have : cur.toList.take (n * 1) = (cur.toList.take (f.bytes.length * 1)).take n := by rw [List.take_take]; congr 1; omega
    rw [this, h4]
    simp [bv]

theorem kept_eq (x : Int) (n : Nat) : min (max x 0) (n : Int) = (kept x n : Int) := by unfold kept; omega
theorem settle_bytes (f : FileM) (x : Int) : (settleF f x).bytes = f.bytes.take (f.bytes.length - (f.loose.length - kept x f.loose.length)) := by
  have hk : kept x f.loose.length ≤ f.loose.length := by unfold kept; omega
  simp only [settleF, FileM.bytes, List.append_nil]
  rw [List.take_append]
  congr 1
  · rw [List.take_of_length_le]
    rw [List.length_append]; omega
  · congr 1
    rw [List.length_append]; omega

/-- what settle keeps beside its calls -/
structure SetK (w : World) (p b g : Nat) (S : Nat → Prop) (m : Meta) (F : List (FileM × Value)) (x y : Value) (w' : World) : Prop where
  blk : w'.heap[g]? = some (.cells #[x, y] 77 (0, 0))
  raw : DiskRaw w' p b S m F
  below : Below w.heap.size w w'
theorem SetK.step {w W W' : World} {p b g : Nat} {S : Nat → Prop} {m : Meta} {F : List (FileM × Value)} {x y : Value} (h : SetK w p b g S m F x y W) (k : Below W.heap.size W W') : SetK w p b g S m F x y W' :=
  ⟨(k.block g (Array.getElem?_eq_some_iff.1 h.blk).1).trans h.blk, h.raw.below k, h.below.trans (k.mono h.below.size)⟩
theorem SetK.drew {w W : World} {p b g : Nat} {S : Nat → Prop} {m : Meta} {F : List (FileM × Value)} {x y : Value} (h : SetK w p b g S m F x y W) : SetK w p b g S m F x y W.drew := h.step ((Below.refl _ _).drew)
theorem SetK.cells {w W : World} {p b g : Nat} {S : Nat → Prop} {m : Meta} {F : List (FileM × Value)} {x y : Value} (h : SetK w p b g S m F x y W) : W.cell? ⟨g, 0, none⟩ = some x ∧ W.cell? ⟨g, 1, none⟩ = some y := ⟨cell_of_row _ _ 0 _ _ _ h.blk, cell_of_row _ _ 1 _ _ _ h.blk⟩
theorem SetK.free {w W : World} {p b g : Nat} {S : Nat → Prop} {m : Meta} {F : List (FileM × Value)} {x y : Value} (h : SetK w p b g S m F x y W) : W.frozen? ⟨g, 0, none⟩ = false ∧ W.frozen? ⟨g, 1, none⟩ = false := ⟨frozen_of_row _ _ 0 _ _ h.blk, frozen_of_row _ _ 1 _ _ h.blk⟩
theorem SetK.new {w : World} {p b : Nat} {S : Nat → Prop} {m : Meta} {F : List (FileM × Value)} (h : DiskRaw w p b S m F) (x y : Value) : SetK w p b w.heap.size S m F x y (w.alloc (.cells #[x, y] 77)) :=
  ⟨heap_alloc_new w _, h.below ((Below.refl _ w).alloc (Nat.le_refl _) _), (Below.refl _ w).alloc (Nat.le_refl _) _⟩

theorem SetK.set {w W : World} {p b g : Nat} {S : Nat → Prop} {m : Meta} {F : List (FileM × Value)} {x y : Value} (h : SetK w p b g S m F x y W) (hg : ¬ S g) (hw : w.heap.size ≤ g) (x' y' : Value) :
    SetK w p b g S m F x' y' ((W.setCell ⟨g, 0, none⟩ x').setCell ⟨g, 1, none⟩ y') := by
  have k : Kept (fun i => i = g) W ((W.setCell ⟨g, 0, none⟩ x').setCell ⟨g, 1, none⟩ y') := ((Kept.refl (fun i => i = g) W).setCell (.inl rfl) 0 x').setCell (.inl rfl) 1 y'
  refine ⟨heap_setCell_at (heap_setCell_at h.blk 0 x') 1 y', h.raw.kept k (fun i hi e => hg (e ▸ hi)), (h.below.setCell (p := ⟨g, 0, none⟩) hw x').setCell (p := ⟨g, 1, none⟩) hw y'⟩
set_option maxRecDepth 100000 in
set_option maxHeartbeats 2000000 in
theorem settle_any (s : ByteArray) (hs : s.size ≤ maxLen) (x : Int) (w : World) (p b : Nat) (S : Nat → Prop) (m : Meta) (F : List (FileM × Value)) (L : List FileM) (h : DiskRaw w p b S m F) (hp : (F.map (·.1)).Perm L)
    (f : FileM) (hg : getL L (toL s) = some f) (hb : f.bytes.length ≤ 10000000000) (hl : F.length ≤ 1000000) (hu : 0 ≤ m.used ∧ m.used ≤ 10000000000) :
    Calls Try.prog 47 #[pt p, .string s, .int .i64 x] w fun e w' => e = .returned (.tuple #[]) ∧
      ∃ v, DiskRaw w' p b (Grow S w w') { m with used := m.used - (f.loose.length - kept x f.loose.length : Nat) } ((settleF f x, v) :: F.filter (notN (toL s))) ∧ Kept S w w' := by
  have hc := h.cells.2.2.1
  have hlk := h.fs.look hs
  rcases h.find hp (toL s) with ⟨h1, _⟩ | ⟨f', a, c, h1, hmem, hname, h2, h3, h4, _⟩
  · rw [hg] at h1; cases h1
  rw [hg] at h1
  injection h1 with h1
  subst h1
  rw [h2] at hlk
  change (Instr.lookup 69 (.map (some b)) (.string s) false).run Try.prog w = .ok (.agg #[.slice a f.bytes.length c, .int .i64 (f.safe.length : Int)]) w at hlk
  have hll : f.bytes.length - f.safe.length = f.loose.length := by simp [FileM.bytes]
  have hsb : f.safe.length ≤ f.bytes.length := by simp [FileM.bytes]
  have HKN := Lib.hid (SetK.new h (.slice a f.bytes.length c) (.int .i64 (f.safe.length : Int)))
  have HLO := Lib.hid (loose_get a f.bytes.length c f.safe.length (by omega) hsb)
  rw [hll] at HLO
  have hkk : kept x f.loose.length ≤ f.loose.length := by unfold kept; omega
  have hmn := kept_eq x f.loose.length
  have hcut := (h.own _ hmem).1.cut (x := settleF f x) _ (Nat.sub_le _ _) (settle_bytes f x)
  have hsafe : (settleF f x).safe.length = f.bytes.length - (f.loose.length - kept x f.loose.length) := by
    have := settle_bytes f x
    have e : (settleF f x).bytes = (settleF f x).safe := by simp [settleF, FileM.bytes]
    rw [← e, this, List.length_take]; omega
  have hfrees := h.free 1
  have HM := Lib.hid hmem
  have HN := Lib.hid hname
  have HH := Lib.hid h
  have HCUT := Lib.hid hcut
  have HSF := Lib.hid hsafe
  have HNM : Hid ((settleF f x).name = toL s) := hname
  clear h h2 hg hmem hname hcut hsafe
  generalize settleF f x = f2 at *
  generalize f.loose.length = l at *
  generalize kept x l = g at *
  generalize f.bytes.length = n at *
  generalize f.safe.length = k at *
  obtain ⟨q, hq⟩ : ∃ q : Nat, q = l - g := ⟨_, rfl⟩
  have hw1 : IntKind.i64.wrap ((l : Int) - g) = (q : Int) := by rw [IntWalk.i64_in _ (by omega)]; omega
  obtain ⟨n2, hn2⟩ : ∃ n2 : Nat, n2 = n - q := ⟨_, rfl⟩
  rw [← hq, ← hn2] at HCUT HSF
  rw [← hq]
  have hw2 : IntKind.i64.wrap ((n : Int) - q) = (n2 : Int) := by rw [IntWalk.i64_in _ (by omega)]; omega
  have hw3 : IntKind.i64.wrap (m.used - q) = m.used - q := IntWalk.i64_in _ (by omega)
  have hto := bytes_to a n c n2 (by omega)
  have hn2c : n2 ≤ c := by omega
  clear hq hn2 hll hsb h3 hkk
  go_enter Try.func47, Try.ntmps47
  go_wp2
  generalize w.alloc (.cells #[.slice a n c, .int .i64 (k : Int)] 77) = W at *
  go_region_held3 (fun w' => w'.cell? ⟨w.heap.size, 0, none⟩ = some (.slice a n c) ∧ w'.cell? ⟨w.heap.size, 1, none⟩ = some (.int .i64 (k : Int)) ∧ SetK w p b w.heap.size S m F (.slice a n c) (.int .i64 (k : Int)) w')
    (first | assumption | exact ⟨HKN.out.drew.cells.1, HKN.out.drew.cells.2, HKN.out.drew⟩ | exact ⟨(SetK.step (And.right (And.right (by assumption))) (by assumption)).cells.1, (SetK.step (And.right (And.right (by assumption))) (by assumption)).cells.2, SetK.step (And.right (And.right (by assumption))) (by assumption)⟩)
    (first | (go_at_call 46; refine (HLO.out _).mono ?_; rintro e w2 ⟨rfl, hB2⟩))
  all_goals
    obtain ⟨_, _, hk2⟩ := ‹_ ∧ _ ∧ SetK w p b w.heap.size S m F (.slice a n c) (.int .i64 (k : Int)) w2›
    have HK2 := Lib.hid hk2
    obtain ⟨c0, c1⟩ := hk2.cells
    obtain ⟨z0, z1⟩ := hk2.free
    have HK3 := Lib.hid (hk2.set (fun e => by have := HH.out.lt _ e; omega) (Nat.le_refl _) (.slice a n2 c) (.int .i64 (n2 : Int)))
    clear hk2 HLO HKN
    go_wp2
    generalize (w2.setCell ⟨w.heap.size, 0, none⟩ (.slice a n2 c)).setCell ⟨w.heap.size, 1, none⟩ (.int .i64 (n2 : Int)) = W3 at *
    clear c0 c1 z0 z1
    obtain ⟨d0, d1⟩ := HK3.out.cells
    have d2 := HK3.out.raw.cells.2.2.1
    obtain ⟨w4, hrun, hfs4, hg4⟩ := HK3.out.raw.fs.drew.store hs (by rw [List.length_map]; unfold maxLen; omega) (cv (.slice a n2 c) n2)
    unfold cv at hrun
    have HQ := Lib.hid (HH.out.put_map (x := f2) (v := .slice a n2 c) (HK3.out.below.drew) hg4 HNM.out (len_cv HSF.out hfs4) HCUT.out (fun g2 hg2 => by
      have hb2 : (Value.slice a n c).ownBlock = some g2 := by
        cases a with
        | none => cases hg2
        | some ad => exact hg2
      exact ⟨(HH.out.own _ HM.out).2 g2 hb2, fun y hy hne => HH.out.two HM.out hy (fun e => hne (e ▸ HN.out)) hb2⟩))
    clear hfs4 hg4
    go_region
    obtain ⟨f1, f2', f3⟩ := (⟨HQ.out.1.cells.2.1, HQ.out.1.free 1, rfl⟩ : _ ∧ _ ∧ (1 : Nat) = 1)
    go_wp2
    go_end0
    exact ⟨rfl, ⟨.slice a n2 c, DiskRaw.wide (w0 := w) (w1 := w4) (HQ.out.1.setUsed (m.used - q)) (grownBy_setCell w4 p 1 _).size⟩, HQ.out.2.setCell (.inl HH.out.sp) 1 _⟩

end Go.Proofs.Ytammmhbkfdmbfaa
