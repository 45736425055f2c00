/- Contracts of layer 5: what Append, Sync, Delete and Rename do. -/
import Derived.Test.YtammmhbkfdmbfaaS6
import Derived.Deep.AppendSrc
import Derived.OwnWalk
namespace Go.Proofs.Ytammmhbkfdmbfaa
open Go.RowKit
set_option linter.unusedVariables false

/-- append of a text to a row of bytes -/
theorem run_append_str {P : Program} (w : World) (base : Nat) (t tx ty e : TypeId) (i : TypeInfo) (z : Value) (bytes : Nat) (ht : P.underlying t = some (.slice e)) (hk : P.underlying tx = some .string) (hi : P.info? e = some i) (hz : i.zero = some z)
    (hsize : i.size = 1) (hby : i.bytes = bytes) (hzs : z.cells.size = 1) (v : Value) (n : Nat) (xs : List Value) (hown : w.ownsRow base e 1 v n xs) (s : ByteArray)
    (h63 : n + s.size ≤ maxLen) (hbytes : (n + s.size) * bytes ≤ 140737488355328) (hbase : base ≤ w.heap.size) :
    ∃ v' w', (Builtin.append_ #[t, tx] ty #[v, .string s]).run P w = .ok v' w' ∧ w'.ownsRow base e 1 v' (n + s.size) (xs ++ byteCells s) ∧ w.grownBy w' v.ownBlock ∧ (∀ g, v'.ownBlock = some g → v.ownBlock = some g ∨ (w.heap.size ≤ g ∧ g < w'.heap.size)) := by
  subst hby
  have hsmall : n + s.size ≤ 9223372036854775807 := by simp only [maxLen] at h63; omega
  have hlen : (xs ++ byteCells s).length = (n + s.size) * 1 := by rw [List.length_append, hown.1, byteCells_length]; omega
  have hsrc : ∀ W : World, Src P i.size tx (.string s) s.size (byteCells s) W := fun W => by rw [hsize]; exact Src.ofString W hk s
  have grown : ∀ (old : Nat), old < n + s.size → ∀ (row : Option Nat),
      (w.drew.alloc (.cells ((xs ++ byteCells s).toArray ++ Builtin.zeroCells z.cells (grownCap w (n + s.size) old e - (n + s.size))) e)).ownsRow base e 1
        (.slice (some ⟨w.heap.size, 0, none⟩) (n + s.size) (grownCap w (n + s.size) old e)) (n + s.size) (xs ++ byteCells s) ∧
      w.grownBy (w.drew.alloc (.cells ((xs ++ byteCells s).toArray ++ Builtin.zeroCells z.cells (grownCap w (n + s.size) old e - (n + s.size))) e)) row := by
    intro old ho row
    have hge := grownCap_ge w (n + s.size) old e
    have hcm : grownCap w (n + s.size) old e ≤ maxLen := grownCap_le_maxLen w (n + s.size) old e h63
    refine ⟨⟨hlen, .inr ⟨w.heap.size, _, _, rfl, hbase, heap_alloc_new w.drew _, hge, hcm, ?_, ?_⟩⟩, ⟨rfl, rfl, rfl, by simp, fun j hj _ => heap_alloc_old w.drew _ hj⟩⟩
    · simp only [Array.size_append, List.size_toArray, size_zeroCells, hzs, hlen]
      omega
    · simp only [Array.toList_append]
      rw [← hlen]
      exact List.take_left
  rcases hown.2 with ⟨rfl, rfl⟩ | ⟨g, cap, cur, rfl, hbg, hg, hnc, hcm, hcs, htake⟩
  · have hx : xs = [] := List.eq_nil_of_length_eq_zero (by simpa using hown.1)
    subst hx
    by_cases hm : s.size = 0
    · have hn : byteCells s = [] := List.eq_nil_of_length_eq_zero (by rw [byteCells_length, hm])
      refine ⟨.slice none 0 0, w, ?_, ?_, ⟨rfl, rfl, rfl, Nat.le_refl _, fun _ _ _ => rfl⟩, fun g hg => by cases hg⟩
      · have h1 := (hsrc w).len w
        have h2 := (hsrc w).cells
        rw [hm] at h1
        rw [hm, hn] at h2
        simp [Builtin.append_, run_underlying ht, run_underlying hk, sizeOf, typeInfo, hi, h1, h2]
      · rw [hm, hn]; exact World.ownsRow_nil w base e 1
    · have hr := run_append_grow_src (P := P) w t tx ty e i z ht hi hz none 0 0 [] (run_firstCells_none w.drew i.size 0 0 0) (.string s) s.size (byteCells s) (hsrc w) (by omega) (by omega) (growslice_fits (by omega) hbytes)
      have hgr := grown 0 (by omega) (Value.ownBlock (.slice none 0 0))
      simp only [Nat.zero_add, List.nil_append] at hgr hr ⊢
      refine ⟨_, _, hr, hgr.1, hgr.2, fun g hg => .inr ?_⟩
      simp [Value.ownBlock] at hg
      simp; omega
  · by_cases hroom : n + s.size ≤ cap
    · have hst := run_storeCells_at P g (n * 1) e (byteCells s) 0 cur w hg (by rw [byteCells_length, hcs]; omega) (hsrc w).one
      have hf := (hsrc w).cells
      simp only [Nat.add_zero] at hst
      have hr : (Builtin.append_ #[t, tx] ty #[.slice (some ⟨g, 0, none⟩) n cap, .string s]).run P w = .ok (.slice (some ⟨g, 0, none⟩) (n + s.size) cap) (w.setRow g (cur.toList.take (n * 1) ++ byteCells s ++ cur.toList.drop (n * 1 + (byteCells s).length)).toArray) := by
        rw [hsize] at hf
        simp only [Nat.mul_one] at hst ⊢
        simp [Builtin.append_, run_underlying ht, run_underlying hk, sizeOf, typeInfo, hi, Builtin.lenOf, hroom, hf, hsize, Addr.add_lit, hst]
      refine ⟨_, _, hr, ⟨hlen, .inr ⟨g, cap, _, rfl, hbg, setRow_heap w g cur _ e _ hg, hroom, hcm, ?_, ?_⟩⟩, ⟨rfl, rfl, rfl, by simp, fun k _ hk => setRow_other w g k _ (fun e => hk (by simp [Value.ownBlock, e]))⟩, fun g' hg' => .inl hg'⟩
      · have := byteCells_length s
        simp only [List.size_toArray, List.length_append, List.length_take, List.length_drop, Array.length_toList]
        omega
      · rw [htake, ← hlen]
        exact List.take_left
    · have holds : ∀ j u, xs[j]? = some u → w.cell? ((⟨g, 0, none⟩ : Addr).add j) = some u := hown.cells (g := g) rfl
      have hr := run_append_grow_src (P := P) w t tx ty e i z ht hi hz (some ⟨g, 0, none⟩) n cap xs (run_firstCells_some w.drew i.size n ⟨g, 0, none⟩ n cap xs (by rw [hsize]; exact hown.1) (by simpa using holds)) (.string s) s.size (byteCells s) (hsrc w) (by omega) (by omega) (growslice_fits (by omega) hbytes)
      have hgr := grown cap (by omega) (Value.ownBlock (.slice (some ⟨g, 0, none⟩) n cap))
      refine ⟨_, _, hr, hgr.1, hgr.2, fun g' hg' => .inr ?_⟩
      simp [Value.ownBlock] at hg'
      simp; omega

theorem wpList_append_str {P : Program} (w : World) {ops : Array Oper} {rest : List Oper} {o : Oper} {a : Act} {Q : Exit → Act → World → Prop} (hgd : o.guard = none) (sl x : Operand) (t tx : TypeId)
    (ho : o.op = .call { callee := .builtin .append, args := #[sl, x], argTypes := #[t, tx] })
    (base : Nat) (e : TypeId) (i : TypeInfo) (z : Value) (bytes : Nat) (ht : P.underlying t = some (.slice e)) (hk : P.underlying tx = some .string) (hi : P.info? e = some i) (hz : i.zero = some z)
    (hsize : i.size = 1) (hby : i.bytes = bytes) (hzs : z.cells.size = 1) (v : Value) (n : Nat) (xs : List Value) (hs : a.eval sl = v) (hown : w.ownsRow base e 1 v n xs) (s : ByteArray) (hx : a.eval x = .string s)
    (h63 : n + s.size ≤ maxLen) (hbytes : (n + s.size) * bytes ≤ 140737488355328) (hbase : base ≤ w.heap.size)
    (h : ∀ v' w', w'.ownsRow base e 1 v' (n + s.size) (xs ++ byteCells s) → w.grownBy w' v.ownBlock → (∀ g, v'.ownBlock = some g → v.ownBlock = some g ∨ (w.heap.size ≤ g ∧ g < w'.heap.size)) → wpList P ops Q rest (a.put o.dst v') w') : wpList P ops Q (o :: rest) a w :=
  wpList_plain hgd fun K hK => by
    obtain ⟨v', w', hr, h2, h3, h4⟩ := run_append_str (P := P) w base t tx o.type e i z bytes ht hk hi hz hsize hby hzs v n xs hown s h63 hbytes hbase
    unfold Oper.wp execOp
    simp only [ho, resolve, invoke, builtin, Sem.run_bind, Sem.run_pure, Result.andThen_ok, List.map_toArray, List.map_cons, List.map_nil, hs, hx, hr]
    exact hK _ _ (h v' w' h2 h3 h4)

theorem byteCells_bv (s : ByteArray) : byteCells s = bv (toL s) := rfl
theorem bv_append (a b : Nm) : bv (a ++ b) = bv a ++ bv b := by simp [bv]

/-- what stays while a file's row is written -/
theorem row_facts {w w2 : World} {p b bd : Nat} {S : Nat → Prop} {m : Meta} {F : List (FileM × Value)} (h : DiskRaw w p b S m F) {x y : Value} {row : Option Nat} (hg : (w.alloc (.cells #[x, y] 77)).drew.grownBy w2 row)
    (hr : ∀ g, row = some g → S g) (nr : row ≠ some p) (nb : row ≠ some b) (hd : w.cell? ⟨bd, 0, none⟩ = some (pt p)) (nd : ¬ S bd) :
    w2.cell? ⟨bd, 0, none⟩ = some (pt p) ∧ w2.cell? ⟨p, 1, none⟩ = some (.int .i64 m.used) ∧ w2.cell? ⟨p, 2, none⟩ = some (.map (some b)) ∧ w2.heap[w.heap.size]? = some (.cells #[x, y] 77 (0, 0)) ∧ w2.frozen? ⟨p, 1, none⟩ = false ∧ Fs w2 b (F.map fv) ∧ w.heap.size < w2.heap.size := by
  have hbd := World.block_lt_of_cell? w _ hd
  have hbp := h.lt p h.sp
  have hbb := h.lt b h.sb
  have hsz : w.heap.size < w2.heap.size := by have := hg.size; have e : (w.alloc (.cells #[x, y] 77)).drew.heap.size = w.heap.size + 1 := size1 _ _; omega
  have old : ∀ i, i < w.heap.size → row ≠ some i → w2.heap[i]? = w.heap[i]? := fun i hi hne =>
    (hg.block i (by have e : (w.alloc (.cells #[x, y] 77)).drew.heap.size = w.heap.size + 1 := size1 _ _; omega) hne.symm).trans (Below.heap_alloc w _ i hi)
  have hp2 : w2.heap[p]? = some (.cells (dCells m b) 71 (0, 0)) := (old p hbp nr).trans h.blk
  refine ⟨?_, cell_of_row _ _ 1 _ _ _ hp2, cell_of_row _ _ 2 _ _ _ hp2, ?_, frozen_of_row _ _ 1 _ _ hp2, h.fs.same (old b hbb nb), hsz⟩
  · exact (World.cell?_of_block (a := ⟨bd, 0, none⟩) (old bd hbd (fun e => nd (hr bd e)))).trans hd
  · refine (hg.block w.heap.size (by have e : (w.alloc (.cells #[x, y] 77)).drew.heap.size = w.heap.size + 1 := size1 _ _; omega) (fun e => ?_)).trans (heap_alloc_new w _)
    have := h.lt _ (hr _ e.symm)
    omega
theorem row_box {w w2 : World} {bf : Nat} {S : Nat → Prop} {o : Obj} {v : Value} {row : Option Nat} (hg : (w.alloc o).drew.grownBy w2 row) (hr : ∀ g, row = some g → S g) (hd : w.cell? ⟨bf, 0, none⟩ = some v) (nd : ¬ S bf) : w2.cell? ⟨bf, 0, none⟩ = some v := by
  have hbd := World.block_lt_of_cell? w _ hd
  refine (World.cell?_of_block (a := ⟨bf, 0, none⟩) ?_).trans hd
  exact (hg.block bf (by have e : (w.alloc o).drew.heap.size = w.heap.size + 1 := size1 _ _; simp at hbd; omega) (fun e => nd (hr bf e.symm))).trans (Below.heap_alloc w _ bf hbd)

set_option maxHeartbeats 1000000 in
theorem append1 (s t : ByteArray) (hs : s.size ≤ maxLen) (w : World) (p b bd bf bt : Nat) (S : Nat → Prop) (m : Meta) (F : List (FileM × Value)) (L : List FileM) (h : DiskRaw w p b S m F) (hp : (F.map (·.1)).Perm L)
    (hd : w.cell? ⟨bd, 0, none⟩ = some (pt p)) (hf : w.cell? ⟨bf, 0, none⟩ = some (.string s)) (ht : w.cell? ⟨bt, 0, none⟩ = some (.string t)) (nd : ¬ S bd) (nf : ¬ S bf) (nt : ¬ S bt)
    (f : FileM) (hg : getL L (toL s) = some f) (hu : 0 ≤ m.used ∧ m.used ≤ 10000000000) (hb : f.bytes.length ≤ 10000000000) (htz : t.size ≤ 10000000000) (hl : F.length ≤ 1000000) :
    Calls Try.prog 55 #[pt bd, pt bf, pt bt] w fun e w' => e = .returned (.tuple #[]) ∧ ∃ v, DiskRaw w' p b (Grow S w w') { m with used := m.used + t.size } ((⟨f.name, f.safe, f.loose ++ toL t⟩, v) :: F.filter (notN (toL s))) ∧ Kept S w w' := by
  obtain ⟨i0, hi, hz0, hz1, hz2⟩ := info_parts Try.infoByte
  have hc := h.cells.2.2.1
  have hlk := h.fs.drew.look hs
  rcases h.find hp (toL s) with ⟨h1, _⟩ | ⟨f', a, c, h1, hmem, hname, h2, h3, h4, _⟩
  · rw [hg] at h1; cases h1
  rw [hg] at h1
  injection h1 with h1
  subst h1
  rw [h2] at hlk
  change (Instr.lookup 69 (.map (some b)) (.string s) false).run Try.prog w.drew = .ok (.agg #[.slice a f.bytes.length c, .int .i64 (f.safe.length : Int)]) w.drew at hlk
  have hlk2 : (Instr.lookup 69 (.map (some b)) (.string s) false).run Try.prog (w.alloc (.cells #[.slice none 0 0, .int .i64 0] 77)).drew = .ok (.agg #[.slice a f.bytes.length c, .int .i64 (f.safe.length : Int)]) (w.alloc (.cells #[.slice none 0 0, .int .i64 0] 77)).drew := by
    have := (h.below ((Below.refl _ w).alloc (Nat.le_refl _) (.cells #[.slice none 0 0, .int .i64 0] 77))).fs.drew.look hs
    rwa [h2] at this
  have HW := Lib.hid (h.own _ hmem)
  have hbd := World.block_lt_of_cell? w _ hd
  have hbf := World.block_lt_of_cell? w _ hf
  have hbt := World.block_lt_of_cell? w _ ht
  have hbp := h.lt p h.sp
  have HH := Lib.hid h
  have HN := Lib.hid hname
  have HM := Lib.hid hmem
  have ND := Lib.hid nd
  have NF := Lib.hid nf
  have NT := Lib.hid nt
  clear h nd nf nt hname hmem h2 hg h3
  simp only at hbd hbf hbt
  generalize hlen : f.bytes.length = n at *
  generalize hsl : f.safe.length = k at *
  have HL := Lib.hid hlen
  have HS := Lib.hid hsl
  clear hlen hsl
  go_enter Try.func55, Try.ntmps55
  go_wp2
  go_region
  all_goals
    go_wp2_with (at_builtin; refine wpList_append_str _ rfl (.tmp 11) (.tmp 12) 75 9 rfl 0 5 i0 (.int .u8 0) 1 Try.underlying75 Try.underlying9 hi hz0 hz1 hz2 rfl (.slice a n c) n (bv f.bytes) rfl (World.ownsRow.alloc (HL.out ▸ HW.out.1) _) _ rfl (by unfold maxLen; omega) (by omega) (Nat.zero_le _) ?_; intro v' w2 hown2 hg2 hloc2; have HL2 := Lib.hid hloc2; have HO2 := Lib.hid hown2; have HG2 := Lib.hid hg2; obtain ⟨a', c', rfl, -⟩ := own_slice hown2; obtain ⟨q1, q2, q3, q4, q5, q6, q7⟩ := row_facts HH.out hg2 HW.out.2 (HH.out.row_p HW.out.1) (HH.out.row_b HW.out.1) hd ND.out; have q8 := row_box hg2 HW.out.2 hf NF.out; have q9 := row_box hg2 HW.out.2 ht NT.out; have q10 := cell_of_row _ _ 0 _ _ _ q4; have q11 := cell_of_row _ _ 1 _ _ _ q4; have q12 := frozen_of_row _ _ 0 _ _ q4; clear hloc2 hown2 hg2)
    have HS3 : Hid (Fs (w2.setCell ⟨w.heap.size, 0, none⟩ (.slice a' (n + t.size) c')) b (F.map fv)) := q6.same (Below.heap_setCell _ _ _ _ (fun e => by have := HH.out.lt b HH.out.sb; simp only at e; omega))
    have HG3 := Lib.hid (grownBy_setCell w2 w.heap.size 0 (.slice a' (n + t.size) c'))
    have q13 := heap_setCell_at q4 0 (.slice a' (n + t.size) c')
    have keep : ∀ (x : Nat) (i : Nat) (v : Value), x < w.heap.size → w2.cell? ⟨x, i, none⟩ = some v → (w2.setCell ⟨w.heap.size, 0, none⟩ (.slice a' (n + t.size) c')).cell? ⟨x, i, none⟩ = some v := fun x i v hx hc => HG3.out.cell hc (fun e => by injection e with e; simp only at e; omega)
    have r1 := keep bd 0 _ hbd q1
    have r2 := keep p 1 _ hbp q2
    have r3 := keep p 2 _ hbp q3
    have r8 := keep bf 0 _ hbf q8
    have r9 := keep bt 0 _ hbt q9
    have r5 : (w2.setCell ⟨w.heap.size, 0, none⟩ (.slice a' (n + t.size) c')).frozen? ⟨p, 1, none⟩ = false := (World.frozen?_setCell _ _ _ _).trans q5
    clear keep q1 q2 q3 q4 q5 q6 q8 q9 q10 q11 q12
    generalize hw3 : w2.setCell ⟨w.heap.size, 0, none⟩ (.slice a' (n + t.size) c') = w3 at *
    clear hw3
    have r10 := cell_of_row _ _ 0 _ _ _ q13
    have r11 := cell_of_row _ _ 1 _ _ _ q13
    obtain ⟨w4, hrun, hfs4, hg4⟩ := HS3.out.drew.store hs (by rw [List.length_map]; unfold maxLen; omega) (cv (.slice a' (n + t.size) c') k)
    unfold cv at hrun
    have HF4 := Lib.hid hfs4
    have HG4 := Lib.hid hg4
    have keep4 : ∀ (x : Nat) (i : Nat) (v : Value), x ≠ b → w3.cell? ⟨x, i, none⟩ = some v → w4.cell? ⟨x, i, none⟩ = some v := fun x i v hx hc => hg4.cell (show w3.drew.cell? ⟨x, i, none⟩ = some v from hc) (fun e => hx (Option.some.inj e))
    have s1 := keep4 bd 0 _ (fun e => ND.out (e ▸ HH.out.sb)) r1
    have s2 := keep4 p 1 _ HH.out.bp.symm r2
    have s9 := keep4 bt 0 _ (fun e => NT.out (e ▸ HH.out.sb)) r9
    have s5 : w4.frozen? ⟨p, 1, none⟩ = false := (World.frozen?_of_block (a := ⟨p, 1, none⟩) (hg4.block p (by have := HG3.out.size; have e : w3.drew.heap.size = w3.heap.size := rfl; omega) (fun e => HH.out.bp (Option.some.inj e).symm))).trans r5
    clear keep4 hfs4 hg4 q13
    go_region
    have hw : IntKind.i64.wrap (m.used + t.size) = m.used + t.size := IntWalk.i64_in _ (by omega)
    have HQ : Hid (DiskRaw w4 p b (Grow S w w4) m ((⟨f.name, f.safe, f.loose ++ toL t⟩, .slice a' (n + t.size) c') :: F.filter (notN (toL s))) ∧ Kept S w w4) := by
      have e1 : (w.alloc (.cells #[.slice a n c, .int .i64 (k : Int)] 77)).drew.heap.size = w.heap.size + 1 := size1 _ _
      have z2 := HG2.out.size
      have z3 := HG3.out.size
      have z4 : w3.heap.size ≤ w4.heap.size := HG4.out.size
      have old : ∀ i, i < w.heap.size → i ≠ b → (Value.slice a n c).ownBlock ≠ some i → w4.heap[i]? = w.heap[i]? := fun i h1 h2 h3 =>
        (HG4.out.block i (by show i < w3.heap.size; omega) (fun e => h2 (Option.some.inj e))).trans ((HG3.out.block i (by omega) (fun e => by injection e with e; omega)).trans ((HG2.out.block i (by omega) (fun e => h3 e.symm)).trans (Below.heap_alloc w _ i h1)))
      have hrow4 : Row w4 (⟨f.name, f.safe, f.loose ++ toL t⟩, .slice a' (n + t.size) c') := by
        have o2 : Row w2 (⟨f.name, f.safe, f.loose ++ toL t⟩, .slice a' (n + t.size) c') := by
          have := HO2.out
          unfold Row
          have el : FileM.bytes ⟨f.name, f.safe, f.loose ++ toL t⟩ = f.bytes ++ toL t := by simp [FileM.bytes]
          rw [el, List.length_append, HL.out, toL_length, bv_append]
          exact this
        refine o2.same fun g hg => ?_
        obtain ⟨cur, hcur⟩ := o2.obj hg
        have hgl : g < w2.heap.size := (Array.getElem?_eq_some_iff.1 hcur).1
        have hgw : g ≠ w.heap.size := fun e => by
          rcases HL2.out g hg with e2 | ⟨e2, _⟩
          · have := HH.out.lt g (HW.out.2 g e2); omega
          · omega
        refine (HG4.out.block g (by show g < w3.heap.size; omega) (fun e => ?_)).trans (HG3.out.block g hgl (fun e => hgw (Option.some.inj e)))
        obtain ⟨xs, cl, hbb⟩ := HS3.out.obj
        have e3 := HG3.out.block g hgl (fun e => hgw (Option.some.inj e))
        rw [Option.some.inj e, hbb] at e3
        rw [Option.some.inj e, ← e3] at hcur
        cases hcur
      refine ⟨HH.out.put HN.out (by omega) (fun i h1 h2 h3 => .inl (old i h1 h2 (h3 _ HM.out HN.out))) (by simp only [HS.out]; exact HF4.out) hrow4 (fun g hg y hy hne => ?_) (fun e => ?_) (fun g hg => ?_), ⟨?_, ?_, ?_, by omega, fun i h1 h2 => old i h1 (fun e => h2 (e ▸ HH.out.sb)) (fun e => h2 (HW.out.2 i e))⟩⟩
      · rcases HL2.out g hg with e2 | ⟨e2, _⟩
        · exact HH.out.two HM.out hy (fun e => hne (e ▸ HN.out)) e2
        · intro e3
          have := HH.out.lt g ((HH.out.own y hy).2 g e3); omega
      · rcases HL2.out p e with e2 | ⟨e2, _⟩
        · exact HH.out.row_p HW.out.1 e2
        · omega
      · rcases HL2.out g hg with e2 | ⟨e2, e3⟩
        · exact .inl (HW.out.2 g e2)
        · exact .inr ⟨by omega, by omega⟩
      · exact HG4.out.os.trans (HG3.out.os.trans HG2.out.os)
      · exact HG4.out.tape.trans (HG3.out.tape.trans HG2.out.tape)
      · exact HG4.out.output.trans (HG3.out.output.trans HG2.out.output)
    go_wp2
    go_region
    go_end0
    have hz := (grownBy_setCell w4 p 1 (.int .i64 (m.used + t.size))).size
    exact ⟨rfl, .slice a' (n + t.size) c', DiskRaw.wide (w0 := w) (w1 := w4) ((HQ.out.1.setUsed (m.used + t.size)).below ((Below.refl _ _).drew)) hz, (HQ.out.2.setCell (.inl HH.out.sp) 1 _).drew⟩
end Go.Proofs.Ytammmhbkfdmbfaa
