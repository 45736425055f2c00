/- Contracts of layer 5: what Sync, Delete and Rename do. -/
import Derived.Test.YtammmhbkfdmbfaaS7
namespace Go.Proofs.Ytammmhbkfdmbfaa
open Go.RowKit
set_option linter.unusedVariables false

/-- a file is put, its row as it was -/
theorem DiskRaw.put_map {w w1 w4 : World} {p b : Nat} {S : Nat → Prop} {m : Meta} {F : List (FileM × Value)} (h : DiskRaw w p b S m F) (hB : Below w.heap.size w w1) (hg : w1.grownBy w4 (some b)) {n : Nm} {x : FileM} {v : Value} (hx : x.name = n)
    (hfs : Fs w4 b ((n, cv v x.safe.length) :: (F.map fv).filter (noKey n))) (hown : Row w (x, v)) (hap : ∀ g, v.ownBlock = some g → S g ∧ ∀ y ∈ F, y.1.name ≠ n → y.2.ownBlock ≠ some g) :
    DiskRaw w4 p b (Grow S w w4) m ((x, v) :: F.filter (notN n)) ∧ Kept S w w4 := by
  have hs : w.heap.size ≤ w4.heap.size := Nat.le_trans hB.size hg.size
  have old : ∀ i, i < w.heap.size → i ≠ b → w4.heap[i]? = w.heap[i]? := fun i h1 h2 => (hg.block i (Nat.lt_of_lt_of_le h1 hB.size) (fun e => h2 (Option.some.inj e))).trans (hB.block i h1)
  refine ⟨h.put hx hs (fun i h1 h2 _ => .inl (old i h1 h2)) hfs (hown.same fun g hg => old g (h.lt g (hap g hg).1) (fun e => h.row_b hown (e ▸ hg))) (fun g hg => (hap g hg).2) (h.row_p hown) (fun g hg => .inl (hap g hg).1), ?_⟩
  exact ⟨hg.os.trans hB.os, hg.tape.trans hB.tape, hg.output.trans hB.output, hs, fun i h1 h2 => old i h1 (fun e => h2 (e ▸ h.sb))⟩

theorem len_cv {w : World} {b : Nat} {k : Nm} {v : Value} {l : Nm} {n : Nat} {E : List (Nm × Value)} (e : l.length = n) (h : Fs w b ((k, cv v n) :: E)) : Fs w b ((k, cv v l.length) :: E) := by rw [e]; exact h
set_option maxHeartbeats 1000000 in
theorem sync1 (s : ByteArray) (hs : s.size ≤ maxLen) (w : World) (p b bd bf : Nat) (S : Nat → Prop) (m : Meta) (F : List (FileM × Value)) (L : List FileM) (h : DiskRaw w p b S m F) (hp : (F.map (·.1)).Perm L)
    (hd : w.cell? ⟨bd, 0, none⟩ = some (pt p)) (hf : w.cell? ⟨bf, 0, none⟩ = some (.string s)) (nd : ¬ S bd) (nf : ¬ S bf)
    (f : FileM) (hg : getL L (toL s) = some f) (hb : f.bytes.length ≤ 10000000000) (hl : F.length ≤ 1000000) :
    Calls Try.prog 56 #[pt bd, pt bf] w fun e w' => e = .returned (.tuple #[]) ∧ ∃ v, DiskRaw w' p b (Grow S w w') m ((⟨f.name, f.safe ++ f.loose, []⟩, v) :: F.filter (notN (toL s))) ∧ Kept S w w' := by
  have hc := h.cells.2.2.1
  have hlk := h.fs.drew.look hs
  rcases h.find hp (toL s) with ⟨h1, _⟩ | ⟨f', a, c, h1, hmem, hname, h2, h3, h4, _⟩
  · rw [hg] at h1; cases h1
  rw [hg] at h1
  injection h1 with h1
  subst h1
  rw [h2] at hlk
  change (Instr.lookup 69 (.map (some b)) (.string s) false).run Try.prog w.drew = .ok (.agg #[.slice a f.bytes.length c, .int .i64 (f.safe.length : Int)]) w.drew at hlk
  have hlk2 : (Instr.lookup 69 (.map (some b)) (.string s) false).run Try.prog (w.alloc (.cells #[.slice none 0 0, .int .i64 0] 77)).drew = .ok (.agg #[.slice a f.bytes.length c, .int .i64 (f.safe.length : Int)]) (w.alloc (.cells #[.slice none 0 0, .int .i64 0] 77)).drew := by
    have := (h.below ((Below.refl _ w).alloc (Nat.le_refl _) (.cells #[.slice none 0 0, .int .i64 0] 77))).fs.drew.look hs
    rwa [h2] at this
  have HW := Lib.hid (h.own _ hmem)
  have hbd := World.block_lt_of_cell? w _ hd
  have hbf := World.block_lt_of_cell? w _ hf
  have hbp := h.lt p h.sp
  have HH := Lib.hid h
  have HN := Lib.hid hname
  have HM := Lib.hid hmem
  have ND := Lib.hid nd
  have NF := Lib.hid nf
  clear h nd nf hname hmem h2 hg h3
  simp only at hbd hbf
  generalize hlen : f.bytes.length = n at *
  generalize hsl : f.safe.length = k at *
  have HL := Lib.hid hlen
  clear hlen hsl
  go_enter Try.func56, Try.ntmps56
  go_wp2
  go_region
  all_goals
    go_wp2
    have HB1 : Below w.heap.size w (w.alloc (.cells #[.slice a n c, .int .i64 (n : Int)] 77)).drew.drew := (((Below.refl _ w).alloc (Nat.le_refl _) _).drew).drew
    obtain ⟨w4, hrun, hfs4, hg4⟩ := (HH.out.below HB1).fs.store hs (by rw [List.length_map]; unfold maxLen; omega) (cv (.slice a n c) n)
    unfold cv at hrun
    have HQ := Lib.hid (HH.out.put_map (x := ⟨f.name, f.safe ++ f.loose, []⟩) (v := .slice a n c) HB1 hg4 HN.out (len_cv HL.out hfs4) (by
      have := HW.out.1
      unfold Row at this ⊢
      have e : FileM.bytes ⟨f.name, f.safe ++ f.loose, []⟩ = f.bytes := by simp [FileM.bytes]
      rw [e]; exact this) (fun g hg => ⟨HW.out.2 g hg, fun y hy hne => HH.out.two HM.out hy (fun e => hne (e ▸ HN.out)) hg⟩))
    clear hfs4 hg4 HB1
    go_region
    go_end0
    exact ⟨rfl, _, HQ.out⟩

theorem Kept.cell {T : Nat → Prop} {w w' : World} (k : Kept T w w') {x i : Nat} {v : Value} (h : w.cell? ⟨x, i, none⟩ = some v) (hT : ¬ T x) : w'.cell? ⟨x, i, none⟩ = some v :=
  (World.cell?_of_block (a := ⟨x, i, none⟩) (k.block x (World.block_lt_of_cell? w _ h) hT)).trans h
theorem DiskRaw.from {w w1 w' : World} {p b : Nat} {S : Nat → Prop} {m : Meta} {F : List (FileM × Value)} (h : DiskRaw w' p b (Grow S w1 w') m F) (h1 : w.heap.size ≤ w1.heap.size) (h2 : w1.heap.size ≤ w'.heap.size) : DiskRaw w' p b (Grow S w w') m F :=
  h.mono (fun i hi => by rcases hi with hi | hi; exact .inl hi; exact .inr ⟨by omega, hi.2⟩) (fun i hi => by
    rcases hi with hi | hi
    · exact h.lt i (.inl hi)
    · exact hi.2)

theorem delete1 (s : ByteArray) (hs : s.size ≤ maxLen) (w : World) (p b bd bf : Nat) (S : Nat → Prop) (m : Meta) (F : List (FileM × Value)) (L : List FileM) (h : DiskRaw w p b S m F) (hp : (F.map (·.1)).Perm L)
    (hd : w.cell? ⟨bd, 0, none⟩ = some (pt p)) (hf : w.cell? ⟨bf, 0, none⟩ = some (.string s)) (hu : 0 ≤ m.used ∧ m.used ≤ 1000000000000000000) :
    Calls Try.prog 59 #[pt bd, pt bf] w fun e w' => e = .returned (.tuple #[]) ∧ DiskRaw w' p b S { m with used := m.used - sizeN L (toL s) } (F.filter (notN (toL s))) ∧ Kept S w w' := by
  have HC := Lib.hid (drop_any s hs w p b S m F L h hp hu)
  go_enter Try.func59, Try.ntmps59
  go_wp2_with fail
  refine HC.out.mono ?_
  rintro e w1 ⟨rfl, hq, hk⟩
  have HQ := Lib.hid hq
  have HK := Lib.hid hk
  clear hq hk
  go_wp2
  go_end0
  exact ⟨rfl, HQ.out, HK.out.mono fun i e => by rcases e with rfl | rfl; exact HQ.out.sp; exact HQ.out.sb⟩

theorem filt_twice (F : List (FileM × Value)) (n : Nm) : (F.filter (notN n)).filter (notN n) = F.filter (notN n) := by rw [List.filter_filter]; simp
set_option maxHeartbeats 1000000 in
theorem rename1 (s t : ByteArray) (hs : s.size ≤ maxLen) (hts : t.size ≤ maxLen) (w : World) (p b bd bf bt : Nat) (S : Nat → Prop) (m : Meta) (F : List (FileM × Value)) (L : List FileM) (h : DiskRaw w p b S m F) (hp : (F.map (·.1)).Perm L)
    (hd : w.cell? ⟨bd, 0, none⟩ = some (pt p)) (hf : w.cell? ⟨bf, 0, none⟩ = some (.string s)) (ht : w.cell? ⟨bt, 0, none⟩ = some (.string t)) (nd : ¬ S bd) (nf : ¬ S bf) (nt : ¬ S bt)
    (f : FileM) (hg : getL L (toL s) = some f) (hu : 0 ≤ m.used ∧ m.used ≤ 1000000000000000000) (hl : F.length ≤ 1000000) :
    Calls Try.prog 57 #[pt bd, pt bf, pt bt] w fun e w' => e = .returned (.tuple #[]) ∧
      ∃ v, DiskRaw w' p b (Grow S w w') { m with used := m.used - sizeN (wo L (toL s)) (toL t) } ((⟨toL t, f.safe, f.loose⟩, v) :: (F.filter (notN (toL s))).filter (notN (toL t))) ∧ Kept S w w' := by
  have hc := h.cells.2.2.1
  have hlk := h.fs.drew.look hs
  rcases h.find hp (toL s) with ⟨h1, _⟩ | ⟨f', a, c, h1, hmem, hname, h2, h3, h4, _⟩
  · rw [hg] at h1; cases h1
  rw [hg] at h1
  injection h1 with h1
  subst h1
  rw [h2] at hlk
  change (Instr.lookup 69 (.map (some b)) (.string s) false).run Try.prog w.drew = .ok (.agg #[.slice a f.bytes.length c, .int .i64 (f.safe.length : Int)]) w.drew at hlk
  have hlk2 : (Instr.lookup 69 (.map (some b)) (.string s) false).run Try.prog (w.alloc (.cells #[.slice none 0 0, .int .i64 0] 77)).drew = .ok (.agg #[.slice a f.bytes.length c, .int .i64 (f.safe.length : Int)]) (w.alloc (.cells #[.slice none 0 0, .int .i64 0] 77)).drew := by
    have := (h.below ((Below.refl _ w).alloc (Nat.le_refl _) (.cells #[.slice none 0 0, .int .i64 0] 77))).fs.drew.look hs
    rwa [h2] at this
  have HW := Lib.hid (h.own _ hmem)
  have hbd := World.block_lt_of_cell? w _ hd
  have hbf := World.block_lt_of_cell? w _ hf
  have hbt := World.block_lt_of_cell? w _ ht
  have hbp := h.lt p h.sp
  have HH := Lib.hid h
  have HN := Lib.hid hname
  have HM := Lib.hid hmem
  have ND := Lib.hid nd
  have NF := Lib.hid nf
  have NT := Lib.hid nt
  have HP := Lib.hid (perm_wo hp (toL s))
  clear h nd nf nt hname hmem h2 hg h3 hp
  simp only at hbd hbf hbt
  generalize hlen : f.bytes.length = n at *
  generalize hsl : f.safe.length = k at *
  have HL := Lib.hid hlen
  have HS := Lib.hid hsl
  clear hlen hsl
  go_enter Try.func57, Try.ntmps57
  go_wp2
  go_region
  all_goals
    go_wp2
    have HB1 : Below w.heap.size w (w.alloc (.cells #[.slice a n c, .int .i64 (k : Int)] 77)).drew.drew := (((Below.refl _ w).alloc (Nat.le_refl _) _).drew).drew
    obtain ⟨w2, hrun, hfs2, hg2⟩ := (HH.out.below HB1).fs.drop hs 0
    have HD2 := Lib.hid ((HH.out.below HB1).del hg2 hfs2)
    have HK2 : Hid (Kept S w w2) := (Kept.of_below HB1 S).trans (Kept.of_grown hg2 (T := fun i => i = b) (fun i e => (Option.some.inj e).symm)) (fun i _ e => by subst e; exact HH.out.sb)
    have q0 : w2.heap[w.heap.size]? = some (.cells #[.slice a n c, .int .i64 (k : Int)] 77 (0, 0)) :=
      (hg2.block w.heap.size (by show _ < (w.alloc _).heap.size; rw [size1]; omega) (fun e => by have := HH.out.lt b HH.out.sb; have e := Option.some.inj e; omega)).trans (heap_alloc_new w _)
    have q1 := HK2.out.cell hd ND.out
    have q2 := HK2.out.cell ht NT.out
    have HK5' : Hid (∀ g, g < w.heap.size → g ≠ b → w2.heap[g]? = w.heap[g]?) := fun g h1 h2 => (hg2.block g (Nat.lt_of_lt_of_le h1 HB1.size) (fun e => h2 (Option.some.inj e))).trans (HB1.block g h1)
    clear hfs2 hg2 HB1
    go_region
    have HC := Lib.hid (drop_any t hts w2 p b S m _ _ HD2.out HP.out hu)
    go_wp2_with fail
    refine HC.out.mono ?_
    rintro e w3 ⟨rfl, hr3, hk3'⟩
    have HK4 := Lib.hid hk3'
    have hk3 : Kept S w2 w3 := hk3'.mono fun i e => by
      rcases e with rfl | rfl
      · exact HH.out.sp
      · exact HH.out.sb
    clear hk3'
    have HD3 := Lib.hid hr3
    have HK3 := Lib.hid hk3
    have q3 := hk3.cell q1 ND.out
    have q4 := hk3.cell q2 NT.out
    have q5 := hr3.cells.2.2.1
    have q6 : w3.heap[w.heap.size]? = some (.cells #[.slice a n c, .int .i64 (k : Int)] 77 (0, 0)) := (hk3.block w.heap.size (Array.getElem?_eq_some_iff.1 q0).1 (fun e => by have := HH.out.lt _ e; omega)).trans q0
    have q7 := cell_of_row _ _ 0 _ _ _ q6
    have q8 := cell_of_row _ _ 1 _ _ _ q6
    have hlen3 : ((F.filter (notN (toL s))).filter (notN (toL t))).length ≤ F.length := Nat.le_trans (List.length_filter_le _ _) (List.length_filter_le _ _)
    obtain ⟨w4, hrun4, hfs4, hg4⟩ := hr3.fs.drew.store hts (by rw [List.length_map]; unfold maxLen; omega) (cv (.slice a n c) k)
    unfold cv at hrun4
    clear hr3 hk3 HC q0 q1 q2
    have hmem3 : ∀ y ∈ (F.filter (notN (toL s))).filter (notN (toL t)), y ∈ F ∧ y.1.name ≠ toL s := fun y hy => by
      have h1 := (List.mem_filter.1 hy).1
      obtain ⟨h2, h3⟩ := List.mem_filter.1 h1
      exact ⟨h2, by simpa [notN] using h3⟩
    have HK5 : Hid (∀ g, g < w.heap.size → g ≠ p → g ≠ b → w3.heap[g]? = w.heap[g]?) := fun g h1 h2 h3 => (HK4.out.block g (Nat.lt_of_lt_of_le h1 HK2.out.size) (fun e => e.elim h2 h3)).trans (HK5'.out g h1 h3)
    have hrow3 : Row w3 (⟨toL t, f.safe, f.loose⟩, .slice a n c) := by
      have o3 : Row w3 (f, .slice a n c) := by
        refine HW.out.1.same fun g hg => ?_
        have hgl := HH.out.lt g (HW.out.2 g hg)
        have e1 := HK5.out g hgl (fun e => HH.out.row_p HW.out.1 (e ▸ hg)) (fun e => HH.out.row_b HW.out.1 (e ▸ hg))
        exact e1
      exact o3
    have HQ := Lib.hid (HD3.out.put_map (x := ⟨toL t, f.safe, f.loose⟩) (v := .slice a n c) ((Below.refl _ w3).drew) hg4 rfl (by simp only [HS.out]; exact hfs4) hrow3 (fun g hg => ⟨HW.out.2 g hg, fun y hy _ => HH.out.two HM.out (hmem3 y hy).1 (fun e => (hmem3 y hy).2 (e ▸ HN.out)) hg⟩))
    clear hfs4 hg4
    go_wp2
    go_region
    go_end0
    have hfin := HQ.out.1.from (Nat.le_trans HK2.out.size HK3.out.size) HQ.out.2.size
    rw [filt_twice] at hfin
    exact ⟨rfl, .slice a n c, hfin, (HK2.out.trans HK3.out (fun _ _ e => e)).trans HQ.out.2 (fun _ _ e => e)⟩
end Go.Proofs.Ytammmhbkfdmbfaa
