/- Contracts of layer 5: Copy, walked. -/
import Derived.Test.YtammmhbkfdmbfaaS18
import Derived.Maps.RangeWalk
import Derived.Laws.IdiomRangeMap
namespace Go.Proofs.Ytammmhbkfdmbfaa
open Go.RowKit Go.Maps
open Go.WideElems (Fit rd rg pl rd_val)
set_option linter.unusedVariables false

theorem copy_perm {w w' : World} {p b q b2 : Nat} {S T : Nat → Prop} {m m2 : Meta} {F F2 : List (FileM × Value)} (h : DiskRaw w p b S m F) (h2 : DiskRaw w' q b2 T m2 F2) (hsub : ∀ x ∈ F2, ∃ v, (x.1, v) ∈ F)
    {ss : List Nm} (hs : ss.Perm (F.map (·.1.name))) (hn : (F2.map (·.1.name)).Perm ss) : (F2.map (·.1)).Perm (F.map (·.1)) := by
  have nd : ∀ {G : List (FileM × Value)}, (G.map (·.1.name)).Nodup → (G.map (·.1)).Nodup := fun {G} hg => by
    rw [List.Nodup, List.pairwise_map] at hg ⊢
    exact hg.imp fun h e => h (by rw [e])
  refine (List.perm_ext_iff_of_nodup (nd h2.names) (nd h.names)).2 fun f => ⟨fun hf => ?_, fun hf => ?_⟩
  · obtain ⟨x, hx, rfl⟩ := List.mem_map.1 hf
    obtain ⟨v, hv⟩ := hsub x hx
    exact List.mem_map.2 ⟨_, hv, rfl⟩
  · obtain ⟨x, hx, rfl⟩ := List.mem_map.1 hf
    have h3 : x.1.name ∈ F2.map (·.1.name) := (hn.trans hs).mem_iff.2 (List.mem_map.2 ⟨x, hx, rfl⟩)
    obtain ⟨y, hy, e⟩ := List.mem_map.1 h3
    obtain ⟨v, hv⟩ := hsub y hy
    have hnd := h.names
    rw [List.Nodup, List.pairwise_map] at hnd
    rcases pw_all (fun a c k => k.symm) hnd _ hv x hx with e2 | e2
    · have : y.1 = x.1 := by rw [← e2]
      exact List.mem_map.2 ⟨y, hy, this⟩
    · exact absurd e e2

/-- the map of a disk, its elements told as files' values -/
theorem DiskRaw.mapC {w : World} {p b : Nat} {S : Nat → Prop} {m : Meta} {F : List (FileM × Value)} (h : DiskRaw w p b S m F) :
    ∃ es : List (Lit × DataW Value), w.ownsMap Try.prog 9 valC b F.length (.map es) ∧ es.Perm ((F.map fv).map ent) := by
  obtain ⟨es, hown, hperm⟩ := h.fs
  obtain ⟨xs, clock, hb, Ft, hs, hD⟩ := hown
  have hval : ∀ x ∈ xs.toList, ∀ z, valR x.val = some z → valC x.val = some z := fun x hx z hz => by
    obtain ⟨y, hy⟩ := Ft.reads x hx
    obtain ⟨z', hz', _⟩ := rd_val hy
    have hmem : rg Try.prog 9 valR x ∈ es := by
      have e : es = (xs.toList.map (rg Try.prog 9 valR)).foldr DataW.insert [] := by injection hD
      rw [e]
      exact mem_sorted.2 (List.mem_map.2 ⟨x, hx, rfl⟩)
    have h1 := hperm.mem_iff.1 hmem
    obtain ⟨y2, hy2, e2⟩ := List.mem_map.1 h1
    obtain ⟨f, hf, e3⟩ := List.mem_map.1 hy2
    obtain ⟨a, c, e4, _⟩ := (h.own f hf).1.shape
    have hrg : (rg Try.prog 9 valR x).2 = .held x.val := by
      rw [WideElems.rg_of hy]
      obtain ⟨z2, hz2, e2'⟩ := rd_val hy
      have hz3 : (DataW.held x.val, []) = z2 := Option.some.inj hz2
      rw [e2', ← hz3]
    have e5 : x.val = y2.2 := by
      have h3 := congrArg Prod.snd e2
      rw [hrg] at h3
      exact (DataW.held.inj h3).symm
    have e6 : x.val = mkC (a, f.1.bytes.length, c, f.1.safe.length) := by
      rw [e5, ← e3]
      show cv f.2 _ = _
      rw [e4]; rfl
    rw [e6] at hz ⊢
    rw [valC_mk]
    exact hz
  have := World.ownsMap_of_fit (R := valC) hb Ft hval
  refine ⟨es, ?_, hperm⟩
  rw [hD]
  have hs' : xs.size ≤ F.length := by simpa using hs
  exact this.mono hs'

/-- the world while a disk is copied -/
structure CopyK (w : World) (q b2 r : Nat) (m : Meta) (F : List (FileM × Value)) (D : DataW Value) (left : Lit → Bool) (cnt : Nat) (wr : World) : Prop where
  ex : ∃ ss F2 T, Collected D left ss ∧ DiskRaw wr q b2 T m F2 ∧ (∀ i, T i → w.heap.size ≤ i) ∧ ¬ T r ∧ (∀ x ∈ F2, ∃ v, (x.1, v) ∈ F) ∧ (F2.map (·.1.name)).Perm ss ∧ F2.length + cnt ≤ 1000000
  below : Below w.heap.size w wr

/-- which file has come -/
theorem copy_found {w : World} {p b : Nat} {S : Nat → Prop} {m : Meta} {F : List (FileM × Value)} (h : DiskRaw w p b S m F) {es : List (Lit × DataW Value)} (hp : es.Perm ((F.map fv).map ent)) (hn : es.Pairwise (fun p q => p.1 ≠ q.1)) {x : Nm} {c : Option Addr × Nat × Nat × Int} {yd : DataW Value} {yp : List MemPlace}
    (hv : valC (mkC c) = some (yd, yp)) (hat : ∀ zd, (DataW.map es).atKey (.string x) zd = yd) : ∃ f a cc, (f, Value.slice a f.bytes.length cc) ∈ F ∧ f.name = x ∧ c = (a, f.bytes.length, cc, (f.safe.length : Int)) := by
  rw [valC_mk] at hv
  have e1 : yd = .held (mkC c) := (congrArg Prod.fst (Option.some.inj hv)).symm
  subst e1
  obtain ⟨fx, hf, e⟩ := List.mem_map.1 (lookE_of hp hn hat)
  obtain ⟨a, cc, e2, _⟩ := (h.own fx hf).1.shape
  obtain ⟨f, v⟩ := fx
  simp only at e2
  subst e2
  have e3 : f.name = x := congrArg Prod.fst e
  have e4 : cv (.slice a f.bytes.length cc) f.safe.length = mkC c := congrArg Prod.snd e
  refine ⟨f, a, cc, hf, e3, ?_⟩
  obtain ⟨a', n', c', k'⟩ := c
  unfold cv mkC at e4
  simp only [Value.agg.injEq, Array.mk.injEq, List.cons.injEq, Value.slice.injEq, Value.int.injEq] at e4
  obtain ⟨⟨h1, h2, h3⟩, ⟨_, h4⟩, _⟩ := e4
  rw [h1, h2, h3, h4]
/-- .. and was copied -/
theorem CopyK.step {w w1 w4 : World} {q b2 r : Nat} {m : Meta} {F : List (FileM × Value)} {es : List (Lit × DataW Value)} {left : Lit → Bool} {cnt cnt1 : Nat} (hcnt : cnt1 < cnt) {f : FileM} {v0 v : Value} (h : CopyK w q b2 r m F (.map es) left cnt w1) (hr : r < w1.heap.size) (hlk : left (.string f.name) = true) {yd : DataW Value} (hat : ∀ zd, (DataW.map es).atKey (.string f.name) zd = yd) (hf : (f, v0) ∈ F)
    (hg : w1.grownBy w4 (some b2)) (hfs : ∀ F2 : List (FileM × Value), F2.length ≤ 1000000 → Fs w1 b2 (F2.map fv) → Fs w4 b2 ((f.name, cv v f.safe.length) :: (F2.map fv).filter (noKey f.name))) (hown : Row w4 (f, v)) (hv : ∀ g, v.ownBlock = some g → w1.heap.size ≤ g ∧ g < w4.heap.size) :
    CopyK w q b2 r m F (.map es) (fun z => left z && !z.sameKey (.string f.name)) cnt1 w4 := by
  obtain ⟨⟨ss, F2, T, h1, h2, h3, h4, h5, h6, h6n⟩, h7⟩ := h
  have hnew : f.name ∉ ss := fun e => by have := ((h1.2 f.name).1 e).2; rw [hlk] at this; cases this
  have hno : F2.filter (notN f.name) = F2 := by
    rw [List.filter_eq_self]
    intro x hx
    have : x.1.name ∈ ss := h6.mem_iff.1 (List.mem_map.2 ⟨x, hx, rfl⟩)
    have hne : x.1.name ≠ f.name := fun e => hnew (e ▸ this)
    simpa [notN] using hne
  have hput := h2.put (x := f) (v := v) rfl hg.size (fun i hi hne _ => .inl (hg.block i hi (fun e => hne (Option.some.inj e)))) (hfs F2 (by omega) h2.fs) hown
    (fun g hg2 y hy _ e => by have h8 := h2.lt g ((h2.own y hy).2 g e); have := hv g hg2; omega) (fun e => by have h8 := h2.lt q h2.sp; have := hv q e; omega) (fun g hg2 => .inr (hv g hg2))
  rw [hno] at hput
  refine ⟨⟨ss ++ [f.name], (f, v) :: F2, _, h1.step hlk hat, hput, fun i hi => ?_, fun e => ?_, fun x hx => ?_, ?_, by rw [List.length_cons]; omega⟩, ?_⟩
  · rcases hi with hi | hi
    · exact h3 i hi
    · exact Nat.le_trans h7.size hi.1
  · rcases e with e | e
    · exact h4 e
    · omega
  · rcases List.mem_cons.1 hx with e | hx
    · exact ⟨v0, by rw [e]; exact hf⟩
    · exact h5 x hx
  · rw [List.map_cons]
    exact (h6.cons _).trans (List.perm_append_comm (l₁ := [f.name]) (l₂ := ss))
  · exact h7.grown hg h7.size (fun j hj => by have := h3 _ h2.sb; rw [← Option.some.inj hj]; exact this)
theorem copy_start (w : World) (m : Meta) : DiskRaw ((w.alloc (.cells (dCells m (w.heap.size + 1)) 71)).alloc (.map #[] 0)) w.heap.size (w.heap.size + 1) (fun i => i = w.heap.size ∨ i = w.heap.size + 1) m [] ∧
    Below w.heap.size w ((w.alloc (.cells (dCells m (w.heap.size + 1)) 71)).alloc (.map #[] 0)) := by
  have hB : Below w.heap.size w ((w.alloc (.cells (dCells m (w.heap.size + 1)) 71)).alloc (.map #[] 0)) := ((Below.refl _ w).alloc (Nat.le_refl _) _).alloc (by simp) _
  have hf := Fs.made (w.alloc (.cells (dCells m (w.heap.size + 1)) 71))
  rw [size1] at hf
  refine ⟨⟨?_, hf, fun x hx => (by cases hx), List.Pairwise.nil, .inl rfl, .inr rfl, fun i hi => by simp only [size1]; omega⟩, hB⟩
  rw [Below.heap_alloc _ _ _ (by simp)]
  exact heap_alloc_new w _
set_option maxRecDepth 100000 in
set_option maxHeartbeats 4000000 in
theorem copy_any (w : World) (p : Nat) (S : Nat → Prop) (d : DiskM) (hok : Ok d) (hl : d.L.length ≤ 1000000) (h : DiskAt w p S d) :
    Calls Try.prog 37 #[pt p] w fun e w' => ∃ q T, e = .returned (pt q) ∧ DiskAt w' q T d ∧ (∀ i, T i → w.heap.size ≤ i) ∧ Below w.heap.size w w' := by
  obtain ⟨b, F, hr, hp⟩ := h
  obtain ⟨es, hown, hperm⟩ := hr.mapC
  obtain ⟨es', hD', hpw, _⟩ := hown.entries sKey
  obtain rfl : es = es' := by simpa using hD'
  clear hD'
  have HR := Lib.hid hr
  have HPM := Lib.hid hperm
  have HPW := Lib.hid hpw
  have hsz : Maps.size (.map es : DataW Value) = d.L.length := by
    rw [Maps.size_eq, hperm.length_eq, List.length_map, List.length_map, perm_len hp]
  have hlen : ∀ o : Obj, (Builtin.len_ #[69] 3 #[.map (some b)]).run Try.prog (w.alloc o) = .ok (.int .i64 (d.L.length : Int)) (w.alloc o) := fun o => by
    have := (hown.alloc o).len uMap 3
    rwa [hsz] at this
  have hmk := run_makeMap_n d.L.length
  have hc0 := hr.cells.1
  have hc1 := hr.cells.2.1
  have hc2 := hr.cells.2.2.1
  have hc3 := hr.cells.2.2.2.1
  have hc4 := hr.cells.2.2.2.2.1
  have hc5 := hr.cells.2.2.2.2.2.1
  have hc6 := hr.cells.2.2.2.2.2.2
  have hbp := hr.lt p hr.sp
  clear hr hperm hpw
  go_enter Try.func37, Try.ntmps37
  go_upto_region 3 with fail
  obtain ⟨hst, hB1⟩ := copy_start w d.meta_
  have HST := Lib.hid hst
  have HB1 := Lib.hid hB1
  have hown1 : ((w.alloc (.cells (dCells d.meta_ (w.heap.size + 1)) 71)).alloc (.map #[] 0)).ownsMap Try.prog 9 valC b F.length (.map es) := (hown.alloc _).alloc _
  have hc7 : ((w.alloc (.cells (dCells d.meta_ (w.heap.size + 1)) 71)).alloc (.map #[] 0)).cell? ⟨p, 2, none⟩ = some (.map (some b)) := (hB1.cell (p := ⟨p, 2, none⟩) hbp).trans hc2
  clear hst hB1 hc0 hc1 hc2 hc3 hc4 hc5 hc6 hlen hmk hown
  change Code.wp _ _ _ _ ((w.alloc (.cells (dCells d.meta_ (w.heap.size + 1)) 71)).alloc (.map #[] 0))
  generalize (w.alloc (.cells (dCells d.meta_ (w.heap.size + 1)) 71)).alloc (.map #[] 0) = W1 at *
  have hbl1 := hown1.lt
  go_wp2_with (first
    | (at_range; refine wpList_range_own _ rfl _ 69 rfl 9 77 sKey uMap valC b F.length _ rfl hown1 ?_; intro w0 hrg0 hg0 hs0)
    | go_in)
  go_frame
  have hq1 : w.heap.size < W1.heap.size := HST.out.lt _ HST.out.sp
  have HK0 : Hid (CopyK w w.heap.size (w.heap.size + 1) W1.heap.size d.meta_ F (.map es) (Maps.has (.map es)) (Maps.size (.map es : DataW Value)) w0) := by
    have hb0 : Below W1.heap.size W1 w0 := ⟨hg0.os, hg0.tape, hg0.output, hg0.size, fun k hk => hg0.block k hk (by simp)⟩
    exact ⟨⟨[], [], _, Collected.start _, HST.out.below hb0, fun i hi => by omega, fun e => by have := HST.out.lt _ e; omega, fun x hx => (by cases hx), List.Perm.refl _, by rw [hsz]; simpa using hl⟩, HB1.out.trans (hb0.mono HB1.out.size)⟩
  go_loopw [4] (fun _ wr => ∃ (left : Lit → Bool) (cnt : Nat), wr.ranges Try.prog 9 valC b W1.heap.size F.length (.map es) left cnt ∧ Hid (CopyK w w.heap.size (w.heap.size + 1) W1.heap.size d.meta_ F (.map es) left cnt wr))
    (fun _ wr => wr.rangeLeft b W1.heap.size)
  case atStart => exact ⟨_, _, hrg0, HK0⟩
  case round =>
    obtain ⟨left, cnt, hrg, HK⟩ := hrel
    go_wp2_with (first
      | (at_next; refine wpList_next_ranges _ rfl _ rfl 9 sKey valC encStr mkC (fun key kl hk => by obtain ⟨x, hx, _⟩ := Maps.keyOf_str Try.underlying9 hk; exact ⟨x, hx⟩) (fun v y h => valC_inv v y h) b W1.heap.size F.length _ _ _ rfl hrg ?_ ?_)
      | go_in)
    · -- nothing is left
      intro hc0 hl0
      have HFIN : Hid (∃ T, DiskAt wr w.heap.size T d ∧ (∀ i, T i → w.heap.size ≤ i) ∧ Below w.heap.size w wr) := by
        obtain ⟨⟨ss, F2, T, h1, h2, h3, h4, h5, h6, _⟩, h7⟩ := HK.out
        have hss := h1.perm hrg.owns sKey Try.underlying9 hl0
        have hkp : (strKeys (.map es : DataW Value)).Perm (F.map (·.1.name)) := by
          have := Fs.keys (w := w) (b := b) HPM.out
          rw [List.map_map] at this
          exact this
        exact ⟨T, ⟨_, F2, h2, (copy_perm HR.out h2 h5 (hss.trans hkp) h6).trans hp⟩, h3, h7⟩
      clear HK hrg
      go_wp2
      go_ret
      obtain ⟨T, h1, h2, h3⟩ := HFIN.out
      exact ⟨_, T, rfl, h1, h2, h3⟩
    · -- a file has come
      intro x ca cn cc ck kl yd yp w1 cnt1 hkey hlk hv hat hrg1 hlt hg1 hs1 hen
      obtain ⟨x', ex, rfl, hxl⟩ := Maps.keyOf_str Try.underlying9 hkey
      obtain rfl : x = x' := encStr_inj ex
      obtain ⟨f, a, c', hmem, rfl, ec⟩ := copy_found (c := (ca, cn, cc, ck)) HR.out HPM.out HPW.out hv hat
      obtain ⟨rfl, rfl, rfl, rfl⟩ : ca = a ∧ cn = f.bytes.length ∧ cc = c' ∧ ck = (f.safe.length : Int) := by simpa using ec
      have HAT : Hid (left (.string f.name) = true ∧ ∀ zd, (DataW.map es).atKey (.string f.name) zd = yd) := ⟨hlk, hat⟩
      have hrlt := hrg.lt
      have HLE := Lib.hid hrg.left_eq
      have HK1 : Hid (CopyK w w.heap.size (w.heap.size + 1) W1.heap.size d.meta_ F (.map es) left cnt w1) := by
        obtain ⟨⟨ss, F2, T, h1, h2, h3, h4, h5, h6, h6n⟩, h7⟩ := HK.out
        exact ⟨⟨ss, F2, T, h1, h2.kept (Kept.of_grown hg1 (T := fun i => i = W1.heap.size) (fun i e => (Option.some.inj e).symm)) (fun i hi e => h4 (e ▸ hi)), h3, h4, h5, h6, h6n⟩, h7.grown hg1 h7.size (fun j hj => by rw [← Option.some.inj hj]; omega)⟩
      have HMEM := Lib.hid hmem
      have hbl := ok_len hok (hp.mem_iff.1 (List.mem_map.2 ⟨_, hmem, rfl⟩))
      have HRG := Lib.hid hrg1
      have hszn : (tx f.name).size ≤ maxLen := by
        rw [tx_size]
        have := nm_small (hok.names f (hp.mem_iff.1 (List.mem_map.2 ⟨_, hmem, rfl⟩)))
        unfold maxLen; omega
      have HCL := Lib.hid (fun W (k : Below w.heap.size w W) => clone_any f ca cc W ((HR.out.below k).own _ hmem).1 hbl)
      have hB1 : Below w.heap.size w w1 := HK1.out.below
      have HBA : Hid (∀ o : Obj, Below w.heap.size w (w1.alloc o)) := fun o => hB1.alloc hB1.size o
      have hqc : w1.cell? ⟨w.heap.size, 2, none⟩ = some (.map (some (w.heap.size + 1))) := by
        obtain ⟨ss, F2, T, h1, h2, _⟩ := HK1.out.ex
        exact h2.cells.2.2.1
      have hql : w.heap.size < w1.heap.size := by
        obtain ⟨ss, F2, T, h1, h2, _⟩ := HK1.out.ex
        exact h2.lt _ h2.sp
      have hql2 : w.heap.size + 1 < w1.heap.size := by
        obtain ⟨ss, F2, T, h1, h2, _⟩ := HK1.out.ex
        exact h2.lt _ h2.sb
      have hrl1 := hrg1.lt
      change (Instr.entry (.pointer (some ⟨W1.heap.size, 0, none⟩))).run Try.prog w1 = .ok (.tuple #[.string (tx f.name), .agg #[.slice ca f.bytes.length cc, .int .i64 (f.safe.length : Int)]]) w1 at hen
      clear hs1 hrg hrg1 HK hkey hlk hv hat hg1 ex hmem ec hxl hB1
      generalize hlen : f.bytes.length = n at *
      generalize hkl : f.safe.length = k at *
      have HLEN := Lib.hid hlen
      have HKL := Lib.hid hkl
      clear hlen hkl
      go_wp2_with fail
      refine (HCL.out _ (HBA.out _)).mono ?_
      rintro e w2 ⟨v', rfl, hown2, hB2⟩
      obtain ⟨a', c', rfl, -⟩ := own_slice hown2
      have HO2 := Lib.hid hown2
      have HB2 := Lib.hid hB2
      have hs1 : (w1.alloc (.cells #[.slice ca n cc, .int .i64 (k : Int)] 77)).heap.size = w1.heap.size + 1 := size1 _ _
      have HS1 := Lib.hid hs1
      have q1 : w2.heap[w1.heap.size]? = some (.cells #[.slice ca n cc, .int .i64 (k : Int)] 77 (0, 0)) := (hB2.block w1.heap.size (by omega)).trans (heap_alloc_new w1 _)
      have q2 : w2.cell? ⟨w.heap.size, 2, none⟩ = some (.map (some (w.heap.size + 1))) := (hB2.cell (p := ⟨w.heap.size, 2, none⟩) (by simp only; omega)).trans ((World.cell?_alloc_lt _ _ _ hql).trans hqc)
      have q3 := cell_of_row _ _ 0 _ _ _ q1
      have q4 := cell_of_row _ _ 1 _ _ _ q1
      have q5 := frozen_of_row _ _ 0 _ _ q1
      have HG3 := Lib.hid (grownBy_setCell w2 w1.heap.size 0 (.slice a' n c'))
      have hfs3 : ∀ E, Fs w1 (w.heap.size + 1) E → Fs (w2.setCell ⟨w1.heap.size, 0, none⟩ (.slice a' n c')) (w.heap.size + 1) E := fun E h => h.same ((HG3.out.block _ (by have := hB2.size; omega) (fun e => by injection e with e; omega)).trans ((hB2.block _ (by omega)).trans (Below.heap_alloc w1 _ _ hql2)))
      obtain ⟨w4, hrun, hg4⟩ : ∃ w4, (Instr.mapUpdate 69 (.map (some (w.heap.size + 1))) (.string (tx f.name)) (.agg #[.slice a' n c', .int .i64 (k : Int)])).run Try.prog (w2.setCell ⟨w1.heap.size, 0, none⟩ (.slice a' n c')) = .ok () w4 ∧ (w2.setCell ⟨w1.heap.size, 0, none⟩ (.slice a' n c')).grownBy w4 (some (w.heap.size + 1)) := by
        obtain ⟨ss, F2, T, h1, h2, _, _, _, _, h8⟩ := HK1.out.ex
        obtain ⟨w4, x1, x2, x3⟩ := (hfs3 _ h2.fs).store hszn (by rw [List.length_map]; unfold maxLen; omega) (cv (.slice a' n c') k)
        exact ⟨w4, x1, x3⟩
      have HG4 := Lib.hid hg4
      have HFS : Hid (∀ F2 : List (FileM × Value), F2.length ≤ 1000000 → Fs w1 (w.heap.size + 1) (F2.map fv) → Fs w4 (w.heap.size + 1) ((f.name, cv (.slice a' n c') f.safe.length) :: (F2.map fv).filter (noKey f.name))) := fun F2 hl2 h => by
        obtain ⟨w5, x1, x2, x3⟩ := (hfs3 _ h).store hszn (by rw [List.length_map]; unfold maxLen; omega) (cv (.slice a' n c') k)
        have x4 : Result.ok () w4 = Result.ok () w5 := hrun.symm.trans x1
        injection x4 with _ x5
        subst x5
        rw [toL_tx] at x2
        rw [HKL.out]
        exact x2
      have HSZ : Hid (w1.heap.size + 1 ≤ w2.heap.size ∧ w2.heap.size ≤ (w2.setCell ⟨w1.heap.size, 0, none⟩ (.slice a' n c')).heap.size ∧ (w2.setCell ⟨w1.heap.size, 0, none⟩ (.slice a' n c')).heap.size ≤ w4.heap.size) := ⟨by have := hB2.size; omega, HG3.out.size, hg4.size⟩
      have HGG : Hid (w1.grownBy w4 (some (w.heap.size + 1))) := by
        obtain ⟨s1, s2, s3⟩ := HSZ.out
        refine ⟨hg4.os.trans (HG3.out.os.trans (hB2.os)), hg4.tape.trans (HG3.out.tape.trans hB2.tape), hg4.output.trans (HG3.out.output.trans hB2.output), by omega, fun i hi hne => ?_⟩
        exact (hg4.block i (by omega) hne).trans ((HG3.out.block i (by omega) (fun e => by injection e with e; omega)).trans ((hB2.block i (by omega)).trans (Below.heap_alloc w1 _ i hi)))
      have HROW : Hid (Row w4 (f, .slice a' n c') ∧ ∀ g, (Value.slice a' n c').ownBlock = some g → w1.heap.size ≤ g ∧ g < w4.heap.size) := by
        obtain ⟨s1, s2, s3⟩ := HSZ.out
        have hlo : ∀ g, (Value.slice a' n c').ownBlock = some g → w1.heap.size + 1 ≤ g ∧ g < w2.heap.size := fun g hg => by
          have := hown2.lt g hg
          omega
        have o2 : Row w2 (f, .slice a' n c') := by
          unfold Row
          simp only [HLEN.out]
          exact own_base hown2 (Nat.zero_le _)
        refine ⟨o2.same fun g hg => ?_, fun g hg => by have := hlo g hg; omega⟩
        have := hlo g hg
        refine (hg4.block g (by omega) (fun e => ?_)).trans (HG3.out.block g this.2 (fun e => by injection e with e; omega))
        injection e with e
        omega
      clear hown2 hB2 hfs3 hg4 HCL HBA hs1
      go_wp2
      have HKN := Lib.hid (CopyK.step hlt HK1.out hrl1 HAT.out.1 HAT.out.2 HMEM.out HGG.out HFS.out HROW.out.1 HROW.out.2)
      have hrg4 := HRG.out.kept HGG.out (fun e => by injection e with e; have := HR.out.lt b HR.out.sb; omega) (fun e => by
        injection e with e
        obtain ⟨ss, F2, T, h1, h2, h3, h4, _⟩ := HK1.out.ex
        exact h4 (e ▸ h2.sb))
      go_roundw
      case rel => exact ⟨_, cnt1, hrg4, HKN⟩
      case measure => rw [hrg4.left_eq, HLE.out]; exact hlt
end Go.Proofs.Ytammmhbkfdmbfaa
