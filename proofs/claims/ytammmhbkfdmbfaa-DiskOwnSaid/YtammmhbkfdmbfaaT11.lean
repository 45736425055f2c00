/- Contracts of the document's own words of layer 5: an op that is done to a file that grows, or gets another name. -/
import Derived.Test.YtammmhbkfdmbfaaT7
import Derived.Test.YtammmhbkfdmbfaaT8
namespace Go.Proofs.Ytammmhbkfdmbfaa
open Go.RowKit
set_option linter.unusedVariables false

theorem By.dblk {w W : World} {a : Option Addr} {c : Nat} {d : DiskM} {o : OpM} (h : By w a c d o W) : W.heap[w.heap.size]? = some (.cells #[.slice a d.L.length c, .int .i64 d.limit, .int .i64 d.fuse, .int .i64 d.ops, .int .i64 d.reads, .bool d.down] 30 (0, 0)) :=
  (Below.block h.bx w.heap.size (by omega)).trans ((Below.heap_alloc _ _ w.heap.size (by rw [size1]; omega)).trans (heap_alloc_new w _))
/-- the end of an op: the row of files in the disk's box, the disk in the result's block -/
theorem fin_at {w W : World} {a0 : Option Addr} {L0 : List FileM} (hres : W.heap[w.heap.size + 2]? = some (.cells #[.slice none 0 0, .int .i64 0, .int .i64 0, .int .i64 0, .int .i64 0, .bool false] 30 (0, 0))) (hframe : Below w.heap.size w W) (d : DiskM) (x : Option Addr) (cx : Nat) (L : List FileM) (hs : FiSl W x L) (hx : ∀ b i, x = some ⟨b, i, none⟩ → w.heap.size + 3 ≤ b) :
    ∃ F, F = (((((((W.setCell ⟨w.heap.size, 0, none⟩ (.slice x L.length cx)).setCell ⟨w.heap.size + 2, 0, none⟩ (.slice x L.length cx)).setCell ⟨w.heap.size + 2, 1, none⟩ (.int .i64 d.limit)).setCell ⟨w.heap.size + 2, 2, none⟩ (.int .i64 d.fuse)).setCell ⟨w.heap.size + 2, 3, none⟩ (.int .i64 d.ops)).setCell ⟨w.heap.size + 2, 4, none⟩ (.int .i64 d.reads)).setCell ⟨w.heap.size + 2, 5, none⟩ (.bool d.down)) ∧
      (loadVar 30 ⟨w.heap.size + 2, 0, none⟩).run Try.prog F = .ok (.agg #[.slice x L.length cx, .int .i64 d.limit, .int .i64 d.fuse, .int .i64 d.ops, .int .i64 d.reads, .bool d.down]) F ∧
      RefAt w.heap.size a0 L0 F (.agg #[.slice x L.length cx, .int .i64 d.limit, .int .i64 d.fuse, .int .i64 d.ops, .int .i64 d.reads, .bool d.down]) { d with L := L } ∧ Below w.heap.size w F := by
  have h1 : (W.setCell ⟨w.heap.size, 0, none⟩ (.slice x L.length cx)).heap[w.heap.size + 2]? = some (.cells #[.slice none 0 0, .int .i64 0, .int .i64 0, .int .i64 0, .int .i64 0, .bool false] 30 (0, 0)) := (heap_set_far (by omega)).trans hres
  refine ⟨_, rfl, load6 h1 _ _ _ _ _ _, ⟨x, cx, rfl, ?_, .inr fun b i e => by have := hx b i e; omega⟩, ?_⟩
  · exact (hs.set _ _ _ (fun b i e => by have := hx b i e; omega)).set6 _ (fun b i e => by have := hx b i e; omega) _ _ _ _ _ _
  · exact (hframe.setCell (p := ⟨w.heap.size, 0, none⟩) (Nat.le_refl _) _).trans (below_set6 (Below.refl _ _) (by omega) _ _ _ _ _ _)
theorem cells3 {g : Nat} {a b c : Value} {t : TypeId} {W : World} (h : W.heap[g]? = some (.cells #[a, b, c] t (0, 0))) : (W.cell? ⟨g, 0, none⟩ = some a ∧ W.cell? ⟨g, 1, none⟩ = some b ∧ W.cell? ⟨g, 2, none⟩ = some c) ∧ W.frozen? ⟨g, 0, none⟩ = false ∧ W.frozen? ⟨g, 1, none⟩ = false ∧ W.frozen? ⟨g, 2, none⟩ = false :=
  ⟨⟨cell_of_row _ _ 0 _ _ _ h, cell_of_row _ _ 1 _ _ _ h, cell_of_row _ _ 2 _ _ _ h⟩, frozen_of_row _ _ 0 _ _ h, frozen_of_row _ _ 1 _ _ h, frozen_of_row _ _ 2 _ _ h⟩
theorem set3_at {g : Nat} {a b c : Value} {t : TypeId} {W : World} (h : W.heap[g]? = some (.cells #[a, b, c] t (0, 0))) (x y z : Value) : (((W.setCell ⟨g, 0, none⟩ x).setCell ⟨g, 1, none⟩ y).setCell ⟨g, 2, none⟩ z).heap[g]? = some (.cells #[x, y, z] t (0, 0)) :=
  heap_setCell_at (heap_setCell_at (heap_setCell_at h 0 x) 1 y) 2 z

set_option maxRecDepth 100000 in
set_option maxHeartbeats 4000000 in
theorem does1_any (o : OpM) (hk : o.kind = 1) (a : Option Addr) (c : Nat) (d : DiskM) (w : World) (ha : o.a.length ≤ 140737488351232) (h : FiSl w a d.L) (hl : d.L.length ≤ 1000000) (hf : FitM d.L) (hbl : o.b.length ≤ 140737488351232) (hh : hasL d.L o.a = true) :
    Calls Try.prog 61 #[refV a c d, opV o] w fun e w' => ∃ v, e = .returned v ∧ RefAt w.heap.size a d.L w' v { d with L := doesL d.L o } ∧ Below w.heap.size w w' := by
  obtain ⟨k, hkl, hat, hget⟩ := atI_has hh
  have hDL : doesL d.L o = putL d.L ⟨d.L[k].name, d.L[k].safe, d.L[k].loose ++ o.b⟩ := by unfold doesL; rw [hget, hk]; rfl
  have hfit := hf _ (List.getElem_mem hkl)
  rw [hDL]
  have HAT : Hid (∀ W, By w a c d o W → Calls Try.prog 23 #[refV a c d, .string (tx o.a)] W fun e w' => e = .returned (.int .i64 (k : Int)) ∧ Below W.heap.size W w') := fun W hx => by
    have := at_any o.a a c d W (h.below hx.frame) hl
    rwa [hat] at this
  have HWO : Hid (∀ W, By w a c d o W → Calls Try.prog 65 #[.slice a d.L.length c, .agg #[.string (tx d.L[k].name), .string (tx d.L[k].safe), .string (tx d.L[k].loose ++ tx o.b)]] W fun e w' => ∃ v, e = .returned v ∧ w'.ownsRow W.heap.size 54 3 v (putL d.L ⟨d.L[k].name, d.L[k].safe, d.L[k].loose ++ o.b⟩).length (fiC (putL d.L ⟨d.L[k].name, d.L[k].safe, d.L[k].loose ++ o.b⟩)) ∧ Below W.heap.size W w') := fun W hx => by
    have := put_any ⟨d.L[k].name, d.L[k].safe, d.L[k].loose ++ o.b⟩ a c d.L W (h.below hx.frame) hl (by exact hfit.1) (fun g hg => (hf g hg).1)
    unfold fV at this
    rw [← tx_append] at this
    exact this
  have hs1 : (tx d.L[k].safe).size ≤ 100000000000 := by rw [tx_size]; exact hfit.2.1
  have hs2 : (tx d.L[k].loose).size ≤ 100000000000 := by rw [tx_size]; exact hfit.2.2
  have hs3 : (tx o.b).size ≤ 140737488351232 := by rw [tx_size]; exact hbl
  have hBY : By w a c d o (((w.alloc (.cells #[.slice a d.L.length c, .int .i64 d.limit, .int .i64 d.fuse, .int .i64 d.ops, .int .i64 d.reads, .bool d.down] 30)).alloc (.cells #[.int .i64 o.kind, .string (tx o.a), .string (tx o.b), .int .i64 o.n] 34)).alloc (.cells #[.slice none 0 0, .int .i64 0, .int .i64 0, .int .i64 0, .int .i64 0, .bool false] 30)) := Below.refl _ _
  obtain ⟨fb, fo, hfa, hfb, _⟩ := h.at hkl
  have HFC : Hid (∀ W, By w a c d o W → W.cell? ⟨fb, fo + k * 3, none⟩ = some (.string (tx d.L[k].name)) ∧ W.cell? ⟨fb, fo + k * 3 + 1, none⟩ = some (.string (tx d.L[k].safe)) ∧ W.cell? ⟨fb, fo + k * 3 + 2, none⟩ = some (.string (tx d.L[k].loose))) := fun W hx => by
    obtain ⟨b', o', e, _, h1, h2, h3⟩ := (h.below hx.frame).at hkl
    cases hfa.symm.trans e
    exact ⟨h1, h2, h3⟩
  have HFI := Lib.hid (fun W (hx : By w a c d o W) => hx.fin)
  have HDK := Lib.hid (fun W (hx : By w a c d o W) => hx.bx.disk)
  have HOP := Lib.hid (fun W (hx : By w a c d o W) => hx.bx.op)
  have HRC := Lib.hid (fun W (hx : By w a c d o W) => hx.rcells)
  have HDF := Lib.hid (fun W (hx : By w a c d o W) => hx.dfree)
  have HRF := Lib.hid (fun W (hx : By w a c d o W) => hx.rfree)
  have HSI := Lib.hid (fun W (hx : By w a c d o W) => hx.size)
  have HBE := Lib.hid (fun W W' (hx : By w a c d o W) (k : Below W.heap.size W W') => hx.below k)
  have HDW := Lib.hid (fun W (hx : By w a c d o W) => hx.drew)
  have HSB : Hid (∀ (W : World) (g : Nat) (x y z : Value), By w a c d o W → w.heap.size + 3 ≤ g → By w a c d o (((W.setCell ⟨g, 0, none⟩ x).setCell ⟨g, 1, none⟩ y).setCell ⟨g, 2, none⟩ z)) := fun W g x y z hx hg => Below.trans hx ((((Below.refl (w.heap.size + 3) W).setCell (p := ⟨g, 0, none⟩) hg x).setCell (p := ⟨g, 1, none⟩) hg y).setCell (p := ⟨g, 2, none⟩) hg z)
  have HAL := Lib.hid (fun W ob (hx : By w a c d o W) => hx.alloc ob)
  have HS1 : Hid (∀ (W : World) (g i : Nat) (x : Value), By w a c d o W → w.heap.size + 3 ≤ g → By w a c d o (W.setCell ⟨g, i, none⟩ x)) := fun W g i x hx hg => Below.trans hx ((Below.refl (w.heap.size + 3) W).setCell (p := ⟨g, i, none⟩) hg x)
  clear hget hat hDL hh hfit
  subst hfa
  unfold refV opV at *
  generalize hBYn : By w (some ⟨fb, fo, none⟩) c d o = BY at *
  generalize putL d.L ⟨d.L[k].name, d.L[k].safe, d.L[k].loose ++ o.b⟩ = L2 at *
  generalize d.L[k].name = n0 at *
  generalize d.L[k].safe = n1 at *
  generalize d.L[k].loose = n2 at *
  generalize d.L.length = N at *
  generalize tx o.a = xa at *
  generalize tx o.b = xb at *
  generalize tx n0 = m0 at *
  generalize tx n1 = m1 at *
  generalize tx n2 = m2 at *
  generalize o.n = xn at *
  rw [hk] at hBY ⊢ HOP
  clear hBYn h hf ha hk
  have HBY := Lib.hid hBY
  clear hBY
  go_enter Try.func61, Try.ntmps61
  go_wp2_with fail
  have hX := HBY.out
  generalize (((w.alloc (.cells #[.slice (some ⟨fb, fo, none⟩) N c, .int .i64 d.limit, .int .i64 d.fuse, .int .i64 d.ops, .int .i64 d.reads, .bool d.down] 30)).alloc (.cells #[.int .i64 1, .string xa, .string xb, .int .i64 xn] 34)).alloc (.cells #[.slice none 0 0, .int .i64 0, .int .i64 0, .int .i64 0, .int .i64 0, .bool false] 30)) = W0 at *
  have HNW : Hid (∀ W', Below (W0.alloc (.cells #[.string ⟨#[]⟩, .string ⟨#[]⟩, .string ⟨#[]⟩] 54)).drew.heap.size (W0.alloc (.cells #[.string ⟨#[]⟩, .string ⟨#[]⟩, .string ⟨#[]⟩] 54)).drew W' → (W'.cell? ⟨W0.heap.size, 0, none⟩ = some (.string ⟨#[]⟩) ∧ W'.cell? ⟨W0.heap.size, 1, none⟩ = some (.string ⟨#[]⟩) ∧ W'.cell? ⟨W0.heap.size, 2, none⟩ = some (.string ⟨#[]⟩)) ∧ W'.frozen? ⟨W0.heap.size, 0, none⟩ = false ∧ W'.frozen? ⟨W0.heap.size, 1, none⟩ = false ∧ W'.frozen? ⟨W0.heap.size, 2, none⟩ = false) := fun W' hb => by
    have hbl := (hb.block W0.heap.size (by show W0.heap.size < (W0.alloc _).heap.size; rw [size1]; omega)).trans (heap_alloc_new W0 _)
    exact ⟨⟨cell_of_row _ _ 0 _ _ _ hbl, cell_of_row _ _ 1 _ _ _ hbl, cell_of_row _ _ 2 _ _ _ hbl⟩, frozen_of_row _ _ 0 _ _ hbl, frozen_of_row _ _ 1 _ _ hbl, frozen_of_row _ _ 2 _ _ hbl⟩
  have HNB : Hid (∀ W', Below (W0.alloc (.cells #[.string ⟨#[]⟩, .string ⟨#[]⟩, .string ⟨#[]⟩] 54)).drew.heap.size (W0.alloc (.cells #[.string ⟨#[]⟩, .string ⟨#[]⟩, .string ⟨#[]⟩] 54)).drew W' → Hid (W'.heap[W0.heap.size]? = some (.cells #[.string ⟨#[]⟩, .string ⟨#[]⟩, .string ⟨#[]⟩] 54 (0, 0)))) := fun W' hb =>
    (hb.block W0.heap.size (by show W0.heap.size < (W0.alloc _).heap.size; rw [size1]; omega)).trans (heap_alloc_new W0 _)
  have hL : Hid (∀ W, BY W → W.cell? ⟨w.heap.size, 0, none⟩ = some (.slice (some ⟨fb, fo, none⟩) N c) ∧ W.cell? ⟨w.heap.size, 1, none⟩ = some (.int .i64 d.limit) ∧ W.cell? ⟨w.heap.size, 2, none⟩ = some (.int .i64 d.fuse) ∧ W.cell? ⟨w.heap.size, 3, none⟩ = some (.int .i64 d.ops) ∧ W.cell? ⟨w.heap.size, 4, none⟩ = some (.int .i64 d.reads) ∧ W.cell? ⟨w.heap.size, 5, none⟩ = some (.bool d.down) ∧ W.cell? ⟨w.heap.size + 1, 1, none⟩ = some (.string xa) ∧ W.cell? ⟨fb, fo + k * 3, none⟩ = some (.string m0) ∧ W.cell? ⟨fb, fo + k * 3 + 1, none⟩ = some (.string m1) ∧ W.cell? ⟨fb, fo + k * 3 + 2, none⟩ = some (.string m2) ∧ BY W) := fun W h => ⟨(HDK.out W h).1, (HDK.out W h).2.1, (HDK.out W h).2.2.1, (HDK.out W h).2.2.2.1, (HDK.out W h).2.2.2.2.1, (HDK.out W h).2.2.2.2.2, (HOP.out W h).2.1, (HFC.out W h).1, (HFC.out W h).2.1, (HFC.out W h).2.2, h⟩
  have HPR : Hid (∀ W, (W.cell? ⟨w.heap.size, 0, none⟩ = some (.slice (some ⟨fb, fo, none⟩) N c) ∧ W.cell? ⟨w.heap.size, 1, none⟩ = some (.int .i64 d.limit) ∧ W.cell? ⟨w.heap.size, 2, none⟩ = some (.int .i64 d.fuse) ∧ W.cell? ⟨w.heap.size, 3, none⟩ = some (.int .i64 d.ops) ∧ W.cell? ⟨w.heap.size, 4, none⟩ = some (.int .i64 d.reads) ∧ W.cell? ⟨w.heap.size, 5, none⟩ = some (.bool d.down) ∧ W.cell? ⟨w.heap.size + 1, 1, none⟩ = some (.string xa) ∧ W.cell? ⟨fb, fo + k * 3, none⟩ = some (.string m0) ∧ W.cell? ⟨fb, fo + k * 3 + 1, none⟩ = some (.string m1) ∧ W.cell? ⟨fb, fo + k * 3 + 2, none⟩ = some (.string m2) ∧ BY W) → BY W) := fun W h => h.2.2.2.2.2.2.2.2.2.2
  have HST : Hid (∀ W g x y z, BY W → w.heap.size + 3 ≤ g → BY (((W.setCell ⟨g, 0, none⟩ x).setCell ⟨g, 1, none⟩ y).setCell ⟨g, 2, none⟩ z)) := fun W g x y z h hg => HSB.out W g x y z h hg
  have HS0 := Lib.hid (HSI.out _ hX)
  have HFB : Hid (∀ W W', Below W.heap.size W W' → BY W → BY W') := fun W W' hb h => HBE.out _ _ h hb
  go_region_held3 (fun W => W.cell? ⟨w.heap.size, 0, none⟩ = some (.slice (some ⟨fb, fo, none⟩) N c) ∧ W.cell? ⟨w.heap.size, 1, none⟩ = some (.int .i64 d.limit) ∧ W.cell? ⟨w.heap.size, 2, none⟩ = some (.int .i64 d.fuse) ∧ W.cell? ⟨w.heap.size, 3, none⟩ = some (.int .i64 d.ops) ∧ W.cell? ⟨w.heap.size, 4, none⟩ = some (.int .i64 d.reads) ∧ W.cell? ⟨w.heap.size, 5, none⟩ = some (.bool d.down) ∧ W.cell? ⟨w.heap.size + 1, 1, none⟩ = some (.string xa) ∧ W.cell? ⟨fb, fo + k * 3, none⟩ = some (.string m0) ∧ W.cell? ⟨fb, fo + k * 3 + 1, none⟩ = some (.string m1) ∧ W.cell? ⟨fb, fo + k * 3 + 2, none⟩ = some (.string m2) ∧ BY W)
    (first | exact hL.out _ (HDW.out _ hX) | exact hL.out _ (HDW.out _ (HPR.out _ (by assumption))) | exact hL.out _ (HAL.out _ _ (HPR.out _ (by assumption))) | exact hL.out _ (HAL.out _ _ (by assumption)) | exact hL.out _ (HDW.out _ (HAL.out _ _ hX)) | exact hL.out _ (HST.out _ _ _ _ _ (HPR.out _ (by assumption)) HS0.out) | exact hL.out _ (by assumption) | assumption)
    (first | (go_at_call 23; refine (HAT.out _ (by first | exact HDW.out _ hX | exact HDW.out _ (HAL.out _ _ hX))).mono ?_; rintro e w3 ⟨rfl, hB⟩; have hY := HFB.out _ _ hB (by first | exact HDW.out _ hX | exact HDW.out _ (HAL.out _ _ hX)); first | (obtain ⟨⟨n0, n1, n2⟩, n3, n4, n5⟩ := HNW.out _ hB; have HNN := HNB.out _ hB; clear hB) | clear hB))
  all_goals
    have hX3 := HPR.out _ (by assumption)
    have HX3 := Lib.hid hX3
    clear hX3
  all_goals
    clear hX HNW HNB
    rename_i hHeld
    clear hHeld
    first
    | (have HG := Lib.hid HS0.out
       have HB3 := Lib.hid (set3_at HNN.out (.string m0) (.string m1) (.string m2))
       clear HNN n0 n1 n2 n3 n4 n5 hY HS0
       generalize W0.heap.size = G at *
       generalize (((w3.setCell ⟨G, 0, none⟩ (.string m0)).setCell ⟨G, 1, none⟩ (.string m1)).setCell ⟨G, 2, none⟩ (.string m2)) = W at *)
    | (have HG := Lib.hid (HSI.out _ hY)
       have HB3 := Lib.hid (heap_alloc_new w3 (.cells #[.string m0, .string m1, .string m2] 54))
       clear hY HS0
       generalize w3.heap.size = G at *
       generalize (w3.alloc (.cells #[.string m0, .string m1, .string m2] 54)) = W at *)
  all_goals
    obtain ⟨x0, x1, x2, x3, x4, x5⟩ := HDK.out _ HX3.out
    obtain ⟨y0, y1, y2, y3⟩ := HOP.out _ HX3.out
    obtain ⟨⟨c0, c1, c2⟩, e0, e1, e2⟩ := cells3 HB3.out
    have hn1 : ¬ w.heap.size = G := by have := HG.out; omega
    have hn2 : ¬ G = w.heap.size := by have := HG.out; omega
    have hn3 : ¬ w.heap.size + 1 = G := by have := HG.out; omega
    have hn4 : ¬ G = w.heap.size + 1 := by have := HG.out; omega
    have HBS : Hid (∀ i v, BY (W.setCell ⟨G, i, none⟩ v)) := fun i v => HS1.out _ _ _ _ HX3.out HG.out
    go_wp2_with fail
    refine (HWO.out _ (HBS.out _ _)).mono ?_
    rintro e w5 ⟨v1, rfl, hown, hB5⟩
    have hy := HBE.out _ _ (HBS.out _ _) hB5
    obtain ⟨a1, c1', rfl, hsl, hlow⟩ := own_fi_low hown
    have HF1 := Lib.hid (HFI.out _ hy a1 c1' L2 hsl (fun b i e => Nat.le_trans (HSI.out _ (HBS.out _ _)) (hlow b i e)))
    clear x0 x1 x2 x3 x4 x5 y0 y1 y2 y3 c0 c1 c2 e0 e1 e2 hn1 hn2 hn3 hn4
    obtain ⟨x0, x1, x2, x3, x4, x5⟩ := HDK.out _ hy
    obtain ⟨z0, z1, z2, z3, z4, z5⟩ := HRC.out _ hy
    have f0 := HDF.out _ hy 0
    have g0 := HRF.out _ hy 0
    have g1 := HRF.out _ hy 1
    have g2 := HRF.out _ hy 2
    have g3 := HRF.out _ hy 3
    have g4 := HRF.out _ hy 4
    have g5 := HRF.out _ hy 5
    clear hown hB5 hy hsl hlow
    go_wp2
    refine bodyPost_ret (v := .agg #[.slice a1 L2.length c1', .int .i64 d.limit, .int .i64 d.fuse, .int .i64 d.ops, .int .i64 d.reads, .bool d.down]) ?_ rfl ?_
    · rw [results_cell_one rfl]
      simp [asAddr, Result.andThen, HF1.out.1]
    · exact ⟨_, rfl, HF1.out.2.1, HF1.out.2.2⟩
end Go.Proofs.Ytammmhbkfdmbfaa
