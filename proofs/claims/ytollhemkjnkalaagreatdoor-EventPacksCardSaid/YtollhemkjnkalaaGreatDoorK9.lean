/- Layer 6: the words by which each law shows that the package is alive. -/
import Derived.Test.YtollhemkjnkalaaGreatDoorK8
import Derived.Test.YtollhemkjnkalaaGreatDoorJ4
import Derived.Test.YtollhemkjnkalaaGreatDoorJ7
namespace Go.Proofs.YtollhemkjnkalaaGreatDoor
open Go.RowKit Go.Shelf Go.Lib
set_option linter.unusedVariables false
set_option maxRecDepth 100000

def annB : ByteArray := ⟨#[97, 110, 110]⟩
def e0 : EvM := ⟨1, 5, ⟨#[97, 110, 110]⟩, ⟨#[]⟩, 2, 1⟩
def e3 : EvM := ⟨3, 5, ⟨#[97, 110, 110]⟩, ⟨#[]⟩, 0, 0⟩
def l0 : List UInt8 := [53, 32, 97, 110, 110, 32, 50, 32, 49]
theorem dec_one (n : Int) (k : Nat) (hn : n = k) (h : k < 10) : decOf n = [UInt8.ofNat (48 + k)] := by
  subst hn
  unfold decOf forever
  rw [if_pos ⟨by omega, by omega⟩, Int.toNat_natCast]
  exact decDigits_small h
theorem e0_right : rightE e0 = true := by decide +kernel
theorem e3_wrong : rightE e3 = false := by decide +kernel
theorem e0_line : lineE e0 = l0 := by
  have a := dec_one 5 5 rfl (by decide)
  have b := dec_one 2 2 rfl (by decide)
  have c := dec_one 1 1 rfl (by decide)
  unfold lineE wordsE wordsS
  rw [show shK e0.kind = ⟨true, false, 1, 999, 1, 4⟩ from rfl]
  simp only [show e0.at_ = 5 from rfl, show e0.n = 2 from rfl, show e0.status = 1 from rfl, show e0.user = ⟨#[97, 110, 110]⟩ from rfl, a, b, c]
  decide +kernel
theorem e0_fits : EFits e0 ∧ EInts e0 := by
  refine ⟨⟨by decide, by decide⟩, ⟨by unfold I64; decide, by unfold I64; decide, by unfold I64; decide⟩⟩
theorem e3_fits : EFits e3 ∧ EInts e3 := by
  refine ⟨⟨by decide, by decide⟩, ⟨by unfold I64; decide, by unfold I64; decide, by unfold I64; decide⟩⟩
theorem frame_e0 (W : World) (hp : Pow10 W) : Calls Tryz.prog 15 #[evV e0] W fun r w' => r = .returned (.tuple #[.agg #[.int .u8 111, .string ⟨#[53, 32, 97, 110, 110, 32, 50, 32, 49]⟩], .bool true]) ∧ Below W.heap.size W w' := by
  have h := frame_any e0 e0_fits.1 e0_fits.2 W hp
  unfold frameE frK at h
  rw [e0_right, if_pos rfl, e0_line] at h
  exact h
theorem frame_e3 (W : World) (hp : Pow10 W) : Calls Tryz.prog 15 #[evV e3] W fun r w' => r = .returned (.tuple #[.agg #[.int .u8 0, .string ⟨#[]⟩], .bool false]) ∧ Below W.heap.size W w' := by
  have h := frame_any e3 e3_fits.1 e3_fits.2 W hp
  unfold frameE frK at h
  rw [e3_wrong, if_neg (by decide)] at h
  exact h
theorem of_e0 (W : World) (hp : Pow10 W) (hm : MaxIs W) : Calls Tryz.prog 16 #[.agg #[.int .u8 111, .string ⟨#[53, 32, 97, 110, 110, 32, 50, 32, 49]⟩]] W fun r w' => r = .returned (.tuple #[evV e0, .bool true]) ∧ Below W.heap.size W w' := by
  have h := of_any 111 (tx l0) (by decide) W hp hm
  have e1 : ofE 111 (tx l0) = e0 := by have := of_frame e0_right; rwa [e0_line] at this
  have e2 : isF 111 (tx l0) = true := by have := is_frame e0_right; rwa [e0_line] at this
  rw [e1, e2] at h
  exact h
theorem cells_at (W : World) (l : List EvM) (xs : Array Value) (t : TypeId) (hx : xs.toList = evs l) : EvSl (W.alloc (.cells xs t)) (some ⟨W.heap.size, 0, none⟩) l := fun k hk =>
  ⟨W.heap.size, 0, rfl, by rw [size1]; omega, fun i hi => by
    have hg := evs_get l k i hk hi
    rw [← hx, Array.getElem?_toList] at hg
    rw [cell_of_row _ _ _ xs t (0, 0) (heap_alloc_new W _), Nat.zero_add, hg]⟩
def s0 : List UInt8 := flatE [e0, e0]
theorem s0_len : s0.length = 46 := by
  unfold s0
  rw [flatE_cons, flatE_cons, flatE_nil, List.append_nil, List.length_append]
  unfold frP
  rw [packT_len, e0_line]
  rfl
theorem s0_pack : packAll [e0, e0] = s0 := packAll_good (by rw [List.all_cons, List.all_cons, e0_right]; rfl)
theorem s0_cut : EvReads (s0.take 45) [e0] 23 := by
  have hl : (frP e0).length = 23 := by unfold frP; rw [packT_len, e0_line]; rfl
  have hs : s0.take 45 = frP e0 ++ (frP e0).take 22 := by
    unfold s0
    rw [flatE_cons, flatE_cons, flatE_nil, List.append_nil, List.take_append, hl, List.take_of_length_le (by rw [hl]; decide)]
  rw [hs]
  have hn := next_frP e0_right ((frP e0).take 22)
  have hd : (frP e0 ++ (frP e0).take 22).drop (14 + (lineE e0).length) = (frP e0).take 22 := by
    rw [← packT_len (letterE e0.kind) (lineE e0)]
    exact List.drop_left
  have hc : nextL ((frP e0).take 22) = .err 43 := nextL_cut (right_packs e0_right) 22 (by rw [e0_line]; decide)
  have h := EvReads.step hn (is_frame e0_right) (by rw [hd]; exact .err hc)
  rw [of_frame e0_right, e0_line] at h
  exact h
theorem pack_e0 (W : World) (a : Option Addr) (c : Nat) (h : EvSl W a [e0, e0]) (hp : Pow10 W) : Calls Tryz.prog 7 #[.slice a 2 c] W fun r w' => r = .returned (.string (tx s0)) ∧ Below W.heap.size W w' := by
  have h := epack_any a c [e0, e0] W h (fun e he => by
    rcases List.mem_cons.1 he with rfl | he
    · exact e0_fits
    · rw [List.mem_singleton.1 he]; exact e0_fits) (by decide) hp
  rw [s0_pack] at h
  exact h
theorem read_e0 (W : World) (hp : Pow10 W) (hm : MaxIs W) : Calls Tryz.prog 11 #[.string (tx (s0.take 45))] W fun r w' => ∃ a c, r = .returned (.tuple #[.slice a 1 c, .int .i64 23]) ∧ Below W.heap.size W w' := by
  refine (eread_any (tx (s0.take 45)) (by rw [tx_size, List.length_take, s0_len]; decide) W hp hm).mono ?_
  rintro r w' ⟨v, l, n, rfl, hr, ho, _, _, hb⟩
  rw [toL_tx] at hr
  obtain ⟨rfl, rfl⟩ := hr.only s0_cut
  obtain ⟨a, c, rfl, _, _⟩ := own_ev ho
  exact ⟨a, c, rfl, hb⟩
theorem right_e0 (W : World) : Calls Tryz.prog 17 #[evV e0] W fun r w' => r = .returned (.bool true) ∧ Below W.heap.size W w' := by
  have h := right_any e0 e0_fits.1 W
  rw [e0_right] at h
  exact h
theorem bears_ann (W : World) : Calls Tryz.prog 18 #[evV e0, .string ⟨#[97, 110, 110]⟩] W fun r w' => r = .returned (.bool true) ∧ Below W.heap.size W w' := by
  have h := bears_any e0 ⟨#[97, 110, 110]⟩ W
  rw [show bearsE e0 ⟨#[97, 110, 110]⟩ = true by unfold bearsE; rw [toList_data, toList_data, toList_data]; decide +kernel] at h
  exact h
theorem bears_bob (W : World) : Calls Tryz.prog 18 #[evV e0, .string ⟨#[98, 111, 98]⟩] W fun r w' => r = .returned (.bool false) ∧ Below W.heap.size W w' := by
  have h := bears_any e0 ⟨#[98, 111, 98]⟩ W
  rw [show bearsE e0 ⟨#[98, 111, 98]⟩ = false by unfold bearsE; rw [toList_data, toList_data, toList_data]; decide +kernel] at h
  exact h
def e0C : Array Value := #[.int .i64 1, .int .i64 5, .string ⟨#[97, 110, 110]⟩, .string ⟨#[]⟩, .int .i64 2, .int .i64 1]
/-- what alive keeps: the event, its frame, the event of that -/
structure AlK (w : World) (F G : Nat) (W : World) : Prop where
  ev : W.heap[w.heap.size]? = some (.cells #[.int .i64 1, .int .i64 5, .string ⟨#[97, 110, 110]⟩, .string ⟨#[]⟩, .int .i64 2, .int .i64 1] 40 (0, 0))
  fr : W.heap[F]? = some (.cells #[.int .u8 111, .string ⟨#[53, 32, 97, 110, 110, 32, 50, 32, 49]⟩] 42 (0, 0))
  of_ : W.heap[G]? = some (.cells #[.int .i64 1, .int .i64 5, .string ⟨#[97, 110, 110]⟩, .string ⟨#[]⟩, .int .i64 2, .int .i64 1] 40 (0, 0))
  frame : Below w.heap.size w W
theorem AlK.below {w W W' : World} {F G : Nat} (h : AlK w F G W) (q : Below W.heap.size W W') : AlK w F G W' :=
  ⟨(q.block _ (heap_lt h.ev)).trans h.ev, (q.block _ (heap_lt h.fr)).trans h.fr, (q.block _ (heap_lt h.of_)).trans h.of_, h.frame.trans (q.mono h.frame.size)⟩

set_option maxHeartbeats 4000000 in
theorem alive_any (w : World) (hp : Pow10 w) (hm : MaxIs w) :
    Calls Tryz.prog 6 #[] w fun e w' => e = .returned (.bool true) ∧ Below w.heap.size w w' := by
  have HF := Lib.hid (fun W (h : Below w.heap.size w W) => frame_e0 W (hp.below h))
  have HG := Lib.hid (fun W (h : Below w.heap.size w W) => frame_e3 W (hp.below h))
  have HO := Lib.hid (fun W (h : Below w.heap.size w W) => of_e0 W (hp.below h) (hm.below h))
  have HP := Lib.hid (fun W a c hs (h : Below w.heap.size w W) => pack_e0 W a c hs (hp.below h))
  have HR := Lib.hid (fun W (h : Below w.heap.size w W) => read_e0 W (hp.below h) (hm.below h))
  have HRT := Lib.hid right_e0
  have HB1 := Lib.hid bears_ann
  have HB2 := Lib.hid bears_bob
  unfold evV at *
  simp only [e0, e3] at HF HG HO HRT HB1 HB2
  have hsz : (tx s0).size = 46 := by rw [tx_size, s0_len]
  have hsl : ∀ W : World, (Instr.slice 9 (.string (tx s0)) none (some (.int .i64 45)) none).run Tryz.prog W = .ok (.string (tx (s0.take 45))) W := fun W => by
    rw [run_slice_string_to_if W 9 (tx s0) .i64 45 Tryz.underlying9, if_pos (by rw [hsz]; decide)]
    congr 2
    exact toL_inj (by rw [toL_extract, toL_tx, toL_tx]; rfl)
  have hE1 : ((⟨#[97, 110, 110]⟩ : ByteArray).toList == (⟨#[97, 110, 110]⟩ : ByteArray).toList) = true := beq_self_eq_true _
  have hE2 : ((⟨#[]⟩ : ByteArray).toList == (⟨#[]⟩ : ByteArray).toList) = true := beq_self_eq_true _
  have hE3 : ((⟨#[53, 32, 97, 110, 110, 32, 50, 32, 49]⟩ : ByteArray).toList == (⟨#[53, 32, 97, 110, 110, 32, 50, 32, 49]⟩ : ByteArray).toList) = true := beq_self_eq_true _
  have hix : ∀ W : World, (Instr.index 9 (.string ⟨#[111, 99, 120, 103, 114, 104, 101]⟩) (.int .i64 6)).run Tryz.prog W = .ok (.int .u8 101) W := fun W => by
    have := letter_at 6 (by decide) W
    exact this
  generalize tx s0 = S at *
  generalize tx (s0.take 45) = S' at *
  clear hp hm
  go_enter Tryz.func6, Tryz.ntmps6
  have K1 : Hid (Below w.heap.size w (w.alloc (.cells #[.int .i64 1, .int .i64 5, .string ⟨#[97, 110, 110]⟩, .string ⟨#[]⟩, .int .i64 2, .int .i64 1] 40))) := (Below.refl _ _).alloc (Nat.le_refl _) _
  have L1 : Hid ((w.alloc (.cells #[.int .i64 1, .int .i64 5, .string ⟨#[97, 110, 110]⟩, .string ⟨#[]⟩, .int .i64 2, .int .i64 1] 40)).heap[w.heap.size]? = some (.cells #[.int .i64 1, .int .i64 5, .string ⟨#[97, 110, 110]⟩, .string ⟨#[]⟩, .int .i64 2, .int .i64 1] 40 (0, 0))) := heap_alloc_new w _
  go_wp2_with fail
  refine (HF.out _ K1.out).mono ?_
  rintro e w2 ⟨rfl, h2⟩
  have K2 := Lib.hid (K1.out.trans (h2.mono K1.out.size))
  have L2 := Lib.hid ((h2.block _ (heap_lt L1.out)).trans L1.out)
  have A2 := (Below.refl w2.heap.size w2).alloc (Nat.le_refl _) (.cells #[.int .u8 111, .string ⟨#[53, 32, 97, 110, 110, 32, 50, 32, 49]⟩] 42)
  have K3 := Lib.hid (K2.out.trans (A2.mono K2.out.size))
  have L3 := Lib.hid ((A2.block _ (heap_lt L2.out)).trans L2.out)
  have M3 := Lib.hid (heap_alloc_new w2 (.cells #[.int .u8 111, .string ⟨#[53, 32, 97, 110, 110, 32, 50, 32, 49]⟩] 42))
  clear h2 A2 K1 L1 L2 K2
  go_wp2_with fail
  refine (HO.out _ K3.out).mono ?_
  rintro e w4 ⟨rfl, h4⟩
  have K4 := Lib.hid (K3.out.trans (h4.mono K3.out.size))
  have A4 := (Below.refl w4.heap.size w4).alloc (Nat.le_refl _) (.cells #[.int .i64 1, .int .i64 5, .string ⟨#[97, 110, 110]⟩, .string ⟨#[]⟩, .int .i64 2, .int .i64 1] 40)
  have L4 := (h4.block _ (heap_lt L3.out)).trans L3.out
  have M4 := (h4.block _ (heap_lt M3.out)).trans M3.out
  have X5 : Hid (AlK w w2.heap.size w4.heap.size (w4.alloc (.cells #[.int .i64 1, .int .i64 5, .string ⟨#[97, 110, 110]⟩, .string ⟨#[]⟩, .int .i64 2, .int .i64 1] 40))) := ⟨(A4.block _ (heap_lt L4)).trans L4, (A4.block _ (heap_lt M4)).trans M4, heap_alloc_new w4 _, K4.out.trans (A4.mono K4.out.size)⟩
  clear h4 A4 L4 M4 K4 K3 L3 M3
  go_wp2_with fail
  refine (HG.out _ X5.out.frame).mono ?_
  rintro e w6 ⟨rfl, h6⟩
  have X6 := Lib.hid (X5.out.below h6)
  have A6 := (Below.refl w6.heap.size w6).alloc (Nat.le_refl _) (.cells #[.int .u8 0, .string ⟨#[]⟩] 42)
  have X7 := Lib.hid (X6.out.below A6)
  have B7 := Lib.hid (heap_lt X6.out.ev)
  obtain ⟨⟨c0, c1, c2, c3, c4, c5⟩, -⟩ := cells6 X6.out.ev
  have hlt := heap_lt X6.out.ev
  clear h6 A6 X5
  have HCA : Hid (EvSl ((w6.alloc (.cells #[.int .u8 0, .string ⟨#[]⟩] 42)).alloc (.cells #[.int .i64 1, .int .i64 5, .string ⟨#[97, 110, 110]⟩, .string ⟨#[]⟩, .int .i64 2, .int .i64 1, .int .i64 1, .int .i64 5, .string ⟨#[97, 110, 110]⟩, .string ⟨#[]⟩, .int .i64 2, .int .i64 1] 40)) (some ⟨w6.heap.size + 1, 0, none⟩) [e0, e0]) := by
    have := cells_at (w6.alloc (.cells #[.int .u8 0, .string ⟨#[]⟩] 42)) [e0, e0] #[.int .i64 1, .int .i64 5, .string ⟨#[97, 110, 110]⟩, .string ⟨#[]⟩, .int .i64 2, .int .i64 1, .int .i64 1, .int .i64 5, .string ⟨#[97, 110, 110]⟩, .string ⟨#[]⟩, .int .i64 2, .int .i64 1] 40 rfl
    rwa [size1] at this
  have X8 := Lib.hid (X7.out.below ((Below.refl (w6.alloc (.cells #[.int .u8 0, .string ⟨#[]⟩] 42)).heap.size _).alloc (Nat.le_refl _) (.cells #[.int .i64 1, .int .i64 5, .string ⟨#[97, 110, 110]⟩, .string ⟨#[]⟩, .int .i64 2, .int .i64 1, .int .i64 1, .int .i64 5, .string ⟨#[97, 110, 110]⟩, .string ⟨#[]⟩, .int .i64 2, .int .i64 1] 40)))
  go_wp2_with fail
  refine (HP.out _ _ _ HCA.out X8.out.frame).mono ?_
  rintro e w8 ⟨rfl, h8⟩
  have X9 := Lib.hid (X8.out.below h8)
  clear h8 X8 HCA X7 X6 B7 c0 c1 c2 c3 c4 c5 hlt
  go_wp2_with fail
  refine (HR.out _ X9.out.frame).mono ?_
  rintro e w9 ⟨ra, rc, rfl, h9⟩
  have X10 := Lib.hid (X9.out.below h9)
  clear h9 X9
  obtain ⟨⟨c0, c1, c2, c3, c4, c5⟩, -⟩ := cells6 X10.out.ev
  obtain ⟨⟨d0, d1, d2, d3, d4, d5⟩, -⟩ := cells6 X10.out.of_
  obtain ⟨⟨f0, f1⟩, -, -⟩ := cells2 X10.out.fr
  go_wp2_with fail
  refine (HRT.out _).mono ?_
  rintro e w10 ⟨rfl, h10⟩
  have X11 := Lib.hid (X10.out.below h10)
  clear h10 X10 c0 c1 c2 c3 c4 c5 d0 d1 d2 d3 d4 d5 f0 f1
  obtain ⟨⟨c0, c1, c2, c3, c4, c5⟩, -⟩ := cells6 X11.out.ev
  go_wp2_with fail
  refine (HB1.out _).mono ?_
  rintro e w11 ⟨rfl, h11⟩
  have X12 := Lib.hid (X11.out.below h11)
  clear h11 X11 c0 c1 c2 c3 c4 c5
  obtain ⟨⟨c0, c1, c2, c3, c4, c5⟩, -⟩ := cells6 X12.out.ev
  go_wp2_with fail
  refine (HB2.out _).mono ?_
  rintro e w12 ⟨rfl, h12⟩
  have X13 := Lib.hid (X12.out.below h12)
  clear h12 X12 c0 c1 c2 c3 c4 c5
  go_wp2
  go_ret
  exact ⟨rfl, X13.out.frame⟩
end Go.Proofs.YtollhemkjnkalaaGreatDoor
