/- Texts of mine, one behind the other, of each what is wanted. -/
import Derived.Test.YtjhdhfokhkcamaaGreatQ00
import Derived.Test.YtjhdhfokhkcamaaGreatShelf
import Derived.Test.YtjhdhfokhkcamaaGreatRows
import Derived.Test.YtjhdhfokhkcamaaGreatQ01
import Derived.Test.YtjhdhfokhkcamaaGreatQ02
import Derived.Test.YtjhdhfokhkcamaaGreatQ03
import Derived.Test.YtjhdhfokhkcamaaGreatQ05
import Derived.Test.YtjhdhfokhkcamaaGreatQ09
import Derived.Test.YtjhdhfokhkcamaaGreatQ10
import Derived.Test.YtjhdhfokhkcamaaGreatQ11
import Derived.Test.YtjhdhfokhkcamaaGreatQ12
import Derived.Test.YtjhdhfokhkcamaaGreatQ14
import Derived.Test.YtjhdhfokhkcamaaGreatQ18
import Derived.Test.YtjhdhfokhkcamaaGreatQ21
import Derived.Test.YtjhdhfokhkcamaaGreatQ27
import Derived.Test.YtjhdhfokhkcamaaGreatQ28
import Derived.Test.YtjhdhfokhkcamaaGreatQ31
import Derived.Test.YtjhdhfokhkcamaaGreatQ32
import Derived.Test.YtjhdhfokhkcamaaGreatQ33
import Derived.Test.YtjhdhfokhkcamaaGreatQ34
namespace Go.Proofs.YtjhdhfokhkcamaaGreat
open Go.RowKit Go.Proofs
set_option linter.unusedVariables false
set_option maxRecDepth 100000
theorem staysO_few (l : List OpM) (u : ByteArray) (t : Int) {n : Nat} (h : l.length ≤ n) : (staysO l u t).length ≤ n := by
 have := staysO_len l u t l.length
 rw [List.take_length] at this
 omega
theorem ofU_few {s : SaM} {n : Nat} (h : Few s n) (u : ByteArray) : (ofU s.us u).length ≤ n := by
 rcases ofU_cases s.us u with h1 | h1
 ·rw [h1]; exact Nat.zero_le _
 ·exact h.st _ h1
set_option maxHeartbeats 8000000 in
theorem stays_any11 (x : SaL) (u : ByteArray) (t : Int) (w : World) (h : SaAt w x) (hf : Few x.m 400) :
  Calls Tryz.prog 29 #[saV x, .string u, .int .i64 t] w fun e w' => ∃ a q, e = .returned (.slice a (staysS x.m u t).length q) ∧ StSl w' a (staysS x.m u t) ∧ Below w.heap.size w w' := by
 have HK := SB.new (Below.refl w.heap.size w) h 38
 have hol : (ofU x.m.us u).length ≤ 400 := ofU_few hf u
 have hsl : (staysO x.m.op u t).length ≤ 400 := staysO_few _ _ _ hf.op
 have HSO := Lib.hid (fun V (h : UsSl V x.ua x.us) => staysOf_any x.ua x.uc x.us u V h (by have := hf.us; unfold SaL.m at this; simp only at this; rw [umS_len] at this; omega))
 have HOS := Lib.hid (fun V (h : OpSl V x.oa x.op) => o_stays x.oa x.oc x.op u t V h (Nat.le_trans hf.op (by decide)))
 have HCL := Lib.hid (fun V a c (h : StSl V a (ofU x.m.us u)) (k : Cp a (ofU x.m.us u).length c) => clone_st a c (ofU x.m.us u) V h k (by omega))
 have HAN := Lib.hid (fun j (hj : j < (staysO x.m.op u t).length) => addsS_next (staysO x.m.op u t) (ofU x.m.us u) j hj)
 have HAL := Lib.hid (fun j => addsS_len ((staysO x.m.op u t).take j) (ofU x.m.us u))
 have HAD := Lib.hid (fun V a c (l : List StM) (s : StM) (h : StSl V a l) (k : Cp a l.length c) (hl : l.length ≤ 1000) => add8_any a c l s V h k.nil hl k.le k.mx)
 have HS := Lib.hid HK
 obtain ⟨c0, c1, c2, c3, c4, c5⟩ := HK.cells
 rw [show staysS x.m u t = addsS (staysO x.m.op u t) (ofU x.m.us u) from rfl]
 rw [show umS x.us = x.m.us from rfl] at HSO
 rw [show x.op = x.m.op from rfl] at HOS c2
 generalize hL : staysO x.m.op u t = L at *
 generalize ofU x.m.us u = O at *
 obtain ⟨now, hor, oa, op, oc, ua, us, uc, sa, su, sc, ta, tb, tc⟩ := x
 unfold saV saC stV at *
 dsimp only at *
 clear h hf HK hL
 go_enter Tryz.func29, Tryz.ntmps29
 go_wp2_with fail
 refine (HSO.out _ HS.out.at_.us).mono ?_
 rintro e w1 ⟨x1, q1, rfl, l1, k1, h1⟩
 have A1 := Lib.hid (HS.out.below h1)
 have L1 := Lib.hid l1
 clear c0 c1 c2 c3 c4 c5 h1 l1 HS HSO
 go_wp2_with fail
 refine (HCL.out _ _ _ L1.out k1).mono ?_
 rintro e w2 ⟨v2, rfl, o2, h2⟩
 obtain ⟨x2, q2, rfl, i2, j2, k2, l2⟩ := own_st o2
 have A2 := Lib.hid (A1.out.below h2)
 have L2 := Lib.hid k2
 obtain ⟨c0, c1, c2, c3, c4, c5⟩ := A2.out.cells
 dsimp only at *
 clear A1 L1 HCL k1 h2 o2 k2
 go_wp2_with fail
 refine (HOS.out _ A2.out.at_.op).mono ?_
 rintro e w3 ⟨x3, q3, rfl, i3, j3, k3, l3, h3⟩
 have L3 := Lib.hid (L2.out.below h3)
 have M3 := Lib.hid l3
 have B3 := Lib.hid (A2.out.frame.trans (h3.mono A2.out.frame.size))
 have C2 := Lib.hid (Cp.mk i2 j2 l2)
 clear c0 c1 c2 c3 c4 c5 A2 L2 HOS i2 j2 l2 i3 j3 k3 l3 h3
 go_wp2
 go_loopw [7, 21] (fun v iv wr => ∃ (j : Nat) (a : Option Addr) (c : Nat), j ≤ L.length ∧ iv = .int .i64 j ∧ v = .slice a (addsS (L.take j) O).length c ∧ Hid (StSl wr a (addsS (L.take j) O)) ∧ Hid (Cp a (addsS (L.take j) O).length c) ∧ Hid (Below w3.heap.size w3 wr)) (fun _ iv _ => L.length - (intOf iv).toNat)
 case atStart => exact ⟨0, _, _, by omega, rfl, rfl, L3.out, C2.out, Below.refl _ _⟩
 case round =>
  clear L3 C2
  obtain ⟨j, a, c, hj, rfl, rfl, HR, HC, HB⟩ := hrel
  by_cases hjl : j < L.length
  ·obtain ⟨b, off, rfl, hbl, r0, r1, r2, r3⟩ := (M3.out.below HB.out) j hjl
   have hb1 := below_one wr (.cells #[.int .i64 L[j].f, .int .i64 L[j].t, .int .i64 L[j].n, .int .i64 L[j].s] 86)
   have HN := Lib.hid (HAN.out j hjl)
   have hal := HAL.out j
   have hal2 : (L.take j).length ≤ 400 := by rw [List.length_take]; omega
   have HAJ := Lib.hid (HAD.out _ a c (addsS (L.take j) O) L[j] (HR.out.below hb1) HC.out (by omega))
   have HB1 := Lib.hid (HB.out.trans (hb1.mono HB.out.size))
   clear hb1 HAN HAL HAD HR HC HB hal hal2
   generalize addsS (L.take j) O = R at *
   generalize L[j] = s at *
   go_wp2_with fail
   refine HAJ.out.mono ?_
   rintro e w4 ⟨v4, rfl, o4, h4⟩
   obtain ⟨x4, q4, rfl, i4, j4, k4, l4⟩ := own_st o4
   have HB2 := Lib.hid (HB1.out.trans (h4.mono HB1.out.size))
   have HC2 := Lib.hid (Cp.mk i4 j4 l4)
   have HS4 := Lib.hid k4
   clear HAJ HB1 h4 o4 i4 j4 k4 l4 r0 r1 r2 r3
   go_wp2
   go_roundw
   case rel => exact ⟨j + 1, x4, q4, by omega, by go_num, by rw [HN.out], (by unfold Hid; rw [HN.out]; exact HS4.out), (by unfold Hid; rw [HN.out]; exact HC2.out), HB2.out⟩
   case measure => simp [intOf]; omega
  ·obtain rfl : j = L.length := by omega
   rw [List.take_length] at HR HC
   rw [List.take_length]
   have HF := Lib.hid (B3.out.trans (HB.out.mono B3.out.size))
   clear HAN HAL HAD HC HB B3 M3
   go_wp2
   go_ret
   exact ⟨a, c, rfl, HR.out, HF.out⟩
theorem hasU_stays {l : List UsM} (h : ∀ x ∈ l, x.l ≠ []) (u : ByteArray) : hasU l u = decide (0 < (ofU l u).length) := by
 rw [Bool.eq_iff_iff, decide_eq_true_iff]
 unfold hasU
 rw [List.any_eq_true]
 constructor
 ·rintro ⟨x, hx, hk⟩
  unfold ofU
  cases hf : l.find? (isKy UsM.u u) with
  | none => exact absurd hk (by rw [List.find?_eq_none] at hf; exact hf x hx)
  | some y => exact List.length_pos_iff.2 (h y (List.mem_of_find?_eq_some hf))
 ·intro h1
  rcases ofU_cases l u with h2 | h2
  ·rw [h2] at h1; exact absurd h1 (Nat.lt_irrefl _)
  ·exact ⟨_, h2, by unfold isKy; simp⟩
set_option maxHeartbeats 8000000 in
theorem has_any11 (x : SaL) (u : ByteArray) (w : World) (h : SaAt w x) (hr : RightS x.m) (hf : Few x.m 400) :
  Calls Tryz.prog 31 #[saV x, .string u] w fun e w' => e = .returned (.bool (stHas x.m u)) ∧ Below w.heap.size w w' := by
 have S0 := SB.new (Below.refl w.heap.size w) h 38
 have HK := S0.alloc (.cells #[.string u] 9)
 have hb1 := below_one (w.alloc (.cells (saC x) 38)) (.cells #[.string u] 9)
 have hnew := heap_alloc_new (w.alloc (.cells (saC x) 38)) (.cells #[.string u] 9)
 have hcap : CapO ((w.alloc (.cells (saC x) 38)).alloc (.cells #[.string u] 9)) (w.heap.size + 1) (.string u) := ⟨by rw [size1] at hnew; exact cell_of_row _ _ 0 _ _ (0, 0) hnew, by rw [size1, size1]; omega⟩
 have HC := Lib.hid hcap
 have HS := Lib.hid HK
 have HSO := Lib.hid (fun V (h : UsSl V x.ua x.us) => staysOf_any x.ua x.uc x.us u V h (by have := hf.us; unfold SaL.m at this; simp only at this; rw [umS_len] at this; omega))
 have H1 : Hid (∀ V, OpSl V x.oa x.op → CapO V (w.heap.size + 1) (.string u) → Calls Tryz.prog 95 #[.slice x.oa x.op.length x.oc, .func (.func 96) #[] #[.pointer (some ⟨w.heap.size + 1, 0, none⟩)]] V fun r w' => r = .returned (.bool (hasO x.m.op u)) ∧ Below V.heap.size V w') := fun V h k => by
  refine some_op x.oa x.oc x.op _ _ (isU u) (fun V => CapO V (w.heap.size + 1) (.string u)) V h k ?_ (call_known Tryz.func96 rfl) (fun _ _ h q => h.below q) (fun y _ V h => c_has1 y u _ V h)
  have := hf.op
  exact Nat.le_trans this (by decide)
 have H2 : Hid (∀ V, EnSl V x.sa x.su → CapO V (w.heap.size + 1) (.string u) → Calls Tryz.prog 97 #[.slice x.sa x.su.length x.sc, .func (.func 98) #[] #[.pointer (some ⟨w.heap.size + 1, 0, none⟩)]] V fun r w' => r = .returned (.bool (hasE x.m.su u)) ∧ Below V.heap.size V w') := fun V h k => by
  refine some_en x.sa x.sc x.su _ _ (prE u) (fun V => CapO V (w.heap.size + 1) (.string u)) V h k ?_ (call_known Tryz.func98 rfl) (fun _ _ h q => h.below q) (fun y _ V h => c_has2 y u _ V h)
  have := hf.su
  exact Nat.le_trans this (by decide)
 have H3 : Hid (∀ V, TbSl V x.ta x.tb → CapO V (w.heap.size + 1) (.string u) → Calls Tryz.prog 100 #[.slice x.ta x.tb.length x.tc, .func (.func 101) #[] #[.pointer (some ⟨w.heap.size + 1, 0, none⟩)]] V fun r w' => r = .returned (.bool (hasT x.m.tb u)) ∧ Below V.heap.size V w') := fun V h k => by
  refine some_tb x.ta x.tc x.tb _ _ (isKy TbM.u u) (fun V => CapO V (w.heap.size + 1) (.string u)) V h k ?_ (call_known Tryz.func101 rfl) (fun _ _ h q => h.below q) (fun y _ V h => c_has3 y u _ V h)
  have := hf.tb
  exact Nat.le_trans this (by decide)
 have hst : stHas x.m u = (hasT x.m.tb u || decide (0 < (ofU x.m.us u).length) || hasO x.m.op u || hasE x.m.su u) := by
  unfold stHas
  rw [hasU_stays fun y hy => (hr.us y hy).2.1]
 rw [hst]
 rw [show umS x.us = x.m.us from rfl] at HSO
 have hol := ofU_few hf u
 obtain ⟨c0, c1, c2, c3, c4, c5⟩ := HK.cells
 have hcell := hcap.1
 generalize hasO x.m.op u = b1 at *
 generalize hasE x.m.su u = b3 at *
 generalize hasT x.m.tb u = b4 at *
 generalize ofU x.m.us u = O at *
 obtain ⟨now, hor, oa, op, oc, ua, us, uc, sa, su, sc, ta, tb, tc⟩ := x
 unfold saV saC at *
 dsimp only at *
 clear h hr hf HK S0 hb1 hnew hcap hst
 cases b1
 ·by_cases hO : 0 < O.length
  ·go_enter Tryz.func31, Tryz.ntmps31
   go_wp2_with fail
   refine (H1.out _ HS.out.at_.op HC.out).mono ?_
   rintro e w1 ⟨rfl, h1⟩
   have A1 := Lib.hid (HS.out.below h1)
   have C1 := Lib.hid (HC.out.below h1)
   clear c0 c1 c2 c3 c4 c5 hcell HS HC h1 H1
   obtain ⟨c0, c1, c2, c3, c4, c5⟩ := A1.out.cells
   have hcell := C1.out.1
   dsimp only at *
   go_wp2_with fail
   refine (HSO.out _ A1.out.at_.us).mono ?_
   rintro e w2 ⟨x2, q2, rfl, -, -, h2⟩
   have A2 := Lib.hid (A1.out.below h2)
   have C2 := Lib.hid (C1.out.below h2)
   clear c0 c1 c2 c3 c4 c5 hcell A1 C1 h2 HSO
   obtain ⟨c0, c1, c2, c3, c4, c5⟩ := A2.out.cells
   dsimp only at *
   have hF := Lib.hid A2.out.frame
   go_wp2
   go_ret
   exact ⟨retB (by simp [hO]), hF.out⟩
  ·cases b3
   ·go_enter Tryz.func31, Tryz.ntmps31
    go_wp2_with fail
    refine (H1.out _ HS.out.at_.op HC.out).mono ?_
    rintro e w1 ⟨rfl, h1⟩
    have A1 := Lib.hid (HS.out.below h1)
    have C1 := Lib.hid (HC.out.below h1)
    clear c0 c1 c2 c3 c4 c5 hcell HS HC h1 H1
    obtain ⟨c0, c1, c2, c3, c4, c5⟩ := A1.out.cells
    have hcell := C1.out.1
    dsimp only at *
    go_wp2_with fail
    refine (HSO.out _ A1.out.at_.us).mono ?_
    rintro e w2 ⟨x2, q2, rfl, -, -, h2⟩
    have A2 := Lib.hid (A1.out.below h2)
    have C2 := Lib.hid (C1.out.below h2)
    clear c0 c1 c2 c3 c4 c5 hcell A1 C1 h2 HSO
    obtain ⟨c0, c1, c2, c3, c4, c5⟩ := A2.out.cells
    dsimp only at *
    go_wp2_with fail
    refine (H2.out _ A2.out.at_.su C2.out).mono ?_
    rintro e w3 ⟨rfl, h3⟩
    have A3 := Lib.hid (A2.out.below h3)
    have C3 := Lib.hid (C2.out.below h3)
    clear c0 c1 c2 c3 c4 c5 A2 C2 h3 H2
    obtain ⟨c0, c1, c2, c3, c4, c5⟩ := A3.out.cells
    dsimp only at *
    go_wp2_with fail
    refine (H3.out _ A3.out.at_.tb C3.out).mono ?_
    rintro e w4 ⟨rfl, h4⟩
    have hF := Lib.hid (A3.out.frame.trans (h4.mono A3.out.frame.size))
    go_wp2
    go_ret
    exact ⟨retB (by simp [hO]), hF.out⟩
   ·go_enter Tryz.func31, Tryz.ntmps31
    go_wp2_with fail
    refine (H1.out _ HS.out.at_.op HC.out).mono ?_
    rintro e w1 ⟨rfl, h1⟩
    have A1 := Lib.hid (HS.out.below h1)
    have C1 := Lib.hid (HC.out.below h1)
    clear c0 c1 c2 c3 c4 c5 hcell HS HC h1 H1
    obtain ⟨c0, c1, c2, c3, c4, c5⟩ := A1.out.cells
    have hcell := C1.out.1
    dsimp only at *
    go_wp2_with fail
    refine (HSO.out _ A1.out.at_.us).mono ?_
    rintro e w2 ⟨x2, q2, rfl, -, -, h2⟩
    have A2 := Lib.hid (A1.out.below h2)
    have C2 := Lib.hid (C1.out.below h2)
    clear c0 c1 c2 c3 c4 c5 hcell A1 C1 h2 HSO
    obtain ⟨c0, c1, c2, c3, c4, c5⟩ := A2.out.cells
    dsimp only at *
    go_wp2_with fail
    refine (H2.out _ A2.out.at_.su C2.out).mono ?_
    rintro e w3 ⟨rfl, h3⟩
    have A3 := Lib.hid (A2.out.below h3)
    have C3 := Lib.hid (C2.out.below h3)
    clear c0 c1 c2 c3 c4 c5 A2 C2 h3 H2
    obtain ⟨c0, c1, c2, c3, c4, c5⟩ := A3.out.cells
    dsimp only at *
    have hF := Lib.hid A3.out.frame
    go_wp2
    go_ret
    exact ⟨retB (by simp [hO]), hF.out⟩
 ·go_enter Tryz.func31, Tryz.ntmps31
  go_wp2_with fail
  refine (H1.out _ HS.out.at_.op HC.out).mono ?_
  rintro e w1 ⟨rfl, h1⟩
  have hF := Lib.hid (HS.out.frame.trans (h1.mono HS.out.frame.size))
  go_wp2
  go_ret
  exact ⟨retB (by simp), hF.out⟩
structure AddK (w : World) (g : Nat) (x : SaL) (st : StM) (W : World) : Prop where
 s : SB w g 27 x W
 t : RB w (g + 1) #[.int .i64 st.f, .int .i64 st.t, .int .i64 st.n, .int .i64 st.s] 135 W
 z : SB w (g + 2) 27 saO W
theorem AddK.below {w W W' : World} {g : Nat} {x : SaL} {st : StM} (h : AddK w g x st W) (q : Below W.heap.size W W') : AddK w g x st W' := ⟨h.s.below q, h.t.below q, h.z.below q⟩
theorem AddK.new {w : World} {x : SaL} (h : SaAt w x) (st : StM) : AddK w w.heap.size x st (((w.alloc (.cells (saC x) 27)).alloc (.cells #[.int .i64 st.f, .int .i64 st.t, .int .i64 st.n, .int .i64 st.s] 135)).alloc (.cells #[.int .i64 0, .int .i64 0, .slice none 0 0, .slice none 0 0, .slice none 0 0, .slice none 0 0] 27)) := by
 have S0 := SB.new (Below.refl w.heap.size w) h 27
 have hb := below_one (w.alloc (.cells (saC x) 27)) (.cells #[.int .i64 st.f, .int .i64 st.t, .int .i64 st.n, .int .i64 st.s] 135)
 have S1 := S0.below hb
 have R1 := RB.new w (w.alloc (.cells (saC x) 27)) #[.int .i64 st.f, .int .i64 st.t, .int .i64 st.n, .int .i64 st.s] 135
 have Z0 := SB.new S1.frame (SaAt.zero ((w.alloc (.cells (saC x) 27)).alloc (.cells #[.int .i64 st.f, .int .i64 st.t, .int .i64 st.n, .int .i64 st.s] 135))) 27
 have hb2 := below_one ((w.alloc (.cells (saC x) 27)).alloc (.cells #[.int .i64 st.f, .int .i64 st.t, .int .i64 st.n, .int .i64 st.s] 135)) (.cells (saC saO) 27)
 rw [size1, size1] at Z0
 rw [size1] at R1
 exact ⟨S1.below hb2, R1.below hb2, Z0⟩
theorem fin_newR {w : World} {y : SaL} (h : SaAt w y) (o1 o2 : Obj) (t : TypeId) : (loadVar 27 ⟨w.heap.size + 2, 0, none⟩).run Tryz.prog (((w.alloc o1).alloc o2).alloc (.cells (saC y) t)) = .ok (saV y) (((w.alloc o1).alloc o2).alloc (.cells (saC y) t)) ∧ SaAt (((w.alloc o1).alloc o2).alloc (.cells (saC y) t)) y ∧ Below w.heap.size w (((w.alloc o1).alloc o2).alloc (.cells (saC y) t)) := by
 have h1 := below_one w o1
 have h2 := h1.trans ((below_one (w.alloc o1) o2).mono h1.size)
 have h3 := h2.trans ((below_one ((w.alloc o1).alloc o2) (.cells (saC y) t)).mono h2.size)
 have h4 := heap_alloc_new ((w.alloc o1).alloc o2) (.cells (saC y) t)
 rw [size1, size1] at h4
 exact ⟨loadR6 h4, h.below h3, h3⟩
theorem few_us {x : SaL} {n : Nat} (hf : Few x.m n) : x.us.length ≤ n := by have := hf.us; unfold SaL.m at this; simp only at this; rwa [umS_len] at this
set_option maxHeartbeats 1000000 in
theorem radd_any (x : SaL) (u : ByteArray) (st : StM) (w : World) (h : SaAt w x) (hf : Few x.m 450) (hk : RiseK UsM.u (umS x.us)) (hu : u.size ≤ maxLen) (hs : ∀ y ∈ x.us, y.u.size ≤ maxLen) :
  Calls Tryz.prog 78 #[saV x, .string u, stV st] w (Is w { x.m with us := addU x.m.us u st }) := by
 have K0 := AddK.new h st
 have hun := few_us hf
 have hol : (ofU x.m.us u).length ≤ 450 := ofU_few hf u
 have HOF := Lib.hid (fun V (h : SaAt V x) => rof_any x u V h (by omega))
 have HAD := Lib.hid (fun a c V (h : StSl V a (ofU x.m.us u)) (k : Cp a (ofU x.m.us u).length c) => refAdd_more a c (ofU x.m.us u) st V h k.nil (by omega) k.le k.mx)
 have HPU := Lib.hid (fun a c (l : List StM) V (h : UsSl V x.ua x.us) (k : UsAt V ⟨u, a, l, c⟩) => rput_any x.ua x.uc x.us u a c l V h k hk (by omega) hu hs)
 have HA : Hid (st.f < st.t → addU x.m.us u st = putU x.m.us u (addS (ofU x.m.us u) st)) := fun h => if_pos h
 have HN : Hid (¬ st.f < st.t → x.m = { x.m with us := addU x.m.us u st }) := fun h => by unfold addU; rw [if_neg h]
 have HM : Hid (x.m.us = umS x.us) := rfl
 have HSC : Hid (∀ V, AddK w w.heap.size x st V → V.cell? ⟨w.heap.size, 0, none⟩ = some (.int .i64 x.now) ∧ V.cell? ⟨w.heap.size, 1, none⟩ = some (.int .i64 x.hor) ∧ V.cell? ⟨w.heap.size, 2, none⟩ = some (.slice x.oa x.op.length x.oc) ∧ V.cell? ⟨w.heap.size, 3, none⟩ = some (.slice x.ua x.us.length x.uc) ∧ V.cell? ⟨w.heap.size, 4, none⟩ = some (.slice x.sa x.su.length x.sc) ∧ V.cell? ⟨w.heap.size, 5, none⟩ = some (.slice x.ta x.tb.length x.tc) ∧ V.cell? ⟨w.heap.size + 1, 0, none⟩ = some (.int .i64 st.f) ∧ V.cell? ⟨w.heap.size + 1, 1, none⟩ = some (.int .i64 st.t) ∧ V.cell? ⟨w.heap.size + 1, 2, none⟩ = some (.int .i64 st.n) ∧ V.cell? ⟨w.heap.size + 1, 3, none⟩ = some (.int .i64 st.s)) := fun V h => by
  obtain ⟨c0, c1, c2, c3, c4, c5⟩ := h.s.cells
  exact ⟨c0, c1, c2, c3, c4, c5, (h.t.cell 0).trans rfl, (h.t.cell 1).trans rfl, (h.t.cell 2).trans rfl, (h.t.cell 3).trans rfl⟩
 obtain ⟨c0, c1, c2, c3, c4, c5, s0, s1, s2, s3⟩ := HSC.out _ K0
 have HST : Hid (∀ V, RB w (w.heap.size + 1) #[.int .i64 st.f, .int .i64 st.t, .int .i64 st.n, .int .i64 st.s] 135 V → V.cell? ⟨w.heap.size + 1, 0, none⟩ = some (.int .i64 st.f) ∧ V.cell? ⟨w.heap.size + 1, 1, none⟩ = some (.int .i64 st.t) ∧ V.cell? ⟨w.heap.size + 1, 2, none⟩ = some (.int .i64 st.n) ∧ V.cell? ⟨w.heap.size + 1, 3, none⟩ = some (.int .i64 st.s)) := fun V h => ⟨(h.cell 0).trans rfl, (h.cell 1).trans rfl, (h.cell 2).trans rfl, (h.cell 3).trans rfl⟩
 have HK := Lib.hid K0
 have h0 := h
 clear h hf hk hs
 by_cases hlt : st.f < st.t
 ·have HE := Lib.hid (HA.out hlt)
  clear h0
  have K1 := K0.below (Below.refl _ _).drew
  clear HA HN K0 c0 c1 c2 c3 c4 c5 s0 s1 s2 s3
  obtain ⟨c0, c1, c2, c3, c4, c5, s0, s1, s2, s3⟩ := HSC.out _ HK.out
  obtain ⟨n0, n1, n2, n3, n4, n5, r0, r1, r2, r3⟩ := HSC.out _ K1
  generalize hO : ofU x.m.us u = o at *
  obtain ⟨now, hor, oa, op, oc, ua, us, uc, sa, su, sc, ta, tb, tc⟩ := x
  unfold saV saC stV at *
  dsimp only at *
  clear hol hO
  go_enter Tryz.func78, Tryz.ntmps78
  go_wp2_with fail
  go_region_law (first | (have hseen := K3; clear hseen; go_simp; go_at_call 52; refine (HPU.out x3 q3 _ _ K3.s.at_.us ⟨z3, d3.le, d3.max, d3.nil⟩).mono ?_; rintro e w4 ⟨x4, q4, L, rfl, l4, p4, m4, h4⟩; have K4 := K3.below h4; obtain ⟨c0, c1, c2, c3, c4, c5⟩ := K4.s.cells; obtain ⟨g0, g1, g2, g3, g4, g5⟩ := K4.s.free; have hgl := K4.s.lt) | (have hseen := K2; clear hseen; go_simp; go_at_call 94; refine (HAD.out x2 q2 _ z2 p2).mono ?_; rintro e w3 ⟨x3, q3, rfl, z3, h3, d3⟩; have K3 := K2.below h3; obtain ⟨c0, c1, c2, c3, c4, c5, s0, s1, s2, s3⟩ := HSC.out _ K3) | (have hseen := K1; clear hseen; go_simp; go_at_call 92; refine (HOF.out _ K1.s.at_).mono ?_; rintro e w2 ⟨x2, q2, rfl, z2, p2, h2⟩; have K2 := K1.below h2; obtain ⟨c0, c1, c2, c3, c4, c5, s0, s1, s2, s3⟩ := HSC.out _ K2))
  all_goals
   have A2 := K4.s.setUs rfl l4 p4
   have B2 := K4.z.far K4.s (by omega) 3 (.slice x4 L.length q4)
   have hfin := A2.finR B2
   obtain ⟨d0, d1, d2, d3, d4, d5⟩ := A2.cells
   obtain ⟨z0, z1, z2, z3, z4, z5⟩ := B2.cells
   obtain ⟨y0, y1, y2, y3, y4, y5⟩ := B2.free
   have hzl := B2.lt
   have HL := Lib.hid hfin.1
   have HFN := Lib.hid (And.intro hfin.2.1 (And.intro (show SaL.m ⟨now, hor, oa, op, oc, x4, L, q4, sa, su, sc, ta, tb, tc⟩ = { SaL.m ⟨now, hor, oa, op, oc, ua, us, uc, sa, su, sc, ta, tb, tc⟩ with us := addU (SaL.m ⟨now, hor, oa, op, oc, ua, us, uc, sa, su, sc, ta, tb, tc⟩).us u st } by rw [HE.out]; unfold SaL.m; simp only; rw [m4]; rfl) hfin.2.2))
   unfold setS saV saC at HL
   unfold saO at z0 z1 z2 z3 z4 z5
   dsimp only at *
   clear A2 B2 hfin K1 K2 K3 K4 l4 p4 m4 h4 HPU HAD HOF HSC HST
   go_wp2
   refine bodyPost_ret (v := saV ⟨now, hor, oa, op, oc, x4, L, q4, sa, su, sc, ta, tb, tc⟩) ?_ rfl ⟨_, rfl, HFN.out⟩
   rw [results_cell1 rfl]
   unfold saV saC
   simp [asAddr, Result.andThen, HL.out]
 ·have HE := Lib.hid (HN.out hlt)
  have HFN := Lib.hid (fun o1 o2 => fin_newR h0 o1 o2 27)
  clear HA HN HOF HAD HPU h0
  obtain ⟨z0, z1, z2, z3, z4, z5⟩ := K0.z.cells
  obtain ⟨y0, y1, y2, y3, y4, y5⟩ := K0.z.free
  have hzl := K0.z.lt
  obtain ⟨now, hor, oa, op, oc, ua, us, uc, sa, su, sc, ta, tb, tc⟩ := x
  unfold saV saC stV at *
  unfold saO at z0 z1 z2 z3 z4 z5
  dsimp only at *
  clear K0 HSC HST HK hol HM
  go_enter Tryz.func78, Tryz.ntmps78
  go_wp2
  refine bodyPost_ret (v := saV ⟨now, hor, oa, op, oc, ua, us, uc, sa, su, sc, ta, tb, tc⟩) ?_ rfl ⟨_, rfl, (HFN.out _ _).2.1, HE.out, (HFN.out _ _).2.2⟩
  rw [results_cell1 rfl]
  unfold saV saC
  simp [asAddr, Result.andThen, (HFN.out _ _).1]
def latS (op : List OpM) (now n : Int) : Int := if h : op.findIdx (hasN n) < op.length then op[op.findIdx (hasN n)].f else now
def v4 (a b c d : Int) (i : Nat) : Int := if i = 0 then a else if i = 1 then b else if i = 2 then c else d
theorem arr_v4 (a b c d : Int) : arr4 (v4 a b c d) = #[.int .i64 a, .int .i64 b, .int .i64 c, .int .i64 d] := rfl
def stayB (s : SaM) (x : StM) : Bool := wiB (v4 x.f x.t x.n x.s) (v4 0 0 1 1) (v4 s.now (latS s.op s.now x.n) 999 4)
def staysB (s : SaM) (l : List StM) : Bool := decide (0 < l.length) && (decide (RiseS l) && l.all (stayB s))
def timesB (s : SaM) (e : EnM) : Bool := decide (0 ≤ e.f) && (decide (e.f ≤ s.now) && (decide (e.t ≤ s.now) || (e.t == 1099511627776)))
def tombB (s : SaM) (x : TbM) : Bool := decide (0 ≤ x.a) && decide (x.a ≤ s.now)
def fromB (s : SaM) (e : OpM) : Bool := decide (e.f ≤ s.now)
set_option maxHeartbeats 2000000 in
theorem latest_any (x : SaL) (n : Int) (w : World) (h : SaAt w x) (hl : x.op.length ≤ 100000) :
  Calls Tryz.prog 134 #[saV x, .int .i64 n] w fun e w' => e = .returned (.int .i64 (latS x.op x.now n)) ∧ Below w.heap.size w w' := by
 obtain ⟨now, hor, oa, op, oc, ua, us, uc, sa, su, sc, ta, tb, tc⟩ := x
 have S0 := SB.new (Below.refl w.heap.size w) h 38
 have hb := below_one (w.alloc (.cells (saC ⟨now, hor, oa, op, oc, ua, us, uc, sa, su, sc, ta, tb, tc⟩) 38)) (.cells #[.int .i64 n] 3)
 have S1 := S0.below hb
 have hcap : CapO ((w.alloc (.cells (saC ⟨now, hor, oa, op, oc, ua, us, uc, sa, su, sc, ta, tb, tc⟩) 38)).alloc (.cells #[.int .i64 n] 3)) (w.heap.size + 1) (.int .i64 n) := ⟨by have := cell_of_row ((w.alloc (.cells (saC ⟨now, hor, oa, op, oc, ua, us, uc, sa, su, sc, ta, tb, tc⟩) 38)).alloc (.cells #[.int .i64 n] 3)) (w.alloc (.cells (saC ⟨now, hor, oa, op, oc, ua, us, uc, sa, su, sc, ta, tb, tc⟩) 38)).heap.size 0 _ _ (0, 0) (heap_alloc_new _ _); rw [size1] at this; exact this, by rw [size1, size1]; omega⟩
 have HF := Lib.hid (find_op oa oc op 182 (w.heap.size + 1) (hasN n) (fun V => CapO V (w.heap.size + 1) (.int .i64 n)) _ S1.at_.op hcap (by exact Nat.le_trans hl (by decide)) (call_known Tryz.func182 rfl) (fun W W' h q => h.below q) (fun y hy V h => c_latest y n (w.heap.size + 1) V h))
 have HS := Lib.hid S1
 have hle : op.findIdx (hasN n) ≤ op.length := List.findIdx_le_length
 have HE : Hid (latS op now n = if h : op.findIdx (hasN n) < op.length then op[op.findIdx (hasN n)].f else now) := rfl
 obtain ⟨c0, c1, c2, c3, c4, c5⟩ := S1.cells
 unfold saV saC at *
 dsimp only at *
 clear h S0 S1 hb hcap
 generalize op.findIdx (hasN n) = k at *
 by_cases hk : k < op.length
 ·have HE2 : Hid (latS op now n = op[k].f) := by have := HE.out; rwa [dif_pos hk] at this
  have d1 : ((k : Int) == (op.length : Int)) = false := by rw [beq_eq_false_iff_ne]; omega
  clear HE
  go_enter Tryz.func134, Tryz.ntmps134
  go_wp2_with fail
  refine HF.out.mono ?_
  rintro e w2 ⟨rfl, hB⟩
  have S2 := HS.out.below hB
  clear c0 c1 c2 c3 c4 c5
  obtain ⟨b, off, rfl, hbl, hc0, hc1, hc2, hc3⟩ := S2.at_.op.at_ hk
  obtain ⟨c0, c1, c2, c3, c4, c5⟩ := S2.cells
  have HB := Lib.hid S2.frame
  clear S2 hB HS HF
  dsimp only at *
  go_wp2
  go_ret
  exact ⟨by rw [HE2.out]; rfl, HB.out⟩
 ·have HE2 : Hid (latS op now n = now) := by have := HE.out; rwa [dif_neg hk] at this
  have d1 : ((k : Int) == (op.length : Int)) = true := by rw [beq_iff_eq]; omega
  clear HE
  go_enter Tryz.func134, Tryz.ntmps134
  go_wp2_with fail
  refine HF.out.mono ?_
  rintro e w2 ⟨rfl, hB⟩
  have S2 := HS.out.below hB
  clear c0 c1 c2 c3 c4 c5
  obtain ⟨c0, c1, c2, c3, c4, c5⟩ := S2.cells
  have HB := Lib.hid S2.frame
  clear S2 hB HS HF
  dsimp only at *
  go_wp2
  go_ret
  exact ⟨by rw [HE2.out]; rfl, HB.out⟩
set_option maxHeartbeats 1000000 in
theorem c_right1 (y : OpM) (x : SaL) (w0 : World) (g : Nat) (W : World) (h : SB w0 g 38 x W) :
  Calls Tryz.prog 61 #[.agg #[.int .i64 y.n, .string y.u, .int .i64 y.s, .int .i64 y.f], .pointer (some ⟨g, 0, none⟩)] W fun r w' => r = .returned (.bool (fromB x.m y)) ∧ Below W.heap.size W w' := by
 have hb := below_one W (.cells #[.int .i64 y.n, .string y.u, .int .i64 y.s, .int .i64 y.f] 112)
 obtain ⟨c0, -⟩ := (h.below hb).cells
 have HB := Lib.hid hb
 have HE : Hid (decide (y.f ≤ x.now) = fromB x.m y) := rfl
 clear hb h
 generalize fromB x.m y = r at *
 generalize x.now = nw at *
 go_enter Tryz.func61, Tryz.ntmps61
 go_wp2
 go_ret
 exact ⟨retB HE.out, HB.out⟩
set_option maxHeartbeats 1000000 in
theorem c_right4 (y : TbM) (x : SaL) (w0 : World) (g : Nat) (W : World) (h : SB w0 g 38 x W) :
  Calls Tryz.prog 74 #[.agg #[.string y.u, .int .i64 y.a], .pointer (some ⟨g, 0, none⟩)] W fun r w' => r = .returned (.bool (tombB x.m y)) ∧ Below W.heap.size W w' := by
 have hb := below_one W (.cells #[.string y.u, .int .i64 y.a] 87)
 obtain ⟨c0, -⟩ := (h.below hb).cells
 have HB := Lib.hid hb
 have HE : Hid ((decide (0 ≤ y.a) && decide (y.a ≤ x.now)) = tombB x.m y) := rfl
 clear hb h
 generalize tombB x.m y = r at *
 generalize x.now = nw at *
 obtain ⟨yu, ya⟩ := y
 dsimp only at *
 by_cases h1 : 0 ≤ ya
 ·have d1 : decide (0 ≤ ya) = true := decide_eq_true h1
  rw [d1, Bool.true_and] at HE
  clear h1
  go_enter Tryz.func74, Tryz.ntmps74
  go_wp2
  go_ret
  exact ⟨retB HE.out, HB.out⟩
 ·have d1 : decide (0 ≤ ya) = false := decide_eq_false h1
  rw [d1, Bool.false_and] at HE
  clear h1
  go_enter Tryz.func74, Tryz.ntmps74
  go_wp2
  go_ret
  exact ⟨retB HE.out, HB.out⟩
set_option maxHeartbeats 2000000 in
theorem rightTimes_any (x : SaL) (y : EnM) (w : World) (h : SaAt w x) :
  Calls Tryz.prog 70 #[saV x, .agg #[.string y.w, .string y.u, .int .i64 y.f, .int .i64 y.t]] w fun r w' => r = .returned (.bool (timesB x.m y)) ∧ Below w.heap.size w w' := by
 have S0 := SB.new (Below.refl w.heap.size w) h 38
 have hb := below_one (w.alloc (.cells (saC x) 38)) (.cells #[.string y.w, .string y.u, .int .i64 y.f, .int .i64 y.t] 123)
 have S1 := S0.below hb
 obtain ⟨c0, -⟩ := S1.cells
 have HB := Lib.hid S1.frame
 have HE : Hid ((decide (0 ≤ y.f) && (decide (y.f ≤ x.now) && (decide (y.t ≤ x.now) || (y.t == 1099511627776)))) = timesB x.m y) := rfl
 unfold saV saC at *
 clear h S0 S1 hb
 generalize timesB x.m y = r at *
 generalize x.now = nw at *
 obtain ⟨yw, yu, yf, yt⟩ := y
 dsimp only at *
 by_cases h1 : 0 ≤ yf
 ·have d1 : decide (0 ≤ yf) = true := decide_eq_true h1
  rw [d1, Bool.true_and] at HE
  by_cases h2 : yf ≤ nw
  ·have d2 : decide (yf ≤ nw) = true := decide_eq_true h2
   rw [d2, Bool.true_and] at HE
   by_cases h3 : yt ≤ nw
   ·have d3 : decide (yt ≤ nw) = true := decide_eq_true h3
    rw [d3, Bool.true_or] at HE
    clear h1 h2 h3
    go_enter Tryz.func70, Tryz.ntmps70
    go_wp2
    go_ret
    exact ⟨retB HE.out, HB.out⟩
   ·have d3 : decide (yt ≤ nw) = false := decide_eq_false h3
    rw [d3, Bool.false_or] at HE
    clear h1 h2 h3
    go_enter Tryz.func70, Tryz.ntmps70
    go_wp2
    go_ret
    exact ⟨retB HE.out, HB.out⟩
  ·have d2 : decide (yf ≤ nw) = false := decide_eq_false h2
   rw [d2, Bool.false_and] at HE
   clear h1 h2
   go_enter Tryz.func70, Tryz.ntmps70
   go_wp2
   go_ret
   exact ⟨retB HE.out, HB.out⟩
 ·have d1 : decide (0 ≤ yf) = false := decide_eq_false h1
  rw [d1, Bool.false_and] at HE
  clear h1
  go_enter Tryz.func70, Tryz.ntmps70
  go_wp2
  go_ret
  exact ⟨retB HE.out, HB.out⟩
set_option maxHeartbeats 1000000 in
theorem c_right3 (y : EnM) (x : SaL) (w0 : World) (g : Nat) (W : World) (h : SB w0 g 38 x W) :
  Calls Tryz.prog 69 #[.agg #[.string y.w, .string y.u, .int .i64 y.f, .int .i64 y.t], .pointer (some ⟨g, 0, none⟩)] W fun r w' => r = .returned (.bool (timesB x.m y)) ∧ Below W.heap.size W w' := by
 have hb := below_one W (.cells #[.string y.w, .string y.u, .int .i64 y.f, .int .i64 y.t] 123)
 have S1 := h.below hb
 obtain ⟨c0, c1, c2, c3, c4, c5⟩ := S1.cells
 have HC := Lib.hid (fun V h => rightTimes_any x y V h)
 have HS := Lib.hid S1
 have HB := Lib.hid hb
 unfold saV saC at HC
 clear h S1 hb
 go_enter Tryz.func69, Tryz.ntmps69
 go_wp2_with fail
 refine (HC.out _ HS.out.at_).mono ?_
 rintro r w2 ⟨rfl, hB⟩
 go_wp2
 go_ret
 exact ⟨rfl, HB.out.trans (hB.mono HB.out.size)⟩
end Go.Proofs.YtjhdhfokhkcamaaGreat
