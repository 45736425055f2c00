/- Texts of mine, one behind the other, of each what is wanted. -/
import Derived.Test.YtapacckmgmdnoaaGreatR00
import Derived.Test.YtapacckmgmdnoaaGreatR01
import Derived.Test.YtapacckmgmdnoaaGreatR03
import Derived.Test.YtapacckmgmdnoaaGreatR04
namespace Go.Proofs.YtapacckmgmdnoaaGreat
open Go.RowKit
set_option linter.unusedVariables false
set_option maxRecDepth 100000
set_option maxRecDepth 100000
theorem txt_eq (a : ByteArray) : (a.toList == a.toList) = true := beq_self_eq_true _
theorem txt_ne {a b : ByteArray} (h : ¬ a = b) : (a.toList == b.toList) = false := by
 rw [beq_eq_false_iff_ne]
 intro e
 rw [ByteArray.toList_eq, ByteArray.toList_eq] at e
 exact h (toL_inj e)
theorem txt_nt {a b : ByteArray} (h : ¬ a = b) : (a.toList != b.toList) = true := by
 unfold bne
 rw [txt_ne h]
 rfl
theorem txt_ns (a : ByteArray) : (a.toList != a.toList) = false := by
 unfold bne
 rw [txt_eq]
 rfl
def CapO (W : World) (g : Nat) (v : Value) : Prop := W.cell? ⟨g, 0, none⟩ = some v ∧ g < W.heap.size
theorem CapO.below {W W' : World} {g : Nat} {v : Value} (h : CapO W g v) (q : Below W.heap.size W W') : CapO W' g v :=
 ⟨(q.cell (p := ⟨g, 0, none⟩) h.2).trans h.1, Nat.lt_of_lt_of_le h.2 q.size⟩
set_option maxHeartbeats 1000000 in
theorem hasc_any (x : OpM) (n : Int) (g : Nat) (W : World) (h : CapO W g (.int .i64 n)) :
  Calls Tryz.prog 225 #[opV x, .pointer (some ⟨g, 0, none⟩)] W fun r w' => r = .returned (.bool (hasN n x)) ∧ Below W.heap.size W w' := by
 have hb := below_one W (.cells #[.int .i64 x.n, .string x.u, .int .i64 x.s, .int .i64 x.f] 184)
 obtain ⟨c0, hg⟩ := h.below hb
 have HB := Lib.hid hb
 have HE : Hid ((x.n == n) = hasN n x) := rfl
 unfold opV
 clear hb hg h
 generalize hasN n x = r at *
 go_enter Tryz.func225, Tryz.ntmps225
 go_wp2
 go_ret
 exact ⟨retB HE.out, HB.out⟩
set_option maxHeartbeats 1000000 in
theorem abvc_any (x : OpM) (n : Int) (g : Nat) (W : World) (h : CapO W g (.int .i64 n)) :
  Calls Tryz.prog 227 #[opV x, .pointer (some ⟨g, 0, none⟩)] W fun r w' => r = .returned (.bool (abvN n x)) ∧ Below W.heap.size W w' := by
 have hb := below_one W (.cells #[.int .i64 x.n, .string x.u, .int .i64 x.s, .int .i64 x.f] 184)
 obtain ⟨c0, hg⟩ := h.below hb
 have HB := Lib.hid hb
 have HE : Hid ((decide (n < x.n)) = abvN n x) := rfl
 unfold opV
 clear hb hg h
 generalize abvN n x = r at *
 go_enter Tryz.func227, Tryz.ntmps227
 go_wp2
 go_ret
 exact ⟨retB HE.out, HB.out⟩
set_option maxHeartbeats 2000000 in
theorem idxh_any (a : Option Addr) (c : Nat) (l : List OpM) (n : Int) (g : Nat) (W : World) (hr : OpSl W a l) (h : CapO W g (.int .i64 n)) (hl : l.length ≤ 1000000) :
  Calls Tryz.prog 226 #[.slice a l.length c, .func (.func 225) #[] #[.pointer (some ⟨g, 0, none⟩)]] W fun r w' => r = .returned (.int .i64 (idxO (hasN n) l)) ∧ Below W.heap.size W w' := by
 have HR := Lib.hid hr
 have HP := Lib.hid h
 have HC := Lib.hid (fun e V k => hasc_any e n g V k)
 unfold opV at HC
 clear hr h
 go_enter Tryz.func226, Tryz.ntmps226
 go_wp2
 go_loopw [8] (fun i wr => ∃ (j : Nat), j ≤ l.length ∧ i = .int .i64 j ∧ Hid (LoTo (hasN n) l j) ∧ Hid (Below W.heap.size W wr)) (fun i _ => l.length - (intOf i).toNat)
 case atStart => exact ⟨0, by omega, rfl, LoTo.zero _ _, Below.refl _ _⟩
 case round =>
  obtain ⟨j, hj, rfl, HO, HB⟩ := hrel
  by_cases hjl : j < l.length
  ·obtain ⟨b, off, rfl, hbl, hc0, hc1, hc2, hc3⟩ := (HR.out.below HB.out).at_ hjl
   have HPW := Lib.hid (HP.out.below HB.out)
   have HNX := Lib.hid (HO.out.next hjl)
   have HHT := Lib.hid (HO.out.hit hjl)
   generalize l[j] = x at *
   cases hb : hasN n x with
   | false =>
    have HN := Lib.hid (HNX.out hb)
    have HCC := Lib.hid (HC.out x wr HPW.out)
    rw [hb] at HCC
    clear HNX HHT hb HC
    go_wp2_with fail
    refine HCC.out.mono ?_
    rintro r w2 ⟨rfl, hB⟩
    go_wp2
    go_roundw
    case rel => exact ⟨j + 1, by omega, by go_num, HN, HB.out.trans (hB.mono HB.out.size)⟩
    case measure => simp [intOf]; omega
   | true =>
    have HN := Lib.hid (idxO_hit (HHT.out hb) hjl)
    have HCC := Lib.hid (HC.out x wr HPW.out)
    rw [hb] at HCC
    clear HNX HHT hb HC
    go_wp2_with fail
    refine HCC.out.mono ?_
    rintro r w2 ⟨rfl, hB⟩
    go_wp2
    go_ret
    exact ⟨by rw [HN.out]; rfl, HB.out.trans (hB.mono HB.out.size)⟩
  ·obtain rfl : j = l.length := by omega
   have HE := Lib.hid (idxO_miss HO.out.miss)
   go_wp2
   go_ret
   exact ⟨by rw [HE.out]; rfl, HB.out⟩
set_option maxHeartbeats 2000000 in
theorem idxa_any (a : Option Addr) (c : Nat) (l : List OpM) (n : Int) (g : Nat) (W : World) (hr : OpSl W a l) (h : CapO W g (.int .i64 n)) (hl : l.length ≤ 1000000) :
  Calls Tryz.prog 226 #[.slice a l.length c, .func (.func 227) #[] #[.pointer (some ⟨g, 0, none⟩)]] W fun r w' => r = .returned (.int .i64 (idxO (abvN n) l)) ∧ Below W.heap.size W w' := by
 have HR := Lib.hid hr
 have HP := Lib.hid h
 have HC := Lib.hid (fun e V k => abvc_any e n g V k)
 unfold opV at HC
 clear hr h
 go_enter Tryz.func226, Tryz.ntmps226
 go_wp2
 go_loopw [8] (fun i wr => ∃ (j : Nat), j ≤ l.length ∧ i = .int .i64 j ∧ Hid (LoTo (abvN n) l j) ∧ Hid (Below W.heap.size W wr)) (fun i _ => l.length - (intOf i).toNat)
 case atStart => exact ⟨0, by omega, rfl, LoTo.zero _ _, Below.refl _ _⟩
 case round =>
  obtain ⟨j, hj, rfl, HO, HB⟩ := hrel
  by_cases hjl : j < l.length
  ·obtain ⟨b, off, rfl, hbl, hc0, hc1, hc2, hc3⟩ := (HR.out.below HB.out).at_ hjl
   have HPW := Lib.hid (HP.out.below HB.out)
   have HNX := Lib.hid (HO.out.next hjl)
   have HHT := Lib.hid (HO.out.hit hjl)
   generalize l[j] = x at *
   cases hb : abvN n x with
   | false =>
    have HN := Lib.hid (HNX.out hb)
    have HCC := Lib.hid (HC.out x wr HPW.out)
    rw [hb] at HCC
    clear HNX HHT hb HC
    go_wp2_with fail
    refine HCC.out.mono ?_
    rintro r w2 ⟨rfl, hB⟩
    go_wp2
    go_roundw
    case rel => exact ⟨j + 1, by omega, by go_num, HN, HB.out.trans (hB.mono HB.out.size)⟩
    case measure => simp [intOf]; omega
   | true =>
    have HN := Lib.hid (idxO_hit (HHT.out hb) hjl)
    have HCC := Lib.hid (HC.out x wr HPW.out)
    rw [hb] at HCC
    clear HNX HHT hb HC
    go_wp2_with fail
    refine HCC.out.mono ?_
    rintro r w2 ⟨rfl, hB⟩
    go_wp2
    go_ret
    exact ⟨by rw [HN.out]; rfl, HB.out.trans (hB.mono HB.out.size)⟩
  ·obtain rfl : j = l.length := by omega
   have HE := Lib.hid (idxO_miss HO.out.miss)
   go_wp2
   go_ret
   exact ⟨by rw [HE.out]; rfl, HB.out⟩
set_option maxHeartbeats 1000000 in
theorem conth_any (a : Option Addr) (c : Nat) (l : List OpM) (n : Int) (g : Nat) (W : World) (hr : OpSl W a l) (h : CapO W g (.int .i64 n)) (hl : l.length ≤ 1000000) :
  Calls Tryz.prog 224 #[.slice a l.length c, .func (.func 225) #[] #[.pointer (some ⟨g, 0, none⟩)]] W fun r w' => r = .returned (.bool (l.any (hasN n))) ∧ Below W.heap.size W w' := by
 have HC := Lib.hid (idxh_any a c l n g W hr h hl)
 have HE := Lib.hid (idxO_any (hasN n) l)
 clear hr h
 generalize idxO (hasN n) l = i at *
 go_enter Tryz.func224, Tryz.ntmps224
 go_wp2_with fail
 refine HC.out.mono ?_
 rintro r w2 ⟨rfl, hB⟩
 go_wp2
 go_ret
 exact ⟨by rw [← HE.out]; rfl, hB⟩
end Go.Proofs.YtapacckmgmdnoaaGreat
