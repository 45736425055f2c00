/- Texts of mine, one behind the other, of each what is wanted. -/
import Derived.Test.YtjhdhfokhkcamaaGreatS00
import Derived.Test.YtjhdhfokhkcamaaGreatS02
import Derived.Test.YtjhdhfokhkcamaaGreatS03
import Derived.Test.YtjhdhfokhkcamaaGreatS04
import Derived.Test.YtjhdhfokhkcamaaGreatS06
import Derived.Test.YtjhdhfokhkcamaaGreatS07
import Derived.Test.YtjhdhfokhkcamaaGreatS08
import Derived.Test.YtjhdhfokhkcamaaGreatS09
namespace Go.Proofs.YtjhdhfokhkcamaaGreat
open Go.RowKit
set_option linter.unusedVariables false
set_option maxRecDepth 100000
def LowK {α : Type} (p : α → Bool) (l : List α) (j : Nat) : Prop := ∀ i (h : i < l.length), i < j → p l[i] = false
theorem LowK.zero {α : Type} (p : α → Bool) (l : List α) : LowK p l 0 := fun i h hj => absurd hj (by omega)
theorem LowK.next {α : Type} {p : α → Bool} {l : List α} {j : Nat} (h : LowK p l j) (hj : j < l.length) (hp : p l[j] = false) : LowK p l (j + 1) := fun i hi hij => by
 rcases Nat.lt_or_ge i j with h1 | h1
 ·exact h i hi h1
 ·obtain rfl : i = j := by omega
  exact hp
theorem LowK.hit {α : Type} {p : α → Bool} {l : List α} {j : Nat} (h : LowK p l j) (hj : j < l.length) (hp : p l[j] = true) : l.findIdx p = j :=
 (List.findIdx_eq hj).2 ⟨hp, fun i hi => h i (by omega) hi⟩
theorem LowK.miss {α : Type} {p : α → Bool} {l : List α} (h : LowK p l l.length) : l.findIdx p = l.length :=
 List.findIdx_eq_length.2 fun x hx => by
  obtain ⟨i, hi, rfl⟩ := List.getElem_of_mem hx
  exact h i hi hi
theorem call_known {P : Program} {N : FuncId} {fn : Func} (h : P.funcs[N]? = some fn) (hb : (fn.body.isSome && fn.name != "runtime.NumGoroutine") = true) (args : Array Value) (V : World) : Sem.run P (callFunc N args) V = .ok (.enter N args) V := by
 rw [Bool.and_eq_true, Option.isSome_iff_exists] at hb
 obtain ⟨⟨b, h1⟩, h2⟩ := hb
 have h3 : ¬ fn.name = "runtime.NumGoroutine" := by simpa using h2
 unfold callFunc
 simp [Sem.run_bind, h, h1, h3, Result.andThen]
theorem kidx_any {α : Type} (p : α → Bool) (l : List α) : decide (l.findIdx p < l.length) = l.any p := by
 rw [Bool.eq_iff_iff, decide_eq_true_iff, List.any_eq_true]
 have := List.findIdx_lt_length (xs := l) (p := p)
 constructor
 ·intro h; exact this.1 h
 ·intro h; exact this.2 h
set_option maxHeartbeats 4000000 in
theorem find_us (a : Option Addr) (c : Nat) (l : List UsL) (N g : Nat) (p : UsL → Bool) (Inv : World → Prop) (W : World) (hr : UsSl W a l) (hi : Inv W) (hl : l.length ≤ 1000000) (hF : ∀ args V, Sem.run Tryz.prog (callFunc N args) V = .ok (.enter N args) V)
  (hv : ∀ W W', Inv W → Below W.heap.size W W' → Inv W') (hN : ∀ x ∈ l, ∀ V, UsAt V x → Inv V → Calls Tryz.prog N #[.agg #[.string x.u, .slice x.a x.l.length x.c], .pointer (some ⟨g, 0, none⟩)] V fun r w' => r = .returned (.bool (p x)) ∧ Below V.heap.size V w') :
  Calls Tryz.prog 146 #[.slice a l.length c, .func (.func N) #[] #[.pointer (some ⟨g, 0, none⟩)]] W fun r w' => r = .returned (.int .i64 (l.findIdx p : Nat)) ∧ Below W.heap.size W w' := by
 have HR := Lib.hid hr
 have HI := Lib.hid hi
 have HV := Lib.hid hv
 have HC := Lib.hid hN
 clear hr hi hv hN
 go_enter Tryz.func146, Tryz.ntmps146
 go_wp2
 go_loopw [9] (fun i wr => ∃ (j : Nat), j ≤ l.length ∧ i = .int .i64 j ∧ Hid (LowK p l j) ∧ Hid (Below W.heap.size W wr)) (fun i _ => l.length - (intOf i).toNat)
 case atStart => exact ⟨0, by omega, rfl, LowK.zero _ _, Below.refl _ _⟩
 case round =>
  obtain ⟨j, hj, rfl, HO, HB⟩ := hrel
  by_cases hjl : j < l.length
  ·obtain ⟨b, off, rfl, hbl, hc0, hc1, hua⟩ := (HR.out.below HB.out).get hjl
   have hb1 := below_one wr (.cells #[.string l[j].u, .slice l[j].a l[j].l.length l[j].c] 89)
   have HB1 := Lib.hid (HB.out.trans (hb1.mono HB.out.size))
   have HCC := Lib.hid (HC.out l[j] (List.getElem_mem hjl) _ (hua.below hb1) (HV.out _ _ HI.out HB1.out))
   have HNX := Lib.hid (HO.out.next hjl)
   have HHT := Lib.hid (HO.out.hit hjl)
   clear hb1 HC HV HI hua
   generalize l[j] = x at *
   cases hb : p x with
   | false =>
    have HN := Lib.hid (HNX.out hb)
    rw [hb] at HCC
    clear HNX HHT hb
    go_wp2_with fail
    refine HCC.out.mono ?_
    rintro r w2 ⟨rfl, hB⟩
    go_wp2
    go_roundw
    case rel => exact ⟨j + 1, by omega, by go_num, HN, HB1.out.trans (hB.mono HB1.out.size)⟩
    case measure => simp [intOf]; omega
   | true =>
    have HN := Lib.hid (HHT.out hb)
    rw [hb] at HCC
    clear HNX HHT hb
    go_wp2_with fail
    refine HCC.out.mono ?_
    rintro r w2 ⟨rfl, hB⟩
    go_wp2
    go_ret
    exact ⟨by rw [HN.out]; rfl, HB1.out.trans (hB.mono HB1.out.size)⟩
  ·obtain rfl : j = l.length := by omega
   have HE := Lib.hid HO.out.miss
   go_wp2
   go_ret
   exact ⟨by rw [HE.out]; rfl, HB.out⟩
set_option maxHeartbeats 4000000 in
theorem find_tb (a : Option Addr) (c : Nat) (l : List TbM) (N g : Nat) (p : TbM → Bool) (Inv : World → Prop) (W : World) (hr : TbSl W a l) (hi : Inv W) (hl : l.length ≤ 1000000) (hF : ∀ args V, Sem.run Tryz.prog (callFunc N args) V = .ok (.enter N args) V)
  (hv : ∀ W W', Inv W → Below W.heap.size W W' → Inv W') (hN : ∀ x ∈ l, ∀ V, Inv V → Calls Tryz.prog N #[.agg #[.string x.u, .int .i64 x.a], .pointer (some ⟨g, 0, none⟩)] V fun r w' => r = .returned (.bool (p x)) ∧ Below V.heap.size V w') :
  Calls Tryz.prog 156 #[.slice a l.length c, .func (.func N) #[] #[.pointer (some ⟨g, 0, none⟩)]] W fun r w' => r = .returned (.int .i64 (l.findIdx p : Nat)) ∧ Below W.heap.size W w' := by
 have HR := Lib.hid hr
 have HI := Lib.hid hi
 have HV := Lib.hid hv
 have HC := Lib.hid hN
 clear hr hi hv hN
 go_enter Tryz.func156, Tryz.ntmps156
 go_wp2
 go_loopw [9] (fun i wr => ∃ (j : Nat), j ≤ l.length ∧ i = .int .i64 j ∧ Hid (LowK p l j) ∧ Hid (Below W.heap.size W wr)) (fun i _ => l.length - (intOf i).toNat)
 case atStart => exact ⟨0, by omega, rfl, LowK.zero _ _, Below.refl _ _⟩
 case round =>
  obtain ⟨j, hj, rfl, HO, HB⟩ := hrel
  by_cases hjl : j < l.length
  ·obtain ⟨b, off, rfl, hbl, hc0, hc1⟩ := (HR.out.below HB.out).get hjl
   have hb1 := below_one wr (.cells #[.string l[j].u, .int .i64 l[j].a] 87)
   have HB1 := Lib.hid (HB.out.trans (hb1.mono HB.out.size))
   have HCC := Lib.hid (HC.out l[j] (List.getElem_mem hjl) _ (HV.out _ _ HI.out HB1.out))
   have HNX := Lib.hid (HO.out.next hjl)
   have HHT := Lib.hid (HO.out.hit hjl)
   clear hb1 HC HV HI
   generalize l[j] = x at *
   cases hb : p x with
   | false =>
    have HN := Lib.hid (HNX.out hb)
    rw [hb] at HCC
    clear HNX HHT hb
    go_wp2_with fail
    refine HCC.out.mono ?_
    rintro r w2 ⟨rfl, hB⟩
    go_wp2
    go_roundw
    case rel => exact ⟨j + 1, by omega, by go_num, HN, HB1.out.trans (hB.mono HB1.out.size)⟩
    case measure => simp [intOf]; omega
   | true =>
    have HN := Lib.hid (HHT.out hb)
    rw [hb] at HCC
    clear HNX HHT hb
    go_wp2_with fail
    refine HCC.out.mono ?_
    rintro r w2 ⟨rfl, hB⟩
    go_wp2
    go_ret
    exact ⟨by rw [HN.out]; rfl, HB1.out.trans (hB.mono HB1.out.size)⟩
  ·obtain rfl : j = l.length := by omega
   have HE := Lib.hid HO.out.miss
   go_wp2
   go_ret
   exact ⟨by rw [HE.out]; rfl, HB.out⟩
set_option maxHeartbeats 4000000 in
theorem find_op (a : Option Addr) (c : Nat) (l : List OpM) (N g : Nat) (p : OpM → Bool) (Inv : World → Prop) (W : World) (hr : OpSl W a l) (hi : Inv W) (hl : l.length ≤ 1000000) (hF : ∀ args V, Sem.run Tryz.prog (callFunc N args) V = .ok (.enter N args) V)
  (hv : ∀ W W', Inv W → Below W.heap.size W W' → Inv W') (hN : ∀ x ∈ l, ∀ V, Inv V → Calls Tryz.prog N #[.agg #[.int .i64 x.n, .string x.u, .int .i64 x.s, .int .i64 x.f], .pointer (some ⟨g, 0, none⟩)] V fun r w' => r = .returned (.bool (p x)) ∧ Below V.heap.size V w') :
  Calls Tryz.prog 154 #[.slice a l.length c, .func (.func N) #[] #[.pointer (some ⟨g, 0, none⟩)]] W fun r w' => r = .returned (.int .i64 (l.findIdx p : Nat)) ∧ Below W.heap.size W w' := by
 have HR := Lib.hid hr
 have HI := Lib.hid hi
 have HV := Lib.hid hv
 have HC := Lib.hid hN
 clear hr hi hv hN
 go_enter Tryz.func154, Tryz.ntmps154
 go_wp2
 go_loopw [9] (fun i wr => ∃ (j : Nat), j ≤ l.length ∧ i = .int .i64 j ∧ Hid (LowK p l j) ∧ Hid (Below W.heap.size W wr)) (fun i _ => l.length - (intOf i).toNat)
 case atStart => exact ⟨0, by omega, rfl, LowK.zero _ _, Below.refl _ _⟩
 case round =>
  obtain ⟨j, hj, rfl, HO, HB⟩ := hrel
  by_cases hjl : j < l.length
  ·obtain ⟨b, off, rfl, hbl, hc0, hc1, hc2, hc3⟩ := (HR.out.below HB.out).at_ hjl
   have hb1 := below_one wr (.cells #[.int .i64 l[j].n, .string l[j].u, .int .i64 l[j].s, .int .i64 l[j].f] 112)
   have HB1 := Lib.hid (HB.out.trans (hb1.mono HB.out.size))
   have HCC := Lib.hid (HC.out l[j] (List.getElem_mem hjl) _ (HV.out _ _ HI.out HB1.out))
   have HNX := Lib.hid (HO.out.next hjl)
   have HHT := Lib.hid (HO.out.hit hjl)
   clear hb1 HC HV HI
   generalize l[j] = x at *
   cases hb : p x with
   | false =>
    have HN := Lib.hid (HNX.out hb)
    rw [hb] at HCC
    clear HNX HHT hb
    go_wp2_with fail
    refine HCC.out.mono ?_
    rintro r w2 ⟨rfl, hB⟩
    go_wp2
    go_roundw
    case rel => exact ⟨j + 1, by omega, by go_num, HN, HB1.out.trans (hB.mono HB1.out.size)⟩
    case measure => simp [intOf]; omega
   | true =>
    have HN := Lib.hid (HHT.out hb)
    rw [hb] at HCC
    clear HNX HHT hb
    go_wp2_with fail
    refine HCC.out.mono ?_
    rintro r w2 ⟨rfl, hB⟩
    go_wp2
    go_ret
    exact ⟨by rw [HN.out]; rfl, HB1.out.trans (hB.mono HB1.out.size)⟩
  ·obtain rfl : j = l.length := by omega
   have HE := Lib.hid HO.out.miss
   go_wp2
   go_ret
   exact ⟨by rw [HE.out]; rfl, HB.out⟩
set_option maxHeartbeats 4000000 in
theorem find_en (a : Option Addr) (c : Nat) (l : List EnM) (N g : Nat) (p : EnM → Bool) (Inv : World → Prop) (W : World) (hr : EnSl W a l) (hi : Inv W) (hl : l.length ≤ 1000000) (hF : ∀ args V, Sem.run Tryz.prog (callFunc N args) V = .ok (.enter N args) V)
  (hv : ∀ W W', Inv W → Below W.heap.size W W' → Inv W') (hN : ∀ x ∈ l, ∀ V, Inv V → Calls Tryz.prog N #[.agg #[.string x.w, .string x.u, .int .i64 x.f, .int .i64 x.t], .pointer (some ⟨g, 0, none⟩)] V fun r w' => r = .returned (.bool (p x)) ∧ Below V.heap.size V w') :
  Calls Tryz.prog 155 #[.slice a l.length c, .func (.func N) #[] #[.pointer (some ⟨g, 0, none⟩)]] W fun r w' => r = .returned (.int .i64 (l.findIdx p : Nat)) ∧ Below W.heap.size W w' := by
 have HR := Lib.hid hr
 have HI := Lib.hid hi
 have HV := Lib.hid hv
 have HC := Lib.hid hN
 clear hr hi hv hN
 go_enter Tryz.func155, Tryz.ntmps155
 go_wp2
 go_loopw [9] (fun i wr => ∃ (j : Nat), j ≤ l.length ∧ i = .int .i64 j ∧ Hid (LowK p l j) ∧ Hid (Below W.heap.size W wr)) (fun i _ => l.length - (intOf i).toNat)
 case atStart => exact ⟨0, by omega, rfl, LowK.zero _ _, Below.refl _ _⟩
 case round =>
  obtain ⟨j, hj, rfl, HO, HB⟩ := hrel
  by_cases hjl : j < l.length
  ·obtain ⟨b, off, rfl, hbl, hc0, hc1, hc2, hc3⟩ := (HR.out.below HB.out).at_ hjl
   have hb1 := below_one wr (.cells #[.string l[j].w, .string l[j].u, .int .i64 l[j].f, .int .i64 l[j].t] 123)
   have HB1 := Lib.hid (HB.out.trans (hb1.mono HB.out.size))
   have HCC := Lib.hid (HC.out l[j] (List.getElem_mem hjl) _ (HV.out _ _ HI.out HB1.out))
   have HNX := Lib.hid (HO.out.next hjl)
   have HHT := Lib.hid (HO.out.hit hjl)
   clear hb1 HC HV HI
   generalize l[j] = x at *
   cases hb : p x with
   | false =>
    have HN := Lib.hid (HNX.out hb)
    rw [hb] at HCC
    clear HNX HHT hb
    go_wp2_with fail
    refine HCC.out.mono ?_
    rintro r w2 ⟨rfl, hB⟩
    go_wp2
    go_roundw
    case rel => exact ⟨j + 1, by omega, by go_num, HN, HB1.out.trans (hB.mono HB1.out.size)⟩
    case measure => simp [intOf]; omega
   | true =>
    have HN := Lib.hid (HHT.out hb)
    rw [hb] at HCC
    clear HNX HHT hb
    go_wp2_with fail
    refine HCC.out.mono ?_
    rintro r w2 ⟨rfl, hB⟩
    go_wp2
    go_ret
    exact ⟨by rw [HN.out]; rfl, HB1.out.trans (hB.mono HB1.out.size)⟩
  ·obtain rfl : j = l.length := by omega
   have HE := Lib.hid HO.out.miss
   go_wp2
   go_ret
   exact ⟨by rw [HE.out]; rfl, HB.out⟩
set_option maxHeartbeats 4000000 in
theorem find_st (a : Option Addr) (c : Nat) (l : List StM) (N g : Nat) (p : StM → Bool) (Inv : World → Prop) (W : World) (hr : StSl W a l) (hi : Inv W) (hl : l.length ≤ 1000000) (hF : ∀ args V, Sem.run Tryz.prog (callFunc N args) V = .ok (.enter N args) V)
  (hv : ∀ W W', Inv W → Below W.heap.size W W' → Inv W') (hN : ∀ x ∈ l, ∀ V, Inv V → Calls Tryz.prog N #[.agg #[.int .i64 x.f, .int .i64 x.t, .int .i64 x.n, .int .i64 x.s], .pointer (some ⟨g, 0, none⟩)] V fun r w' => r = .returned (.bool (p x)) ∧ Below V.heap.size V w') :
  Calls Tryz.prog 202 #[.slice a l.length c, .func (.func N) #[] #[.pointer (some ⟨g, 0, none⟩)]] W fun r w' => r = .returned (.int .i64 (l.findIdx p : Nat)) ∧ Below W.heap.size W w' := by
 have HR := Lib.hid hr
 have HI := Lib.hid hi
 have HV := Lib.hid hv
 have HC := Lib.hid hN
 clear hr hi hv hN
 go_enter Tryz.func202, Tryz.ntmps202
 go_wp2
 go_loopw [9] (fun i wr => ∃ (j : Nat), j ≤ l.length ∧ i = .int .i64 j ∧ Hid (LowK p l j) ∧ Hid (Below W.heap.size W wr)) (fun i _ => l.length - (intOf i).toNat)
 case atStart => exact ⟨0, by omega, rfl, LowK.zero _ _, Below.refl _ _⟩
 case round =>
  obtain ⟨j, hj, rfl, HO, HB⟩ := hrel
  by_cases hjl : j < l.length
  ·obtain ⟨b, off, rfl, hbl, hc0, hc1, hc2, hc3⟩ := (HR.out.below HB.out).at_ hjl
   have hb1 := below_one wr (.cells #[.int .i64 l[j].f, .int .i64 l[j].t, .int .i64 l[j].n, .int .i64 l[j].s] 86)
   have HB1 := Lib.hid (HB.out.trans (hb1.mono HB.out.size))
   have HCC := Lib.hid (HC.out l[j] (List.getElem_mem hjl) _ (HV.out _ _ HI.out HB1.out))
   have HNX := Lib.hid (HO.out.next hjl)
   have HHT := Lib.hid (HO.out.hit hjl)
   clear hb1 HC HV HI
   generalize l[j] = x at *
   cases hb : p x with
   | false =>
    have HN := Lib.hid (HNX.out hb)
    rw [hb] at HCC
    clear HNX HHT hb
    go_wp2_with fail
    refine HCC.out.mono ?_
    rintro r w2 ⟨rfl, hB⟩
    go_wp2
    go_roundw
    case rel => exact ⟨j + 1, by omega, by go_num, HN, HB1.out.trans (hB.mono HB1.out.size)⟩
    case measure => simp [intOf]; omega
   | true =>
    have HN := Lib.hid (HHT.out hb)
    rw [hb] at HCC
    clear HNX HHT hb
    go_wp2_with fail
    refine HCC.out.mono ?_
    rintro r w2 ⟨rfl, hB⟩
    go_wp2
    go_ret
    exact ⟨by rw [HN.out]; rfl, HB1.out.trans (hB.mono HB1.out.size)⟩
  ·obtain rfl : j = l.length := by omega
   have HE := Lib.hid HO.out.miss
   go_wp2
   go_ret
   exact ⟨by rw [HE.out]; rfl, HB.out⟩
set_option maxHeartbeats 4000000 in
theorem find_us2 (a : Option Addr) (c : Nat) (l : List UsL) (N g h : Nat) (p : UsL → Bool) (Inv : World → Prop) (W : World) (hr : UsSl W a l) (hi : Inv W) (hl : l.length ≤ 1000000) (hF : ∀ args V, Sem.run Tryz.prog (callFunc N args) V = .ok (.enter N args) V)
  (hv : ∀ W W', Inv W → Below W.heap.size W W' → Inv W') (hN : ∀ x ∈ l, ∀ V, UsAt V x → Inv V → Calls Tryz.prog N #[.agg #[.string x.u, .slice x.a x.l.length x.c], .pointer (some ⟨g, 0, none⟩), .pointer (some ⟨h, 0, none⟩)] V fun r w' => r = .returned (.bool (p x)) ∧ Below V.heap.size V w') :
  Calls Tryz.prog 146 #[.slice a l.length c, .func (.func N) #[] #[.pointer (some ⟨g, 0, none⟩), .pointer (some ⟨h, 0, none⟩)]] W fun r w' => r = .returned (.int .i64 (l.findIdx p : Nat)) ∧ Below W.heap.size W w' := by
 have HR := Lib.hid hr
 have HI := Lib.hid hi
 have HV := Lib.hid hv
 have HC := Lib.hid hN
 clear hr hi hv hN
 go_enter Tryz.func146, Tryz.ntmps146
 go_wp2
 go_loopw [9] (fun i wr => ∃ (j : Nat), j ≤ l.length ∧ i = .int .i64 j ∧ Hid (LowK p l j) ∧ Hid (Below W.heap.size W wr)) (fun i _ => l.length - (intOf i).toNat)
 case atStart => exact ⟨0, by omega, rfl, LowK.zero _ _, Below.refl _ _⟩
 case round =>
  obtain ⟨j, hj, rfl, HO, HB⟩ := hrel
  by_cases hjl : j < l.length
  ·obtain ⟨b, off, rfl, hbl, hc0, hc1, hua⟩ := (HR.out.below HB.out).get hjl
   have hb1 := below_one wr (.cells #[.string l[j].u, .slice l[j].a l[j].l.length l[j].c] 89)
   have HB1 := Lib.hid (HB.out.trans (hb1.mono HB.out.size))
   have HCC := Lib.hid (HC.out l[j] (List.getElem_mem hjl) _ (hua.below hb1) (HV.out _ _ HI.out HB1.out))
   have HNX := Lib.hid (HO.out.next hjl)
   have HHT := Lib.hid (HO.out.hit hjl)
   clear hb1 HC HV HI hua
   generalize l[j] = x at *
   cases hb : p x with
   | false =>
    have HN := Lib.hid (HNX.out hb)
    rw [hb] at HCC
    clear HNX HHT hb
    go_wp2_with fail
    refine HCC.out.mono ?_
    rintro r w2 ⟨rfl, hB⟩
    go_wp2
    go_roundw
    case rel => exact ⟨j + 1, by omega, by go_num, HN, HB1.out.trans (hB.mono HB1.out.size)⟩
    case measure => simp [intOf]; omega
   | true =>
    have HN := Lib.hid (HHT.out hb)
    rw [hb] at HCC
    clear HNX HHT hb
    go_wp2_with fail
    refine HCC.out.mono ?_
    rintro r w2 ⟨rfl, hB⟩
    go_wp2
    go_ret
    exact ⟨by rw [HN.out]; rfl, HB1.out.trans (hB.mono HB1.out.size)⟩
  ·obtain rfl : j = l.length := by omega
   have HE := Lib.hid HO.out.miss
   go_wp2
   go_ret
   exact ⟨by rw [HE.out]; rfl, HB.out⟩
set_option maxHeartbeats 4000000 in
theorem find_tb2 (a : Option Addr) (c : Nat) (l : List TbM) (N g h : Nat) (p : TbM → Bool) (Inv : World → Prop) (W : World) (hr : TbSl W a l) (hi : Inv W) (hl : l.length ≤ 1000000) (hF : ∀ args V, Sem.run Tryz.prog (callFunc N args) V = .ok (.enter N args) V)
  (hv : ∀ W W', Inv W → Below W.heap.size W W' → Inv W') (hN : ∀ x ∈ l, ∀ V, Inv V → Calls Tryz.prog N #[.agg #[.string x.u, .int .i64 x.a], .pointer (some ⟨g, 0, none⟩), .pointer (some ⟨h, 0, none⟩)] V fun r w' => r = .returned (.bool (p x)) ∧ Below V.heap.size V w') :
  Calls Tryz.prog 156 #[.slice a l.length c, .func (.func N) #[] #[.pointer (some ⟨g, 0, none⟩), .pointer (some ⟨h, 0, none⟩)]] W fun r w' => r = .returned (.int .i64 (l.findIdx p : Nat)) ∧ Below W.heap.size W w' := by
 have HR := Lib.hid hr
 have HI := Lib.hid hi
 have HV := Lib.hid hv
 have HC := Lib.hid hN
 clear hr hi hv hN
 go_enter Tryz.func156, Tryz.ntmps156
 go_wp2
 go_loopw [9] (fun i wr => ∃ (j : Nat), j ≤ l.length ∧ i = .int .i64 j ∧ Hid (LowK p l j) ∧ Hid (Below W.heap.size W wr)) (fun i _ => l.length - (intOf i).toNat)
 case atStart => exact ⟨0, by omega, rfl, LowK.zero _ _, Below.refl _ _⟩
 case round =>
  obtain ⟨j, hj, rfl, HO, HB⟩ := hrel
  by_cases hjl : j < l.length
  ·obtain ⟨b, off, rfl, hbl, hc0, hc1⟩ := (HR.out.below HB.out).get hjl
   have hb1 := below_one wr (.cells #[.string l[j].u, .int .i64 l[j].a] 87)
   have HB1 := Lib.hid (HB.out.trans (hb1.mono HB.out.size))
   have HCC := Lib.hid (HC.out l[j] (List.getElem_mem hjl) _ (HV.out _ _ HI.out HB1.out))
   have HNX := Lib.hid (HO.out.next hjl)
   have HHT := Lib.hid (HO.out.hit hjl)
   clear hb1 HC HV HI
   generalize l[j] = x at *
   cases hb : p x with
   | false =>
    have HN := Lib.hid (HNX.out hb)
    rw [hb] at HCC
    clear HNX HHT hb
    go_wp2_with fail
    refine HCC.out.mono ?_
    rintro r w2 ⟨rfl, hB⟩
    go_wp2
    go_roundw
    case rel => exact ⟨j + 1, by omega, by go_num, HN, HB1.out.trans (hB.mono HB1.out.size)⟩
    case measure => simp [intOf]; omega
   | true =>
    have HN := Lib.hid (HHT.out hb)
    rw [hb] at HCC
    clear HNX HHT hb
    go_wp2_with fail
    refine HCC.out.mono ?_
    rintro r w2 ⟨rfl, hB⟩
    go_wp2
    go_ret
    exact ⟨by rw [HN.out]; rfl, HB1.out.trans (hB.mono HB1.out.size)⟩
  ·obtain rfl : j = l.length := by omega
   have HE := Lib.hid HO.out.miss
   go_wp2
   go_ret
   exact ⟨by rw [HE.out]; rfl, HB.out⟩
set_option maxHeartbeats 1000000 in
theorem some_us (a : Option Addr) (c : Nat) (l : List UsL) (N g : Nat) (p : UsL → Bool) (Inv : World → Prop) (W : World) (hr : UsSl W a l) (hi : Inv W) (hl : l.length ≤ 1000000) (hF : ∀ args V, Sem.run Tryz.prog (callFunc N args) V = .ok (.enter N args) V)
  (hv : ∀ W W', Inv W → Below W.heap.size W W' → Inv W') (hN : ∀ x ∈ l, ∀ V, UsAt V x → Inv V → Calls Tryz.prog N #[.agg #[.string x.u, .slice x.a x.l.length x.c], .pointer (some ⟨g, 0, none⟩)] V fun r w' => r = .returned (.bool (p x)) ∧ Below V.heap.size V w') :
  Calls Tryz.prog 129 #[.slice a l.length c, .func (.func N) #[] #[.pointer (some ⟨g, 0, none⟩)]] W fun r w' => r = .returned (.bool (l.any p)) ∧ Below W.heap.size W w' := by
 have HC := Lib.hid (find_us a c l N g p Inv W hr hi hl hF hv hN)
 have HE := Lib.hid (kidx_any p l)
 clear hr hi hv hN
 generalize l.findIdx p = i at *
 go_enter Tryz.func129, Tryz.ntmps129
 go_wp2_with fail
 refine HC.out.mono ?_
 rintro r w2 ⟨rfl, hB⟩
 go_wp2
 go_ret
 exact ⟨by rw [← HE.out]; rfl, hB⟩
set_option maxHeartbeats 1000000 in
theorem allc_us (x : UsL) (N g b : Nat) (q : Bool) (W : World) (h : CapO W b (.func (.func N) #[] #[.pointer (some ⟨g, 0, none⟩)])) (hF : ∀ args V, Sem.run Tryz.prog (callFunc N args) V = .ok (.enter N args) V) (hN : ∀ V, Below W.heap.size W V → Calls Tryz.prog N #[.agg #[.string x.u, .slice x.a x.l.length x.c], .pointer (some ⟨g, 0, none⟩)] V fun r w' => r = .returned (.bool q) ∧ Below V.heap.size V w') :
  Calls Tryz.prog 130 #[.agg #[.string x.u, .slice x.a x.l.length x.c], .pointer (some ⟨b, 0, none⟩)] W fun r w' => r = .returned (.bool !q) ∧ Below W.heap.size W w' := by
 have hb := below_one W (.cells #[.string x.u, .slice x.a x.l.length x.c] 89)
 obtain ⟨c0, hg⟩ := h.below hb
 have HB := Lib.hid hb
 have HC := Lib.hid (hN _ hb)
 clear hb hg h hN
 go_enter Tryz.func130, Tryz.ntmps130
 go_wp2_with fail
 refine HC.out.mono ?_
 rintro r w2 ⟨rfl, hB⟩
 go_wp2
 go_ret
 exact ⟨rfl, HB.out.trans (hB.mono HB.out.size)⟩
set_option maxHeartbeats 1000000 in
theorem all_us (a : Option Addr) (c : Nat) (l : List UsL) (N g : Nat) (p : UsL → Bool) (Inv : World → Prop) (W : World) (hr : UsSl W a l) (hi : Inv W) (hl : l.length ≤ 1000000) (hF : ∀ args V, Sem.run Tryz.prog (callFunc N args) V = .ok (.enter N args) V)
  (hv : ∀ W W', Inv W → Below W.heap.size W W' → Inv W') (hN : ∀ x ∈ l, ∀ V, UsAt V x → Inv V → Calls Tryz.prog N #[.agg #[.string x.u, .slice x.a x.l.length x.c], .pointer (some ⟨g, 0, none⟩)] V fun r w' => r = .returned (.bool (p x)) ∧ Below V.heap.size V w') :
  Calls Tryz.prog 64 #[.slice a l.length c, .func (.func N) #[] #[.pointer (some ⟨g, 0, none⟩)]] W fun r w' => r = .returned (.bool (l.all p)) ∧ Below W.heap.size W w' := by
 have hb := below_one W (.cells #[.func (.func N) #[] #[.pointer (some ⟨g, 0, none⟩)]] 118)
 have hcap : CapO (W.alloc (.cells #[.func (.func N) #[] #[.pointer (some ⟨g, 0, none⟩)]] 118)) W.heap.size (.func (.func N) #[] #[.pointer (some ⟨g, 0, none⟩)]) := ⟨cell_of_row _ _ 0 _ _ (0, 0) (heap_alloc_new W _), by rw [size1]; omega⟩
 have HC := Lib.hid (some_us a c l 130 W.heap.size (fun x => !p x) (fun V => Inv V ∧ CapO V W.heap.size (.func (.func N) #[] #[.pointer (some ⟨g, 0, none⟩)])) _ (hr.below hb) ⟨hv _ _ hi hb, hcap⟩ hl (call_known Tryz.func130 rfl)
  (fun V V' h q => ⟨hv _ _ h.1 q, h.2.below q⟩) (fun x hx V hu h => allc_us x N g W.heap.size (p x) V h.2 hF (fun V' q => hN x hx V' (hu.below q) (hv _ _ h.1 q))))
 have HE : Hid ((!(l.any fun x => !p x)) = l.all p) := by unfold Hid; rw [List.not_any_eq_all_not]; simp
 have HB := Lib.hid hb
 clear hr hi hv hN hb hcap
 generalize (l.any fun x => !p x) = q at *
 go_enter Tryz.func64, Tryz.ntmps64
 go_wp2_with fail
 refine HC.out.mono ?_
 rintro r w2 ⟨rfl, hB⟩
 go_wp2
 go_ret
 exact ⟨by rw [← HE.out]; rfl, HB.out.trans (hB.mono HB.out.size)⟩
set_option maxHeartbeats 1000000 in
theorem some_tb (a : Option Addr) (c : Nat) (l : List TbM) (N g : Nat) (p : TbM → Bool) (Inv : World → Prop) (W : World) (hr : TbSl W a l) (hi : Inv W) (hl : l.length ≤ 1000000) (hF : ∀ args V, Sem.run Tryz.prog (callFunc N args) V = .ok (.enter N args) V)
  (hv : ∀ W W', Inv W → Below W.heap.size W W' → Inv W') (hN : ∀ x ∈ l, ∀ V, Inv V → Calls Tryz.prog N #[.agg #[.string x.u, .int .i64 x.a], .pointer (some ⟨g, 0, none⟩)] V fun r w' => r = .returned (.bool (p x)) ∧ Below V.heap.size V w') :
  Calls Tryz.prog 100 #[.slice a l.length c, .func (.func N) #[] #[.pointer (some ⟨g, 0, none⟩)]] W fun r w' => r = .returned (.bool (l.any p)) ∧ Below W.heap.size W w' := by
 have HC := Lib.hid (find_tb a c l N g p Inv W hr hi hl hF hv hN)
 have HE := Lib.hid (kidx_any p l)
 clear hr hi hv hN
 generalize l.findIdx p = i at *
 go_enter Tryz.func100, Tryz.ntmps100
 go_wp2_with fail
 refine HC.out.mono ?_
 rintro r w2 ⟨rfl, hB⟩
 go_wp2
 go_ret
 exact ⟨by rw [← HE.out]; rfl, hB⟩
set_option maxHeartbeats 1000000 in
theorem allc_tb (x : TbM) (N g b : Nat) (q : Bool) (W : World) (h : CapO W b (.func (.func N) #[] #[.pointer (some ⟨g, 0, none⟩)])) (hF : ∀ args V, Sem.run Tryz.prog (callFunc N args) V = .ok (.enter N args) V) (hN : ∀ V, Below W.heap.size W V → Calls Tryz.prog N #[.agg #[.string x.u, .int .i64 x.a], .pointer (some ⟨g, 0, none⟩)] V fun r w' => r = .returned (.bool q) ∧ Below V.heap.size V w') :
  Calls Tryz.prog 139 #[.agg #[.string x.u, .int .i64 x.a], .pointer (some ⟨b, 0, none⟩)] W fun r w' => r = .returned (.bool !q) ∧ Below W.heap.size W w' := by
 have hb := below_one W (.cells #[.string x.u, .int .i64 x.a] 87)
 obtain ⟨c0, hg⟩ := h.below hb
 have HB := Lib.hid hb
 have HC := Lib.hid (hN _ hb)
 clear hb hg h hN
 go_enter Tryz.func139, Tryz.ntmps139
 go_wp2_with fail
 refine HC.out.mono ?_
 rintro r w2 ⟨rfl, hB⟩
 go_wp2
 go_ret
 exact ⟨rfl, HB.out.trans (hB.mono HB.out.size)⟩
set_option maxHeartbeats 1000000 in
theorem all_tb (a : Option Addr) (c : Nat) (l : List TbM) (N g : Nat) (p : TbM → Bool) (Inv : World → Prop) (W : World) (hr : TbSl W a l) (hi : Inv W) (hl : l.length ≤ 1000000) (hF : ∀ args V, Sem.run Tryz.prog (callFunc N args) V = .ok (.enter N args) V)
  (hv : ∀ W W', Inv W → Below W.heap.size W W' → Inv W') (hN : ∀ x ∈ l, ∀ V, Inv V → Calls Tryz.prog N #[.agg #[.string x.u, .int .i64 x.a], .pointer (some ⟨g, 0, none⟩)] V fun r w' => r = .returned (.bool (p x)) ∧ Below V.heap.size V w') :
  Calls Tryz.prog 73 #[.slice a l.length c, .func (.func N) #[] #[.pointer (some ⟨g, 0, none⟩)]] W fun r w' => r = .returned (.bool (l.all p)) ∧ Below W.heap.size W w' := by
 have hb := below_one W (.cells #[.func (.func N) #[] #[.pointer (some ⟨g, 0, none⟩)]] 129)
 have hcap : CapO (W.alloc (.cells #[.func (.func N) #[] #[.pointer (some ⟨g, 0, none⟩)]] 129)) W.heap.size (.func (.func N) #[] #[.pointer (some ⟨g, 0, none⟩)]) := ⟨cell_of_row _ _ 0 _ _ (0, 0) (heap_alloc_new W _), by rw [size1]; omega⟩
 have HC := Lib.hid (some_tb a c l 139 W.heap.size (fun x => !p x) (fun V => Inv V ∧ CapO V W.heap.size (.func (.func N) #[] #[.pointer (some ⟨g, 0, none⟩)])) _ (hr.below hb) ⟨hv _ _ hi hb, hcap⟩ hl (call_known Tryz.func139 rfl)
  (fun V V' h q => ⟨hv _ _ h.1 q, h.2.below q⟩) (fun x hx V h => allc_tb x N g W.heap.size (p x) V h.2 hF (fun V' q => hN x hx V' (hv _ _ h.1 q))))
 have HE : Hid ((!(l.any fun x => !p x)) = l.all p) := by unfold Hid; rw [List.not_any_eq_all_not]; simp
 have HB := Lib.hid hb
 clear hr hi hv hN hb hcap
 generalize (l.any fun x => !p x) = q at *
 go_enter Tryz.func73, Tryz.ntmps73
 go_wp2_with fail
 refine HC.out.mono ?_
 rintro r w2 ⟨rfl, hB⟩
 go_wp2
 go_ret
 exact ⟨by rw [← HE.out]; rfl, HB.out.trans (hB.mono HB.out.size)⟩
set_option maxHeartbeats 1000000 in
theorem some_op (a : Option Addr) (c : Nat) (l : List OpM) (N g : Nat) (p : OpM → Bool) (Inv : World → Prop) (W : World) (hr : OpSl W a l) (hi : Inv W) (hl : l.length ≤ 1000000) (hF : ∀ args V, Sem.run Tryz.prog (callFunc N args) V = .ok (.enter N args) V)
  (hv : ∀ W W', Inv W → Below W.heap.size W W' → Inv W') (hN : ∀ x ∈ l, ∀ V, Inv V → Calls Tryz.prog N #[.agg #[.int .i64 x.n, .string x.u, .int .i64 x.s, .int .i64 x.f], .pointer (some ⟨g, 0, none⟩)] V fun r w' => r = .returned (.bool (p x)) ∧ Below V.heap.size V w') :
  Calls Tryz.prog 95 #[.slice a l.length c, .func (.func N) #[] #[.pointer (some ⟨g, 0, none⟩)]] W fun r w' => r = .returned (.bool (l.any p)) ∧ Below W.heap.size W w' := by
 have HC := Lib.hid (find_op a c l N g p Inv W hr hi hl hF hv hN)
 have HE := Lib.hid (kidx_any p l)
 clear hr hi hv hN
 generalize l.findIdx p = i at *
 go_enter Tryz.func95, Tryz.ntmps95
 go_wp2_with fail
 refine HC.out.mono ?_
 rintro r w2 ⟨rfl, hB⟩
 go_wp2
 go_ret
 exact ⟨by rw [← HE.out]; rfl, hB⟩
set_option maxHeartbeats 1000000 in
theorem allc_op (x : OpM) (N g b : Nat) (q : Bool) (W : World) (h : CapO W b (.func (.func N) #[] #[.pointer (some ⟨g, 0, none⟩)])) (hF : ∀ args V, Sem.run Tryz.prog (callFunc N args) V = .ok (.enter N args) V) (hN : ∀ V, Below W.heap.size W V → Calls Tryz.prog N #[.agg #[.int .i64 x.n, .string x.u, .int .i64 x.s, .int .i64 x.f], .pointer (some ⟨g, 0, none⟩)] V fun r w' => r = .returned (.bool q) ∧ Below V.heap.size V w') :
  Calls Tryz.prog 126 #[.agg #[.int .i64 x.n, .string x.u, .int .i64 x.s, .int .i64 x.f], .pointer (some ⟨b, 0, none⟩)] W fun r w' => r = .returned (.bool !q) ∧ Below W.heap.size W w' := by
 have hb := below_one W (.cells #[.int .i64 x.n, .string x.u, .int .i64 x.s, .int .i64 x.f] 112)
 obtain ⟨c0, hg⟩ := h.below hb
 have HB := Lib.hid hb
 have HC := Lib.hid (hN _ hb)
 clear hb hg h hN
 go_enter Tryz.func126, Tryz.ntmps126
 go_wp2_with fail
 refine HC.out.mono ?_
 rintro r w2 ⟨rfl, hB⟩
 go_wp2
 go_ret
 exact ⟨rfl, HB.out.trans (hB.mono HB.out.size)⟩
set_option maxHeartbeats 1000000 in
theorem all_op (a : Option Addr) (c : Nat) (l : List OpM) (N g : Nat) (p : OpM → Bool) (Inv : World → Prop) (W : World) (hr : OpSl W a l) (hi : Inv W) (hl : l.length ≤ 1000000) (hF : ∀ args V, Sem.run Tryz.prog (callFunc N args) V = .ok (.enter N args) V)
  (hv : ∀ W W', Inv W → Below W.heap.size W W' → Inv W') (hN : ∀ x ∈ l, ∀ V, Inv V → Calls Tryz.prog N #[.agg #[.int .i64 x.n, .string x.u, .int .i64 x.s, .int .i64 x.f], .pointer (some ⟨g, 0, none⟩)] V fun r w' => r = .returned (.bool (p x)) ∧ Below V.heap.size V w') :
  Calls Tryz.prog 60 #[.slice a l.length c, .func (.func N) #[] #[.pointer (some ⟨g, 0, none⟩)]] W fun r w' => r = .returned (.bool (l.all p)) ∧ Below W.heap.size W w' := by
 have hb := below_one W (.cells #[.func (.func N) #[] #[.pointer (some ⟨g, 0, none⟩)]] 113)
 have hcap : CapO (W.alloc (.cells #[.func (.func N) #[] #[.pointer (some ⟨g, 0, none⟩)]] 113)) W.heap.size (.func (.func N) #[] #[.pointer (some ⟨g, 0, none⟩)]) := ⟨cell_of_row _ _ 0 _ _ (0, 0) (heap_alloc_new W _), by rw [size1]; omega⟩
 have HC := Lib.hid (some_op a c l 126 W.heap.size (fun x => !p x) (fun V => Inv V ∧ CapO V W.heap.size (.func (.func N) #[] #[.pointer (some ⟨g, 0, none⟩)])) _ (hr.below hb) ⟨hv _ _ hi hb, hcap⟩ hl (call_known Tryz.func126 rfl)
  (fun V V' h q => ⟨hv _ _ h.1 q, h.2.below q⟩) (fun x hx V h => allc_op x N g W.heap.size (p x) V h.2 hF (fun V' q => hN x hx V' (hv _ _ h.1 q))))
 have HE : Hid ((!(l.any fun x => !p x)) = l.all p) := by unfold Hid; rw [List.not_any_eq_all_not]; simp
 have HB := Lib.hid hb
 clear hr hi hv hN hb hcap
 generalize (l.any fun x => !p x) = q at *
 go_enter Tryz.func60, Tryz.ntmps60
 go_wp2_with fail
 refine HC.out.mono ?_
 rintro r w2 ⟨rfl, hB⟩
 go_wp2
 go_ret
 exact ⟨by rw [← HE.out]; rfl, HB.out.trans (hB.mono HB.out.size)⟩
set_option maxHeartbeats 1000000 in
theorem some_en (a : Option Addr) (c : Nat) (l : List EnM) (N g : Nat) (p : EnM → Bool) (Inv : World → Prop) (W : World) (hr : EnSl W a l) (hi : Inv W) (hl : l.length ≤ 1000000) (hF : ∀ args V, Sem.run Tryz.prog (callFunc N args) V = .ok (.enter N args) V)
  (hv : ∀ W W', Inv W → Below W.heap.size W W' → Inv W') (hN : ∀ x ∈ l, ∀ V, Inv V → Calls Tryz.prog N #[.agg #[.string x.w, .string x.u, .int .i64 x.f, .int .i64 x.t], .pointer (some ⟨g, 0, none⟩)] V fun r w' => r = .returned (.bool (p x)) ∧ Below V.heap.size V w') :
  Calls Tryz.prog 97 #[.slice a l.length c, .func (.func N) #[] #[.pointer (some ⟨g, 0, none⟩)]] W fun r w' => r = .returned (.bool (l.any p)) ∧ Below W.heap.size W w' := by
 have HC := Lib.hid (find_en a c l N g p Inv W hr hi hl hF hv hN)
 have HE := Lib.hid (kidx_any p l)
 clear hr hi hv hN
 generalize l.findIdx p = i at *
 go_enter Tryz.func97, Tryz.ntmps97
 go_wp2_with fail
 refine HC.out.mono ?_
 rintro r w2 ⟨rfl, hB⟩
 go_wp2
 go_ret
 exact ⟨by rw [← HE.out]; rfl, hB⟩
set_option maxHeartbeats 1000000 in
theorem allc_en (x : EnM) (N g b : Nat) (q : Bool) (W : World) (h : CapO W b (.func (.func N) #[] #[.pointer (some ⟨g, 0, none⟩)])) (hF : ∀ args V, Sem.run Tryz.prog (callFunc N args) V = .ok (.enter N args) V) (hN : ∀ V, Below W.heap.size W V → Calls Tryz.prog N #[.agg #[.string x.w, .string x.u, .int .i64 x.f, .int .i64 x.t], .pointer (some ⟨g, 0, none⟩)] V fun r w' => r = .returned (.bool q) ∧ Below V.heap.size V w') :
  Calls Tryz.prog 138 #[.agg #[.string x.w, .string x.u, .int .i64 x.f, .int .i64 x.t], .pointer (some ⟨b, 0, none⟩)] W fun r w' => r = .returned (.bool !q) ∧ Below W.heap.size W w' := by
 have hb := below_one W (.cells #[.string x.w, .string x.u, .int .i64 x.f, .int .i64 x.t] 123)
 obtain ⟨c0, hg⟩ := h.below hb
 have HB := Lib.hid hb
 have HC := Lib.hid (hN _ hb)
 clear hb hg h hN
 go_enter Tryz.func138, Tryz.ntmps138
 go_wp2_with fail
 refine HC.out.mono ?_
 rintro r w2 ⟨rfl, hB⟩
 go_wp2
 go_ret
 exact ⟨rfl, HB.out.trans (hB.mono HB.out.size)⟩
set_option maxHeartbeats 1000000 in
theorem all_en (a : Option Addr) (c : Nat) (l : List EnM) (N g : Nat) (p : EnM → Bool) (Inv : World → Prop) (W : World) (hr : EnSl W a l) (hi : Inv W) (hl : l.length ≤ 1000000) (hF : ∀ args V, Sem.run Tryz.prog (callFunc N args) V = .ok (.enter N args) V)
  (hv : ∀ W W', Inv W → Below W.heap.size W W' → Inv W') (hN : ∀ x ∈ l, ∀ V, Inv V → Calls Tryz.prog N #[.agg #[.string x.w, .string x.u, .int .i64 x.f, .int .i64 x.t], .pointer (some ⟨g, 0, none⟩)] V fun r w' => r = .returned (.bool (p x)) ∧ Below V.heap.size V w') :
  Calls Tryz.prog 68 #[.slice a l.length c, .func (.func N) #[] #[.pointer (some ⟨g, 0, none⟩)]] W fun r w' => r = .returned (.bool (l.all p)) ∧ Below W.heap.size W w' := by
 have hb := below_one W (.cells #[.func (.func N) #[] #[.pointer (some ⟨g, 0, none⟩)]] 125)
 have hcap : CapO (W.alloc (.cells #[.func (.func N) #[] #[.pointer (some ⟨g, 0, none⟩)]] 125)) W.heap.size (.func (.func N) #[] #[.pointer (some ⟨g, 0, none⟩)]) := ⟨cell_of_row _ _ 0 _ _ (0, 0) (heap_alloc_new W _), by rw [size1]; omega⟩
 have HC := Lib.hid (some_en a c l 138 W.heap.size (fun x => !p x) (fun V => Inv V ∧ CapO V W.heap.size (.func (.func N) #[] #[.pointer (some ⟨g, 0, none⟩)])) _ (hr.below hb) ⟨hv _ _ hi hb, hcap⟩ hl (call_known Tryz.func138 rfl)
  (fun V V' h q => ⟨hv _ _ h.1 q, h.2.below q⟩) (fun x hx V h => allc_en x N g W.heap.size (p x) V h.2 hF (fun V' q => hN x hx V' (hv _ _ h.1 q))))
 have HE : Hid ((!(l.any fun x => !p x)) = l.all p) := by unfold Hid; rw [List.not_any_eq_all_not]; simp
 have HB := Lib.hid hb
 clear hr hi hv hN hb hcap
 generalize (l.any fun x => !p x) = q at *
 go_enter Tryz.func68, Tryz.ntmps68
 go_wp2_with fail
 refine HC.out.mono ?_
 rintro r w2 ⟨rfl, hB⟩
 go_wp2
 go_ret
 exact ⟨by rw [← HE.out]; rfl, HB.out.trans (hB.mono HB.out.size)⟩
set_option maxHeartbeats 1000000 in
theorem some_st (a : Option Addr) (c : Nat) (l : List StM) (N g : Nat) (p : StM → Bool) (Inv : World → Prop) (W : World) (hr : StSl W a l) (hi : Inv W) (hl : l.length ≤ 1000000) (hF : ∀ args V, Sem.run Tryz.prog (callFunc N args) V = .ok (.enter N args) V)
  (hv : ∀ W W', Inv W → Below W.heap.size W W' → Inv W') (hN : ∀ x ∈ l, ∀ V, Inv V → Calls Tryz.prog N #[.agg #[.int .i64 x.f, .int .i64 x.t, .int .i64 x.n, .int .i64 x.s], .pointer (some ⟨g, 0, none⟩)] V fun r w' => r = .returned (.bool (p x)) ∧ Below V.heap.size V w') :
  Calls Tryz.prog 180 #[.slice a l.length c, .func (.func N) #[] #[.pointer (some ⟨g, 0, none⟩)]] W fun r w' => r = .returned (.bool (l.any p)) ∧ Below W.heap.size W w' := by
 have HC := Lib.hid (find_st a c l N g p Inv W hr hi hl hF hv hN)
 have HE := Lib.hid (kidx_any p l)
 clear hr hi hv hN
 generalize l.findIdx p = i at *
 go_enter Tryz.func180, Tryz.ntmps180
 go_wp2_with fail
 refine HC.out.mono ?_
 rintro r w2 ⟨rfl, hB⟩
 go_wp2
 go_ret
 exact ⟨by rw [← HE.out]; rfl, hB⟩
set_option maxHeartbeats 1000000 in
theorem allc_st (x : StM) (N g b : Nat) (q : Bool) (W : World) (h : CapO W b (.func (.func N) #[] #[.pointer (some ⟨g, 0, none⟩)])) (hF : ∀ args V, Sem.run Tryz.prog (callFunc N args) V = .ok (.enter N args) V) (hN : ∀ V, Below W.heap.size W V → Calls Tryz.prog N #[.agg #[.int .i64 x.f, .int .i64 x.t, .int .i64 x.n, .int .i64 x.s], .pointer (some ⟨g, 0, none⟩)] V fun r w' => r = .returned (.bool q) ∧ Below V.heap.size V w') :
  Calls Tryz.prog 181 #[.agg #[.int .i64 x.f, .int .i64 x.t, .int .i64 x.n, .int .i64 x.s], .pointer (some ⟨b, 0, none⟩)] W fun r w' => r = .returned (.bool !q) ∧ Below W.heap.size W w' := by
 have hb := below_one W (.cells #[.int .i64 x.f, .int .i64 x.t, .int .i64 x.n, .int .i64 x.s] 86)
 obtain ⟨c0, hg⟩ := h.below hb
 have HB := Lib.hid hb
 have HC := Lib.hid (hN _ hb)
 clear hb hg h hN
 go_enter Tryz.func181, Tryz.ntmps181
 go_wp2_with fail
 refine HC.out.mono ?_
 rintro r w2 ⟨rfl, hB⟩
 go_wp2
 go_ret
 exact ⟨rfl, HB.out.trans (hB.mono HB.out.size)⟩
set_option maxHeartbeats 1000000 in
theorem all_st (a : Option Addr) (c : Nat) (l : List StM) (N g : Nat) (p : StM → Bool) (Inv : World → Prop) (W : World) (hr : StSl W a l) (hi : Inv W) (hl : l.length ≤ 1000000) (hF : ∀ args V, Sem.run Tryz.prog (callFunc N args) V = .ok (.enter N args) V)
  (hv : ∀ W W', Inv W → Below W.heap.size W W' → Inv W') (hN : ∀ x ∈ l, ∀ V, Inv V → Calls Tryz.prog N #[.agg #[.int .i64 x.f, .int .i64 x.t, .int .i64 x.n, .int .i64 x.s], .pointer (some ⟨g, 0, none⟩)] V fun r w' => r = .returned (.bool (p x)) ∧ Below V.heap.size V w') :
  Calls Tryz.prog 132 #[.slice a l.length c, .func (.func N) #[] #[.pointer (some ⟨g, 0, none⟩)]] W fun r w' => r = .returned (.bool (l.all p)) ∧ Below W.heap.size W w' := by
 have hb := below_one W (.cells #[.func (.func N) #[] #[.pointer (some ⟨g, 0, none⟩)]] 186)
 have hcap : CapO (W.alloc (.cells #[.func (.func N) #[] #[.pointer (some ⟨g, 0, none⟩)]] 186)) W.heap.size (.func (.func N) #[] #[.pointer (some ⟨g, 0, none⟩)]) := ⟨cell_of_row _ _ 0 _ _ (0, 0) (heap_alloc_new W _), by rw [size1]; omega⟩
 have HC := Lib.hid (some_st a c l 181 W.heap.size (fun x => !p x) (fun V => Inv V ∧ CapO V W.heap.size (.func (.func N) #[] #[.pointer (some ⟨g, 0, none⟩)])) _ (hr.below hb) ⟨hv _ _ hi hb, hcap⟩ hl (call_known Tryz.func181 rfl)
  (fun V V' h q => ⟨hv _ _ h.1 q, h.2.below q⟩) (fun x hx V h => allc_st x N g W.heap.size (p x) V h.2 hF (fun V' q => hN x hx V' (hv _ _ h.1 q))))
 have HE : Hid ((!(l.any fun x => !p x)) = l.all p) := by unfold Hid; rw [List.not_any_eq_all_not]; simp
 have HB := Lib.hid hb
 clear hr hi hv hN hb hcap
 generalize (l.any fun x => !p x) = q at *
 go_enter Tryz.func132, Tryz.ntmps132
 go_wp2_with fail
 refine HC.out.mono ?_
 rintro r w2 ⟨rfl, hB⟩
 go_wp2
 go_ret
 exact ⟨by rw [← HE.out]; rfl, HB.out.trans (hB.mono HB.out.size)⟩
end Go.Proofs.YtjhdhfokhkcamaaGreat
