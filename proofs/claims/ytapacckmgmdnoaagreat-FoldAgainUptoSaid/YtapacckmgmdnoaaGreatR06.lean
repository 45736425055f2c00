/- Texts of mine, one behind the other, of each what is wanted. -/
import Derived.Test.YtapacckmgmdnoaaGreatR00
import Derived.Test.YtapacckmgmdnoaaGreatR03
import Derived.Test.YtapacckmgmdnoaaGreatR04
namespace Go.Proofs.YtapacckmgmdnoaaGreat
open Go.RowKit
set_option linter.unusedVariables false
set_option maxRecDepth 100000
set_option maxRecDepth 100000
def LowK {α : Type} (p : α → Bool) (l : List α) (j : Nat) : Prop := ∀ i (h : i < l.length), i < j → p l[i] = false
theorem LowK.zero {α : Type} (p : α → Bool) (l : List α) : LowK p l 0 := fun i h hj => absurd hj (by omega)
theorem LowK.next {α : Type} {p : α → Bool} {l : List α} {j : Nat} (h : LowK p l j) (hj : j < l.length) (hp : p l[j] = false) : LowK p l (j + 1) := fun i hi hij => by
 rcases Nat.lt_or_ge i j with h1 | h1
 ·exact h i hi h1
 ·obtain rfl : i = j := by omega
  exact hp
theorem LowK.hit {α : Type} {p : α → Bool} {l : List α} {j : Nat} (h : LowK p l j) (hj : j < l.length) (hp : p l[j] = true) : l.findIdx p = j :=
 (List.findIdx_eq hj).2 ⟨hp, fun i hi => h i (by omega) hi⟩
theorem LowK.miss {α : Type} {p : α → Bool} {l : List α} (h : LowK p l l.length) : l.findIdx p = l.length :=
 List.findIdx_eq_length.2 fun x hx => by
  obtain ⟨i, hi, rfl⟩ := List.getElem_of_mem hx
  exact h i hi hi
theorem call_known {P : Program} {N : FuncId} {fn : Func} (h : P.funcs[N]? = some fn) (hb : (fn.body.isSome && fn.name != "runtime.NumGoroutine") = true) (args : Array Value) (V : World) : Sem.run P (callFunc N args) V = .ok (.enter N args) V := by
 rw [Bool.and_eq_true, Option.isSome_iff_exists] at hb
 obtain ⟨⟨b, h1⟩, h2⟩ := hb
 have h3 : ¬ fn.name = "runtime.NumGoroutine" := by simpa using h2
 unfold callFunc
 simp [Sem.run_bind, h, h1, h3, Result.andThen]
set_option maxHeartbeats 4000000 in
theorem find_us (a : Option Addr) (c : Nat) (l : List UsL) (N g : Nat) (p : UsL → Bool) (Inv : World → Prop) (W : World) (hr : UsSl W a l) (hi : Inv W) (hl : l.length ≤ 1000000) (hF : ∀ args V, Sem.run Tryz.prog (callFunc N args) V = .ok (.enter N args) V)
  (hv : ∀ W W', Inv W → Below W.heap.size W W' → Inv W') (hN : ∀ x ∈ l, ∀ V, UsAt V x → Inv V → Calls Tryz.prog N #[.agg #[.string x.u, .slice x.a x.l.length x.c], .pointer (some ⟨g, 0, none⟩)] V fun r w' => r = .returned (.bool (p x)) ∧ Below V.heap.size V w') :
  Calls Tryz.prog 154 #[.slice a l.length c, .func (.func N) #[] #[.pointer (some ⟨g, 0, none⟩)]] W fun r w' => r = .returned (.int .i64 (l.findIdx p : Nat)) ∧ Below W.heap.size W w' := by
 have HR := Lib.hid hr
 have HI := Lib.hid hi
 have HV := Lib.hid hv
 have HC := Lib.hid hN
 clear hr hi hv hN
 go_enter Tryz.func154, Tryz.ntmps154
 go_wp2
 go_loopw [9] (fun i wr => ∃ (j : Nat), j ≤ l.length ∧ i = .int .i64 j ∧ Hid (LowK p l j) ∧ Hid (Below W.heap.size W wr)) (fun i _ => l.length - (intOf i).toNat)
 case atStart => exact ⟨0, by omega, rfl, LowK.zero _ _, Below.refl _ _⟩
 case round =>
  obtain ⟨j, hj, rfl, HO, HB⟩ := hrel
  by_cases hjl : j < l.length
  ·obtain ⟨b, off, rfl, hbl, hc0, hc1, hua⟩ := (HR.out.below HB.out).get hjl
   have hb1 := below_one wr (.cells #[.string l[j].u, .slice l[j].a l[j].l.length l[j].c] 108)
   have HB1 := Lib.hid (HB.out.trans (hb1.mono HB.out.size))
   have HCC := Lib.hid (HC.out l[j] (List.getElem_mem hjl) _ (hua.below hb1) (HV.out _ _ HI.out HB1.out))
   have HNX := Lib.hid (HO.out.next hjl)
   have HHT := Lib.hid (HO.out.hit hjl)
   clear hb1 HC HV HI hua
   generalize l[j] = x at *
   cases hb : p x with
   | false =>
    have HN := Lib.hid (HNX.out hb)
    rw [hb] at HCC
    clear HNX HHT hb
    go_wp2_with fail
    refine HCC.out.mono ?_
    rintro r w2 ⟨rfl, hB⟩
    go_wp2
    go_roundw
    case rel => exact ⟨j + 1, by omega, by go_num, HN, HB1.out.trans (hB.mono HB1.out.size)⟩
    case measure => simp [intOf]; omega
   | true =>
    have HN := Lib.hid (HHT.out hb)
    rw [hb] at HCC
    clear HNX HHT hb
    go_wp2_with fail
    refine HCC.out.mono ?_
    rintro r w2 ⟨rfl, hB⟩
    go_wp2
    go_ret
    exact ⟨by rw [HN.out]; rfl, HB1.out.trans (hB.mono HB1.out.size)⟩
  ·obtain rfl : j = l.length := by omega
   have HE := Lib.hid HO.out.miss
   go_wp2
   go_ret
   exact ⟨by rw [HE.out]; rfl, HB.out⟩
set_option maxHeartbeats 4000000 in
theorem find_tb (a : Option Addr) (c : Nat) (l : List TbM) (N g : Nat) (p : TbM → Bool) (Inv : World → Prop) (W : World) (hr : TbSl W a l) (hi : Inv W) (hl : l.length ≤ 1000000) (hF : ∀ args V, Sem.run Tryz.prog (callFunc N args) V = .ok (.enter N args) V)
  (hv : ∀ W W', Inv W → Below W.heap.size W W' → Inv W') (hN : ∀ x ∈ l, ∀ V, Inv V → Calls Tryz.prog N #[.agg #[.string x.u, .int .i64 x.a], .pointer (some ⟨g, 0, none⟩)] V fun r w' => r = .returned (.bool (p x)) ∧ Below V.heap.size V w') :
  Calls Tryz.prog 223 #[.slice a l.length c, .func (.func N) #[] #[.pointer (some ⟨g, 0, none⟩)]] W fun r w' => r = .returned (.int .i64 (l.findIdx p : Nat)) ∧ Below W.heap.size W w' := by
 have HR := Lib.hid hr
 have HI := Lib.hid hi
 have HV := Lib.hid hv
 have HC := Lib.hid hN
 clear hr hi hv hN
 go_enter Tryz.func223, Tryz.ntmps223
 go_wp2
 go_loopw [9] (fun i wr => ∃ (j : Nat), j ≤ l.length ∧ i = .int .i64 j ∧ Hid (LowK p l j) ∧ Hid (Below W.heap.size W wr)) (fun i _ => l.length - (intOf i).toNat)
 case atStart => exact ⟨0, by omega, rfl, LowK.zero _ _, Below.refl _ _⟩
 case round =>
  obtain ⟨j, hj, rfl, HO, HB⟩ := hrel
  by_cases hjl : j < l.length
  ·obtain ⟨b, off, rfl, hbl, hc0, hc1⟩ := (HR.out.below HB.out).get hjl
   have hb1 := below_one wr (.cells #[.string l[j].u, .int .i64 l[j].a] 141)
   have HB1 := Lib.hid (HB.out.trans (hb1.mono HB.out.size))
   have HCC := Lib.hid (HC.out l[j] (List.getElem_mem hjl) _ (HV.out _ _ HI.out HB1.out))
   have HNX := Lib.hid (HO.out.next hjl)
   have HHT := Lib.hid (HO.out.hit hjl)
   clear hb1 HC HV HI
   generalize l[j] = x at *
   cases hb : p x with
   | false =>
    have HN := Lib.hid (HNX.out hb)
    rw [hb] at HCC
    clear HNX HHT hb
    go_wp2_with fail
    refine HCC.out.mono ?_
    rintro r w2 ⟨rfl, hB⟩
    go_wp2
    go_roundw
    case rel => exact ⟨j + 1, by omega, by go_num, HN, HB1.out.trans (hB.mono HB1.out.size)⟩
    case measure => simp [intOf]; omega
   | true =>
    have HN := Lib.hid (HHT.out hb)
    rw [hb] at HCC
    clear HNX HHT hb
    go_wp2_with fail
    refine HCC.out.mono ?_
    rintro r w2 ⟨rfl, hB⟩
    go_wp2
    go_ret
    exact ⟨by rw [HN.out]; rfl, HB1.out.trans (hB.mono HB1.out.size)⟩
  ·obtain rfl : j = l.length := by omega
   have HE := Lib.hid HO.out.miss
   go_wp2
   go_ret
   exact ⟨by rw [HE.out]; rfl, HB.out⟩
set_option maxHeartbeats 4000000 in
theorem find_us2 (a : Option Addr) (c : Nat) (l : List UsL) (N g h : Nat) (p : UsL → Bool) (Inv : World → Prop) (W : World) (hr : UsSl W a l) (hi : Inv W) (hl : l.length ≤ 1000000) (hF : ∀ args V, Sem.run Tryz.prog (callFunc N args) V = .ok (.enter N args) V)
  (hv : ∀ W W', Inv W → Below W.heap.size W W' → Inv W') (hN : ∀ x ∈ l, ∀ V, UsAt V x → Inv V → Calls Tryz.prog N #[.agg #[.string x.u, .slice x.a x.l.length x.c], .pointer (some ⟨g, 0, none⟩), .pointer (some ⟨h, 0, none⟩)] V fun r w' => r = .returned (.bool (p x)) ∧ Below V.heap.size V w') :
  Calls Tryz.prog 154 #[.slice a l.length c, .func (.func N) #[] #[.pointer (some ⟨g, 0, none⟩), .pointer (some ⟨h, 0, none⟩)]] W fun r w' => r = .returned (.int .i64 (l.findIdx p : Nat)) ∧ Below W.heap.size W w' := by
 have HR := Lib.hid hr
 have HI := Lib.hid hi
 have HV := Lib.hid hv
 have HC := Lib.hid hN
 clear hr hi hv hN
 go_enter Tryz.func154, Tryz.ntmps154
 go_wp2
 go_loopw [9] (fun i wr => ∃ (j : Nat), j ≤ l.length ∧ i = .int .i64 j ∧ Hid (LowK p l j) ∧ Hid (Below W.heap.size W wr)) (fun i _ => l.length - (intOf i).toNat)
 case atStart => exact ⟨0, by omega, rfl, LowK.zero _ _, Below.refl _ _⟩
 case round =>
  obtain ⟨j, hj, rfl, HO, HB⟩ := hrel
  by_cases hjl : j < l.length
  ·obtain ⟨b, off, rfl, hbl, hc0, hc1, hua⟩ := (HR.out.below HB.out).get hjl
   have hb1 := below_one wr (.cells #[.string l[j].u, .slice l[j].a l[j].l.length l[j].c] 108)
   have HB1 := Lib.hid (HB.out.trans (hb1.mono HB.out.size))
   have HCC := Lib.hid (HC.out l[j] (List.getElem_mem hjl) _ (hua.below hb1) (HV.out _ _ HI.out HB1.out))
   have HNX := Lib.hid (HO.out.next hjl)
   have HHT := Lib.hid (HO.out.hit hjl)
   clear hb1 HC HV HI hua
   generalize l[j] = x at *
   cases hb : p x with
   | false =>
    have HN := Lib.hid (HNX.out hb)
    rw [hb] at HCC
    clear HNX HHT hb
    go_wp2_with fail
    refine HCC.out.mono ?_
    rintro r w2 ⟨rfl, hB⟩
    go_wp2
    go_roundw
    case rel => exact ⟨j + 1, by omega, by go_num, HN, HB1.out.trans (hB.mono HB1.out.size)⟩
    case measure => simp [intOf]; omega
   | true =>
    have HN := Lib.hid (HHT.out hb)
    rw [hb] at HCC
    clear HNX HHT hb
    go_wp2_with fail
    refine HCC.out.mono ?_
    rintro r w2 ⟨rfl, hB⟩
    go_wp2
    go_ret
    exact ⟨by rw [HN.out]; rfl, HB1.out.trans (hB.mono HB1.out.size)⟩
  ·obtain rfl : j = l.length := by omega
   have HE := Lib.hid HO.out.miss
   go_wp2
   go_ret
   exact ⟨by rw [HE.out]; rfl, HB.out⟩
set_option maxHeartbeats 4000000 in
theorem find_tb2 (a : Option Addr) (c : Nat) (l : List TbM) (N g h : Nat) (p : TbM → Bool) (Inv : World → Prop) (W : World) (hr : TbSl W a l) (hi : Inv W) (hl : l.length ≤ 1000000) (hF : ∀ args V, Sem.run Tryz.prog (callFunc N args) V = .ok (.enter N args) V)
  (hv : ∀ W W', Inv W → Below W.heap.size W W' → Inv W') (hN : ∀ x ∈ l, ∀ V, Inv V → Calls Tryz.prog N #[.agg #[.string x.u, .int .i64 x.a], .pointer (some ⟨g, 0, none⟩), .pointer (some ⟨h, 0, none⟩)] V fun r w' => r = .returned (.bool (p x)) ∧ Below V.heap.size V w') :
  Calls Tryz.prog 223 #[.slice a l.length c, .func (.func N) #[] #[.pointer (some ⟨g, 0, none⟩), .pointer (some ⟨h, 0, none⟩)]] W fun r w' => r = .returned (.int .i64 (l.findIdx p : Nat)) ∧ Below W.heap.size W w' := by
 have HR := Lib.hid hr
 have HI := Lib.hid hi
 have HV := Lib.hid hv
 have HC := Lib.hid hN
 clear hr hi hv hN
 go_enter Tryz.func223, Tryz.ntmps223
 go_wp2
 go_loopw [9] (fun i wr => ∃ (j : Nat), j ≤ l.length ∧ i = .int .i64 j ∧ Hid (LowK p l j) ∧ Hid (Below W.heap.size W wr)) (fun i _ => l.length - (intOf i).toNat)
 case atStart => exact ⟨0, by omega, rfl, LowK.zero _ _, Below.refl _ _⟩
 case round =>
  obtain ⟨j, hj, rfl, HO, HB⟩ := hrel
  by_cases hjl : j < l.length
  ·obtain ⟨b, off, rfl, hbl, hc0, hc1⟩ := (HR.out.below HB.out).get hjl
   have hb1 := below_one wr (.cells #[.string l[j].u, .int .i64 l[j].a] 141)
   have HB1 := Lib.hid (HB.out.trans (hb1.mono HB.out.size))
   have HCC := Lib.hid (HC.out l[j] (List.getElem_mem hjl) _ (HV.out _ _ HI.out HB1.out))
   have HNX := Lib.hid (HO.out.next hjl)
   have HHT := Lib.hid (HO.out.hit hjl)
   clear hb1 HC HV HI
   generalize l[j] = x at *
   cases hb : p x with
   | false =>
    have HN := Lib.hid (HNX.out hb)
    rw [hb] at HCC
    clear HNX HHT hb
    go_wp2_with fail
    refine HCC.out.mono ?_
    rintro r w2 ⟨rfl, hB⟩
    go_wp2
    go_roundw
    case rel => exact ⟨j + 1, by omega, by go_num, HN, HB1.out.trans (hB.mono HB1.out.size)⟩
    case measure => simp [intOf]; omega
   | true =>
    have HN := Lib.hid (HHT.out hb)
    rw [hb] at HCC
    clear HNX HHT hb
    go_wp2_with fail
    refine HCC.out.mono ?_
    rintro r w2 ⟨rfl, hB⟩
    go_wp2
    go_ret
    exact ⟨by rw [HN.out]; rfl, HB1.out.trans (hB.mono HB1.out.size)⟩
  ·obtain rfl : j = l.length := by omega
   have HE := Lib.hid HO.out.miss
   go_wp2
   go_ret
   exact ⟨by rw [HE.out]; rfl, HB.out⟩
end Go.Proofs.YtapacckmgmdnoaaGreat
