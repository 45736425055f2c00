/- Texts of mine, one behind the other, of each what is wanted. -/
import Derived.Test.YtapacckmgmdnoaaGreatU00
import Derived.Test.YtapacckmgmdnoaaGreatU01
import Derived.Test.YtapacckmgmdnoaaGreatU02
import Derived.Test.YtapacckmgmdnoaaGreatU04
import Derived.Test.YtapacckmgmdnoaaGreatU05
import Derived.Test.YtapacckmgmdnoaaGreatU07
namespace Go.Proofs.YtapacckmgmdnoaaGreat
open Go.RowKit
set_option linter.unusedVariables false
set_option maxRecDepth 100000
set_option maxRecDepth 100000
theorem kidx_any {α : Type} (p : α → Bool) (l : List α) : decide (l.findIdx p < l.length) = l.any p := by
 rw [Bool.eq_iff_iff, decide_eq_true_iff, List.any_eq_true]
 have := List.findIdx_lt_length (xs := l) (p := p)
 constructor
 ·intro h; exact this.1 h
 ·intro h; exact this.2 h
set_option maxHeartbeats 4000000 in
theorem find_op (a : Option Addr) (c : Nat) (l : List OpM) (N g : Nat) (p : OpM → Bool) (Inv : World → Prop) (W : World) (hr : OpSl W a l) (hi : Inv W) (hl : l.length ≤ 1000000) (hF : ∀ args V, Sem.run Tryz.prog (callFunc N args) V = .ok (.enter N args) V)
  (hv : ∀ W W', Inv W → Below W.heap.size W W' → Inv W') (hN : ∀ x ∈ l, ∀ V, Inv V → Calls Tryz.prog N #[.agg #[.int .i64 x.n, .string x.u, .int .i64 x.s, .int .i64 x.f], .pointer (some ⟨g, 0, none⟩)] V fun r w' => r = .returned (.bool (p x)) ∧ Below V.heap.size V w') :
  Calls Tryz.prog 215 #[.slice a l.length c, .func (.func N) #[] #[.pointer (some ⟨g, 0, none⟩)]] W fun r w' => r = .returned (.int .i64 (l.findIdx p : Nat)) ∧ Below W.heap.size W w' := by
 have HR := Lib.hid hr
 have HI := Lib.hid hi
 have HV := Lib.hid hv
 have HC := Lib.hid hN
 clear hr hi hv hN
 go_enter Tryz.func215, Tryz.ntmps215
 go_wp2
 go_loopw [9] (fun i wr => ∃ (j : Nat), j ≤ l.length ∧ i = .int .i64 j ∧ Hid (LowK p l j) ∧ Hid (Below W.heap.size W wr)) (fun i _ => l.length - (intOf i).toNat)
 case atStart => exact ⟨0, by omega, rfl, LowK.zero _ _, Below.refl _ _⟩
 case round =>
  obtain ⟨j, hj, rfl, HO, HB⟩ := hrel
  by_cases hjl : j < l.length
  ·obtain ⟨b, off, rfl, hbl, hc0, hc1, hc2, hc3⟩ := (HR.out.below HB.out).at_ hjl
   have hb1 := below_one wr (.cells #[.int .i64 l[j].n, .string l[j].u, .int .i64 l[j].s, .int .i64 l[j].f] 184)
   have HB1 := Lib.hid (HB.out.trans (hb1.mono HB.out.size))
   have HCC := Lib.hid (HC.out l[j] (List.getElem_mem hjl) _ (HV.out _ _ HI.out HB1.out))
   have HNX := Lib.hid (HO.out.next hjl)
   have HHT := Lib.hid (HO.out.hit hjl)
   clear hb1 HC HV HI
   generalize l[j] = x at *
   cases hb : p x with
   | false =>
    have HN := Lib.hid (HNX.out hb)
    rw [hb] at HCC
    clear HNX HHT hb
    go_wp2_with fail
    refine HCC.out.mono ?_
    rintro r w2 ⟨rfl, hB⟩
    go_wp2
    go_roundw
    case rel => exact ⟨j + 1, by omega, by go_num, HN, HB1.out.trans (hB.mono HB1.out.size)⟩
    case measure => simp [intOf]; omega
   | true =>
    have HN := Lib.hid (HHT.out hb)
    rw [hb] at HCC
    clear HNX HHT hb
    go_wp2_with fail
    refine HCC.out.mono ?_
    rintro r w2 ⟨rfl, hB⟩
    go_wp2
    go_ret
    exact ⟨by rw [HN.out]; rfl, HB1.out.trans (hB.mono HB1.out.size)⟩
  ·obtain rfl : j = l.length := by omega
   have HE := Lib.hid HO.out.miss
   go_wp2
   go_ret
   exact ⟨by rw [HE.out]; rfl, HB.out⟩
set_option maxHeartbeats 4000000 in
theorem find_en (a : Option Addr) (c : Nat) (l : List EnM) (N g : Nat) (p : EnM → Bool) (Inv : World → Prop) (W : World) (hr : EnSl W a l) (hi : Inv W) (hl : l.length ≤ 1000000) (hF : ∀ args V, Sem.run Tryz.prog (callFunc N args) V = .ok (.enter N args) V)
  (hv : ∀ W W', Inv W → Below W.heap.size W W' → Inv W') (hN : ∀ x ∈ l, ∀ V, Inv V → Calls Tryz.prog N #[.agg #[.string x.w, .string x.u, .int .i64 x.f, .int .i64 x.t], .pointer (some ⟨g, 0, none⟩)] V fun r w' => r = .returned (.bool (p x)) ∧ Below V.heap.size V w') :
  Calls Tryz.prog 222 #[.slice a l.length c, .func (.func N) #[] #[.pointer (some ⟨g, 0, none⟩)]] W fun r w' => r = .returned (.int .i64 (l.findIdx p : Nat)) ∧ Below W.heap.size W w' := by
 have HR := Lib.hid hr
 have HI := Lib.hid hi
 have HV := Lib.hid hv
 have HC := Lib.hid hN
 clear hr hi hv hN
 go_enter Tryz.func222, Tryz.ntmps222
 go_wp2
 go_loopw [9] (fun i wr => ∃ (j : Nat), j ≤ l.length ∧ i = .int .i64 j ∧ Hid (LowK p l j) ∧ Hid (Below W.heap.size W wr)) (fun i _ => l.length - (intOf i).toNat)
 case atStart => exact ⟨0, by omega, rfl, LowK.zero _ _, Below.refl _ _⟩
 case round =>
  obtain ⟨j, hj, rfl, HO, HB⟩ := hrel
  by_cases hjl : j < l.length
  ·obtain ⟨b, off, rfl, hbl, hc0, hc1, hc2, hc3⟩ := (HR.out.below HB.out).at_ hjl
   have hb1 := below_one wr (.cells #[.string l[j].w, .string l[j].u, .int .i64 l[j].f, .int .i64 l[j].t] 165)
   have HB1 := Lib.hid (HB.out.trans (hb1.mono HB.out.size))
   have HCC := Lib.hid (HC.out l[j] (List.getElem_mem hjl) _ (HV.out _ _ HI.out HB1.out))
   have HNX := Lib.hid (HO.out.next hjl)
   have HHT := Lib.hid (HO.out.hit hjl)
   clear hb1 HC HV HI
   generalize l[j] = x at *
   cases hb : p x with
   | false =>
    have HN := Lib.hid (HNX.out hb)
    rw [hb] at HCC
    clear HNX HHT hb
    go_wp2_with fail
    refine HCC.out.mono ?_
    rintro r w2 ⟨rfl, hB⟩
    go_wp2
    go_roundw
    case rel => exact ⟨j + 1, by omega, by go_num, HN, HB1.out.trans (hB.mono HB1.out.size)⟩
    case measure => simp [intOf]; omega
   | true =>
    have HN := Lib.hid (HHT.out hb)
    rw [hb] at HCC
    clear HNX HHT hb
    go_wp2_with fail
    refine HCC.out.mono ?_
    rintro r w2 ⟨rfl, hB⟩
    go_wp2
    go_ret
    exact ⟨by rw [HN.out]; rfl, HB1.out.trans (hB.mono HB1.out.size)⟩
  ·obtain rfl : j = l.length := by omega
   have HE := Lib.hid HO.out.miss
   go_wp2
   go_ret
   exact ⟨by rw [HE.out]; rfl, HB.out⟩
set_option maxHeartbeats 4000000 in
theorem find_st (a : Option Addr) (c : Nat) (l : List StM) (N g : Nat) (p : StM → Bool) (Inv : World → Prop) (W : World) (hr : StSl W a l) (hi : Inv W) (hl : l.length ≤ 1000000) (hF : ∀ args V, Sem.run Tryz.prog (callFunc N args) V = .ok (.enter N args) V)
  (hv : ∀ W W', Inv W → Below W.heap.size W W' → Inv W') (hN : ∀ x ∈ l, ∀ V, Inv V → Calls Tryz.prog N #[.agg #[.int .i64 x.f, .int .i64 x.t, .int .i64 x.n, .int .i64 x.s], .pointer (some ⟨g, 0, none⟩)] V fun r w' => r = .returned (.bool (p x)) ∧ Below V.heap.size V w') :
  Calls Tryz.prog 254 #[.slice a l.length c, .func (.func N) #[] #[.pointer (some ⟨g, 0, none⟩)]] W fun r w' => r = .returned (.int .i64 (l.findIdx p : Nat)) ∧ Below W.heap.size W w' := by
 have HR := Lib.hid hr
 have HI := Lib.hid hi
 have HV := Lib.hid hv
 have HC := Lib.hid hN
 clear hr hi hv hN
 go_enter Tryz.func254, Tryz.ntmps254
 go_wp2
 go_loopw [9] (fun i wr => ∃ (j : Nat), j ≤ l.length ∧ i = .int .i64 j ∧ Hid (LowK p l j) ∧ Hid (Below W.heap.size W wr)) (fun i _ => l.length - (intOf i).toNat)
 case atStart => exact ⟨0, by omega, rfl, LowK.zero _ _, Below.refl _ _⟩
 case round =>
  obtain ⟨j, hj, rfl, HO, HB⟩ := hrel
  by_cases hjl : j < l.length
  ·obtain ⟨b, off, rfl, hbl, hc0, hc1, hc2, hc3⟩ := (HR.out.below HB.out).at_ hjl
   have hb1 := below_one wr (.cells #[.int .i64 l[j].f, .int .i64 l[j].t, .int .i64 l[j].n, .int .i64 l[j].s] 111)
   have HB1 := Lib.hid (HB.out.trans (hb1.mono HB.out.size))
   have HCC := Lib.hid (HC.out l[j] (List.getElem_mem hjl) _ (HV.out _ _ HI.out HB1.out))
   have HNX := Lib.hid (HO.out.next hjl)
   have HHT := Lib.hid (HO.out.hit hjl)
   clear hb1 HC HV HI
   generalize l[j] = x at *
   cases hb : p x with
   | false =>
    have HN := Lib.hid (HNX.out hb)
    rw [hb] at HCC
    clear HNX HHT hb
    go_wp2_with fail
    refine HCC.out.mono ?_
    rintro r w2 ⟨rfl, hB⟩
    go_wp2
    go_roundw
    case rel => exact ⟨j + 1, by omega, by go_num, HN, HB1.out.trans (hB.mono HB1.out.size)⟩
    case measure => simp [intOf]; omega
   | true =>
    have HN := Lib.hid (HHT.out hb)
    rw [hb] at HCC
    clear HNX HHT hb
    go_wp2_with fail
    refine HCC.out.mono ?_
    rintro r w2 ⟨rfl, hB⟩
    go_wp2
    go_ret
    exact ⟨by rw [HN.out]; rfl, HB1.out.trans (hB.mono HB1.out.size)⟩
  ·obtain rfl : j = l.length := by omega
   have HE := Lib.hid HO.out.miss
   go_wp2
   go_ret
   exact ⟨by rw [HE.out]; rfl, HB.out⟩
set_option maxHeartbeats 1000000 in
theorem some_us (a : Option Addr) (c : Nat) (l : List UsL) (N g : Nat) (p : UsL → Bool) (Inv : World → Prop) (W : World) (hr : UsSl W a l) (hi : Inv W) (hl : l.length ≤ 1000000) (hF : ∀ args V, Sem.run Tryz.prog (callFunc N args) V = .ok (.enter N args) V)
  (hv : ∀ W W', Inv W → Below W.heap.size W W' → Inv W') (hN : ∀ x ∈ l, ∀ V, UsAt V x → Inv V → Calls Tryz.prog N #[.agg #[.string x.u, .slice x.a x.l.length x.c], .pointer (some ⟨g, 0, none⟩)] V fun r w' => r = .returned (.bool (p x)) ∧ Below V.heap.size V w') :
  Calls Tryz.prog 175 #[.slice a l.length c, .func (.func N) #[] #[.pointer (some ⟨g, 0, none⟩)]] W fun r w' => r = .returned (.bool (l.any p)) ∧ Below W.heap.size W w' := by
 have HC := Lib.hid (find_us a c l N g p Inv W hr hi hl hF hv hN)
 have HE := Lib.hid (kidx_any p l)
 clear hr hi hv hN
 generalize l.findIdx p = i at *
 go_enter Tryz.func175, Tryz.ntmps175
 go_wp2_with fail
 refine HC.out.mono ?_
 rintro r w2 ⟨rfl, hB⟩
 go_wp2
 go_ret
 exact ⟨by rw [← HE.out]; rfl, hB⟩
set_option maxHeartbeats 1000000 in
theorem allc_us (x : UsL) (N g b : Nat) (q : Bool) (W : World) (h : CapO W b (.func (.func N) #[] #[.pointer (some ⟨g, 0, none⟩)])) (hF : ∀ args V, Sem.run Tryz.prog (callFunc N args) V = .ok (.enter N args) V) (hN : ∀ V, Below W.heap.size W V → Calls Tryz.prog N #[.agg #[.string x.u, .slice x.a x.l.length x.c], .pointer (some ⟨g, 0, none⟩)] V fun r w' => r = .returned (.bool q) ∧ Below V.heap.size V w') :
  Calls Tryz.prog 176 #[.agg #[.string x.u, .slice x.a x.l.length x.c], .pointer (some ⟨b, 0, none⟩)] W fun r w' => r = .returned (.bool !q) ∧ Below W.heap.size W w' := by
 have hb := below_one W (.cells #[.string x.u, .slice x.a x.l.length x.c] 108)
 obtain ⟨c0, hg⟩ := h.below hb
 have HB := Lib.hid hb
 have HC := Lib.hid (hN _ hb)
 clear hb hg h hN
 go_enter Tryz.func176, Tryz.ntmps176
 go_wp2_with fail
 refine HC.out.mono ?_
 rintro r w2 ⟨rfl, hB⟩
 go_wp2
 go_ret
 exact ⟨rfl, HB.out.trans (hB.mono HB.out.size)⟩
set_option maxHeartbeats 1000000 in
theorem all_us (a : Option Addr) (c : Nat) (l : List UsL) (N g : Nat) (p : UsL → Bool) (Inv : World → Prop) (W : World) (hr : UsSl W a l) (hi : Inv W) (hl : l.length ≤ 1000000) (hF : ∀ args V, Sem.run Tryz.prog (callFunc N args) V = .ok (.enter N args) V)
  (hv : ∀ W W', Inv W → Below W.heap.size W W' → Inv W') (hN : ∀ x ∈ l, ∀ V, UsAt V x → Inv V → Calls Tryz.prog N #[.agg #[.string x.u, .slice x.a x.l.length x.c], .pointer (some ⟨g, 0, none⟩)] V fun r w' => r = .returned (.bool (p x)) ∧ Below V.heap.size V w') :
  Calls Tryz.prog 118 #[.slice a l.length c, .func (.func N) #[] #[.pointer (some ⟨g, 0, none⟩)]] W fun r w' => r = .returned (.bool (l.all p)) ∧ Below W.heap.size W w' := by
 have hb := below_one W (.cells #[.func (.func N) #[] #[.pointer (some ⟨g, 0, none⟩)]] 190)
 have hcap : CapO (W.alloc (.cells #[.func (.func N) #[] #[.pointer (some ⟨g, 0, none⟩)]] 190)) W.heap.size (.func (.func N) #[] #[.pointer (some ⟨g, 0, none⟩)]) := ⟨cell_of_row _ _ 0 _ _ (0, 0) (heap_alloc_new W _), by rw [size1]; omega⟩
 have HC := Lib.hid (some_us a c l 176 W.heap.size (fun x => !p x) (fun V => Inv V ∧ CapO V W.heap.size (.func (.func N) #[] #[.pointer (some ⟨g, 0, none⟩)])) _ (hr.below hb) ⟨hv _ _ hi hb, hcap⟩ hl (call_known Tryz.func176 rfl)
  (fun V V' h q => ⟨hv _ _ h.1 q, h.2.below q⟩) (fun x hx V hu h => allc_us x N g W.heap.size (p x) V h.2 hF (fun V' q => hN x hx V' (hu.below q) (hv _ _ h.1 q))))
 have HE : Hid ((!(l.any fun x => !p x)) = l.all p) := by unfold Hid; rw [List.not_any_eq_all_not]; simp
 have HB := Lib.hid hb
 clear hr hi hv hN hb hcap
 generalize (l.any fun x => !p x) = q at *
 go_enter Tryz.func118, Tryz.ntmps118
 go_wp2_with fail
 refine HC.out.mono ?_
 rintro r w2 ⟨rfl, hB⟩
 go_wp2
 go_ret
 exact ⟨by rw [← HE.out]; rfl, HB.out.trans (hB.mono HB.out.size)⟩
set_option maxHeartbeats 1000000 in
theorem some_tb (a : Option Addr) (c : Nat) (l : List TbM) (N g : Nat) (p : TbM → Bool) (Inv : World → Prop) (W : World) (hr : TbSl W a l) (hi : Inv W) (hl : l.length ≤ 1000000) (hF : ∀ args V, Sem.run Tryz.prog (callFunc N args) V = .ok (.enter N args) V)
  (hv : ∀ W W', Inv W → Below W.heap.size W W' → Inv W') (hN : ∀ x ∈ l, ∀ V, Inv V → Calls Tryz.prog N #[.agg #[.string x.u, .int .i64 x.a], .pointer (some ⟨g, 0, none⟩)] V fun r w' => r = .returned (.bool (p x)) ∧ Below V.heap.size V w') :
  Calls Tryz.prog 184 #[.slice a l.length c, .func (.func N) #[] #[.pointer (some ⟨g, 0, none⟩)]] W fun r w' => r = .returned (.bool (l.any p)) ∧ Below W.heap.size W w' := by
 have HC := Lib.hid (find_tb a c l N g p Inv W hr hi hl hF hv hN)
 have HE := Lib.hid (kidx_any p l)
 clear hr hi hv hN
 generalize l.findIdx p = i at *
 go_enter Tryz.func184, Tryz.ntmps184
 go_wp2_with fail
 refine HC.out.mono ?_
 rintro r w2 ⟨rfl, hB⟩
 go_wp2
 go_ret
 exact ⟨by rw [← HE.out]; rfl, hB⟩
set_option maxHeartbeats 1000000 in
theorem allc_tb (x : TbM) (N g b : Nat) (q : Bool) (W : World) (h : CapO W b (.func (.func N) #[] #[.pointer (some ⟨g, 0, none⟩)])) (hF : ∀ args V, Sem.run Tryz.prog (callFunc N args) V = .ok (.enter N args) V) (hN : ∀ V, Below W.heap.size W V → Calls Tryz.prog N #[.agg #[.string x.u, .int .i64 x.a], .pointer (some ⟨g, 0, none⟩)] V fun r w' => r = .returned (.bool q) ∧ Below V.heap.size V w') :
  Calls Tryz.prog 185 #[.agg #[.string x.u, .int .i64 x.a], .pointer (some ⟨b, 0, none⟩)] W fun r w' => r = .returned (.bool !q) ∧ Below W.heap.size W w' := by
 have hb := below_one W (.cells #[.string x.u, .int .i64 x.a] 141)
 obtain ⟨c0, hg⟩ := h.below hb
 have HB := Lib.hid hb
 have HC := Lib.hid (hN _ hb)
 clear hb hg h hN
 go_enter Tryz.func185, Tryz.ntmps185
 go_wp2_with fail
 refine HC.out.mono ?_
 rintro r w2 ⟨rfl, hB⟩
 go_wp2
 go_ret
 exact ⟨rfl, HB.out.trans (hB.mono HB.out.size)⟩
set_option maxHeartbeats 1000000 in
theorem all_tb (a : Option Addr) (c : Nat) (l : List TbM) (N g : Nat) (p : TbM → Bool) (Inv : World → Prop) (W : World) (hr : TbSl W a l) (hi : Inv W) (hl : l.length ≤ 1000000) (hF : ∀ args V, Sem.run Tryz.prog (callFunc N args) V = .ok (.enter N args) V)
  (hv : ∀ W W', Inv W → Below W.heap.size W W' → Inv W') (hN : ∀ x ∈ l, ∀ V, Inv V → Calls Tryz.prog N #[.agg #[.string x.u, .int .i64 x.a], .pointer (some ⟨g, 0, none⟩)] V fun r w' => r = .returned (.bool (p x)) ∧ Below V.heap.size V w') :
  Calls Tryz.prog 127 #[.slice a l.length c, .func (.func N) #[] #[.pointer (some ⟨g, 0, none⟩)]] W fun r w' => r = .returned (.bool (l.all p)) ∧ Below W.heap.size W w' := by
 have hb := below_one W (.cells #[.func (.func N) #[] #[.pointer (some ⟨g, 0, none⟩)]] 198)
 have hcap : CapO (W.alloc (.cells #[.func (.func N) #[] #[.pointer (some ⟨g, 0, none⟩)]] 198)) W.heap.size (.func (.func N) #[] #[.pointer (some ⟨g, 0, none⟩)]) := ⟨cell_of_row _ _ 0 _ _ (0, 0) (heap_alloc_new W _), by rw [size1]; omega⟩
 have HC := Lib.hid (some_tb a c l 185 W.heap.size (fun x => !p x) (fun V => Inv V ∧ CapO V W.heap.size (.func (.func N) #[] #[.pointer (some ⟨g, 0, none⟩)])) _ (hr.below hb) ⟨hv _ _ hi hb, hcap⟩ hl (call_known Tryz.func185 rfl)
  (fun V V' h q => ⟨hv _ _ h.1 q, h.2.below q⟩) (fun x hx V h => allc_tb x N g W.heap.size (p x) V h.2 hF (fun V' q => hN x hx V' (hv _ _ h.1 q))))
 have HE : Hid ((!(l.any fun x => !p x)) = l.all p) := by unfold Hid; rw [List.not_any_eq_all_not]; simp
 have HB := Lib.hid hb
 clear hr hi hv hN hb hcap
 generalize (l.any fun x => !p x) = q at *
 go_enter Tryz.func127, Tryz.ntmps127
 go_wp2_with fail
 refine HC.out.mono ?_
 rintro r w2 ⟨rfl, hB⟩
 go_wp2
 go_ret
 exact ⟨by rw [← HE.out]; rfl, HB.out.trans (hB.mono HB.out.size)⟩
set_option maxHeartbeats 1000000 in
theorem some_op (a : Option Addr) (c : Nat) (l : List OpM) (N g : Nat) (p : OpM → Bool) (Inv : World → Prop) (W : World) (hr : OpSl W a l) (hi : Inv W) (hl : l.length ≤ 1000000) (hF : ∀ args V, Sem.run Tryz.prog (callFunc N args) V = .ok (.enter N args) V)
  (hv : ∀ W W', Inv W → Below W.heap.size W W' → Inv W') (hN : ∀ x ∈ l, ∀ V, Inv V → Calls Tryz.prog N #[.agg #[.int .i64 x.n, .string x.u, .int .i64 x.s, .int .i64 x.f], .pointer (some ⟨g, 0, none⟩)] V fun r w' => r = .returned (.bool (p x)) ∧ Below V.heap.size V w') :
  Calls Tryz.prog 171 #[.slice a l.length c, .func (.func N) #[] #[.pointer (some ⟨g, 0, none⟩)]] W fun r w' => r = .returned (.bool (l.any p)) ∧ Below W.heap.size W w' := by
 have HC := Lib.hid (find_op a c l N g p Inv W hr hi hl hF hv hN)
 have HE := Lib.hid (kidx_any p l)
 clear hr hi hv hN
 generalize l.findIdx p = i at *
 go_enter Tryz.func171, Tryz.ntmps171
 go_wp2_with fail
 refine HC.out.mono ?_
 rintro r w2 ⟨rfl, hB⟩
 go_wp2
 go_ret
 exact ⟨by rw [← HE.out]; rfl, hB⟩
set_option maxHeartbeats 1000000 in
theorem allc_op (x : OpM) (N g b : Nat) (q : Bool) (W : World) (h : CapO W b (.func (.func N) #[] #[.pointer (some ⟨g, 0, none⟩)])) (hF : ∀ args V, Sem.run Tryz.prog (callFunc N args) V = .ok (.enter N args) V) (hN : ∀ V, Below W.heap.size W V → Calls Tryz.prog N #[.agg #[.int .i64 x.n, .string x.u, .int .i64 x.s, .int .i64 x.f], .pointer (some ⟨g, 0, none⟩)] V fun r w' => r = .returned (.bool q) ∧ Below V.heap.size V w') :
  Calls Tryz.prog 172 #[.agg #[.int .i64 x.n, .string x.u, .int .i64 x.s, .int .i64 x.f], .pointer (some ⟨b, 0, none⟩)] W fun r w' => r = .returned (.bool !q) ∧ Below W.heap.size W w' := by
 have hb := below_one W (.cells #[.int .i64 x.n, .string x.u, .int .i64 x.s, .int .i64 x.f] 184)
 obtain ⟨c0, hg⟩ := h.below hb
 have HB := Lib.hid hb
 have HC := Lib.hid (hN _ hb)
 clear hb hg h hN
 go_enter Tryz.func172, Tryz.ntmps172
 go_wp2_with fail
 refine HC.out.mono ?_
 rintro r w2 ⟨rfl, hB⟩
 go_wp2
 go_ret
 exact ⟨rfl, HB.out.trans (hB.mono HB.out.size)⟩
set_option maxHeartbeats 1000000 in
theorem all_op (a : Option Addr) (c : Nat) (l : List OpM) (N g : Nat) (p : OpM → Bool) (Inv : World → Prop) (W : World) (hr : OpSl W a l) (hi : Inv W) (hl : l.length ≤ 1000000) (hF : ∀ args V, Sem.run Tryz.prog (callFunc N args) V = .ok (.enter N args) V)
  (hv : ∀ W W', Inv W → Below W.heap.size W W' → Inv W') (hN : ∀ x ∈ l, ∀ V, Inv V → Calls Tryz.prog N #[.agg #[.int .i64 x.n, .string x.u, .int .i64 x.s, .int .i64 x.f], .pointer (some ⟨g, 0, none⟩)] V fun r w' => r = .returned (.bool (p x)) ∧ Below V.heap.size V w') :
  Calls Tryz.prog 114 #[.slice a l.length c, .func (.func N) #[] #[.pointer (some ⟨g, 0, none⟩)]] W fun r w' => r = .returned (.bool (l.all p)) ∧ Below W.heap.size W w' := by
 have hb := below_one W (.cells #[.func (.func N) #[] #[.pointer (some ⟨g, 0, none⟩)]] 185)
 have hcap : CapO (W.alloc (.cells #[.func (.func N) #[] #[.pointer (some ⟨g, 0, none⟩)]] 185)) W.heap.size (.func (.func N) #[] #[.pointer (some ⟨g, 0, none⟩)]) := ⟨cell_of_row _ _ 0 _ _ (0, 0) (heap_alloc_new W _), by rw [size1]; omega⟩
 have HC := Lib.hid (some_op a c l 172 W.heap.size (fun x => !p x) (fun V => Inv V ∧ CapO V W.heap.size (.func (.func N) #[] #[.pointer (some ⟨g, 0, none⟩)])) _ (hr.below hb) ⟨hv _ _ hi hb, hcap⟩ hl (call_known Tryz.func172 rfl)
  (fun V V' h q => ⟨hv _ _ h.1 q, h.2.below q⟩) (fun x hx V h => allc_op x N g W.heap.size (p x) V h.2 hF (fun V' q => hN x hx V' (hv _ _ h.1 q))))
 have HE : Hid ((!(l.any fun x => !p x)) = l.all p) := by unfold Hid; rw [List.not_any_eq_all_not]; simp
 have HB := Lib.hid hb
 clear hr hi hv hN hb hcap
 generalize (l.any fun x => !p x) = q at *
 go_enter Tryz.func114, Tryz.ntmps114
 go_wp2_with fail
 refine HC.out.mono ?_
 rintro r w2 ⟨rfl, hB⟩
 go_wp2
 go_ret
 exact ⟨by rw [← HE.out]; rfl, HB.out.trans (hB.mono HB.out.size)⟩
set_option maxHeartbeats 1000000 in
theorem some_en (a : Option Addr) (c : Nat) (l : List EnM) (N g : Nat) (p : EnM → Bool) (Inv : World → Prop) (W : World) (hr : EnSl W a l) (hi : Inv W) (hl : l.length ≤ 1000000) (hF : ∀ args V, Sem.run Tryz.prog (callFunc N args) V = .ok (.enter N args) V)
  (hv : ∀ W W', Inv W → Below W.heap.size W W' → Inv W') (hN : ∀ x ∈ l, ∀ V, Inv V → Calls Tryz.prog N #[.agg #[.string x.w, .string x.u, .int .i64 x.f, .int .i64 x.t], .pointer (some ⟨g, 0, none⟩)] V fun r w' => r = .returned (.bool (p x)) ∧ Below V.heap.size V w') :
  Calls Tryz.prog 182 #[.slice a l.length c, .func (.func N) #[] #[.pointer (some ⟨g, 0, none⟩)]] W fun r w' => r = .returned (.bool (l.any p)) ∧ Below W.heap.size W w' := by
 have HC := Lib.hid (find_en a c l N g p Inv W hr hi hl hF hv hN)
 have HE := Lib.hid (kidx_any p l)
 clear hr hi hv hN
 generalize l.findIdx p = i at *
 go_enter Tryz.func182, Tryz.ntmps182
 go_wp2_with fail
 refine HC.out.mono ?_
 rintro r w2 ⟨rfl, hB⟩
 go_wp2
 go_ret
 exact ⟨by rw [← HE.out]; rfl, hB⟩
set_option maxHeartbeats 1000000 in
theorem allc_en (x : EnM) (N g b : Nat) (q : Bool) (W : World) (h : CapO W b (.func (.func N) #[] #[.pointer (some ⟨g, 0, none⟩)])) (hF : ∀ args V, Sem.run Tryz.prog (callFunc N args) V = .ok (.enter N args) V) (hN : ∀ V, Below W.heap.size W V → Calls Tryz.prog N #[.agg #[.string x.w, .string x.u, .int .i64 x.f, .int .i64 x.t], .pointer (some ⟨g, 0, none⟩)] V fun r w' => r = .returned (.bool q) ∧ Below V.heap.size V w') :
  Calls Tryz.prog 183 #[.agg #[.string x.w, .string x.u, .int .i64 x.f, .int .i64 x.t], .pointer (some ⟨b, 0, none⟩)] W fun r w' => r = .returned (.bool !q) ∧ Below W.heap.size W w' := by
 have hb := below_one W (.cells #[.string x.w, .string x.u, .int .i64 x.f, .int .i64 x.t] 165)
 obtain ⟨c0, hg⟩ := h.below hb
 have HB := Lib.hid hb
 have HC := Lib.hid (hN _ hb)
 clear hb hg h hN
 go_enter Tryz.func183, Tryz.ntmps183
 go_wp2_with fail
 refine HC.out.mono ?_
 rintro r w2 ⟨rfl, hB⟩
 go_wp2
 go_ret
 exact ⟨rfl, HB.out.trans (hB.mono HB.out.size)⟩
set_option maxHeartbeats 1000000 in
theorem all_en (a : Option Addr) (c : Nat) (l : List EnM) (N g : Nat) (p : EnM → Bool) (Inv : World → Prop) (W : World) (hr : EnSl W a l) (hi : Inv W) (hl : l.length ≤ 1000000) (hF : ∀ args V, Sem.run Tryz.prog (callFunc N args) V = .ok (.enter N args) V)
  (hv : ∀ W W', Inv W → Below W.heap.size W W' → Inv W') (hN : ∀ x ∈ l, ∀ V, Inv V → Calls Tryz.prog N #[.agg #[.string x.w, .string x.u, .int .i64 x.f, .int .i64 x.t], .pointer (some ⟨g, 0, none⟩)] V fun r w' => r = .returned (.bool (p x)) ∧ Below V.heap.size V w') :
  Calls Tryz.prog 122 #[.slice a l.length c, .func (.func N) #[] #[.pointer (some ⟨g, 0, none⟩)]] W fun r w' => r = .returned (.bool (l.all p)) ∧ Below W.heap.size W w' := by
 have hb := below_one W (.cells #[.func (.func N) #[] #[.pointer (some ⟨g, 0, none⟩)]] 194)
 have hcap : CapO (W.alloc (.cells #[.func (.func N) #[] #[.pointer (some ⟨g, 0, none⟩)]] 194)) W.heap.size (.func (.func N) #[] #[.pointer (some ⟨g, 0, none⟩)]) := ⟨cell_of_row _ _ 0 _ _ (0, 0) (heap_alloc_new W _), by rw [size1]; omega⟩
 have HC := Lib.hid (some_en a c l 183 W.heap.size (fun x => !p x) (fun V => Inv V ∧ CapO V W.heap.size (.func (.func N) #[] #[.pointer (some ⟨g, 0, none⟩)])) _ (hr.below hb) ⟨hv _ _ hi hb, hcap⟩ hl (call_known Tryz.func183 rfl)
  (fun V V' h q => ⟨hv _ _ h.1 q, h.2.below q⟩) (fun x hx V h => allc_en x N g W.heap.size (p x) V h.2 hF (fun V' q => hN x hx V' (hv _ _ h.1 q))))
 have HE : Hid ((!(l.any fun x => !p x)) = l.all p) := by unfold Hid; rw [List.not_any_eq_all_not]; simp
 have HB := Lib.hid hb
 clear hr hi hv hN hb hcap
 generalize (l.any fun x => !p x) = q at *
 go_enter Tryz.func122, Tryz.ntmps122
 go_wp2_with fail
 refine HC.out.mono ?_
 rintro r w2 ⟨rfl, hB⟩
 go_wp2
 go_ret
 exact ⟨by rw [← HE.out]; rfl, HB.out.trans (hB.mono HB.out.size)⟩
set_option maxHeartbeats 1000000 in
theorem some_st (a : Option Addr) (c : Nat) (l : List StM) (N g : Nat) (p : StM → Bool) (Inv : World → Prop) (W : World) (hr : StSl W a l) (hi : Inv W) (hl : l.length ≤ 1000000) (hF : ∀ args V, Sem.run Tryz.prog (callFunc N args) V = .ok (.enter N args) V)
  (hv : ∀ W W', Inv W → Below W.heap.size W W' → Inv W') (hN : ∀ x ∈ l, ∀ V, Inv V → Calls Tryz.prog N #[.agg #[.int .i64 x.f, .int .i64 x.t, .int .i64 x.n, .int .i64 x.s], .pointer (some ⟨g, 0, none⟩)] V fun r w' => r = .returned (.bool (p x)) ∧ Below V.heap.size V w') :
  Calls Tryz.prog 218 #[.slice a l.length c, .func (.func N) #[] #[.pointer (some ⟨g, 0, none⟩)]] W fun r w' => r = .returned (.bool (l.any p)) ∧ Below W.heap.size W w' := by
 have HC := Lib.hid (find_st a c l N g p Inv W hr hi hl hF hv hN)
 have HE := Lib.hid (kidx_any p l)
 clear hr hi hv hN
 generalize l.findIdx p = i at *
 go_enter Tryz.func218, Tryz.ntmps218
 go_wp2_with fail
 refine HC.out.mono ?_
 rintro r w2 ⟨rfl, hB⟩
 go_wp2
 go_ret
 exact ⟨by rw [← HE.out]; rfl, hB⟩
set_option maxHeartbeats 1000000 in
theorem allc_st (x : StM) (N g b : Nat) (q : Bool) (W : World) (h : CapO W b (.func (.func N) #[] #[.pointer (some ⟨g, 0, none⟩)])) (hF : ∀ args V, Sem.run Tryz.prog (callFunc N args) V = .ok (.enter N args) V) (hN : ∀ V, Below W.heap.size W V → Calls Tryz.prog N #[.agg #[.int .i64 x.f, .int .i64 x.t, .int .i64 x.n, .int .i64 x.s], .pointer (some ⟨g, 0, none⟩)] V fun r w' => r = .returned (.bool q) ∧ Below V.heap.size V w') :
  Calls Tryz.prog 219 #[.agg #[.int .i64 x.f, .int .i64 x.t, .int .i64 x.n, .int .i64 x.s], .pointer (some ⟨b, 0, none⟩)] W fun r w' => r = .returned (.bool !q) ∧ Below W.heap.size W w' := by
 have hb := below_one W (.cells #[.int .i64 x.f, .int .i64 x.t, .int .i64 x.n, .int .i64 x.s] 111)
 obtain ⟨c0, hg⟩ := h.below hb
 have HB := Lib.hid hb
 have HC := Lib.hid (hN _ hb)
 clear hb hg h hN
 go_enter Tryz.func219, Tryz.ntmps219
 go_wp2_with fail
 refine HC.out.mono ?_
 rintro r w2 ⟨rfl, hB⟩
 go_wp2
 go_ret
 exact ⟨rfl, HB.out.trans (hB.mono HB.out.size)⟩
set_option maxHeartbeats 1000000 in
theorem all_st (a : Option Addr) (c : Nat) (l : List StM) (N g : Nat) (p : StM → Bool) (Inv : World → Prop) (W : World) (hr : StSl W a l) (hi : Inv W) (hl : l.length ≤ 1000000) (hF : ∀ args V, Sem.run Tryz.prog (callFunc N args) V = .ok (.enter N args) V)
  (hv : ∀ W W', Inv W → Below W.heap.size W W' → Inv W') (hN : ∀ x ∈ l, ∀ V, Inv V → Calls Tryz.prog N #[.agg #[.int .i64 x.f, .int .i64 x.t, .int .i64 x.n, .int .i64 x.s], .pointer (some ⟨g, 0, none⟩)] V fun r w' => r = .returned (.bool (p x)) ∧ Below V.heap.size V w') :
  Calls Tryz.prog 178 #[.slice a l.length c, .func (.func N) #[] #[.pointer (some ⟨g, 0, none⟩)]] W fun r w' => r = .returned (.bool (l.all p)) ∧ Below W.heap.size W w' := by
 have hb := below_one W (.cells #[.func (.func N) #[] #[.pointer (some ⟨g, 0, none⟩)]] 237)
 have hcap : CapO (W.alloc (.cells #[.func (.func N) #[] #[.pointer (some ⟨g, 0, none⟩)]] 237)) W.heap.size (.func (.func N) #[] #[.pointer (some ⟨g, 0, none⟩)]) := ⟨cell_of_row _ _ 0 _ _ (0, 0) (heap_alloc_new W _), by rw [size1]; omega⟩
 have HC := Lib.hid (some_st a c l 219 W.heap.size (fun x => !p x) (fun V => Inv V ∧ CapO V W.heap.size (.func (.func N) #[] #[.pointer (some ⟨g, 0, none⟩)])) _ (hr.below hb) ⟨hv _ _ hi hb, hcap⟩ hl (call_known Tryz.func219 rfl)
  (fun V V' h q => ⟨hv _ _ h.1 q, h.2.below q⟩) (fun x hx V h => allc_st x N g W.heap.size (p x) V h.2 hF (fun V' q => hN x hx V' (hv _ _ h.1 q))))
 have HE : Hid ((!(l.any fun x => !p x)) = l.all p) := by unfold Hid; rw [List.not_any_eq_all_not]; simp
 have HB := Lib.hid hb
 clear hr hi hv hN hb hcap
 generalize (l.any fun x => !p x) = q at *
 go_enter Tryz.func178, Tryz.ntmps178
 go_wp2_with fail
 refine HC.out.mono ?_
 rintro r w2 ⟨rfl, hB⟩
 go_wp2
 go_ret
 exact ⟨by rw [← HE.out]; rfl, HB.out.trans (hB.mono HB.out.size)⟩
end Go.Proofs.YtapacckmgmdnoaaGreat
