/- Texts of mine, one behind the other, of each what is wanted. -/
import Derived.Test.YtapacckmgmdnoaaGreatR00
import Derived.Test.YtapacckmgmdnoaaGreatShelf
import Derived.Test.YtapacckmgmdnoaaGreatRows
import Derived.Test.YtapacckmgmdnoaaGreatR01
import Derived.Test.YtapacckmgmdnoaaGreatR03
import Derived.Test.YtapacckmgmdnoaaGreatR04
import Derived.Test.YtapacckmgmdnoaaGreatR05
import Derived.Test.YtapacckmgmdnoaaGreatR07
import Derived.Test.YtapacckmgmdnoaaGreatR08
import Derived.Test.YtapacckmgmdnoaaGreatR13
import Derived.Test.YtapacckmgmdnoaaGreatR14
import Derived.Test.YtapacckmgmdnoaaGreatR15
import Derived.Test.YtapacckmgmdnoaaGreatR18
import Derived.Test.YtapacckmgmdnoaaGreatR20
import Derived.Test.YtapacckmgmdnoaaGreatR21
import Derived.Test.YtapacckmgmdnoaaGreatR26
import Derived.Test.YtapacckmgmdnoaaGreatR27
namespace Go.Proofs.YtapacckmgmdnoaaGreat
open Go.RowKit Go.Proofs
set_option linter.unusedVariables false
set_option maxRecDepth 100000
set_option maxRecDepth 100000
theorem IsPut.mem {α : Type} {key : α → ByteArray} {l L : List α} {p : α} (h : IsPut key l p L) : (∀ y ∈ L, y = p ∨ y ∈ l) ∧ L.length ≤ l.length + 1 := by
 obtain ⟨k, _, ⟨rfl, _⟩ | ⟨hk, _, rfl⟩⟩ := h
 ·refine ⟨fun y hy => ?_, ?_⟩
  ·rcases List.mem_append.1 hy with h1 | h1
   ·exact .inr (List.mem_of_mem_take h1)
   ·rcases List.mem_cons.1 h1 with h1 | h1
    ·exact .inl h1
    ·exact .inr (List.mem_of_mem_drop h1)
  ·rw [List.length_append, List.length_cons, List.length_take, List.length_drop]; omega
 ·refine ⟨fun y hy => ?_, ?_⟩
  ·rcases List.mem_append.1 hy with h1 | h1
   ·exact .inr (List.mem_of_mem_take h1)
   ·rcases List.mem_cons.1 h1 with h1 | h1
    ·exact .inl h1
    ·exact .inr (List.mem_of_mem_drop h1)
  ·rw [List.length_append, List.length_cons, List.length_take, List.length_drop]; omega
theorem IsPut.us {D L : List UsL} {p : UsL} (h : IsPut UsL.u D p L) (hr : RiseK UsM.u (umS D)) : umS L = insK UsM.u p.u [p.m] (umS D) := by
 obtain ⟨k, hk, ⟨rfl, hn⟩ | ⟨hk, he, rfl⟩⟩ := h
 ·exact put_new hr hk hn
 ·exact put_old hr hk he
theorem IsPut.tb {D L : List TbM} {p : TbM} (h : IsPut TbM.u D p L) (hr : RiseK TbM.u D) : L = insK TbM.u p.u [p] D := by
 obtain ⟨k, hk, ⟨rfl, hn⟩ | ⟨hk, he, rfl⟩⟩ := h
 ·exact tput_new hr hk hn
 ·exact tput_old hr hk he
theorem put_us (a : Option Addr) (c : Nat) (D : List UsL) (p : UsL) (w : World) (hr : UsSl w a D) (hp : UsAt w p) (hc : Cp a D.length c) (hl : D.length ≤ 1000) :
  Calls Tryz.prog 230 #[.slice a D.length c, .agg #[.string p.u, .slice p.a p.l.length p.c], .func (.func 117) #[] #[]] w fun e w' => ∃ x q L, e = .returned (.slice x L.length q) ∧ UsSl w' x L ∧ Cp x L.length q ∧ IsPut UsL.u D p L ∧ Below w.heap.size w w' := by
 refine (put_core_us a c D p w hr hc hl).mono ?_
 rintro e w' ⟨v, L, rfl, ho, hi, hb⟩
 rw [List.length_map] at ho
 obtain ⟨x, q, rfl, h1, h2, h3, h4⟩ := own_us ho
 exact ⟨x, q, L, rfl, ⟨h3, fun y hy => by
  rcases hi.mem.1 y hy with rfl | h5
  ·exact hp.below hb
  ·exact (hr.at_ y h5).below hb⟩, ⟨h1, h2, h4⟩, hi, hb⟩
theorem put_tb (a : Option Addr) (c : Nat) (D : List TbM) (p : TbM) (w : World) (hr : TbSl w a D) (hc : Cp a D.length c) (hl : D.length ≤ 1000) :
  Calls Tryz.prog 239 #[.slice a D.length c, .agg #[.string p.u, .int .i64 p.a], .func (.func 126) #[] #[]] w fun e w' => ∃ x q L, e = .returned (.slice x L.length q) ∧ TbSl w' x L ∧ Cp x L.length q ∧ IsPut TbM.u D p L ∧ Below w.heap.size w w' := by
 refine (put_core_tb a c D p w hr hc hl).mono ?_
 rintro e w' ⟨v, L, rfl, ho, hi, hb⟩
 rw [List.length_map] at ho
 obtain ⟨x, q, rfl, h1, h2, h3, h4⟩ := own_tb ho
 exact ⟨x, q, L, rfl, h3, ⟨h1, h2, h4⟩, hi, hb⟩
theorem ins_same {l : List UsM} (hr : RiseK UsM.u l) {u : ByteArray} (h : ofU l u ≠ []) : insK UsM.u u [⟨u, ofU l u⟩] l = l := by
 have hm : (⟨u, ofU l u⟩ : UsM) ∈ l := by
  rcases ofU_cases l u with h1 | h1
  ·exact absurd h1 h
  ·exact h1
 refine riseK_ext (insK_rise hr (fun x hx => by rw [List.mem_singleton.1 hx]) (by simp)) hr fun x => ?_
 rw [insK_mem, List.mem_singleton]
 constructor
 ·rintro (rfl | ⟨h1, _⟩)
  ·exact hm
  ·exact h1
 ·intro hx
  by_cases hu : x.u = u
  ·exact .inl (riseK_one hr hx hm hu)
  ·exact .inr ⟨hx, hu⟩
theorem with_addU {l : List UsM} (hr : RiseK UsM.u l) {u : ByteArray} {x : StM} (h : addS (ofU l u) x ≠ []) : insK UsM.u u [⟨u, addS (ofU l u) x⟩] l = addU l u x := by
 unfold addU
 split
 ·rename_i h1
  unfold putU rowU
  rw [if_neg (by simpa using h)]
 ·rename_i h1
  have e : addS (ofU l u) x = ofU l u := by unfold addS; rw [if_pos (by omega)]
  rw [e] at h ⊢
  exact ins_same hr h
theorem with_none {l : List UsM} {u : ByteArray} {x : StM} (h : addS (ofU l u) x = []) : addU l u x = l := by
 unfold addU
 rw [if_neg]
 intro h1
 exact addS_some h1 h
structure WsK (w : World) (g : Nat) (s : StM) (a : Option Addr) (D : List UsL) (W : World) : Prop where
 s : W.heap[g]? = some (.cells #[.int .i64 s.f, .int .i64 s.t, .int .i64 s.n, .int .i64 s.s] 111 (0, 0))
 row : UsSl W a D
 frame : Below w.heap.size w W
theorem WsK.below {w W W' : World} {g : Nat} {s : StM} {a : Option Addr} {D : List UsL} (h : WsK w g s a D W) (q : Below W.heap.size W W') : WsK w g s a D W' := ⟨(q.block _ (heap_lt h.s)).trans h.s, h.row.below q, h.frame.trans (q.mono h.frame.size)⟩
set_option maxHeartbeats 4000000 in
theorem withStay_any (a : Option Addr) (c : Nat) (D : List UsL) (u : ByteArray) (s : StM) (w : World) (hr : UsSl w a D) (hc : Cp a D.length c) (hk : RiseK UsM.u (umS D)) (hl : D.length ≤ 900) (hs : ∀ y ∈ D, y.l.length ≤ 900) :
  Calls Tryz.prog 194 #[.slice a D.length c, .string u, stV s] w fun e w' => ∃ x q L, e = .returned (.slice x L.length q) ∧ UsSl w' x L ∧ Cp x L.length q ∧ umS L = addU (umS D) u s ∧ Below w.heap.size w w' := by
 have hb := below_one w (.cells #[.int .i64 s.f, .int .i64 s.t, .int .i64 s.n, .int .i64 s.s] 111)
 have K0 : WsK w w.heap.size s a D (w.alloc (.cells #[.int .i64 s.f, .int .i64 s.t, .int .i64 s.n, .int .i64 s.s] 111)) := ⟨heap_alloc_new w _, hr.below hb, hb⟩
 have HSO := Lib.hid (fun V (h : UsSl V a D) => staysOf_any a c D u V h (by omega))
 have hlen : (ofU (umS D) u).length ≤ 900 := by
  rcases fst_key (D := D) (u := u) rfl with ⟨_, h2⟩ | ⟨h1, h2, _⟩
  ·rw [h2]; simp
  ·rw [h2]; exact hs _ (List.getElem_mem h1)
 have HAD := Lib.hid (fun x q V (h : StSl V x (ofU (umS D) u)) (k : Cp x (ofU (umS D) u).length q) => add8_any x q (ofU (umS D) u) s V h k.nil (by omega) k.le k.mx)
 have HPU := Lib.hid (fun p V (h : UsSl V a D) (k : UsAt V p) => put_us a c D p V h k hc (by omega))
 have HW1 := Lib.hid (fun h => with_addU (u := u) (x := s) hk h)
 have HW2 := Lib.hid (fun h => with_none (l := umS D) (u := u) (x := s) h)
 have HSC : Hid (∀ V, WsK w w.heap.size s a D V → V.cell? ⟨w.heap.size, 0, none⟩ = some (.int .i64 s.f) ∧ V.cell? ⟨w.heap.size, 1, none⟩ = some (.int .i64 s.t) ∧ V.cell? ⟨w.heap.size, 2, none⟩ = some (.int .i64 s.n) ∧ V.cell? ⟨w.heap.size, 3, none⟩ = some (.int .i64 s.s)) := fun V h => cells4 h.s
 have HCP := Lib.hid hc
 have K1 := K0.below (Below.refl _ _).drew
 unfold stV at *
 clear hr hc hs hb K0
 generalize hO : ofU (umS D) u = o at *
 clear hlen
 go_enter Tryz.func194, Tryz.ntmps194
 go_wp2_with fail
 go_region_held3 (fun V => V.cell? ⟨w.heap.size, 0, none⟩ = some (.int .i64 s.f) ∧ V.cell? ⟨w.heap.size, 1, none⟩ = some (.int .i64 s.t) ∧ V.cell? ⟨w.heap.size, 2, none⟩ = some (.int .i64 s.n) ∧ V.cell? ⟨w.heap.size, 3, none⟩ = some (.int .i64 s.s))
  (first | with_reducible exact HSC.out _ K3 | with_reducible exact HSC.out _ K2 | with_reducible exact HSC.out _ K1)
  (first | (have hseen := K2; clear hseen; go_at_call 56; refine (HAD.out x2 q2 _ z2 p2).mono ?_; rintro e w3 ⟨v3, rfl, ho3, h3⟩; have K3 := K2.below h3) | (have hseen := K1; clear hseen; go_at_call 90; refine (HSO.out _ K1.row).mono ?_; rintro e w2 ⟨x2, q2, rfl, z2, p2, h2⟩; have K2 := K1.below h2))
 obtain ⟨x3, q3, rfl, i1, i2, i3, i4⟩ := own_st ho3
 have HI : Hid (UsAt w3 ⟨u, x3, addS o s, q3⟩) := ⟨i3, i1, i2, i4⟩
 have HK := Lib.hid K3
 clear K1 K2 K3 z2 p2 h2 h3 ho3 i1 i2 i3 i4 HSO HAD HSC
 by_cases hz : addS o s = []
 ·have HE := Lib.hid (HW2.out hz)
  have hl0 : ((addS o s).length == 0) = true := by rw [hz]; rfl
  have hl1 : (((addS o s).length : Int) == 0) = true := by rw [hz]; rfl
  clear HW1 HW2 HPU HI hz
  generalize (addS o s).length = n at *
  go_wp2
  go_ret
  exact ⟨a, c, D, rfl, HK.out.row, HCP.out, HE.out.symm, HK.out.frame⟩
 ·have HE := Lib.hid (HW1.out hz)
  have hn : ¬ (addS o s).length = 0 := fun h => hz (List.eq_nil_of_length_eq_zero h)
  have hl0 : ((addS o s).length == 0) = false := beq_eq_false_iff_ne.2 hn
  have hl1 : (((addS o s).length : Int) == 0) = false := beq_eq_false_iff_ne.2 (by omega)
  have HP2 := Lib.hid (HPU.out ⟨u, x3, addS o s, q3⟩)
  have HFI : Hid (∀ L, IsPut UsL.u D ⟨u, x3, addS o s, q3⟩ L → umS L = addU (umS D) u s) := fun L h => (h.us hk).trans HE.out
  dsimp only at HP2
  clear HW1 HW2 HPU HE hz hn
  generalize addS o s = r at *
  go_wp2_with fail
  refine (HP2.out _ HK.out.row HI.out).mono ?_
  rintro e w4 ⟨x4, q4, L, rfl, h1, h2, h3, h4⟩
  have HR := Lib.hid (And.intro h1 (And.intro h2 (And.intro (HFI.out L h3) (HK.out.below h4).frame)))
  clear h1 h2 h3 h4 HK HI HP2 HFI
  go_wp2
  go_ret
  exact ⟨x4, q4, L, rfl, HR.out.1, HR.out.2.1, HR.out.2.2.1, HR.out.2.2.2⟩
end Go.Proofs.YtapacckmgmdnoaaGreat
namespace Go.Proofs.YtapacckmgmdnoaaGreat
open Go.RowKit Go.Shelf Go.Sort
set_option linter.unusedVariables false
set_option maxRecDepth 100000
section plain
theorem both (x y : List UInt8) (h1 : ltOf Lib.compareBytes x y = false) (h2 : ltOf Lib.compareBytes y x = false) : x = y := by
 unfold ltOf at *
 rw [decide_eq_false_iff_not] at *
 have a := cb_neg x y
 exact cb_eq x y (by omega)
end plain
end Go.Proofs.YtapacckmgmdnoaaGreat
namespace Go.Proofs.YtapacckmgmdnoaaGreat
open Go.RowKit Go.Sort Go.Proofs
set_option linter.unusedVariables false
set_option maxRecDepth 100000
set_option maxRecDepth 100000
theorem ofil_take (q : OpM → Bool) (l : List OpM) (j : Nat) (h : j < l.length) : (l.take (j + 1)).filter q = (l.take j).filter q ++ (if q l[j] = true then [l[j]] else []) := by
 rw [List.take_succ_eq_append_getElem h, List.filter_append, List.filter_cons, List.filter_nil]
theorem ofil_len (q : OpM → Bool) (l : List OpM) (j : Nat) : ((l.take j).filter q).length ≤ j := Nat.le_trans (List.length_filter_le _ _) (by simp; omega)
set_option maxHeartbeats 2000000 in
theorem owithout_any (a : Option Addr) (c : Nat) (l : List OpM) (u : ByteArray) (w : World) (hr : OpSl w a l) (hl : l.length ≤ 100000) :
  Calls Tryz.prog 235 #[.slice a l.length c, .string u] w fun e w' => ∃ v, e = .returned v ∧ w'.ownsRow w.heap.size 184 4 v (l.filter (notU u)).length (oes (l.filter (notU u))) ∧ Below w.heap.size w w' := by
 obtain ⟨i0, hi, hz0, hz1, hz2⟩ := info_parts infoOp
 have HR := Lib.hid hr
 clear hr
 go_enter Tryz.func235, Tryz.ntmps235
 go_wp2
 go_loopw [5, 10] (fun v i wr => ∃ (j : Nat), j ≤ l.length ∧ i = .int .i64 j ∧ Hid (wr.ownsRow w.heap.size 184 4 v ((l.take j).filter (notU u)).length (oes ((l.take j).filter (notU u)))) ∧ Hid (Below w.heap.size w wr)) (fun _ i _ => l.length - (intOf i).toNat)
 case atStart => exact ⟨0, by omega, rfl, ⟨rfl, .inl ⟨rfl, rfl⟩⟩, Below.refl _ _⟩
 case round =>
  obtain ⟨j, hj, rfl, HO, HB⟩ := hrel
  by_cases hjl : j < l.length
  ·obtain ⟨b, off, rfl, hbl, hc0, hc1, hc2, hc3⟩ := (HR.out.below HB.out).at_ hjl
   have HT := Lib.hid (ofil_take (notU u) l j hjl)
   have HLN := Lib.hid (ofil_len (notU u) l j)
   generalize l[j] = x at *
   generalize (l.take j).filter (notU u) = m at *
   have HX := heap_alloc_new wr (.cells #[.int .i64 x.n, .string x.u, .int .i64 x.s, .int .i64 x.f] 184)
   obtain ⟨d0, d1, d2, d3⟩ := cells4 HX
   have hb1 := below_one wr (.cells #[.int .i64 x.n, .string x.u, .int .i64 x.s, .int .i64 x.f] 184)
   by_cases hu : x.u = u
   ·have HC2 : Hid ((l.take (j + 1)).filter (notU u) = m) := by
     have := HT.out
     rwa [if_neg (by unfold notU; rw [decide_eq_false (fun h => h hu)]; exact Bool.false_ne_true), List.append_nil] at this
    have q1 : (x.u.toList != u.toList) = false := by rw [hu]; exact txt_ns u
    have q2 : (x.u.toList == u.toList) = true := by rw [hu]; exact txt_eq u
    have HO2 := Lib.hid (own_below HO.out hb1)
    have HB2 := Lib.hid (HB.out.trans (hb1.mono HB.out.size))
    clear HT HLN hu hb1
    go_wp2
    go_roundw
    case rel => exact ⟨j + 1, by omega, by go_num, (by unfold Hid; rw [HC2.out]; exact HO2.out), HB2.out⟩
    case measure => simp [intOf]; omega
   ·have HC2 : Hid ((l.take (j + 1)).filter (notU u) = m ++ [x]) := by
     have := HT.out
     rwa [if_pos (show notU u x = true from decide_eq_true hu)] at this
    have q1 := txt_nt hu
    have q2 := txt_ne hu
    have hb2 : Below wr.heap.size wr ((wr.alloc (.cells #[.int .i64 x.n, .string x.u, .int .i64 x.s, .int .i64 x.f] 184)).alloc (.cells #[.int .i64 x.n, .string x.u, .int .i64 x.s, .int .i64 x.f] 184)) := hb1.trans ((below_one (wr.alloc (.cells #[.int .i64 x.n, .string x.u, .int .i64 x.s, .int .i64 x.f] 184)) (.cells #[.int .i64 x.n, .string x.u, .int .i64 x.s, .int .i64 x.f] 184)).mono hb1.size)
    have HO2 := Lib.hid (own_below HO.out hb2)
    have HB2 := Lib.hid (HB.out.trans (hb2.mono HB.out.size))
    have HS2 := Lib.hid HB2.out.size
    have hlm := HLN.out
    clear HT hu hb1 hb2
    go_wp2_with (at_builtin; refine wpList_append_own _ rfl (.tmp 18) (.tmp 20) 34 rfl w.heap.size 184 i0 _ 4 40 Tryz.underlying34 hi hz0 hz1 hz2 rfl (by decide) _ _ _ rfl HO2.out ⟨wr.heap.size + 1, 0, none⟩ 1 1 [.int .i64 x.n, .string x.u, .int .i64 x.s, .int .i64 x.f] rfl rfl (news_at _ _ _ _ (size1 _ _).symm) (four_o _ _ _ _) (by unfold maxLen; omega) (by omega) HS2.out ?_; intro v' w3 hown' hgrow hiff)
    have HB3 := Lib.hid (app_below HB2.out HS2.out HO2.out hgrow)
    have HO3 := Lib.hid hown'
    clear hown' hgrow hiff HB2 HS2 HO2
    go_wp2
    go_roundw
    case rel => exact ⟨j + 1, by omega, by go_num, (by unfold Hid; rw [HC2.out, List.length_append, oes_snoc]; exact HO3.out), HB3⟩
    case measure => simp [intOf]; omega
  ·obtain rfl : j = l.length := by omega
   rw [List.take_of_length_le (Nat.le_refl _)] at HO
   go_wp2
   go_ret
   exact ⟨_, rfl, HO.out, HB.out⟩
end Go.Proofs.YtapacckmgmdnoaaGreat
namespace Go.Proofs.YtapacckmgmdnoaaGreat
open Go.RowKit
set_option linter.unusedVariables false
set_option maxRecDepth 100000
set_option maxRecDepth 100000
theorem o_without (a : Option Addr) (c : Nat) (l : List OpM) (s : ByteArray) (W : World) (h : OpSl W a l) (hl : l.length ≤ 1000) : Calls Tryz.prog 235 #[.slice a l.length c, .string s] W fun e w' => ∃ x q, e = .returned (.slice x (l.filter (notU s)).length q) ∧ (l.filter (notU s)).length ≤ q ∧ q ≤ maxLen ∧ (x = none → q = 0) ∧ OpSl w' x (l.filter (notU s)) ∧ Below W.heap.size W w' := by
 refine (owithout_any a c l s W h (by omega)).mono ?_
 rintro e w' ⟨v, rfl, ho, hb⟩
 obtain ⟨x, q, rfl, h1, h2, h3, h4⟩ := own_op ho
 exact ⟨x, q, rfl, h1, h2, h4, h3, hb⟩
theorem o_open (a : Option Addr) (c : Nat) (l : List OpM) (e0 : OpM) (W : World) (h : OpSl W a l) (hn : a = none → c = 0) (hl : l.length ≤ 500) (hc : l.length ≤ c) (hcm : c ≤ maxLen) : Calls Tryz.prog 192 #[.slice a l.length c, .agg #[.int .i64 e0.n, .string e0.u, .int .i64 e0.s, .int .i64 e0.f]] W fun e w' => ∃ x q, e = .returned (.tuple #[.slice x (openR l e0).length q, .int .i64 (openC l e0)]) ∧ (openR l e0).length ≤ q ∧ q ≤ maxLen ∧ (x = none → q = 0) ∧ OpSl w' x (openR l e0) ∧ Below W.heap.size W w' := by
 refine (open_any a c l e0 W h hn hl hc hcm).mono ?_
 rintro e w' ⟨v, rfl, x, q, rfl, h1, h2, h3, h4, h5⟩
 exact ⟨x, q, rfl, h1, h2, h3, h4, h5⟩
theorem o_change (a : Option Addr) (c : Nat) (l : List OpM) (n : Int) (u : ByteArray) (s t : Int) (W : World) (h : OpSl W a l) (hl : l.length ≤ 500) (hc : l.length ≤ c) (hcm : c ≤ maxLen) : Calls Tryz.prog 193 #[.slice a l.length c, .int .i64 n, .string u, .int .i64 s, .int .i64 t] W fun e w' => ∃ x q, e = .returned (.tuple #[.slice x (chgR l n u s t).length q, .agg #[.int .i64 (fndS l n u t).f, .int .i64 (fndS l n u t).t, .int .i64 (fndS l n u t).n, .int .i64 (fndS l n u t).s], .int .i64 (findC l n u)]) ∧ (chgR l n u s t).length ≤ q ∧ q ≤ maxLen ∧ (x = none → q = 0) ∧ OpSl w' x (chgR l n u s t) ∧ Below W.heap.size W w' := by
 refine (change_any a c l n u s t W h hl hc hcm).mono ?_
 rintro e w' ⟨v, rfl, x, q, rfl, h1, h2, h3, h4, h5⟩
 exact ⟨x, q, rfl, h1, h2, h3, h4, h5⟩
theorem o_close (a : Option Addr) (c : Nat) (l : List OpM) (n : Int) (u : ByteArray) (t : Int) (W : World) (h : OpSl W a l) (hl : l.length ≤ 500) (hc : l.length ≤ c) (hcm : c ≤ maxLen) : Calls Tryz.prog 231 #[.slice a l.length c, .int .i64 n, .string u, .int .i64 t] W fun e w' => ∃ x q, e = .returned (.tuple #[.slice x (cloR l n u).length q, .agg #[.int .i64 (fndS l n u t).f, .int .i64 (fndS l n u t).t, .int .i64 (fndS l n u t).n, .int .i64 (fndS l n u t).s], .int .i64 (findC l n u)]) ∧ (cloR l n u).length ≤ q ∧ q ≤ maxLen ∧ (x = none → q = 0) ∧ OpSl w' x (cloR l n u) ∧ Below W.heap.size W w' := by
 refine (close_any a c l n u t W h hl hc hcm).mono ?_
 rintro e w' ⟨v, rfl, x, q, rfl, h1, h2, h3, h4, h5⟩
 exact ⟨x, q, rfl, h1, h2, h3, h4, h5⟩
theorem o_stays (a : Option Addr) (c : Nat) (l : List OpM) (u : ByteArray) (t : Int) (W : World) (h : OpSl W a l) (hl : l.length ≤ 1000) : Calls Tryz.prog 91 #[.slice a l.length c, .string u, .int .i64 t] W fun e w' => ∃ x q, e = .returned (.slice x (staysO l u t).length q) ∧ (staysO l u t).length ≤ q ∧ q ≤ maxLen ∧ (x = none → q = 0) ∧ StSl w' x (staysO l u t) ∧ Below W.heap.size W w' := by
 refine (ostays_any a c l u t W h hl).mono ?_
 rintro e w' ⟨v, rfl, ho, hb⟩
 obtain ⟨x, q, rfl, h1, h2, h3, h4⟩ := own_st ho
 exact ⟨x, q, rfl, h1, h2, h4, h3, hb⟩
end Go.Proofs.YtapacckmgmdnoaaGreat
namespace Go.Proofs.YtapacckmgmdnoaaGreat
open Go.RowKit Go.Proofs
set_option linter.unusedVariables false
set_option maxRecDepth 100000
set_option maxRecDepth 100000
theorem SB.fin {w T : World} {g r : Nat} {t t' : TypeId} {y z : SaL} (hK : SB w g t y T) (hZ : SB w r t' z T) : (loadVar 39 ⟨r, 0, none⟩).run Tryz.prog (setS T r y) = .ok (saV y) (setS T r y) ∧ SaAt (setS T r y) y ∧ Below w.heap.size w (setS T r y) := by
 have hF := hZ.set hK.at_
 exact ⟨loadS6 hF.blk, hF.at_, hF.frame⟩
theorem SB.finV {w T : World} {r : Nat} {t' : TypeId} {y z : SaL} (hy : SaAt T y) (hZ : SB w r t' z T) : (loadVar 39 ⟨r, 0, none⟩).run Tryz.prog (setS T r y) = .ok (saV y) (setS T r y) ∧ SaAt (setS T r y) y ∧ Below w.heap.size w (setS T r y) := by
 have hF := hZ.set hy
 exact ⟨loadS6 hF.blk, hF.at_, hF.frame⟩
theorem two_SB {w : World} {x : SaL} (h : SaAt w x) (t t' : TypeId) : SB w w.heap.size t x ((w.alloc (.cells (saC x) t)).alloc (.cells (saC saO) t')) ∧ SB w (w.heap.size + 1) t' saO ((w.alloc (.cells (saC x) t)).alloc (.cells (saC saO) t')) := by
 have S0 := SB.new (Below.refl w.heap.size w) h t
 have Z0 := SB.new (S0.frame) (SaAt.zero (w.alloc (.cells (saC x) t))) t'
 rw [size1] at Z0
 exact ⟨S0.alloc _, Z0⟩
theorem umS_st {D : List UsL} {n : Nat} (h : ∀ u ∈ umS D, u.l.length ≤ n) : ∀ y ∈ D, y.l.length ≤ n := fun y hy => h y.m (List.mem_map_of_mem hy)
set_option maxHeartbeats 4000000 in
theorem closed_any (x : SaL) (n : Int) (u : ByteArray) (at_ : Int) (w : World) (h : SaAt w x) (hf : Few x.m 450) (hk : RiseK UsM.u (umS x.us)) :
  Calls Tryz.prog 195 #[saV x, .int .i64 n, .string u, .int .i64 at_] w fun e w' => ∃ y, e = .returned (.tuple #[saV y, .int .i64 (findC x.op n u)]) ∧ SaAt w' y ∧ y.m = { x.m with op := cloR x.op n u, us := addU (umS x.us) u (fndS x.op n u at_) } ∧ Below w.heap.size w w' := by
 obtain ⟨HK, HZ⟩ := two_SB h 39 39
 obtain ⟨now, hor, oa, op, oc, ua, us, uc, sa, su, sc, ta, tb, tc⟩ := x
 have hun : us.length ≤ 450 := by have := hf.us; unfold SaL.m at this; simp only at this; rwa [umS_len] at this
 have HCL := Lib.hid (fun V (h : OpSl V oa op) => o_close oa oc op n u at_ V h (Nat.le_trans hf.op (by decide)) HK.at_.oc.le HK.at_.oc.mx)
 have HWS := Lib.hid (fun V (h : UsSl V ua us) => withStay_any ua uc us u (fndS op n u at_) V h HK.at_.uc hk (by omega) (fun y hy => by have := umS_st hf.st y hy; omega))
 have HS := Lib.hid HK
 have HZZ := Lib.hid HZ
 obtain ⟨c0, c1, c2, c3, c4, c5⟩ := HK.cells
 unfold stV at HWS
 unfold saV saC at *
 dsimp only at *
 clear h hf HK HZ
 go_enter Tryz.func195, Tryz.ntmps195
 go_wp2_with fail
 refine (HCL.out _ HS.out.at_.op).mono ?_
 rintro e w1 ⟨x1, q1, rfl, i1, j1, k1, l1, h1⟩
 generalize hst : fndS op n u at_ = st at *
 have hb := below_one w1 (.cells #[.int .i64 st.f, .int .i64 st.t, .int .i64 st.n, .int .i64 st.s] 111)
 have S1 := (HS.out.below h1).below hb
 have Z1 := (HZZ.out.below h1).below hb
 have L1 := l1.below hb
 clear c0 c1 c2 c3 c4 c5
 obtain ⟨c0, c1, c2, c3, c4, c5⟩ := S1.cells
 obtain ⟨s0, s1, s2, s3⟩ := cells4 (heap_alloc_new w1 (.cells #[.int .i64 st.f, .int .i64 st.t, .int .i64 st.n, .int .i64 st.s] 111))
 have HS1 := Lib.hid S1
 have HZ1 := Lib.hid Z1
 have HL1 := Lib.hid L1
 have HC1 := Lib.hid (Cp.mk i1 j1 k1)
 dsimp only at *
 clear HS HZZ S1 Z1 L1 h1 hb l1 i1 j1 k1
 go_wp2_with fail
 refine (HWS.out _ HS1.out.at_.us).mono ?_
 rintro e w2 ⟨x2, q2, L, rfl, z2, p2, m2, h2⟩
 have S2 := HS1.out.below h2
 have Z2 := HZ1.out.below h2
 have S3 := S2.setOp rfl (HL1.out.below h2) HC1.out
 have S4 := S3.setUs rfl (z2.setB S2.blk 2 (.slice x1 (cloR op n u).length q1)) p2
 have Z3 := Z2.far S2 (by omega) 2 (.slice x1 (cloR op n u).length q1)
 have Z4 := Z3.far S3 (by omega) 3 (.slice x2 L.length q2)
 have hfin := S4.fin Z4
 clear c0 c1 c2 c3 c4 c5 s0 s1 s2 s3
 obtain ⟨c0, c1, c2, c3, c4, c5⟩ := S2.cells
 obtain ⟨f0, f1, f2, f3, f4, f5⟩ := S2.free
 obtain ⟨d0, d1, d2, d3, d4, d5⟩ := S4.cells
 obtain ⟨z0, z1, z2', z3, z4, z5⟩ := Z4.cells
 obtain ⟨y0, y1, y2, y3, y4, y5⟩ := Z4.free
 have hgl := S2.lt
 have hzl := Z4.lt
 have HL := Lib.hid hfin.1
 have HFN := Lib.hid (And.intro hfin.2.1 (And.intro (show SaL.m ⟨now, hor, x1, cloR op n u, q1, x2, L, q2, sa, su, sc, ta, tb, tc⟩ = ⟨now, hor, cloR op n u, addU (umS us) u (fndS op n u at_), su, tb⟩ by unfold SaL.m; simp only; rw [m2, hst]) hfin.2.2))
 unfold setS saV saC at HL
 unfold saO at z0 z1 z2' z3 z4 z5
 dsimp only at *
 clear S2 Z2 S3 S4 Z3 Z4 hfin HS1 HZ1 HL1 HC1 HCL HWS z2 p2 m2 h2
 go_wp2
 refine bodyPost_ret (v := .tuple #[saV ⟨now, hor, x1, cloR op n u, q1, x2, L, q2, sa, su, sc, ta, tb, tc⟩, .int .i64 (findC op n u)]) ?_ rfl ⟨_, rfl, HFN.out⟩
 rw [results_cellT rfl]
 unfold saV saC
 simp [asAddr, Result.andThen, HL.out]
set_option maxHeartbeats 4000000 in
theorem erased_any (x : SaL) (u : ByteArray) (at_ : Int) (w : World) (h : SaAt w x) (hf : Few x.m 450) (hk : RiseK UsM.u (umS x.us)) (ht : RiseK TbM.u x.tb) :
  Calls Tryz.prog 198 #[saV x, .string u, .int .i64 at_] w fun e w' => ∃ y, e = .returned (saV y) ∧ SaAt w' y ∧ y.m = { x.m with op := x.op.filter (notU u), us := putU (umS x.us) u [], su := withoutS x.su u, tb := tombU x.tb u at_ } ∧ Below w.heap.size w w' := by
 have S0 := SB.new (Below.refl w.heap.size w) h 39
 have hbu := below_one (w.alloc (.cells (saC x) 39)) (.cells #[.string u] 9)
 have S1 := S0.below hbu
 have Z0 := SB.new S1.frame (SaAt.zero ((w.alloc (.cells (saC x) 39)).alloc (.cells #[.string u] 9))) 39
 have hcap : CapO ((w.alloc (.cells (saC x) 39)).alloc (.cells #[.string u] 9)) (w.heap.size + 1) (.string u) := ⟨by have := cell_of_row ((w.alloc (.cells (saC x) 39)).alloc (.cells #[.string u] 9)) (w.alloc (.cells (saC x) 39)).heap.size 0 _ _ (0, 0) (heap_alloc_new _ _); rw [size1] at this; exact this, by rw [size1, size1]; omega⟩
 rw [size1, size1] at Z0
 have HK := S1.alloc (.cells (saC saO) 39)
 have HCA := Lib.hid (hcap.below (below_one _ (.cells (saC saO) 39)))
 obtain ⟨now, hor, oa, op, oc, ua, us, uc, sa, su, sc, ta, tb, tc⟩ := x
 have hun : us.length ≤ 450 := by have := hf.us; unfold SaL.m at this; simp only at this; rwa [umS_len] at this
 have HWO := Lib.hid (fun V (h : OpSl V oa op) => o_without oa oc op u V h (Nat.le_trans hf.op (by decide)))
 have HTH := Lib.hid (fun V (h : UsSl V ua us) (k : CapO V (w.heap.size + 1) (.string u)) => those_any ua uc us u (w.heap.size + 1) V h HK.at_.uc (by omega) k)
 have HWE := Lib.hid (fun V (h : EnSl V sa su) => e_without sa sc su u V h (Nat.le_trans hf.su (by decide)))
 have HPT := Lib.hid (fun V (h : TbSl V ta tb) => put_tb ta tc tb ⟨u, at_⟩ V h HK.at_.tc (Nat.le_trans hf.tb (by decide)))
 have HPI := Lib.hid (fun L (h : IsPut TbM.u tb ⟨u, at_⟩ L) => h.tb ht)
 have HKU : Hid (umS (butU u us) = putU (umS us) u []) := by
  unfold Hid
  rw [butU_m]
  exact (ins_out hk).symm
 have HS := Lib.hid HK
 have HZZ := Lib.hid Z0
 obtain ⟨c0, c1, c2, c3, c4, c5⟩ := HK.cells
 obtain ⟨f0, f1, f2, f3, f4, f5⟩ := HK.free
 obtain ⟨k0, hkl⟩ := HCA.out
 unfold saV saC at *
 dsimp only at *
 have hgl := HK.lt
 clear h hf HK Z0 S0 S1 hbu hcap
 go_enter Tryz.func198, Tryz.ntmps198
 go_wp2_with fail
 refine (HWO.out _ HS.out.at_.op).mono ?_
 rintro e w1 ⟨x1, q1, rfl, i1, j1, k1, l1, h1⟩
 have A1 := HS.out.below h1
 have B1 := HZZ.out.below h1
 have C1 := HCA.out.below h1
 have A2 := A1.setOp rfl l1 ⟨i1, j1, k1⟩
 have B2 := B1.far A1 (by omega) 2 (.slice x1 (op.filter (notU u)).length q1)
 have C2 : CapO (w1.setCell ⟨w.heap.size, 2, none⟩ (.slice x1 (op.filter (notU u)).length q1)) (w.heap.size + 1) (.string u) := ⟨(cell_far (p := ⟨w.heap.size + 1, 0, none⟩) (by show w.heap.size + 1 ≠ w.heap.size; omega)).trans C1.1, by rw [size_set]; exact C1.2⟩
 clear c0 c1 c2 c3 c4 c5 f0 f1 f2 f3 f4 f5 hgl k0 hkl
 obtain ⟨c0, c1, c2, c3, c4, c5⟩ := A1.cells
 obtain ⟨f0, f1, f2, f3, f4, f5⟩ := A1.free
 have hgl := A1.lt
 obtain ⟨d0, d1, d2, d3, d4, d5⟩ := A2.cells
 have HS2 := Lib.hid A2
 have HZ2 := Lib.hid B2
 have HC2 := Lib.hid C2
 dsimp only at *
 clear HS HZZ HCA A1 B1 C1 A2 B2 C2 h1 i1 j1 k1 l1
 go_wp2_with fail
 refine (HTH.out _ HS2.out.at_.us HC2.out).mono ?_
 rintro e w2 ⟨x2, q2, rfl, l2, p2, h2⟩
 have A1 := HS2.out.below h2
 have B1 := HZ2.out.below h2
 have C1 := HC2.out.below h2
 have A2 := A1.setUs rfl l2 p2
 have B2 := B1.far A1 (by omega) 3 (.slice x2 (butU u us).length q2)
 have C2 : CapO (w2.setCell ⟨w.heap.size, 3, none⟩ (.slice x2 (butU u us).length q2)) (w.heap.size + 1) (.string u) := ⟨(cell_far (p := ⟨w.heap.size + 1, 0, none⟩) (by show w.heap.size + 1 ≠ w.heap.size; omega)).trans C1.1, by rw [size_set]; exact C1.2⟩
 clear c0 c1 c2 c3 c4 c5 f0 f1 f2 f3 f4 f5 hgl d0 d1 d2 d3 d4 d5
 obtain ⟨c0, c1, c2, c3, c4, c5⟩ := A1.cells
 obtain ⟨f0, f1, f2, f3, f4, f5⟩ := A1.free
 have hgl := A1.lt
 obtain ⟨d0, d1, d2, d3, d4, d5⟩ := A2.cells
 have HC3 := Lib.hid C2
 obtain ⟨k0, hkl⟩ := C2
 have HS3 := Lib.hid A2
 have HZ3 := Lib.hid B2
 dsimp only at *
 clear HS2 HZ2 HC2 A1 B1 C1 A2 B2 h2 l2 p2
 go_wp2_with fail
 refine (HWE.out _ HS3.out.at_.su).mono ?_
 rintro e w3 ⟨x3, q3, rfl, i3, j3, k3, l3, h3⟩
 have A1 := HS3.out.below h3
 have B1 := HZ3.out.below h3
 have C1 := HC3.out.below h3
 have A2 := A1.setSu rfl l3 ⟨i3, j3, k3⟩
 have B2 := B1.far A1 (by omega) 4 (.slice x3 (su.filter (wiE u)).length q3)
 have C2 : CapO (w3.setCell ⟨w.heap.size, 4, none⟩ (.slice x3 (su.filter (wiE u)).length q3)) (w.heap.size + 1) (.string u) := ⟨(cell_far (p := ⟨w.heap.size + 1, 0, none⟩) (by show w.heap.size + 1 ≠ w.heap.size; omega)).trans C1.1, by rw [size_set]; exact C1.2⟩
 clear c0 c1 c2 c3 c4 c5 f0 f1 f2 f3 f4 f5 hgl d0 d1 d2 d3 d4 d5 k0 hkl
 obtain ⟨c0, c1, c2, c3, c4, c5⟩ := A1.cells
 obtain ⟨f0, f1, f2, f3, f4, f5⟩ := A1.free
 have hgl := A1.lt
 obtain ⟨d0, d1, d2, d3, d4, d5⟩ := A2.cells
 obtain ⟨k0, hkl⟩ := C2
 have HS4 := Lib.hid A2
 have HZ4 := Lib.hid B2
 dsimp only at *
 clear HS3 HZ3 HC3 A1 B1 C1 A2 B2 h3 i3 j3 k3 l3
 go_wp2_with fail
 refine (HPT.out _ HS4.out.at_.tb).mono ?_
 rintro e w4 ⟨x4, q4, L, rfl, l4, p4, m4, h4⟩
 have A1 := HS4.out.below h4
 have B1 := HZ4.out.below h4
 have A2 := A1.setTb rfl l4 p4
 have B2 := B1.far A1 (by omega) 5 (.slice x4 L.length q4)
 have hfin := A2.fin B2
 have hL := HPI.out L m4
 clear c0 c1 c2 c3 c4 c5 f0 f1 f2 f3 f4 f5 hgl d0 d1 d2 d3 d4 d5 k0 hkl
 obtain ⟨c0, c1, c2, c3, c4, c5⟩ := A1.cells
 obtain ⟨f0, f1, f2, f3, f4, f5⟩ := A1.free
 have hgl := A1.lt
 obtain ⟨d0, d1, d2, d3, d4, d5⟩ := A2.cells
 obtain ⟨z0, z1, z2, z3, z4, z5⟩ := B2.cells
 obtain ⟨y0, y1, y2, y3, y4, y5⟩ := B2.free
 have hzl := B2.lt
 have HL := Lib.hid hfin.1
 have HFN := Lib.hid (And.intro hfin.2.1 (And.intro (show SaL.m ⟨now, hor, x1, op.filter (notU u), q1, x2, butU u us, q2, x3, su.filter (wiE u), q3, x4, L, q4⟩ = ⟨now, hor, op.filter (notU u), putU (umS us) u [], withoutS su u, tombU tb u at_⟩ by unfold SaL.m; simp only; rw [HKU.out, hL]; rfl) hfin.2.2))
 unfold setS saV saC at HL
 unfold saO at z0 z1 z2 z3 z4 z5
 dsimp only at *
 clear HS4 HZ4 A1 B1 A2 B2 hfin hL m4 l4 p4 h4 HWO HTH HWE HPT HPI HKU
 go_wp2
 refine bodyPost_ret (v := saV ⟨now, hor, x1, op.filter (notU u), q1, x2, butU u us, q2, x3, su.filter (wiE u), q3, x4, L, q4⟩) ?_ rfl ⟨_, rfl, HFN.out⟩
 rw [results_cell1 rfl]
 unfold saV saC
 simp [asAddr, Result.andThen, HL.out]
theorem two_states {w : World} {x y : SaL} (h : SaAt w x) (k : SaAt w y) (t t' : TypeId) : SB w w.heap.size t x ((w.alloc (.cells (saC x) t)).alloc (.cells (saC y) t')) ∧ SB w (w.heap.size + 1) t' y ((w.alloc (.cells (saC x) t)).alloc (.cells (saC y) t')) := by
 have S0 := SB.new (Below.refl w.heap.size w) h t
 have Z0 := SB.new (S0.frame) (k.below (below_one w (.cells (saC x) t))) t'
 rw [size1] at Z0
 exact ⟨S0.alloc _, Z0⟩
set_option maxHeartbeats 8000000 in
theorem same_any11 (x y : SaL) (w : World) (h : SaAt w x) (k : SaAt w y) (hf : Few x.m 900) (kf : Few y.m 900) :
  Calls Tryz.prog 35 #[saV x, saV y] w fun e w' => e = .returned (.bool (sameS x.m y.m)) ∧ Below w.heap.size w w' := by
 obtain ⟨HK, HZ⟩ := two_states h k 39 39
 have HS := Lib.hid HK
 have HT := Lib.hid HZ
 have hux : x.us.length ≤ 900 := by have := hf.us; unfold SaL.m at this; simp only at this; rwa [umS_len] at this
 have huy : y.us.length ≤ 900 := by have := kf.us; unfold SaL.m at this; simp only at this; rwa [umS_len] at this
 have hop := hf.op
 have kop := kf.op
 have hsu := hf.su
 have ksu := kf.su
 have htb := hf.tb
 have ktb := kf.tb
 have H1 := Lib.hid (fun V (p : OpSl V x.oa x.op) (q : OpSl V y.oa y.op) => osame_any x.oa y.oa x.oc y.oc x.op y.op V p q (Nat.le_trans hop (by unfold maxLen; decide)) (Nat.le_trans kop (by unfold maxLen; decide)))
 have H2 := Lib.hid (fun V (p : UsSl V x.ua x.us) (q : UsSl V y.ua y.us) => ueq_any x.ua y.ua x.uc y.uc x.us y.us V p q (by omega) (by omega) (fun z hz => Nat.le_trans (umS_st hf.st z hz) (by decide)) (fun z hz => Nat.le_trans (umS_st kf.st z hz) (by decide)))
 have H3 := Lib.hid (fun V (p : EnSl V x.sa x.su) (q : EnSl V y.sa y.su) => esame_any x.sa y.sa x.sc y.sc x.su y.su V p q (Nat.le_trans hsu (by unfold maxLen; decide)) (Nat.le_trans ksu (by unfold maxLen; decide)))
 have H4 := Lib.hid (fun V (p : TbSl V x.ta x.tb) (q : TbSl V y.ta y.tb) => teq_any x.ta y.ta x.tc y.tc x.tb y.tb V p q (Nat.le_trans htb (by unfold maxLen; decide)) (Nat.le_trans ktb (by unfold maxLen; decide)))
 have heq := fun V => eqNs x.now x.hor 0 0 y.now y.hor 0 0 V
 have hb0 : ((x.now == y.now) && ((x.hor == y.hor) && (((0 : Int) == 0) && ((0 : Int) == 0)))) = (decide (x.now = y.now) && decide (x.hor = y.hor)) := by
  rw [Bool.eq_iff_iff]
  simp
 rw [hb0] at heq
 have hsm : sameS x.m y.m = ((decide (x.now = y.now) && decide (x.hor = y.hor)) && decide (x.op = y.op) && decide (umS x.us = umS y.us) && decide (x.su = y.su) && decide (x.tb = y.tb)) := rfl
 rw [hsm]
 obtain ⟨c0, c1, c2, c3, c4, c5⟩ := HK.cells
 obtain ⟨d0, d1, d2, d3, d4, d5⟩ := HZ.cells
 generalize (decide (x.now = y.now) && decide (x.hor = y.hor)) = b0 at *
 generalize decide (x.op = y.op) = b1 at *
 generalize decide (umS x.us = umS y.us) = b2 at *
 generalize decide (x.su = y.su) = b3 at *
 generalize decide (x.tb = y.tb) = b4 at *
 obtain ⟨now, hor, oa, op, oc, ua, us, uc, sa, su, sc, ta, tb, tc⟩ := x
 obtain ⟨nowy, hory, oay, opy, ocy, uay, usy, ucy, say, suy, scy, tay, tby, tcy⟩ := y
 unfold saV saC at *
 dsimp only at *
 clear h k hf kf HK HZ hb0 hsm hop kop hsu ksu htb ktb hux huy
 cases b0
 ·go_enter Tryz.func35, Tryz.ntmps35
  have HF := Lib.hid HS.out.frame
  go_wp2
  go_ret
  exact ⟨retB (by simp), HF.out⟩
 ·
  cases b1
  ·go_enter Tryz.func35, Tryz.ntmps35
   go_wp2_with fail
   refine (H1.out _ HS.out.at_.op HT.out.at_.op).mono ?_
   rintro e w1 ⟨rfl, h1⟩
   have S1 := Lib.hid (HS.out.below h1)
   have T1 := Lib.hid (HT.out.below h1)
   clear c0 c1 c2 c3 c4 c5 d0 d1 d2 d3 d4 d5 HS HT h1 H1
   obtain ⟨c0, c1, c2, c3, c4, c5⟩ := S1.out.cells
   obtain ⟨d0, d1, d2, d3, d4, d5⟩ := T1.out.cells
   dsimp only at *
   have HF := Lib.hid S1.out.frame
   go_wp2
   go_ret
   exact ⟨retB (by simp), HF.out⟩
  ·
   cases b2
   ·go_enter Tryz.func35, Tryz.ntmps35
    go_wp2_with fail
    refine (H1.out _ HS.out.at_.op HT.out.at_.op).mono ?_
    rintro e w1 ⟨rfl, h1⟩
    have S1 := Lib.hid (HS.out.below h1)
    have T1 := Lib.hid (HT.out.below h1)
    clear c0 c1 c2 c3 c4 c5 d0 d1 d2 d3 d4 d5 HS HT h1 H1
    obtain ⟨c0, c1, c2, c3, c4, c5⟩ := S1.out.cells
    obtain ⟨d0, d1, d2, d3, d4, d5⟩ := T1.out.cells
    dsimp only at *
    go_wp2_with fail
    refine (H2.out _ S1.out.at_.us T1.out.at_.us).mono ?_
    rintro e w2 ⟨rfl, h2⟩
    have S2 := Lib.hid (S1.out.below h2)
    have T2 := Lib.hid (T1.out.below h2)
    clear c0 c1 c2 c3 c4 c5 d0 d1 d2 d3 d4 d5 S1 T1 h2 H2
    obtain ⟨c0, c1, c2, c3, c4, c5⟩ := S2.out.cells
    obtain ⟨d0, d1, d2, d3, d4, d5⟩ := T2.out.cells
    dsimp only at *
    have HF := Lib.hid S2.out.frame
    go_wp2
    go_ret
    exact ⟨retB (by simp), HF.out⟩
   ·
    cases b3
    ·go_enter Tryz.func35, Tryz.ntmps35
     go_wp2_with fail
     refine (H1.out _ HS.out.at_.op HT.out.at_.op).mono ?_
     rintro e w1 ⟨rfl, h1⟩
     have S1 := Lib.hid (HS.out.below h1)
     have T1 := Lib.hid (HT.out.below h1)
     clear c0 c1 c2 c3 c4 c5 d0 d1 d2 d3 d4 d5 HS HT h1 H1
     obtain ⟨c0, c1, c2, c3, c4, c5⟩ := S1.out.cells
     obtain ⟨d0, d1, d2, d3, d4, d5⟩ := T1.out.cells
     dsimp only at *
     go_wp2_with fail
     refine (H2.out _ S1.out.at_.us T1.out.at_.us).mono ?_
     rintro e w2 ⟨rfl, h2⟩
     have S2 := Lib.hid (S1.out.below h2)
     have T2 := Lib.hid (T1.out.below h2)
     clear c0 c1 c2 c3 c4 c5 d0 d1 d2 d3 d4 d5 S1 T1 h2 H2
     obtain ⟨c0, c1, c2, c3, c4, c5⟩ := S2.out.cells
     obtain ⟨d0, d1, d2, d3, d4, d5⟩ := T2.out.cells
     dsimp only at *
     go_wp2_with fail
     refine (H3.out _ S2.out.at_.su T2.out.at_.su).mono ?_
     rintro e w3 ⟨rfl, h3⟩
     have S3 := Lib.hid (S2.out.below h3)
     have T3 := Lib.hid (T2.out.below h3)
     clear c0 c1 c2 c3 c4 c5 d0 d1 d2 d3 d4 d5 S2 T2 h3 H3
     obtain ⟨c0, c1, c2, c3, c4, c5⟩ := S3.out.cells
     obtain ⟨d0, d1, d2, d3, d4, d5⟩ := T3.out.cells
     dsimp only at *
     have HF := Lib.hid S3.out.frame
     go_wp2
     go_ret
     exact ⟨retB (by simp), HF.out⟩
    ·
     go_enter Tryz.func35, Tryz.ntmps35
     go_wp2_with fail
     refine (H1.out _ HS.out.at_.op HT.out.at_.op).mono ?_
     rintro e w1 ⟨rfl, h1⟩
     have S1 := Lib.hid (HS.out.below h1)
     have T1 := Lib.hid (HT.out.below h1)
     clear c0 c1 c2 c3 c4 c5 d0 d1 d2 d3 d4 d5 HS HT h1 H1
     obtain ⟨c0, c1, c2, c3, c4, c5⟩ := S1.out.cells
     obtain ⟨d0, d1, d2, d3, d4, d5⟩ := T1.out.cells
     dsimp only at *
     go_wp2_with fail
     refine (H2.out _ S1.out.at_.us T1.out.at_.us).mono ?_
     rintro e w2 ⟨rfl, h2⟩
     have S2 := Lib.hid (S1.out.below h2)
     have T2 := Lib.hid (T1.out.below h2)
     clear c0 c1 c2 c3 c4 c5 d0 d1 d2 d3 d4 d5 S1 T1 h2 H2
     obtain ⟨c0, c1, c2, c3, c4, c5⟩ := S2.out.cells
     obtain ⟨d0, d1, d2, d3, d4, d5⟩ := T2.out.cells
     dsimp only at *
     go_wp2_with fail
     refine (H3.out _ S2.out.at_.su T2.out.at_.su).mono ?_
     rintro e w3 ⟨rfl, h3⟩
     have S3 := Lib.hid (S2.out.below h3)
     have T3 := Lib.hid (T2.out.below h3)
     clear c0 c1 c2 c3 c4 c5 d0 d1 d2 d3 d4 d5 S2 T2 h3 H3
     obtain ⟨c0, c1, c2, c3, c4, c5⟩ := S3.out.cells
     obtain ⟨d0, d1, d2, d3, d4, d5⟩ := T3.out.cells
     dsimp only at *
     go_wp2_with fail
     refine (H4.out _ S3.out.at_.tb T3.out.at_.tb).mono ?_
     rintro e w4 ⟨rfl, h4⟩
     have S4 := Lib.hid (S3.out.below h4)
     have T4 := Lib.hid (T3.out.below h4)
     clear c0 c1 c2 c3 c4 c5 d0 d1 d2 d3 d4 d5 S3 T3 h4 H4
     obtain ⟨c0, c1, c2, c3, c4, c5⟩ := S4.out.cells
     obtain ⟨d0, d1, d2, d3, d4, d5⟩ := T4.out.cells
     dsimp only at *
     have HF := Lib.hid S4.out.frame
     go_wp2
     go_ret
     exact ⟨retB (by simp), HF.out⟩
end Go.Proofs.YtapacckmgmdnoaaGreat
