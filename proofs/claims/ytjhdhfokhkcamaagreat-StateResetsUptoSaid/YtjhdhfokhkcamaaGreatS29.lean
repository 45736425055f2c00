/- Texts of mine, one behind the other, of each what is wanted. -/
import Derived.Test.YtjhdhfokhkcamaaGreatS00
import Derived.Test.YtjhdhfokhkcamaaGreatShelf
import Derived.Test.YtjhdhfokhkcamaaGreatRows
import Derived.Test.YtjhdhfokhkcamaaGreatS01
import Derived.Test.YtjhdhfokhkcamaaGreatS02
import Derived.Test.YtjhdhfokhkcamaaGreatS03
import Derived.Test.YtjhdhfokhkcamaaGreatS04
import Derived.Test.YtjhdhfokhkcamaaGreatS06
import Derived.Test.YtjhdhfokhkcamaaGreatS07
import Derived.Test.YtjhdhfokhkcamaaGreatS08
import Derived.Test.YtjhdhfokhkcamaaGreatS09
import Derived.Test.YtjhdhfokhkcamaaGreatS10
import Derived.Test.YtjhdhfokhkcamaaGreatS11
import Derived.Test.YtjhdhfokhkcamaaGreatS14
import Derived.Test.YtjhdhfokhkcamaaGreatS15
import Derived.Test.YtjhdhfokhkcamaaGreatS17
import Derived.Test.YtjhdhfokhkcamaaGreatS18
import Derived.Test.YtjhdhfokhkcamaaGreatS19
import Derived.Test.YtjhdhfokhkcamaaGreatS20
import Derived.Test.YtjhdhfokhkcamaaGreatS21
import Derived.Test.YtjhdhfokhkcamaaGreatS22
import Derived.Test.YtjhdhfokhkcamaaGreatS23
import Derived.Test.YtjhdhfokhkcamaaGreatS24
import Derived.Test.YtjhdhfokhkcamaaGreatS25
import Derived.Test.YtjhdhfokhkcamaaGreatS26
namespace Go.Proofs.YtjhdhfokhkcamaaGreat
open Go.RowKit Go.Proofs
set_option linter.unusedVariables false
set_option maxRecDepth 100000
theorem IsPut.mem {α : Type} {key : α → ByteArray} {l L : List α} {p : α} (h : IsPut key l p L) : (∀ y ∈ L, y = p ∨ y ∈ l) ∧ L.length ≤ l.length + 1 := by
 obtain ⟨k, _, ⟨rfl, _⟩ | ⟨hk, _, rfl⟩⟩ := h
 ·refine ⟨fun y hy => ?_, ?_⟩
  ·rcases List.mem_append.1 hy with h1 | h1
   ·exact .inr (List.mem_of_mem_take h1)
   ·rcases List.mem_cons.1 h1 with h1 | h1
    ·exact .inl h1
    ·exact .inr (List.mem_of_mem_drop h1)
  ·rw [List.length_append, List.length_cons, List.length_take, List.length_drop]; omega
 ·refine ⟨fun y hy => ?_, ?_⟩
  ·rcases List.mem_append.1 hy with h1 | h1
   ·exact .inr (List.mem_of_mem_take h1)
   ·rcases List.mem_cons.1 h1 with h1 | h1
    ·exact .inl h1
    ·exact .inr (List.mem_of_mem_drop h1)
  ·rw [List.length_append, List.length_cons, List.length_take, List.length_drop]; omega
theorem IsPut.us {D L : List UsL} {p : UsL} (h : IsPut UsL.u D p L) (hr : RiseK UsM.u (umS D)) : umS L = insK UsM.u p.u [p.m] (umS D) := by
 obtain ⟨k, hk, ⟨rfl, hn⟩ | ⟨hk, he, rfl⟩⟩ := h
 ·exact put_new hr hk hn
 ·exact put_old hr hk he
theorem IsPut.tb {D L : List TbM} {p : TbM} (h : IsPut TbM.u D p L) (hr : RiseK TbM.u D) : L = insK TbM.u p.u [p] D := by
 obtain ⟨k, hk, ⟨rfl, hn⟩ | ⟨hk, he, rfl⟩⟩ := h
 ·exact tput_new hr hk hn
 ·exact tput_old hr hk he
theorem put_us (a : Option Addr) (c : Nat) (D : List UsL) (p : UsL) (w : World) (hr : UsSl w a D) (hp : UsAt w p) (hc : Cp a D.length c) (hl : D.length ≤ 1000) :
  Calls Tryz.prog 164 #[.slice a D.length c, .agg #[.string p.u, .slice p.a p.l.length p.c], .func (.func 63) #[] #[]] w fun e w' => ∃ x q L, e = .returned (.slice x L.length q) ∧ UsSl w' x L ∧ Cp x L.length q ∧ IsPut UsL.u D p L ∧ Below w.heap.size w w' := by
 refine (put_core_us a c D p w hr hc hl).mono ?_
 rintro e w' ⟨v, L, rfl, ho, hi, hb⟩
 rw [List.length_map] at ho
 obtain ⟨x, q, rfl, h1, h2, h3, h4⟩ := own_us ho
 exact ⟨x, q, L, rfl, ⟨h3, fun y hy => by
  rcases hi.mem.1 y hy with rfl | h5
  ·exact hp.below hb
  ·exact (hr.at_ y h5).below hb⟩, ⟨h1, h2, h4⟩, hi, hb⟩
theorem put_tb (a : Option Addr) (c : Nat) (D : List TbM) (p : TbM) (w : World) (hr : TbSl w a D) (hc : Cp a D.length c) (hl : D.length ≤ 1000) :
  Calls Tryz.prog 173 #[.slice a D.length c, .agg #[.string p.u, .int .i64 p.a], .func (.func 72) #[] #[]] w fun e w' => ∃ x q L, e = .returned (.slice x L.length q) ∧ TbSl w' x L ∧ Cp x L.length q ∧ IsPut TbM.u D p L ∧ Below w.heap.size w w' := by
 refine (put_core_tb a c D p w hr hc hl).mono ?_
 rintro e w' ⟨v, L, rfl, ho, hi, hb⟩
 rw [List.length_map] at ho
 obtain ⟨x, q, rfl, h1, h2, h3, h4⟩ := own_tb ho
 exact ⟨x, q, L, rfl, h3, ⟨h1, h2, h4⟩, hi, hb⟩
theorem ins_same {l : List UsM} (hr : RiseK UsM.u l) {u : ByteArray} (h : ofU l u ≠ []) : insK UsM.u u [⟨u, ofU l u⟩] l = l := by
 have hm : (⟨u, ofU l u⟩ : UsM) ∈ l := by
  rcases ofU_cases l u with h1 | h1
  ·exact absurd h1 h
  ·exact h1
 refine riseK_ext (insK_rise hr (fun x hx => by rw [List.mem_singleton.1 hx]) (by simp)) hr fun x => ?_
 rw [insK_mem, List.mem_singleton]
 constructor
 ·rintro (rfl | ⟨h1, _⟩)
  ·exact hm
  ·exact h1
 ·intro hx
  by_cases hu : x.u = u
  ·exact .inl (riseK_one hr hx hm hu)
  ·exact .inr ⟨hx, hu⟩
theorem with_addU {l : List UsM} (hr : RiseK UsM.u l) {u : ByteArray} {x : StM} (h : addS (ofU l u) x ≠ []) : insK UsM.u u [⟨u, addS (ofU l u) x⟩] l = addU l u x := by
 unfold addU
 split
 ·rename_i h1
  unfold putU rowU
  rw [if_neg (by simpa using h)]
 ·rename_i h1
  have e : addS (ofU l u) x = ofU l u := by unfold addS; rw [if_pos (by omega)]
  rw [e] at h ⊢
  exact ins_same hr h
theorem with_none {l : List UsM} {u : ByteArray} {x : StM} (h : addS (ofU l u) x = []) : addU l u x = l := by
 unfold addU
 rw [if_neg]
 intro h1
 exact addS_some h1 h
structure WsK (w : World) (g : Nat) (s : StM) (a : Option Addr) (D : List UsL) (W : World) : Prop where
 s : W.heap[g]? = some (.cells #[.int .i64 s.f, .int .i64 s.t, .int .i64 s.n, .int .i64 s.s] 86 (0, 0))
 row : UsSl W a D
 frame : Below w.heap.size w W
theorem WsK.below {w W W' : World} {g : Nat} {s : StM} {a : Option Addr} {D : List UsL} (h : WsK w g s a D W) (q : Below W.heap.size W W') : WsK w g s a D W' := ⟨(q.block _ (heap_lt h.s)).trans h.s, h.row.below q, h.frame.trans (q.mono h.frame.size)⟩
set_option maxHeartbeats 4000000 in
theorem withStay_any (a : Option Addr) (c : Nat) (D : List UsL) (u : ByteArray) (s : StM) (w : World) (hr : UsSl w a D) (hc : Cp a D.length c) (hk : RiseK UsM.u (umS D)) (hl : D.length ≤ 900) (hs : ∀ y ∈ D, y.l.length ≤ 900) :
  Calls Tryz.prog 112 #[.slice a D.length c, .string u, stV s] w fun e w' => ∃ x q L, e = .returned (.slice x L.length q) ∧ UsSl w' x L ∧ Cp x L.length q ∧ umS L = addU (umS D) u s ∧ Below w.heap.size w w' := by
 have hb := below_one w (.cells #[.int .i64 s.f, .int .i64 s.t, .int .i64 s.n, .int .i64 s.s] 86)
 have K0 : WsK w w.heap.size s a D (w.alloc (.cells #[.int .i64 s.f, .int .i64 s.t, .int .i64 s.n, .int .i64 s.s] 86)) := ⟨heap_alloc_new w _, hr.below hb, hb⟩
 have HSO := Lib.hid (fun V (h : UsSl V a D) => staysOf_any a c D u V h (by omega))
 have hlen : (ofU (umS D) u).length ≤ 900 := by
  rcases fst_key (D := D) (u := u) rfl with ⟨_, h2⟩ | ⟨h1, h2, _⟩
  ·rw [h2]; simp
  ·rw [h2]; exact hs _ (List.getElem_mem h1)
 have HAD := Lib.hid (fun x q V (h : StSl V x (ofU (umS D) u)) (k : Cp x (ofU (umS D) u).length q) => add8_any x q (ofU (umS D) u) s V h k.nil (by omega) k.le k.mx)
 have HPU := Lib.hid (fun p V (h : UsSl V a D) (k : UsAt V p) => put_us a c D p V h k hc (by omega))
 have HW1 := Lib.hid (fun h => with_addU (u := u) (x := s) hk h)
 have HW2 := Lib.hid (fun h => with_none (l := umS D) (u := u) (x := s) h)
 have HSC : Hid (∀ V, WsK w w.heap.size s a D V → V.cell? ⟨w.heap.size, 0, none⟩ = some (.int .i64 s.f) ∧ V.cell? ⟨w.heap.size, 1, none⟩ = some (.int .i64 s.t) ∧ V.cell? ⟨w.heap.size, 2, none⟩ = some (.int .i64 s.n) ∧ V.cell? ⟨w.heap.size, 3, none⟩ = some (.int .i64 s.s)) := fun V h => cells4 h.s
 have HCP := Lib.hid hc
 have K1 := K0.below (Below.refl _ _).drew
 unfold stV at *
 clear hr hc hs hb K0
 generalize hO : ofU (umS D) u = o at *
 clear hlen
 go_enter Tryz.func112, Tryz.ntmps112
 go_wp2_with fail
 go_region_held3 (fun V => V.cell? ⟨w.heap.size, 0, none⟩ = some (.int .i64 s.f) ∧ V.cell? ⟨w.heap.size, 1, none⟩ = some (.int .i64 s.t) ∧ V.cell? ⟨w.heap.size, 2, none⟩ = some (.int .i64 s.n) ∧ V.cell? ⟨w.heap.size, 3, none⟩ = some (.int .i64 s.s))
  (first | with_reducible exact HSC.out _ K3 | with_reducible exact HSC.out _ K2 | with_reducible exact HSC.out _ K1)
  (first | (have hseen := K2; clear hseen; go_at_call 91; refine (HAD.out x2 q2 _ z2 p2).mono ?_; rintro e w3 ⟨v3, rfl, ho3, h3⟩; have K3 := K2.below h3) | (have hseen := K1; clear hseen; go_at_call 89; refine (HSO.out _ K1.row).mono ?_; rintro e w2 ⟨x2, q2, rfl, z2, p2, h2⟩; have K2 := K1.below h2))
 obtain ⟨x3, q3, rfl, i1, i2, i3, i4⟩ := own_st ho3
 have HI : Hid (UsAt w3 ⟨u, x3, addS o s, q3⟩) := ⟨i3, i1, i2, i4⟩
 have HK := Lib.hid K3
 clear K1 K2 K3 z2 p2 h2 h3 ho3 i1 i2 i3 i4 HSO HAD HSC
 by_cases hz : addS o s = []
 ·have HE := Lib.hid (HW2.out hz)
  have hl0 : ((addS o s).length == 0) = true := by rw [hz]; rfl
  have hl1 : (((addS o s).length : Int) == 0) = true := by rw [hz]; rfl
  clear HW1 HW2 HPU HI hz
  generalize (addS o s).length = n at *
  go_wp2
  go_ret
  exact ⟨a, c, D, rfl, HK.out.row, HCP.out, HE.out.symm, HK.out.frame⟩
 ·have HE := Lib.hid (HW1.out hz)
  have hn : ¬ (addS o s).length = 0 := fun h => hz (List.eq_nil_of_length_eq_zero h)
  have hl0 : ((addS o s).length == 0) = false := beq_eq_false_iff_ne.2 hn
  have hl1 : (((addS o s).length : Int) == 0) = false := beq_eq_false_iff_ne.2 (by omega)
  have HP2 := Lib.hid (HPU.out ⟨u, x3, addS o s, q3⟩)
  have HFI : Hid (∀ L, IsPut UsL.u D ⟨u, x3, addS o s, q3⟩ L → umS L = addU (umS D) u s) := fun L h => (h.us hk).trans HE.out
  dsimp only at HP2
  clear HW1 HW2 HPU HE hz hn
  generalize addS o s = r at *
  go_wp2_with fail
  refine (HP2.out _ HK.out.row HI.out).mono ?_
  rintro e w4 ⟨x4, q4, L, rfl, h1, h2, h3, h4⟩
  have HR := Lib.hid (And.intro h1 (And.intro h2 (And.intro (HFI.out L h3) (HK.out.below h4).frame)))
  clear h1 h2 h3 h4 HK HI HP2 HFI
  go_wp2
  go_ret
  exact ⟨x4, q4, L, rfl, HR.out.1, HR.out.2.1, HR.out.2.2.1, HR.out.2.2.2⟩
end Go.Proofs.YtjhdhfokhkcamaaGreat
namespace Go.Proofs.YtjhdhfokhkcamaaGreat
open Go.RowKit
set_option linter.unusedVariables false
set_option maxRecDepth 100000
set_option maxRecDepth 100000
set_option maxHeartbeats 2000000 in
theorem onews_any (a : Option Addr) (c : Nat) (l : List OpM) (w : World) (hr : OpSl w a l) (hl : l.length ≤ 1000000) :
  Calls Tryz.prog 40 #[.slice a l.length c] w fun e w' => ∃ (v : Value), e = .returned v ∧ w'.ownsRow w.heap.size 112 4 v l.length (oes l) ∧ Below w.heap.size w w' := by
 obtain ⟨i0, hi, hz0, hz1, hz2⟩ := info_parts infoOp
 have HR := Lib.hid hr
 clear hr
 go_enter Tryz.func40, Tryz.ntmps40
 go_wp2
 go_loopw [3, 8] (fun v i wr => ∃ (j : Nat), j ≤ l.length ∧ i = .int .i64 j ∧ Hid (wr.ownsRow w.heap.size 112 4 v j (oes (l.take j))) ∧ Hid (Below w.heap.size w wr)) (fun _ i _ => l.length - (intOf i).toNat)
 case atStart => exact ⟨0, by omega, rfl, ⟨rfl, .inl ⟨rfl, rfl⟩⟩, Below.refl _ _⟩
 case round =>
  obtain ⟨j, hj, rfl, HO, HB⟩ := hrel
  by_cases hjl : j < l.length
  ·obtain ⟨b, off, rfl, hbl, hc0, hc1, hc2, hc3⟩ := (HR.out.below HB.out).at_ hjl
   have HC := Lib.hid (oes_take l j hjl)
   generalize l[j] = x at *
   have hbt := below_two wr (.cells #[.int .i64 x.n, .string x.u, .int .i64 x.s, .int .i64 x.f] 75) (.cells #[.int .i64 x.n, .string x.u, .int .i64 x.s, .int .i64 x.f] 112)
   have HO2 := Lib.hid (own_below HO.out hbt)
   have HB2 : Hid (Below w.heap.size w ((wr.alloc (.cells #[.int .i64 x.n, .string x.u, .int .i64 x.s, .int .i64 x.f] 75)).alloc (.cells #[.int .i64 x.n, .string x.u, .int .i64 x.s, .int .i64 x.f] 112))) := HB.out.trans (hbt.mono HB.out.size)
   have HS2 := Lib.hid HB2.out.size
   clear hbt
   go_wp2_with (at_builtin; refine wpList_append_own _ rfl (.tmp 12) (.tmp 14) 33 rfl w.heap.size 112 i0 _ 4 40 Tryz.underlying33 hi hz0 hz1 hz2 rfl (by decide) _ _ _ rfl HO2.out ⟨wr.heap.size + 1, 0, none⟩ 1 1 [.int .i64 x.n, .string x.u, .int .i64 x.s, .int .i64 x.f] rfl rfl (news_at _ _ _ _ (size1 _ _).symm) (four_o _ _ _ _) (by unfold maxLen; omega) (by omega) HS2.out ?_; intro v' w3 hown' hgrow hiff)
   have HB3 := Lib.hid (app_below HB2.out HS2.out HO2.out hgrow)
   have HO3 := Lib.hid hown'
   clear hown' hgrow hiff HB2 HS2 HO2
   go_wp2
   go_roundw
   case rel => exact ⟨j + 1, by omega, by go_num, (by unfold Hid; rw [HC.out]; exact HO3.out), HB3⟩
   case measure => simp [intOf]; omega
  ·obtain rfl : j = l.length := by omega
   rw [List.take_of_length_le (Nat.le_refl _)] at HO
   go_wp2
   go_ret
   exact ⟨_, rfl, HO.out, HB.out⟩
set_option maxHeartbeats 2000000 in
theorem oolds_any (a : Option Addr) (c : Nat) (l : List OpM) (w : World) (hr : OpSl w a l) (hl : l.length ≤ 1000000) :
  Calls Tryz.prog 56 #[.slice a l.length c] w fun e w' => ∃ (v : Value), e = .returned v ∧ w'.ownsRow w.heap.size 75 4 v l.length (oes l) ∧ Below w.heap.size w w' := by
 obtain ⟨i0, hi, hz0, hz1, hz2⟩ := info_parts infoOpR
 have HR := Lib.hid hr
 clear hr
 go_enter Tryz.func56, Tryz.ntmps56
 go_wp2
 go_loopw [3, 8] (fun v i wr => ∃ (j : Nat), j ≤ l.length ∧ i = .int .i64 j ∧ Hid (wr.ownsRow w.heap.size 75 4 v j (oes (l.take j))) ∧ Hid (Below w.heap.size w wr)) (fun _ i _ => l.length - (intOf i).toNat)
 case atStart => exact ⟨0, by omega, rfl, ⟨rfl, .inl ⟨rfl, rfl⟩⟩, Below.refl _ _⟩
 case round =>
  obtain ⟨j, hj, rfl, HO, HB⟩ := hrel
  by_cases hjl : j < l.length
  ·obtain ⟨b, off, rfl, hbl, hc0, hc1, hc2, hc3⟩ := (HR.out.below HB.out).at_ hjl
   have HC := Lib.hid (oes_take l j hjl)
   generalize l[j] = x at *
   have hbt := below_two wr (.cells #[.int .i64 x.n, .string x.u, .int .i64 x.s, .int .i64 x.f] 112) (.cells #[.int .i64 x.n, .string x.u, .int .i64 x.s, .int .i64 x.f] 75)
   have HO2 := Lib.hid (own_below HO.out hbt)
   have HB2 : Hid (Below w.heap.size w ((wr.alloc (.cells #[.int .i64 x.n, .string x.u, .int .i64 x.s, .int .i64 x.f] 112)).alloc (.cells #[.int .i64 x.n, .string x.u, .int .i64 x.s, .int .i64 x.f] 75))) := HB.out.trans (hbt.mono HB.out.size)
   have HS2 := Lib.hid HB2.out.size
   clear hbt
   go_wp2_with (at_builtin; refine wpList_append_own _ rfl (.tmp 12) (.tmp 14) 22 rfl w.heap.size 75 i0 _ 4 40 Tryz.underlying22 hi hz0 hz1 hz2 rfl (by decide) _ _ _ rfl HO2.out ⟨wr.heap.size + 1, 0, none⟩ 1 1 [.int .i64 x.n, .string x.u, .int .i64 x.s, .int .i64 x.f] rfl rfl (news_at _ _ _ _ (size1 _ _).symm) (four_o _ _ _ _) (by unfold maxLen; omega) (by omega) HS2.out ?_; intro v' w3 hown' hgrow hiff)
   have HB3 := Lib.hid (app_below HB2.out HS2.out HO2.out hgrow)
   have HO3 := Lib.hid hown'
   clear hown' hgrow hiff HB2 HS2 HO2
   go_wp2
   go_roundw
   case rel => exact ⟨j + 1, by omega, by go_num, (by unfold Hid; rw [HC.out]; exact HO3.out), HB3⟩
   case measure => simp [intOf]; omega
  ·obtain rfl : j = l.length := by omega
   rw [List.take_of_length_le (Nat.le_refl _)] at HO
   go_wp2
   go_ret
   exact ⟨_, rfl, HO.out, HB.out⟩
end Go.Proofs.YtjhdhfokhkcamaaGreat
namespace Go.Proofs.YtjhdhfokhkcamaaGreat
open Go.RowKit Go.Sort Go.Proofs
set_option linter.unusedVariables false
set_option maxRecDepth 100000
set_option maxRecDepth 100000
theorem ltT (x y : StM) : ltOf cmpSt x y = decide (ltSt x y) := by
 unfold ltOf
 by_cases h1 : ltSt x y
 ·have : cmpSt x y < 0 := by unfold cmpSt; rw [if_pos h1]; decide
  simp [h1, this]
 ·have : ¬ cmpSt x y < 0 := by
   unfold cmpSt
   rw [if_neg h1]
   by_cases h2 : ltSt y x
   ·rw [if_pos h2]; decide
   ·rw [if_neg h2]; decide
  simp [h1, this]
theorem swoT : SWO (ltOf cmpSt) where
 irrefl x := by rw [ltT]; simp [ltSt_irrefl]
 trans x y z h1 h2 := by rw [ltT] at *; simp at *; exact ltSt_trans h1 h2
 ntrans x y z h1 h2 := by rw [ltT] at *; simp at *; exact leSt_trans h2 h1
theorem flat_sts (l : List StM) (t : Nat) (h : t < l.length * 4) : (sts l)[t]? = some ((flatK encT 4 l.toArray)[t]!) := by
 rw [get_flatK encT 4 l.toArray t (by simpa using h)]
 have hk : t / 4 < l.length := by omega
 have hd : (t = t / 4 * 4 ∧ t % 4 = 0) ∨ (t = t / 4 * 4 + 1 ∧ t % 4 = 1) ∨ (t = t / 4 * 4 + 2 ∧ t % 4 = 2) ∨ (t = t / 4 * 4 + 3 ∧ t % 4 = 3) := by omega
 obtain ⟨g1, g2, g3, g4⟩ := sts_get l (t / 4) hk
 have he : l.toArray[t / 4]! = l[t / 4] := by simp [hk]
 rw [he]
 rcases hd with ⟨h1, h2⟩ | ⟨h1, h2⟩ | ⟨h1, h2⟩ | ⟨h1, h2⟩
 ·rw [← h1] at g1
  rw [h2, g1]
  rfl
 ·rw [← h1] at g2
  rw [h2, g2]
  rfl
 ·rw [← h1] at g3
  rw [h2, g3]
  rfl
 ·rw [← h1] at g4
  rw [h2, g4]
  rfl
theorem heap_sortedT {w : World} {g n : Nat} {os : Array Obj} {cur : Array Value} {e : TypeId} {fr : Nat × Nat} (d : Array StM) (hb : w.heap[g]? = some (.cells cur e fr)) :
  (sortWorldK encT 4 w g 0 n d os).heap[g]? = some (.cells (putCells id 0 (flatK encT 4 d) cur) e fr) := by
 have hg : g < w.heap.size := (Array.getElem?_eq_some_iff.1 hb).1
 unfold sortWorldK putRowK
 rw [heap_grow_old _ _ (by simpa using hg)]
 simp [putRow, mapBlock, Sort.ahead, Array.getElem?_modify, hb, onCells]
theorem grownBy_sortedT {w : World} {g n : Nat} {os : Array Obj} (d : Array StM) : w.grownBy (sortWorldK encT 4 w g 0 n d os) (some g) := by
 unfold sortWorldK putRowK
 refine ⟨rfl, rfl, rfl, by simp, fun k hk hne => ?_⟩
 rw [heap_grow_old _ _ (by simpa using hk)]
 have : g ≠ k := fun e => hne (by rw [e])
 simp [putRow, mapBlock, Sort.ahead, Array.getElem?_modify, this]
theorem take_putT (cur : Array Value) (m : List StM) (h : m.length * 4 ≤ cur.size) : (putCells id 0 (flatK encT 4 m.toArray) cur).toList.take (m.length * 4) = sts m := by
 apply List.ext_getElem?
 intro j
 by_cases hj : j < m.length * 4
 ·rw [List.getElem?_take_of_lt hj, Array.getElem?_toList, flat_sts m j hj]
  simp [putCells, hj, show j < cur.size by omega]
 ·rw [List.getElem?_take_eq_none (by omega), List.getElem?_eq_none (by rw [sts_len]; omega)]
set_option maxHeartbeats 2000000 in
theorem sort8_any (B : Nat) (v : Value) (l : List StM) (w : World) (hB : B ≤ w.heap.size) (ho : w.ownsRow B 86 4 v l.length (sts l)) (hl : l.length ≤ 1000000) :
  Calls Tryz.prog 149 #[v, .func (.func 150) #[] #[]] w fun e w' => e = .returned (.tuple #[]) ∧ ∃ m : List StM, m.Perm l ∧ m.Pairwise (fun a b => ¬ ltSt b a) ∧ w'.ownsRow B 86 4 v m.length (sts m) ∧ Below B w w' := by
 cases hll : l with
 | nil =>
  subst hll
  obtain ⟨a, c, rfl, hc, _, _, _⟩ := own_st ho
  refine (AnyF.slices_SortFunc_none Tryz.laysSortSt a c _ w).mono ?_
  rintro e w' ⟨rfl, rfl⟩
  exact ⟨rfl, [], List.Perm.refl _, List.Pairwise.nil, ho, Below.refl _ _⟩
 | cons x l' =>
  rw [← hll]
  rcases ho.2 with ⟨_, h0⟩ | ⟨g, cap, cur, rfl, hg, hb, hn, hcm, hsz, ht⟩
  ·rw [hll] at h0; simp at h0
  have hH : HoldsK encT 4 w g 0 l.toArray := fun j hj => by
   have hj' : j < l.length * 4 := by simpa using hj
   rw [Nat.zero_add]
   exact ⟨by rw [ho.cellAt j hj', flat_sts l j hj']; rfl, ho.frozenAt j⟩
  have eg : ∀ args w, (callFunc 150 args).run Tryz.prog w = .ok (.enter 150 args) w := enters_of Tryz.func150 (by kernel_rfl) rfl
  have hcon := AnyQ.slices_SortFunc Tryz.laysSortSt 4 Tryz.isAgg86 Tryz.sizeOf86 encT (fun _ => rfl) (fun x v hv => by simp [encT] at hv; rcases hv with rfl | rfl | rfl | rfl <;> rfl) cmpSt swoT 150 #[] g 0 cap l.toArray w eg (fun _ _ _ _ x y => stcmp_any x y _) hH (Array.getElem?_eq_some_iff.1 hb).1 (by simp; omega)
  change Calls Tryz.prog 149 #[.slice (some ⟨g, 0, none⟩) l.length cap, _] _ _ at hcon
  refine hcon.mono ?_
  rintro e w' ⟨rfl, d', n, os, hp, hs, rfl⟩
  have hsize : d'.size = l.length := by simpa using hp.1
  have hml : d'.toList.length = l.length := by simpa using hsize
  have hpm : d'.toList.Perm l := by
   have h := hp.2.2
   simpa [Array.extract_eq_self_of_le, hsize] using h
  have hd : d'.toList.toArray = d' := by simp
  refine ⟨rfl, d'.toList, hpm, ?_, ?_, app_below (Below.refl _ _) hB ho (grownBy_sortedT d')⟩
  ·rw [List.pairwise_iff_getElem]
   intro i j hi hj hij
   have h := hs i j (Nat.zero_le _) hij (by simpa [hsize] using hj)
   rw [ltT] at h
   simp at hi hj
   simp [hi, hj] at h
   simpa using h
  ·rw [hml]
   refine ⟨by rw [sts_len, hml], .inr ⟨g, cap, _, rfl, hg, heap_sortedT d' hb, hn, hcm, by simp [putCells, hsz], ?_⟩⟩
   have := take_putT cur d'.toList (by rw [hml, hsz]; exact Nat.mul_le_mul_right _ hn)
   rw [hd, hml] at this
   exact this
theorem st_one (f t n s : Int) : ∀ u ∈ [Value.int .i64 f, .int .i64 t, .int .i64 n, .int .i64 s], u.oneCell' = true := by
 intro u hu
 simp only [List.mem_cons, List.mem_nil_iff, or_false] at hu
 rcases hu with rfl | rfl | rfl | rfl <;> rfl
set_option maxHeartbeats 4000000 in
theorem ostays_any (a : Option Addr) (c : Nat) (l : List OpM) (u : ByteArray) (t : Int) (w : World) (hr : OpSl w a l) (hl : l.length ≤ 1000) :
  Calls Tryz.prog 90 #[.slice a l.length c, .string u, .int .i64 t] w fun e w' => ∃ v, e = .returned v ∧ w'.ownsRow w.heap.size 86 4 v (staysO l u t).length (sts (staysO l u t)) ∧ Below w.heap.size w w' := by
 obtain ⟨i0, hi, hz0, hz1, hz2⟩ := info_parts infoStay
 have HR := Lib.hid hr
 have HST := Lib.hid (fun (x : OpM) W => stay_any x t W)
 have HNO := Lib.hid none_any
 have HSO := Lib.hid sort8_any
 have HFIN := Lib.hid (fun (m : List StM) (hp : m.Perm (rawO l u t)) (hs : m.Pairwise fun a b => ¬ ltSt b a) => stays_only hp hs)
 unfold opV stV stayO at HST
 clear hr
 generalize staysO l u t = G at *
 go_enter Tryz.func90, Tryz.ntmps90
 go_wp2
 go_loopw [7, 13] (fun v i wr => ∃ (j : Nat), j ≤ l.length ∧ i = .int .i64 j ∧ Hid (wr.ownsRow w.heap.size 86 4 v (rawO (l.take j) u t).length (sts (rawO (l.take j) u t))) ∧ Hid (Below w.heap.size w wr)) (fun _ i _ => l.length - (intOf i).toNat)
 case atStart => exact ⟨0, by omega, rfl, ⟨rfl, .inl ⟨rfl, rfl⟩⟩, Below.refl _ _⟩
 case round =>
  obtain ⟨j, hj, rfl, HO, HB⟩ := hrel
  by_cases hjl : j < l.length
  ·obtain ⟨b, off, rfl, hbl, hc0, hc1, hc2, hc3⟩ := (HR.out.below HB.out).at_ hjl
   have HN := Lib.hid (rawO_next l u t j hjl)
   have hln : (rawO (l.take j) u t).length ≤ 1000 := by
    have h1 := rawO_len (l.take j) u t
    have h2 : (l.take j).length ≤ j := by simp; omega
    omega
   generalize rawO (l.take j) u t = M at *
   generalize l[j] = x at *
   have HX := Lib.hid (heap_alloc_new wr (.cells #[.int .i64 x.n, .string x.u, .int .i64 x.s, .int .i64 x.f] 112))
   have HSTX := 0; clear HSTX
   clear HSO HFIN
   by_cases hu : x.u = u
   ·have q1 : (x.u.toList == u.toList) = true := by rw [hu]; exact txt_eq u
    have q2 : decide (x.u = u) = true := decide_eq_true hu
    by_cases hw : x.f < t
    ·have HN2 : Hid (rawO (l.take (j + 1)) u t = M ++ [stayO x t]) := by
      have := HN.out
      rwa [if_pos (show stU u t x = true by unfold stU; rw [q2, decide_eq_true hw]; rfl)] at this
     have q3 : decide (t ≤ x.f) = false := decide_eq_false (by omega)
     have HNN : Hid (∀ W, Calls Tryz.prog 135 #[.agg #[.int .i64 x.f, .int .i64 t]] W fun e w' => e = .returned (.bool false) ∧ Below W.heap.size W w') := fun W => by
      have := HNO.out x.f t W
      rwa [q3] at this
     clear HN hu q2 hw q3 HNO
     go_wp2_with fail
     refine (HST.out x _).mono ?_
     rintro r w2 ⟨rfl, hB⟩
     have hb2 : Below wr.heap.size wr w2 := (below_one wr (.cells #[.int .i64 x.n, .string x.u, .int .i64 x.s, .int .i64 x.f] 112)).trans (hB.mono (by rw [size1]; omega))
     obtain ⟨d0, d1, d2, d3⟩ := cells4 ((hB.block _ (heap_lt HX.out)).trans HX.out)
     have hlt : wr.heap.size < w2.heap.size := by have := hB.size; rw [size1] at this; omega
     have HY := Lib.hid (heap_alloc_new w2 (.cells #[.int .i64 x.f, .int .i64 t, .int .i64 x.n, .int .i64 x.s] 86))
     obtain ⟨e0, e1, e2, e3⟩ := cells4 HY.out
     have hb3 := below_one w2 (.cells #[.int .i64 x.f, .int .i64 t, .int .i64 x.n, .int .i64 x.s] 86)
     have g1 : (w2.alloc (.cells #[.int .i64 x.f, .int .i64 t, .int .i64 x.n, .int .i64 x.s] 86)).cell? ⟨wr.heap.size, 1, none⟩ = some (.string x.u) := (hb3.cell (p := ⟨wr.heap.size, 1, none⟩) hlt).trans d1
     have HB3 : Hid (Below wr.heap.size wr (w2.alloc (.cells #[.int .i64 x.f, .int .i64 t, .int .i64 x.n, .int .i64 x.s] 86))) := hb2.trans (hb3.mono hb2.size)
     clear hB hb2 hb3 d0 d1 d2 d3 hc0 hc1 hc2 hc3
     go_wp2_with fail
     refine (HNN.out _).mono ?_
     rintro r w4 ⟨rfl, hB4⟩
     have hb4 : Below wr.heap.size wr w4 := HB3.out.trans (hB4.mono HB3.out.size)
     obtain ⟨m0, m1, m2, m3⟩ := cells4 ((hB4.block _ (heap_lt HY.out)).trans HY.out)
     have HO2 := Lib.hid (own_below HO.out (hb4.trans ((below_one w4 (.cells #[.int .i64 x.f, .int .i64 t, .int .i64 x.n, .int .i64 x.s] 86)).mono hb4.size)))
     have HB2 : Hid (Below w.heap.size w (w4.alloc (.cells #[.int .i64 x.f, .int .i64 t, .int .i64 x.n, .int .i64 x.s] 86))) := HB.out.trans ((hb4.trans ((below_one w4 _).mono hb4.size)).mono HB.out.size)
     have HS2 := Lib.hid HB2.out.size
     clear hB4 hb4 HX HY HB3 e0 e1 e2 e3 g1 hlt
     go_wp2_with (at_builtin; refine wpList_append_own _ rfl (.tmp 30) (.tmp 32) 60 rfl w.heap.size 86 i0 _ 4 32 Tryz.underlying60 hi hz0 hz1 hz2 rfl (by decide) _ _ _ rfl HO2.out ⟨w4.heap.size, 0, none⟩ 1 1 [.int .i64 x.f, .int .i64 t, .int .i64 x.n, .int .i64 x.s] rfl rfl (news_at _ _ _ _ rfl) (st_one _ _ _ _) (by unfold maxLen; omega) (by omega) HS2.out ?_; intro v' w5 hown' hgrow hiff)
     have HB5 := Lib.hid (app_below HB2.out HS2.out HO2.out hgrow)
     have HO5 := Lib.hid hown'
     clear hown' hgrow hiff HB2 HS2 HO2
     go_wp2
     go_roundw
     case rel => exact ⟨j + 1, by omega, by go_num, (by unfold Hid; rw [HN2.out, List.length_append, sts_snoc]; exact HO5.out), HB5⟩
     case measure => simp [intOf]; omega
    ·have HN2 : Hid (rawO (l.take (j + 1)) u t = M) := by
      have := HN.out
      rwa [if_neg (show ¬ stU u t x = true by unfold stU; rw [decide_eq_false hw, Bool.and_false]; exact Bool.false_ne_true)] at this
     have q3 : decide (t ≤ x.f) = true := decide_eq_true (by omega)
     have HNN : Hid (∀ W, Calls Tryz.prog 135 #[.agg #[.int .i64 x.f, .int .i64 t]] W fun e w' => e = .returned (.bool true) ∧ Below W.heap.size W w') := fun W => by
      have := HNO.out x.f t W
      rwa [q3] at this
     clear HN hu q2 hw q3 HNO
     go_wp2_with fail
     refine (HST.out x _).mono ?_
     rintro r w2 ⟨rfl, hB⟩
     have hb2 : Below wr.heap.size wr w2 := (below_one wr (.cells #[.int .i64 x.n, .string x.u, .int .i64 x.s, .int .i64 x.f] 112)).trans (hB.mono (by rw [size1]; omega))
     obtain ⟨d0, d1, d2, d3⟩ := cells4 ((hB.block _ (heap_lt HX.out)).trans HX.out)
     have hlt : wr.heap.size < w2.heap.size := by have := hB.size; rw [size1] at this; omega
     have HY := Lib.hid (heap_alloc_new w2 (.cells #[.int .i64 x.f, .int .i64 t, .int .i64 x.n, .int .i64 x.s] 86))
     obtain ⟨e0, e1, e2, e3⟩ := cells4 HY.out
     have hb3 := below_one w2 (.cells #[.int .i64 x.f, .int .i64 t, .int .i64 x.n, .int .i64 x.s] 86)
     have g1 : (w2.alloc (.cells #[.int .i64 x.f, .int .i64 t, .int .i64 x.n, .int .i64 x.s] 86)).cell? ⟨wr.heap.size, 1, none⟩ = some (.string x.u) := (hb3.cell (p := ⟨wr.heap.size, 1, none⟩) hlt).trans d1
     have HB3 : Hid (Below wr.heap.size wr (w2.alloc (.cells #[.int .i64 x.f, .int .i64 t, .int .i64 x.n, .int .i64 x.s] 86))) := hb2.trans (hb3.mono hb2.size)
     clear hB hb2 hb3 d0 d1 d2 d3 hc0 hc1 hc2 hc3
     go_wp2_with fail
     refine (HNN.out _).mono ?_
     rintro r w4 ⟨rfl, hB4⟩
     have hb4 : Below wr.heap.size wr w4 := HB3.out.trans (hB4.mono HB3.out.size)
     have HO2 := Lib.hid (own_below HO.out hb4)
     have HB2 := Lib.hid (HB.out.trans (hb4.mono HB.out.size))
     clear hB4 hb4 HX HY HB3 e0 e1 e2 e3 g1 hlt
     go_wp2
     go_roundw
     case rel => exact ⟨j + 1, by omega, by go_num, (by unfold Hid; rw [HN2.out]; exact HO2.out), HB2⟩
     case measure => simp [intOf]; omega
   ·have q1 := txt_ne hu
    have HN2 : Hid (rawO (l.take (j + 1)) u t = M) := by
     have := HN.out
     rwa [if_neg (show ¬ stU u t x = true by unfold stU; rw [decide_eq_false hu]; exact Bool.false_ne_true)] at this
    clear HN hu HNO
    go_wp2_with fail
    refine (HST.out x _).mono ?_
    rintro r w2 ⟨rfl, hB⟩
    have hb2 : Below wr.heap.size wr w2 := (below_one wr (.cells #[.int .i64 x.n, .string x.u, .int .i64 x.s, .int .i64 x.f] 112)).trans (hB.mono (by rw [size1]; omega))
    obtain ⟨d0, d1, d2, d3⟩ := cells4 ((hB.block _ (heap_lt HX.out)).trans HX.out)
    have hlt : wr.heap.size < w2.heap.size := by have := hB.size; rw [size1] at this; omega
    have HY := Lib.hid (heap_alloc_new w2 (.cells #[.int .i64 x.f, .int .i64 t, .int .i64 x.n, .int .i64 x.s] 86))
    obtain ⟨e0, e1, e2, e3⟩ := cells4 HY.out
    have hb3 := below_one w2 (.cells #[.int .i64 x.f, .int .i64 t, .int .i64 x.n, .int .i64 x.s] 86)
    have g1 : (w2.alloc (.cells #[.int .i64 x.f, .int .i64 t, .int .i64 x.n, .int .i64 x.s] 86)).cell? ⟨wr.heap.size, 1, none⟩ = some (.string x.u) := (hb3.cell (p := ⟨wr.heap.size, 1, none⟩) hlt).trans d1
    have HB3 : Hid (Below wr.heap.size wr (w2.alloc (.cells #[.int .i64 x.f, .int .i64 t, .int .i64 x.n, .int .i64 x.s] 86))) := hb2.trans (hb3.mono hb2.size)
    clear hB hb2 hb3 d0 d1 d2 d3 hc0 hc1 hc2 hc3
    have HO2 := Lib.hid (own_below HO.out HB3.out)
    have HB2 := Lib.hid (HB.out.trans (HB3.out.mono HB.out.size))
    clear HX HY HB3 e0 e1 e2 e3 hlt
    go_wp2
    go_roundw
    case rel => exact ⟨j + 1, by omega, by go_num, (by unfold Hid; rw [HN2.out]; exact HO2.out), HB2⟩
    case measure => simp [intOf]; omega
  ·obtain rfl : j = l.length := by omega
   rw [List.take_of_length_le (Nat.le_refl _)] at HO
   have hrl := rawO_len l u t
   have HS := Lib.hid (HSO.out w.heap.size _ (rawO l u t) wr HB.out.size HO.out (by omega))
   clear HST HNO HSO
   go_wp2_with fail
   refine HS.out.mono ?_
   rintro e w5 ⟨rfl, m, hperm, hsort, ho5, hb5⟩
   have hm := HFIN.out m hperm hsort
   subst hm
   go_wp2
   go_ret
   exact ⟨_, rfl, ho5, HB.out.trans hb5⟩
end Go.Proofs.YtjhdhfokhkcamaaGreat
namespace Go.Proofs.YtjhdhfokhkcamaaGreat
open Go.RowKit Go.Shelf Go.Sort
set_option linter.unusedVariables false
set_option maxRecDepth 100000
section plain
theorem both (x y : List UInt8) (h1 : ltOf Lib.compareBytes x y = false) (h2 : ltOf Lib.compareBytes y x = false) : x = y := by
 unfold ltOf at *
 rw [decide_eq_false_iff_not] at *
 have a := cb_neg x y
 exact cb_eq x y (by omega)
end plain
end Go.Proofs.YtjhdhfokhkcamaaGreat
namespace Go.Proofs.YtjhdhfokhkcamaaGreat
open Go.RowKit
set_option linter.unusedVariables false
set_option maxRecDepth 100000
set_option maxRecDepth 100000
theorem o_news (a : Option Addr) (c : Nat) (l : List OpM) (W : World) (h : OpSl W a l) (hl : l.length ≤ 1000) : Calls Tryz.prog 40 #[.slice a l.length c] W fun e w' => ∃ x q, e = .returned (.slice x l.length q) ∧ l.length ≤ q ∧ q ≤ maxLen ∧ (x = none → q = 0) ∧ OpSl w' x l ∧ Below W.heap.size W w' := by
 refine (onews_any a c l W h (by omega)).mono ?_
 rintro e w' ⟨v, rfl, ho, hb⟩
 obtain ⟨x, q, rfl, h1, h2, h3, h4⟩ := own_op ho
 exact ⟨x, q, rfl, h1, h2, h4, h3, hb⟩
theorem o_olds (a : Option Addr) (c : Nat) (l : List OpM) (W : World) (h : OpSl W a l) (hl : l.length ≤ 1000) : Calls Tryz.prog 56 #[.slice a l.length c] W fun e w' => ∃ x q, e = .returned (.slice x l.length q) ∧ l.length ≤ q ∧ q ≤ maxLen ∧ (x = none → q = 0) ∧ OpSl w' x l ∧ Below W.heap.size W w' := by
 refine (oolds_any a c l W h (by omega)).mono ?_
 rintro e w' ⟨v, rfl, ho, hb⟩
 obtain ⟨x, q, rfl, h1, h2, h3, h4⟩ := own_op ho
 exact ⟨x, q, rfl, h1, h2, h4, h3, hb⟩
theorem o_without (a : Option Addr) (c : Nat) (l : List OpM) (s : ByteArray) (W : World) (h : OpSl W a l) (hl : l.length ≤ 1000) : Calls Tryz.prog 169 #[.slice a l.length c, .string s] W fun e w' => ∃ x q, e = .returned (.slice x (l.filter (notU s)).length q) ∧ (l.filter (notU s)).length ≤ q ∧ q ≤ maxLen ∧ (x = none → q = 0) ∧ OpSl w' x (l.filter (notU s)) ∧ Below W.heap.size W w' := by
 refine (owithout_any a c l s W h (by omega)).mono ?_
 rintro e w' ⟨v, rfl, ho, hb⟩
 obtain ⟨x, q, rfl, h1, h2, h3, h4⟩ := own_op ho
 exact ⟨x, q, rfl, h1, h2, h4, h3, hb⟩
theorem o_open (a : Option Addr) (c : Nat) (l : List OpM) (e0 : OpM) (W : World) (h : OpSl W a l) (hn : a = none → c = 0) (hl : l.length ≤ 500) (hc : l.length ≤ c) (hcm : c ≤ maxLen) : Calls Tryz.prog 110 #[.slice a l.length c, .agg #[.int .i64 e0.n, .string e0.u, .int .i64 e0.s, .int .i64 e0.f]] W fun e w' => ∃ x q, e = .returned (.tuple #[.slice x (openR l e0).length q, .int .i64 (openC l e0)]) ∧ (openR l e0).length ≤ q ∧ q ≤ maxLen ∧ (x = none → q = 0) ∧ OpSl w' x (openR l e0) ∧ Below W.heap.size W w' := by
 refine (open_any a c l e0 W h hn hl hc hcm).mono ?_
 rintro e w' ⟨v, rfl, x, q, rfl, h1, h2, h3, h4, h5⟩
 exact ⟨x, q, rfl, h1, h2, h3, h4, h5⟩
theorem o_change (a : Option Addr) (c : Nat) (l : List OpM) (n : Int) (u : ByteArray) (s t : Int) (W : World) (h : OpSl W a l) (hl : l.length ≤ 500) (hc : l.length ≤ c) (hcm : c ≤ maxLen) : Calls Tryz.prog 111 #[.slice a l.length c, .int .i64 n, .string u, .int .i64 s, .int .i64 t] W fun e w' => ∃ x q, e = .returned (.tuple #[.slice x (chgR l n u s t).length q, .agg #[.int .i64 (fndS l n u t).f, .int .i64 (fndS l n u t).t, .int .i64 (fndS l n u t).n, .int .i64 (fndS l n u t).s], .int .i64 (findC l n u)]) ∧ (chgR l n u s t).length ≤ q ∧ q ≤ maxLen ∧ (x = none → q = 0) ∧ OpSl w' x (chgR l n u s t) ∧ Below W.heap.size W w' := by
 refine (change_any a c l n u s t W h hl hc hcm).mono ?_
 rintro e w' ⟨v, rfl, x, q, rfl, h1, h2, h3, h4, h5⟩
 exact ⟨x, q, rfl, h1, h2, h3, h4, h5⟩
theorem o_close (a : Option Addr) (c : Nat) (l : List OpM) (n : Int) (u : ByteArray) (t : Int) (W : World) (h : OpSl W a l) (hl : l.length ≤ 500) (hc : l.length ≤ c) (hcm : c ≤ maxLen) : Calls Tryz.prog 140 #[.slice a l.length c, .int .i64 n, .string u, .int .i64 t] W fun e w' => ∃ x q, e = .returned (.tuple #[.slice x (cloR l n u).length q, .agg #[.int .i64 (fndS l n u t).f, .int .i64 (fndS l n u t).t, .int .i64 (fndS l n u t).n, .int .i64 (fndS l n u t).s], .int .i64 (findC l n u)]) ∧ (cloR l n u).length ≤ q ∧ q ≤ maxLen ∧ (x = none → q = 0) ∧ OpSl w' x (cloR l n u) ∧ Below W.heap.size W w' := by
 refine (close_any a c l n u t W h hl hc hcm).mono ?_
 rintro e w' ⟨v, rfl, x, q, rfl, h1, h2, h3, h4, h5⟩
 exact ⟨x, q, rfl, h1, h2, h3, h4, h5⟩
theorem o_stays (a : Option Addr) (c : Nat) (l : List OpM) (u : ByteArray) (t : Int) (W : World) (h : OpSl W a l) (hl : l.length ≤ 1000) : Calls Tryz.prog 90 #[.slice a l.length c, .string u, .int .i64 t] W fun e w' => ∃ x q, e = .returned (.slice x (staysO l u t).length q) ∧ (staysO l u t).length ≤ q ∧ q ≤ maxLen ∧ (x = none → q = 0) ∧ StSl w' x (staysO l u t) ∧ Below W.heap.size W w' := by
 refine (ostays_any a c l u t W h hl).mono ?_
 rintro e w' ⟨v, rfl, ho, hb⟩
 obtain ⟨x, q, rfl, h1, h2, h3, h4⟩ := own_st ho
 exact ⟨x, q, rfl, h1, h2, h4, h3, hb⟩
theorem o_rising (a : Option Addr) (c : Nat) (l : List OpM) (W : World) (h : OpSl W a l) (hs : SzO l) (hl : l.length ≤ 1000) : Calls Tryz.prog 59 #[.slice a l.length c] W fun e w' => e = .returned (.bool (decide (RiseO l))) ∧ Below W.heap.size W w' := orising_any a c l W h hs (by omega)
theorem o_same (a b : Option Addr) (c q : Nat) (l m : List OpM) (W : World) (ha : OpSl W a l) (hb : OpSl W b m) (hl : l.length ≤ 1000) (hm : m.length ≤ 1000) : Calls Tryz.prog 81 #[.slice a l.length c, .slice b m.length q] W fun e w' => e = .returned (.bool (decide (l = m))) ∧ Below W.heap.size W w' :=
 osame_any a b c q l m W ha hb (by unfold maxLen; omega) (by unfold maxLen; omega)
theorem o_rsame (a b : Option Addr) (c q : Nat) (l m : List OpM) (W : World) (ha : OpSl W a l) (hb : OpSl W b m) (hl : l.length ≤ 1000) (hm : m.length ≤ 1000) : Calls Tryz.prog 54 #[.slice a l.length c, .slice b m.length q] W fun e w' => e = .returned (.bool (decide (l = m))) ∧ Below W.heap.size W w' :=
 orefSame_any a b c q l m W ha hb (by unfold maxLen; omega) (by unfold maxLen; omega)
end Go.Proofs.YtjhdhfokhkcamaaGreat
namespace Go.Proofs.YtjhdhfokhkcamaaGreat
open Go.RowKit Go.Proofs
set_option linter.unusedVariables false
set_option maxRecDepth 100000
theorem SB.fin {w T : World} {g r : Nat} {t t' : TypeId} {y z : SaL} (hK : SB w g t y T) (hZ : SB w r t' z T) : (loadVar 38 ⟨r, 0, none⟩).run Tryz.prog (setS T r y) = .ok (saV y) (setS T r y) ∧ SaAt (setS T r y) y ∧ Below w.heap.size w (setS T r y) := by
 have hF := hZ.set hK.at_
 exact ⟨loadS6 hF.blk, hF.at_, hF.frame⟩
theorem SB.finR {w T : World} {g r : Nat} {t t' : TypeId} {y z : SaL} (hK : SB w g t y T) (hZ : SB w r t' z T) : (loadVar 27 ⟨r, 0, none⟩).run Tryz.prog (setS T r y) = .ok (saV y) (setS T r y) ∧ SaAt (setS T r y) y ∧ Below w.heap.size w (setS T r y) := by
 have hF := hZ.set hK.at_
 exact ⟨loadR6 hF.blk, hF.at_, hF.frame⟩
theorem SB.finV {w T : World} {r : Nat} {t' : TypeId} {y z : SaL} (hy : SaAt T y) (hZ : SB w r t' z T) : (loadVar 38 ⟨r, 0, none⟩).run Tryz.prog (setS T r y) = .ok (saV y) (setS T r y) ∧ SaAt (setS T r y) y ∧ Below w.heap.size w (setS T r y) := by
 have hF := hZ.set hy
 exact ⟨loadS6 hF.blk, hF.at_, hF.frame⟩
theorem two_SB {w : World} {x : SaL} (h : SaAt w x) (t t' : TypeId) : SB w w.heap.size t x ((w.alloc (.cells (saC x) t)).alloc (.cells (saC saO) t')) ∧ SB w (w.heap.size + 1) t' saO ((w.alloc (.cells (saC x) t)).alloc (.cells (saC saO) t')) := by
 have S0 := SB.new (Below.refl w.heap.size w) h t
 have Z0 := SB.new (S0.frame) (SaAt.zero (w.alloc (.cells (saC x) t))) t'
 rw [size1] at Z0
 exact ⟨S0.alloc _, Z0⟩
theorem umS_st {D : List UsL} {n : Nat} (h : ∀ u ∈ umS D, u.l.length ≤ n) : ∀ y ∈ D, y.l.length ≤ n := fun y hy => h y.m (List.mem_map_of_mem hy)
set_option maxHeartbeats 4000000 in
theorem closed_any (x : SaL) (n : Int) (u : ByteArray) (at_ : Int) (w : World) (h : SaAt w x) (hf : Few x.m 450) (hk : RiseK UsM.u (umS x.us)) :
  Calls Tryz.prog 75 #[saV x, .int .i64 n, .string u, .int .i64 at_] w fun e w' => ∃ y, e = .returned (.tuple #[saV y, .int .i64 (findC x.op n u)]) ∧ SaAt w' y ∧ y.m = { x.m with op := cloR x.op n u, us := addU (umS x.us) u (fndS x.op n u at_) } ∧ Below w.heap.size w w' := by
 obtain ⟨HK, HZ⟩ := two_SB h 38 38
 obtain ⟨now, hor, oa, op, oc, ua, us, uc, sa, su, sc, ta, tb, tc⟩ := x
 have hun : us.length ≤ 450 := by have := hf.us; unfold SaL.m at this; simp only at this; rwa [umS_len] at this
 have HCL := Lib.hid (fun V (h : OpSl V oa op) => o_close oa oc op n u at_ V h (Nat.le_trans hf.op (by decide)) HK.at_.oc.le HK.at_.oc.mx)
 have HWS := Lib.hid (fun V (h : UsSl V ua us) => withStay_any ua uc us u (fndS op n u at_) V h HK.at_.uc hk (by omega) (fun y hy => by have := umS_st hf.st y hy; omega))
 have HS := Lib.hid HK
 have HZZ := Lib.hid HZ
 obtain ⟨c0, c1, c2, c3, c4, c5⟩ := HK.cells
 unfold stV at HWS
 unfold saV saC at *
 dsimp only at *
 clear h hf HK HZ
 go_enter Tryz.func75, Tryz.ntmps75
 go_wp2_with fail
 refine (HCL.out _ HS.out.at_.op).mono ?_
 rintro e w1 ⟨x1, q1, rfl, i1, j1, k1, l1, h1⟩
 generalize hst : fndS op n u at_ = st at *
 have hb := below_one w1 (.cells #[.int .i64 st.f, .int .i64 st.t, .int .i64 st.n, .int .i64 st.s] 86)
 have S1 := (HS.out.below h1).below hb
 have Z1 := (HZZ.out.below h1).below hb
 have L1 := l1.below hb
 clear c0 c1 c2 c3 c4 c5
 obtain ⟨c0, c1, c2, c3, c4, c5⟩ := S1.cells
 obtain ⟨s0, s1, s2, s3⟩ := cells4 (heap_alloc_new w1 (.cells #[.int .i64 st.f, .int .i64 st.t, .int .i64 st.n, .int .i64 st.s] 86))
 have HS1 := Lib.hid S1
 have HZ1 := Lib.hid Z1
 have HL1 := Lib.hid L1
 have HC1 := Lib.hid (Cp.mk i1 j1 k1)
 dsimp only at *
 clear HS HZZ S1 Z1 L1 h1 hb l1 i1 j1 k1
 go_wp2_with fail
 refine (HWS.out _ HS1.out.at_.us).mono ?_
 rintro e w2 ⟨x2, q2, L, rfl, z2, p2, m2, h2⟩
 have S2 := HS1.out.below h2
 have Z2 := HZ1.out.below h2
 have S3 := S2.setOp rfl (HL1.out.below h2) HC1.out
 have S4 := S3.setUs rfl (z2.setB S2.blk 2 (.slice x1 (cloR op n u).length q1)) p2
 have Z3 := Z2.far S2 (by omega) 2 (.slice x1 (cloR op n u).length q1)
 have Z4 := Z3.far S3 (by omega) 3 (.slice x2 L.length q2)
 have hfin := S4.fin Z4
 clear c0 c1 c2 c3 c4 c5 s0 s1 s2 s3
 obtain ⟨c0, c1, c2, c3, c4, c5⟩ := S2.cells
 obtain ⟨f0, f1, f2, f3, f4, f5⟩ := S2.free
 obtain ⟨d0, d1, d2, d3, d4, d5⟩ := S4.cells
 obtain ⟨z0, z1, z2', z3, z4, z5⟩ := Z4.cells
 obtain ⟨y0, y1, y2, y3, y4, y5⟩ := Z4.free
 have hgl := S2.lt
 have hzl := Z4.lt
 have HL := Lib.hid hfin.1
 have HFN := Lib.hid (And.intro hfin.2.1 (And.intro (show SaL.m ⟨now, hor, x1, cloR op n u, q1, x2, L, q2, sa, su, sc, ta, tb, tc⟩ = ⟨now, hor, cloR op n u, addU (umS us) u (fndS op n u at_), su, tb⟩ by unfold SaL.m; simp only; rw [m2, hst]) hfin.2.2))
 unfold setS saV saC at HL
 unfold saO at z0 z1 z2' z3 z4 z5
 dsimp only at *
 clear S2 Z2 S3 S4 Z3 Z4 hfin HS1 HZ1 HL1 HC1 HCL HWS z2 p2 m2 h2
 go_wp2
 refine bodyPost_ret (v := .tuple #[saV ⟨now, hor, x1, cloR op n u, q1, x2, L, q2, sa, su, sc, ta, tb, tc⟩, .int .i64 (findC op n u)]) ?_ rfl ⟨_, rfl, HFN.out⟩
 rw [results_cellT rfl]
 unfold saV saC
 simp [asAddr, Result.andThen, HL.out]
set_option maxHeartbeats 4000000 in
theorem erased_any (x : SaL) (u : ByteArray) (at_ : Int) (w : World) (h : SaAt w x) (hf : Few x.m 450) (hk : RiseK UsM.u (umS x.us)) (ht : RiseK TbM.u x.tb) :
  Calls Tryz.prog 115 #[saV x, .string u, .int .i64 at_] w fun e w' => ∃ y, e = .returned (saV y) ∧ SaAt w' y ∧ y.m = { x.m with op := x.op.filter (notU u), us := putU (umS x.us) u [], su := withoutS x.su u, tb := tombU x.tb u at_ } ∧ Below w.heap.size w w' := by
 have S0 := SB.new (Below.refl w.heap.size w) h 38
 have hbu := below_one (w.alloc (.cells (saC x) 38)) (.cells #[.string u] 9)
 have S1 := S0.below hbu
 have Z0 := SB.new S1.frame (SaAt.zero ((w.alloc (.cells (saC x) 38)).alloc (.cells #[.string u] 9))) 38
 have hcap : CapO ((w.alloc (.cells (saC x) 38)).alloc (.cells #[.string u] 9)) (w.heap.size + 1) (.string u) := ⟨by have := cell_of_row ((w.alloc (.cells (saC x) 38)).alloc (.cells #[.string u] 9)) (w.alloc (.cells (saC x) 38)).heap.size 0 _ _ (0, 0) (heap_alloc_new _ _); rw [size1] at this; exact this, by rw [size1, size1]; omega⟩
 rw [size1, size1] at Z0
 have HK := S1.alloc (.cells (saC saO) 38)
 have HCA := Lib.hid (hcap.below (below_one _ (.cells (saC saO) 38)))
 obtain ⟨now, hor, oa, op, oc, ua, us, uc, sa, su, sc, ta, tb, tc⟩ := x
 have hun : us.length ≤ 450 := by have := hf.us; unfold SaL.m at this; simp only at this; rwa [umS_len] at this
 have HWO := Lib.hid (fun V (h : OpSl V oa op) => o_without oa oc op u V h (Nat.le_trans hf.op (by decide)))
 have HTH := Lib.hid (fun V (h : UsSl V ua us) (k : CapO V (w.heap.size + 1) (.string u)) => those_any ua uc us u (w.heap.size + 1) V h HK.at_.uc (by omega) k)
 have HWE := Lib.hid (fun V (h : EnSl V sa su) => e_without sa sc su u V h (Nat.le_trans hf.su (by decide)))
 have HPT := Lib.hid (fun V (h : TbSl V ta tb) => put_tb ta tc tb ⟨u, at_⟩ V h HK.at_.tc (Nat.le_trans hf.tb (by decide)))
 have HPI := Lib.hid (fun L (h : IsPut TbM.u tb ⟨u, at_⟩ L) => h.tb ht)
 have HKU : Hid (umS (butU u us) = putU (umS us) u []) := by
  unfold Hid
  rw [butU_m]
  exact (ins_out hk).symm
 have HS := Lib.hid HK
 have HZZ := Lib.hid Z0
 obtain ⟨c0, c1, c2, c3, c4, c5⟩ := HK.cells
 obtain ⟨f0, f1, f2, f3, f4, f5⟩ := HK.free
 obtain ⟨k0, hkl⟩ := HCA.out
 unfold saV saC at *
 dsimp only at *
 have hgl := HK.lt
 clear h hf HK Z0 S0 S1 hbu hcap
 go_enter Tryz.func115, Tryz.ntmps115
 go_wp2_with fail
 refine (HWO.out _ HS.out.at_.op).mono ?_
 rintro e w1 ⟨x1, q1, rfl, i1, j1, k1, l1, h1⟩
 have A1 := HS.out.below h1
 have B1 := HZZ.out.below h1
 have C1 := HCA.out.below h1
 have A2 := A1.setOp rfl l1 ⟨i1, j1, k1⟩
 have B2 := B1.far A1 (by omega) 2 (.slice x1 (op.filter (notU u)).length q1)
 have C2 : CapO (w1.setCell ⟨w.heap.size, 2, none⟩ (.slice x1 (op.filter (notU u)).length q1)) (w.heap.size + 1) (.string u) := ⟨(cell_far (p := ⟨w.heap.size + 1, 0, none⟩) (by show w.heap.size + 1 ≠ w.heap.size; omega)).trans C1.1, by rw [size_set]; exact C1.2⟩
 clear c0 c1 c2 c3 c4 c5 f0 f1 f2 f3 f4 f5 hgl k0 hkl
 obtain ⟨c0, c1, c2, c3, c4, c5⟩ := A1.cells
 obtain ⟨f0, f1, f2, f3, f4, f5⟩ := A1.free
 have hgl := A1.lt
 obtain ⟨d0, d1, d2, d3, d4, d5⟩ := A2.cells
 have HS2 := Lib.hid A2
 have HZ2 := Lib.hid B2
 have HC2 := Lib.hid C2
 dsimp only at *
 clear HS HZZ HCA A1 B1 C1 A2 B2 C2 h1 i1 j1 k1 l1
 go_wp2_with fail
 refine (HTH.out _ HS2.out.at_.us HC2.out).mono ?_
 rintro e w2 ⟨x2, q2, rfl, l2, p2, h2⟩
 have A1 := HS2.out.below h2
 have B1 := HZ2.out.below h2
 have C1 := HC2.out.below h2
 have A2 := A1.setUs rfl l2 p2
 have B2 := B1.far A1 (by omega) 3 (.slice x2 (butU u us).length q2)
 have C2 : CapO (w2.setCell ⟨w.heap.size, 3, none⟩ (.slice x2 (butU u us).length q2)) (w.heap.size + 1) (.string u) := ⟨(cell_far (p := ⟨w.heap.size + 1, 0, none⟩) (by show w.heap.size + 1 ≠ w.heap.size; omega)).trans C1.1, by rw [size_set]; exact C1.2⟩
 clear c0 c1 c2 c3 c4 c5 f0 f1 f2 f3 f4 f5 hgl d0 d1 d2 d3 d4 d5
 obtain ⟨c0, c1, c2, c3, c4, c5⟩ := A1.cells
 obtain ⟨f0, f1, f2, f3, f4, f5⟩ := A1.free
 have hgl := A1.lt
 obtain ⟨d0, d1, d2, d3, d4, d5⟩ := A2.cells
 have HC3 := Lib.hid C2
 obtain ⟨k0, hkl⟩ := C2
 have HS3 := Lib.hid A2
 have HZ3 := Lib.hid B2
 dsimp only at *
 clear HS2 HZ2 HC2 A1 B1 C1 A2 B2 h2 l2 p2
 go_wp2_with fail
 refine (HWE.out _ HS3.out.at_.su).mono ?_
 rintro e w3 ⟨x3, q3, rfl, i3, j3, k3, l3, h3⟩
 have A1 := HS3.out.below h3
 have B1 := HZ3.out.below h3
 have C1 := HC3.out.below h3
 have A2 := A1.setSu rfl l3 ⟨i3, j3, k3⟩
 have B2 := B1.far A1 (by omega) 4 (.slice x3 (su.filter (wiE u)).length q3)
 have C2 : CapO (w3.setCell ⟨w.heap.size, 4, none⟩ (.slice x3 (su.filter (wiE u)).length q3)) (w.heap.size + 1) (.string u) := ⟨(cell_far (p := ⟨w.heap.size + 1, 0, none⟩) (by show w.heap.size + 1 ≠ w.heap.size; omega)).trans C1.1, by rw [size_set]; exact C1.2⟩
 clear c0 c1 c2 c3 c4 c5 f0 f1 f2 f3 f4 f5 hgl d0 d1 d2 d3 d4 d5 k0 hkl
 obtain ⟨c0, c1, c2, c3, c4, c5⟩ := A1.cells
 obtain ⟨f0, f1, f2, f3, f4, f5⟩ := A1.free
 have hgl := A1.lt
 obtain ⟨d0, d1, d2, d3, d4, d5⟩ := A2.cells
 obtain ⟨k0, hkl⟩ := C2
 have HS4 := Lib.hid A2
 have HZ4 := Lib.hid B2
 dsimp only at *
 clear HS3 HZ3 HC3 A1 B1 C1 A2 B2 h3 i3 j3 k3 l3
 go_wp2_with fail
 refine (HPT.out _ HS4.out.at_.tb).mono ?_
 rintro e w4 ⟨x4, q4, L, rfl, l4, p4, m4, h4⟩
 have A1 := HS4.out.below h4
 have B1 := HZ4.out.below h4
 have A2 := A1.setTb rfl l4 p4
 have B2 := B1.far A1 (by omega) 5 (.slice x4 L.length q4)
 have hfin := A2.fin B2
 have hL := HPI.out L m4
 clear c0 c1 c2 c3 c4 c5 f0 f1 f2 f3 f4 f5 hgl d0 d1 d2 d3 d4 d5 k0 hkl
 obtain ⟨c0, c1, c2, c3, c4, c5⟩ := A1.cells
 obtain ⟨f0, f1, f2, f3, f4, f5⟩ := A1.free
 have hgl := A1.lt
 obtain ⟨d0, d1, d2, d3, d4, d5⟩ := A2.cells
 obtain ⟨z0, z1, z2, z3, z4, z5⟩ := B2.cells
 obtain ⟨y0, y1, y2, y3, y4, y5⟩ := B2.free
 have hzl := B2.lt
 have HL := Lib.hid hfin.1
 have HFN := Lib.hid (And.intro hfin.2.1 (And.intro (show SaL.m ⟨now, hor, x1, op.filter (notU u), q1, x2, butU u us, q2, x3, su.filter (wiE u), q3, x4, L, q4⟩ = ⟨now, hor, op.filter (notU u), putU (umS us) u [], withoutS su u, tombU tb u at_⟩ by unfold SaL.m; simp only; rw [HKU.out, hL]; rfl) hfin.2.2))
 unfold setS saV saC at HL
 unfold saO at z0 z1 z2 z3 z4 z5
 dsimp only at *
 clear HS4 HZ4 A1 B1 A2 B2 hfin hL m4 l4 p4 h4 HWO HTH HWE HPT HPI HKU
 go_wp2
 refine bodyPost_ret (v := saV ⟨now, hor, x1, op.filter (notU u), q1, x2, butU u us, q2, x3, su.filter (wiE u), q3, x4, L, q4⟩) ?_ rfl ⟨_, rfl, HFN.out⟩
 rw [results_cell1 rfl]
 unfold saV saC
 simp [asAddr, Result.andThen, HL.out]
structure EB (w : World) (g : Nat) (t : TypeId) (e : EvM) (W : World) : Prop where
 blk : W.heap[g]? = some (.cells #[.int .i64 e.kind, .int .i64 e.at_, .string e.user, .string e.other, .int .i64 e.n, .int .i64 e.status] t (0, 0))
 ge : w.heap.size ≤ g
theorem EB.below {w W W' : World} {g : Nat} {t : TypeId} {e : EvM} (h : EB w g t e W) (q : Below W.heap.size W W') : EB w g t e W' := ⟨(q.block g (heap_lt h.blk)).trans h.blk, h.ge⟩
theorem EB.far {w W : World} {g g' i : Nat} {t : TypeId} {e : EvM} {v : Value} (h : EB w g t e W) (hne : g ≠ g') : EB w g t e (W.setCell ⟨g', i, none⟩ v) := ⟨(block_far hne).trans h.blk, h.ge⟩
theorem three_SB {w : World} {x : SaL} (h : SaAt w x) (e : EvM) (t te t' : TypeId) : SB w w.heap.size t x (((w.alloc (.cells (saC x) t)).alloc (.cells #[.int .i64 e.kind, .int .i64 e.at_, .string e.user, .string e.other, .int .i64 e.n, .int .i64 e.status] te)).alloc (.cells (saC saO) t'))
  ∧ EB w (w.heap.size + 1) te e (((w.alloc (.cells (saC x) t)).alloc (.cells #[.int .i64 e.kind, .int .i64 e.at_, .string e.user, .string e.other, .int .i64 e.n, .int .i64 e.status] te)).alloc (.cells (saC saO) t'))
  ∧ SB w (w.heap.size + 2) t' saO (((w.alloc (.cells (saC x) t)).alloc (.cells #[.int .i64 e.kind, .int .i64 e.at_, .string e.user, .string e.other, .int .i64 e.n, .int .i64 e.status] te)).alloc (.cells (saC saO) t')) := by
 have S0 := SB.new (Below.refl w.heap.size w) h t
 have E0 : EB w (w.heap.size + 1) te e ((w.alloc (.cells (saC x) t)).alloc (.cells #[.int .i64 e.kind, .int .i64 e.at_, .string e.user, .string e.other, .int .i64 e.n, .int .i64 e.status] te)) := ⟨by have := heap_alloc_new (w.alloc (.cells (saC x) t)) (.cells #[.int .i64 e.kind, .int .i64 e.at_, .string e.user, .string e.other, .int .i64 e.n, .int .i64 e.status] te); rwa [size1] at this, by omega⟩
 have S1 := S0.alloc (.cells #[.int .i64 e.kind, .int .i64 e.at_, .string e.user, .string e.other, .int .i64 e.n, .int .i64 e.status] te)
 have Z0 := SB.new (S1.frame) (SaAt.zero _) t'
 rw [size1, size1] at Z0
 exact ⟨S1.alloc _, E0.below (below_one _ _), Z0⟩
theorem SB.over {w T : World} {g r : Nat} {t t' : TypeId} {x y z : SaL} (hK : SB w g t x T) (hy : SaAt T y) (hZ : SB w r t' z T) (hne : r ≠ g) : SB w g t y (setS T g y) ∧ SB w r t' z (setS T g y) := by
 have h0 := hK.setNow y.now
 have y0 := hy.setB hK.blk 0 (.int .i64 y.now)
 have h1 := h0.setHor y.hor
 have y1 := y0.setB h0.blk 1 (.int .i64 y.hor)
 have h2 := h1.setOp rfl y1.op y1.oc
 have y2 := y1.setB h1.blk 2 (.slice y.oa y.op.length y.oc)
 have h3 := h2.setUs rfl y2.us y2.uc
 have y3 := y2.setB h2.blk 3 (.slice y.ua y.us.length y.uc)
 have h4 := h3.setSu rfl y3.su y3.sc
 exact ⟨hK.set hy, (((((hZ.far hK hne 0 _).far h0 hne 1 _).far h1 hne 2 _).far h2 hne 3 _).far h3 hne 4 _).far h4 hne 5 _⟩
theorem e_grant2 (a : Option Addr) (c : Nat) (l : List EnM) (p u : ByteArray) (n : Int) (W : World) (h : EnSl W a l) (hc : Cp a l.length c) (hl : l.length ≤ 500) : Calls Tryz.prog 113 #[.slice a l.length c, .agg #[.string p, .string u], .int .i64 n] W fun e w' => ∃ x q m er, e = .returned (.tuple #[.slice x m.length q, .int .i64 er]) ∧ er = (if l.any (infE p u) = true then 90 else 0) ∧ (er = 0 → m = grantS l (mkE p u n)) ∧ Cp x m.length q ∧ EnSl w' x m ∧ Below W.heap.size W w' := by
 by_cases hi : l.any (infE p u) = true
 ·refine (e_grant_no a c l p u n W h hc.nil hl hc.le hc.mx hi).mono ?_
  rintro e w' ⟨rfl, hb⟩
  exact ⟨none, 0, [], 90, rfl, (if_pos hi).symm, fun h => absurd h (by decide), Cp.none, EnSl.nil _ _, hb⟩
 ·refine (e_grant a c l p u n W h hc.nil hl hc.le hc.mx (Bool.eq_false_iff.2 hi)).mono ?_
  rintro e w' ⟨x, q, rfl, i1, i2, i3, i4, hb⟩
  exact ⟨x, q, _, 0, rfl, (if_neg hi).symm, fun _ => rfl, ⟨i1, i2, i3⟩, i4, hb⟩
theorem e_revoke2 (a : Option Addr) (c : Nat) (l : List EnM) (p u : ByteArray) (n : Int) (W : World) (h : EnSl W a l) (hc : Cp a l.length c) (hl : l.length ≤ 500) : Calls Tryz.prog 114 #[.slice a l.length c, .agg #[.string p, .string u], .int .i64 n] W fun e w' => ∃ x q m er, e = .returned (.tuple #[.slice x m.length q, .int .i64 er]) ∧ er = (if l.any (infE p u) = true then 0 else 91) ∧ (er = 0 → m = revokeS l p u n) ∧ Cp x m.length q ∧ EnSl w' x m ∧ Below W.heap.size W w' := by
 by_cases hi : l.any (infE p u) = true
 ·refine (e_revoke a c l p u n W h hl hc.le hc.mx hi).mono ?_
  rintro e w' ⟨x, q, rfl, i1, i2, i3, i4, hb⟩
  exact ⟨x, q, _, 0, rfl, (if_pos hi).symm, fun _ => rfl, ⟨i1, i2, i3⟩, i4, hb⟩
 ·refine (e_revoke_no a c l p u n W h hl hc.le hc.mx (Bool.eq_false_iff.2 hi)).mono ?_
  rintro e w' ⟨rfl, hb⟩
  exact ⟨none, 0, [], 91, rfl, (if_neg hi).symm, fun h => absurd h (by decide), Cp.none, EnSl.nil _ _, hb⟩
theorem o_open2 (a : Option Addr) (c : Nat) (l : List OpM) (e0 : OpM) (W : World) (h : OpSl W a l) (hc : Cp a l.length c) (hl : l.length ≤ 500) : Calls Tryz.prog 110 #[.slice a l.length c, .agg #[.int .i64 e0.n, .string e0.u, .int .i64 e0.s, .int .i64 e0.f]] W fun e w' => ∃ x q m er, e = .returned (.tuple #[.slice x m.length q, .int .i64 er]) ∧ er = openC l e0 ∧ (er = 0 → m = openR l e0) ∧ Cp x m.length q ∧ OpSl w' x m ∧ Below W.heap.size W w' := by
 refine (o_open a c l e0 W h hc.nil hl hc.le hc.mx).mono ?_
 rintro e w' ⟨x, q, rfl, i1, i2, i3, i4, hb⟩
 exact ⟨x, q, _, _, rfl, rfl, fun _ => rfl, ⟨i1, i2, i3⟩, i4, hb⟩
def Told (w : World) (x : SaL) (er : Int) (s : SaM) (r : Ending) (w' : World) : Prop := ∃ y, r = .returned (.tuple #[saV y, .int .i64 er]) ∧ SaAt w' y ∧ (er = 0 → y.m = s) ∧ Below w.heap.size w w'
set_option maxHeartbeats 8000000 in
theorem behind1 (x : SaL) (a n st : Int) (u o : ByteArray) (w : World) (h : SaAt w x) (hf : Few x.m 400) (hk : RiseK UsM.u (umS x.us)) (ht : RiseK TbM.u x.tb) :
  Calls Tryz.prog 44 #[saV x, evV ⟨1, a, u, o, n, st⟩] w (Told w x (errK x.m 1 a n st u o) { goS x.m 1 a n st u o with now := x.now }) := by
 obtain ⟨HK, HE, HZ⟩ := three_SB h ⟨1, a, u, o, n, st⟩ 38 43 38
 obtain ⟨now, hor, oa, op, oc, ua, us, uc, sa, su, sc, ta, tb, tc⟩ := x
 have HCL := Lib.hid (fun V (h : OpSl V oa op) => o_open2 oa oc op ⟨n, u, st, a⟩ V h HK.at_.oc (Nat.le_trans hf.op (by decide)))
 have HS := Lib.hid HK
 have HZZ := Lib.hid HZ
 have HEE := Lib.hid HE
 obtain ⟨c0, c1, c2, c3, c4, c5⟩ := HK.cells
 obtain ⟨f0, f1, f2, f3, f4, f5⟩ := HK.free
 obtain ⟨⟨e0, e1, e2, e3, e4, e5⟩, -⟩ := cells6 HE.blk
 have hgl := HK.lt
 unfold saV evV saC at *
 dsimp only at *
 clear h hf HK HZ HE
 go_enter Tryz.func44, Tryz.ntmps44
 go_wp2_with fail
 refine (HCL.out _ HS.out.at_.op).mono ?_
 rintro e w1 ⟨x1, q1, m, er, rfl, i1, j1, k1, l1, h1⟩
 have A1 := HS.out.below h1
 have B1 := HZZ.out.below h1
 have A2 := A1.setOp rfl l1 k1
 have B2 := B1.far A1 (by omega) 2 (.slice x1 m.length q1)
 have hfin := A2.fin B2
 clear c0 c1 c2 c3 c4 c5 f0 f1 f2 f3 f4 f5 hgl e0 e1 e2 e3 e4 e5
 obtain ⟨c0, c1, c2, c3, c4, c5⟩ := A1.cells
 obtain ⟨f0, f1, f2, f3, f4, f5⟩ := A1.free
 obtain ⟨⟨e0, e1, e2, e3, e4, e5⟩, -⟩ := cells6 (HEE.out.below h1).blk
 have hgl := A1.lt
 obtain ⟨d0, d1, d2, d3, d4, d5⟩ := A2.cells
 obtain ⟨z0, z1, z2, z3, z4, z5⟩ := B2.cells
 obtain ⟨y0, y1, y2, y3, y4, y5⟩ := B2.free
 have hzl := B2.lt
 have HL := Lib.hid hfin.1
 have HFN := Lib.hid (And.intro hfin.2.1 (And.intro i1 (And.intro j1 hfin.2.2)))
 unfold setS saV saC at HL
 unfold saO at z0 z1 z2 z3 z4 z5
 dsimp only at *
 clear HS HZZ HEE A1 B1 A2 B2 hfin l1 k1 h1 HCL i1 j1
 go_wp2
 refine bodyPost_ret (v := .tuple #[saV ⟨now, hor, x1, m, q1, ua, us, uc, sa, su, sc, ta, tb, tc⟩, .int .i64 er]) ?_ rfl ?_
 ·rw [results_cellT rfl]
  unfold saV saC
  simp [asAddr, Result.andThen, HL.out]
 ·obtain ⟨g1, g2, g3, g4⟩ := HFN.out
  subst g2
  exact ⟨_, rfl, g1, fun he => by rw [g3 he]; rfl, g4⟩
set_option maxHeartbeats 8000000 in
theorem behind4 (x : SaL) (a n st : Int) (u o : ByteArray) (w : World) (h : SaAt w x) (hf : Few x.m 400) (hk : RiseK UsM.u (umS x.us)) (ht : RiseK TbM.u x.tb) :
  Calls Tryz.prog 44 #[saV x, evV ⟨4, a, u, o, n, st⟩] w (Told w x (errK x.m 4 a n st u o) { goS x.m 4 a n st u o with now := x.now }) := by
 obtain ⟨HK, HE, HZ⟩ := three_SB h ⟨4, a, u, o, n, st⟩ 38 43 38
 obtain ⟨now, hor, oa, op, oc, ua, us, uc, sa, su, sc, ta, tb, tc⟩ := x
 have HCL := Lib.hid (fun V (h : EnSl V sa su) => e_grant2 sa sc su u o a V h HK.at_.sc (Nat.le_trans hf.su (by decide)))
 have HS := Lib.hid HK
 have HZZ := Lib.hid HZ
 have HEE := Lib.hid HE
 obtain ⟨c0, c1, c2, c3, c4, c5⟩ := HK.cells
 obtain ⟨f0, f1, f2, f3, f4, f5⟩ := HK.free
 obtain ⟨⟨e0, e1, e2, e3, e4, e5⟩, -⟩ := cells6 HE.blk
 have hgl := HK.lt
 unfold saV evV saC at *
 dsimp only at *
 clear h hf HK HZ HE
 go_enter Tryz.func44, Tryz.ntmps44
 go_wp2_with fail
 refine (HCL.out _ HS.out.at_.su).mono ?_
 rintro e w1 ⟨x1, q1, m, er, rfl, i1, j1, k1, l1, h1⟩
 have A1 := HS.out.below h1
 have B1 := HZZ.out.below h1
 have A2 := A1.setSu rfl l1 k1
 have B2 := B1.far A1 (by omega) 4 (.slice x1 m.length q1)
 have hfin := A2.fin B2
 clear c0 c1 c2 c3 c4 c5 f0 f1 f2 f3 f4 f5 hgl e0 e1 e2 e3 e4 e5
 obtain ⟨c0, c1, c2, c3, c4, c5⟩ := A1.cells
 obtain ⟨f0, f1, f2, f3, f4, f5⟩ := A1.free
 obtain ⟨⟨e0, e1, e2, e3, e4, e5⟩, -⟩ := cells6 (HEE.out.below h1).blk
 have hgl := A1.lt
 obtain ⟨d0, d1, d2, d3, d4, d5⟩ := A2.cells
 obtain ⟨z0, z1, z2, z3, z4, z5⟩ := B2.cells
 obtain ⟨y0, y1, y2, y3, y4, y5⟩ := B2.free
 have hzl := B2.lt
 have HL := Lib.hid hfin.1
 have HFN := Lib.hid (And.intro hfin.2.1 (And.intro i1 (And.intro j1 hfin.2.2)))
 unfold setS saV saC at HL
 unfold saO at z0 z1 z2 z3 z4 z5
 dsimp only at *
 clear HS HZZ HEE A1 B1 A2 B2 hfin l1 k1 h1 HCL i1 j1
 go_wp2
 refine bodyPost_ret (v := .tuple #[saV ⟨now, hor, oa, op, oc, ua, us, uc, x1, m, q1, ta, tb, tc⟩, .int .i64 er]) ?_ rfl ?_
 ·rw [results_cellT rfl]
  unfold saV saC
  simp [asAddr, Result.andThen, HL.out]
 ·obtain ⟨g1, g2, g3, g4⟩ := HFN.out
  subst g2
  exact ⟨_, rfl, g1, fun he => by rw [g3 he]; rfl, g4⟩
set_option maxHeartbeats 8000000 in
theorem behind5 (x : SaL) (a n st : Int) (u o : ByteArray) (w : World) (h : SaAt w x) (hf : Few x.m 400) (hk : RiseK UsM.u (umS x.us)) (ht : RiseK TbM.u x.tb) :
  Calls Tryz.prog 44 #[saV x, evV ⟨5, a, u, o, n, st⟩] w (Told w x (errK x.m 5 a n st u o) { goS x.m 5 a n st u o with now := x.now }) := by
 obtain ⟨HK, HE, HZ⟩ := three_SB h ⟨5, a, u, o, n, st⟩ 38 43 38
 obtain ⟨now, hor, oa, op, oc, ua, us, uc, sa, su, sc, ta, tb, tc⟩ := x
 have HCL := Lib.hid (fun V (h : EnSl V sa su) => e_revoke2 sa sc su u o a V h HK.at_.sc (Nat.le_trans hf.su (by decide)))
 have HS := Lib.hid HK
 have HZZ := Lib.hid HZ
 have HEE := Lib.hid HE
 obtain ⟨c0, c1, c2, c3, c4, c5⟩ := HK.cells
 obtain ⟨f0, f1, f2, f3, f4, f5⟩ := HK.free
 obtain ⟨⟨e0, e1, e2, e3, e4, e5⟩, -⟩ := cells6 HE.blk
 have hgl := HK.lt
 unfold saV evV saC at *
 dsimp only at *
 clear h hf HK HZ HE
 go_enter Tryz.func44, Tryz.ntmps44
 go_wp2_with fail
 refine (HCL.out _ HS.out.at_.su).mono ?_
 rintro e w1 ⟨x1, q1, m, er, rfl, i1, j1, k1, l1, h1⟩
 have A1 := HS.out.below h1
 have B1 := HZZ.out.below h1
 have A2 := A1.setSu rfl l1 k1
 have B2 := B1.far A1 (by omega) 4 (.slice x1 m.length q1)
 have hfin := A2.fin B2
 clear c0 c1 c2 c3 c4 c5 f0 f1 f2 f3 f4 f5 hgl e0 e1 e2 e3 e4 e5
 obtain ⟨c0, c1, c2, c3, c4, c5⟩ := A1.cells
 obtain ⟨f0, f1, f2, f3, f4, f5⟩ := A1.free
 obtain ⟨⟨e0, e1, e2, e3, e4, e5⟩, -⟩ := cells6 (HEE.out.below h1).blk
 have hgl := A1.lt
 obtain ⟨d0, d1, d2, d3, d4, d5⟩ := A2.cells
 obtain ⟨z0, z1, z2, z3, z4, z5⟩ := B2.cells
 obtain ⟨y0, y1, y2, y3, y4, y5⟩ := B2.free
 have hzl := B2.lt
 have HL := Lib.hid hfin.1
 have HFN := Lib.hid (And.intro hfin.2.1 (And.intro i1 (And.intro j1 hfin.2.2)))
 unfold setS saV saC at HL
 unfold saO at z0 z1 z2 z3 z4 z5
 dsimp only at *
 clear HS HZZ HEE A1 B1 A2 B2 hfin l1 k1 h1 HCL i1 j1
 go_wp2
 refine bodyPost_ret (v := .tuple #[saV ⟨now, hor, oa, op, oc, ua, us, uc, x1, m, q1, ta, tb, tc⟩, .int .i64 er]) ?_ rfl ?_
 ·rw [results_cellT rfl]
  unfold saV saC
  simp [asAddr, Result.andThen, HL.out]
 ·obtain ⟨g1, g2, g3, g4⟩ := HFN.out
  subst g2
  exact ⟨_, rfl, g1, fun he => by rw [g3 he]; rfl, g4⟩
set_option maxHeartbeats 8000000 in
theorem behind3 (x : SaL) (a n st : Int) (u o : ByteArray) (w : World) (h : SaAt w x) (hf : Few x.m 400) (hk : RiseK UsM.u (umS x.us)) (ht : RiseK TbM.u x.tb) :
  Calls Tryz.prog 44 #[saV x, evV ⟨3, a, u, o, n, st⟩] w (Told w x (errK x.m 3 a n st u o) { goS x.m 3 a n st u o with now := x.now }) := by
 obtain ⟨HK, HE, HZ⟩ := three_SB h ⟨3, a, u, o, n, st⟩ 38 43 38
 obtain ⟨now, hor, oa, op, oc, ua, us, uc, sa, su, sc, ta, tb, tc⟩ := x
 have HCL := Lib.hid (fun V (h : SaAt V ⟨now, hor, oa, op, oc, ua, us, uc, sa, su, sc, ta, tb, tc⟩) => closed_any ⟨now, hor, oa, op, oc, ua, us, uc, sa, su, sc, ta, tb, tc⟩ n u a V h ⟨Nat.le_trans hf.op (by decide), Nat.le_trans hf.us (by decide), Nat.le_trans hf.su (by decide), Nat.le_trans hf.tb (by decide), fun y hy => Nat.le_trans (hf.st y hy) (by decide)⟩ hk)
 have HGE := Lib.hid (HZ.ge)
 have HS := Lib.hid HK
 have HZZ := Lib.hid HZ
 have HEE := Lib.hid HE
 obtain ⟨c0, c1, c2, c3, c4, c5⟩ := HK.cells
 obtain ⟨f0, f1, f2, f3, f4, f5⟩ := HK.free
 obtain ⟨⟨e0, e1, e2, e3, e4, e5⟩, -⟩ := cells6 HE.blk
 have hgl := HK.lt
 unfold saV evV saC at *
 dsimp only at *
 clear h hf HK HZ HE
 go_enter Tryz.func44, Tryz.ntmps44
 go_wp2_with fail
 refine (HCL.out _ HS.out.at_).mono ?_
 rintro e w1 ⟨x1, rfl, l1, j1, h1⟩
 have A1 := HS.out.below h1
 have B1 := HZZ.out.below h1
 obtain ⟨A2, B2⟩ := A1.over l1 B1 (by omega)
 have hfin := A2.fin B2
 clear c0 c1 c2 c3 c4 c5 f0 f1 f2 f3 f4 f5 hgl e0 e1 e2 e3 e4 e5
 obtain ⟨c0, c1, c2, c3, c4, c5⟩ := A1.cells
 obtain ⟨f0, f1, f2, f3, f4, f5⟩ := A1.free
 obtain ⟨⟨e0, e1, e2, e3, e4, e5⟩, -⟩ := cells6 (HEE.out.below h1).blk
 have hgl := A1.lt
 obtain ⟨d0, d1, d2, d3, d4, d5⟩ := A2.cells
 obtain ⟨z0, z1, z2, z3, z4, z5⟩ := B2.cells
 obtain ⟨y0, y1, y2, y3, y4, y5⟩ := B2.free
 have hzl := B2.lt
 have HL := Lib.hid hfin.1
 have HFN := Lib.hid (And.intro hfin.2.1 (And.intro j1 hfin.2.2))
 obtain ⟨now1, hor1, oa1, op1, oc1, ua1, us1, uc1, sa1, su1, sc1, ta1, tb1, tc1⟩ := x1
 unfold setS saV saC at *
 unfold saO at z0 z1 z2 z3 z4 z5
 dsimp only at *
 clear HS HZZ HEE A1 B1 A2 B2 hfin l1 h1 HCL j1
 go_wp2
 refine bodyPost_ret (v := .tuple #[saV ⟨now1, hor1, oa1, op1, oc1, ua1, us1, uc1, sa1, su1, sc1, ta1, tb1, tc1⟩, .int .i64 (findC op n u)]) ?_ rfl ?_
 ·rw [results_cellT rfl]
  unfold saV saC
  simp [asAddr, Result.andThen, HL.out]
 ·obtain ⟨g1, g2, g3⟩ := HFN.out
  exact ⟨_, rfl, g1, fun he => by rw [g2]; rfl, g3⟩
set_option maxHeartbeats 8000000 in
theorem behind7 (x : SaL) (a n st : Int) (u o : ByteArray) (w : World) (h : SaAt w x) (hf : Few x.m 400) (hk : RiseK UsM.u (umS x.us)) (ht : RiseK TbM.u x.tb) :
  Calls Tryz.prog 44 #[saV x, evV ⟨7, a, u, o, n, st⟩] w (Told w x (errK x.m 7 a n st u o) { goS x.m 7 a n st u o with now := x.now }) := by
 obtain ⟨HK, HE, HZ⟩ := three_SB h ⟨7, a, u, o, n, st⟩ 38 43 38
 obtain ⟨now, hor, oa, op, oc, ua, us, uc, sa, su, sc, ta, tb, tc⟩ := x
 have HCL := Lib.hid (fun V (h : SaAt V ⟨now, hor, oa, op, oc, ua, us, uc, sa, su, sc, ta, tb, tc⟩) => erased_any ⟨now, hor, oa, op, oc, ua, us, uc, sa, su, sc, ta, tb, tc⟩ u a V h ⟨Nat.le_trans hf.op (by decide), Nat.le_trans hf.us (by decide), Nat.le_trans hf.su (by decide), Nat.le_trans hf.tb (by decide), fun y hy => Nat.le_trans (hf.st y hy) (by decide)⟩ hk ht)
 have HGE := Lib.hid (HZ.ge)
 have HS := Lib.hid HK
 have HZZ := Lib.hid HZ
 have HEE := Lib.hid HE
 obtain ⟨c0, c1, c2, c3, c4, c5⟩ := HK.cells
 obtain ⟨f0, f1, f2, f3, f4, f5⟩ := HK.free
 obtain ⟨⟨e0, e1, e2, e3, e4, e5⟩, -⟩ := cells6 HE.blk
 have hgl := HK.lt
 unfold saV evV saC at *
 dsimp only at *
 clear h hf HK HZ HE
 go_enter Tryz.func44, Tryz.ntmps44
 go_wp2_with fail
 refine (HCL.out _ HS.out.at_).mono ?_
 rintro e w1 ⟨x1, rfl, l1, j1, h1⟩
 have A1 := HS.out.below h1
 have B1 := HZZ.out.below h1
 obtain ⟨A2, B2⟩ := A1.over l1 B1 (by omega)
 have hfin := A2.fin B2
 clear c0 c1 c2 c3 c4 c5 f0 f1 f2 f3 f4 f5 hgl e0 e1 e2 e3 e4 e5
 obtain ⟨c0, c1, c2, c3, c4, c5⟩ := A1.cells
 obtain ⟨f0, f1, f2, f3, f4, f5⟩ := A1.free
 obtain ⟨⟨e0, e1, e2, e3, e4, e5⟩, -⟩ := cells6 (HEE.out.below h1).blk
 have hgl := A1.lt
 obtain ⟨d0, d1, d2, d3, d4, d5⟩ := A2.cells
 obtain ⟨z0, z1, z2, z3, z4, z5⟩ := B2.cells
 obtain ⟨y0, y1, y2, y3, y4, y5⟩ := B2.free
 have hzl := B2.lt
 have HL := Lib.hid hfin.1
 have HFN := Lib.hid (And.intro hfin.2.1 (And.intro j1 hfin.2.2))
 obtain ⟨now1, hor1, oa1, op1, oc1, ua1, us1, uc1, sa1, su1, sc1, ta1, tb1, tc1⟩ := x1
 unfold setS saV saC at *
 unfold saO at z0 z1 z2 z3 z4 z5
 dsimp only at *
 clear HS HZZ HEE A1 B1 A2 B2 hfin l1 h1 HCL j1
 go_wp2
 refine bodyPost_ret (v := .tuple #[saV ⟨now1, hor1, oa1, op1, oc1, ua1, us1, uc1, sa1, su1, sc1, ta1, tb1, tc1⟩, .int .i64 (0)]) ?_ rfl ?_
 ·rw [results_cellT rfl]
  unfold saV saC
  simp [asAddr, Result.andThen, HL.out]
 ·obtain ⟨g1, g2, g3⟩ := HFN.out
  exact ⟨_, rfl, g1, fun he => by rw [g2]; rfl, g3⟩
def IntB (W : World) (g : Nat) (t : TypeId) (a b c d : Int) : Prop := W.heap[g]? = some (.cells #[.int .i64 a, .int .i64 b, .int .i64 c, .int .i64 d] t (0, 0))
theorem four_string {W : World} {g : Nat} {t : TypeId} {a b c d : Int} (h : IntB W g t a b c d) {j : Nat} {s : ByteArray} : ¬ W.cell? ⟨g, j, none⟩ = some (.string s) := fun e => by
 rw [cell_of_row _ _ _ _ _ (0, 0) h] at e
 match j with
 | 0 => cases e
 | 1 => cases e
 | 2 => cases e
 | 3 => cases e
 | j + 4 => simp at e
theorem OpSl.setI {W : World} {g : Nat} {t : TypeId} {a b c d : Int} (h : IntB W g t a b c d) {r : Option Addr} {l : List OpM} (ho : OpSl W r l) (i : Nat) (v : Value) : OpSl (W.setCell ⟨g, i, none⟩ v) r l := fun k hk => by
 obtain ⟨b, off, e, hlt, h0, h1, h2, h3⟩ := ho k hk
 have hne : b ≠ g := fun e => by subst e; exact four_string h h1
 exact ⟨b, off, e, by rw [size_set]; exact hlt, (cell_far (p := ⟨b, off + k * 4, none⟩) hne).trans h0, (cell_far (p := ⟨b, off + k * 4 + 1, none⟩) hne).trans h1, (cell_far (p := ⟨b, off + k * 4 + 2, none⟩) hne).trans h2, (cell_far (p := ⟨b, off + k * 4 + 3, none⟩) hne).trans h3⟩
theorem EnSl.setT {T W : World} {g : Nat} (hg : T.heap.size ≤ g) {a : Option Addr} {l : List EnM} (hT : EnSl T a l) (ho : EnSl W a l) (i : Nat) (v : Value) : EnSl (W.setCell ⟨g, i, none⟩ v) a l := fun k hk => by
 obtain ⟨b, off, e, hlt, h0, h1, h2, h3⟩ := ho k hk
 obtain ⟨b', off', e', hlt', -⟩ := hT k hk
 rw [e] at e'; cases e'
 have hne : b ≠ g := by omega
 exact ⟨b, off, e, by rw [size_set]; exact hlt, (cell_far (p := ⟨b, off + k * 4, none⟩) hne).trans h0, (cell_far (p := ⟨b, off + k * 4 + 1, none⟩) hne).trans h1, (cell_far (p := ⟨b, off + k * 4 + 2, none⟩) hne).trans h2, (cell_far (p := ⟨b, off + k * 4 + 3, none⟩) hne).trans h3⟩
theorem StSl.setT {T W : World} {g : Nat} (hg : T.heap.size ≤ g) {a : Option Addr} {l : List StM} (hT : StSl T a l) (ho : StSl W a l) (i : Nat) (v : Value) : StSl (W.setCell ⟨g, i, none⟩ v) a l := fun k hk => by
 obtain ⟨b, off, e, hlt, h0, h1, h2, h3⟩ := ho k hk
 obtain ⟨b', off', e', hlt', -⟩ := hT k hk
 rw [e] at e'; cases e'
 have hne : b ≠ g := by omega
 exact ⟨b, off, e, by rw [size_set]; exact hlt, (cell_far (p := ⟨b, off + k * 4, none⟩) hne).trans h0, (cell_far (p := ⟨b, off + k * 4 + 1, none⟩) hne).trans h1, (cell_far (p := ⟨b, off + k * 4 + 2, none⟩) hne).trans h2, (cell_far (p := ⟨b, off + k * 4 + 3, none⟩) hne).trans h3⟩
theorem PpSl.setT {T W : World} {g : Nat} (hg : T.heap.size ≤ g) {a : Option Addr} {l : List (Value × Value)} (hT : PpSl T a l) (ho : PpSl W a l) (i : Nat) (v : Value) : PpSl (W.setCell ⟨g, i, none⟩ v) a l := fun k hk => by
 obtain ⟨b, off, e, hlt, h0, h1⟩ := ho k hk
 obtain ⟨b', off', e', hlt', -⟩ := hT k hk
 rw [e] at e'; cases e'
 have hne : b ≠ g := by omega
 exact ⟨b, off, e, by rw [size_set]; exact hlt, (cell_far (p := ⟨b, off + k * 2, none⟩) hne).trans h0, (cell_far (p := ⟨b, off + k * 2 + 1, none⟩) hne).trans h1⟩
theorem UsSl.setT {T W : World} {g : Nat} (hg : T.heap.size ≤ g) {a : Option Addr} {D : List UsL} (hT : UsSl T a D) (ho : UsSl W a D) (i : Nat) (v : Value) : UsSl (W.setCell ⟨g, i, none⟩ v) a D :=
 ⟨hT.row.setT hg ho.row i v, fun y hy => ⟨(hT.at_ y hy).st.setT hg (ho.at_ y hy).st i v, (ho.at_ y hy).le, (ho.at_ y hy).mx, (ho.at_ y hy).nil⟩⟩
structure SaT (T : World) (x : SaL) : Prop where
 us : UsSl T x.ua x.us
 su : EnSl T x.sa x.su
 tb : TbSl T x.ta x.tb
def setSt (W : World) (g : Nat) (s : StM) : World := (((W.setCell ⟨g, 0, none⟩ (.int .i64 s.f)).setCell ⟨g, 1, none⟩ (.int .i64 s.t)).setCell ⟨g, 2, none⟩ (.int .i64 s.n)).setCell ⟨g, 3, none⟩ (.int .i64 s.s)
theorem SB.setI {w T W : World} {r g : Nat} {t t' : TypeId} {x : SaL} {a b c d : Int} (hI : IntB W g t' a b c d) (h : SB w r t x W) (hT : SaT T x) (hg : T.heap.size ≤ g) (hw : w.heap.size ≤ g) (hne : r ≠ g) (i : Nat) (v : Value) : SB w r t x (W.setCell ⟨g, i, none⟩ v) :=
 ⟨(block_far hne).trans h.blk, h.ge, h.frame.setCell (p := ⟨g, i, none⟩) hw _, ⟨h.at_.op.setI hI i v, hT.us.setT hg h.at_.us i v, hT.su.setT hg h.at_.su i v, PpSl.setT hg hT.tb h.at_.tb i v, h.at_.oc, h.at_.uc, h.at_.sc, h.at_.tc⟩⟩
theorem SB.setSt {w T W : World} {r g : Nat} {t t' : TypeId} {x : SaL} {a b c d : Int} (hI : IntB W g t' a b c d) (h : SB w r t x W) (hT : SaT T x) (hg : T.heap.size ≤ g) (hw : w.heap.size ≤ g) (hne : r ≠ g) (s : StM) : SB w r t x (setSt W g s) ∧ IntB (YtjhdhfokhkcamaaGreat.setSt W g s) g t' s.f s.t s.n s.s := by
 have i0 : IntB _ g t' s.f b c d := heap_setCell_at hI 0 (.int .i64 s.f)
 have i1 : IntB _ g t' s.f s.t c d := heap_setCell_at i0 1 (.int .i64 s.t)
 have i2 : IntB _ g t' s.f s.t s.n d := heap_setCell_at i1 2 (.int .i64 s.n)
 have i3 : IntB _ g t' s.f s.t s.n s.s := heap_setCell_at i2 3 (.int .i64 s.s)
 exact ⟨((((h.setI hI hT hg hw hne 0 _).setI i0 hT hg hw hne 1 _).setI i1 hT hg hw hne 2 _).setI i2 hT hg hw hne 3 _), i3⟩
theorem SaT.zero (T : World) : SaT T saO := ⟨UsSl.nil _ _, EnSl.nil _ _, TbSl.nil _ _⟩
set_option maxHeartbeats 8000000 in
theorem behind2 (x : SaL) (a n st : Int) (u o : ByteArray) (w : World) (h : SaAt w x) (hf : Few x.m 400) (hk : RiseK UsM.u (umS x.us)) (ht : RiseK TbM.u x.tb) :
  Calls Tryz.prog 44 #[saV x, evV ⟨2, a, u, o, n, st⟩] w (Told w x (errK x.m 2 a n st u o) { goS x.m 2 a n st u o with now := x.now }) := by
 obtain ⟨HK, HE, HZ⟩ := three_SB h ⟨2, a, u, o, n, st⟩ 38 43 38
 obtain ⟨now, hor, oa, op, oc, ua, us, uc, sa, su, sc, ta, tb, tc⟩ := x
 have hun : us.length ≤ 400 := by have := hf.us; unfold SaL.m at this; simp only at this; rwa [umS_len] at this
 have HCL := Lib.hid (fun V (h : OpSl V oa op) => o_change oa oc op n u st a V h (Nat.le_trans hf.op (by decide)) HK.at_.oc.le HK.at_.oc.mx)
 have HWS := Lib.hid (fun V (h : UsSl V ua us) => withStay_any ua uc us u (fndS op n u a) V h HK.at_.uc hk (by omega) (fun y hy => by have := umS_st hf.st y hy; omega))
 unfold stV at HWS
 generalize hst : fndS op n u a = s at HCL HWS
 have HT := Lib.hid HK.at_
 have hwg := HK.ge
 have HS := Lib.hid HK
 have HZZ := Lib.hid HZ
 have HEE := Lib.hid HE
 obtain ⟨c0, c1, c2, c3, c4, c5⟩ := HK.cells
 obtain ⟨f0, f1, f2, f3, f4, f5⟩ := HK.free
 obtain ⟨⟨e0, e1, e2, e3, e4, e5⟩, -⟩ := cells6 HE.blk
 have hgl := HK.lt
 unfold saV evV saC at *
 dsimp only at *
 clear h hf HK HZ HE
 go_enter Tryz.func44, Tryz.ntmps44
 go_wp2_with fail
 have hbs := below_one (((w.alloc (.cells #[.int .i64 now, .int .i64 hor, .slice oa op.length oc, .slice ua us.length uc, .slice sa su.length sc, .slice ta tb.length tc] 38)).alloc (.cells #[.int .i64 2, .int .i64 a, .string u, .string o, .int .i64 n, .int .i64 st] 43)).alloc (.cells (saC saO) 38)) (.cells #[.int .i64 0, .int .i64 0, .int .i64 0, .int .i64 0] 86)
 have ST := heap_alloc_new (((w.alloc (.cells #[.int .i64 now, .int .i64 hor, .slice oa op.length oc, .slice ua us.length uc, .slice sa su.length sc, .slice ta tb.length tc] 38)).alloc (.cells #[.int .i64 2, .int .i64 a, .string u, .string o, .int .i64 n, .int .i64 st] 43)).alloc (.cells (saC saO) 38)) (.cells #[.int .i64 0, .int .i64 0, .int .i64 0, .int .i64 0] 86)
 have HTS : ((((w.alloc (.cells #[.int .i64 now, .int .i64 hor, .slice oa op.length oc, .slice ua us.length uc, .slice sa su.length sc, .slice ta tb.length tc] 38)).alloc (.cells #[.int .i64 2, .int .i64 a, .string u, .string o, .int .i64 n, .int .i64 st] 43)).alloc (.cells (saC saO) 38))).heap.size = w.heap.size + 3 := by rw [size1, size1, size1]
 unfold saC at hbs ST HTS
 try dsimp only at hbs ST HTS
 rw [HTS] at ST
 have A0 := HS.out.below hbs
 have B0 := HZZ.out.below hbs
 have E0 := HEE.out.below hbs
 refine (HCL.out _ A0.at_.op).mono ?_
 rintro e w1 ⟨x1, q1, rfl, i1, j1, k1, l1, h1⟩
 have A1 := A0.below h1
 have B1 := B0.below h1
 have I1 : IntB w1 (w.heap.size + 3) 86 0 0 0 0 := (h1.block _ (heap_lt ST)).trans ST
 have A2 := A1.setOp rfl l1 ⟨i1, j1, k1⟩
 have B2 := B1.far A1 (by omega) 2 (.slice x1 (chgR op n u st a).length q1)
 have I2 : IntB (w1.setCell ⟨w.heap.size, 2, none⟩ (.slice x1 (chgR op n u st a).length q1)) (w.heap.size + 3) 86 0 0 0 0 := (block_far (by omega)).trans I1
 have E2 := (E0.below h1).far (i := 2) (v := .slice x1 (chgR op n u st a).length q1) (show w.heap.size + 1 ≠ w.heap.size by omega)
 obtain ⟨A3, I3⟩ := A2.setSt I2 (T := _) ⟨HT.out.us, HT.out.su, HT.out.tb⟩ (Nat.le_of_eq HTS) (by omega) (by omega) s
 obtain ⟨B3, -⟩ := B2.setSt I2 (SaT.zero _) (Nat.le_of_eq HTS) (by omega) (by omega) s
 have E3 := (((E2.far (i := 0) (v := .int .i64 s.f) (show w.heap.size + 1 ≠ w.heap.size + 3 by omega)).far (i := 1) (v := .int .i64 s.t) (show w.heap.size + 1 ≠ w.heap.size + 3 by omega)).far (i := 2) (v := .int .i64 s.n) (show w.heap.size + 1 ≠ w.heap.size + 3 by omega)).far (i := 3) (v := .int .i64 s.s) (show w.heap.size + 1 ≠ w.heap.size + 3 by omega)
 clear c0 c1 c2 c3 c4 c5 f0 f1 f2 f3 f4 f5 hgl e0 e1 e2 e3 e4 e5
 obtain ⟨f0, f1, f2, f3, f4, f5⟩ := A1.free
 have hgl := A1.lt
 have hg3 := heap_lt I1
 have n0 := frozen_of_row _ _ 0 _ _ I1
 have n1 := frozen_of_row _ _ 1 _ _ I1
 have n2 := frozen_of_row _ _ 2 _ _ I1
 have n3 := frozen_of_row _ _ 3 _ _ I1
 obtain ⟨s0, s1, s2, s3⟩ := cells4 I3
 obtain ⟨p0, p1, p2, p3⟩ := cells4 I1
 obtain ⟨b0, b1, b2, b3, b4, b5⟩ := A1.cells
 obtain ⟨c0, c1, c2, c3, c4, c5⟩ := A3.cells
 obtain ⟨⟨e0, e1, e2, e3, e4, e5⟩, -⟩ := cells6 E3.blk
 have HS3 := Lib.hid A3
 have HZ3 := Lib.hid B3
 have HE3 := Lib.hid E3
 unfold setSt at A3 I3 B3 c0 c1 c2 c3 c4 c5 s0 s1 s2 s3 HS3 HZ3
 dsimp only at c0 c1 c2 c3 c4 c5 e0 e1 e2 e3 e4 e5 b0 b1 b2 b3 b4 b5
 clear HS HZZ HEE A0 B0 E0 A1 B1 A2 B2 A3 B3 E2 E3 I1 I2 I3 ST hbs HTS l1 k1 h1 HCL i1 j1 HT
 go_wp2_with fail
 refine (HWS.out _ HS3.out.at_.us).mono ?_
 rintro e w2 ⟨x2, q2, L, rfl, z2, p2, m2, h2⟩
 have A4 := HS3.out.below h2
 have B4 := HZ3.out.below h2
 have A5 := A4.setUs rfl z2 p2
 have B5 := B4.far A4 (by omega) 3 (.slice x2 L.length q2)
 have hfin := A5.fin B5
 clear s0 s1 s2 s3 c0 c1 c2 c3 c4 c5 f0 f1 f2 f3 f4 f5 hgl e0 e1 e2 e3 e4 e5
 obtain ⟨c0, c1, c2, c3, c4, c5⟩ := A4.cells
 obtain ⟨f0, f1, f2, f3, f4, f5⟩ := A4.free
 obtain ⟨⟨e0, e1, e2, e3, e4, e5⟩, -⟩ := cells6 (HE3.out.below h2).blk
 have hgl := A4.lt
 obtain ⟨d0, d1, d2, d3, d4, d5⟩ := A5.cells
 obtain ⟨t0, t1, t2, t3, t4, t5⟩ := B5.cells
 obtain ⟨y0, y1, y2, y3, y4, y5⟩ := B5.free
 have hzl := B5.lt
 have HL := Lib.hid hfin.1
 have HFN := Lib.hid (And.intro hfin.2.1 (And.intro m2 hfin.2.2))
 unfold setS saV saC at HL
 unfold saO at t0 t1 t2 t3 t4 t5
 dsimp only at *
 clear HS3 HZ3 HE3 A4 B4 A5 B5 hfin z2 p2 m2 h2 HWS
 go_wp2
 refine bodyPost_ret (v := .tuple #[saV ⟨now, hor, x1, chgR op n u st a, q1, x2, L, q2, sa, su, sc, ta, tb, tc⟩, .int .i64 (findC op n u)]) ?_ rfl ?_
 ·rw [results_cellT rfl]
  unfold saV saC
  simp [asAddr, Result.andThen, HL.out]
 ·obtain ⟨g1, g2, g3⟩ := HFN.out
  exact ⟨_, rfl, g1, fun he => by unfold SaL.m; simp only; rw [g2, ← hst]; rfl, g3⟩
theorem fin_new {w : World} {y : SaL} (h : SaAt w y) (o1 o2 : Obj) (t : TypeId) : (loadVar 38 ⟨w.heap.size + 2, 0, none⟩).run Tryz.prog (((w.alloc o1).alloc o2).alloc (.cells (saC y) t)) = .ok (saV y) (((w.alloc o1).alloc o2).alloc (.cells (saC y) t)) ∧ SaAt (((w.alloc o1).alloc o2).alloc (.cells (saC y) t)) y ∧ Below w.heap.size w (((w.alloc o1).alloc o2).alloc (.cells (saC y) t)) := by
 have h1 := below_one w o1
 have h2 := h1.trans ((below_one (w.alloc o1) o2).mono h1.size)
 have h3 := h2.trans ((below_one ((w.alloc o1).alloc o2) (.cells (saC y) t)).mono h2.size)
 have h4 := heap_alloc_new ((w.alloc o1).alloc o2) (.cells (saC y) t)
 rw [size1, size1] at h4
 exact ⟨loadS6 h4, h.below h3, h3⟩
set_option maxHeartbeats 8000000 in
theorem behind6 (x : SaL) (a n st : Int) (u o : ByteArray) (w : World) (h : SaAt w x) (hf : Few x.m 400) (hk : RiseK UsM.u (umS x.us)) (ht : RiseK TbM.u x.tb) :
  Calls Tryz.prog 44 #[saV x, evV ⟨6, a, u, o, n, st⟩] w (Told w x (errK x.m 6 a n st u o) { goS x.m 6 a n st u o with now := x.now }) := by
 obtain ⟨HK, HE, HZ⟩ := three_SB h ⟨6, a, u, o, n, st⟩ 38 43 38
 obtain ⟨now, hor, oa, op, oc, ua, us, uc, sa, su, sc, ta, tb, tc⟩ := x
 have HFN := Lib.hid (fun o1 o2 => fin_new (y := ⟨now, max hor n, oa, op, oc, ua, us, uc, sa, su, sc, ta, tb, tc⟩) ⟨h.op, h.us, h.su, h.tb, h.oc, h.uc, h.sc, h.tc⟩ o1 o2 38)
 have HS := Lib.hid HK
 have HZZ := Lib.hid HZ
 have HEE := Lib.hid HE
 obtain ⟨c0, c1, c2, c3, c4, c5⟩ := HK.cells
 obtain ⟨f0, f1, f2, f3, f4, f5⟩ := HK.free
 obtain ⟨⟨e0, e1, e2, e3, e4, e5⟩, -⟩ := cells6 HE.blk
 have hgl := HK.lt
 unfold saV evV saC at *
 dsimp only at *
 clear h hf HK HZ HE
 go_enter Tryz.func44, Tryz.ntmps44
 obtain ⟨z0, z1, z2, z3, z4, z5⟩ := HZZ.out.cells
 obtain ⟨y0, y1, y2, y3, y4, y5⟩ := HZZ.out.free
 have hzl := HZZ.out.lt
 unfold saO at z0 z1 z2 z3 z4 z5
 dsimp only at *
 clear HS HZZ HEE
 go_wp2
 refine bodyPost_ret (v := .tuple #[saV ⟨now, max hor n, oa, op, oc, ua, us, uc, sa, su, sc, ta, tb, tc⟩, .int .i64 0]) ?_ rfl ?_
 ·rw [results_cellT rfl]
  unfold saV saC
  simp [asAddr, Result.andThen, (HFN.out _ _).1]
 ·exact ⟨_, rfl, (HFN.out _ _).2.1, fun he => rfl, (HFN.out _ _).2.2⟩
theorem staysO_few (l : List OpM) (u : ByteArray) (t : Int) {n : Nat} (h : l.length ≤ n) : (staysO l u t).length ≤ n := by
 have := staysO_len l u t l.length
 rw [List.take_length] at this
 omega
theorem ofU_few {s : SaM} {n : Nat} (h : Few s n) (u : ByteArray) : (ofU s.us u).length ≤ n := by
 rcases ofU_cases s.us u with h1 | h1
 ·rw [h1]; exact Nat.zero_le _
 ·exact h.st _ h1
set_option maxHeartbeats 8000000 in
theorem stays_any11 (x : SaL) (u : ByteArray) (t : Int) (w : World) (h : SaAt w x) (hf : Few x.m 400) :
  Calls Tryz.prog 29 #[saV x, .string u, .int .i64 t] w fun e w' => ∃ a q, e = .returned (.slice a (staysS x.m u t).length q) ∧ StSl w' a (staysS x.m u t) ∧ Below w.heap.size w w' := by
 have HK := SB.new (Below.refl w.heap.size w) h 38
 have hol : (ofU x.m.us u).length ≤ 400 := ofU_few hf u
 have hsl : (staysO x.m.op u t).length ≤ 400 := staysO_few _ _ _ hf.op
 have HSO := Lib.hid (fun V (h : UsSl V x.ua x.us) => staysOf_any x.ua x.uc x.us u V h (by have := hf.us; unfold SaL.m at this; simp only at this; rw [umS_len] at this; omega))
 have HOS := Lib.hid (fun V (h : OpSl V x.oa x.op) => o_stays x.oa x.oc x.op u t V h (Nat.le_trans hf.op (by decide)))
 have HCL := Lib.hid (fun V a c (h : StSl V a (ofU x.m.us u)) (k : Cp a (ofU x.m.us u).length c) => clone_st a c (ofU x.m.us u) V h k (by omega))
 have HAN := Lib.hid (fun j (hj : j < (staysO x.m.op u t).length) => addsS_next (staysO x.m.op u t) (ofU x.m.us u) j hj)
 have HAL := Lib.hid (fun j => addsS_len ((staysO x.m.op u t).take j) (ofU x.m.us u))
 have HAD := Lib.hid (fun V a c (l : List StM) (s : StM) (h : StSl V a l) (k : Cp a l.length c) (hl : l.length ≤ 1000) => add8_any a c l s V h k.nil hl k.le k.mx)
 have HS := Lib.hid HK
 obtain ⟨c0, c1, c2, c3, c4, c5⟩ := HK.cells
 rw [show staysS x.m u t = addsS (staysO x.m.op u t) (ofU x.m.us u) from rfl]
 rw [show umS x.us = x.m.us from rfl] at HSO
 rw [show x.op = x.m.op from rfl] at HOS c2
 generalize hL : staysO x.m.op u t = L at *
 generalize ofU x.m.us u = O at *
 obtain ⟨now, hor, oa, op, oc, ua, us, uc, sa, su, sc, ta, tb, tc⟩ := x
 unfold saV saC stV at *
 dsimp only at *
 clear h hf HK hL
 go_enter Tryz.func29, Tryz.ntmps29
 go_wp2_with fail
 refine (HSO.out _ HS.out.at_.us).mono ?_
 rintro e w1 ⟨x1, q1, rfl, l1, k1, h1⟩
 have A1 := Lib.hid (HS.out.below h1)
 have L1 := Lib.hid l1
 clear c0 c1 c2 c3 c4 c5 h1 l1 HS HSO
 go_wp2_with fail
 refine (HCL.out _ _ _ L1.out k1).mono ?_
 rintro e w2 ⟨v2, rfl, o2, h2⟩
 obtain ⟨x2, q2, rfl, i2, j2, k2, l2⟩ := own_st o2
 have A2 := Lib.hid (A1.out.below h2)
 have L2 := Lib.hid k2
 obtain ⟨c0, c1, c2, c3, c4, c5⟩ := A2.out.cells
 dsimp only at *
 clear A1 L1 HCL k1 h2 o2 k2
 go_wp2_with fail
 refine (HOS.out _ A2.out.at_.op).mono ?_
 rintro e w3 ⟨x3, q3, rfl, i3, j3, k3, l3, h3⟩
 have L3 := Lib.hid (L2.out.below h3)
 have M3 := Lib.hid l3
 have B3 := Lib.hid (A2.out.frame.trans (h3.mono A2.out.frame.size))
 have C2 := Lib.hid (Cp.mk i2 j2 l2)
 clear c0 c1 c2 c3 c4 c5 A2 L2 HOS i2 j2 l2 i3 j3 k3 l3 h3
 go_wp2
 go_loopw [7, 21] (fun v iv wr => ∃ (j : Nat) (a : Option Addr) (c : Nat), j ≤ L.length ∧ iv = .int .i64 j ∧ v = .slice a (addsS (L.take j) O).length c ∧ Hid (StSl wr a (addsS (L.take j) O)) ∧ Hid (Cp a (addsS (L.take j) O).length c) ∧ Hid (Below w3.heap.size w3 wr)) (fun _ iv _ => L.length - (intOf iv).toNat)
 case atStart => exact ⟨0, _, _, by omega, rfl, rfl, L3.out, C2.out, Below.refl _ _⟩
 case round =>
  clear L3 C2
  obtain ⟨j, a, c, hj, rfl, rfl, HR, HC, HB⟩ := hrel
  by_cases hjl : j < L.length
  ·obtain ⟨b, off, rfl, hbl, r0, r1, r2, r3⟩ := (M3.out.below HB.out) j hjl
   have hb1 := below_one wr (.cells #[.int .i64 L[j].f, .int .i64 L[j].t, .int .i64 L[j].n, .int .i64 L[j].s] 86)
   have HN := Lib.hid (HAN.out j hjl)
   have hal := HAL.out j
   have hal2 : (L.take j).length ≤ 400 := by rw [List.length_take]; omega
   have HAJ := Lib.hid (HAD.out _ a c (addsS (L.take j) O) L[j] (HR.out.below hb1) HC.out (by omega))
   have HB1 := Lib.hid (HB.out.trans (hb1.mono HB.out.size))
   clear hb1 HAN HAL HAD HR HC HB hal hal2
   generalize addsS (L.take j) O = R at *
   generalize L[j] = s at *
   go_wp2_with fail
   refine HAJ.out.mono ?_
   rintro e w4 ⟨v4, rfl, o4, h4⟩
   obtain ⟨x4, q4, rfl, i4, j4, k4, l4⟩ := own_st o4
   have HB2 := Lib.hid (HB1.out.trans (h4.mono HB1.out.size))
   have HC2 := Lib.hid (Cp.mk i4 j4 l4)
   have HS4 := Lib.hid k4
   clear HAJ HB1 h4 o4 i4 j4 k4 l4 r0 r1 r2 r3
   go_wp2
   go_roundw
   case rel => exact ⟨j + 1, x4, q4, by omega, by go_num, by rw [HN.out], (by unfold Hid; rw [HN.out]; exact HS4.out), (by unfold Hid; rw [HN.out]; exact HC2.out), HB2.out⟩
   case measure => simp [intOf]; omega
  ·obtain rfl : j = L.length := by omega
   rw [List.take_length] at HR HC
   rw [List.take_length]
   have HF := Lib.hid (B3.out.trans (HB.out.mono B3.out.size))
   clear HAN HAL HAD HC HB B3 M3
   go_wp2
   go_ret
   exact ⟨a, c, rfl, HR.out, HF.out⟩
theorem hasU_stays {l : List UsM} (h : ∀ x ∈ l, x.l ≠ []) (u : ByteArray) : hasU l u = decide (0 < (ofU l u).length) := by
 rw [Bool.eq_iff_iff, decide_eq_true_iff]
 unfold hasU
 rw [List.any_eq_true]
 constructor
 ·rintro ⟨x, hx, hk⟩
  unfold ofU
  cases hf : l.find? (isKy UsM.u u) with
  | none => exact absurd hk (by rw [List.find?_eq_none] at hf; exact hf x hx)
  | some y => exact List.length_pos_iff.2 (h y (List.mem_of_find?_eq_some hf))
 ·intro h1
  rcases ofU_cases l u with h2 | h2
  ·rw [h2] at h1; exact absurd h1 (Nat.lt_irrefl _)
  ·exact ⟨_, h2, by unfold isKy; simp⟩
set_option maxHeartbeats 8000000 in
theorem has_any11 (x : SaL) (u : ByteArray) (w : World) (h : SaAt w x) (hr : RightS x.m) (hf : Few x.m 400) :
  Calls Tryz.prog 31 #[saV x, .string u] w fun e w' => e = .returned (.bool (stHas x.m u)) ∧ Below w.heap.size w w' := by
 have S0 := SB.new (Below.refl w.heap.size w) h 38
 have HK := S0.alloc (.cells #[.string u] 9)
 have hb1 := below_one (w.alloc (.cells (saC x) 38)) (.cells #[.string u] 9)
 have hnew := heap_alloc_new (w.alloc (.cells (saC x) 38)) (.cells #[.string u] 9)
 have hcap : CapO ((w.alloc (.cells (saC x) 38)).alloc (.cells #[.string u] 9)) (w.heap.size + 1) (.string u) := ⟨by rw [size1] at hnew; exact cell_of_row _ _ 0 _ _ (0, 0) hnew, by rw [size1, size1]; omega⟩
 have HC := Lib.hid hcap
 have HS := Lib.hid HK
 have HSO := Lib.hid (fun V (h : UsSl V x.ua x.us) => staysOf_any x.ua x.uc x.us u V h (by have := hf.us; unfold SaL.m at this; simp only at this; rw [umS_len] at this; omega))
 have H1 : Hid (∀ V, OpSl V x.oa x.op → CapO V (w.heap.size + 1) (.string u) → Calls Tryz.prog 95 #[.slice x.oa x.op.length x.oc, .func (.func 96) #[] #[.pointer (some ⟨w.heap.size + 1, 0, none⟩)]] V fun r w' => r = .returned (.bool (hasO x.m.op u)) ∧ Below V.heap.size V w') := fun V h k => by
  refine some_op x.oa x.oc x.op _ _ (isU u) (fun V => CapO V (w.heap.size + 1) (.string u)) V h k ?_ (call_known Tryz.func96 rfl) (fun _ _ h q => h.below q) (fun y _ V h => c_has1 y u _ V h)
  have := hf.op
  exact Nat.le_trans this (by decide)
 have H2 : Hid (∀ V, EnSl V x.sa x.su → CapO V (w.heap.size + 1) (.string u) → Calls Tryz.prog 97 #[.slice x.sa x.su.length x.sc, .func (.func 98) #[] #[.pointer (some ⟨w.heap.size + 1, 0, none⟩)]] V fun r w' => r = .returned (.bool (hasE x.m.su u)) ∧ Below V.heap.size V w') := fun V h k => by
  refine some_en x.sa x.sc x.su _ _ (prE u) (fun V => CapO V (w.heap.size + 1) (.string u)) V h k ?_ (call_known Tryz.func98 rfl) (fun _ _ h q => h.below q) (fun y _ V h => c_has2 y u _ V h)
  have := hf.su
  exact Nat.le_trans this (by decide)
 have H3 : Hid (∀ V, TbSl V x.ta x.tb → CapO V (w.heap.size + 1) (.string u) → Calls Tryz.prog 100 #[.slice x.ta x.tb.length x.tc, .func (.func 101) #[] #[.pointer (some ⟨w.heap.size + 1, 0, none⟩)]] V fun r w' => r = .returned (.bool (hasT x.m.tb u)) ∧ Below V.heap.size V w') := fun V h k => by
  refine some_tb x.ta x.tc x.tb _ _ (isKy TbM.u u) (fun V => CapO V (w.heap.size + 1) (.string u)) V h k ?_ (call_known Tryz.func101 rfl) (fun _ _ h q => h.below q) (fun y _ V h => c_has3 y u _ V h)
  have := hf.tb
  exact Nat.le_trans this (by decide)
 have hst : stHas x.m u = (hasT x.m.tb u || decide (0 < (ofU x.m.us u).length) || hasO x.m.op u || hasE x.m.su u) := by
  unfold stHas
  rw [hasU_stays fun y hy => (hr.us y hy).2.1]
 rw [hst]
 rw [show umS x.us = x.m.us from rfl] at HSO
 have hol := ofU_few hf u
 obtain ⟨c0, c1, c2, c3, c4, c5⟩ := HK.cells
 have hcell := hcap.1
 generalize hasO x.m.op u = b1 at *
 generalize hasE x.m.su u = b3 at *
 generalize hasT x.m.tb u = b4 at *
 generalize ofU x.m.us u = O at *
 obtain ⟨now, hor, oa, op, oc, ua, us, uc, sa, su, sc, ta, tb, tc⟩ := x
 unfold saV saC at *
 dsimp only at *
 clear h hr hf HK S0 hb1 hnew hcap hst
 cases b1
 ·by_cases hO : 0 < O.length
  ·go_enter Tryz.func31, Tryz.ntmps31
   go_wp2_with fail
   refine (H1.out _ HS.out.at_.op HC.out).mono ?_
   rintro e w1 ⟨rfl, h1⟩
   have A1 := Lib.hid (HS.out.below h1)
   have C1 := Lib.hid (HC.out.below h1)
   clear c0 c1 c2 c3 c4 c5 hcell HS HC h1 H1
   obtain ⟨c0, c1, c2, c3, c4, c5⟩ := A1.out.cells
   have hcell := C1.out.1
   dsimp only at *
   go_wp2_with fail
   refine (HSO.out _ A1.out.at_.us).mono ?_
   rintro e w2 ⟨x2, q2, rfl, -, -, h2⟩
   have A2 := Lib.hid (A1.out.below h2)
   have C2 := Lib.hid (C1.out.below h2)
   clear c0 c1 c2 c3 c4 c5 hcell A1 C1 h2 HSO
   obtain ⟨c0, c1, c2, c3, c4, c5⟩ := A2.out.cells
   dsimp only at *
   have hF := Lib.hid A2.out.frame
   go_wp2
   go_ret
   exact ⟨retB (by simp [hO]), hF.out⟩
  ·cases b3
   ·go_enter Tryz.func31, Tryz.ntmps31
    go_wp2_with fail
    refine (H1.out _ HS.out.at_.op HC.out).mono ?_
    rintro e w1 ⟨rfl, h1⟩
    have A1 := Lib.hid (HS.out.below h1)
    have C1 := Lib.hid (HC.out.below h1)
    clear c0 c1 c2 c3 c4 c5 hcell HS HC h1 H1
    obtain ⟨c0, c1, c2, c3, c4, c5⟩ := A1.out.cells
    have hcell := C1.out.1
    dsimp only at *
    go_wp2_with fail
    refine (HSO.out _ A1.out.at_.us).mono ?_
    rintro e w2 ⟨x2, q2, rfl, -, -, h2⟩
    have A2 := Lib.hid (A1.out.below h2)
    have C2 := Lib.hid (C1.out.below h2)
    clear c0 c1 c2 c3 c4 c5 hcell A1 C1 h2 HSO
    obtain ⟨c0, c1, c2, c3, c4, c5⟩ := A2.out.cells
    dsimp only at *
    go_wp2_with fail
    refine (H2.out _ A2.out.at_.su C2.out).mono ?_
    rintro e w3 ⟨rfl, h3⟩
    have A3 := Lib.hid (A2.out.below h3)
    have C3 := Lib.hid (C2.out.below h3)
    clear c0 c1 c2 c3 c4 c5 A2 C2 h3 H2
    obtain ⟨c0, c1, c2, c3, c4, c5⟩ := A3.out.cells
    dsimp only at *
    go_wp2_with fail
    refine (H3.out _ A3.out.at_.tb C3.out).mono ?_
    rintro e w4 ⟨rfl, h4⟩
    have hF := Lib.hid (A3.out.frame.trans (h4.mono A3.out.frame.size))
    go_wp2
    go_ret
    exact ⟨retB (by simp [hO]), hF.out⟩
   ·go_enter Tryz.func31, Tryz.ntmps31
    go_wp2_with fail
    refine (H1.out _ HS.out.at_.op HC.out).mono ?_
    rintro e w1 ⟨rfl, h1⟩
    have A1 := Lib.hid (HS.out.below h1)
    have C1 := Lib.hid (HC.out.below h1)
    clear c0 c1 c2 c3 c4 c5 hcell HS HC h1 H1
    obtain ⟨c0, c1, c2, c3, c4, c5⟩ := A1.out.cells
    have hcell := C1.out.1
    dsimp only at *
    go_wp2_with fail
    refine (HSO.out _ A1.out.at_.us).mono ?_
    rintro e w2 ⟨x2, q2, rfl, -, -, h2⟩
    have A2 := Lib.hid (A1.out.below h2)
    have C2 := Lib.hid (C1.out.below h2)
    clear c0 c1 c2 c3 c4 c5 hcell A1 C1 h2 HSO
    obtain ⟨c0, c1, c2, c3, c4, c5⟩ := A2.out.cells
    dsimp only at *
    go_wp2_with fail
    refine (H2.out _ A2.out.at_.su C2.out).mono ?_
    rintro e w3 ⟨rfl, h3⟩
    have A3 := Lib.hid (A2.out.below h3)
    have C3 := Lib.hid (C2.out.below h3)
    clear c0 c1 c2 c3 c4 c5 A2 C2 h3 H2
    obtain ⟨c0, c1, c2, c3, c4, c5⟩ := A3.out.cells
    dsimp only at *
    have hF := Lib.hid A3.out.frame
    go_wp2
    go_ret
    exact ⟨retB (by simp [hO]), hF.out⟩
 ·go_enter Tryz.func31, Tryz.ntmps31
  go_wp2_with fail
  refine (H1.out _ HS.out.at_.op HC.out).mono ?_
  rintro e w1 ⟨rfl, h1⟩
  have hF := Lib.hid (HS.out.frame.trans (h1.mono HS.out.frame.size))
  go_wp2
  go_ret
  exact ⟨retB (by simp), hF.out⟩
end Go.Proofs.YtjhdhfokhkcamaaGreat
