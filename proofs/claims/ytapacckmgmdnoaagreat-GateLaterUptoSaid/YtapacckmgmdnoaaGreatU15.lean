/- Texts of mine, one behind the other, of each what is wanted. -/
import Derived.Test.YtapacckmgmdnoaaGreatU00
import Derived.Test.YtapacckmgmdnoaaGreatShelf
import Derived.Test.YtapacckmgmdnoaaGreatRows
import Derived.Test.YtapacckmgmdnoaaGreatU01
import Derived.Test.YtapacckmgmdnoaaGreatU02
import Derived.Test.YtapacckmgmdnoaaGreatU04
import Derived.Test.YtapacckmgmdnoaaGreatU06
import Derived.Test.YtapacckmgmdnoaaGreatU07
import Derived.Test.YtapacckmgmdnoaaGreatU09
import Derived.Test.YtapacckmgmdnoaaGreatU11
namespace Go.Proofs.YtapacckmgmdnoaaGreat
open Go.RowKit Go.Sort Go.Proofs
set_option linter.unusedVariables false
set_option maxRecDepth 100000
set_option maxRecDepth 100000
theorem ofil_take (q : OpM → Bool) (l : List OpM) (j : Nat) (h : j < l.length) : (l.take (j + 1)).filter q = (l.take j).filter q ++ (if q l[j] = true then [l[j]] else []) := by
 rw [List.take_succ_eq_append_getElem h, List.filter_append, List.filter_cons, List.filter_nil]
theorem ofil_len (q : OpM → Bool) (l : List OpM) (j : Nat) : ((l.take j).filter q).length ≤ j := Nat.le_trans (List.length_filter_le _ _) (by simp; omega)
def SzO (l : List OpM) : Prop := ∀ e ∈ l, e.u.size ≤ maxLen
set_option maxHeartbeats 2000000 in
theorem owithout_any (a : Option Addr) (c : Nat) (l : List OpM) (u : ByteArray) (w : World) (hr : OpSl w a l) (hl : l.length ≤ 100000) :
  Calls Tryz.prog 235 #[.slice a l.length c, .string u] w fun e w' => ∃ v, e = .returned v ∧ w'.ownsRow w.heap.size 184 4 v (l.filter (notU u)).length (oes (l.filter (notU u))) ∧ Below w.heap.size w w' := by
 obtain ⟨i0, hi, hz0, hz1, hz2⟩ := info_parts infoOp
 have HR := Lib.hid hr
 clear hr
 go_enter Tryz.func235, Tryz.ntmps235
 go_wp2
 go_loopw [5, 10] (fun v i wr => ∃ (j : Nat), j ≤ l.length ∧ i = .int .i64 j ∧ Hid (wr.ownsRow w.heap.size 184 4 v ((l.take j).filter (notU u)).length (oes ((l.take j).filter (notU u)))) ∧ Hid (Below w.heap.size w wr)) (fun _ i _ => l.length - (intOf i).toNat)
 case atStart => exact ⟨0, by omega, rfl, ⟨rfl, .inl ⟨rfl, rfl⟩⟩, Below.refl _ _⟩
 case round =>
  obtain ⟨j, hj, rfl, HO, HB⟩ := hrel
  by_cases hjl : j < l.length
  ·obtain ⟨b, off, rfl, hbl, hc0, hc1, hc2, hc3⟩ := (HR.out.below HB.out).at_ hjl
   have HT := Lib.hid (ofil_take (notU u) l j hjl)
   have HLN := Lib.hid (ofil_len (notU u) l j)
   generalize l[j] = x at *
   generalize (l.take j).filter (notU u) = m at *
   have HX := heap_alloc_new wr (.cells #[.int .i64 x.n, .string x.u, .int .i64 x.s, .int .i64 x.f] 184)
   obtain ⟨d0, d1, d2, d3⟩ := cells4 HX
   have hb1 := below_one wr (.cells #[.int .i64 x.n, .string x.u, .int .i64 x.s, .int .i64 x.f] 184)
   by_cases hu : x.u = u
   ·have HC2 : Hid ((l.take (j + 1)).filter (notU u) = m) := by
     have := HT.out
     rwa [if_neg (by unfold notU; rw [decide_eq_false (fun h => h hu)]; exact Bool.false_ne_true), List.append_nil] at this
    have q1 : (x.u.toList != u.toList) = false := by rw [hu]; exact txt_ns u
    have q2 : (x.u.toList == u.toList) = true := by rw [hu]; exact txt_eq u
    have HO2 := Lib.hid (own_below HO.out hb1)
    have HB2 := Lib.hid (HB.out.trans (hb1.mono HB.out.size))
    clear HT HLN hu hb1
    go_wp2
    go_roundw
    case rel => exact ⟨j + 1, by omega, by go_num, (by unfold Hid; rw [HC2.out]; exact HO2.out), HB2.out⟩
    case measure => simp [intOf]; omega
   ·have HC2 : Hid ((l.take (j + 1)).filter (notU u) = m ++ [x]) := by
     have := HT.out
     rwa [if_pos (show notU u x = true from decide_eq_true hu)] at this
    have q1 := txt_nt hu
    have q2 := txt_ne hu
    have hb2 : Below wr.heap.size wr ((wr.alloc (.cells #[.int .i64 x.n, .string x.u, .int .i64 x.s, .int .i64 x.f] 184)).alloc (.cells #[.int .i64 x.n, .string x.u, .int .i64 x.s, .int .i64 x.f] 184)) := hb1.trans ((below_one (wr.alloc (.cells #[.int .i64 x.n, .string x.u, .int .i64 x.s, .int .i64 x.f] 184)) (.cells #[.int .i64 x.n, .string x.u, .int .i64 x.s, .int .i64 x.f] 184)).mono hb1.size)
    have HO2 := Lib.hid (own_below HO.out hb2)
    have HB2 := Lib.hid (HB.out.trans (hb2.mono HB.out.size))
    have HS2 := Lib.hid HB2.out.size
    have hlm := HLN.out
    clear HT hu hb1 hb2
    go_wp2_with (at_builtin; refine wpList_append_own _ rfl (.tmp 18) (.tmp 20) 34 rfl w.heap.size 184 i0 _ 4 40 Tryz.underlying34 hi hz0 hz1 hz2 rfl (by decide) _ _ _ rfl HO2.out ⟨wr.heap.size + 1, 0, none⟩ 1 1 [.int .i64 x.n, .string x.u, .int .i64 x.s, .int .i64 x.f] rfl rfl (news_at _ _ _ _ (size1 _ _).symm) (four_o _ _ _ _) (by unfold maxLen; omega) (by omega) HS2.out ?_; intro v' w3 hown' hgrow hiff)
    have HB3 := Lib.hid (app_below HB2.out HS2.out HO2.out hgrow)
    have HO3 := Lib.hid hown'
    clear hown' hgrow hiff HB2 HS2 HO2
    go_wp2
    go_roundw
    case rel => exact ⟨j + 1, by omega, by go_num, (by unfold Hid; rw [HC2.out, List.length_append, oes_snoc]; exact HO3.out), HB3⟩
    case measure => simp [intOf]; omega
  ·obtain rfl : j = l.length := by omega
   rw [List.take_of_length_le (Nat.le_refl _)] at HO
   go_wp2
   go_ret
   exact ⟨_, rfl, HO.out, HB.out⟩
end Go.Proofs.YtapacckmgmdnoaaGreat
namespace Go.Proofs.YtapacckmgmdnoaaGreat
open Go.RowKit
set_option linter.unusedVariables false
set_option maxRecDepth 100000
set_option maxRecDepth 100000
theorem below_2 (w : World) (o p : Obj) : Below w.heap.size w ((w.alloc o).alloc p) := ((Below.refl _ _).alloc (Nat.le_refl _) _).alloc (by rw [size1]; omega) _
structure TwE (w : World) (g h : Nat) (a b : EnM) (W : World) : Prop where
 a : W.cell? ⟨g, 0, none⟩ = some (.string a.w) ∧ W.cell? ⟨g, 1, none⟩ = some (.string a.u) ∧ W.cell? ⟨g, 2, none⟩ = some (.int .i64 a.f) ∧ W.cell? ⟨g, 3, none⟩ = some (.int .i64 a.t)
 b : W.cell? ⟨h, 0, none⟩ = some (.string b.w) ∧ W.cell? ⟨h, 1, none⟩ = some (.string b.u) ∧ W.cell? ⟨h, 2, none⟩ = some (.int .i64 b.f) ∧ W.cell? ⟨h, 3, none⟩ = some (.int .i64 b.t)
 lt : g < W.heap.size ∧ h < W.heap.size
 frame : Below w.heap.size w W
theorem TwE.below {w W W' : World} {g h : Nat} {a b : EnM} (k : TwE w g h a b W) (q : Below W.heap.size W W') : TwE w g h a b W' :=
 ⟨⟨(q.cell (p := ⟨g, 0, none⟩) k.lt.1).trans k.a.1, (q.cell (p := ⟨g, 1, none⟩) k.lt.1).trans k.a.2.1, (q.cell (p := ⟨g, 2, none⟩) k.lt.1).trans k.a.2.2.1, (q.cell (p := ⟨g, 3, none⟩) k.lt.1).trans k.a.2.2.2⟩,
  ⟨(q.cell (p := ⟨h, 0, none⟩) k.lt.2).trans k.b.1, (q.cell (p := ⟨h, 1, none⟩) k.lt.2).trans k.b.2.1, (q.cell (p := ⟨h, 2, none⟩) k.lt.2).trans k.b.2.2.1, (q.cell (p := ⟨h, 3, none⟩) k.lt.2).trans k.b.2.2.2⟩,
  ⟨Nat.lt_of_lt_of_le k.lt.1 q.size, Nat.lt_of_lt_of_le k.lt.2 q.size⟩, k.frame.trans (q.mono k.frame.size)⟩
theorem TwE.new (w : World) (a b : EnM) (t t' : TypeId) : TwE w w.heap.size (w.heap.size + 1) a b ((w.alloc (.cells #[.string a.w, .string a.u, .int .i64 a.f, .int .i64 a.t] t)).alloc (.cells #[.string b.w, .string b.u, .int .i64 b.f, .int .i64 b.t] t')) := by
 have hb := below_2 w (.cells #[.string a.w, .string a.u, .int .i64 a.f, .int .i64 a.t] t) (.cells #[.string b.w, .string b.u, .int .i64 b.f, .int .i64 b.t] t')
 have h1 := heap_alloc_new w (.cells #[.string a.w, .string a.u, .int .i64 a.f, .int .i64 a.t] t)
 have z1 := size1 w (.cells #[.string a.w, .string a.u, .int .i64 a.f, .int .i64 a.t] t)
 generalize w.alloc (.cells #[.string a.w, .string a.u, .int .i64 a.f, .int .i64 a.t] t) = w1 at *
 have h2 := heap_alloc_new w1 (.cells #[.string b.w, .string b.u, .int .i64 b.f, .int .i64 b.t] t')
 have b2 := ebelow_one w1 (.cells #[.string b.w, .string b.u, .int .i64 b.f, .int .i64 b.t] t')
 have z2 := size1 w1 (.cells #[.string b.w, .string b.u, .int .i64 b.f, .int .i64 b.t] t')
 generalize w1.alloc (.cells #[.string b.w, .string b.u, .int .i64 b.f, .int .i64 b.t] t') = w2 at *
 rw [z1] at h2
 exact ⟨ecells4 ((b2.block _ (heap_lt h1)).trans h1), ecells4 h2, ⟨by omega, by omega⟩, hb⟩
theorem above_pc (a b : EnM) : (aheadE b a) ↔ (0 < pc a b ∨ (pc a b = 0 ∧ b.f < a.f)) := by
 have h := pc_neg a b
 unfold aheadE
 omega
set_option maxHeartbeats 2000000 in
theorem above_any (a b : EnM) (w : World) : Calls Tryz.prog 221 #[enV a, enV b] w fun e w' => e = .returned (.bool (decide (aheadE b a))) ∧ Below w.heap.size w w' := by
 have K0 := Lib.hid (TwE.new w a b 165 165)
 have HC := Lib.hid (fun W => pairCmp_any a.w a.u b.w b.u W)
 have HP := above_pc a b
 unfold enV
 unfold pr at HC
 have hpc : cmpP a.w a.u b.w b.u = pc a b := rfl
 rw [hpc] at HC
 generalize pc a b = c at *
 have HF : Hid (∀ x : Bool, (x = true ↔ aheadE b a) → x = decide (aheadE b a)) := fun x h => by
  cases x with
  | true => exact (decide_eq_true (h.1 rfl)).symm
  | false => exact (decide_eq_false (fun k => by cases h.2 k)).symm
 rcases Int.lt_trichotomy c 0 with h1 | h1 | h1
 ·have d1 : decide (0 < c) = false := decide_eq_false (by omega)
  have d2 : (c == 0) = false := beq_eq_false_iff_ne.2 (by omega)
  have HE := Lib.hid (HF.out false ⟨fun h => (by cases h), fun h => (by have := HP.1 h; omega)⟩)
  clear HF HP h1
  go_enter Tryz.func221, Tryz.ntmps221
  go_wp2_with fail
  refine (HC.out _).mono ?_
  rintro e w2 ⟨rfl, hB⟩
  have K1 := K0.out.below hB
  obtain ⟨a0, a1, a2, a3⟩ := K1.a
  obtain ⟨b0, b1, b2, b3⟩ := K1.b
  clear K0 HC hB
  go_wp2
  go_ret
  exact ⟨by rw [← HE.out]; rfl, K1.frame⟩
 ·subst h1
  have d1 : decide ((0 : Int) < 0) = false := rfl
  have HE := Lib.hid (HF.out (decide (b.f < a.f)) (by rw [HP, decide_eq_true_iff]; omega))
  clear HF HP
  go_enter Tryz.func221, Tryz.ntmps221
  go_wp2_with fail
  refine (HC.out _).mono ?_
  rintro e w2 ⟨rfl, hB⟩
  have K1 := K0.out.below hB
  obtain ⟨a0, a1, a2, a3⟩ := K1.a
  obtain ⟨b0, b1, b2, b3⟩ := K1.b
  clear K0 HC hB
  go_wp2
  go_ret
  exact ⟨by rw [← HE.out]; rfl, K1.frame⟩
 ·have d1 : decide (0 < c) = true := decide_eq_true (by omega)
  have HE := Lib.hid (HF.out true ⟨fun _ => HP.2 (Or.inl h1), fun _ => rfl⟩)
  clear HF HP h1
  go_enter Tryz.func221, Tryz.ntmps221
  go_wp2_with fail
  refine (HC.out _).mono ?_
  rintro e w2 ⟨rfl, hB⟩
  have K1 := K0.out.below hB
  obtain ⟨a0, a1, a2, a3⟩ := K1.a
  obtain ⟨b0, b1, b2, b3⟩ := K1.b
  clear K0 HC hB
  go_wp2
  go_ret
  exact ⟨by rw [← HE.out]; rfl, K1.frame⟩
set_option maxHeartbeats 2000000 in
theorem eahead_any (a b : EnM) (w : World) (h1 : a.w.size ≤ maxLen) (h2 : a.u.size ≤ maxLen) (h3 : b.w.size ≤ maxLen) (h4 : b.u.size ≤ maxLen) :
  Calls Tryz.prog 137 #[enV a, enV b] w fun e w' => e = .returned (.bool (decide (aheadE a b))) ∧ Below w.heap.size w w' := by
 have K0 := Lib.hid (TwE.new w a b 135 135)
 have HC1 := Lib.hid (fun W => refCmp_any a.w b.w W h1 h3)
 have HC2 := Lib.hid (fun W => refCmp_any a.u b.u W h2 h4)
 have HP : aheadE a b ↔ (pc a b < 0 ∨ (pc a b = 0 ∧ a.f < b.f)) := Iff.rfl
 have hpc : pc a b = if cmpS a.w b.w = 0 then cmpS a.u b.u else cmpS a.w b.w := rfl
 rw [hpc] at HP
 have e1 : Lib.compareBytes a.w.data.toList b.w.data.toList = cmpS a.w b.w := rfl
 have e2 : Lib.compareBytes a.u.data.toList b.u.data.toList = cmpS a.u b.u := rfl
 rw [e1] at HC1
 rw [e2] at HC2
 clear hpc e1 e2 h1 h2 h3 h4
 unfold enV
 generalize cmpS a.w b.w = c at *
 generalize cmpS a.u b.u = d at *
 have HF : Hid (∀ x : Bool, (x = true ↔ aheadE a b) → x = decide (aheadE a b)) := fun x h => by
  cases x with
  | true => exact (decide_eq_true (h.1 rfl)).symm
  | false => exact (decide_eq_false (fun k => by cases h.2 k)).symm
 by_cases h1 : c = 0
 ·subst h1
  rw [if_pos rfl] at HP
  have k1 : ((0 : Int) != 0) = false := rfl
  by_cases h2 : d = 0
  ·subst h2
   have HE := Lib.hid (HF.out (decide (a.f < b.f)) (by rw [HP, decide_eq_true_iff]; omega))
   clear HF HP
   go_enter Tryz.func137, Tryz.ntmps137
   go_wp2_with fail
   refine (HC1.out _).mono ?_
   rintro e w2 ⟨rfl, hB⟩
   have K1 := Lib.hid (K0.out.below (Drew.below hB _))
   obtain ⟨a0, a1, a2, a3⟩ := K1.out.a
   obtain ⟨b0, b1, b2, b3⟩ := K1.out.b
   clear K0 HC1 hB
   go_wp2_with fail
   refine (HC2.out _).mono ?_
   rintro e w3 ⟨rfl, hB⟩
   have K2 := Lib.hid (K1.out.below (Drew.below hB _))
   clear a0 a1 a2 a3 b0 b1 b2 b3 K1
   obtain ⟨a0, a1, a2, a3⟩ := K2.out.a
   obtain ⟨b0, b1, b2, b3⟩ := K2.out.b
   clear HC2 hB
   go_wp2
   go_ret
   exact ⟨by rw [← HE.out]; rfl, K2.out.frame⟩
  ·have HE := Lib.hid (HF.out (decide (d < 0)) (by rw [HP, decide_eq_true_iff]; omega))
   have k2 : (d != 0) = true := bne_iff_ne.2 h2
   clear HF HP
   go_enter Tryz.func137, Tryz.ntmps137
   go_wp2_with fail
   refine (HC1.out _).mono ?_
   rintro e w2 ⟨rfl, hB⟩
   have K1 := Lib.hid (K0.out.below (Drew.below hB _))
   obtain ⟨a0, a1, a2, a3⟩ := K1.out.a
   obtain ⟨b0, b1, b2, b3⟩ := K1.out.b
   clear K0 HC1 hB
   go_wp2_with fail
   refine (HC2.out _).mono ?_
   rintro e w3 ⟨rfl, hB⟩
   have K2 := Lib.hid (K1.out.below (Drew.below hB _))
   clear a0 a1 a2 a3 b0 b1 b2 b3 K1 HC2 hB
   go_wp2
   go_ret
   exact ⟨by rw [← HE.out]; rfl, K2.out.frame⟩
 ·rw [if_neg h1] at HP
  have HE := Lib.hid (HF.out (decide (c < 0)) (by rw [HP, decide_eq_true_iff]; omega))
  have k1 : (c != 0) = true := bne_iff_ne.2 h1
  clear HF HP
  go_enter Tryz.func137, Tryz.ntmps137
  go_wp2_with fail
  refine (HC1.out _).mono ?_
  rintro e w2 ⟨rfl, hB⟩
  have K1 := Lib.hid (K0.out.below (Drew.below hB _))
  clear K0 HC1 hB
  go_wp2
  go_ret
  exact ⟨by rw [← HE.out]; rfl, K1.out.frame⟩
end Go.Proofs.YtapacckmgmdnoaaGreat
namespace Go.Proofs.YtapacckmgmdnoaaGreat
open Go.ChangeShapes Go.WideShapes Go.ChangeAt Go.RowKit
open Go.ChangeMaps (open_string shut_string)
set_option linter.unusedVariables false
set_option maxRecDepth 100000
theorem own : ownKnob Tryz.prog.godebug = none := by kernel_rfl
theorem laidOut : laidOutB Tryz.prog = true := by kernel_rfl
section
variable {H : Type} {enc : TypeId × Value → H}
def tyOk (P : Program) (t : TypeId) : Bool := P.readableRec t && decide (t < P.types.size)
theorem trodAll_keep {P : Program} (hP : laidOutB P = true) {W W' : World} (hb : Below W.heap.size W W') (ts : List TypeId) : ∀ {vs : List Value} {ds : List (DataW H)} {ps : List MemPlace}, ts.all (tyOk P) = true → (∀ p ∈ ps, p.block < W.heap.size) →
  DataW.TrodAll enc P W 0 (fun _ => true) true ts vs ds ps → DataW.TrodAll enc P W' 0 (fun b => decide (b < W.heap.size)) true ts vs ds ps := by
 induction ts with
 | nil =>
  intro vs ds ps _ _ h
  obtain ⟨rfl, rfl, rfl⟩ := trodAll_nil h
  exact trodAll_mk0
 | cons t ts ih =>
  intro vs ds ps ht hlt h
  obtain ⟨v, vs', d, ds', p, q, rfl, rfl, rfl, h1, h2⟩ := trodAll_cons h
  rw [List.all_cons, Bool.and_eq_true] at ht
  have ht1 := ht.1
  unfold tyOk at ht1
  rw [Bool.and_eq_true, decide_eq_true_eq] at ht1
  exact trodAll_cons_mk (Below.trod hP ht1.1 ht1.2 h1 hb (fun x hx => hlt x (List.mem_append_left _ hx))) (ih ht.2 (fun x hx => hlt x (List.mem_append_right _ hx)) h2)
theorem law_post {f : Func} {s : ChangeSpec} {W W' : World} {args : Array Value} {ds gs : List (DataW H)} {before : List MemPlace} (hv : s.vars = [])
  (hW : DataW.Whole enc Tryz.prog f.params.toList s.vars false W args.toList ds gs before) (hs : ∀ ds : List (DataW H), ds.length = f.params.toList.length → s.fn H ds = { results := [.lit (.bool true)], args := ds })
  (hl : ds.length = f.params.toList.length) (ht : f.params.toList.all (tyOk Tryz.prog) = true) (hr : f.resultTypes = #[4]) (hb : Below W.heap.size W W') :
  s.post enc Tryz.prog f false true false false W args (.bool true) W' := by
 obtain ⟨p, q, hA, hV, rfl, hfz, hnd⟩ := hW
 have hV0 := hV
 rw [hv] at hV
 obtain ⟨rfl, rfl⟩ := trodVars_none hV
 have hlt : ∀ x ∈ p ++ [], x.block < W.heap.size := DataW.Whole.lt ⟨p, [], hA, hV0, rfl, hfz, hnd⟩
 have e : s.fn H (ds ++ []) = { results := [.lit (.bool true)], args := ds } := by rw [List.append_nil]; exact hs ds hl
 refine ⟨ds, [], p ++ [], [], p, [], ⟨p, [], hA, hV0, rfl, hfz, hnd⟩, ?_, ?_, ?_, hb.frame _, fun h => by cases h⟩
 ·rw [e, hr]
  exact trodAll_cons_mk (shut_bool Tryz.underlying4 _) trodAll_mk0
 ·rw [e]
  exact trodAll_keep laidOut hb _ ht (fun x hx => hlt x (by simpa using hx)) hA
 ·rw [e, hv]
  rfl
end
end Go.Proofs.YtapacckmgmdnoaaGreat
namespace Go.Proofs.YtapacckmgmdnoaaGreat
open Go.RowKit Go.Proofs
set_option linter.unusedVariables false
set_option maxRecDepth 100000
set_option maxRecDepth 100000
set_option maxHeartbeats 2000000 in
theorem rcount_any (x : SaL) (w : World) (h : SaAt w x) (hs : stCnt x.m ≤ 10000000) (hu : x.us.length ≤ 10000000) :
  Calls Tryz.prog 65 #[saV x] w fun e w' => e = .returned (.int .i64 (stCnt x.m : Nat)) ∧ Below w.heap.size w w' := by
 have S0 := SB.new (Below.refl w.heap.size w) h 27
 obtain ⟨c0, c1, c2, c3, c4, c5⟩ := S0.cells
 have hs2 : x.op.length + x.su.length + x.tb.length + cntU (umS x.us) ≤ 10000000 := hs
 have HE : Hid (stCnt x.m = x.op.length + x.su.length + x.tb.length + cntU (umS x.us)) := rfl
 have hw1 : IntKind.i64.wrap ((x.op.length : Int) + (x.su.length : Int)) = (x.op.length : Int) + (x.su.length : Int) := by rw [IntWalk.i64_in] <;> omega
 have hw2 : IntKind.i64.wrap ((x.op.length : Int) + (x.su.length : Int) + (x.tb.length : Int)) = ((x.op.length + x.su.length + x.tb.length : Nat) : Int) := by rw [IntWalk.i64_in] <;> omega
 have HU := Lib.hid S0.at_.us
 have HFR := Lib.hid S0.frame
 have HT := Lib.hid (fun j (hj : j < (umS x.us).length) => cntU_take (umS x.us) j hj)
 have HL := Lib.hid (umS_len x.us)
 have HLE : Hid (∀ j, cntU ((umS x.us).take j) ≤ cntU (umS x.us)) := fun j => by
  have := cntU_append ((umS x.us).take j) ((umS x.us).drop j)
  rw [List.take_append_drop] at this
  omega
 have HM : Hid (∀ j (h1 : j < x.us.length) (h2 : j < (umS x.us).length), ((umS x.us)[j]).l.length = x.us[j].l.length) := fun j h1 h2 => by simp [umS, UsL.m]
 unfold saV saC at *
 clear h hs S0
 obtain ⟨n0, hn0⟩ : ∃ n0, n0 = x.op.length + x.su.length + x.tb.length := ⟨_, rfl⟩
 rw [← hn0] at hw2 hs2 HE
 generalize x.ua = ua at *
 go_enter Tryz.func65, Tryz.ntmps65
 go_wp2
 go_loopw [3, 4] (fun v i wr => ∃ (j s : Nat), j ≤ x.us.length ∧ i = .int .i64 j ∧ v = .int .i64 s ∧ s ≤ 10000000 ∧ Hid (s = n0 + cntU ((umS x.us).take j)) ∧ wr = w.alloc (.cells #[.int .i64 x.now, .int .i64 x.hor, .slice x.oa x.op.length x.oc, .slice ua x.us.length x.uc, .slice x.sa x.su.length x.sc, .slice x.ta x.tb.length x.tc] 27)) (fun _ i _ => x.us.length - (intOf i).toNat)
 case atStart => exact ⟨0, n0, by omega, rfl, congrArg (Value.int .i64) (by omega), by omega, by simp [Hid, cntU], rfl⟩
 case round =>
  obtain ⟨j, s, hj, rfl, rfl, hsm, HSS, rfl⟩ := hrel
  by_cases hjl : j < x.us.length
  ·obtain ⟨b, off, rfl, hbl, hc0, hc1, -⟩ := HU.out.get hjl
   have hnx : s + x.us[j].l.length ≤ 10000000 := by
    have h1 := HT.out j (by rw [HL.out]; exact hjl)
    have h2 := HLE.out (j + 1)
    have h3 := HSS.out
    have h4 := HM.out j hjl (by rw [HL.out]; exact hjl)
    omega
   have HN : Hid (s + x.us[j].l.length = n0 + cntU ((umS x.us).take (j + 1))) := by
    have h1 := HT.out j (by rw [HL.out]; exact hjl)
    have h3 := HSS.out
    have h4 := HM.out j hjl (by rw [HL.out]; exact hjl)
    unfold Hid
    omega
   clear HM HLE HT HSS
   generalize x.us[j] = y at *
   have hwr : IntKind.i64.wrap ((s : Int) + (y.l.length : Int)) = ((s + y.l.length : Nat) : Int) := by rw [IntWalk.i64_in] <;> omega
   go_wp2
   go_roundw
   case rel => exact ⟨j + 1, s + y.l.length, by omega, by go_num, by first | rfl | go_num, hnx, HN, by first | rfl | trivial⟩
   case measure => simp [intOf]; omega
  ·obtain rfl : j = x.us.length := by omega
   have hE2 : s = stCnt x.m := by
    have h3 := HSS.out
    rw [List.take_of_length_le (by rw [HL.out]; exact Nat.le_refl _)] at h3
    rw [HE.out]
    exact h3
   have HE2 := Lib.hid hE2
   clear hE2 HM HLE HT HSS
   go_wp2
   go_ret
   exact ⟨by rw [← HE2.out]; rfl, HFR.out⟩
def RiseN {α : Type} (key : α → ByteArray) (l : List α) (j : Nat) : Prop := ∀ k (h : k < l.length), k < j → nameB (key l[k]) = true ∧ (0 < k → cmpS (key (l[k - 1]'(by omega))) (key l[k]) < 0)
def riseNB {α : Type} (key : α → ByteArray) (l : List α) : Prop := RiseN key l l.length
instance riseNDec {α : Type} (key : α → ByteArray) (l : List α) : Decidable (riseNB key l) := by unfold riseNB RiseN; infer_instance
theorem riseN_iff {α : Type} {key : α → ByteArray} {l : List α} : riseNB key l ↔ (∀ x ∈ l, nameB (key x) = true) ∧ RiseK key l := by
 rw [riseK_at]
 constructor
 ·intro h
  refine ⟨fun x hx => ?_, fun k hk h0 => (h k hk hk).2 h0⟩
  obtain ⟨k, hk, rfl⟩ := List.getElem_of_mem hx
  exact (h k hk hk).1
 ·rintro ⟨h1, h2⟩ k hk _
  exact ⟨h1 _ (List.getElem_mem hk), fun h0 => h2 k hk h0⟩
set_option maxHeartbeats 2000000 in
theorem many_any (x : SaL) (w : World) (h : SaAt w x) (hs : stCnt x.m + x.us.length ≤ 1048576) :
  Calls Tryz.prog 18 #[saV x] w fun e w' => e = .returned (.int .i64 ((stCnt x.m : Int) + (x.us.length : Int))) ∧ Below w.heap.size w w' := by
 have S0 := SB.new (Below.refl w.heap.size w) h 27
 have HC := Lib.hid (fun V (h : SaAt V x) => rcount_any x V h (by omega) (by omega))
 have HSC : Hid (∀ V, SB w w.heap.size 27 x V → V.cell? ⟨w.heap.size, 0, none⟩ = some (.int .i64 x.now) ∧ V.cell? ⟨w.heap.size, 1, none⟩ = some (.int .i64 x.hor) ∧ V.cell? ⟨w.heap.size, 2, none⟩ = some (.slice x.oa x.op.length x.oc) ∧ V.cell? ⟨w.heap.size, 3, none⟩ = some (.slice x.ua x.us.length x.uc) ∧ V.cell? ⟨w.heap.size, 4, none⟩ = some (.slice x.sa x.su.length x.sc) ∧ V.cell? ⟨w.heap.size, 5, none⟩ = some (.slice x.ta x.tb.length x.tc)) := fun V h => h.cells
 have S1 := S0.drew
 have hN : stCnt x.m ≤ 1048576 := by omega
 have hU : x.us.length ≤ 1048576 := by omega
 generalize stCnt x.m = N at *
 obtain ⟨now, hor, oa, op, oc, ua, us, uc, sa, su, sc, ta, tb, tc⟩ := x
 unfold saV saC at *
 dsimp only at *
 clear h S0
 have hw : IntKind.i64.wrap ((N : Int) + (us.length : Int)) = (N : Int) + (us.length : Int) := IntWalk.i64_in _ (by omega)
 go_enter Tryz.func18, Tryz.ntmps18
 go_wp2_with fail
 go_region_held3 (fun V => V.cell? ⟨w.heap.size, 0, none⟩ = some (.int .i64 now) ∧ V.cell? ⟨w.heap.size, 1, none⟩ = some (.int .i64 hor) ∧ V.cell? ⟨w.heap.size, 2, none⟩ = some (.slice oa op.length oc) ∧ V.cell? ⟨w.heap.size, 3, none⟩ = some (.slice ua us.length uc) ∧ V.cell? ⟨w.heap.size, 4, none⟩ = some (.slice sa su.length sc) ∧ V.cell? ⟨w.heap.size, 5, none⟩ = some (.slice ta tb.length tc))
  (first | with_reducible exact HSC.out _ S2 | with_reducible exact HSC.out _ S1)
  (first | (go_at_call 65; refine (HC.out _ S1.at_).mono ?_; rintro e w2 ⟨rfl, h2⟩; have S2 := S1.below h2))
 all_goals
  have HF := Lib.hid S2.frame
  clear S1 S2 HC HSC h2
  go_wp2
  go_ret
  exact ⟨by rw [← hw]; rfl, HF.out⟩
end Go.Proofs.YtapacckmgmdnoaaGreat
