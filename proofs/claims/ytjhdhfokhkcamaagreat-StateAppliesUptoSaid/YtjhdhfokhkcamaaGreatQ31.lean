/- Texts of mine, one behind the other, of each what is wanted. -/
import Derived.Test.YtjhdhfokhkcamaaGreatQ00
import Derived.Test.YtjhdhfokhkcamaaGreatShelf
import Derived.Test.YtjhdhfokhkcamaaGreatRows
import Derived.Test.YtjhdhfokhkcamaaGreatQ01
import Derived.Test.YtjhdhfokhkcamaaGreatQ02
import Derived.Test.YtjhdhfokhkcamaaGreatQ03
import Derived.Test.YtjhdhfokhkcamaaGreatQ06
import Derived.Test.YtjhdhfokhkcamaaGreatQ09
import Derived.Test.YtjhdhfokhkcamaaGreatQ10
import Derived.Test.YtjhdhfokhkcamaaGreatQ11
import Derived.Test.YtjhdhfokhkcamaaGreatQ14
import Derived.Test.YtjhdhfokhkcamaaGreatQ17
import Derived.Test.YtjhdhfokhkcamaaGreatQ18
import Derived.Test.YtjhdhfokhkcamaaGreatQ23
import Derived.Test.YtjhdhfokhkcamaaGreatQ25
import Derived.Test.YtjhdhfokhkcamaaGreatQ28
import Derived.Test.YtjhdhfokhkcamaaGreatTQ
namespace Go.Proofs.YtjhdhfokhkcamaaGreat
open Go.RowKit Go.Proofs
set_option linter.unusedVariables false
set_option maxRecDepth 100000
set_option maxRecDepth 100000
theorem wpList_append_en2 {P : Program} (w : World) {ops : Array Oper} {rest : List Oper} {o : Oper} {a : Act} {Q : Exit → Act → World → Prop} (hgd : o.guard = none) (s x : Operand) (t : TypeId)
  (ho : o.op = .call { callee := .builtin .append, args := #[s, x], argTypes := #[t, t] })
  (base : Nat) (e : TypeId) (i : TypeInfo) (z : Value) (ht : P.underlying t = some (.slice e)) (hi : P.info? e = some i) (hz : i.zero = some z)
  (hsize : i.size = 4) (hby : i.bytes = 48) (hzs : z.cells.size = 4)
  (v : Value) (l : List EnM) (hs : a.eval s = v) (hown : w.ownsRow base e 4 v l.length (ens l))
  (A : Option Addr) (c : Nat) (m : List EnM) (n : Nat) (hn : n = m.length) (hx : a.eval x = .slice A n c) (hsl : EnSl w A m) (hnil : A = none → c = 0)
  (hlen : l.length + m.length ≤ 1000000) (hbase : base ≤ w.heap.size)
  (h : ∀ v' w', w'.ownsRow base e 4 v' (l ++ m).length (ens (l ++ m)) → Below base w w' → wpList P ops Q rest (a.put o.dst v') w') : wpList P ops Q (o :: rest) a w := by
 subst hn
 exact wpList_append_en w hgd s x t ho base e i z ht hi hz hsize hby hzs v l hs hown A c m hx hsl hnil hlen hbase h
theorem own_snoc {w : World} {B : Nat} {e : TypeId} {v : Value} {m : List EnM} {x : EnM} (h : w.ownsRow B e 4 v (m.length + 1) (ens m ++ [.string x.w, .string x.u, .int .i64 x.f, .int .i64 x.t])) : w.ownsRow B e 4 v (m ++ [x]).length (ens (m ++ [x])) := by
 rw [List.length_append, ens_snoc]
 exact h
set_option maxHeartbeats 8000000 in
theorem refGrant_any (a : Option Addr) (c : Nat) (l : List EnM) (p u : ByteArray) (n : Int) (w : World) (hr : EnSl w a l) (hsz : SzE l) (hsp : p.size ≤ maxLen) (hsu : u.size ≤ maxLen) (hn : a = none → c = 0) (hl : l.length ≤ 500) (hc : l.length ≤ c) (hcm : c ≤ maxLen) :
  Calls Tryz.prog 48 #[.slice a l.length c, pr p u, .int .i64 n] w fun e w' => (l.any (infE p u) = true ∧ e = .returned (.tuple #[.slice none 0 0, .int .i64 90]) ∧ Below w.heap.size w w') ∨
   (l.any (infE p u) = false ∧ ∃ v, e = .returned (.tuple #[v, .int .i64 0]) ∧ w'.ownsRow w.heap.size 82 4 v (grantS l (mkE p u n)).length (ens (grantS l (mkE p u n))) ∧ Below w.heap.size w w') := by
 obtain ⟨i0, hi, hz0, hz1, hz2⟩ := info_parts infoEnR
 have HPC := Lib.hid (PK.new hr p u 96)
 have HIF := Lib.hid (fun W (h : EnSl W a l) => force_any a c l p u W h (by omega))
 have HAB : Hid (∀ (x : EnM) (_ : x ∈ l) W, Calls Tryz.prog 102 #[.agg #[.string p, .string u, .int .i64 n, .int .i64 1099511627776], .agg #[.string x.w, .string x.u, .int .i64 x.f, .int .i64 x.t]] W fun e w' => e = .returned (.bool (decide (aheadE (mkE p u n) x))) ∧ Below W.heap.size W w') := fun x hx W => eahead_any (mkE p u n) x W hsp hsu (hsz x hx).1 (hsz x hx).2
 have HNil := Lib.hid hn
 have HGA := Lib.hid (fun k (h : IsFirst (fun x => decide (aheadE (mkE p u n) x)) l k) => grant_at h)
 have HDA := idx_any (infE p u) l
 unfold maxLen at hcm
 unfold pr at *
 generalize hG : grantS l (mkE p u n) = G at *
 generalize idxI (infE p u) l = ix at *
 clear hr hn hG hsz hsp hsu
 cases hi2 : l.any (infE p u) with
 | true =>
  rw [hi2] at HDA
  go_enter Tryz.func48, Tryz.ntmps48
  go_wp2_with fail
  refine (HIF.out _ HPC.out.row).mono ?_
  rintro e w1 ⟨rfl, hB⟩
  have K1 := Lib.hid (HPC.out.below hB)
  go_wp2
  go_ret2
  exact Or.inl ⟨by trivial, rfl, K1.out.frame⟩
 | false =>
  rw [hi2] at HDA
  go_enter Tryz.func48, Tryz.ntmps48
  go_wp2_with fail
  refine (HIF.out _ HPC.out.row).mono ?_
  rintro e w1 ⟨rfl, hB⟩
  have K1 := Lib.hid (HPC.out.below hB)
  obtain ⟨c0, c1, -⟩ := K1.out.pc
  have HK0 : Hid (RsE w w1.heap.size (mkE p u n) a l (w1.alloc (.cells #[.string p, .string u, .int .i64 n, .int .i64 1099511627776] 82))) := RsE.new (x := mkE p u n) K1.out.row K1.out.frame 82
  have HSB : Hid (∀ W, RsE w w1.heap.size (mkE p u n) a l W → W.cell? ⟨w1.heap.size, 0, none⟩ = some (.string p) ∧ W.cell? ⟨w1.heap.size, 1, none⟩ = some (.string u) ∧ W.cell? ⟨w1.heap.size, 2, none⟩ = some (.int .i64 n) ∧ W.cell? ⟨w1.heap.size, 3, none⟩ = some (.int .i64 1099511627776)) := fun W h => h.box
  have HSC : Hid (∀ b off j (hj : j < l.length) W, a = some ⟨b, off, none⟩ → RsE w w1.heap.size (mkE p u n) a l W → W.cell? ⟨w1.heap.size, 0, none⟩ = some (.string p) ∧ W.cell? ⟨w1.heap.size, 1, none⟩ = some (.string u) ∧ W.cell? ⟨w1.heap.size, 2, none⟩ = some (.int .i64 n) ∧ W.cell? ⟨w1.heap.size, 3, none⟩ = some (.int .i64 1099511627776) ∧ W.cell? ⟨b, off + j * 4, none⟩ = some (.string l[j].w) ∧ W.cell? ⟨b, off + j * 4 + 1, none⟩ = some (.string l[j].u) ∧ W.cell? ⟨b, off + j * 4 + 2, none⟩ = some (.int .i64 l[j].f) ∧ W.cell? ⟨b, off + j * 4 + 3, none⟩ = some (.int .i64 l[j].t)) := fun b off j hj W e h => by subst e; exact h.at_ hj
  clear hB HPC HIF
  go_wp2
  generalize w1.heap.size = g at *
  go_loopw [9] (fun i wr => ∃ (j : Nat), j ≤ l.length ∧ i = .int .i64 j ∧ Hid (LowTo (fun x => decide (aheadE (mkE p u n) x)) l j) ∧ Hid (RsE w g (mkE p u n) a l wr)) (fun i _ => l.length - (intOf i).toNat)
  case atStart => exact ⟨0, by omega, rfl, fun k _ h => absurd h (by omega), HK0.out⟩
  case round =>
   clear K1 HK0 c0 c1 HDA
   obtain ⟨j, hj, rfl, HO, HK⟩ := hrel
   by_cases hjl : j < l.length
   ·obtain ⟨b, off, rfl, -, -, -, -, -⟩ := HK.out.row.at_ hjl
    have HNX := Lib.hid (HO.out.next hjl)
    have HHT := Lib.hid (HO.out.hit hjl)
    have HP0 : Hid (∀ W, RsE w g (mkE p u n) (some ⟨b, off, none⟩) l W → W.cell? ⟨g, 0, none⟩ = some (.string p) ∧ W.cell? ⟨g, 1, none⟩ = some (.string u) ∧ W.cell? ⟨g, 2, none⟩ = some (.int .i64 n) ∧ W.cell? ⟨g, 3, none⟩ = some (.int .i64 1099511627776) ∧ W.cell? ⟨b, off + j * 4, none⟩ = some (.string l[j].w) ∧ W.cell? ⟨b, off + j * 4 + 1, none⟩ = some (.string l[j].u) ∧ W.cell? ⟨b, off + j * 4 + 2, none⟩ = some (.int .i64 l[j].f) ∧ W.cell? ⟨b, off + j * 4 + 3, none⟩ = some (.int .i64 l[j].t)) := fun W h => HSC.out b off j hjl W rfl h
    have HCX := Lib.hid (HAB.out l[j] (List.getElem_mem hjl))
    have K1 := HK.out.below (Below.refl _ _).drew
    generalize l[j] = x at *
    by_cases h3 : aheadE (mkE p u n) x
    ·have HP := Lib.hid (HHT.out (decide_eq_true h3))
     rw [decide_eq_true h3] at HCX
     clear HNX HHT HO h3 HAB HSC HNil
     go_wp2_with fail
     go_region_held3 (fun W => W.cell? ⟨g, 0, none⟩ = some (.string p) ∧ W.cell? ⟨g, 1, none⟩ = some (.string u) ∧ W.cell? ⟨g, 2, none⟩ = some (.int .i64 n) ∧ W.cell? ⟨g, 3, none⟩ = some (.int .i64 1099511627776) ∧ W.cell? ⟨b, off + j * 4, none⟩ = some (.string x.w) ∧ W.cell? ⟨b, off + j * 4 + 1, none⟩ = some (.string x.u) ∧ W.cell? ⟨b, off + j * 4 + 2, none⟩ = some (.int .i64 x.f) ∧ W.cell? ⟨b, off + j * 4 + 3, none⟩ = some (.int .i64 x.t))
      (first | exact HP0.out _ K1 | exact HP0.out _ K3)
      (first | (go_at_call 102; refine (HCX.out _).mono ?_; rintro e K3W ⟨rfl, h3⟩; have K3 := K1.below h3))
     have hcj : ¬ c = j := by omega
     have hcj2 : j < c := by omega
     clear h3 K1 HCX
     have hpc : j ≤ c := by omega
     have hz1' : (0 : Int) ≤ (j : Int) := by omega
     have hz2' : (j : Int) ≤ (l.length : Int) := by omega
     have hz3' : (j : Int) ≤ (c : Int) := by omega
     have hz4' : (l.length : Int) ≤ (c : Int) := by omega
     obtain ⟨m1, e1⟩ : ∃ m, m = l.take j := ⟨_, rfl⟩
     obtain ⟨m2, e2⟩ : ∃ m, m = l.drop j := ⟨_, rfl⟩
     have HL1 : Hid (j = m1.length) := by unfold Hid; rw [e1, List.length_take]; omega
     have HL2 : Hid (l.length - j = m2.length) := by unfold Hid; rw [e2, List.length_drop]
     have hk1 : (some ⟨b, off, none⟩ : Option Addr) = none → c = 0 := fun h => (by cases h)
     have hk2 : (some ⟨b, off + j * 4, none⟩ : Option Addr) = none → c - j = 0 := fun h => (by cases h)
     have HS1 : Hid (∀ W, Below K3W.heap.size K3W W → EnSl W (some ⟨b, off, none⟩) m1) := fun W h => by rw [e1]; exact (K3.row.below h).take j
     have HS2 : Hid (∀ W, Below K3W.heap.size K3W W → EnSl W (some ⟨b, off + j * 4, none⟩) m2) := fun W h => by rw [e2]; exact (K3.row.below h).drop j
     have HGG : Hid (m1 ++ [mkE p u n] ++ m2 = G) := by unfold Hid; rw [e1, e2, HGA.out j HP.out, List.append_assoc]; rfl
     clear e1 e2
     clear HGA HP HP0 HK
     have hb1 : m1.length ≤ 500 := by have := HL1.out; omega
     have hb2 : m2.length ≤ 500 := by have := HL2.out; omega
     have HE0 := Lib.hid (eown_empty8 K3W 82 4 K3W.heap.size (Nat.le_refl _))
     have HEB := Lib.hid (ebelow_one K3W (.cells #[] 82))
     have HM1 := Lib.hid (HS1.out _ HEB.out)
     have HMS := Lib.hid HEB.out.size
     go_wp2_with (first | (at_builtin; refine wpList_append_en2 _ rfl (.tmp 36) (.tmp 39) 24 rfl K3W.heap.size 82 i0 _ Tryz.underlying24 hi hz0 hz1 hz2 rfl _ [] rfl HE0.out (some ⟨b, off, none⟩) c m1 j HL1.out rfl HM1.out hk1 (by simp; omega) HMS.out ?_; intro v1 w4 ho1 hB1; have HO1 := Lib.hid ho1; have HB1 := Lib.hid (HEB.out.trans hB1); have HO1A : Hid ((w4.alloc (.cells #[.string p, .string u, .int .i64 n, .int .i64 1099511627776] 82)).ownsRow K3W.heap.size 82 4 v1 m1.length (ens m1)) := own_below HO1.out (ebelow_one w4 (.cells #[.string p, .string u, .int .i64 n, .int .i64 1099511627776] 82)); have HB1A := Lib.hid (HB1.out.trans ((ebelow_one w4 (.cells #[.string p, .string u, .int .i64 n, .int .i64 1099511627776] 82)).mono HB1.out.size)); have HS1A := Lib.hid HB1A.out.size; clear ho1 hB1; obtain ⟨d0, d1, d2, d3⟩ := HSB.out _ (K3.below HB1.out)) | (at_builtin; refine wpList_append_own _ rfl (.tmp 41) (.tmp 43) 24 rfl K3W.heap.size 82 i0 _ 4 48 Tryz.underlying24 hi hz0 hz1 hz2 rfl (by decide) _ _ _ rfl HO1A.out ⟨w4.heap.size, 0, none⟩ 1 1 [.string p, .string u, .int .i64 n, .int .i64 1099511627776] rfl rfl (news_at _ _ _ _ rfl) (four_e _ _ _ _) (by unfold maxLen; omega) (by omega) HS1A.out ?_; intro v2 w5 ho2 hgrow hiff; have HB2 := Lib.hid (app_below HB1A.out HS1A.out HO1A.out hgrow); have HO2 : Hid (w5.ownsRow K3W.heap.size 82 4 v2 (m1 ++ [mkE p u n]).length (ens (m1 ++ [mkE p u n]))) := own_snoc ho2; clear ho2 hgrow hiff; have HM2 := Lib.hid (HS2.out _ HB2.out); have HMS2 := Lib.hid HB2.out.size) | (at_builtin; refine wpList_append_en2 _ rfl (.tmp 45) (.tmp 48) 24 rfl K3W.heap.size 82 i0 _ Tryz.underlying24 hi hz0 hz1 hz2 rfl _ (m1 ++ [mkE p u n]) rfl HO2.out (some ⟨b, off + j * 4, none⟩) (c - j) m2 (l.length - j) HL2.out rfl HM2.out hk2 (by simp; omega) HMS2.out ?_; intro v3 w6 ho3 hB3; have HO3 := Lib.hid ho3; have HB3 := Lib.hid (HB2.out.trans hB3); clear ho3 hB3))
     rw [HGG.out] at HO3
     go_ret2
     first | exact Or.inr ⟨by trivial, v3, rfl, own_low HO3.out K3.frame.size, K3.frame.trans (HB3.out.mono K3.frame.size)⟩ | exact ⟨v3, rfl, own_low HO3.out K3.frame.size, K3.frame.trans (HB3.out.mono K3.frame.size)⟩
    ·have HN := Lib.hid (HNX.out (decide_eq_false h3))
     rw [decide_eq_false h3] at HCX
     clear HNX HHT HO h3 HAB HSC HNil HGA
     go_wp2_with fail
     go_region_held3 (fun W => W.cell? ⟨g, 0, none⟩ = some (.string p) ∧ W.cell? ⟨g, 1, none⟩ = some (.string u) ∧ W.cell? ⟨g, 2, none⟩ = some (.int .i64 n) ∧ W.cell? ⟨g, 3, none⟩ = some (.int .i64 1099511627776) ∧ W.cell? ⟨b, off + j * 4, none⟩ = some (.string x.w) ∧ W.cell? ⟨b, off + j * 4 + 1, none⟩ = some (.string x.u) ∧ W.cell? ⟨b, off + j * 4 + 2, none⟩ = some (.int .i64 x.f) ∧ W.cell? ⟨b, off + j * 4 + 3, none⟩ = some (.int .i64 x.t))
      (first | exact HP0.out _ K1 | exact HP0.out _ K3)
      (first | (go_at_call 102; refine (HCX.out _).mono ?_; rintro e w3 ⟨rfl, h3⟩; have K3 := K1.below h3))
     go_wp2
     go_roundw
     case rel => exact ⟨j + 1, by omega, by go_num, HN, K3⟩
     case measure => simp [intOf]; omega
   ·have hje : j = l.length := by omega
    have HP : Hid (IsFirst (fun x => decide (aheadE (mkE p u n) x)) l j) := by rw [hje] at HO ⊢; exact HO.out.miss
    have hlt : decide ((j : Int) < (l.length : Int)) = false := decide_eq_false (by omega)
    clear HAB HSC HO
    go_wp2_with fail
    refine wp_region_held_drew (S := (fun W => W.cell? ⟨g, 0, none⟩ = some (.string p) ∧ W.cell? ⟨g, 1, none⟩ = some (.string u) ∧ W.cell? ⟨g, 2, none⟩ = some (.int .i64 n) ∧ W.cell? ⟨g, 3, none⟩ = some (.int .i64 1099511627776))) (by kernel_rfl) ?_ (fun hHeld => ?_)
    ·exact HSB.out _ (HK.out.below (Below.refl _ _).drew)
    refine tV 0 21 ?_
    refine tV 1 22 ?_
    refine tV 2 23 ?_
    refine tV 3 24 ?_
    refine tV 4 25 ?_
    refine tU 5 26 ?_
    refine tU 6 27 ?_
    refine tU 7 28 ?_
    refine tU 8 29 ?_
    refine tU 9 30 ?_
    refine tU 10 31 ?_
    refine tU 11 32 ?_
    refine tV 12 33 ?_
    refine wpAnyH_done (by kernel_rfl) ?_ _
    have K3 := HK.out.below (Below.refl _ _).drew
    generalize wr.drew = K3W at *
    clear hlt HK
    cases a with
    | none =>
     have hc0 := HNil.out rfl
     have hl0 := K3.row.snil
     subst hc0 hl0
     obtain rfl : j = 0 := by simpa using hje
     obtain ⟨m1, e1⟩ : ∃ m : List EnM, m = [] := ⟨_, rfl⟩
     obtain ⟨m2, e2⟩ : ∃ m : List EnM, m = [] := ⟨_, rfl⟩
     have HL1 : Hid (0 = m1.length) := by unfold Hid; rw [e1]; rfl
     have HL2 : Hid (0 = m2.length) := by unfold Hid; rw [e2]; rfl
     have hk1 : (none : Option Addr) = none → 0 = 0 := fun _ => rfl
     have hk2 : (none : Option Addr) = none → 0 = 0 := fun _ => rfl
     have HS1 : Hid (∀ W, Below K3W.heap.size K3W W → EnSl W (none : Option Addr) m1) := fun W h => by rw [e1]; exact EnSl.nil _ _
     have HS2 : Hid (∀ W, Below K3W.heap.size K3W W → EnSl W (none : Option Addr) m2) := fun W h => by rw [e2]; exact EnSl.nil _ _
     have HGG : Hid (m1 ++ [mkE p u n] ++ m2 = G) := by unfold Hid; rw [e1, e2, HGA.out 0 HP.out]; rfl
     clear e1 e2
     clear HGA HP HNil hje
     have hb1 : m1.length ≤ 500 := by have := HL1.out; omega
     have hb2 : m2.length ≤ 500 := by have := HL2.out; omega
     have HE0 := Lib.hid (eown_empty8 K3W 82 4 K3W.heap.size (Nat.le_refl _))
     have HEB := Lib.hid (ebelow_one K3W (.cells #[] 82))
     have HM1 := Lib.hid (HS1.out _ HEB.out)
     have HMS := Lib.hid HEB.out.size
     go_wp2_with (first | (at_builtin; refine wpList_append_en2 _ rfl (.tmp 36) (.tmp 39) 24 rfl K3W.heap.size 82 i0 _ Tryz.underlying24 hi hz0 hz1 hz2 rfl _ [] rfl HE0.out none 0 m1 0 HL1.out rfl HM1.out hk1 (by simp; omega) HMS.out ?_; intro v1 w4 ho1 hB1; have HO1 := Lib.hid ho1; have HB1 := Lib.hid (HEB.out.trans hB1); have HO1A : Hid ((w4.alloc (.cells #[.string p, .string u, .int .i64 n, .int .i64 1099511627776] 82)).ownsRow K3W.heap.size 82 4 v1 m1.length (ens m1)) := own_below HO1.out (ebelow_one w4 (.cells #[.string p, .string u, .int .i64 n, .int .i64 1099511627776] 82)); have HB1A := Lib.hid (HB1.out.trans ((ebelow_one w4 (.cells #[.string p, .string u, .int .i64 n, .int .i64 1099511627776] 82)).mono HB1.out.size)); have HS1A := Lib.hid HB1A.out.size; clear ho1 hB1; obtain ⟨d0, d1, d2, d3⟩ := HSB.out _ (K3.below HB1.out)) | (at_builtin; refine wpList_append_own _ rfl (.tmp 41) (.tmp 43) 24 rfl K3W.heap.size 82 i0 _ 4 48 Tryz.underlying24 hi hz0 hz1 hz2 rfl (by decide) _ _ _ rfl HO1A.out ⟨w4.heap.size, 0, none⟩ 1 1 [.string p, .string u, .int .i64 n, .int .i64 1099511627776] rfl rfl (news_at _ _ _ _ rfl) (four_e _ _ _ _) (by unfold maxLen; omega) (by omega) HS1A.out ?_; intro v2 w5 ho2 hgrow hiff; have HB2 := Lib.hid (app_below HB1A.out HS1A.out HO1A.out hgrow); have HO2 : Hid (w5.ownsRow K3W.heap.size 82 4 v2 (m1 ++ [mkE p u n]).length (ens (m1 ++ [mkE p u n]))) := own_snoc ho2; clear ho2 hgrow hiff; have HM2 := Lib.hid (HS2.out _ HB2.out); have HMS2 := Lib.hid HB2.out.size) | (at_builtin; refine wpList_append_en2 _ rfl (.tmp 45) (.tmp 48) 24 rfl K3W.heap.size 82 i0 _ Tryz.underlying24 hi hz0 hz1 hz2 rfl _ (m1 ++ [mkE p u n]) rfl HO2.out none 0 m2 0 HL2.out rfl HM2.out hk2 (by simp; omega) HMS2.out ?_; intro v3 w6 ho3 hB3; have HO3 := Lib.hid ho3; have HB3 := Lib.hid (HB2.out.trans hB3); clear ho3 hB3))
     rw [HGG.out] at HO3
     go_ret2
     first | exact Or.inr ⟨by trivial, v3, rfl, own_low HO3.out K3.frame.size, K3.frame.trans (HB3.out.mono K3.frame.size)⟩ | exact ⟨v3, rfl, own_low HO3.out K3.frame.size, K3.frame.trans (HB3.out.mono K3.frame.size)⟩
    | some ad =>
     by_cases hlz : 0 < l.length
     ·obtain ⟨b, off, e, -, -, -, -, -⟩ := K3.row.at_ hlz
      cases e
      by_cases hcj : c = j
      ·subst hje
       subst hcj
       have hz2' : (l.length : Int) ≤ (l.length : Int) := Int.le_refl _
       have hz1' : (0 : Int) ≤ (l.length : Int) := by omega
       obtain ⟨m1, e1⟩ : ∃ m, m = l := ⟨_, rfl⟩
       obtain ⟨m2, e2⟩ : ∃ m : List EnM, m = [] := ⟨_, rfl⟩
       have HL1 : Hid (l.length = m1.length) := by unfold Hid; rw [e1]
       have HL2 : Hid (0 = m2.length) := by unfold Hid; rw [e2]; rfl
       have hk1 : (some ⟨b, off, none⟩ : Option Addr) = none → l.length = 0 := fun h => (by cases h)
       have hk2 : (some ⟨b, off, none⟩ : Option Addr) = none → 0 = 0 := fun h => (by cases h)
       have HS1 : Hid (∀ W, Below K3W.heap.size K3W W → EnSl W (some ⟨b, off, none⟩) m1) := fun W h => by rw [e1]; exact K3.row.below h
       have HS2 : Hid (∀ W, Below K3W.heap.size K3W W → EnSl W (some ⟨b, off, none⟩) m2) := fun W h => by rw [e2]; exact EnSl.nil _ _
       have HGG : Hid (m1 ++ [mkE p u n] ++ m2 = G) := by unfold Hid; rw [e1, e2, HGA.out l.length HP.out, List.take_of_length_le (Nat.le_refl _), List.drop_of_length_le (Nat.le_refl _), List.append_nil]
       clear e1 e2 HGA HP HNil
       have hb1 : m1.length ≤ 500 := by have := HL1.out; omega
       have hb2 : m2.length ≤ 500 := by have := HL2.out; omega
       have HE0 := Lib.hid (eown_empty8 K3W 82 4 K3W.heap.size (Nat.le_refl _))
       have HEB := Lib.hid (ebelow_one K3W (.cells #[] 82))
       have HM1 := Lib.hid (HS1.out _ HEB.out)
       have HMS := Lib.hid HEB.out.size
       go_wp2_with (first | (at_builtin; refine wpList_append_en2 _ rfl (.tmp 36) (.tmp 39) 24 rfl K3W.heap.size 82 i0 _ Tryz.underlying24 hi hz0 hz1 hz2 rfl _ [] rfl HE0.out (some ⟨b, off, none⟩) l.length m1 l.length HL1.out rfl HM1.out hk1 (by simp; omega) HMS.out ?_; intro v1 w4 ho1 hB1; have HO1 := Lib.hid ho1; have HB1 := Lib.hid (HEB.out.trans hB1); have HO1A : Hid ((w4.alloc (.cells #[.string p, .string u, .int .i64 n, .int .i64 1099511627776] 82)).ownsRow K3W.heap.size 82 4 v1 m1.length (ens m1)) := own_below HO1.out (ebelow_one w4 (.cells #[.string p, .string u, .int .i64 n, .int .i64 1099511627776] 82)); have HB1A := Lib.hid (HB1.out.trans ((ebelow_one w4 (.cells #[.string p, .string u, .int .i64 n, .int .i64 1099511627776] 82)).mono HB1.out.size)); have HS1A := Lib.hid HB1A.out.size; clear ho1 hB1; obtain ⟨d0, d1, d2, d3⟩ := HSB.out _ (K3.below HB1.out)) | (at_builtin; refine wpList_append_own _ rfl (.tmp 41) (.tmp 43) 24 rfl K3W.heap.size 82 i0 _ 4 48 Tryz.underlying24 hi hz0 hz1 hz2 rfl (by decide) _ _ _ rfl HO1A.out ⟨w4.heap.size, 0, none⟩ 1 1 [.string p, .string u, .int .i64 n, .int .i64 1099511627776] rfl rfl (news_at _ _ _ _ rfl) (four_e _ _ _ _) (by unfold maxLen; omega) (by omega) HS1A.out ?_; intro v2 w5 ho2 hgrow hiff; have HB2 := Lib.hid (app_below HB1A.out HS1A.out HO1A.out hgrow); have HO2 : Hid (w5.ownsRow K3W.heap.size 82 4 v2 (m1 ++ [mkE p u n]).length (ens (m1 ++ [mkE p u n]))) := own_snoc ho2; clear ho2 hgrow hiff; have HM2 := Lib.hid (HS2.out _ HB2.out); have HMS2 := Lib.hid HB2.out.size) | (at_builtin; refine wpList_append_en2 _ rfl (.tmp 45) (.tmp 48) 24 rfl K3W.heap.size 82 i0 _ Tryz.underlying24 hi hz0 hz1 hz2 rfl _ (m1 ++ [mkE p u n]) rfl HO2.out (some ⟨b, off, none⟩) 0 m2 0 HL2.out rfl HM2.out hk2 (by simp; omega) HMS2.out ?_; intro v3 w6 ho3 hB3; have HO3 := Lib.hid ho3; have HB3 := Lib.hid (HB2.out.trans hB3); clear ho3 hB3))
       rw [HGG.out] at HO3
       go_ret2
       first | exact Or.inr ⟨by trivial, v3, rfl, own_low HO3.out K3.frame.size, K3.frame.trans (HB3.out.mono K3.frame.size)⟩ | exact ⟨v3, rfl, own_low HO3.out K3.frame.size, K3.frame.trans (HB3.out.mono K3.frame.size)⟩
      ·have hcj2 : j < c := by omega
       have hpc : j ≤ c := by omega
       have hz1' : (0 : Int) ≤ (j : Int) := by omega
       have hz2' : (j : Int) ≤ (l.length : Int) := by omega
       have hz3' : (j : Int) ≤ (c : Int) := by omega
       have hz4' : (l.length : Int) ≤ (c : Int) := by omega
       obtain ⟨m1, e1⟩ : ∃ m, m = l.take j := ⟨_, rfl⟩
       obtain ⟨m2, e2⟩ : ∃ m, m = l.drop j := ⟨_, rfl⟩
       have HL1 : Hid (j = m1.length) := by unfold Hid; rw [e1, List.length_take]; omega
       have HL2 : Hid (l.length - j = m2.length) := by unfold Hid; rw [e2, List.length_drop]
       have hk1 : (some ⟨b, off, none⟩ : Option Addr) = none → c = 0 := fun h => (by cases h)
       have hk2 : (some ⟨b, off + j * 4, none⟩ : Option Addr) = none → c - j = 0 := fun h => (by cases h)
       have HS1 : Hid (∀ W, Below K3W.heap.size K3W W → EnSl W (some ⟨b, off, none⟩) m1) := fun W h => by rw [e1]; exact (K3.row.below h).take j
       have HS2 : Hid (∀ W, Below K3W.heap.size K3W W → EnSl W (some ⟨b, off + j * 4, none⟩) m2) := fun W h => by rw [e2]; exact (K3.row.below h).drop j
       have HGG : Hid (m1 ++ [mkE p u n] ++ m2 = G) := by unfold Hid; rw [e1, e2, HGA.out j HP.out, List.append_assoc]; rfl
       clear e1 e2
       clear HGA HP HNil hje
       have hb1 : m1.length ≤ 500 := by have := HL1.out; omega
       have hb2 : m2.length ≤ 500 := by have := HL2.out; omega
       have HE0 := Lib.hid (eown_empty8 K3W 82 4 K3W.heap.size (Nat.le_refl _))
       have HEB := Lib.hid (ebelow_one K3W (.cells #[] 82))
       have HM1 := Lib.hid (HS1.out _ HEB.out)
       have HMS := Lib.hid HEB.out.size
       go_wp2_with (first | (at_builtin; refine wpList_append_en2 _ rfl (.tmp 36) (.tmp 39) 24 rfl K3W.heap.size 82 i0 _ Tryz.underlying24 hi hz0 hz1 hz2 rfl _ [] rfl HE0.out (some ⟨b, off, none⟩) c m1 j HL1.out rfl HM1.out hk1 (by simp; omega) HMS.out ?_; intro v1 w4 ho1 hB1; have HO1 := Lib.hid ho1; have HB1 := Lib.hid (HEB.out.trans hB1); have HO1A : Hid ((w4.alloc (.cells #[.string p, .string u, .int .i64 n, .int .i64 1099511627776] 82)).ownsRow K3W.heap.size 82 4 v1 m1.length (ens m1)) := own_below HO1.out (ebelow_one w4 (.cells #[.string p, .string u, .int .i64 n, .int .i64 1099511627776] 82)); have HB1A := Lib.hid (HB1.out.trans ((ebelow_one w4 (.cells #[.string p, .string u, .int .i64 n, .int .i64 1099511627776] 82)).mono HB1.out.size)); have HS1A := Lib.hid HB1A.out.size; clear ho1 hB1; obtain ⟨d0, d1, d2, d3⟩ := HSB.out _ (K3.below HB1.out)) | (at_builtin; refine wpList_append_own _ rfl (.tmp 41) (.tmp 43) 24 rfl K3W.heap.size 82 i0 _ 4 48 Tryz.underlying24 hi hz0 hz1 hz2 rfl (by decide) _ _ _ rfl HO1A.out ⟨w4.heap.size, 0, none⟩ 1 1 [.string p, .string u, .int .i64 n, .int .i64 1099511627776] rfl rfl (news_at _ _ _ _ rfl) (four_e _ _ _ _) (by unfold maxLen; omega) (by omega) HS1A.out ?_; intro v2 w5 ho2 hgrow hiff; have HB2 := Lib.hid (app_below HB1A.out HS1A.out HO1A.out hgrow); have HO2 : Hid (w5.ownsRow K3W.heap.size 82 4 v2 (m1 ++ [mkE p u n]).length (ens (m1 ++ [mkE p u n]))) := own_snoc ho2; clear ho2 hgrow hiff; have HM2 := Lib.hid (HS2.out _ HB2.out); have HMS2 := Lib.hid HB2.out.size) | (at_builtin; refine wpList_append_en2 _ rfl (.tmp 45) (.tmp 48) 24 rfl K3W.heap.size 82 i0 _ Tryz.underlying24 hi hz0 hz1 hz2 rfl _ (m1 ++ [mkE p u n]) rfl HO2.out (some ⟨b, off + j * 4, none⟩) (c - j) m2 (l.length - j) HL2.out rfl HM2.out hk2 (by simp; omega) HMS2.out ?_; intro v3 w6 ho3 hB3; have HO3 := Lib.hid ho3; have HB3 := Lib.hid (HB2.out.trans hB3); clear ho3 hB3))
       rw [HGG.out] at HO3
       go_ret2
       first | exact Or.inr ⟨by trivial, v3, rfl, own_low HO3.out K3.frame.size, K3.frame.trans (HB3.out.mono K3.frame.size)⟩ | exact ⟨v3, rfl, own_low HO3.out K3.frame.size, K3.frame.trans (HB3.out.mono K3.frame.size)⟩
     ·have hl0 : l = [] := List.eq_nil_of_length_eq_zero (by omega)
      subst hl0
      obtain rfl : j = 0 := by simpa using hje
      have hz : (0 : Int) ≤ (c : Int) := by omega
      by_cases hcp : c = 0
      ·subst hcp
       obtain ⟨m1, e1⟩ : ∃ m : List EnM, m = [] := ⟨_, rfl⟩
       obtain ⟨m2, e2⟩ : ∃ m : List EnM, m = [] := ⟨_, rfl⟩
       have HL1 : Hid (0 = m1.length) := by unfold Hid; rw [e1]; rfl
       have HL2 : Hid (0 = m2.length) := by unfold Hid; rw [e2]; rfl
       have hk1 : (some ad) = none → 0 = 0 := fun h => (by cases h)
       have hk2 : (some ad) = none → 0 = 0 := fun h => (by cases h)
       have HS1 : Hid (∀ W, Below K3W.heap.size K3W W → EnSl W (some ad) m1) := fun W h => by rw [e1]; exact EnSl.nil _ _
       have HS2 : Hid (∀ W, Below K3W.heap.size K3W W → EnSl W (some ad) m2) := fun W h => by rw [e2]; exact EnSl.nil _ _
       have HGG : Hid (m1 ++ [mkE p u n] ++ m2 = G) := by unfold Hid; rw [e1, e2, HGA.out 0 HP.out]; rfl
       clear e1 e2
       clear HGA HP HNil hje
       have hb1 : m1.length ≤ 500 := by have := HL1.out; omega
       have hb2 : m2.length ≤ 500 := by have := HL2.out; omega
       have HE0 := Lib.hid (eown_empty8 K3W 82 4 K3W.heap.size (Nat.le_refl _))
       have HEB := Lib.hid (ebelow_one K3W (.cells #[] 82))
       have HM1 := Lib.hid (HS1.out _ HEB.out)
       have HMS := Lib.hid HEB.out.size
       go_wp2_with (first | (at_builtin; refine wpList_append_en2 _ rfl (.tmp 36) (.tmp 39) 24 rfl K3W.heap.size 82 i0 _ Tryz.underlying24 hi hz0 hz1 hz2 rfl _ [] rfl HE0.out (some ad) 0 m1 0 HL1.out rfl HM1.out hk1 (by simp; omega) HMS.out ?_; intro v1 w4 ho1 hB1; have HO1 := Lib.hid ho1; have HB1 := Lib.hid (HEB.out.trans hB1); have HO1A : Hid ((w4.alloc (.cells #[.string p, .string u, .int .i64 n, .int .i64 1099511627776] 82)).ownsRow K3W.heap.size 82 4 v1 m1.length (ens m1)) := own_below HO1.out (ebelow_one w4 (.cells #[.string p, .string u, .int .i64 n, .int .i64 1099511627776] 82)); have HB1A := Lib.hid (HB1.out.trans ((ebelow_one w4 (.cells #[.string p, .string u, .int .i64 n, .int .i64 1099511627776] 82)).mono HB1.out.size)); have HS1A := Lib.hid HB1A.out.size; clear ho1 hB1; obtain ⟨d0, d1, d2, d3⟩ := HSB.out _ (K3.below HB1.out)) | (at_builtin; refine wpList_append_own _ rfl (.tmp 41) (.tmp 43) 24 rfl K3W.heap.size 82 i0 _ 4 48 Tryz.underlying24 hi hz0 hz1 hz2 rfl (by decide) _ _ _ rfl HO1A.out ⟨w4.heap.size, 0, none⟩ 1 1 [.string p, .string u, .int .i64 n, .int .i64 1099511627776] rfl rfl (news_at _ _ _ _ rfl) (four_e _ _ _ _) (by unfold maxLen; omega) (by omega) HS1A.out ?_; intro v2 w5 ho2 hgrow hiff; have HB2 := Lib.hid (app_below HB1A.out HS1A.out HO1A.out hgrow); have HO2 : Hid (w5.ownsRow K3W.heap.size 82 4 v2 (m1 ++ [mkE p u n]).length (ens (m1 ++ [mkE p u n]))) := own_snoc ho2; clear ho2 hgrow hiff; have HM2 := Lib.hid (HS2.out _ HB2.out); have HMS2 := Lib.hid HB2.out.size) | (at_builtin; refine wpList_append_en2 _ rfl (.tmp 45) (.tmp 48) 24 rfl K3W.heap.size 82 i0 _ Tryz.underlying24 hi hz0 hz1 hz2 rfl _ (m1 ++ [mkE p u n]) rfl HO2.out (some ad) 0 m2 0 HL2.out rfl HM2.out hk2 (by simp; omega) HMS2.out ?_; intro v3 w6 ho3 hB3; have HO3 := Lib.hid ho3; have HB3 := Lib.hid (HB2.out.trans hB3); clear ho3 hB3))
       rw [HGG.out] at HO3
       go_ret2
       first | exact Or.inr ⟨by trivial, v3, rfl, own_low HO3.out K3.frame.size, K3.frame.trans (HB3.out.mono K3.frame.size)⟩ | exact ⟨v3, rfl, own_low HO3.out K3.frame.size, K3.frame.trans (HB3.out.mono K3.frame.size)⟩
      ·have hcp2 : 0 < c := by omega
       obtain ⟨m1, e1⟩ : ∃ m : List EnM, m = [] := ⟨_, rfl⟩
       obtain ⟨m2, e2⟩ : ∃ m : List EnM, m = [] := ⟨_, rfl⟩
       have HL1 : Hid (0 = m1.length) := by unfold Hid; rw [e1]; rfl
       have HL2 : Hid (0 = m2.length) := by unfold Hid; rw [e2]; rfl
       have hk1 : (some ad) = none → c = 0 := fun h => (by cases h)
       have hk2 : (some ad) = none → c = 0 := fun h => (by cases h)
       have HS1 : Hid (∀ W, Below K3W.heap.size K3W W → EnSl W (some ad) m1) := fun W h => by rw [e1]; exact EnSl.nil _ _
       have HS2 : Hid (∀ W, Below K3W.heap.size K3W W → EnSl W (some ad) m2) := fun W h => by rw [e2]; exact EnSl.nil _ _
       have HGG : Hid (m1 ++ [mkE p u n] ++ m2 = G) := by unfold Hid; rw [e1, e2, HGA.out 0 HP.out]; rfl
       clear e1 e2
       clear HGA HP HNil hje
       have hb1 : m1.length ≤ 500 := by have := HL1.out; omega
       have hb2 : m2.length ≤ 500 := by have := HL2.out; omega
       have HE0 := Lib.hid (eown_empty8 K3W 82 4 K3W.heap.size (Nat.le_refl _))
       have HEB := Lib.hid (ebelow_one K3W (.cells #[] 82))
       have HM1 := Lib.hid (HS1.out _ HEB.out)
       have HMS := Lib.hid HEB.out.size
       go_wp2_with (first | (at_builtin; refine wpList_append_en2 _ rfl (.tmp 36) (.tmp 39) 24 rfl K3W.heap.size 82 i0 _ Tryz.underlying24 hi hz0 hz1 hz2 rfl _ [] rfl HE0.out (some ad) c m1 0 HL1.out rfl HM1.out hk1 (by simp; omega) HMS.out ?_; intro v1 w4 ho1 hB1; have HO1 := Lib.hid ho1; have HB1 := Lib.hid (HEB.out.trans hB1); have HO1A : Hid ((w4.alloc (.cells #[.string p, .string u, .int .i64 n, .int .i64 1099511627776] 82)).ownsRow K3W.heap.size 82 4 v1 m1.length (ens m1)) := own_below HO1.out (ebelow_one w4 (.cells #[.string p, .string u, .int .i64 n, .int .i64 1099511627776] 82)); have HB1A := Lib.hid (HB1.out.trans ((ebelow_one w4 (.cells #[.string p, .string u, .int .i64 n, .int .i64 1099511627776] 82)).mono HB1.out.size)); have HS1A := Lib.hid HB1A.out.size; clear ho1 hB1; obtain ⟨d0, d1, d2, d3⟩ := HSB.out _ (K3.below HB1.out)) | (at_builtin; refine wpList_append_own _ rfl (.tmp 41) (.tmp 43) 24 rfl K3W.heap.size 82 i0 _ 4 48 Tryz.underlying24 hi hz0 hz1 hz2 rfl (by decide) _ _ _ rfl HO1A.out ⟨w4.heap.size, 0, none⟩ 1 1 [.string p, .string u, .int .i64 n, .int .i64 1099511627776] rfl rfl (news_at _ _ _ _ rfl) (four_e _ _ _ _) (by unfold maxLen; omega) (by omega) HS1A.out ?_; intro v2 w5 ho2 hgrow hiff; have HB2 := Lib.hid (app_below HB1A.out HS1A.out HO1A.out hgrow); have HO2 : Hid (w5.ownsRow K3W.heap.size 82 4 v2 (m1 ++ [mkE p u n]).length (ens (m1 ++ [mkE p u n]))) := own_snoc ho2; clear ho2 hgrow hiff; have HM2 := Lib.hid (HS2.out _ HB2.out); have HMS2 := Lib.hid HB2.out.size) | (at_builtin; refine wpList_append_en2 _ rfl (.tmp 45) (.tmp 48) 24 rfl K3W.heap.size 82 i0 _ Tryz.underlying24 hi hz0 hz1 hz2 rfl _ (m1 ++ [mkE p u n]) rfl HO2.out (some ad) c m2 0 HL2.out rfl HM2.out hk2 (by simp; omega) HMS2.out ?_; intro v3 w6 ho3 hB3; have HO3 := Lib.hid ho3; have HB3 := Lib.hid (HB2.out.trans hB3); clear ho3 hB3))
       rw [HGG.out] at HO3
       go_ret2
       first | exact Or.inr ⟨by trivial, v3, rfl, own_low HO3.out K3.frame.size, K3.frame.trans (HB3.out.mono K3.frame.size)⟩ | exact ⟨v3, rfl, own_low HO3.out K3.frame.size, K3.frame.trans (HB3.out.mono K3.frame.size)⟩
def cutTo (l : List EnM) (k : Nat) (a : Int) (j : Nat) : List EnM := if j ≤ k then l.take j else cutS (l.take j) k a
theorem cutTo_zero (l : List EnM) (k : Nat) (a : Int) : cutTo l k a 0 = [] := by unfold cutTo; rw [if_pos (Nat.zero_le _)]; rfl
theorem cutTo_all {l : List EnM} {k : Nat} (h : k < l.length) (a : Int) : cutTo l k a l.length = cutS l k a := by
 unfold cutTo
 rw [if_neg (by omega), List.take_of_length_le (Nat.le_refl _)]
theorem cut_snoc {m : List EnM} {x : EnM} {k : Nat} (h : k < m.length) (a : Int) : cutS (m ++ [x]) k a = cutS m k a ++ [x] := by
 rw [cut_at (l := m ++ [x]) (by rw [List.length_append]; omega), cut_at h, List.getElem_append_left h, List.take_append_of_le_length (by omega), List.drop_append_of_le_length (by omega)]
 simp only [List.append_assoc]
theorem cutTo_other {l : List EnM} {k j : Nat} (hj : j < l.length) (hk : k < l.length) (a : Int) (hne : ¬ j = k) : cutTo l k a (j + 1) = cutTo l k a j ++ [l[j]] := by
 unfold cutTo
 by_cases h1 : j ≤ k
 ·rw [if_pos h1, if_pos (by omega), List.take_succ_eq_append_getElem hj]
 ·rw [if_neg h1, if_neg (by omega), List.take_succ_eq_append_getElem hj, cut_snoc (by rw [List.length_take]; omega)]
theorem cutTo_here {l : List EnM} {k : Nat} (hk : k < l.length) (a : Int) : cutTo l k a (k + 1) = cutTo l k a k ++ endS l[k] a := by
 unfold cutTo
 rw [if_pos (Nat.le_refl _), if_neg (by omega), cut_at (by rw [List.length_take]; omega), List.getElem_take, List.take_take, Nat.min_eq_left (by omega), List.drop_of_length_le (by rw [List.length_take]; omega), List.append_nil]
theorem cutTo_len (l : List EnM) (k : Nat) (a : Int) (j : Nat) : (cutTo l k a j).length ≤ j := by
 unfold cutTo
 split
 ·rw [List.length_take]; omega
 ·exact Nat.le_trans (cut_len _ _ _) (by rw [List.length_take]; omega)
set_option maxHeartbeats 8000000 in
theorem refRevoke_any (a : Option Addr) (c : Nat) (l : List EnM) (p u : ByteArray) (n : Int) (w : World) (hr : EnSl w a l) (hl : l.length ≤ 500) :
  Calls Tryz.prog 49 #[.slice a l.length c, pr p u, .int .i64 n] w fun e w' => (l.any (infE p u) = false ∧ e = .returned (.tuple #[.slice none 0 0, .int .i64 91]) ∧ Below w.heap.size w w') ∨
   (l.any (infE p u) = true ∧ ∃ v, e = .returned (.tuple #[v, .int .i64 0]) ∧ w'.ownsRow w.heap.size 82 4 v (revokeS l p u n).length (ens (revokeS l p u n)) ∧ Below w.heap.size w w') := by
 obtain ⟨i0, hi, hz0, hz1, hz2⟩ := info_parts infoEnR
 have HPC := Lib.hid (PK.new hr p u 96)
 have HIF := Lib.hid (fun W (h : EnSl W a l) => force_any a c l p u W h (by omega))
 have HF := first_idx (infE p u) l
 have HREV := fun k (h : IsFirst (infE p u) l k) => revoke_at h n
 unfold pr at *
 generalize hG : revokeS l p u n = G at *
 clear hr hG
 have hany := HF.any
 generalize l.findIdx (infE p u) = k at *
 by_cases hk : k < l.length
 ·rw [decide_eq_true hk] at hany
  rw [hany]
  have hix := idx_hit HF hk
  have HGG := Lib.hid ((HREV k HF).trans (cutTo_all hk n).symm)
  have HZ := Lib.hid (cutTo_zero l k n)
  have HCO := Lib.hid (fun j (hj : j < l.length) (h : ¬ j = k) => cutTo_other hj hk n h)
  have HCH := Lib.hid (cutTo_here hk n)
  have HCL := Lib.hid (cutTo_len l k n)
  rw [hix] at HIF
  have HKL := Lib.hid hk
  clear HREV HF hix hany
  have hd0 : decide ((k : Int) < 0) = false := decide_eq_false (by omega)
  go_enter Tryz.func49, Tryz.ntmps49
  go_wp2_with fail
  refine (HIF.out _ HPC.out.row).mono ?_
  rintro e w1 ⟨rfl, hB⟩
  have K1 := Lib.hid (HPC.out.below hB)
  clear hB HPC HIF
  go_wp2
  go_loopw [9, 10] (fun v i wr => ∃ (j : Nat), j ≤ l.length ∧ i = .int .i64 j ∧ Hid (wr.ownsRow w1.heap.size 82 4 v (cutTo l k n j).length (ens (cutTo l k n j))) ∧ Hid (Below w1.heap.size w1 wr)) (fun _ i _ => l.length - (intOf i).toNat)
  case atStart => exact ⟨0, by omega, rfl, (by unfold Hid; rw [HZ.out]; exact ⟨rfl, .inl ⟨rfl, rfl⟩⟩), Below.refl _ _⟩
  case round =>
   obtain ⟨j, hj, rfl, HO, HB⟩ := hrel
   by_cases hjl : j < l.length
   ·obtain ⟨b, off, rfl, hbl, hc0, hc1, hc2, hc3⟩ := (K1.out.below HB.out).row.at_ hjl
    have HLN := Lib.hid (HCL.out j)
    have HCJ := Lib.hid (HCO.out j hjl)
    have HJK : Hid (∀ h : j = k, l[k] = l[j]) := fun h => by subst h; rfl
    by_cases hjk : j = k
    ·have HC1 : Hid (cutTo l k n (j + 1) = cutTo l k n j ++ endS l[j] n) := by subst hjk; exact HCH.out
     have he1 : ((j : Int) == (k : Int)) = true := beq_iff_eq.2 (by omega)
     have hji : (j : Int) ≤ (k : Int) := by omega
     have hji2 : (k : Int) ≤ (j : Int) := by omega
     generalize l[j] = x at *
     generalize cutTo l k n j = m at *
     by_cases hn : n ≤ x.f
     ·have hd : decide (x.f < n) = false := decide_eq_false (by omega)
      have HC2 : Hid (cutTo l k n (j + 1) = m) := by have := HC1.out; unfold endS at this; rwa [if_pos hn, List.append_nil] at this
      have HO1 := Lib.hid (own_below HO.out (ebelow_one wr (.cells #[.string x.w, .string x.u, .int .i64 x.f, .int .i64 n] 82)))
      have HB1 : Hid (Below w1.heap.size w1 (wr.alloc (.cells #[.string x.w, .string x.u, .int .i64 x.f, .int .i64 n] 82))) := HB.out.trans ((ebelow_one wr _).mono HB.out.size)
      clear HC1 HCJ HJK HCH HCO hjk hn
      go_wp2
      go_roundw
      case rel => exact ⟨j + 1, by omega, by go_num, (by unfold Hid; rw [HC2.out]; exact HO1.out), HB1⟩
      case measure => simp [intOf]; omega
     ·have hd : decide (x.f < n) = true := decide_eq_true (by omega)
      have HC2 : Hid (cutTo l k n (j + 1) = m ++ [⟨x.w, x.u, x.f, n⟩]) := by have := HC1.out; unfold endS at this; rwa [if_neg hn] at this
      clear HC1 HCJ HJK HCH HCO hjk hn
      have HO1 := Lib.hid (own_below HO.out (below_2 wr (.cells #[.string x.w, .string x.u, .int .i64 x.f, .int .i64 n] 82) (.cells #[.string x.w, .string x.u, .int .i64 x.f, .int .i64 n] 82)))
      have HB1 : Hid (Below w1.heap.size w1 ((wr.alloc (.cells #[.string x.w, .string x.u, .int .i64 x.f, .int .i64 n] 82)).alloc (.cells #[.string x.w, .string x.u, .int .i64 x.f, .int .i64 n] 82))) := HB.out.trans ((below_2 wr (.cells #[.string x.w, .string x.u, .int .i64 x.f, .int .i64 n] 82) (.cells #[.string x.w, .string x.u, .int .i64 x.f, .int .i64 n] 82)).mono HB.out.size)
      have HS1 := Lib.hid HB1.out.size
      have hlm := HLN.out
      go_wp2_with (at_builtin; refine wpList_append_own _ rfl (.tmp 42) (.tmp 44) 24 rfl w1.heap.size 82 i0 _ 4 48 Tryz.underlying24 hi hz0 hz1 hz2 rfl (by decide) _ _ _ rfl HO1.out ⟨wr.heap.size + 1, 0, none⟩ 1 1 [.string x.w, .string x.u, .int .i64 x.f, .int .i64 n] rfl rfl (news_at _ _ _ _ (size1 _ _).symm) (four_e _ _ _ _) (by unfold maxLen; omega) (by omega) HS1.out ?_; intro v2 w5 ho2 hgrow hiff)
      have HB2 := Lib.hid (app_below HB1.out HS1.out HO1.out hgrow)
      have HO2 := Lib.hid (own_snoc (x := ⟨x.w, x.u, x.f, n⟩) ho2)
      clear ho2 hgrow hiff HB1 HS1 HO1
      go_wp2
      go_roundw
      case rel => exact ⟨j + 1, by omega, by go_num, (by unfold Hid; rw [HC2.out]; exact HO2.out), HB2⟩
      case measure => simp [intOf]; omega
    ·have HC2 : Hid (cutTo l k n (j + 1) = cutTo l k n j ++ [l[j]]) := HCJ.out hjk
     have he1 : ((j : Int) == (k : Int)) = false := beq_eq_false_iff_ne.2 (by omega)
     have hji : ¬ (j : Int) = (k : Int) := by omega
     generalize l[j] = x at *
     generalize cutTo l k n j = m at *
     clear HCJ HJK HCH HCO hjk
     have HO1 := Lib.hid (own_below HO.out (below_2 wr (.cells #[.string x.w, .string x.u, .int .i64 x.f, .int .i64 x.t] 82) (.cells #[.string x.w, .string x.u, .int .i64 x.f, .int .i64 x.t] 82)))
     have HB1 : Hid (Below w1.heap.size w1 ((wr.alloc (.cells #[.string x.w, .string x.u, .int .i64 x.f, .int .i64 x.t] 82)).alloc (.cells #[.string x.w, .string x.u, .int .i64 x.f, .int .i64 x.t] 82))) := HB.out.trans ((below_2 wr (.cells #[.string x.w, .string x.u, .int .i64 x.f, .int .i64 x.t] 82) (.cells #[.string x.w, .string x.u, .int .i64 x.f, .int .i64 x.t] 82)).mono HB.out.size)
     have HS1 := Lib.hid HB1.out.size
     have hlm := HLN.out
     go_wp2_with (at_builtin; refine wpList_append_own _ rfl (.tmp 42) (.tmp 44) 24 rfl w1.heap.size 82 i0 _ 4 48 Tryz.underlying24 hi hz0 hz1 hz2 rfl (by decide) _ _ _ rfl HO1.out ⟨wr.heap.size + 1, 0, none⟩ 1 1 [.string x.w, .string x.u, .int .i64 x.f, .int .i64 x.t] rfl rfl (news_at _ _ _ _ (size1 _ _).symm) (four_e _ _ _ _) (by unfold maxLen; omega) (by omega) HS1.out ?_; intro v2 w5 ho2 hgrow hiff)
     have HB2 := Lib.hid (app_below HB1.out HS1.out HO1.out hgrow)
     have HO2 := Lib.hid (own_snoc (x := ⟨x.w, x.u, x.f, x.t⟩) ho2)
     clear ho2 hgrow hiff HB1 HS1 HO1
     go_wp2
     go_roundw
     case rel => exact ⟨j + 1, by omega, by go_num, (by unfold Hid; rw [HC2.out]; exact HO2.out), HB2⟩
     case measure => simp [intOf]; omega
   ·obtain rfl : j = l.length := by omega
    rw [← HGG.out] at HO
    go_wp2
    go_ret2
    exact Or.inr ⟨by trivial, _, rfl, own_low HO.out K1.out.frame.size, K1.out.frame.trans (HB.out.mono K1.out.frame.size)⟩
 ·rw [decide_eq_false hk] at hany
  rw [hany]
  have hix : idxI (infE p u) l = -1 := by
   obtain rfl : k = l.length := Nat.le_antisymm HF.le (by omega)
   exact idx_miss HF
  rw [hix] at HIF
  clear HREV HF hix hany hk
  go_enter Tryz.func49, Tryz.ntmps49
  go_wp2_with fail
  refine (HIF.out _ HPC.out.row).mono ?_
  rintro e w1 ⟨rfl, hB⟩
  have K1 := Lib.hid (HPC.out.below hB)
  go_wp2
  go_ret2
  exact Or.inl ⟨by trivial, rfl, K1.out.frame⟩
end Go.Proofs.YtjhdhfokhkcamaaGreat
namespace Go.Proofs.YtjhdhfokhkcamaaGreat
open Go.RowKit Go.Proofs
set_option linter.unusedVariables false
set_option maxRecDepth 100000
theorem ofU_hit {D : List UsL} {u : ByteArray} {j : Nat} (hj : j < D.length) (hlow : ∀ i (h : i < D.length), i < j → (D[i]).u ≠ u) (he : (D[j]).u = u) : ofU (umS D) u = (D[j]).l := by
 unfold ofU
 have hj2 : j < (umS D).length := by rw [umS_len]; exact hj
 have h1 : (umS D).find? (isKy UsM.u u) = some ((umS D)[j]) := by
  rw [List.find?_eq_some_iff_getElem]
  refine ⟨by unfold isKy; rw [decide_eq_true_iff]; simpa [umS, UsL.m] using he, j, hj2, rfl, fun i hi => ?_⟩
  have := hlow i (by omega) hi
  have h2 : i < (umS D).length := by omega
  unfold isKy
  simp [umS, UsL.m, this]
 rw [h1]
 simp [umS, UsL.m]
theorem ofU_miss {D : List UsL} {u : ByteArray} (hlow : ∀ i (h : i < D.length), (D[i]).u ≠ u) : ofU (umS D) u = [] := by
 unfold ofU
 have h1 : (umS D).find? (isKy UsM.u u) = none := by
  rw [List.find?_eq_none]
  intro x hx
  obtain ⟨y, hy, rfl⟩ := List.mem_map.1 hx
  obtain ⟨i, hi, rfl⟩ := List.getElem_of_mem hy
  have := hlow i hi
  unfold isKy
  simp [UsL.m, this]
 rw [h1]
set_option maxHeartbeats 4000000 in
theorem rof_any (x : SaL) (u : ByteArray) (w : World) (h : SaAt w x) (hl : x.us.length ≤ 100000) :
  Calls Tryz.prog 92 #[saV x, .string u] w fun e w' => ∃ a c, e = .returned (.slice a (ofU x.m.us u).length c) ∧ StSl w' a (ofU x.m.us u) ∧ Cp a (ofU x.m.us u).length c ∧ Below w.heap.size w w' := by
 have S0 := SB.new (Below.refl w.heap.size w) h 27
 obtain ⟨c0, c1, c2, c3, c4, c5⟩ := S0.cells
 have HU := Lib.hid S0.at_.us
 have HFR := Lib.hid S0.frame
 have HM : Hid (x.m.us = umS x.us) := rfl
 rw [show x.m.us = umS x.us from rfl]
 unfold saV saC at *
 clear h S0
 obtain ⟨now, hor, oa, op, oc, ua, us, uc, sa, su, sc, ta, tb, tc⟩ := x
 dsimp only at *
 go_enter Tryz.func92, Tryz.ntmps92
 go_wp2
 go_loopw [5] (fun i wr => ∃ (j : Nat), j ≤ us.length ∧ i = .int .i64 j ∧ Hid (∀ i (h : i < us.length), i < j → (us[i]).u ≠ u) ∧ wr = w.alloc (.cells #[.int .i64 now, .int .i64 hor, .slice oa op.length oc, .slice ua us.length uc, .slice sa su.length sc, .slice ta tb.length tc] 27)) (fun i _ => us.length - (intOf i).toNat)
 case atStart => exact ⟨0, by omega, rfl, (fun i h hi => by omega), rfl⟩
 case round =>
  obtain ⟨j, hj, rfl, HLO, rfl⟩ := hrel
  by_cases hjl : j < us.length
  ·obtain ⟨b, off, rfl, hbl, r0, r1, hat⟩ := HU.out.get hjl
   by_cases he : (us[j]).u = u
   ·have HX := Lib.hid (ofU_hit hjl HLO.out he)
    have HA := Lib.hid hat
    clear HLO HM hat
    generalize us[j] = y at *
    have he1 := txt_eq y.u
    subst he
    go_wp2
    go_ret
    exact ⟨y.a, y.c, by rw [HX.out]; rfl, by rw [HX.out]; exact HA.out.st, by rw [HX.out]; exact ⟨HA.out.le, HA.out.mx, HA.out.nil⟩, HFR.out⟩
   ·have heq := txt_ne he
    have HN : Hid (∀ i (h : i < us.length), i < j + 1 → (us[i]).u ≠ u) := fun i h hi => by
     by_cases hij : i = j
     ·subst hij; exact he
     ·exact HLO.out i h (by omega)
    clear HLO HM hat he
    generalize us[j] = y at *
    go_wp2
    go_roundw
    case rel => exact ⟨j + 1, by omega, by go_num, HN, by first | rfl | trivial⟩
    case measure => simp [intOf]; omega
  ·obtain rfl : j = us.length := by omega
   have HX := Lib.hid (ofU_miss (D := us) (u := u) (fun i h => HLO.out i h h))
   go_wp2
   go_ret
   exact ⟨none, 0, by rw [HX.out]; rfl, by rw [HX.out]; exact StSl.nil _ _, by rw [HX.out]; exact Cp.none, HFR.out⟩
end Go.Proofs.YtjhdhfokhkcamaaGreat
