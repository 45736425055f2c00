/- Texts of mine, one behind the other, of each what is wanted. -/
import Derived.Test.YtmfpjapiijgdgaaGreatQ00
import Derived.Test.YtmfpjapiijgdgaaGreatShelf
import Derived.Test.YtmfpjapiijgdgaaGreatRows
import Derived.Test.YtmfpjapiijgdgaaGreatQ01
import Derived.Test.YtmfpjapiijgdgaaGreatQ05
import Derived.Test.YtmfpjapiijgdgaaGreatQ06
import Derived.Test.YtmfpjapiijgdgaaGreatQ17
import Derived.Test.YtmfpjapiijgdgaaGreatQ22
import Derived.Test.YtmfpjapiijgdgaaGreatQ23
import Derived.Test.YtmfpjapiijgdgaaGreatQ27
import Derived.Test.YtmfpjapiijgdgaaGreatTQ
namespace Go.Proofs.YtmfpjapiijgdgaaGreat
open Go.RowKit
set_option linter.unusedVariables false
set_option maxRecDepth 100000
set_option maxRecDepth 100000
set_option maxHeartbeats 2000000 in
theorem rwithout_any (a : Option Addr) (c : Nat) (l : List EnM) (s : ByteArray) (w : World) (hr : EnSl w a l) (hl : l.length ≤ 100000) :
  Calls Tryz.prog 149 #[.slice a l.length c, (.string s)] w fun e w' => ∃ v, e = .returned v ∧ w'.ownsRow w.heap.size 135 4 v (l.filter (wiE s)).length (ens (l.filter (wiE s))) ∧ Below w.heap.size w w' := by
 obtain ⟨i0, hi, hz0, hz1, hz2⟩ := info_parts infoEnR
 have HR := Lib.hid hr
 clear hr
 go_enter Tryz.func149, Tryz.ntmps149
 go_wp2
 go_loopw [5, 6] (fun v i wr => ∃ (j : Nat), j ≤ l.length ∧ i = .int .i64 j ∧ Hid (wr.ownsRow w.heap.size 135 4 v ((l.take j).filter (wiE s)).length (ens ((l.take j).filter (wiE s)))) ∧ Hid (Below w.heap.size w wr)) (fun _ i _ => l.length - (intOf i).toNat)
 case atStart => exact ⟨0, by omega, rfl, ⟨rfl, .inl ⟨rfl, rfl⟩⟩, Below.refl _ _⟩
 case round =>
  obtain ⟨j, hj, rfl, HO, HB⟩ := hrel
  by_cases hjl : j < l.length
  ·obtain ⟨b, off, rfl, hbl, hc0, hc1, hc2, hc3⟩ := (HR.out.below HB.out).at_ hjl
   have HT := Lib.hid (fil_take (wiE s) l j hjl)
   have HLN := Lib.hid (fil_len (wiE s) l j)
   generalize l[j] = x at *
   generalize (l.take j).filter (wiE s) = m at *
   have HTT : Hid (wiE s x = true → (l.take (j + 1)).filter (wiE s) = m ++ [x]) := fun hq => by have := HT.out; rwa [if_pos hq] at this
   have HTF : Hid (wiE s x = false → (l.take (j + 1)).filter (wiE s) = m) := fun hq => by have := HT.out; rwa [if_neg (by rw [hq]; exact Bool.false_ne_true), List.append_nil] at this
   clear HT
   by_cases h1 : x.w = s
   ·have HC2 := Lib.hid (HTF.out (by unfold wiE; rw [decide_eq_false (fun h => h h1)]; rfl))
    have e1 : (x.w.toList == s.toList) = true := by rw [h1]; exact str_eq s
    clear HTT HTF h1
    go_wp2
    go_roundw
    case rel => exact ⟨j + 1, by omega, by go_num, (by unfold Hid; rw [HC2.out]; exact HO.out), HB⟩
    case measure => simp [intOf]; omega
   ·have e1 := str_ne h1
    by_cases h2 : x.u = s
    ·have HC2 := Lib.hid (HTF.out (by unfold wiE; rw [decide_eq_false (show ¬ x.u ≠ s from fun h => h h2)]; exact Bool.and_false _))
     have e2 : (x.u.toList == s.toList) = true := by rw [h2]; exact str_eq s
     clear HTT HTF h1 h2
     go_wp2
     go_roundw
     case rel => exact ⟨j + 1, by omega, by go_num, (by unfold Hid; rw [HC2.out]; exact HO.out), HB⟩
     case measure => simp [intOf]; omega
    ·have HC2 := Lib.hid (HTT.out (by unfold wiE; rw [decide_eq_true h1, decide_eq_true h2]; rfl))
     have e2 := str_ne h2
     clear HTT HTF h1 h2
     have HO2 := Lib.hid (own_below HO.out (ebelow_one wr (.cells #[.string x.w, .string x.u, .int .i64 x.f, .int .i64 x.t] 135)))
     have HB2 : Hid (Below w.heap.size w (wr.alloc (.cells #[.string x.w, .string x.u, .int .i64 x.f, .int .i64 x.t] 135))) := HB.out.trans ((ebelow_one wr _).mono HB.out.size)
     have HS2 := Lib.hid HB2.out.size
     have hlm := HLN.out
     go_wp2_with (at_builtin; refine wpList_append_own _ rfl (.tmp 29) (.tmp 34) 24 rfl w.heap.size 135 i0 _ 4 48 Tryz.underlying24 hi hz0 hz1 hz2 rfl (by decide) _ _ _ rfl HO2.out ⟨wr.heap.size, 0, none⟩ 1 1 [.string x.w, .string x.u, .int .i64 x.f, .int .i64 x.t] rfl rfl (news_at _ _ _ _ rfl) (four_e _ _ _ _) (by unfold maxLen; omega) (by omega) HS2.out ?_; intro v' w3 hown' hgrow hiff)
     have HB3 := Lib.hid (app_below HB2.out HS2.out HO2.out hgrow)
     have HO3 := Lib.hid hown'
     clear hown' hgrow hiff HB2 HS2 HO2
     go_wp2
     go_roundw
     case rel => exact ⟨j + 1, by omega, by go_num, (by unfold Hid; rw [HC2.out, List.length_append, ens_snoc]; exact HO3.out), HB3⟩
     case measure => simp [intOf]; omega
  ·obtain rfl : j = l.length := by omega
   rw [List.take_of_length_le (Nat.le_refl _)] at HO
   go_wp2
   go_ret
   exact ⟨_, rfl, HO.out, HB.out⟩
end Go.Proofs.YtmfpjapiijgdgaaGreat
namespace Go.Proofs.YtmfpjapiijgdgaaGreat
open Go.RowKit Go.Proofs
set_option linter.unusedVariables false
set_option maxRecDepth 100000
set_option maxRecDepth 100000
theorem wpList_append_en2 {P : Program} (w : World) {ops : Array Oper} {rest : List Oper} {o : Oper} {a : Act} {Q : Exit → Act → World → Prop} (hgd : o.guard = none) (s x : Operand) (t : TypeId)
  (ho : o.op = .call { callee := .builtin .append, args := #[s, x], argTypes := #[t, t] })
  (base : Nat) (e : TypeId) (i : TypeInfo) (z : Value) (ht : P.underlying t = some (.slice e)) (hi : P.info? e = some i) (hz : i.zero = some z)
  (hsize : i.size = 4) (hby : i.bytes = 48) (hzs : z.cells.size = 4)
  (v : Value) (l : List EnM) (hs : a.eval s = v) (hown : w.ownsRow base e 4 v l.length (ens l))
  (A : Option Addr) (c : Nat) (m : List EnM) (n : Nat) (hn : n = m.length) (hx : a.eval x = .slice A n c) (hsl : EnSl w A m) (hnil : A = none → c = 0)
  (hlen : l.length + m.length ≤ 1000000) (hbase : base ≤ w.heap.size)
  (h : ∀ v' w', w'.ownsRow base e 4 v' (l ++ m).length (ens (l ++ m)) → Below base w w' → wpList P ops Q rest (a.put o.dst v') w') : wpList P ops Q (o :: rest) a w := by
 subst hn
 exact wpList_append_en w hgd s x t ho base e i z ht hi hz hsize hby hzs v l hs hown A c m hx hsl hnil hlen hbase h
theorem own_snoc {w : World} {B : Nat} {e : TypeId} {v : Value} {m : List EnM} {x : EnM} (h : w.ownsRow B e 4 v (m.length + 1) (ens m ++ [.string x.w, .string x.u, .int .i64 x.f, .int .i64 x.t])) : w.ownsRow B e 4 v (m ++ [x]).length (ens (m ++ [x])) := by
 rw [List.length_append, ens_snoc]
 exact h
set_option maxHeartbeats 8000000 in
theorem refGrant_any (a : Option Addr) (c : Nat) (l : List EnM) (p u : ByteArray) (n : Int) (w : World) (hr : EnSl w a l) (hsz : SzE l) (hsp : p.size ≤ maxLen) (hsu : u.size ≤ maxLen) (hn : a = none → c = 0) (hl : l.length ≤ 500) (hc : l.length ≤ c) (hcm : c ≤ maxLen) :
  Calls Tryz.prog 146 #[.slice a l.length c, pr p u, .int .i64 n] w fun e w' => (l.any (infE p u) = true ∧ e = .returned (.tuple #[.slice none 0 0, .int .i64 90]) ∧ Below w.heap.size w w') ∨
   (l.any (infE p u) = false ∧ ∃ v, e = .returned (.tuple #[v, .int .i64 0]) ∧ w'.ownsRow w.heap.size 135 4 v (grantS l (mkE p u n)).length (ens (grantS l (mkE p u n))) ∧ Below w.heap.size w w') := by
 obtain ⟨i0, hi, hz0, hz1, hz2⟩ := info_parts infoEnR
 have HPC := Lib.hid (PK.new hr p u 97)
 have HIF := Lib.hid (fun W (h : EnSl W a l) => force_any a c l p u W h (by omega))
 have HAB : Hid (∀ (x : EnM) (_ : x ∈ l) W, Calls Tryz.prog 137 #[.agg #[.string p, .string u, .int .i64 n, .int .i64 1099511627776], .agg #[.string x.w, .string x.u, .int .i64 x.f, .int .i64 x.t]] W fun e w' => e = .returned (.bool (decide (aheadE (mkE p u n) x))) ∧ Below W.heap.size W w') := fun x hx W => eahead_any (mkE p u n) x W hsp hsu (hsz x hx).1 (hsz x hx).2
 have HNil := Lib.hid hn
 have HGA := Lib.hid (fun k (h : IsFirst (fun x => decide (aheadE (mkE p u n) x)) l k) => grant_at h)
 have HDA := idx_any (infE p u) l
 unfold maxLen at hcm
 unfold pr at *
 generalize hG : grantS l (mkE p u n) = G at *
 generalize idxI (infE p u) l = ix at *
 clear hr hn hG hsz hsp hsu
 cases hi2 : l.any (infE p u) with
 | true =>
  rw [hi2] at HDA
  go_enter Tryz.func146, Tryz.ntmps146
  go_wp2_with fail
  refine (HIF.out _ HPC.out.row).mono ?_
  rintro e w1 ⟨rfl, hB⟩
  have K1 := Lib.hid (HPC.out.below hB)
  go_wp2
  go_ret2
  exact Or.inl ⟨by trivial, rfl, K1.out.frame⟩
 | false =>
  rw [hi2] at HDA
  go_enter Tryz.func146, Tryz.ntmps146
  go_wp2_with fail
  refine (HIF.out _ HPC.out.row).mono ?_
  rintro e w1 ⟨rfl, hB⟩
  have K1 := Lib.hid (HPC.out.below hB)
  obtain ⟨c0, c1, -⟩ := K1.out.pc
  have HK0 : Hid (RsE w w1.heap.size (mkE p u n) a l (w1.alloc (.cells #[.string p, .string u, .int .i64 n, .int .i64 1099511627776] 135))) := RsE.new (x := mkE p u n) K1.out.row K1.out.frame 135
  have HSB : Hid (∀ W, RsE w w1.heap.size (mkE p u n) a l W → W.cell? ⟨w1.heap.size, 0, none⟩ = some (.string p) ∧ W.cell? ⟨w1.heap.size, 1, none⟩ = some (.string u) ∧ W.cell? ⟨w1.heap.size, 2, none⟩ = some (.int .i64 n) ∧ W.cell? ⟨w1.heap.size, 3, none⟩ = some (.int .i64 1099511627776)) := fun W h => h.box
  have HSC : Hid (∀ b off j (hj : j < l.length) W, a = some ⟨b, off, none⟩ → RsE w w1.heap.size (mkE p u n) a l W → W.cell? ⟨w1.heap.size, 0, none⟩ = some (.string p) ∧ W.cell? ⟨w1.heap.size, 1, none⟩ = some (.string u) ∧ W.cell? ⟨w1.heap.size, 2, none⟩ = some (.int .i64 n) ∧ W.cell? ⟨w1.heap.size, 3, none⟩ = some (.int .i64 1099511627776) ∧ W.cell? ⟨b, off + j * 4, none⟩ = some (.string l[j].w) ∧ W.cell? ⟨b, off + j * 4 + 1, none⟩ = some (.string l[j].u) ∧ W.cell? ⟨b, off + j * 4 + 2, none⟩ = some (.int .i64 l[j].f) ∧ W.cell? ⟨b, off + j * 4 + 3, none⟩ = some (.int .i64 l[j].t)) := fun b off j hj W e h => by subst e; exact h.at_ hj
  clear hB HPC HIF
  go_wp2
  generalize w1.heap.size = g at *
  go_loopw [9] (fun i wr => ∃ (j : Nat), j ≤ l.length ∧ i = .int .i64 j ∧ Hid (LowTo (fun x => decide (aheadE (mkE p u n) x)) l j) ∧ Hid (RsE w g (mkE p u n) a l wr)) (fun i _ => l.length - (intOf i).toNat)
  case atStart => exact ⟨0, by omega, rfl, fun k _ h => absurd h (by omega), HK0.out⟩
  case round =>
   clear K1 HK0 c0 c1 HDA
   obtain ⟨j, hj, rfl, HO, HK⟩ := hrel
   by_cases hjl : j < l.length
   ·obtain ⟨b, off, rfl, -, -, -, -, -⟩ := HK.out.row.at_ hjl
    have HNX := Lib.hid (HO.out.next hjl)
    have HHT := Lib.hid (HO.out.hit hjl)
    have HP0 : Hid (∀ W, RsE w g (mkE p u n) (some ⟨b, off, none⟩) l W → W.cell? ⟨g, 0, none⟩ = some (.string p) ∧ W.cell? ⟨g, 1, none⟩ = some (.string u) ∧ W.cell? ⟨g, 2, none⟩ = some (.int .i64 n) ∧ W.cell? ⟨g, 3, none⟩ = some (.int .i64 1099511627776) ∧ W.cell? ⟨b, off + j * 4, none⟩ = some (.string l[j].w) ∧ W.cell? ⟨b, off + j * 4 + 1, none⟩ = some (.string l[j].u) ∧ W.cell? ⟨b, off + j * 4 + 2, none⟩ = some (.int .i64 l[j].f) ∧ W.cell? ⟨b, off + j * 4 + 3, none⟩ = some (.int .i64 l[j].t)) := fun W h => HSC.out b off j hjl W rfl h
    have HCX := Lib.hid (HAB.out l[j] (List.getElem_mem hjl))
    have K1 := HK.out.below (Below.refl _ _).drew
    generalize l[j] = x at *
    by_cases h3 : aheadE (mkE p u n) x
    ·have HP := Lib.hid (HHT.out (decide_eq_true h3))
     rw [decide_eq_true h3] at HCX
     clear HNX HHT HO h3 HAB HSC HNil
     go_wp2_with fail
     go_region_held3 (fun W => W.cell? ⟨g, 0, none⟩ = some (.string p) ∧ W.cell? ⟨g, 1, none⟩ = some (.string u) ∧ W.cell? ⟨g, 2, none⟩ = some (.int .i64 n) ∧ W.cell? ⟨g, 3, none⟩ = some (.int .i64 1099511627776) ∧ W.cell? ⟨b, off + j * 4, none⟩ = some (.string x.w) ∧ W.cell? ⟨b, off + j * 4 + 1, none⟩ = some (.string x.u) ∧ W.cell? ⟨b, off + j * 4 + 2, none⟩ = some (.int .i64 x.f) ∧ W.cell? ⟨b, off + j * 4 + 3, none⟩ = some (.int .i64 x.t))
      (first | exact HP0.out _ K1 | exact HP0.out _ K3)
      (first | (go_at_call 137; refine (HCX.out _).mono ?_; rintro e K3W ⟨rfl, h3⟩; have K3 := K1.below h3))
     have hcj : ¬ c = j := by omega
     have hcj2 : j < c := by omega
     clear h3 K1 HCX
     have hpc : j ≤ c := by omega
     have hz1' : (0 : Int) ≤ (j : Int) := by omega
     have hz2' : (j : Int) ≤ (l.length : Int) := by omega
     have hz3' : (j : Int) ≤ (c : Int) := by omega
     have hz4' : (l.length : Int) ≤ (c : Int) := by omega
     obtain ⟨m1, e1⟩ : ∃ m, m = l.take j := ⟨_, rfl⟩
     obtain ⟨m2, e2⟩ : ∃ m, m = l.drop j := ⟨_, rfl⟩
     have HL1 : Hid (j = m1.length) := by unfold Hid; rw [e1, List.length_take]; omega
     have HL2 : Hid (l.length - j = m2.length) := by unfold Hid; rw [e2, List.length_drop]
     have hk1 : (some ⟨b, off, none⟩ : Option Addr) = none → c = 0 := fun h => (by cases h)
     have hk2 : (some ⟨b, off + j * 4, none⟩ : Option Addr) = none → c - j = 0 := fun h => (by cases h)
     have HS1 : Hid (∀ W, Below K3W.heap.size K3W W → EnSl W (some ⟨b, off, none⟩) m1) := fun W h => by rw [e1]; exact (K3.row.below h).take j
     have HS2 : Hid (∀ W, Below K3W.heap.size K3W W → EnSl W (some ⟨b, off + j * 4, none⟩) m2) := fun W h => by rw [e2]; exact (K3.row.below h).drop j
     have HGG : Hid (m1 ++ [mkE p u n] ++ m2 = G) := by unfold Hid; rw [e1, e2, HGA.out j HP.out, List.append_assoc]; rfl
     clear e1 e2
     clear HGA HP HP0 HK
     have hb1 : m1.length ≤ 500 := by have := HL1.out; omega
     have hb2 : m2.length ≤ 500 := by have := HL2.out; omega
     have HE0 := Lib.hid (eown_empty8 K3W 135 4 K3W.heap.size (Nat.le_refl _))
     have HEB := Lib.hid (ebelow_one K3W (.cells #[] 135))
     have HM1 := Lib.hid (HS1.out _ HEB.out)
     have HMS := Lib.hid HEB.out.size
     go_wp2_with (first | (at_builtin; refine wpList_append_en2 _ rfl (.tmp 36) (.tmp 39) 24 rfl K3W.heap.size 135 i0 _ Tryz.underlying24 hi hz0 hz1 hz2 rfl _ [] rfl HE0.out (some ⟨b, off, none⟩) c m1 j HL1.out rfl HM1.out hk1 (by simp; omega) HMS.out ?_; intro v1 w4 ho1 hB1; have HO1 := Lib.hid ho1; have HB1 := Lib.hid (HEB.out.trans hB1); have HO1A : Hid ((w4.alloc (.cells #[.string p, .string u, .int .i64 n, .int .i64 1099511627776] 135)).ownsRow K3W.heap.size 135 4 v1 m1.length (ens m1)) := own_below HO1.out (ebelow_one w4 (.cells #[.string p, .string u, .int .i64 n, .int .i64 1099511627776] 135)); have HB1A := Lib.hid (HB1.out.trans ((ebelow_one w4 (.cells #[.string p, .string u, .int .i64 n, .int .i64 1099511627776] 135)).mono HB1.out.size)); have HS1A := Lib.hid HB1A.out.size; clear ho1 hB1; obtain ⟨d0, d1, d2, d3⟩ := HSB.out _ (K3.below HB1.out)) | (at_builtin; refine wpList_append_own _ rfl (.tmp 41) (.tmp 43) 24 rfl K3W.heap.size 135 i0 _ 4 48 Tryz.underlying24 hi hz0 hz1 hz2 rfl (by decide) _ _ _ rfl HO1A.out ⟨w4.heap.size, 0, none⟩ 1 1 [.string p, .string u, .int .i64 n, .int .i64 1099511627776] rfl rfl (news_at _ _ _ _ rfl) (four_e _ _ _ _) (by unfold maxLen; omega) (by omega) HS1A.out ?_; intro v2 w5 ho2 hgrow hiff; have HB2 := Lib.hid (app_below HB1A.out HS1A.out HO1A.out hgrow); have HO2 : Hid (w5.ownsRow K3W.heap.size 135 4 v2 (m1 ++ [mkE p u n]).length (ens (m1 ++ [mkE p u n]))) := own_snoc ho2; clear ho2 hgrow hiff; have HM2 := Lib.hid (HS2.out _ HB2.out); have HMS2 := Lib.hid HB2.out.size) | (at_builtin; refine wpList_append_en2 _ rfl (.tmp 45) (.tmp 48) 24 rfl K3W.heap.size 135 i0 _ Tryz.underlying24 hi hz0 hz1 hz2 rfl _ (m1 ++ [mkE p u n]) rfl HO2.out (some ⟨b, off + j * 4, none⟩) (c - j) m2 (l.length - j) HL2.out rfl HM2.out hk2 (by simp; omega) HMS2.out ?_; intro v3 w6 ho3 hB3; have HO3 := Lib.hid ho3; have HB3 := Lib.hid (HB2.out.trans hB3); clear ho3 hB3))
     rw [HGG.out] at HO3
     go_ret2
     first | exact Or.inr ⟨by trivial, v3, rfl, own_low HO3.out K3.frame.size, K3.frame.trans (HB3.out.mono K3.frame.size)⟩ | exact ⟨v3, rfl, own_low HO3.out K3.frame.size, K3.frame.trans (HB3.out.mono K3.frame.size)⟩
    ·have HN := Lib.hid (HNX.out (decide_eq_false h3))
     rw [decide_eq_false h3] at HCX
     clear HNX HHT HO h3 HAB HSC HNil HGA
     go_wp2_with fail
     go_region_held3 (fun W => W.cell? ⟨g, 0, none⟩ = some (.string p) ∧ W.cell? ⟨g, 1, none⟩ = some (.string u) ∧ W.cell? ⟨g, 2, none⟩ = some (.int .i64 n) ∧ W.cell? ⟨g, 3, none⟩ = some (.int .i64 1099511627776) ∧ W.cell? ⟨b, off + j * 4, none⟩ = some (.string x.w) ∧ W.cell? ⟨b, off + j * 4 + 1, none⟩ = some (.string x.u) ∧ W.cell? ⟨b, off + j * 4 + 2, none⟩ = some (.int .i64 x.f) ∧ W.cell? ⟨b, off + j * 4 + 3, none⟩ = some (.int .i64 x.t))
      (first | exact HP0.out _ K1 | exact HP0.out _ K3)
      (first | (go_at_call 137; refine (HCX.out _).mono ?_; rintro e w3 ⟨rfl, h3⟩; have K3 := K1.below h3))
     go_wp2
     go_roundw
     case rel => exact ⟨j + 1, by omega, by go_num, HN, K3⟩
     case measure => simp [intOf]; omega
   ·have hje : j = l.length := by omega
    have HP : Hid (IsFirst (fun x => decide (aheadE (mkE p u n) x)) l j) := by rw [hje] at HO ⊢; exact HO.out.miss
    have hlt : decide ((j : Int) < (l.length : Int)) = false := decide_eq_false (by omega)
    clear HAB HSC HO
    go_wp2_with fail
    refine wp_region_held_drew (S := (fun W => W.cell? ⟨g, 0, none⟩ = some (.string p) ∧ W.cell? ⟨g, 1, none⟩ = some (.string u) ∧ W.cell? ⟨g, 2, none⟩ = some (.int .i64 n) ∧ W.cell? ⟨g, 3, none⟩ = some (.int .i64 1099511627776))) (by kernel_rfl) ?_ (fun hHeld => ?_)
    ·exact HSB.out _ (HK.out.below (Below.refl _ _).drew)
    refine tV 0 21 ?_
    refine tV 1 22 ?_
    refine tV 2 23 ?_
    refine tV 3 24 ?_
    refine tV 4 25 ?_
    refine tU 5 26 ?_
    refine tU 6 27 ?_
    refine tU 7 28 ?_
    refine tU 8 29 ?_
    refine tU 9 30 ?_
    refine tU 10 31 ?_
    refine tU 11 32 ?_
    refine tV 12 33 ?_
    refine wpAnyH_done (by kernel_rfl) ?_ _
    have K3 := HK.out.below (Below.refl _ _).drew
    generalize wr.drew = K3W at *
    clear hlt HK
    cases a with
    | none =>
     have hc0 := HNil.out rfl
     have hl0 := K3.row.snil
     subst hc0 hl0
     obtain rfl : j = 0 := by simpa using hje
     obtain ⟨m1, e1⟩ : ∃ m : List EnM, m = [] := ⟨_, rfl⟩
     obtain ⟨m2, e2⟩ : ∃ m : List EnM, m = [] := ⟨_, rfl⟩
     have HL1 : Hid (0 = m1.length) := by unfold Hid; rw [e1]; rfl
     have HL2 : Hid (0 = m2.length) := by unfold Hid; rw [e2]; rfl
     have hk1 : (none : Option Addr) = none → 0 = 0 := fun _ => rfl
     have hk2 : (none : Option Addr) = none → 0 = 0 := fun _ => rfl
     have HS1 : Hid (∀ W, Below K3W.heap.size K3W W → EnSl W (none : Option Addr) m1) := fun W h => by rw [e1]; exact EnSl.nil _ _
     have HS2 : Hid (∀ W, Below K3W.heap.size K3W W → EnSl W (none : Option Addr) m2) := fun W h => by rw [e2]; exact EnSl.nil _ _
     have HGG : Hid (m1 ++ [mkE p u n] ++ m2 = G) := by unfold Hid; rw [e1, e2, HGA.out 0 HP.out]; rfl
     clear e1 e2
     clear HGA HP HNil hje
     have hb1 : m1.length ≤ 500 := by have := HL1.out; omega
     have hb2 : m2.length ≤ 500 := by have := HL2.out; omega
     have HE0 := Lib.hid (eown_empty8 K3W 135 4 K3W.heap.size (Nat.le_refl _))
     have HEB := Lib.hid (ebelow_one K3W (.cells #[] 135))
     have HM1 := Lib.hid (HS1.out _ HEB.out)
     have HMS := Lib.hid HEB.out.size
     go_wp2_with (first | (at_builtin; refine wpList_append_en2 _ rfl (.tmp 36) (.tmp 39) 24 rfl K3W.heap.size 135 i0 _ Tryz.underlying24 hi hz0 hz1 hz2 rfl _ [] rfl HE0.out none 0 m1 0 HL1.out rfl HM1.out hk1 (by simp; omega) HMS.out ?_; intro v1 w4 ho1 hB1; have HO1 := Lib.hid ho1; have HB1 := Lib.hid (HEB.out.trans hB1); have HO1A : Hid ((w4.alloc (.cells #[.string p, .string u, .int .i64 n, .int .i64 1099511627776] 135)).ownsRow K3W.heap.size 135 4 v1 m1.length (ens m1)) := own_below HO1.out (ebelow_one w4 (.cells #[.string p, .string u, .int .i64 n, .int .i64 1099511627776] 135)); have HB1A := Lib.hid (HB1.out.trans ((ebelow_one w4 (.cells #[.string p, .string u, .int .i64 n, .int .i64 1099511627776] 135)).mono HB1.out.size)); have HS1A := Lib.hid HB1A.out.size; clear ho1 hB1; obtain ⟨d0, d1, d2, d3⟩ := HSB.out _ (K3.below HB1.out)) | (at_builtin; refine wpList_append_own _ rfl (.tmp 41) (.tmp 43) 24 rfl K3W.heap.size 135 i0 _ 4 48 Tryz.underlying24 hi hz0 hz1 hz2 rfl (by decide) _ _ _ rfl HO1A.out ⟨w4.heap.size, 0, none⟩ 1 1 [.string p, .string u, .int .i64 n, .int .i64 1099511627776] rfl rfl (news_at _ _ _ _ rfl) (four_e _ _ _ _) (by unfold maxLen; omega) (by omega) HS1A.out ?_; intro v2 w5 ho2 hgrow hiff; have HB2 := Lib.hid (app_below HB1A.out HS1A.out HO1A.out hgrow); have HO2 : Hid (w5.ownsRow K3W.heap.size 135 4 v2 (m1 ++ [mkE p u n]).length (ens (m1 ++ [mkE p u n]))) := own_snoc ho2; clear ho2 hgrow hiff; have HM2 := Lib.hid (HS2.out _ HB2.out); have HMS2 := Lib.hid HB2.out.size) | (at_builtin; refine wpList_append_en2 _ rfl (.tmp 45) (.tmp 48) 24 rfl K3W.heap.size 135 i0 _ Tryz.underlying24 hi hz0 hz1 hz2 rfl _ (m1 ++ [mkE p u n]) rfl HO2.out none 0 m2 0 HL2.out rfl HM2.out hk2 (by simp; omega) HMS2.out ?_; intro v3 w6 ho3 hB3; have HO3 := Lib.hid ho3; have HB3 := Lib.hid (HB2.out.trans hB3); clear ho3 hB3))
     rw [HGG.out] at HO3
     go_ret2
     first | exact Or.inr ⟨by trivial, v3, rfl, own_low HO3.out K3.frame.size, K3.frame.trans (HB3.out.mono K3.frame.size)⟩ | exact ⟨v3, rfl, own_low HO3.out K3.frame.size, K3.frame.trans (HB3.out.mono K3.frame.size)⟩
    | some ad =>
     by_cases hlz : 0 < l.length
     ·obtain ⟨b, off, e, -, -, -, -, -⟩ := K3.row.at_ hlz
      cases e
      by_cases hcj : c = j
      ·subst hje
       subst hcj
       have hz2' : (l.length : Int) ≤ (l.length : Int) := Int.le_refl _
       have hz1' : (0 : Int) ≤ (l.length : Int) := by omega
       obtain ⟨m1, e1⟩ : ∃ m, m = l := ⟨_, rfl⟩
       obtain ⟨m2, e2⟩ : ∃ m : List EnM, m = [] := ⟨_, rfl⟩
       have HL1 : Hid (l.length = m1.length) := by unfold Hid; rw [e1]
       have HL2 : Hid (0 = m2.length) := by unfold Hid; rw [e2]; rfl
       have hk1 : (some ⟨b, off, none⟩ : Option Addr) = none → l.length = 0 := fun h => (by cases h)
       have hk2 : (some ⟨b, off, none⟩ : Option Addr) = none → 0 = 0 := fun h => (by cases h)
       have HS1 : Hid (∀ W, Below K3W.heap.size K3W W → EnSl W (some ⟨b, off, none⟩) m1) := fun W h => by rw [e1]; exact K3.row.below h
       have HS2 : Hid (∀ W, Below K3W.heap.size K3W W → EnSl W (some ⟨b, off, none⟩) m2) := fun W h => by rw [e2]; exact EnSl.nil _ _
       have HGG : Hid (m1 ++ [mkE p u n] ++ m2 = G) := by unfold Hid; rw [e1, e2, HGA.out l.length HP.out, List.take_of_length_le (Nat.le_refl _), List.drop_of_length_le (Nat.le_refl _), List.append_nil]
       clear e1 e2 HGA HP HNil
       have hb1 : m1.length ≤ 500 := by have := HL1.out; omega
       have hb2 : m2.length ≤ 500 := by have := HL2.out; omega
       have HE0 := Lib.hid (eown_empty8 K3W 135 4 K3W.heap.size (Nat.le_refl _))
       have HEB := Lib.hid (ebelow_one K3W (.cells #[] 135))
       have HM1 := Lib.hid (HS1.out _ HEB.out)
       have HMS := Lib.hid HEB.out.size
       go_wp2_with (first | (at_builtin; refine wpList_append_en2 _ rfl (.tmp 36) (.tmp 39) 24 rfl K3W.heap.size 135 i0 _ Tryz.underlying24 hi hz0 hz1 hz2 rfl _ [] rfl HE0.out (some ⟨b, off, none⟩) l.length m1 l.length HL1.out rfl HM1.out hk1 (by simp; omega) HMS.out ?_; intro v1 w4 ho1 hB1; have HO1 := Lib.hid ho1; have HB1 := Lib.hid (HEB.out.trans hB1); have HO1A : Hid ((w4.alloc (.cells #[.string p, .string u, .int .i64 n, .int .i64 1099511627776] 135)).ownsRow K3W.heap.size 135 4 v1 m1.length (ens m1)) := own_below HO1.out (ebelow_one w4 (.cells #[.string p, .string u, .int .i64 n, .int .i64 1099511627776] 135)); have HB1A := Lib.hid (HB1.out.trans ((ebelow_one w4 (.cells #[.string p, .string u, .int .i64 n, .int .i64 1099511627776] 135)).mono HB1.out.size)); have HS1A := Lib.hid HB1A.out.size; clear ho1 hB1; obtain ⟨d0, d1, d2, d3⟩ := HSB.out _ (K3.below HB1.out)) | (at_builtin; refine wpList_append_own _ rfl (.tmp 41) (.tmp 43) 24 rfl K3W.heap.size 135 i0 _ 4 48 Tryz.underlying24 hi hz0 hz1 hz2 rfl (by decide) _ _ _ rfl HO1A.out ⟨w4.heap.size, 0, none⟩ 1 1 [.string p, .string u, .int .i64 n, .int .i64 1099511627776] rfl rfl (news_at _ _ _ _ rfl) (four_e _ _ _ _) (by unfold maxLen; omega) (by omega) HS1A.out ?_; intro v2 w5 ho2 hgrow hiff; have HB2 := Lib.hid (app_below HB1A.out HS1A.out HO1A.out hgrow); have HO2 : Hid (w5.ownsRow K3W.heap.size 135 4 v2 (m1 ++ [mkE p u n]).length (ens (m1 ++ [mkE p u n]))) := own_snoc ho2; clear ho2 hgrow hiff; have HM2 := Lib.hid (HS2.out _ HB2.out); have HMS2 := Lib.hid HB2.out.size) | (at_builtin; refine wpList_append_en2 _ rfl (.tmp 45) (.tmp 48) 24 rfl K3W.heap.size 135 i0 _ Tryz.underlying24 hi hz0 hz1 hz2 rfl _ (m1 ++ [mkE p u n]) rfl HO2.out (some ⟨b, off, none⟩) 0 m2 0 HL2.out rfl HM2.out hk2 (by simp; omega) HMS2.out ?_; intro v3 w6 ho3 hB3; have HO3 := Lib.hid ho3; have HB3 := Lib.hid (HB2.out.trans hB3); clear ho3 hB3))
       rw [HGG.out] at HO3
       go_ret2
       first | exact Or.inr ⟨by trivial, v3, rfl, own_low HO3.out K3.frame.size, K3.frame.trans (HB3.out.mono K3.frame.size)⟩ | exact ⟨v3, rfl, own_low HO3.out K3.frame.size, K3.frame.trans (HB3.out.mono K3.frame.size)⟩
      ·have hcj2 : j < c := by omega
       have hpc : j ≤ c := by omega
       have hz1' : (0 : Int) ≤ (j : Int) := by omega
       have hz2' : (j : Int) ≤ (l.length : Int) := by omega
       have hz3' : (j : Int) ≤ (c : Int) := by omega
       have hz4' : (l.length : Int) ≤ (c : Int) := by omega
       obtain ⟨m1, e1⟩ : ∃ m, m = l.take j := ⟨_, rfl⟩
       obtain ⟨m2, e2⟩ : ∃ m, m = l.drop j := ⟨_, rfl⟩
       have HL1 : Hid (j = m1.length) := by unfold Hid; rw [e1, List.length_take]; omega
       have HL2 : Hid (l.length - j = m2.length) := by unfold Hid; rw [e2, List.length_drop]
       have hk1 : (some ⟨b, off, none⟩ : Option Addr) = none → c = 0 := fun h => (by cases h)
       have hk2 : (some ⟨b, off + j * 4, none⟩ : Option Addr) = none → c - j = 0 := fun h => (by cases h)
       have HS1 : Hid (∀ W, Below K3W.heap.size K3W W → EnSl W (some ⟨b, off, none⟩) m1) := fun W h => by rw [e1]; exact (K3.row.below h).take j
       have HS2 : Hid (∀ W, Below K3W.heap.size K3W W → EnSl W (some ⟨b, off + j * 4, none⟩) m2) := fun W h => by rw [e2]; exact (K3.row.below h).drop j
       have HGG : Hid (m1 ++ [mkE p u n] ++ m2 = G) := by unfold Hid; rw [e1, e2, HGA.out j HP.out, List.append_assoc]; rfl
       clear e1 e2
       clear HGA HP HNil hje
       have hb1 : m1.length ≤ 500 := by have := HL1.out; omega
       have hb2 : m2.length ≤ 500 := by have := HL2.out; omega
       have HE0 := Lib.hid (eown_empty8 K3W 135 4 K3W.heap.size (Nat.le_refl _))
       have HEB := Lib.hid (ebelow_one K3W (.cells #[] 135))
       have HM1 := Lib.hid (HS1.out _ HEB.out)
       have HMS := Lib.hid HEB.out.size
       go_wp2_with (first | (at_builtin; refine wpList_append_en2 _ rfl (.tmp 36) (.tmp 39) 24 rfl K3W.heap.size 135 i0 _ Tryz.underlying24 hi hz0 hz1 hz2 rfl _ [] rfl HE0.out (some ⟨b, off, none⟩) c m1 j HL1.out rfl HM1.out hk1 (by simp; omega) HMS.out ?_; intro v1 w4 ho1 hB1; have HO1 := Lib.hid ho1; have HB1 := Lib.hid (HEB.out.trans hB1); have HO1A : Hid ((w4.alloc (.cells #[.string p, .string u, .int .i64 n, .int .i64 1099511627776] 135)).ownsRow K3W.heap.size 135 4 v1 m1.length (ens m1)) := own_below HO1.out (ebelow_one w4 (.cells #[.string p, .string u, .int .i64 n, .int .i64 1099511627776] 135)); have HB1A := Lib.hid (HB1.out.trans ((ebelow_one w4 (.cells #[.string p, .string u, .int .i64 n, .int .i64 1099511627776] 135)).mono HB1.out.size)); have HS1A := Lib.hid HB1A.out.size; clear ho1 hB1; obtain ⟨d0, d1, d2, d3⟩ := HSB.out _ (K3.below HB1.out)) | (at_builtin; refine wpList_append_own _ rfl (.tmp 41) (.tmp 43) 24 rfl K3W.heap.size 135 i0 _ 4 48 Tryz.underlying24 hi hz0 hz1 hz2 rfl (by decide) _ _ _ rfl HO1A.out ⟨w4.heap.size, 0, none⟩ 1 1 [.string p, .string u, .int .i64 n, .int .i64 1099511627776] rfl rfl (news_at _ _ _ _ rfl) (four_e _ _ _ _) (by unfold maxLen; omega) (by omega) HS1A.out ?_; intro v2 w5 ho2 hgrow hiff; have HB2 := Lib.hid (app_below HB1A.out HS1A.out HO1A.out hgrow); have HO2 : Hid (w5.ownsRow K3W.heap.size 135 4 v2 (m1 ++ [mkE p u n]).length (ens (m1 ++ [mkE p u n]))) := own_snoc ho2; clear ho2 hgrow hiff; have HM2 := Lib.hid (HS2.out _ HB2.out); have HMS2 := Lib.hid HB2.out.size) | (at_builtin; refine wpList_append_en2 _ rfl (.tmp 45) (.tmp 48) 24 rfl K3W.heap.size 135 i0 _ Tryz.underlying24 hi hz0 hz1 hz2 rfl _ (m1 ++ [mkE p u n]) rfl HO2.out (some ⟨b, off + j * 4, none⟩) (c - j) m2 (l.length - j) HL2.out rfl HM2.out hk2 (by simp; omega) HMS2.out ?_; intro v3 w6 ho3 hB3; have HO3 := Lib.hid ho3; have HB3 := Lib.hid (HB2.out.trans hB3); clear ho3 hB3))
       rw [HGG.out] at HO3
       go_ret2
       first | exact Or.inr ⟨by trivial, v3, rfl, own_low HO3.out K3.frame.size, K3.frame.trans (HB3.out.mono K3.frame.size)⟩ | exact ⟨v3, rfl, own_low HO3.out K3.frame.size, K3.frame.trans (HB3.out.mono K3.frame.size)⟩
     ·have hl0 : l = [] := List.eq_nil_of_length_eq_zero (by omega)
      subst hl0
      obtain rfl : j = 0 := by simpa using hje
      have hz : (0 : Int) ≤ (c : Int) := by omega
      by_cases hcp : c = 0
      ·subst hcp
       obtain ⟨m1, e1⟩ : ∃ m : List EnM, m = [] := ⟨_, rfl⟩
       obtain ⟨m2, e2⟩ : ∃ m : List EnM, m = [] := ⟨_, rfl⟩
       have HL1 : Hid (0 = m1.length) := by unfold Hid; rw [e1]; rfl
       have HL2 : Hid (0 = m2.length) := by unfold Hid; rw [e2]; rfl
       have hk1 : (some ad) = none → 0 = 0 := fun h => (by cases h)
       have hk2 : (some ad) = none → 0 = 0 := fun h => (by cases h)
       have HS1 : Hid (∀ W, Below K3W.heap.size K3W W → EnSl W (some ad) m1) := fun W h => by rw [e1]; exact EnSl.nil _ _
       have HS2 : Hid (∀ W, Below K3W.heap.size K3W W → EnSl W (some ad) m2) := fun W h => by rw [e2]; exact EnSl.nil _ _
       have HGG : Hid (m1 ++ [mkE p u n] ++ m2 = G) := by unfold Hid; rw [e1, e2, HGA.out 0 HP.out]; rfl
       clear e1 e2
       clear HGA HP HNil hje
       have hb1 : m1.length ≤ 500 := by have := HL1.out; omega
       have hb2 : m2.length ≤ 500 := by have := HL2.out; omega
       have HE0 := Lib.hid (eown_empty8 K3W 135 4 K3W.heap.size (Nat.le_refl _))
       have HEB := Lib.hid (ebelow_one K3W (.cells #[] 135))
       have HM1 := Lib.hid (HS1.out _ HEB.out)
       have HMS := Lib.hid HEB.out.size
       go_wp2_with (first | (at_builtin; refine wpList_append_en2 _ rfl (.tmp 36) (.tmp 39) 24 rfl K3W.heap.size 135 i0 _ Tryz.underlying24 hi hz0 hz1 hz2 rfl _ [] rfl HE0.out (some ad) 0 m1 0 HL1.out rfl HM1.out hk1 (by simp; omega) HMS.out ?_; intro v1 w4 ho1 hB1; have HO1 := Lib.hid ho1; have HB1 := Lib.hid (HEB.out.trans hB1); have HO1A : Hid ((w4.alloc (.cells #[.string p, .string u, .int .i64 n, .int .i64 1099511627776] 135)).ownsRow K3W.heap.size 135 4 v1 m1.length (ens m1)) := own_below HO1.out (ebelow_one w4 (.cells #[.string p, .string u, .int .i64 n, .int .i64 1099511627776] 135)); have HB1A := Lib.hid (HB1.out.trans ((ebelow_one w4 (.cells #[.string p, .string u, .int .i64 n, .int .i64 1099511627776] 135)).mono HB1.out.size)); have HS1A := Lib.hid HB1A.out.size; clear ho1 hB1; obtain ⟨d0, d1, d2, d3⟩ := HSB.out _ (K3.below HB1.out)) | (at_builtin; refine wpList_append_own _ rfl (.tmp 41) (.tmp 43) 24 rfl K3W.heap.size 135 i0 _ 4 48 Tryz.underlying24 hi hz0 hz1 hz2 rfl (by decide) _ _ _ rfl HO1A.out ⟨w4.heap.size, 0, none⟩ 1 1 [.string p, .string u, .int .i64 n, .int .i64 1099511627776] rfl rfl (news_at _ _ _ _ rfl) (four_e _ _ _ _) (by unfold maxLen; omega) (by omega) HS1A.out ?_; intro v2 w5 ho2 hgrow hiff; have HB2 := Lib.hid (app_below HB1A.out HS1A.out HO1A.out hgrow); have HO2 : Hid (w5.ownsRow K3W.heap.size 135 4 v2 (m1 ++ [mkE p u n]).length (ens (m1 ++ [mkE p u n]))) := own_snoc ho2; clear ho2 hgrow hiff; have HM2 := Lib.hid (HS2.out _ HB2.out); have HMS2 := Lib.hid HB2.out.size) | (at_builtin; refine wpList_append_en2 _ rfl (.tmp 45) (.tmp 48) 24 rfl K3W.heap.size 135 i0 _ Tryz.underlying24 hi hz0 hz1 hz2 rfl _ (m1 ++ [mkE p u n]) rfl HO2.out (some ad) 0 m2 0 HL2.out rfl HM2.out hk2 (by simp; omega) HMS2.out ?_; intro v3 w6 ho3 hB3; have HO3 := Lib.hid ho3; have HB3 := Lib.hid (HB2.out.trans hB3); clear ho3 hB3))
       rw [HGG.out] at HO3
       go_ret2
       first | exact Or.inr ⟨by trivial, v3, rfl, own_low HO3.out K3.frame.size, K3.frame.trans (HB3.out.mono K3.frame.size)⟩ | exact ⟨v3, rfl, own_low HO3.out K3.frame.size, K3.frame.trans (HB3.out.mono K3.frame.size)⟩
      ·have hcp2 : 0 < c := by omega
       obtain ⟨m1, e1⟩ : ∃ m : List EnM, m = [] := ⟨_, rfl⟩
       obtain ⟨m2, e2⟩ : ∃ m : List EnM, m = [] := ⟨_, rfl⟩
       have HL1 : Hid (0 = m1.length) := by unfold Hid; rw [e1]; rfl
       have HL2 : Hid (0 = m2.length) := by unfold Hid; rw [e2]; rfl
       have hk1 : (some ad) = none → c = 0 := fun h => (by cases h)
       have hk2 : (some ad) = none → c = 0 := fun h => (by cases h)
       have HS1 : Hid (∀ W, Below K3W.heap.size K3W W → EnSl W (some ad) m1) := fun W h => by rw [e1]; exact EnSl.nil _ _
       have HS2 : Hid (∀ W, Below K3W.heap.size K3W W → EnSl W (some ad) m2) := fun W h => by rw [e2]; exact EnSl.nil _ _
       have HGG : Hid (m1 ++ [mkE p u n] ++ m2 = G) := by unfold Hid; rw [e1, e2, HGA.out 0 HP.out]; rfl
       clear e1 e2
       clear HGA HP HNil hje
       have hb1 : m1.length ≤ 500 := by have := HL1.out; omega
       have hb2 : m2.length ≤ 500 := by have := HL2.out; omega
       have HE0 := Lib.hid (eown_empty8 K3W 135 4 K3W.heap.size (Nat.le_refl _))
       have HEB := Lib.hid (ebelow_one K3W (.cells #[] 135))
       have HM1 := Lib.hid (HS1.out _ HEB.out)
       have HMS := Lib.hid HEB.out.size
       go_wp2_with (first | (at_builtin; refine wpList_append_en2 _ rfl (.tmp 36) (.tmp 39) 24 rfl K3W.heap.size 135 i0 _ Tryz.underlying24 hi hz0 hz1 hz2 rfl _ [] rfl HE0.out (some ad) c m1 0 HL1.out rfl HM1.out hk1 (by simp; omega) HMS.out ?_; intro v1 w4 ho1 hB1; have HO1 := Lib.hid ho1; have HB1 := Lib.hid (HEB.out.trans hB1); have HO1A : Hid ((w4.alloc (.cells #[.string p, .string u, .int .i64 n, .int .i64 1099511627776] 135)).ownsRow K3W.heap.size 135 4 v1 m1.length (ens m1)) := own_below HO1.out (ebelow_one w4 (.cells #[.string p, .string u, .int .i64 n, .int .i64 1099511627776] 135)); have HB1A := Lib.hid (HB1.out.trans ((ebelow_one w4 (.cells #[.string p, .string u, .int .i64 n, .int .i64 1099511627776] 135)).mono HB1.out.size)); have HS1A := Lib.hid HB1A.out.size; clear ho1 hB1; obtain ⟨d0, d1, d2, d3⟩ := HSB.out _ (K3.below HB1.out)) | (at_builtin; refine wpList_append_own _ rfl (.tmp 41) (.tmp 43) 24 rfl K3W.heap.size 135 i0 _ 4 48 Tryz.underlying24 hi hz0 hz1 hz2 rfl (by decide) _ _ _ rfl HO1A.out ⟨w4.heap.size, 0, none⟩ 1 1 [.string p, .string u, .int .i64 n, .int .i64 1099511627776] rfl rfl (news_at _ _ _ _ rfl) (four_e _ _ _ _) (by unfold maxLen; omega) (by omega) HS1A.out ?_; intro v2 w5 ho2 hgrow hiff; have HB2 := Lib.hid (app_below HB1A.out HS1A.out HO1A.out hgrow); have HO2 : Hid (w5.ownsRow K3W.heap.size 135 4 v2 (m1 ++ [mkE p u n]).length (ens (m1 ++ [mkE p u n]))) := own_snoc ho2; clear ho2 hgrow hiff; have HM2 := Lib.hid (HS2.out _ HB2.out); have HMS2 := Lib.hid HB2.out.size) | (at_builtin; refine wpList_append_en2 _ rfl (.tmp 45) (.tmp 48) 24 rfl K3W.heap.size 135 i0 _ Tryz.underlying24 hi hz0 hz1 hz2 rfl _ (m1 ++ [mkE p u n]) rfl HO2.out (some ad) c m2 0 HL2.out rfl HM2.out hk2 (by simp; omega) HMS2.out ?_; intro v3 w6 ho3 hB3; have HO3 := Lib.hid ho3; have HB3 := Lib.hid (HB2.out.trans hB3); clear ho3 hB3))
       rw [HGG.out] at HO3
       go_ret2
       first | exact Or.inr ⟨by trivial, v3, rfl, own_low HO3.out K3.frame.size, K3.frame.trans (HB3.out.mono K3.frame.size)⟩ | exact ⟨v3, rfl, own_low HO3.out K3.frame.size, K3.frame.trans (HB3.out.mono K3.frame.size)⟩
def cutTo (l : List EnM) (k : Nat) (a : Int) (j : Nat) : List EnM := if j ≤ k then l.take j else cutS (l.take j) k a
theorem cutTo_zero (l : List EnM) (k : Nat) (a : Int) : cutTo l k a 0 = [] := by unfold cutTo; rw [if_pos (Nat.zero_le _)]; rfl
theorem cutTo_all {l : List EnM} {k : Nat} (h : k < l.length) (a : Int) : cutTo l k a l.length = cutS l k a := by
 unfold cutTo
 rw [if_neg (by omega), List.take_of_length_le (Nat.le_refl _)]
theorem cut_snoc {m : List EnM} {x : EnM} {k : Nat} (h : k < m.length) (a : Int) : cutS (m ++ [x]) k a = cutS m k a ++ [x] := by
 rw [cut_at (l := m ++ [x]) (by rw [List.length_append]; omega), cut_at h, List.getElem_append_left h, List.take_append_of_le_length (by omega), List.drop_append_of_le_length (by omega)]
 simp only [List.append_assoc]
theorem cutTo_other {l : List EnM} {k j : Nat} (hj : j < l.length) (hk : k < l.length) (a : Int) (hne : ¬ j = k) : cutTo l k a (j + 1) = cutTo l k a j ++ [l[j]] := by
 unfold cutTo
 by_cases h1 : j ≤ k
 ·rw [if_pos h1, if_pos (by omega), List.take_succ_eq_append_getElem hj]
 ·rw [if_neg h1, if_neg (by omega), List.take_succ_eq_append_getElem hj, cut_snoc (by rw [List.length_take]; omega)]
theorem cutTo_here {l : List EnM} {k : Nat} (hk : k < l.length) (a : Int) : cutTo l k a (k + 1) = cutTo l k a k ++ endS l[k] a := by
 unfold cutTo
 rw [if_pos (Nat.le_refl _), if_neg (by omega), cut_at (by rw [List.length_take]; omega), List.getElem_take, List.take_take, Nat.min_eq_left (by omega), List.drop_of_length_le (by rw [List.length_take]; omega), List.append_nil]
theorem cutTo_len (l : List EnM) (k : Nat) (a : Int) (j : Nat) : (cutTo l k a j).length ≤ j := by
 unfold cutTo
 split
 ·rw [List.length_take]; omega
 ·exact Nat.le_trans (cut_len _ _ _) (by rw [List.length_take]; omega)
set_option maxHeartbeats 8000000 in
theorem refRevoke_any (a : Option Addr) (c : Nat) (l : List EnM) (p u : ByteArray) (n : Int) (w : World) (hr : EnSl w a l) (hl : l.length ≤ 500) :
  Calls Tryz.prog 147 #[.slice a l.length c, pr p u, .int .i64 n] w fun e w' => (l.any (infE p u) = false ∧ e = .returned (.tuple #[.slice none 0 0, .int .i64 91]) ∧ Below w.heap.size w w') ∨
   (l.any (infE p u) = true ∧ ∃ v, e = .returned (.tuple #[v, .int .i64 0]) ∧ w'.ownsRow w.heap.size 135 4 v (revokeS l p u n).length (ens (revokeS l p u n)) ∧ Below w.heap.size w w') := by
 obtain ⟨i0, hi, hz0, hz1, hz2⟩ := info_parts infoEnR
 have HPC := Lib.hid (PK.new hr p u 97)
 have HIF := Lib.hid (fun W (h : EnSl W a l) => force_any a c l p u W h (by omega))
 have HF := first_idx (infE p u) l
 have HREV := fun k (h : IsFirst (infE p u) l k) => revoke_at h n
 unfold pr at *
 generalize hG : revokeS l p u n = G at *
 clear hr hG
 have hany := HF.any
 generalize l.findIdx (infE p u) = k at *
 by_cases hk : k < l.length
 ·rw [decide_eq_true hk] at hany
  rw [hany]
  have hix := idx_hit HF hk
  have HGG := Lib.hid ((HREV k HF).trans (cutTo_all hk n).symm)
  have HZ := Lib.hid (cutTo_zero l k n)
  have HCO := Lib.hid (fun j (hj : j < l.length) (h : ¬ j = k) => cutTo_other hj hk n h)
  have HCH := Lib.hid (cutTo_here hk n)
  have HCL := Lib.hid (cutTo_len l k n)
  rw [hix] at HIF
  have HKL := Lib.hid hk
  clear HREV HF hix hany
  have hd0 : decide ((k : Int) < 0) = false := decide_eq_false (by omega)
  go_enter Tryz.func147, Tryz.ntmps147
  go_wp2_with fail
  refine (HIF.out _ HPC.out.row).mono ?_
  rintro e w1 ⟨rfl, hB⟩
  have K1 := Lib.hid (HPC.out.below hB)
  clear hB HPC HIF
  go_wp2
  go_loopw [9, 10] (fun v i wr => ∃ (j : Nat), j ≤ l.length ∧ i = .int .i64 j ∧ Hid (wr.ownsRow w1.heap.size 135 4 v (cutTo l k n j).length (ens (cutTo l k n j))) ∧ Hid (Below w1.heap.size w1 wr)) (fun _ i _ => l.length - (intOf i).toNat)
  case atStart => exact ⟨0, by omega, rfl, (by unfold Hid; rw [HZ.out]; exact ⟨rfl, .inl ⟨rfl, rfl⟩⟩), Below.refl _ _⟩
  case round =>
   obtain ⟨j, hj, rfl, HO, HB⟩ := hrel
   by_cases hjl : j < l.length
   ·obtain ⟨b, off, rfl, hbl, hc0, hc1, hc2, hc3⟩ := (K1.out.below HB.out).row.at_ hjl
    have HLN := Lib.hid (HCL.out j)
    have HCJ := Lib.hid (HCO.out j hjl)
    have HJK : Hid (∀ h : j = k, l[k] = l[j]) := fun h => by subst h; rfl
    by_cases hjk : j = k
    ·have HC1 : Hid (cutTo l k n (j + 1) = cutTo l k n j ++ endS l[j] n) := by subst hjk; exact HCH.out
     have he1 : ((j : Int) == (k : Int)) = true := beq_iff_eq.2 (by omega)
     have hji : (j : Int) ≤ (k : Int) := by omega
     have hji2 : (k : Int) ≤ (j : Int) := by omega
     generalize l[j] = x at *
     generalize cutTo l k n j = m at *
     by_cases hn : n ≤ x.f
     ·have hd : decide (x.f < n) = false := decide_eq_false (by omega)
      have HC2 : Hid (cutTo l k n (j + 1) = m) := by have := HC1.out; unfold endS at this; rwa [if_pos hn, List.append_nil] at this
      have HO1 := Lib.hid (own_below HO.out (ebelow_one wr (.cells #[.string x.w, .string x.u, .int .i64 x.f, .int .i64 n] 135)))
      have HB1 : Hid (Below w1.heap.size w1 (wr.alloc (.cells #[.string x.w, .string x.u, .int .i64 x.f, .int .i64 n] 135))) := HB.out.trans ((ebelow_one wr _).mono HB.out.size)
      clear HC1 HCJ HJK HCH HCO hjk hn
      go_wp2
      go_roundw
      case rel => exact ⟨j + 1, by omega, by go_num, (by unfold Hid; rw [HC2.out]; exact HO1.out), HB1⟩
      case measure => simp [intOf]; omega
     ·have hd : decide (x.f < n) = true := decide_eq_true (by omega)
      have HC2 : Hid (cutTo l k n (j + 1) = m ++ [⟨x.w, x.u, x.f, n⟩]) := by have := HC1.out; unfold endS at this; rwa [if_neg hn] at this
      clear HC1 HCJ HJK HCH HCO hjk hn
      have HO1 := Lib.hid (own_below HO.out (below_2 wr (.cells #[.string x.w, .string x.u, .int .i64 x.f, .int .i64 n] 135) (.cells #[.string x.w, .string x.u, .int .i64 x.f, .int .i64 n] 135)))
      have HB1 : Hid (Below w1.heap.size w1 ((wr.alloc (.cells #[.string x.w, .string x.u, .int .i64 x.f, .int .i64 n] 135)).alloc (.cells #[.string x.w, .string x.u, .int .i64 x.f, .int .i64 n] 135))) := HB.out.trans ((below_2 wr (.cells #[.string x.w, .string x.u, .int .i64 x.f, .int .i64 n] 135) (.cells #[.string x.w, .string x.u, .int .i64 x.f, .int .i64 n] 135)).mono HB.out.size)
      have HS1 := Lib.hid HB1.out.size
      have hlm := HLN.out
      go_wp2_with (at_builtin; refine wpList_append_own _ rfl (.tmp 42) (.tmp 44) 24 rfl w1.heap.size 135 i0 _ 4 48 Tryz.underlying24 hi hz0 hz1 hz2 rfl (by decide) _ _ _ rfl HO1.out ⟨wr.heap.size + 1, 0, none⟩ 1 1 [.string x.w, .string x.u, .int .i64 x.f, .int .i64 n] rfl rfl (news_at _ _ _ _ (size1 _ _).symm) (four_e _ _ _ _) (by unfold maxLen; omega) (by omega) HS1.out ?_; intro v2 w5 ho2 hgrow hiff)
      have HB2 := Lib.hid (app_below HB1.out HS1.out HO1.out hgrow)
      have HO2 := Lib.hid (own_snoc (x := ⟨x.w, x.u, x.f, n⟩) ho2)
      clear ho2 hgrow hiff HB1 HS1 HO1
      go_wp2
      go_roundw
      case rel => exact ⟨j + 1, by omega, by go_num, (by unfold Hid; rw [HC2.out]; exact HO2.out), HB2⟩
      case measure => simp [intOf]; omega
    ·have HC2 : Hid (cutTo l k n (j + 1) = cutTo l k n j ++ [l[j]]) := HCJ.out hjk
     have he1 : ((j : Int) == (k : Int)) = false := beq_eq_false_iff_ne.2 (by omega)
     have hji : ¬ (j : Int) = (k : Int) := by omega
     generalize l[j] = x at *
     generalize cutTo l k n j = m at *
     clear HCJ HJK HCH HCO hjk
     have HO1 := Lib.hid (own_below HO.out (below_2 wr (.cells #[.string x.w, .string x.u, .int .i64 x.f, .int .i64 x.t] 135) (.cells #[.string x.w, .string x.u, .int .i64 x.f, .int .i64 x.t] 135)))
     have HB1 : Hid (Below w1.heap.size w1 ((wr.alloc (.cells #[.string x.w, .string x.u, .int .i64 x.f, .int .i64 x.t] 135)).alloc (.cells #[.string x.w, .string x.u, .int .i64 x.f, .int .i64 x.t] 135))) := HB.out.trans ((below_2 wr (.cells #[.string x.w, .string x.u, .int .i64 x.f, .int .i64 x.t] 135) (.cells #[.string x.w, .string x.u, .int .i64 x.f, .int .i64 x.t] 135)).mono HB.out.size)
     have HS1 := Lib.hid HB1.out.size
     have hlm := HLN.out
     go_wp2_with (at_builtin; refine wpList_append_own _ rfl (.tmp 42) (.tmp 44) 24 rfl w1.heap.size 135 i0 _ 4 48 Tryz.underlying24 hi hz0 hz1 hz2 rfl (by decide) _ _ _ rfl HO1.out ⟨wr.heap.size + 1, 0, none⟩ 1 1 [.string x.w, .string x.u, .int .i64 x.f, .int .i64 x.t] rfl rfl (news_at _ _ _ _ (size1 _ _).symm) (four_e _ _ _ _) (by unfold maxLen; omega) (by omega) HS1.out ?_; intro v2 w5 ho2 hgrow hiff)
     have HB2 := Lib.hid (app_below HB1.out HS1.out HO1.out hgrow)
     have HO2 := Lib.hid (own_snoc (x := ⟨x.w, x.u, x.f, x.t⟩) ho2)
     clear ho2 hgrow hiff HB1 HS1 HO1
     go_wp2
     go_roundw
     case rel => exact ⟨j + 1, by omega, by go_num, (by unfold Hid; rw [HC2.out]; exact HO2.out), HB2⟩
     case measure => simp [intOf]; omega
   ·obtain rfl : j = l.length := by omega
    rw [← HGG.out] at HO
    go_wp2
    go_ret2
    exact Or.inr ⟨by trivial, _, rfl, own_low HO.out K1.out.frame.size, K1.out.frame.trans (HB.out.mono K1.out.frame.size)⟩
 ·rw [decide_eq_false hk] at hany
  rw [hany]
  have hix : idxI (infE p u) l = -1 := by
   obtain rfl : k = l.length := Nat.le_antisymm HF.le (by omega)
   exact idx_miss HF
  rw [hix] at HIF
  clear HREV HF hix hany hk
  go_enter Tryz.func147, Tryz.ntmps147
  go_wp2_with fail
  refine (HIF.out _ HPC.out.row).mono ?_
  rintro e w1 ⟨rfl, hB⟩
  have K1 := Lib.hid (HPC.out.below hB)
  go_wp2
  go_ret2
  exact Or.inl ⟨by trivial, rfl, K1.out.frame⟩
structure PutU (w : World) (u : ByteArray) (m : List UsM) (D E : List UsL) (j : Nat) (done : Bool) (v : Value) (W : World) : Prop where
 own : W.ownsRow w.heap.size 131 2 v E.length (usv E)
 ins : InsAt UsM.u u m (umS D) j done (umS E)
 at_ : ∀ y ∈ E, UsAt w y
 frame : Below w.heap.size w W
theorem PutU.len {w W : World} {u : ByteArray} {m : List UsM} {D E : List UsL} {j : Nat} {done : Bool} {v : Value} (h : PutU w u m D E j done v W) (hm : m.length ≤ 1) : E.length ≤ j + 1 := by
 have := h.ins.len
 rw [umS_len] at this
 omega
theorem own_user {w W W' : World} {E : List UsL} {v v' : Value} {y : UsL} (ho : W.ownsRow w.heap.size 131 2 v E.length (usv E)) (hf : Below w.heap.size w W) (h : W'.ownsRow w.heap.size 131 2 v' (E.length + 1) (usv E ++ [.string y.u, .slice y.a y.l.length y.c])) (hg : W.grownBy W' v.ownBlock) :
  W'.ownsRow w.heap.size 131 2 v' (E ++ [y]).length (usv (E ++ [y])) ∧ Below w.heap.size w W' :=
 ⟨by rw [usv_snoc, List.length_append]; exact h, app_below hf hf.size ho hg⟩
set_option maxHeartbeats 8000000 in
theorem rput_any (a : Option Addr) (c : Nat) (D : List UsL) (u : ByteArray) (sa : Option Addr) (sc : Nat) (l : List StM) (w : World) (hD : UsSl w a D) (hp : UsAt w ⟨u, sa, l, sc⟩) (hk : RiseK UsM.u (umS D)) (hl : D.length ≤ 1000) (hu : u.size ≤ maxLen) (hs : ∀ y ∈ D, y.u.size ≤ maxLen) :
  Calls Tryz.prog 150 #[.slice a D.length c, .string u, .slice sa l.length sc] w fun e w' => ∃ x q L, e = .returned (.slice x L.length q) ∧ UsSl w' x L ∧ Cp x L.length q ∧ umS L = putU (umS D) u l ∧ Below w.heap.size w w' := by
 obtain ⟨i0, hi, hz0, hz1, hz2⟩ := info_parts infoUsR
 obtain ⟨m, hm⟩ : ∃ m, m = rowU u l := ⟨_, rfl⟩
 have hm1 : m.length ≤ 1 := by rw [hm]; unfold rowU; split <;> simp
 have hmf : l ≠ [] → m = [⟨u, l⟩] := fun h => by rw [hm]; unfold rowU; simp [h]
 have hme : l = [] → m = [] := fun h => by rw [hm]; unfold rowU; simp [h]
 obtain ⟨d0, hd0⟩ : ∃ d0, d0 = decide (l.length = 0) := ⟨_, rfl⟩
 have HST : Hid (InsAt UsM.u u m (umS D) 0 d0 []) := InsAt.start fun h => hme (by rw [hd0, decide_eq_true_iff] at h; exact List.eq_nil_of_length_eq_zero h)
 have HDF : Hid (d0 = false → m = [⟨u, l⟩]) := fun h => hmf (by rw [hd0, decide_eq_false_iff_not] at h; intro e; rw [e] at h; exact h rfl)
 have HEND : Hid (∀ E : List UsL, InsAt UsM.u u m (umS D) D.length true (umS E) → umS E = putU (umS D) u l) := fun E h => by
  rw [← umS_len] at h
  rw [h.done, hm]
  rfl
 have HMIS : Hid (∀ E : List UsL, m = [⟨u, l⟩] → InsAt UsM.u u m (umS D) D.length false (umS E) → umS (E ++ [⟨u, sa, l, sc⟩]) = putU (umS D) u l) := fun E h2 h => by
  rw [← umS_len] at h
  have h1 := h.miss
  rw [umS_snoc]
  rw [h2] at h1
  rw [show (⟨u, sa, l, sc⟩ : UsL).m = ⟨u, l⟩ from rfl, h1, ← h2, hm]
  rfl
 have HD := Lib.hid hD
 have HP := Lib.hid hp
 have HK := Lib.hid hk
 have HSZ := Lib.hid hs
 have HC := Lib.hid (fun (b : ByteArray) V (hb : b.size ≤ maxLen) => rcmp11 u b V hu hb)
 have HM1 := Lib.hid hm1
 clear hm1 hmf hme hm hD hp hk hs
 go_enter Tryz.func150, Tryz.ntmps150
 go_wp2
 go_loopw [7, 8, 9] (fun v dn iv wr => ∃ (j : Nat) (done : Bool) (E : List UsL), j ≤ D.length ∧ iv = .int .i64 j ∧ dn = .bool done ∧ Hid (PutU w u m D E j done v wr) ∧ Hid (done = false → m = [⟨u, l⟩])) (fun _ _ iv _ => D.length - (intOf iv).toNat)
 case atStart => exact ⟨0, d0, [], by omega, rfl, (by rw [hd0]; congr 1; rw [Bool.eq_iff_iff]; simp), ⟨⟨rfl, .inl ⟨rfl, rfl⟩⟩, HST.out, (fun y h => by cases h), Below.refl _ _⟩, HDF.out⟩
 case round =>
  clear HST HDF hd0
  obtain ⟨j, done, E, hj, rfl, rfl, HG, HMD⟩ := hrel
  by_cases hjl : j < D.length
  ·have hjm : j < (umS D).length := by rw [umS_len]; exact hjl
   have hkey : UsM.u ((umS D)[j]) = (D[j]).u := by simp [umS, UsL.m]
   have hel : (umS D)[j] = (D[j]).m := by simp [umS]
   have hlen := HG.out.len HM1.out
   obtain ⟨b, off, rfl, hbl, r0, r1, -⟩ := (HD.out.below HG.out.frame).get hjl
   have HYA := Lib.hid (HD.out.at_ _ (List.getElem_mem hjl))
   have HC1 := Lib.hid (HC.out (D[j]).u wr (HSZ.out _ (List.getElem_mem hjl)))
   have HROW : Hid (∀ V, Below w.heap.size w V → V.cell? ⟨b, off + j * 2, none⟩ = some (.string (D[j]).u) ∧ V.cell? ⟨b, off + j * 2 + 1, none⟩ = some (.slice (D[j]).a (D[j]).l.length (D[j]).c)) := fun V q => by
    obtain ⟨b', off', e, -, k0, k1, -⟩ := (HD.out.below q).get hjl
    cases e
    exact ⟨k0, k1⟩
   have HSAM : Hid (done = true → (D[j]).u = u → InsAt UsM.u u m (umS D) (j + 1) true (umS E)) := fun h1 h2 => by subst h1; exact HG.out.ins.same hjm (hkey.trans h2)
   have HBEL : Hid (cmpS (D[j]).u u < 0 → InsAt UsM.u u m (umS D) (j + 1) done (umS (E ++ [D[j]]))) := fun h => by rw [umS_snoc, ← hel]; exact HG.out.ins.below HK.out hjm (by rw [hkey]; exact h)
   have HABV : Hid (done = true → cmpS u (D[j]).u < 0 → InsAt UsM.u u m (umS D) (j + 1) true (umS (E ++ [D[j]]))) := fun h1 h => by subst h1; rw [umS_snoc, ← hel]; exact HG.out.ins.above hjm (by rw [hkey]; exact h)
   have HLAY : Hid (done = false → ¬ cmpS (D[j]).u u < 0 → ((D[j]).u = u → InsAt UsM.u u m (umS D) (j + 1) true (umS (E ++ [⟨u, sa, l, sc⟩]))) ∧ (cmpS u (D[j]).u < 0 → InsAt UsM.u u m (umS D) (j + 1) true (umS ((E ++ [⟨u, sa, l, sc⟩]) ++ [D[j]])))) := fun h1 h => by
    have hm2 := HMD.out h1
    subst h1
    have h3 := HG.out.ins.lay HK.out hjm (by rw [hkey]; exact h)
    rw [hkey, hel] at h3
    rw [umS_snoc, umS_snoc, umS_snoc, show (⟨u, sa, l, sc⟩ : UsL).m = ⟨u, l⟩ from rfl]
    rw [show m = [⟨u, l⟩] from hm2] at h3 ⊢
    exact h3
   have htri := cmpS_tri (D[j]).u u
   have hirr := @cmpS_irr u
   have hasy : cmpS (D[j]).u u < 0 → ¬ cmpS u (D[j]).u < 0 := cmpS_asym
   have hasy2 : cmpS u (D[j]).u < 0 → ¬ cmpS (D[j]).u u < 0 := cmpS_asym
   have hne1 : cmpS (D[j]).u u < 0 → (D[j]).u ≠ u := cmpS_ne
   have hne2 : cmpS u (D[j]).u < 0 → (D[j]).u ≠ u := fun h e => cmpS_ne h e.symm
   have hpos : cmpS (D[j]).u u < 0 → 0 < cmpS u (D[j]).u := fun h => by rw [cmpS_neg]; omega
   have hzero : (D[j]).u = u → cmpS u (D[j]).u = 0 := fun h => by rw [h]; exact cmpS_self _
   clear hjm hkey hel HC HSZ HD HK r0 r1
   generalize D[j] = y at *
   cases done
   ·rcases htri with h | h | h
    ·have HN := Lib.hid (HBEL.out h)
     have heq := txt_ne (hne1 h)
     have hp := hpos h
     clear HSAM HBEL HABV HLAY hirr hasy hasy2 hne1 hne2 hpos hzero h
     generalize cmpS u y.u = cv at *
     obtain ⟨k0, k1⟩ := HROW.out _ HG.out.frame
     go_wp2_with fail
     refine HC1.out.mono ?_
     rintro e w1 ⟨rfl, h1⟩
     have HG1 := Lib.hid (own_below HG.out.own h1)
     have HF1 := Lib.hid (HG.out.frame.trans (h1.mono HG.out.frame.size))
     have HA1 : Hid (∀ z ∈ E ++ [y], UsAt w z) := fun z hz => by
      rcases List.mem_append.1 hz with h | h
      ·exact HG.out.at_ z h
      ·rw [List.mem_singleton.1 h]; exact HYA.out
     clear k0 k1
     obtain ⟨k0, k1⟩ := HROW.out _ HF1.out
     clear HG h1 HC1 HYA
     go_wp2_with (at_builtin; refine wpList_append_own _ rfl (.tmp 61) (.tmp 66) 23 rfl w.heap.size 131 i0 _ 2 40 Tryz.underlying23 hi hz0 hz1 hz2 rfl (by decide) _ _ _ rfl (own_below HG1.out (below_one _ (.cells #[.string y.u, .slice y.a y.l.length y.c] 131))) ⟨(w1).heap.size, 0, none⟩ 1 1 [.string y.u, .slice y.a y.l.length y.c] rfl rfl (news_at _ _ _ _ rfl) (by intro u hu; simp at hu; rcases hu with rfl | rfl <;> rfl) (by unfold maxLen; omega) (by omega) (Nat.le_trans HF1.out.size (below_one _ _).size) ?_; intro v2 w2 hown2 hgrow2 hiff2; obtain ⟨o2, f2⟩ := own_user (y := y) (own_below HG1.out (below_one _ (.cells #[.string y.u, .slice y.a y.l.length y.c] 131))) (HF1.out.trans ((below_one _ _).mono HF1.out.size)) hown2 hgrow2)
     have HG2 : Hid (PutU w u m D (E ++ [y]) (j + 1) false v2 w2) := ⟨o2, HN.out, HA1.out, f2⟩
     clear hown2 hgrow2 hiff2 o2 f2 HG1 HF1 HA1 HN
     go_wp2
     go_roundw
     case rel => exact ⟨j + 1, false, E ++ [y], by omega, by go_num, rfl, HG2.out, fun _ => HMD.out (by trivial)⟩
     case measure => simp [intOf]; omega
    ·have HN := Lib.hid ((HLAY.out rfl (by rw [h]; exact hirr)).1 h)
     have hp := hzero h
     clear HSAM HBEL HABV HLAY hirr hasy hasy2 hne1 hne2 hpos hzero
     generalize cmpS u y.u = cv at *
     subst hp
     subst h
     have he1 := txt_eq y.u
     obtain ⟨k0, k1⟩ := HROW.out _ HG.out.frame
     go_wp2_with fail
     refine HC1.out.mono ?_
     rintro e w1 ⟨rfl, h1⟩
     have HG1 := Lib.hid (own_below HG.out.own h1)
     have HF1 := Lib.hid (HG.out.frame.trans (h1.mono HG.out.frame.size))
     have HA1 : Hid (∀ z ∈ E ++ [(⟨y.u, sa, l, sc⟩ : UsL)], UsAt w z) := fun z hz => by
      rcases List.mem_append.1 hz with h | h
      ·exact HG.out.at_ z h
      ·rw [List.mem_singleton.1 h]; exact HP.out
     clear k0 k1
     obtain ⟨k0, k1⟩ := HROW.out _ HF1.out
     clear HG h1 HC1 HYA
     go_wp2_with (at_builtin; refine wpList_append_own _ rfl (.tmp 48) (.tmp 52) 23 rfl w.heap.size 131 i0 _ 2 40 Tryz.underlying23 hi hz0 hz1 hz2 rfl (by decide) _ _ _ rfl (own_below HG1.out (below_one _ (.cells #[.string y.u, .slice sa l.length sc] 131))) ⟨(w1).heap.size, 0, none⟩ 1 1 [.string y.u, .slice sa l.length sc] rfl rfl (news_at _ _ _ _ rfl) (by intro u hu; simp at hu; rcases hu with rfl | rfl <;> rfl) (by unfold maxLen; omega) (by omega) (Nat.le_trans HF1.out.size (below_one _ _).size) ?_; intro v2 w2 hown2 hgrow2 hiff2; obtain ⟨o2, f2⟩ := own_user (y := (⟨y.u, sa, l, sc⟩ : UsL)) (own_below HG1.out (below_one _ (.cells #[.string y.u, .slice sa l.length sc] 131))) (HF1.out.trans ((below_one _ _).mono HF1.out.size)) hown2 hgrow2)
     have HG2 : Hid (PutU w y.u m D (E ++ [(⟨y.u, sa, l, sc⟩ : UsL)]) (j + 1) true v2 w2) := ⟨o2, HN.out, HA1.out, f2⟩
     obtain ⟨k0, k1⟩ := HROW.out _ f2
     clear hown2 hgrow2 hiff2 o2 f2 HG1 HF1 HA1 HN HROW
     go_wp2
     go_roundw
     case rel => exact ⟨j + 1, true, _, by omega, by go_num, rfl, HG2.out, (fun h => by cases h)⟩
     case measure => simp [intOf]; omega
    ·have HN := Lib.hid ((HLAY.out rfl (hasy2 h)).2 h)
     have heq := txt_ne (hne2 h)
     have hp := h
     clear HSAM HBEL HABV HLAY hirr hasy hasy2 hne1 hne2 hpos hzero h
     generalize cmpS u y.u = cv at *
     have HYB := Lib.hid HYA.out
     obtain ⟨k0, k1⟩ := HROW.out _ HG.out.frame
     go_wp2_with fail
     refine HC1.out.mono ?_
     rintro e w1 ⟨rfl, h1⟩
     have HG1 := Lib.hid (own_below HG.out.own h1)
     have HF1 := Lib.hid (HG.out.frame.trans (h1.mono HG.out.frame.size))
     have HA1 : Hid (∀ z ∈ E ++ [(⟨u, sa, l, sc⟩ : UsL)], UsAt w z) := fun z hz => by
      rcases List.mem_append.1 hz with h | h
      ·exact HG.out.at_ z h
      ·rw [List.mem_singleton.1 h]; exact HP.out
     clear k0 k1
     obtain ⟨k0, k1⟩ := HROW.out _ HF1.out
     clear HG h1 HC1 HYA
     go_wp2_with (first | (at_builtin; refine wpList_append_own _ rfl (.tmp 31) (.tmp 35) 23 rfl w.heap.size 131 i0 _ 2 40 Tryz.underlying23 hi hz0 hz1 hz2 rfl (by decide) _ _ _ rfl (own_below HG1.out (below_one _ (.cells #[.string u, .slice sa l.length sc] 131))) ⟨(w1).heap.size, 0, none⟩ 1 1 [.string u, .slice sa l.length sc] rfl rfl (news_at _ _ _ _ rfl) (by intro u hu; simp at hu; rcases hu with rfl | rfl <;> rfl) (by unfold maxLen; omega) (by omega) (Nat.le_trans HF1.out.size (below_one _ _).size) ?_; intro v2 w2 hown2 hgrow2 hiff2; obtain ⟨o2, f2⟩ := own_user (y := (⟨u, sa, l, sc⟩ : UsL)) (own_below HG1.out (below_one _ (.cells #[.string u, .slice sa l.length sc] 131))) (HF1.out.trans ((below_one _ _).mono HF1.out.size)) hown2 hgrow2; have G2 := Lib.hid o2; have F2 := Lib.hid f2; obtain ⟨m0, m1⟩ := HROW.out _ f2; clear hown2 hgrow2 hiff2 o2 f2 k0 k1; have hEl : (E ++ [(⟨u, sa, l, sc⟩ : UsL)]).length ≤ j + 2 := (by rw [List.length_append, List.length_singleton]; omega)) | (at_builtin; refine wpList_append_own _ rfl (.tmp 61) (.tmp 66) 23 rfl w.heap.size 131 i0 _ 2 40 Tryz.underlying23 hi hz0 hz1 hz2 rfl (by decide) _ _ _ rfl (own_below G2.out (below_one _ (.cells #[.string y.u, .slice y.a y.l.length y.c] 131))) ⟨(w2).heap.size, 0, none⟩ 1 1 [.string y.u, .slice y.a y.l.length y.c] rfl rfl (news_at _ _ _ _ rfl) (by intro u hu; simp at hu; rcases hu with rfl | rfl <;> rfl) (by unfold maxLen; omega) (by omega) (Nat.le_trans F2.out.size (below_one _ _).size) ?_; intro v3 w3 hown3 hgrow3 hiff3; obtain ⟨o3, f3⟩ := own_user (y := y) (own_below G2.out (below_one _ (.cells #[.string y.u, .slice y.a y.l.length y.c] 131))) (F2.out.trans ((below_one _ _).mono F2.out.size)) hown3 hgrow3))
     have HG2 : Hid (PutU w u m D ((E ++ [(⟨u, sa, l, sc⟩ : UsL)]) ++ [y]) (j + 1) true v3 w3) := ⟨o3, HN.out, (fun z hz => by
      rcases List.mem_append.1 hz with h | h
      ·exact HA1.out z h
      ·rw [List.mem_singleton.1 h]; exact HYB.out), f3⟩
     clear hown3 hgrow3 hiff3 o3 f3 HG1 HF1 HA1 HN HROW G2 F2
     go_wp2
     go_roundw
     case rel => exact ⟨j + 1, true, _, by omega, by go_num, rfl, HG2.out, (fun h => by cases h)⟩
     case measure => simp [intOf]; omega
   ·by_cases he : y.u = u
    ·have HN := Lib.hid (HSAM.out rfl he)
     have HG2 := Lib.hid (PutU.mk HG.out.own HN.out HG.out.at_ HG.out.frame)
     obtain ⟨k0, k1⟩ := HROW.out _ HG.out.frame
     clear HSAM HBEL HABV HLAY HC1 HG HN HROW hirr hasy hasy2 hne1 hne2 hpos hzero htri HYA
     subst he
     have he1 := txt_eq y.u
     go_wp2
     go_roundw
     case rel => exact ⟨j + 1, true, E, by omega, by go_num, rfl, HG2.out, HMD.out⟩
     case measure => simp [intOf]; omega
    ·have HN : Hid (InsAt UsM.u u m (umS D) (j + 1) true (umS (E ++ [y]))) := by
      rcases htri with h | h | h
      ·exact HBEL.out h
      ·exact absurd h he
      ·exact HABV.out rfl h
     have heq := txt_ne he
     have HG1 := Lib.hid HG.out.own
     have HF1 := Lib.hid HG.out.frame
     have HA1 : Hid (∀ z ∈ E ++ [y], UsAt w z) := fun z hz => by
      rcases List.mem_append.1 hz with h | h
      ·exact HG.out.at_ z h
      ·rw [List.mem_singleton.1 h]; exact HYA.out
     obtain ⟨k0, k1⟩ := HROW.out _ HG.out.frame
     clear HSAM HBEL HABV HLAY HC1 HG HROW hirr hasy hasy2 hne1 hne2 hpos hzero htri HYA he
     go_wp2_with (at_builtin; refine wpList_append_own _ rfl (.tmp 61) (.tmp 66) 23 rfl w.heap.size 131 i0 _ 2 40 Tryz.underlying23 hi hz0 hz1 hz2 rfl (by decide) _ _ _ rfl (own_below HG1.out (below_one _ (.cells #[.string y.u, .slice y.a y.l.length y.c] 131))) ⟨(wr).heap.size, 0, none⟩ 1 1 [.string y.u, .slice y.a y.l.length y.c] rfl rfl (news_at _ _ _ _ rfl) (by intro u hu; simp at hu; rcases hu with rfl | rfl <;> rfl) (by unfold maxLen; omega) (by omega) (Nat.le_trans HF1.out.size (below_one _ _).size) ?_; intro v2 w2 hown2 hgrow2 hiff2; obtain ⟨o2, f2⟩ := own_user (y := y) (own_below HG1.out (below_one _ (.cells #[.string y.u, .slice y.a y.l.length y.c] 131))) (HF1.out.trans ((below_one _ _).mono HF1.out.size)) hown2 hgrow2)
     have HG2 : Hid (PutU w u m D (E ++ [y]) (j + 1) true v2 w2) := ⟨o2, HN.out, HA1.out, f2⟩
     clear hown2 hgrow2 hiff2 o2 f2 HG1 HF1 HA1 HN
     go_wp2
     go_roundw
     case rel => exact ⟨j + 1, true, E ++ [y], by omega, by go_num, rfl, HG2.out, HMD.out⟩
     case measure => simp [intOf]; omega
  ·obtain rfl : j = D.length := by omega
   have hlen := HG.out.len HM1.out
   cases done
   ·have HX := Lib.hid (HMIS.out E (HMD.out rfl) HG.out.ins)
    have HG1 := Lib.hid HG.out.own
    have HF1 := Lib.hid HG.out.frame
    have HA1 : Hid (∀ z ∈ E ++ [(⟨u, sa, l, sc⟩ : UsL)], UsAt w z) := fun z hz => by
     rcases List.mem_append.1 hz with h | h
     ·exact HG.out.at_ z h
     ·rw [List.mem_singleton.1 h]; exact HP.out
    clear HG HMIS HEND HMD HP HC
    go_wp2_with (at_builtin; refine wpList_append_own _ rfl (.tmp 70) (.tmp 74) 23 rfl w.heap.size 131 i0 _ 2 40 Tryz.underlying23 hi hz0 hz1 hz2 rfl (by decide) _ _ _ rfl (own_below HG1.out (below_one _ (.cells #[.string u, .slice sa l.length sc] 131))) ⟨(wr).heap.size, 0, none⟩ 1 1 [.string u, .slice sa l.length sc] rfl rfl (news_at _ _ _ _ rfl) (by intro u hu; simp at hu; rcases hu with rfl | rfl <;> rfl) (by unfold maxLen; omega) (by omega) (Nat.le_trans HF1.out.size (below_one _ _).size) ?_; intro v2 w2 hown2 hgrow2 hiff2; obtain ⟨o2, f2⟩ := own_user (y := (⟨u, sa, l, sc⟩ : UsL)) (own_below HG1.out (below_one _ (.cells #[.string u, .slice sa l.length sc] 131))) (HF1.out.trans ((below_one _ _).mono HF1.out.size)) hown2 hgrow2)
    obtain ⟨xu, qu, rfl, hlu, hmu, hru, hnu⟩ := own_us o2
    have HU := Lib.hid (show UsSl w2 xu (E ++ [(⟨u, sa, l, sc⟩ : UsL)]) from ⟨hru, fun z hz => (HA1.out z hz).below f2⟩)
    have HF2 := Lib.hid f2
    have HCP := Lib.hid (Cp.mk hlu hmu hnu)
    clear hown2 hgrow2 hiff2 o2 f2 HG1 HF1 HA1 hru
    go_wp2
    go_ret
    exact ⟨xu, qu, _, rfl, HU.out, HCP.out, HX.out, HF2.out⟩
   ·have HX := Lib.hid (HEND.out E HG.out.ins)
    obtain ⟨xu, qu, rfl, hlu, hmu, hru, hnu⟩ := own_us HG.out.own
    have HU := Lib.hid (show UsSl wr xu E from ⟨hru, fun z hz => (HG.out.at_ z hz).below HG.out.frame⟩)
    have HF2 := Lib.hid HG.out.frame
    have HCP := Lib.hid (Cp.mk hlu hmu hnu)
    clear HG HMIS HEND HMD HP HC hru
    go_wp2
    go_ret
    exact ⟨xu, qu, _, rfl, HU.out, HCP.out, HX.out, HF2.out⟩
structure PutT (w : World) (u : ByteArray) (m D E : List TbM) (j : Nat) (done : Bool) (v : Value) (W : World) : Prop where
 own : W.ownsRow w.heap.size 137 2 v E.length (tbv E)
 ins : InsAt TbM.u u m D j done E
 frame : Below w.heap.size w W
theorem own_tomb {w W W' : World} {E : List TbM} {v v' : Value} {y : TbM} (ho : W.ownsRow w.heap.size 137 2 v E.length (tbv E)) (hf : Below w.heap.size w W) (h : W'.ownsRow w.heap.size 137 2 v' (E.length + 1) (tbv E ++ [.string y.u, .int .i64 y.a])) (hg : W.grownBy W' v.ownBlock) :
  W'.ownsRow w.heap.size 137 2 v' (E ++ [y]).length (tbv (E ++ [y])) ∧ Below w.heap.size w W' :=
 ⟨by rw [tbv_snoc, List.length_append]; exact h, app_below hf hf.size ho hg⟩
set_option maxHeartbeats 8000000 in
theorem rtombs_any (a : Option Addr) (c : Nat) (D : List TbM) (u : ByteArray) (n : Int) (w : World) (hD : TbSl w a D) (hk : RiseK TbM.u D) (hl : D.length ≤ 1000) (hu : u.size ≤ maxLen) (hs : ∀ y ∈ D, y.u.size ≤ maxLen) :
  Calls Tryz.prog 151 #[.slice a D.length c, .string u, .int .i64 n] w fun e w' => ∃ x q, e = .returned (.slice x (tombU D u n).length q) ∧ TbSl w' x (tombU D u n) ∧ Cp x (tombU D u n).length q ∧ Below w.heap.size w w' := by
 obtain ⟨i0, hi, hz0, hz1, hz2⟩ := info_parts infoTbR
 have HST : Hid (InsAt TbM.u u [⟨u, n⟩] D 0 false []) := InsAt.start fun h => by cases h
 have HEND : Hid (∀ E : List TbM, InsAt TbM.u u [⟨u, n⟩] D D.length true E → E = tombU D u n) := fun E h => h.done
 have HMIS : Hid (∀ E : List TbM, InsAt TbM.u u [⟨u, n⟩] D D.length false E → E ++ [⟨u, n⟩] = tombU D u n) := fun E h => h.miss
 have HD := Lib.hid hD
 have HK := Lib.hid hk
 have HSZ := Lib.hid hs
 have HC := Lib.hid (fun (b : ByteArray) V (hb : b.size ≤ maxLen) => rcmp11 u b V hu hb)
 clear hD hk hs
 go_enter Tryz.func151, Tryz.ntmps151
 go_wp2
 go_loopw [7, 8, 9] (fun v dn iv wr => ∃ (j : Nat) (done : Bool) (E : List TbM), j ≤ D.length ∧ iv = .int .i64 j ∧ dn = .bool done ∧ Hid (PutT w u [⟨u, n⟩] D E j done v wr)) (fun _ _ iv _ => D.length - (intOf iv).toNat)
 case atStart => exact ⟨0, false, [], by omega, rfl, rfl, ⟨⟨rfl, .inl ⟨rfl, rfl⟩⟩, HST.out, Below.refl _ _⟩⟩
 case round =>
  clear HST
  obtain ⟨j, done, E, hj, rfl, rfl, HG⟩ := hrel
  have hlen : E.length ≤ j + 1 := HG.out.ins.len
  by_cases hjl : j < D.length
  ·obtain ⟨b, off, rfl, hbl, r0, r1⟩ := (HD.out.below HG.out.frame).get hjl
   have HC1 := Lib.hid (HC.out (D[j]).u wr (HSZ.out _ (List.getElem_mem hjl)))
   have HROW : Hid (∀ V, Below w.heap.size w V → V.cell? ⟨b, off + j * 2, none⟩ = some (.string (D[j]).u) ∧ V.cell? ⟨b, off + j * 2 + 1, none⟩ = some (.int .i64 (D[j]).a)) := fun V q => by
    obtain ⟨b', off', e, -, k0, k1⟩ := (HD.out.below q).get hjl
    cases e
    exact ⟨k0, k1⟩
   have HSAM : Hid (done = true → (D[j]).u = u → InsAt TbM.u u [⟨u, n⟩] D (j + 1) true E) := fun h1 h2 => by subst h1; exact HG.out.ins.same hjl h2
   have HBEL : Hid (cmpS (D[j]).u u < 0 → InsAt TbM.u u [⟨u, n⟩] D (j + 1) done (E ++ [D[j]])) := fun h => HG.out.ins.below HK.out hjl h
   have HABV : Hid (done = true → cmpS u (D[j]).u < 0 → InsAt TbM.u u [⟨u, n⟩] D (j + 1) true (E ++ [D[j]])) := fun h1 h => by subst h1; exact HG.out.ins.above hjl h
   have HLAY : Hid (done = false → ¬ cmpS (D[j]).u u < 0 → ((D[j]).u = u → InsAt TbM.u u [⟨u, n⟩] D (j + 1) true (E ++ [⟨u, n⟩])) ∧ (cmpS u (D[j]).u < 0 → InsAt TbM.u u [⟨u, n⟩] D (j + 1) true ((E ++ [⟨u, n⟩]) ++ [D[j]]))) := fun h1 h => by
    subst h1
    exact HG.out.ins.lay HK.out hjl h
   have htri := cmpS_tri (D[j]).u u
   have hirr := @cmpS_irr u
   have hasy2 : cmpS u (D[j]).u < 0 → ¬ cmpS (D[j]).u u < 0 := cmpS_asym
   have hne1 : cmpS (D[j]).u u < 0 → (D[j]).u ≠ u := cmpS_ne
   have hne2 : cmpS u (D[j]).u < 0 → (D[j]).u ≠ u := fun h e => cmpS_ne h e.symm
   have hpos : cmpS (D[j]).u u < 0 → 0 < cmpS u (D[j]).u := fun h => by rw [cmpS_neg]; omega
   have hzero : (D[j]).u = u → cmpS u (D[j]).u = 0 := fun h => by rw [h]; exact cmpS_self _
   clear HC HSZ HD HK r0 r1 HEND HMIS
   generalize D[j] = y at *
   cases done
   ·rcases htri with h | h | h
    ·have HN := Lib.hid (HBEL.out h)
     have heq := txt_ne (hne1 h)
     have hp := hpos h
     clear HSAM HBEL HABV HLAY hirr hasy2 hne1 hne2 hpos hzero h
     generalize cmpS u y.u = cv at *
     obtain ⟨k0, k1⟩ := HROW.out _ HG.out.frame
     go_wp2_with fail
     refine HC1.out.mono ?_
     rintro e w1 ⟨rfl, h1⟩
     have HG1 := Lib.hid (own_below HG.out.own h1)
     have HF1 := Lib.hid (HG.out.frame.trans (h1.mono HG.out.frame.size))
     clear k0 k1
     obtain ⟨k0, k1⟩ := HROW.out _ HF1.out
     clear HG h1 HC1
     go_wp2_with (at_builtin; refine wpList_append_own _ rfl (.tmp 41) (.tmp 46) 25 rfl w.heap.size 137 i0 _ 2 24 Tryz.underlying25 hi hz0 hz1 hz2 rfl (by decide) _ _ _ rfl (own_below HG1.out (below_one _ (.cells #[.string y.u, .int .i64 y.a] 137))) ⟨(w1).heap.size, 0, none⟩ 1 1 [.string y.u, .int .i64 y.a] rfl rfl (news_at _ _ _ _ rfl) (by intro u hu; simp at hu; rcases hu with rfl | rfl <;> rfl) (by unfold maxLen; omega) (by omega) (Nat.le_trans HF1.out.size (below_one _ _).size) ?_; intro v2 w2 hown2 hgrow2 hiff2; obtain ⟨o2, f2⟩ := own_tomb (y := y) (own_below HG1.out (below_one _ (.cells #[.string y.u, .int .i64 y.a] 137))) (HF1.out.trans ((below_one _ _).mono HF1.out.size)) hown2 hgrow2)
     have HG2 : Hid (PutT w u [⟨u, n⟩] D (E ++ [y]) (j + 1) false v2 w2) := ⟨o2, HN.out, f2⟩
     clear hown2 hgrow2 hiff2 o2 f2 HG1 HF1 HN
     go_wp2
     go_roundw
     case rel => exact ⟨j + 1, false, E ++ [y], by omega, by go_num, rfl, HG2.out⟩
     case measure => simp [intOf]; omega
    ·have HN := Lib.hid ((HLAY.out rfl (by rw [h]; exact hirr)).1 h)
     have hp := hzero h
     clear HSAM HBEL HABV HLAY hirr hasy2 hne1 hne2 hpos hzero
     generalize cmpS u y.u = cv at *
     subst hp
     subst h
     have he1 := txt_eq y.u
     obtain ⟨k0, k1⟩ := HROW.out _ HG.out.frame
     go_wp2_with fail
     refine HC1.out.mono ?_
     rintro e w1 ⟨rfl, h1⟩
     have HG1 := Lib.hid (own_below HG.out.own h1)
     have HF1 := Lib.hid (HG.out.frame.trans (h1.mono HG.out.frame.size))
     clear k0 k1
     obtain ⟨k0, k1⟩ := HROW.out _ HF1.out
     clear HG h1 HC1
     go_wp2_with (at_builtin; refine wpList_append_own _ rfl (.tmp 28) (.tmp 32) 25 rfl w.heap.size 137 i0 _ 2 24 Tryz.underlying25 hi hz0 hz1 hz2 rfl (by decide) _ _ _ rfl (own_below HG1.out (below_one _ (.cells #[.string y.u, .int .i64 n] 137))) ⟨(w1).heap.size, 0, none⟩ 1 1 [.string y.u, .int .i64 n] rfl rfl (news_at _ _ _ _ rfl) (by intro u hu; simp at hu; rcases hu with rfl | rfl <;> rfl) (by unfold maxLen; omega) (by omega) (Nat.le_trans HF1.out.size (below_one _ _).size) ?_; intro v2 w2 hown2 hgrow2 hiff2; obtain ⟨o2, f2⟩ := own_tomb (y := (⟨y.u, n⟩ : TbM)) (own_below HG1.out (below_one _ (.cells #[.string y.u, .int .i64 n] 137))) (HF1.out.trans ((below_one _ _).mono HF1.out.size)) hown2 hgrow2; obtain ⟨m0, m1⟩ := HROW.out _ f2; clear k0 k1)
     have HG2 : Hid (PutT w y.u [⟨y.u, n⟩] D (E ++ [⟨y.u, n⟩]) (j + 1) true v2 w2) := ⟨o2, HN.out, f2⟩
     clear hown2 hgrow2 hiff2 o2 f2 HG1 HF1 HN HROW
     go_wp2
     go_roundw
     case rel => exact ⟨j + 1, true, _, by omega, by go_num, rfl, HG2.out⟩
     case measure => simp [intOf]; omega
    ·have HN := Lib.hid ((HLAY.out rfl (hasy2 h)).2 h)
     have heq := txt_ne (hne2 h)
     have hp := h
     clear HSAM HBEL HABV HLAY hirr hasy2 hne1 hne2 hpos hzero h
     generalize cmpS u y.u = cv at *
     obtain ⟨k0, k1⟩ := HROW.out _ HG.out.frame
     go_wp2_with fail
     refine HC1.out.mono ?_
     rintro e w1 ⟨rfl, h1⟩
     have HG1 := Lib.hid (own_below HG.out.own h1)
     have HF1 := Lib.hid (HG.out.frame.trans (h1.mono HG.out.frame.size))
     clear k0 k1
     obtain ⟨k0, k1⟩ := HROW.out _ HF1.out
     clear HG h1 HC1
     go_wp2_with (first | (at_builtin; refine wpList_append_own _ rfl (.tmp 28) (.tmp 32) 25 rfl w.heap.size 137 i0 _ 2 24 Tryz.underlying25 hi hz0 hz1 hz2 rfl (by decide) _ _ _ rfl (own_below HG1.out (below_one _ (.cells #[.string u, .int .i64 n] 137))) ⟨(w1).heap.size, 0, none⟩ 1 1 [.string u, .int .i64 n] rfl rfl (news_at _ _ _ _ rfl) (by intro u hu; simp at hu; rcases hu with rfl | rfl <;> rfl) (by unfold maxLen; omega) (by omega) (Nat.le_trans HF1.out.size (below_one _ _).size) ?_; intro v2 w2 hown2 hgrow2 hiff2; obtain ⟨o2, f2⟩ := own_tomb (y := (⟨u, n⟩ : TbM)) (own_below HG1.out (below_one _ (.cells #[.string u, .int .i64 n] 137))) (HF1.out.trans ((below_one _ _).mono HF1.out.size)) hown2 hgrow2; have G2 := Lib.hid o2; have F2 := Lib.hid f2; obtain ⟨m0, m1⟩ := HROW.out _ f2; clear hown2 hgrow2 hiff2 o2 f2 k0 k1; have hEl : (E ++ [(⟨u, n⟩ : TbM)]).length ≤ j + 2 := (by rw [List.length_append, List.length_singleton]; omega)) | (at_builtin; refine wpList_append_own _ rfl (.tmp 41) (.tmp 46) 25 rfl w.heap.size 137 i0 _ 2 24 Tryz.underlying25 hi hz0 hz1 hz2 rfl (by decide) _ _ _ rfl (own_below G2.out (below_one _ (.cells #[.string y.u, .int .i64 y.a] 137))) ⟨(w2).heap.size, 0, none⟩ 1 1 [.string y.u, .int .i64 y.a] rfl rfl (news_at _ _ _ _ rfl) (by intro u hu; simp at hu; rcases hu with rfl | rfl <;> rfl) (by unfold maxLen; omega) (by omega) (Nat.le_trans F2.out.size (below_one _ _).size) ?_; intro v3 w3 hown3 hgrow3 hiff3; obtain ⟨o3, f3⟩ := own_tomb (y := y) (own_below G2.out (below_one _ (.cells #[.string y.u, .int .i64 y.a] 137))) (F2.out.trans ((below_one _ _).mono F2.out.size)) hown3 hgrow3))
     have HG2 : Hid (PutT w u [⟨u, n⟩] D ((E ++ [(⟨u, n⟩ : TbM)]) ++ [y]) (j + 1) true v3 w3) := ⟨o3, HN.out, f3⟩
     clear hown3 hgrow3 hiff3 o3 f3 HG1 HF1 HN HROW G2 F2
     go_wp2
     go_roundw
     case rel => exact ⟨j + 1, true, _, by omega, by go_num, rfl, HG2.out⟩
     case measure => simp [intOf]; omega
   ·by_cases he : y.u = u
    ·have HN := Lib.hid (HSAM.out rfl he)
     have HG2 := Lib.hid (PutT.mk HG.out.own HN.out HG.out.frame)
     obtain ⟨k0, k1⟩ := HROW.out _ HG.out.frame
     clear HSAM HBEL HABV HLAY HC1 HG HN HROW hirr hasy2 hne1 hne2 hpos hzero htri
     subst he
     have he1 := txt_eq y.u
     go_wp2
     go_roundw
     case rel => exact ⟨j + 1, true, E, by omega, by go_num, rfl, HG2.out⟩
     case measure => simp [intOf]; omega
    ·have HN : Hid (InsAt TbM.u u [⟨u, n⟩] D (j + 1) true (E ++ [y])) := by
      rcases htri with h | h | h
      ·exact HBEL.out h
      ·exact absurd h he
      ·exact HABV.out rfl h
     have heq := txt_ne he
     have HG1 := Lib.hid HG.out.own
     have HF1 := Lib.hid HG.out.frame
     obtain ⟨k0, k1⟩ := HROW.out _ HG.out.frame
     clear HSAM HBEL HABV HLAY HC1 HG HROW hirr hasy2 hne1 hne2 hpos hzero htri he
     go_wp2_with (at_builtin; refine wpList_append_own _ rfl (.tmp 41) (.tmp 46) 25 rfl w.heap.size 137 i0 _ 2 24 Tryz.underlying25 hi hz0 hz1 hz2 rfl (by decide) _ _ _ rfl (own_below HG1.out (below_one _ (.cells #[.string y.u, .int .i64 y.a] 137))) ⟨(wr).heap.size, 0, none⟩ 1 1 [.string y.u, .int .i64 y.a] rfl rfl (news_at _ _ _ _ rfl) (by intro u hu; simp at hu; rcases hu with rfl | rfl <;> rfl) (by unfold maxLen; omega) (by omega) (Nat.le_trans HF1.out.size (below_one _ _).size) ?_; intro v2 w2 hown2 hgrow2 hiff2; obtain ⟨o2, f2⟩ := own_tomb (y := y) (own_below HG1.out (below_one _ (.cells #[.string y.u, .int .i64 y.a] 137))) (HF1.out.trans ((below_one _ _).mono HF1.out.size)) hown2 hgrow2)
     have HG2 : Hid (PutT w u [⟨u, n⟩] D (E ++ [y]) (j + 1) true v2 w2) := ⟨o2, HN.out, f2⟩
     clear hown2 hgrow2 hiff2 o2 f2 HG1 HF1 HN
     go_wp2
     go_roundw
     case rel => exact ⟨j + 1, true, E ++ [y], by omega, by go_num, rfl, HG2.out⟩
     case measure => simp [intOf]; omega
  ·obtain rfl : j = D.length := by omega
   cases done
   ·have HX := Lib.hid (HMIS.out E HG.out.ins)
    have HG1 := Lib.hid HG.out.own
    have HF1 := Lib.hid HG.out.frame
    clear HG HMIS HEND HC
    go_wp2_with (at_builtin; refine wpList_append_own _ rfl (.tmp 50) (.tmp 54) 25 rfl w.heap.size 137 i0 _ 2 24 Tryz.underlying25 hi hz0 hz1 hz2 rfl (by decide) _ _ _ rfl (own_below HG1.out (below_one _ (.cells #[.string u, .int .i64 n] 137))) ⟨(wr).heap.size, 0, none⟩ 1 1 [.string u, .int .i64 n] rfl rfl (news_at _ _ _ _ rfl) (by intro u hu; simp at hu; rcases hu with rfl | rfl <;> rfl) (by unfold maxLen; omega) (by omega) (Nat.le_trans HF1.out.size (below_one _ _).size) ?_; intro v2 w2 hown2 hgrow2 hiff2; obtain ⟨o2, f2⟩ := own_tomb (y := (⟨u, n⟩ : TbM)) (own_below HG1.out (below_one _ (.cells #[.string u, .int .i64 n] 137))) (HF1.out.trans ((below_one _ _).mono HF1.out.size)) hown2 hgrow2)
    obtain ⟨xu, qu, rfl, hlu, hmu, hru, hnu⟩ := own_tb o2
    have HU := Lib.hid hru
    have HF2 := Lib.hid f2
    have HCP := Lib.hid (Cp.mk hlu hmu hnu)
    clear hown2 hgrow2 hiff2 o2 f2 HG1 HF1 hru
    rw [HX.out] at HU HCP
    have HLE := Lib.hid (congrArg List.length HX.out)
    go_wp2
    go_ret
    exact ⟨xu, qu, by rw [← HLE.out]; rfl, HU.out, HCP.out, HF2.out⟩
   ·have HX := Lib.hid (HEND.out E HG.out.ins)
    obtain ⟨xu, qu, rfl, hlu, hmu, hru, hnu⟩ := own_tb HG.out.own
    have HU := Lib.hid hru
    have HF2 := Lib.hid HG.out.frame
    have HCP := Lib.hid (Cp.mk hlu hmu hnu)
    clear HG HMIS HEND HC hru
    rw [HX.out] at HU HCP
    have HLE := Lib.hid (congrArg List.length HX.out)
    go_wp2
    go_ret
    exact ⟨xu, qu, by rw [← HLE.out]; rfl, HU.out, HCP.out, HF2.out⟩
end Go.Proofs.YtmfpjapiijgdgaaGreat
