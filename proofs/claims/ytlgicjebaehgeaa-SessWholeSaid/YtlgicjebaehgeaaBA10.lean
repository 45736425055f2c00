/- Layer 10: a session is opened, in the document: contract. -/
import Derived.Test.YtlgicjebaehgeaaBA9
namespace Go.Proofs.Ytlgicjebaehgeaa
open Go.RowKit Go.Proofs
set_option linter.unusedVariables false
set_option maxRecDepth 100000

theorem wpList_append_op2 {P : Program} (w : World) {ops : Array Oper} {rest : List Oper} {o : Oper} {a : Act} {Q : Exit → Act → World → Prop} (hgd : o.guard = none) (s x : Operand) (t : TypeId)
    (ho : o.op = .call { callee := .builtin .append, args := #[s, x], argTypes := #[t, t] })
    (base : Nat) (e : TypeId) (i : TypeInfo) (z : Value) (ht : P.underlying t = some (.slice e)) (hi : P.info? e = some i) (hz : i.zero = some z)
    (hsize : i.size = 4) (hby : i.bytes = 40) (hzs : z.cells.size = 4)
    (v : Value) (l : List OpM) (hs : a.eval s = v) (hown : w.ownsRow base e 4 v l.length (oes l))
    (A : Option Addr) (c : Nat) (m : List OpM) (n : Nat) (hn : n = m.length) (hx : a.eval x = .slice A n c) (hsl : OpSl w A m) (hnil : A = none → c = 0)
    (hlen : l.length + m.length ≤ 1000000) (hbase : base ≤ w.heap.size)
    (h : ∀ v' w', w'.ownsRow base e 4 v' (l ++ m).length (oes (l ++ m)) → Below base w w' → wpList P ops Q rest (a.put o.dst v') w') : wpList P ops Q (o :: rest) a w := by
  subst hn
  exact wpList_append_op w hgd s x t ho base e i z ht hi hz hsize hby hzs v l hs hown A c m hx hsl hnil hlen hbase h

theorem oown_snoc {w : World} {B : Nat} {e : TypeId} {v : Value} {m : List OpM} {x : OpM} (h : w.ownsRow B e 4 v (m.length + 1) (oes m ++ [.int .i64 x.n, .string x.u, .int .i64 x.s, .int .i64 x.f])) : w.ownsRow B e 4 v (m ++ [x]).length (oes (m ++ [x])) := by
  rw [List.length_append, oes_snoc]
  exact h

set_option maxHeartbeats 8000000 in
theorem ropen_any (a : Option Addr) (c : Nat) (l : List OpM) (e : OpM) (w : World) (hr : OpSl w a l) (hn : a = none → c = 0) (hl : l.length ≤ 500) (hc : l.length ≤ c) (hcm : c ≤ maxLen) :
    Calls Try.prog 13 #[.slice a l.length c, opV e] w fun r w' => ∃ v, r = .returned (.tuple #[v, .int .i64 (openC l e)]) ∧ GotO w w' (openR l e) v := by
  obtain ⟨i0, hi, hz0, hz1, hz2⟩ := info_parts infoOpR
  have HIF := Lib.hid (fun W (h : OpSl W a l) => rat_any a c l e.n W h (by omega))
  have HNil := Lib.hid hn
  have HK0 := Lib.hid (RsO.new (x := e) hr (Below.refl _ _) 24)
  have HSB : Hid (∀ W, RsO w w.heap.size e a l W → W.cell? ⟨w.heap.size, 0, none⟩ = some (.int .i64 e.n) ∧ W.cell? ⟨w.heap.size, 1, none⟩ = some (.string e.u) ∧ W.cell? ⟨w.heap.size, 2, none⟩ = some (.int .i64 e.s) ∧ W.cell? ⟨w.heap.size, 3, none⟩ = some (.int .i64 e.f)) := fun W h => h.box
  have HGA := Lib.hid (fun k (h : IsFst (abvN e.n) l k) => open_at h)
  have hDA := idxO_any (hasN e.n) l
  have hOC : openC l e = if l.any (hasN e.n) = true then 100 else if 16 ≤ l.length then 103 else 0 := rfl
  have hOR : openR l e = if openC l e = 0 then openS l e else [] := rfl
  unfold opV
  unfold maxLen at hcm
  generalize idxO (hasN e.n) l = ix at *
  cases hi2 : l.any (hasN e.n) with
  | true =>
    rw [hi2] at hDA
    rw [hi2, if_pos rfl] at hOC
    rw [hOC, if_neg (by decide)] at hOR
    rw [hOC, hOR]
    clear hr hn hi2 hOC hOR HGA
    go_enter Try.func13, Try.ntmps13
    obtain ⟨y0, y1, y2, y3⟩ := HSB.out _ HK0.out
    go_wp2_with fail
    refine (HIF.out _ HK0.out.row).mono ?_
    rintro r w1 ⟨rfl, hB⟩
    have K1 := HK0.out.below hB
    clear HIF hB y0 y1 y2 y3
    go_wp2
    go_ret2
    exact ⟨_, rfl, GotO.nil K1.frame⟩
  | false =>
    rw [hi2] at hDA
    rw [hi2, if_neg Bool.false_ne_true] at hOC
    by_cases h16 : 16 ≤ l.length
    · rw [if_pos h16] at hOC
      rw [hOC, if_neg (by decide)] at hOR
      rw [hOC, hOR]
      have d1 : decide ((16 : Int) ≤ (l.length : Int)) = true := decide_eq_true (by omega)
      have d2 : decide ((l.length : Int) ≥ (16 : Int)) = true := decide_eq_true (by omega)
      clear hr hn hi2 hOC hOR HGA
      go_enter Try.func13, Try.ntmps13
      obtain ⟨y0, y1, y2, y3⟩ := HSB.out _ HK0.out
      go_wp2_with fail
      refine (HIF.out _ HK0.out.row).mono ?_
      rintro r w1 ⟨rfl, hB⟩
      have K1 := HK0.out.below hB
      clear HIF hB y0 y1 y2 y3
      go_wp2
      go_ret2
      exact ⟨_, rfl, GotO.nil K1.frame⟩
    · rw [if_neg h16] at hOC
      rw [hOC, if_pos rfl] at hOR
      rw [hOC, hOR]
      have d1 : decide ((16 : Int) ≤ (l.length : Int)) = false := decide_eq_false (by omega)
      have d2 : decide ((l.length : Int) ≥ (16 : Int)) = false := decide_eq_false (by omega)
      generalize hG : openS l e = G at *
      clear hr hn hi2 hOC hOR h16 hG
      go_enter Try.func13, Try.ntmps13
      obtain ⟨y0, y1, y2, y3⟩ := HSB.out _ HK0.out
      go_wp2_with fail
      refine (HIF.out _ HK0.out.row).mono ?_
      rintro r w1 ⟨rfl, hB⟩
      have K1 := HK0.out.below hB
      clear HIF hB y0 y1 y2 y3
      have HK1 := Lib.hid K1
      clear HK0 K1
      generalize w.heap.size = g at *
      go_wp2
      clear d1 d2 hDA
      go_loopw [6] (fun i wr => ∃ (j : Nat), j ≤ l.length ∧ i = .int .i64 j ∧ Hid (LoTo (abvN e.n) l j) ∧ Hid (RsO w g e a l wr)) (fun i _ => l.length - (intOf i).toNat)
      case atStart => exact ⟨0, by omega, rfl, LoTo.zero _ _, HK1.out⟩
      case round =>
        clear HK1
        obtain ⟨j, hj, rfl, HO, HK⟩ := hrel
        by_cases hjl : j < l.length
        · obtain ⟨b, off, rfl, -, hc0, hc1, hc2, hc3⟩ := HK.out.row.at_ hjl
          obtain ⟨x0, x1, x2, x3⟩ := HSB.out _ HK.out
          have HNX := Lib.hid (HO.out.next hjl)
          have HHT := Lib.hid (HO.out.hit hjl)
          have dj : decide ((j : Int) < (l.length : Int)) = true := decide_eq_true (by omega)
          generalize l[j] = x at *
          by_cases h3 : e.n < x.n
          · have HP := Lib.hid (HHT.out (decide_eq_true h3))
            have d4 : decide (x.n ≤ e.n) = false := decide_eq_false (by omega)
            clear HNX HHT HO h3 HNil
            go_wp2
            go_quiet (fail)
            have K3 := HK.out.below (Drew.below (w' := wr.drewN nq) ⟨nq, rfl⟩ _)
            generalize wr.drewN nq = K3W at *
            clear hc0 hc1 hc2 hc3 x0 x1 x2 x3 dj d4 HK
            have hcj : ¬ c = j := by omega
            have hcj2 : j < c := by omega
            have hpc : j ≤ c := by omega
            have hz1' : (0 : Int) ≤ (j : Int) := by omega
            have hz2' : (j : Int) ≤ (l.length : Int) := by omega
            have hz3' : (j : Int) ≤ (c : Int) := by omega
            have hz4' : (l.length : Int) ≤ (c : Int) := by omega
            obtain ⟨m1, e1⟩ : ∃ m, m = l.take j := ⟨_, rfl⟩
            obtain ⟨m2, e2⟩ : ∃ m, m = l.drop j := ⟨_, rfl⟩
            have HL1 : Hid (j = m1.length) := by unfold Hid; rw [e1, List.length_take]; omega
            have HL2 : Hid (l.length - j = m2.length) := by unfold Hid; rw [e2, List.length_drop]
            have hk1 : (some ⟨b, off, none⟩ : Option Addr) = none → c = 0 := fun h => (by cases h)
            have hk2 : (some ⟨b, off + j * 4, none⟩ : Option Addr) = none → c - j = 0 := fun h => (by cases h)
            have HS1 : Hid (∀ W, Below K3W.heap.size K3W W → OpSl W (some ⟨b, off, none⟩) m1) := fun W h => by rw [e1]; exact (K3.row.below h).take j
            have HS2 : Hid (∀ W, Below K3W.heap.size K3W W → OpSl W (some ⟨b, off + j * 4, none⟩) m2) := fun W h => by rw [e2]; exact (K3.row.below h).drop j
            have HGG : Hid (m1 ++ [e] ++ m2 = G) := by unfold Hid; rw [e1, e2, HGA.out j HP.out, List.append_assoc]; rfl
            clear e1 e2
            clear HGA HP
            have hb1 : m1.length ≤ 500 := by have := HL1.out; omega
            have hb2 : m2.length ≤ 500 := by have := HL2.out; omega
            have HE0 := Lib.hid (own_emptyO K3W 24 4 K3W.heap.size (Nat.le_refl _))
            have HEB := Lib.hid (below_one K3W (.cells #[] 24))
            have HM1 := Lib.hid (HS1.out _ HEB.out)
            have HMS := Lib.hid HEB.out.size
            go_wp2_with (first | (at_builtin; refine wpList_append_op2 _ rfl (.tmp 32) (.tmp 35) 22 rfl K3W.heap.size 24 i0 _ Try.underlying22 hi hz0 hz1 hz2 rfl _ [] rfl HE0.out (some ⟨b, off, none⟩) c m1 j HL1.out rfl HM1.out hk1 (by simp; omega) HMS.out ?_; intro v1 w4 ho1 hB1; have HO1 := Lib.hid ho1; have HB1 := Lib.hid (HEB.out.trans hB1); have HO1A : Hid ((w4.alloc (.cells #[.int .i64 e.n, .string e.u, .int .i64 e.s, .int .i64 e.f] 24)).ownsRow K3W.heap.size 24 4 v1 m1.length (oes m1)) := own_below HO1.out (below_one w4 (.cells #[.int .i64 e.n, .string e.u, .int .i64 e.s, .int .i64 e.f] 24)); have HB1A := Lib.hid (HB1.out.trans ((below_one w4 (.cells #[.int .i64 e.n, .string e.u, .int .i64 e.s, .int .i64 e.f] 24)).mono HB1.out.size)); have HS1A := Lib.hid HB1A.out.size; clear ho1 hB1; obtain ⟨d0, d1, d2, d3⟩ := HSB.out _ (K3.below HB1.out)) | (at_builtin; refine wpList_append_own _ rfl (.tmp 37) (.tmp 39) 22 rfl K3W.heap.size 24 i0 _ 4 40 Try.underlying22 hi hz0 hz1 hz2 rfl (by decide) _ _ _ rfl HO1A.out ⟨w4.heap.size, 0, none⟩ 1 1 [.int .i64 e.n, .string e.u, .int .i64 e.s, .int .i64 e.f] rfl rfl (news_at _ _ _ _ rfl) (four_o _ _ _ _) (by unfold maxLen; omega) (by omega) HS1A.out ?_; intro v2 w5 ho2 hgrow hiff; have HB2 := Lib.hid (app_below HB1A.out HS1A.out HO1A.out hgrow); have HO2 : Hid (w5.ownsRow K3W.heap.size 24 4 v2 (m1 ++ [e]).length (oes (m1 ++ [e]))) := oown_snoc ho2; clear ho2 hgrow hiff; have HM2 := Lib.hid (HS2.out _ HB2.out); have HMS2 := Lib.hid HB2.out.size) | (at_builtin; refine wpList_append_op2 _ rfl (.tmp 41) (.tmp 44) 22 rfl K3W.heap.size 24 i0 _ Try.underlying22 hi hz0 hz1 hz2 rfl _ (m1 ++ [e]) rfl HO2.out (some ⟨b, off + j * 4, none⟩) (c - j) m2 (l.length - j) HL2.out rfl HM2.out hk2 (by simp; omega) HMS2.out ?_; intro v3 w6 ho3 hB3; have HO3 := Lib.hid ho3; have HB3 := Lib.hid (HB2.out.trans hB3); clear ho3 hB3))
            rw [HGG.out] at HO3
            go_ret2
            first | exact ⟨v3, rfl, GotO.of HO3.out (K3.frame.trans (HB3.out.mono K3.frame.size))⟩ | exact ⟨v3, by trivial, GotO.of HO3.out (K3.frame.trans (HB3.out.mono K3.frame.size))⟩
          · have HN := Lib.hid (HNX.out (decide_eq_false h3))
            have d4 : decide (x.n ≤ e.n) = true := decide_eq_true (by omega)
            clear HNX HHT HO h3 HNil HGA
            go_wp2
            go_quiet (fail)
            go_wp2
            go_roundw
            case rel => exact ⟨j + 1, by omega, by go_num, HN, HK.out.below (Drew.below ⟨_, rfl⟩ _)⟩
            case measure => simp [intOf]; omega
        · have hje : j = l.length := by omega
          have HP : Hid (IsFst (abvN e.n) l j) := by rw [hje] at HO ⊢; exact HO.out.miss
          have dj : decide ((j : Int) < (l.length : Int)) = false := decide_eq_false (by omega)
          clear HO
          go_wp2
          go_quiet (fail)
          have K3 := HK.out.below (Drew.below (w' := wr.drewN nq) ⟨nq, rfl⟩ _)
          generalize wr.drewN nq = K3W at *
          clear dj HK
          cases a with
          | none =>
            have hc0 := HNil.out rfl
            have hl0 := K3.row.snil
            subst hc0 hl0
            obtain rfl : j = 0 := by simpa using hje
            obtain ⟨m1, e1⟩ : ∃ m : List OpM, m = [] := ⟨_, rfl⟩
            obtain ⟨m2, e2⟩ : ∃ m : List OpM, m = [] := ⟨_, rfl⟩
            have HL1 : Hid (0 = m1.length) := by unfold Hid; rw [e1]; rfl
            have HL2 : Hid (0 = m2.length) := by unfold Hid; rw [e2]; rfl
            have hk1 : (none : Option Addr) = none → 0 = 0 := fun _ => rfl
            have hk2 : (none : Option Addr) = none → 0 = 0 := fun _ => rfl
            have HS1 : Hid (∀ W, Below K3W.heap.size K3W W → OpSl W (none : Option Addr) m1) := fun W h => by rw [e1]; exact OpSl.nil _ _
            have HS2 : Hid (∀ W, Below K3W.heap.size K3W W → OpSl W (none : Option Addr) m2) := fun W h => by rw [e2]; exact OpSl.nil _ _
            have HGG : Hid (m1 ++ [e] ++ m2 = G) := by unfold Hid; rw [e1, e2, HGA.out 0 HP.out]; rfl
            clear e1 e2
            clear HGA HP HNil hje
            have hb1 : m1.length ≤ 500 := by have := HL1.out; omega
            have hb2 : m2.length ≤ 500 := by have := HL2.out; omega
            have HE0 := Lib.hid (own_emptyO K3W 24 4 K3W.heap.size (Nat.le_refl _))
            have HEB := Lib.hid (below_one K3W (.cells #[] 24))
            have HM1 := Lib.hid (HS1.out _ HEB.out)
            have HMS := Lib.hid HEB.out.size
            go_wp2_with (first | (at_builtin; refine wpList_append_op2 _ rfl (.tmp 32) (.tmp 35) 22 rfl K3W.heap.size 24 i0 _ Try.underlying22 hi hz0 hz1 hz2 rfl _ [] rfl HE0.out none 0 m1 0 HL1.out rfl HM1.out hk1 (by simp; omega) HMS.out ?_; intro v1 w4 ho1 hB1; have HO1 := Lib.hid ho1; have HB1 := Lib.hid (HEB.out.trans hB1); have HO1A : Hid ((w4.alloc (.cells #[.int .i64 e.n, .string e.u, .int .i64 e.s, .int .i64 e.f] 24)).ownsRow K3W.heap.size 24 4 v1 m1.length (oes m1)) := own_below HO1.out (below_one w4 (.cells #[.int .i64 e.n, .string e.u, .int .i64 e.s, .int .i64 e.f] 24)); have HB1A := Lib.hid (HB1.out.trans ((below_one w4 (.cells #[.int .i64 e.n, .string e.u, .int .i64 e.s, .int .i64 e.f] 24)).mono HB1.out.size)); have HS1A := Lib.hid HB1A.out.size; clear ho1 hB1; obtain ⟨d0, d1, d2, d3⟩ := HSB.out _ (K3.below HB1.out)) | (at_builtin; refine wpList_append_own _ rfl (.tmp 37) (.tmp 39) 22 rfl K3W.heap.size 24 i0 _ 4 40 Try.underlying22 hi hz0 hz1 hz2 rfl (by decide) _ _ _ rfl HO1A.out ⟨w4.heap.size, 0, none⟩ 1 1 [.int .i64 e.n, .string e.u, .int .i64 e.s, .int .i64 e.f] rfl rfl (news_at _ _ _ _ rfl) (four_o _ _ _ _) (by unfold maxLen; omega) (by omega) HS1A.out ?_; intro v2 w5 ho2 hgrow hiff; have HB2 := Lib.hid (app_below HB1A.out HS1A.out HO1A.out hgrow); have HO2 : Hid (w5.ownsRow K3W.heap.size 24 4 v2 (m1 ++ [e]).length (oes (m1 ++ [e]))) := oown_snoc ho2; clear ho2 hgrow hiff; have HM2 := Lib.hid (HS2.out _ HB2.out); have HMS2 := Lib.hid HB2.out.size) | (at_builtin; refine wpList_append_op2 _ rfl (.tmp 41) (.tmp 44) 22 rfl K3W.heap.size 24 i0 _ Try.underlying22 hi hz0 hz1 hz2 rfl _ (m1 ++ [e]) rfl HO2.out none 0 m2 0 HL2.out rfl HM2.out hk2 (by simp; omega) HMS2.out ?_; intro v3 w6 ho3 hB3; have HO3 := Lib.hid ho3; have HB3 := Lib.hid (HB2.out.trans hB3); clear ho3 hB3))
            rw [HGG.out] at HO3
            go_ret2
            first | exact ⟨v3, rfl, GotO.of HO3.out (K3.frame.trans (HB3.out.mono K3.frame.size))⟩ | exact ⟨v3, by trivial, GotO.of HO3.out (K3.frame.trans (HB3.out.mono K3.frame.size))⟩
          | some ad =>
            by_cases hlz : 0 < l.length
            · obtain ⟨b, off, e0, -, -, -, -, -⟩ := K3.row.at_ hlz
              cases e0
              by_cases hcj : c = j
              · subst hje
                subst hcj
                have hz2' : (l.length : Int) ≤ (l.length : Int) := Int.le_refl _
                have hz1' : (0 : Int) ≤ (l.length : Int) := by omega
                obtain ⟨m1, e1⟩ : ∃ m, m = l := ⟨_, rfl⟩
                obtain ⟨m2, e2⟩ : ∃ m : List OpM, m = [] := ⟨_, rfl⟩
                have HL1 : Hid (l.length = m1.length) := by unfold Hid; rw [e1]
                have HL2 : Hid (0 = m2.length) := by unfold Hid; rw [e2]; rfl
                have hk1 : (some ⟨b, off, none⟩ : Option Addr) = none → l.length = 0 := fun h => (by cases h)
                have hk2 : (some ⟨b, off, none⟩ : Option Addr) = none → 0 = 0 := fun h => (by cases h)
                have HS1 : Hid (∀ W, Below K3W.heap.size K3W W → OpSl W (some ⟨b, off, none⟩) m1) := fun W h => by rw [e1]; exact K3.row.below h
                have HS2 : Hid (∀ W, Below K3W.heap.size K3W W → OpSl W (some ⟨b, off, none⟩) m2) := fun W h => by rw [e2]; exact OpSl.nil _ _
                have HGG : Hid (m1 ++ [e] ++ m2 = G) := by unfold Hid; rw [e1, e2, HGA.out l.length HP.out, List.take_of_length_le (Nat.le_refl _), List.drop_of_length_le (Nat.le_refl _), List.append_nil]
                clear e1 e2 HGA HP HNil
                have hb1 : m1.length ≤ 500 := by have := HL1.out; omega
                have hb2 : m2.length ≤ 500 := by have := HL2.out; omega
                have HE0 := Lib.hid (own_emptyO K3W 24 4 K3W.heap.size (Nat.le_refl _))
                have HEB := Lib.hid (below_one K3W (.cells #[] 24))
                have HM1 := Lib.hid (HS1.out _ HEB.out)
                have HMS := Lib.hid HEB.out.size
                go_wp2_with (first | (at_builtin; refine wpList_append_op2 _ rfl (.tmp 32) (.tmp 35) 22 rfl K3W.heap.size 24 i0 _ Try.underlying22 hi hz0 hz1 hz2 rfl _ [] rfl HE0.out (some ⟨b, off, none⟩) l.length m1 l.length HL1.out rfl HM1.out hk1 (by simp; omega) HMS.out ?_; intro v1 w4 ho1 hB1; have HO1 := Lib.hid ho1; have HB1 := Lib.hid (HEB.out.trans hB1); have HO1A : Hid ((w4.alloc (.cells #[.int .i64 e.n, .string e.u, .int .i64 e.s, .int .i64 e.f] 24)).ownsRow K3W.heap.size 24 4 v1 m1.length (oes m1)) := own_below HO1.out (below_one w4 (.cells #[.int .i64 e.n, .string e.u, .int .i64 e.s, .int .i64 e.f] 24)); have HB1A := Lib.hid (HB1.out.trans ((below_one w4 (.cells #[.int .i64 e.n, .string e.u, .int .i64 e.s, .int .i64 e.f] 24)).mono HB1.out.size)); have HS1A := Lib.hid HB1A.out.size; clear ho1 hB1; obtain ⟨d0, d1, d2, d3⟩ := HSB.out _ (K3.below HB1.out)) | (at_builtin; refine wpList_append_own _ rfl (.tmp 37) (.tmp 39) 22 rfl K3W.heap.size 24 i0 _ 4 40 Try.underlying22 hi hz0 hz1 hz2 rfl (by decide) _ _ _ rfl HO1A.out ⟨w4.heap.size, 0, none⟩ 1 1 [.int .i64 e.n, .string e.u, .int .i64 e.s, .int .i64 e.f] rfl rfl (news_at _ _ _ _ rfl) (four_o _ _ _ _) (by unfold maxLen; omega) (by omega) HS1A.out ?_; intro v2 w5 ho2 hgrow hiff; have HB2 := Lib.hid (app_below HB1A.out HS1A.out HO1A.out hgrow); have HO2 : Hid (w5.ownsRow K3W.heap.size 24 4 v2 (m1 ++ [e]).length (oes (m1 ++ [e]))) := oown_snoc ho2; clear ho2 hgrow hiff; have HM2 := Lib.hid (HS2.out _ HB2.out); have HMS2 := Lib.hid HB2.out.size) | (at_builtin; refine wpList_append_op2 _ rfl (.tmp 41) (.tmp 44) 22 rfl K3W.heap.size 24 i0 _ Try.underlying22 hi hz0 hz1 hz2 rfl _ (m1 ++ [e]) rfl HO2.out (some ⟨b, off, none⟩) 0 m2 0 HL2.out rfl HM2.out hk2 (by simp; omega) HMS2.out ?_; intro v3 w6 ho3 hB3; have HO3 := Lib.hid ho3; have HB3 := Lib.hid (HB2.out.trans hB3); clear ho3 hB3))
                rw [HGG.out] at HO3
                go_ret2
                first | exact ⟨v3, rfl, GotO.of HO3.out (K3.frame.trans (HB3.out.mono K3.frame.size))⟩ | exact ⟨v3, by trivial, GotO.of HO3.out (K3.frame.trans (HB3.out.mono K3.frame.size))⟩
              · have hcj2 : j < c := by omega
                have hpc : j ≤ c := by omega
                have hz1' : (0 : Int) ≤ (j : Int) := by omega
                have hz2' : (j : Int) ≤ (l.length : Int) := by omega
                have hz3' : (j : Int) ≤ (c : Int) := by omega
                have hz4' : (l.length : Int) ≤ (c : Int) := by omega
                obtain ⟨m1, e1⟩ : ∃ m, m = l.take j := ⟨_, rfl⟩
                obtain ⟨m2, e2⟩ : ∃ m, m = l.drop j := ⟨_, rfl⟩
                have HL1 : Hid (j = m1.length) := by unfold Hid; rw [e1, List.length_take]; omega
                have HL2 : Hid (l.length - j = m2.length) := by unfold Hid; rw [e2, List.length_drop]
                have hk1 : (some ⟨b, off, none⟩ : Option Addr) = none → c = 0 := fun h => (by cases h)
                have hk2 : (some ⟨b, off + j * 4, none⟩ : Option Addr) = none → c - j = 0 := fun h => (by cases h)
                have HS1 : Hid (∀ W, Below K3W.heap.size K3W W → OpSl W (some ⟨b, off, none⟩) m1) := fun W h => by rw [e1]; exact (K3.row.below h).take j
                have HS2 : Hid (∀ W, Below K3W.heap.size K3W W → OpSl W (some ⟨b, off + j * 4, none⟩) m2) := fun W h => by rw [e2]; exact (K3.row.below h).drop j
                have HGG : Hid (m1 ++ [e] ++ m2 = G) := by unfold Hid; rw [e1, e2, HGA.out j HP.out, List.append_assoc]; rfl
                clear e1 e2
                clear HGA HP HNil hje
                have hb1 : m1.length ≤ 500 := by have := HL1.out; omega
                have hb2 : m2.length ≤ 500 := by have := HL2.out; omega
                have HE0 := Lib.hid (own_emptyO K3W 24 4 K3W.heap.size (Nat.le_refl _))
                have HEB := Lib.hid (below_one K3W (.cells #[] 24))
                have HM1 := Lib.hid (HS1.out _ HEB.out)
                have HMS := Lib.hid HEB.out.size
                go_wp2_with (first | (at_builtin; refine wpList_append_op2 _ rfl (.tmp 32) (.tmp 35) 22 rfl K3W.heap.size 24 i0 _ Try.underlying22 hi hz0 hz1 hz2 rfl _ [] rfl HE0.out (some ⟨b, off, none⟩) c m1 j HL1.out rfl HM1.out hk1 (by simp; omega) HMS.out ?_; intro v1 w4 ho1 hB1; have HO1 := Lib.hid ho1; have HB1 := Lib.hid (HEB.out.trans hB1); have HO1A : Hid ((w4.alloc (.cells #[.int .i64 e.n, .string e.u, .int .i64 e.s, .int .i64 e.f] 24)).ownsRow K3W.heap.size 24 4 v1 m1.length (oes m1)) := own_below HO1.out (below_one w4 (.cells #[.int .i64 e.n, .string e.u, .int .i64 e.s, .int .i64 e.f] 24)); have HB1A := Lib.hid (HB1.out.trans ((below_one w4 (.cells #[.int .i64 e.n, .string e.u, .int .i64 e.s, .int .i64 e.f] 24)).mono HB1.out.size)); have HS1A := Lib.hid HB1A.out.size; clear ho1 hB1; obtain ⟨d0, d1, d2, d3⟩ := HSB.out _ (K3.below HB1.out)) | (at_builtin; refine wpList_append_own _ rfl (.tmp 37) (.tmp 39) 22 rfl K3W.heap.size 24 i0 _ 4 40 Try.underlying22 hi hz0 hz1 hz2 rfl (by decide) _ _ _ rfl HO1A.out ⟨w4.heap.size, 0, none⟩ 1 1 [.int .i64 e.n, .string e.u, .int .i64 e.s, .int .i64 e.f] rfl rfl (news_at _ _ _ _ rfl) (four_o _ _ _ _) (by unfold maxLen; omega) (by omega) HS1A.out ?_; intro v2 w5 ho2 hgrow hiff; have HB2 := Lib.hid (app_below HB1A.out HS1A.out HO1A.out hgrow); have HO2 : Hid (w5.ownsRow K3W.heap.size 24 4 v2 (m1 ++ [e]).length (oes (m1 ++ [e]))) := oown_snoc ho2; clear ho2 hgrow hiff; have HM2 := Lib.hid (HS2.out _ HB2.out); have HMS2 := Lib.hid HB2.out.size) | (at_builtin; refine wpList_append_op2 _ rfl (.tmp 41) (.tmp 44) 22 rfl K3W.heap.size 24 i0 _ Try.underlying22 hi hz0 hz1 hz2 rfl _ (m1 ++ [e]) rfl HO2.out (some ⟨b, off + j * 4, none⟩) (c - j) m2 (l.length - j) HL2.out rfl HM2.out hk2 (by simp; omega) HMS2.out ?_; intro v3 w6 ho3 hB3; have HO3 := Lib.hid ho3; have HB3 := Lib.hid (HB2.out.trans hB3); clear ho3 hB3))
                rw [HGG.out] at HO3
                go_ret2
                first | exact ⟨v3, rfl, GotO.of HO3.out (K3.frame.trans (HB3.out.mono K3.frame.size))⟩ | exact ⟨v3, by trivial, GotO.of HO3.out (K3.frame.trans (HB3.out.mono K3.frame.size))⟩
            · have hl0 : l = [] := List.eq_nil_of_length_eq_zero (by omega)
              subst hl0
              obtain rfl : j = 0 := by simpa using hje
              have hz : (0 : Int) ≤ (c : Int) := by omega
              by_cases hcp : c = 0
              · subst hcp
                obtain ⟨m1, e1⟩ : ∃ m : List OpM, m = [] := ⟨_, rfl⟩
                obtain ⟨m2, e2⟩ : ∃ m : List OpM, m = [] := ⟨_, rfl⟩
                have HL1 : Hid (0 = m1.length) := by unfold Hid; rw [e1]; rfl
                have HL2 : Hid (0 = m2.length) := by unfold Hid; rw [e2]; rfl
                have hk1 : (some ad) = none → 0 = 0 := fun h => (by cases h)
                have hk2 : (some ad) = none → 0 = 0 := fun h => (by cases h)
                have HS1 : Hid (∀ W, Below K3W.heap.size K3W W → OpSl W (some ad) m1) := fun W h => by rw [e1]; exact OpSl.nil _ _
                have HS2 : Hid (∀ W, Below K3W.heap.size K3W W → OpSl W (some ad) m2) := fun W h => by rw [e2]; exact OpSl.nil _ _
                have HGG : Hid (m1 ++ [e] ++ m2 = G) := by unfold Hid; rw [e1, e2, HGA.out 0 HP.out]; rfl
                clear e1 e2
                clear HGA HP HNil hje
                have hb1 : m1.length ≤ 500 := by have := HL1.out; omega
                have hb2 : m2.length ≤ 500 := by have := HL2.out; omega
                have HE0 := Lib.hid (own_emptyO K3W 24 4 K3W.heap.size (Nat.le_refl _))
                have HEB := Lib.hid (below_one K3W (.cells #[] 24))
                have HM1 := Lib.hid (HS1.out _ HEB.out)
                have HMS := Lib.hid HEB.out.size
                go_wp2_with (first | (at_builtin; refine wpList_append_op2 _ rfl (.tmp 32) (.tmp 35) 22 rfl K3W.heap.size 24 i0 _ Try.underlying22 hi hz0 hz1 hz2 rfl _ [] rfl HE0.out (some ad) 0 m1 0 HL1.out rfl HM1.out hk1 (by simp; omega) HMS.out ?_; intro v1 w4 ho1 hB1; have HO1 := Lib.hid ho1; have HB1 := Lib.hid (HEB.out.trans hB1); have HO1A : Hid ((w4.alloc (.cells #[.int .i64 e.n, .string e.u, .int .i64 e.s, .int .i64 e.f] 24)).ownsRow K3W.heap.size 24 4 v1 m1.length (oes m1)) := own_below HO1.out (below_one w4 (.cells #[.int .i64 e.n, .string e.u, .int .i64 e.s, .int .i64 e.f] 24)); have HB1A := Lib.hid (HB1.out.trans ((below_one w4 (.cells #[.int .i64 e.n, .string e.u, .int .i64 e.s, .int .i64 e.f] 24)).mono HB1.out.size)); have HS1A := Lib.hid HB1A.out.size; clear ho1 hB1; obtain ⟨d0, d1, d2, d3⟩ := HSB.out _ (K3.below HB1.out)) | (at_builtin; refine wpList_append_own _ rfl (.tmp 37) (.tmp 39) 22 rfl K3W.heap.size 24 i0 _ 4 40 Try.underlying22 hi hz0 hz1 hz2 rfl (by decide) _ _ _ rfl HO1A.out ⟨w4.heap.size, 0, none⟩ 1 1 [.int .i64 e.n, .string e.u, .int .i64 e.s, .int .i64 e.f] rfl rfl (news_at _ _ _ _ rfl) (four_o _ _ _ _) (by unfold maxLen; omega) (by omega) HS1A.out ?_; intro v2 w5 ho2 hgrow hiff; have HB2 := Lib.hid (app_below HB1A.out HS1A.out HO1A.out hgrow); have HO2 : Hid (w5.ownsRow K3W.heap.size 24 4 v2 (m1 ++ [e]).length (oes (m1 ++ [e]))) := oown_snoc ho2; clear ho2 hgrow hiff; have HM2 := Lib.hid (HS2.out _ HB2.out); have HMS2 := Lib.hid HB2.out.size) | (at_builtin; refine wpList_append_op2 _ rfl (.tmp 41) (.tmp 44) 22 rfl K3W.heap.size 24 i0 _ Try.underlying22 hi hz0 hz1 hz2 rfl _ (m1 ++ [e]) rfl HO2.out (some ad) 0 m2 0 HL2.out rfl HM2.out hk2 (by simp; omega) HMS2.out ?_; intro v3 w6 ho3 hB3; have HO3 := Lib.hid ho3; have HB3 := Lib.hid (HB2.out.trans hB3); clear ho3 hB3))
                rw [HGG.out] at HO3
                go_ret2
                first | exact ⟨v3, rfl, GotO.of HO3.out (K3.frame.trans (HB3.out.mono K3.frame.size))⟩ | exact ⟨v3, by trivial, GotO.of HO3.out (K3.frame.trans (HB3.out.mono K3.frame.size))⟩
              · have hcp2 : 0 < c := by omega
                obtain ⟨m1, e1⟩ : ∃ m : List OpM, m = [] := ⟨_, rfl⟩
                obtain ⟨m2, e2⟩ : ∃ m : List OpM, m = [] := ⟨_, rfl⟩
                have HL1 : Hid (0 = m1.length) := by unfold Hid; rw [e1]; rfl
                have HL2 : Hid (0 = m2.length) := by unfold Hid; rw [e2]; rfl
                have hk1 : (some ad) = none → c = 0 := fun h => (by cases h)
                have hk2 : (some ad) = none → c = 0 := fun h => (by cases h)
                have HS1 : Hid (∀ W, Below K3W.heap.size K3W W → OpSl W (some ad) m1) := fun W h => by rw [e1]; exact OpSl.nil _ _
                have HS2 : Hid (∀ W, Below K3W.heap.size K3W W → OpSl W (some ad) m2) := fun W h => by rw [e2]; exact OpSl.nil _ _
                have HGG : Hid (m1 ++ [e] ++ m2 = G) := by unfold Hid; rw [e1, e2, HGA.out 0 HP.out]; rfl
                clear e1 e2
                clear HGA HP HNil hje
                have hb1 : m1.length ≤ 500 := by have := HL1.out; omega
                have hb2 : m2.length ≤ 500 := by have := HL2.out; omega
                have HE0 := Lib.hid (own_emptyO K3W 24 4 K3W.heap.size (Nat.le_refl _))
                have HEB := Lib.hid (below_one K3W (.cells #[] 24))
                have HM1 := Lib.hid (HS1.out _ HEB.out)
                have HMS := Lib.hid HEB.out.size
                go_wp2_with (first | (at_builtin; refine wpList_append_op2 _ rfl (.tmp 32) (.tmp 35) 22 rfl K3W.heap.size 24 i0 _ Try.underlying22 hi hz0 hz1 hz2 rfl _ [] rfl HE0.out (some ad) c m1 0 HL1.out rfl HM1.out hk1 (by simp; omega) HMS.out ?_; intro v1 w4 ho1 hB1; have HO1 := Lib.hid ho1; have HB1 := Lib.hid (HEB.out.trans hB1); have HO1A : Hid ((w4.alloc (.cells #[.int .i64 e.n, .string e.u, .int .i64 e.s, .int .i64 e.f] 24)).ownsRow K3W.heap.size 24 4 v1 m1.length (oes m1)) := own_below HO1.out (below_one w4 (.cells #[.int .i64 e.n, .string e.u, .int .i64 e.s, .int .i64 e.f] 24)); have HB1A := Lib.hid (HB1.out.trans ((below_one w4 (.cells #[.int .i64 e.n, .string e.u, .int .i64 e.s, .int .i64 e.f] 24)).mono HB1.out.size)); have HS1A := Lib.hid HB1A.out.size; clear ho1 hB1; obtain ⟨d0, d1, d2, d3⟩ := HSB.out _ (K3.below HB1.out)) | (at_builtin; refine wpList_append_own _ rfl (.tmp 37) (.tmp 39) 22 rfl K3W.heap.size 24 i0 _ 4 40 Try.underlying22 hi hz0 hz1 hz2 rfl (by decide) _ _ _ rfl HO1A.out ⟨w4.heap.size, 0, none⟩ 1 1 [.int .i64 e.n, .string e.u, .int .i64 e.s, .int .i64 e.f] rfl rfl (news_at _ _ _ _ rfl) (four_o _ _ _ _) (by unfold maxLen; omega) (by omega) HS1A.out ?_; intro v2 w5 ho2 hgrow hiff; have HB2 := Lib.hid (app_below HB1A.out HS1A.out HO1A.out hgrow); have HO2 : Hid (w5.ownsRow K3W.heap.size 24 4 v2 (m1 ++ [e]).length (oes (m1 ++ [e]))) := oown_snoc ho2; clear ho2 hgrow hiff; have HM2 := Lib.hid (HS2.out _ HB2.out); have HMS2 := Lib.hid HB2.out.size) | (at_builtin; refine wpList_append_op2 _ rfl (.tmp 41) (.tmp 44) 22 rfl K3W.heap.size 24 i0 _ Try.underlying22 hi hz0 hz1 hz2 rfl _ (m1 ++ [e]) rfl HO2.out (some ad) c m2 0 HL2.out rfl HM2.out hk2 (by simp; omega) HMS2.out ?_; intro v3 w6 ho3 hB3; have HO3 := Lib.hid ho3; have HB3 := Lib.hid (HB2.out.trans hB3); clear ho3 hB3))
                rw [HGG.out] at HO3
                go_ret2
                first | exact ⟨v3, rfl, GotO.of HO3.out (K3.frame.trans (HB3.out.mono K3.frame.size))⟩ | exact ⟨v3, by trivial, GotO.of HO3.out (K3.frame.trans (HB3.out.mono K3.frame.size))⟩
end Go.Proofs.Ytlgicjebaehgeaa
