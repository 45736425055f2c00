/- Layer 9: a grant, in the document: contract. -/
import Derived.Test.YthaancmobpamhaaAB12
namespace Go.Proofs.Ythaancmobpamhaa
open Go.RowKit Go.Proofs
set_option linter.unusedVariables false
set_option maxRecDepth 100000

theorem wpList_append_en2 {P : Program} (w : World) {ops : Array Oper} {rest : List Oper} {o : Oper} {a : Act} {Q : Exit → Act → World → Prop} (hgd : o.guard = none) (s x : Operand) (t : TypeId)
    (ho : o.op = .call { callee := .builtin .append, args := #[s, x], argTypes := #[t, t] })
    (base : Nat) (e : TypeId) (i : TypeInfo) (z : Value) (ht : P.underlying t = some (.slice e)) (hi : P.info? e = some i) (hz : i.zero = some z)
    (hsize : i.size = 4) (hby : i.bytes = 48) (hzs : z.cells.size = 4)
    (v : Value) (l : List EnM) (hs : a.eval s = v) (hown : w.ownsRow base e 4 v l.length (ens l))
    (A : Option Addr) (c : Nat) (m : List EnM) (n : Nat) (hn : n = m.length) (hx : a.eval x = .slice A n c) (hsl : EnSl w A m) (hnil : A = none → c = 0)
    (hlen : l.length + m.length ≤ 1000000) (hbase : base ≤ w.heap.size)
    (h : ∀ v' w', w'.ownsRow base e 4 v' (l ++ m).length (ens (l ++ m)) → Below base w w' → wpList P ops Q rest (a.put o.dst v') w') : wpList P ops Q (o :: rest) a w := by
  subst hn
  exact wpList_append_en w hgd s x t ho base e i z ht hi hz hsize hby hzs v l hs hown A c m hx hsl hnil hlen hbase h

theorem own_snoc {w : World} {B : Nat} {e : TypeId} {v : Value} {m : List EnM} {x : EnM} (h : w.ownsRow B e 4 v (m.length + 1) (ens m ++ [.string x.w, .string x.u, .int .i64 x.f, .int .i64 x.t])) : w.ownsRow B e 4 v (m ++ [x]).length (ens (m ++ [x])) := by
  rw [List.length_append, ens_snoc]
  exact h

set_option maxHeartbeats 8000000 in
theorem refGrant_any (a : Option Addr) (c : Nat) (l : List EnM) (p u : ByteArray) (n : Int) (w : World) (hr : EnSl w a l) (hsz : SzE l) (hsp : p.size ≤ maxLen) (hsu : u.size ≤ maxLen) (hn : a = none → c = 0) (hl : l.length ≤ 500) (hc : l.length ≤ c) (hcm : c ≤ maxLen) :
    Calls Try.prog 13 #[.slice a l.length c, pr p u, .int .i64 n] w fun e w' => (l.any (infE p u) = true ∧ e = .returned (.tuple #[.slice none 0 0, .int .i64 90]) ∧ Below w.heap.size w w') ∨
      (l.any (infE p u) = false ∧ ∃ v, e = .returned (.tuple #[v, .int .i64 0]) ∧ w'.ownsRow w.heap.size 53 4 v (grantS l (mkE p u n)).length (ens (grantS l (mkE p u n))) ∧ Below w.heap.size w w') := by
  obtain ⟨i0, hi, hz0, hz1, hz2⟩ := info_parts infoEnR
  have HPC := Lib.hid (PK.new hr p u 24)
  have HIF := Lib.hid (fun W (h : EnSl W a l) => force_any a c l p u W h (by omega))
  have HAB : Hid (∀ (x : EnM) (_ : x ∈ l) W, Calls Try.prog 38 #[.agg #[.string p, .string u, .int .i64 n, .int .i64 1099511627776], .agg #[.string x.w, .string x.u, .int .i64 x.f, .int .i64 x.t]] W fun e w' => e = .returned (.bool (decide (aheadE (mkE p u n) x))) ∧ Below W.heap.size W w') := fun x hx W => eahead_any (mkE p u n) x W hsp hsu (hsz x hx).1 (hsz x hx).2
  have HNil := Lib.hid hn
  have HGA := Lib.hid (fun k (h : IsFirst (fun x => decide (aheadE (mkE p u n) x)) l k) => grant_at h)
  have HDA := idx_any (infE p u) l
  unfold maxLen at hcm
  unfold pr at *
  generalize hG : grantS l (mkE p u n) = G at *
  generalize idxI (infE p u) l = ix at *
  clear hr hn hG hsz hsp hsu
  cases hi2 : l.any (infE p u) with
  | true =>
    rw [hi2] at HDA
    go_enter Try.func13, Try.ntmps13
    go_wp2_with fail
    refine (HIF.out _ HPC.out.row).mono ?_
    rintro e w1 ⟨rfl, hB⟩
    have K1 := Lib.hid (HPC.out.below hB)
    go_wp2
    go_ret2
    exact Or.inl ⟨by trivial, rfl, K1.out.frame⟩
  | false =>
    rw [hi2] at HDA
    go_enter Try.func13, Try.ntmps13
    go_wp2_with fail
    refine (HIF.out _ HPC.out.row).mono ?_
    rintro e w1 ⟨rfl, hB⟩
    have K1 := Lib.hid (HPC.out.below hB)
    obtain ⟨c0, c1, -⟩ := K1.out.pc
    have HK0 : Hid (RsE w w1.heap.size (mkE p u n) a l (w1.alloc (.cells #[.string p, .string u, .int .i64 n, .int .i64 1099511627776] 53))) := RsE.new (x := mkE p u n) K1.out.row K1.out.frame 53
    have HSB : Hid (∀ W, RsE w w1.heap.size (mkE p u n) a l W → W.cell? ⟨w1.heap.size, 0, none⟩ = some (.string p) ∧ W.cell? ⟨w1.heap.size, 1, none⟩ = some (.string u) ∧ W.cell? ⟨w1.heap.size, 2, none⟩ = some (.int .i64 n) ∧ W.cell? ⟨w1.heap.size, 3, none⟩ = some (.int .i64 1099511627776)) := fun W h => h.box
    have HSC : Hid (∀ b off j (hj : j < l.length) W, a = some ⟨b, off, none⟩ → RsE w w1.heap.size (mkE p u n) a l W → W.cell? ⟨w1.heap.size, 0, none⟩ = some (.string p) ∧ W.cell? ⟨w1.heap.size, 1, none⟩ = some (.string u) ∧ W.cell? ⟨w1.heap.size, 2, none⟩ = some (.int .i64 n) ∧ W.cell? ⟨w1.heap.size, 3, none⟩ = some (.int .i64 1099511627776) ∧ W.cell? ⟨b, off + j * 4, none⟩ = some (.string l[j].w) ∧ W.cell? ⟨b, off + j * 4 + 1, none⟩ = some (.string l[j].u) ∧ W.cell? ⟨b, off + j * 4 + 2, none⟩ = some (.int .i64 l[j].f) ∧ W.cell? ⟨b, off + j * 4 + 3, none⟩ = some (.int .i64 l[j].t)) := fun b off j hj W e h => by subst e; exact h.at_ hj
    clear hB HPC HIF
    go_wp2
    generalize w1.heap.size = g at *
    go_loopw [9] (fun i wr => ∃ (j : Nat), j ≤ l.length ∧ i = .int .i64 j ∧ Hid (LowTo (fun x => decide (aheadE (mkE p u n) x)) l j) ∧ Hid (RsE w g (mkE p u n) a l wr)) (fun i _ => l.length - (intOf i).toNat)
    case atStart => exact ⟨0, by omega, rfl, fun k _ h => absurd h (by omega), HK0.out⟩
    case round =>
      clear K1 HK0 c0 c1 HDA
      obtain ⟨j, hj, rfl, HO, HK⟩ := hrel
      by_cases hjl : j < l.length
      · obtain ⟨b, off, rfl, -, -, -, -, -⟩ := HK.out.row.at_ hjl
        have HNX := Lib.hid (HO.out.next hjl)
        have HHT := Lib.hid (HO.out.hit hjl)
        have HP0 : Hid (∀ W, RsE w g (mkE p u n) (some ⟨b, off, none⟩) l W → W.cell? ⟨g, 0, none⟩ = some (.string p) ∧ W.cell? ⟨g, 1, none⟩ = some (.string u) ∧ W.cell? ⟨g, 2, none⟩ = some (.int .i64 n) ∧ W.cell? ⟨g, 3, none⟩ = some (.int .i64 1099511627776) ∧ W.cell? ⟨b, off + j * 4, none⟩ = some (.string l[j].w) ∧ W.cell? ⟨b, off + j * 4 + 1, none⟩ = some (.string l[j].u) ∧ W.cell? ⟨b, off + j * 4 + 2, none⟩ = some (.int .i64 l[j].f) ∧ W.cell? ⟨b, off + j * 4 + 3, none⟩ = some (.int .i64 l[j].t)) := fun W h => HSC.out b off j hjl W rfl h
        have HCX := Lib.hid (HAB.out l[j] (List.getElem_mem hjl))
        have K1 := HK.out.below (Below.refl _ _).drew
        generalize l[j] = x at *
        by_cases h3 : aheadE (mkE p u n) x
        · have HP := Lib.hid (HHT.out (decide_eq_true h3))
          rw [decide_eq_true h3] at HCX
          clear HNX HHT HO h3 HAB HSC HNil
          go_wp2_with fail
          go_region_held3 (fun W => W.cell? ⟨g, 0, none⟩ = some (.string p) ∧ W.cell? ⟨g, 1, none⟩ = some (.string u) ∧ W.cell? ⟨g, 2, none⟩ = some (.int .i64 n) ∧ W.cell? ⟨g, 3, none⟩ = some (.int .i64 1099511627776) ∧ W.cell? ⟨b, off + j * 4, none⟩ = some (.string x.w) ∧ W.cell? ⟨b, off + j * 4 + 1, none⟩ = some (.string x.u) ∧ W.cell? ⟨b, off + j * 4 + 2, none⟩ = some (.int .i64 x.f) ∧ W.cell? ⟨b, off + j * 4 + 3, none⟩ = some (.int .i64 x.t))
            (first | exact HP0.out _ K1 | exact HP0.out _ K3)
            (first | (go_at_call 38; refine (HCX.out _).mono ?_; rintro e K3W ⟨rfl, h3⟩; have K3 := K1.below h3))
          have hcj : ¬ c = j := by omega
          have hcj2 : j < c := by omega
          clear h3 K1 HCX
          have hpc : j ≤ c := by omega
          have hz1' : (0 : Int) ≤ (j : Int) := by omega
          have hz2' : (j : Int) ≤ (l.length : Int) := by omega
          have hz3' : (j : Int) ≤ (c : Int) := by omega
          have hz4' : (l.length : Int) ≤ (c : Int) := by omega
          obtain ⟨m1, e1⟩ : ∃ m, m = l.take j := ⟨_, rfl⟩
          obtain ⟨m2, e2⟩ : ∃ m, m = l.drop j := ⟨_, rfl⟩
          have HL1 : Hid (j = m1.length) := by unfold Hid; rw [e1, List.length_take]; omega
          have HL2 : Hid (l.length - j = m2.length) := by unfold Hid; rw [e2, List.length_drop]
          have hk1 : (some ⟨b, off, none⟩ : Option Addr) = none → c = 0 := fun h => (by cases h)
          have hk2 : (some ⟨b, off + j * 4, none⟩ : Option Addr) = none → c - j = 0 := fun h => (by cases h)
          have HS1 : Hid (∀ W, Below K3W.heap.size K3W W → EnSl W (some ⟨b, off, none⟩) m1) := fun W h => by rw [e1]; exact (K3.row.below h).take j
          have HS2 : Hid (∀ W, Below K3W.heap.size K3W W → EnSl W (some ⟨b, off + j * 4, none⟩) m2) := fun W h => by rw [e2]; exact (K3.row.below h).drop j
          have HGG : Hid (m1 ++ [mkE p u n] ++ m2 = G) := by unfold Hid; rw [e1, e2, HGA.out j HP.out, List.append_assoc]; rfl
          clear e1 e2
          clear HGA HP HP0 HK
          have hb1 : m1.length ≤ 500 := by have := HL1.out; omega
          have hb2 : m2.length ≤ 500 := by have := HL2.out; omega
          have HE0 := Lib.hid (own_empty8 K3W 53 4 K3W.heap.size (Nat.le_refl _))
          have HEB := Lib.hid (below_one K3W (.cells #[] 53))
          have HM1 := Lib.hid (HS1.out _ HEB.out)
          have HMS := Lib.hid HEB.out.size
          go_wp2_with (first | (at_builtin; refine wpList_append_en2 _ rfl (.tmp 36) (.tmp 39) 22 rfl K3W.heap.size 53 i0 _ Try.underlying22 hi hz0 hz1 hz2 rfl _ [] rfl HE0.out (some ⟨b, off, none⟩) c m1 j HL1.out rfl HM1.out hk1 (by simp; omega) HMS.out ?_; intro v1 w4 ho1 hB1; have HO1 := Lib.hid ho1; have HB1 := Lib.hid (HEB.out.trans hB1); have HO1A : Hid ((w4.alloc (.cells #[.string p, .string u, .int .i64 n, .int .i64 1099511627776] 53)).ownsRow K3W.heap.size 53 4 v1 m1.length (ens m1)) := own_below HO1.out (below_one w4 (.cells #[.string p, .string u, .int .i64 n, .int .i64 1099511627776] 53)); have HB1A := Lib.hid (HB1.out.trans ((below_one w4 (.cells #[.string p, .string u, .int .i64 n, .int .i64 1099511627776] 53)).mono HB1.out.size)); have HS1A := Lib.hid HB1A.out.size; clear ho1 hB1; obtain ⟨d0, d1, d2, d3⟩ := HSB.out _ (K3.below HB1.out)) | (at_builtin; refine wpList_append_own _ rfl (.tmp 41) (.tmp 43) 22 rfl K3W.heap.size 53 i0 _ 4 48 Try.underlying22 hi hz0 hz1 hz2 rfl (by decide) _ _ _ rfl HO1A.out ⟨w4.heap.size, 0, none⟩ 1 1 [.string p, .string u, .int .i64 n, .int .i64 1099511627776] rfl rfl (news_at _ _ _ _ rfl) (four_e _ _ _ _) (by unfold maxLen; omega) (by omega) HS1A.out ?_; intro v2 w5 ho2 hgrow hiff; have HB2 := Lib.hid (app_below HB1A.out HS1A.out HO1A.out hgrow); have HO2 : Hid (w5.ownsRow K3W.heap.size 53 4 v2 (m1 ++ [mkE p u n]).length (ens (m1 ++ [mkE p u n]))) := own_snoc ho2; clear ho2 hgrow hiff; have HM2 := Lib.hid (HS2.out _ HB2.out); have HMS2 := Lib.hid HB2.out.size) | (at_builtin; refine wpList_append_en2 _ rfl (.tmp 45) (.tmp 48) 22 rfl K3W.heap.size 53 i0 _ Try.underlying22 hi hz0 hz1 hz2 rfl _ (m1 ++ [mkE p u n]) rfl HO2.out (some ⟨b, off + j * 4, none⟩) (c - j) m2 (l.length - j) HL2.out rfl HM2.out hk2 (by simp; omega) HMS2.out ?_; intro v3 w6 ho3 hB3; have HO3 := Lib.hid ho3; have HB3 := Lib.hid (HB2.out.trans hB3); clear ho3 hB3))
          rw [HGG.out] at HO3
          go_ret2
          first | exact Or.inr ⟨by trivial, v3, rfl, own_low HO3.out K3.frame.size, K3.frame.trans (HB3.out.mono K3.frame.size)⟩ | exact ⟨v3, rfl, own_low HO3.out K3.frame.size, K3.frame.trans (HB3.out.mono K3.frame.size)⟩
        · have HN := Lib.hid (HNX.out (decide_eq_false h3))
          rw [decide_eq_false h3] at HCX
          clear HNX HHT HO h3 HAB HSC HNil HGA
          go_wp2_with fail
          go_region_held3 (fun W => W.cell? ⟨g, 0, none⟩ = some (.string p) ∧ W.cell? ⟨g, 1, none⟩ = some (.string u) ∧ W.cell? ⟨g, 2, none⟩ = some (.int .i64 n) ∧ W.cell? ⟨g, 3, none⟩ = some (.int .i64 1099511627776) ∧ W.cell? ⟨b, off + j * 4, none⟩ = some (.string x.w) ∧ W.cell? ⟨b, off + j * 4 + 1, none⟩ = some (.string x.u) ∧ W.cell? ⟨b, off + j * 4 + 2, none⟩ = some (.int .i64 x.f) ∧ W.cell? ⟨b, off + j * 4 + 3, none⟩ = some (.int .i64 x.t))
            (first | exact HP0.out _ K1 | exact HP0.out _ K3)
            (first | (go_at_call 38; refine (HCX.out _).mono ?_; rintro e w3 ⟨rfl, h3⟩; have K3 := K1.below h3))
          go_wp2
          go_roundw
          case rel => exact ⟨j + 1, by omega, by go_num, HN, K3⟩
          case measure => simp [intOf]; omega
      · have hje : j = l.length := by omega
        have HP : Hid (IsFirst (fun x => decide (aheadE (mkE p u n) x)) l j) := by rw [hje] at HO ⊢; exact HO.out.miss
        have hlt : decide ((j : Int) < (l.length : Int)) = false := decide_eq_false (by omega)
        clear HAB HSC HO
        go_wp2_with fail
        refine wp_region_held_drew (S := (fun W => W.cell? ⟨g, 0, none⟩ = some (.string p) ∧ W.cell? ⟨g, 1, none⟩ = some (.string u) ∧ W.cell? ⟨g, 2, none⟩ = some (.int .i64 n) ∧ W.cell? ⟨g, 3, none⟩ = some (.int .i64 1099511627776))) (by kernel_rfl) ?_ (fun hHeld => ?_)
        · exact HSB.out _ (HK.out.below (Below.refl _ _).drew)
        refine wpAnyH_take (i := 0) (oi := ⟨some 21, _, _, _, _, _⟩) (v := ?_) rfl (by kernel_rfl) (by kernel_rfl) (by kernel_rfl) (fun _ _ _ h => h) (Or.inl ⟨by rfl, ?_⟩) (by assumption) ?_
        rotate_left
        · (intro wS hSw; (try dsimp only at hSw); (go_simp) <;> (with_reducible rfl))
        (try simp only [Act.put, List.setIfInBounds_toArray, List.set_cons_zero, List.set_cons_succ])
        refine wpAnyH_take (i := 1) (oi := ⟨some 22, _, _, _, _, _⟩) (v := ?_) rfl (by kernel_rfl) (by kernel_rfl) (by kernel_rfl) (fun _ _ _ h => h) (Or.inl ⟨by rfl, ?_⟩) (by assumption) ?_
        rotate_left
        · (intro wS hSw; (try dsimp only at hSw); (go_simp) <;> (with_reducible rfl))
        (try simp only [Act.put, List.setIfInBounds_toArray, List.set_cons_zero, List.set_cons_succ])
        refine wpAnyH_take (i := 2) (oi := ⟨some 23, _, _, _, _, _⟩) (v := ?_) rfl (by kernel_rfl) (by kernel_rfl) (by kernel_rfl) (fun _ _ _ h => h) (Or.inl ⟨by rfl, ?_⟩) (by assumption) ?_
        rotate_left
        · (intro wS hSw; (try dsimp only at hSw); (go_simp) <;> (with_reducible rfl))
        (try simp only [Act.put, List.setIfInBounds_toArray, List.set_cons_zero, List.set_cons_succ])
        refine wpAnyH_take (i := 3) (oi := ⟨some 24, _, _, _, _, _⟩) (v := ?_) rfl (by kernel_rfl) (by kernel_rfl) (by kernel_rfl) (fun _ _ _ h => h) (Or.inl ⟨by rfl, ?_⟩) (by assumption) ?_
        rotate_left
        · (intro wS hSw; (try dsimp only at hSw); (go_simp) <;> (with_reducible rfl))
        (try simp only [Act.put, List.setIfInBounds_toArray, List.set_cons_zero, List.set_cons_succ])
        refine wpAnyH_take (i := 4) (oi := ⟨some 25, _, _, _, _, _⟩) (v := ?_) rfl (by kernel_rfl) (by kernel_rfl) (by kernel_rfl) (fun _ _ _ h => h) (Or.inl ⟨by rfl, ?_⟩) (by assumption) ?_
        rotate_left
        · (intro wS hSw; (try dsimp only at hSw); (go_simp) <;> (with_reducible rfl))
        (try simp only [Act.put, List.setIfInBounds_toArray, List.set_cons_zero, List.set_cons_succ])
        refine wpAnyH_take (i := 5) (oi := ⟨some 26, _, _, _, _, _⟩) (v := undef) rfl (by kernel_rfl) (by kernel_rfl) (by kernel_rfl) (fun _ _ _ h => h) (Or.inr ⟨by rfl, rfl⟩) (by assumption) ?_
        (try simp only [Act.put, List.setIfInBounds_toArray, List.set_cons_zero, List.set_cons_succ])
        refine wpAnyH_take (i := 6) (oi := ⟨some 27, _, _, _, _, _⟩) (v := undef) rfl (by kernel_rfl) (by kernel_rfl) (by kernel_rfl) (fun _ _ _ h => h) (Or.inr ⟨by rfl, rfl⟩) (by assumption) ?_
        (try simp only [Act.put, List.setIfInBounds_toArray, List.set_cons_zero, List.set_cons_succ])
        refine wpAnyH_take (i := 7) (oi := ⟨some 28, _, _, _, _, _⟩) (v := undef) rfl (by kernel_rfl) (by kernel_rfl) (by kernel_rfl) (fun _ _ _ h => h) (Or.inr ⟨by rfl, rfl⟩) (by assumption) ?_
        (try simp only [Act.put, List.setIfInBounds_toArray, List.set_cons_zero, List.set_cons_succ])
        refine wpAnyH_take (i := 8) (oi := ⟨some 29, _, _, _, _, _⟩) (v := undef) rfl (by kernel_rfl) (by kernel_rfl) (by kernel_rfl) (fun _ _ _ h => h) (Or.inr ⟨by rfl, rfl⟩) (by assumption) ?_
        (try simp only [Act.put, List.setIfInBounds_toArray, List.set_cons_zero, List.set_cons_succ])
        refine wpAnyH_take (i := 9) (oi := ⟨some 30, _, _, _, _, _⟩) (v := undef) rfl (by kernel_rfl) (by kernel_rfl) (by kernel_rfl) (fun _ _ _ h => h) (Or.inr ⟨by rfl, rfl⟩) (by assumption) ?_
        (try simp only [Act.put, List.setIfInBounds_toArray, List.set_cons_zero, List.set_cons_succ])
        refine wpAnyH_take (i := 10) (oi := ⟨some 31, _, _, _, _, _⟩) (v := undef) rfl (by kernel_rfl) (by kernel_rfl) (by kernel_rfl) (fun _ _ _ h => h) (Or.inr ⟨by rfl, rfl⟩) (by assumption) ?_
        (try simp only [Act.put, List.setIfInBounds_toArray, List.set_cons_zero, List.set_cons_succ])
        refine wpAnyH_take (i := 11) (oi := ⟨some 32, _, _, _, _, _⟩) (v := undef) rfl (by kernel_rfl) (by kernel_rfl) (by kernel_rfl) (fun _ _ _ h => h) (Or.inr ⟨by rfl, rfl⟩) (by assumption) ?_
        (try simp only [Act.put, List.setIfInBounds_toArray, List.set_cons_zero, List.set_cons_succ])
        refine wpAnyH_take (i := 12) (oi := ⟨some 33, _, _, _, _, _⟩) (v := ?_) rfl (by kernel_rfl) (by kernel_rfl) (by kernel_rfl) (fun _ _ _ h => h) (Or.inl ⟨by rfl, ?_⟩) (by assumption) ?_
        rotate_left
        · (intro wS hSw; (try dsimp only at hSw); (go_simp) <;> (with_reducible rfl))
        (try simp only [Act.put, List.setIfInBounds_toArray, List.set_cons_zero, List.set_cons_succ])
        refine wpAnyH_done (by kernel_rfl) ?_ _
        have K3 := HK.out.below (Below.refl _ _).drew
        generalize wr.drew = K3W at *
        clear hlt HK
        cases a with
        | none =>
          have hc0 := HNil.out rfl
          have hl0 := K3.row.snil
          subst hc0 hl0
          obtain rfl : j = 0 := by simpa using hje
          obtain ⟨m1, e1⟩ : ∃ m : List EnM, m = [] := ⟨_, rfl⟩
          obtain ⟨m2, e2⟩ : ∃ m : List EnM, m = [] := ⟨_, rfl⟩
          have HL1 : Hid (0 = m1.length) := by unfold Hid; rw [e1]; rfl
          have HL2 : Hid (0 = m2.length) := by unfold Hid; rw [e2]; rfl
          have hk1 : (none : Option Addr) = none → 0 = 0 := fun _ => rfl
          have hk2 : (none : Option Addr) = none → 0 = 0 := fun _ => rfl
          have HS1 : Hid (∀ W, Below K3W.heap.size K3W W → EnSl W (none : Option Addr) m1) := fun W h => by rw [e1]; exact EnSl.nil _ _
          have HS2 : Hid (∀ W, Below K3W.heap.size K3W W → EnSl W (none : Option Addr) m2) := fun W h => by rw [e2]; exact EnSl.nil _ _
          have HGG : Hid (m1 ++ [mkE p u n] ++ m2 = G) := by unfold Hid; rw [e1, e2, HGA.out 0 HP.out]; rfl
          clear e1 e2
          clear HGA HP HNil hje
          have hb1 : m1.length ≤ 500 := by have := HL1.out; omega
          have hb2 : m2.length ≤ 500 := by have := HL2.out; omega
          have HE0 := Lib.hid (own_empty8 K3W 53 4 K3W.heap.size (Nat.le_refl _))
          have HEB := Lib.hid (below_one K3W (.cells #[] 53))
          have HM1 := Lib.hid (HS1.out _ HEB.out)
          have HMS := Lib.hid HEB.out.size
          go_wp2_with (first | (at_builtin; refine wpList_append_en2 _ rfl (.tmp 36) (.tmp 39) 22 rfl K3W.heap.size 53 i0 _ Try.underlying22 hi hz0 hz1 hz2 rfl _ [] rfl HE0.out none 0 m1 0 HL1.out rfl HM1.out hk1 (by simp; omega) HMS.out ?_; intro v1 w4 ho1 hB1; have HO1 := Lib.hid ho1; have HB1 := Lib.hid (HEB.out.trans hB1); have HO1A : Hid ((w4.alloc (.cells #[.string p, .string u, .int .i64 n, .int .i64 1099511627776] 53)).ownsRow K3W.heap.size 53 4 v1 m1.length (ens m1)) := own_below HO1.out (below_one w4 (.cells #[.string p, .string u, .int .i64 n, .int .i64 1099511627776] 53)); have HB1A := Lib.hid (HB1.out.trans ((below_one w4 (.cells #[.string p, .string u, .int .i64 n, .int .i64 1099511627776] 53)).mono HB1.out.size)); have HS1A := Lib.hid HB1A.out.size; clear ho1 hB1; obtain ⟨d0, d1, d2, d3⟩ := HSB.out _ (K3.below HB1.out)) | (at_builtin; refine wpList_append_own _ rfl (.tmp 41) (.tmp 43) 22 rfl K3W.heap.size 53 i0 _ 4 48 Try.underlying22 hi hz0 hz1 hz2 rfl (by decide) _ _ _ rfl HO1A.out ⟨w4.heap.size, 0, none⟩ 1 1 [.string p, .string u, .int .i64 n, .int .i64 1099511627776] rfl rfl (news_at _ _ _ _ rfl) (four_e _ _ _ _) (by unfold maxLen; omega) (by omega) HS1A.out ?_; intro v2 w5 ho2 hgrow hiff; have HB2 := Lib.hid (app_below HB1A.out HS1A.out HO1A.out hgrow); have HO2 : Hid (w5.ownsRow K3W.heap.size 53 4 v2 (m1 ++ [mkE p u n]).length (ens (m1 ++ [mkE p u n]))) := own_snoc ho2; clear ho2 hgrow hiff; have HM2 := Lib.hid (HS2.out _ HB2.out); have HMS2 := Lib.hid HB2.out.size) | (at_builtin; refine wpList_append_en2 _ rfl (.tmp 45) (.tmp 48) 22 rfl K3W.heap.size 53 i0 _ Try.underlying22 hi hz0 hz1 hz2 rfl _ (m1 ++ [mkE p u n]) rfl HO2.out none 0 m2 0 HL2.out rfl HM2.out hk2 (by simp; omega) HMS2.out ?_; intro v3 w6 ho3 hB3; have HO3 := Lib.hid ho3; have HB3 := Lib.hid (HB2.out.trans hB3); clear ho3 hB3))
          rw [HGG.out] at HO3
          go_ret2
          first | exact Or.inr ⟨by trivial, v3, rfl, own_low HO3.out K3.frame.size, K3.frame.trans (HB3.out.mono K3.frame.size)⟩ | exact ⟨v3, rfl, own_low HO3.out K3.frame.size, K3.frame.trans (HB3.out.mono K3.frame.size)⟩
        | some ad =>
          by_cases hlz : 0 < l.length
          · obtain ⟨b, off, e, -, -, -, -, -⟩ := K3.row.at_ hlz
            cases e
            by_cases hcj : c = j
            · subst hje
              subst hcj
              have hz2' : (l.length : Int) ≤ (l.length : Int) := Int.le_refl _
              have hz1' : (0 : Int) ≤ (l.length : Int) := by omega
              obtain ⟨m1, e1⟩ : ∃ m, m = l := ⟨_, rfl⟩
              obtain ⟨m2, e2⟩ : ∃ m : List EnM, m = [] := ⟨_, rfl⟩
              have HL1 : Hid (l.length = m1.length) := by unfold Hid; rw [e1]
              have HL2 : Hid (0 = m2.length) := by unfold Hid; rw [e2]; rfl
              have hk1 : (some ⟨b, off, none⟩ : Option Addr) = none → l.length = 0 := fun h => (by cases h)
              have hk2 : (some ⟨b, off, none⟩ : Option Addr) = none → 0 = 0 := fun h => (by cases h)
              have HS1 : Hid (∀ W, Below K3W.heap.size K3W W → EnSl W (some ⟨b, off, none⟩) m1) := fun W h => by rw [e1]; exact K3.row.below h
              have HS2 : Hid (∀ W, Below K3W.heap.size K3W W → EnSl W (some ⟨b, off, none⟩) m2) := fun W h => by rw [e2]; exact EnSl.nil _ _
              have HGG : Hid (m1 ++ [mkE p u n] ++ m2 = G) := by unfold Hid; rw [e1, e2, HGA.out l.length HP.out, List.take_of_length_le (Nat.le_refl _), List.drop_of_length_le (Nat.le_refl _), List.append_nil]
              clear e1 e2 HGA HP HNil
              have hb1 : m1.length ≤ 500 := by have := HL1.out; omega
              have hb2 : m2.length ≤ 500 := by have := HL2.out; omega
              have HE0 := Lib.hid (own_empty8 K3W 53 4 K3W.heap.size (Nat.le_refl _))
              have HEB := Lib.hid (below_one K3W (.cells #[] 53))
              have HM1 := Lib.hid (HS1.out _ HEB.out)
              have HMS := Lib.hid HEB.out.size
              go_wp2_with (first | (at_builtin; refine wpList_append_en2 _ rfl (.tmp 36) (.tmp 39) 22 rfl K3W.heap.size 53 i0 _ Try.underlying22 hi hz0 hz1 hz2 rfl _ [] rfl HE0.out (some ⟨b, off, none⟩) l.length m1 l.length HL1.out rfl HM1.out hk1 (by simp; omega) HMS.out ?_; intro v1 w4 ho1 hB1; have HO1 := Lib.hid ho1; have HB1 := Lib.hid (HEB.out.trans hB1); have HO1A : Hid ((w4.alloc (.cells #[.string p, .string u, .int .i64 n, .int .i64 1099511627776] 53)).ownsRow K3W.heap.size 53 4 v1 m1.length (ens m1)) := own_below HO1.out (below_one w4 (.cells #[.string p, .string u, .int .i64 n, .int .i64 1099511627776] 53)); have HB1A := Lib.hid (HB1.out.trans ((below_one w4 (.cells #[.string p, .string u, .int .i64 n, .int .i64 1099511627776] 53)).mono HB1.out.size)); have HS1A := Lib.hid HB1A.out.size; clear ho1 hB1; obtain ⟨d0, d1, d2, d3⟩ := HSB.out _ (K3.below HB1.out)) | (at_builtin; refine wpList_append_own _ rfl (.tmp 41) (.tmp 43) 22 rfl K3W.heap.size 53 i0 _ 4 48 Try.underlying22 hi hz0 hz1 hz2 rfl (by decide) _ _ _ rfl HO1A.out ⟨w4.heap.size, 0, none⟩ 1 1 [.string p, .string u, .int .i64 n, .int .i64 1099511627776] rfl rfl (news_at _ _ _ _ rfl) (four_e _ _ _ _) (by unfold maxLen; omega) (by omega) HS1A.out ?_; intro v2 w5 ho2 hgrow hiff; have HB2 := Lib.hid (app_below HB1A.out HS1A.out HO1A.out hgrow); have HO2 : Hid (w5.ownsRow K3W.heap.size 53 4 v2 (m1 ++ [mkE p u n]).length (ens (m1 ++ [mkE p u n]))) := own_snoc ho2; clear ho2 hgrow hiff; have HM2 := Lib.hid (HS2.out _ HB2.out); have HMS2 := Lib.hid HB2.out.size) | (at_builtin; refine wpList_append_en2 _ rfl (.tmp 45) (.tmp 48) 22 rfl K3W.heap.size 53 i0 _ Try.underlying22 hi hz0 hz1 hz2 rfl _ (m1 ++ [mkE p u n]) rfl HO2.out (some ⟨b, off, none⟩) 0 m2 0 HL2.out rfl HM2.out hk2 (by simp; omega) HMS2.out ?_; intro v3 w6 ho3 hB3; have HO3 := Lib.hid ho3; have HB3 := Lib.hid (HB2.out.trans hB3); clear ho3 hB3))
              rw [HGG.out] at HO3
              go_ret2
              first | exact Or.inr ⟨by trivial, v3, rfl, own_low HO3.out K3.frame.size, K3.frame.trans (HB3.out.mono K3.frame.size)⟩ | exact ⟨v3, rfl, own_low HO3.out K3.frame.size, K3.frame.trans (HB3.out.mono K3.frame.size)⟩
            · have hcj2 : j < c := by omega
              have hpc : j ≤ c := by omega
              have hz1' : (0 : Int) ≤ (j : Int) := by omega
              have hz2' : (j : Int) ≤ (l.length : Int) := by omega
              have hz3' : (j : Int) ≤ (c : Int) := by omega
              have hz4' : (l.length : Int) ≤ (c : Int) := by omega
              obtain ⟨m1, e1⟩ : ∃ m, m = l.take j := ⟨_, rfl⟩
              obtain ⟨m2, e2⟩ : ∃ m, m = l.drop j := ⟨_, rfl⟩
              have HL1 : Hid (j = m1.length) := by unfold Hid; rw [e1, List.length_take]; omega
              have HL2 : Hid (l.length - j = m2.length) := by unfold Hid; rw [e2, List.length_drop]
              have hk1 : (some ⟨b, off, none⟩ : Option Addr) = none → c = 0 := fun h => (by cases h)
              have hk2 : (some ⟨b, off + j * 4, none⟩ : Option Addr) = none → c - j = 0 := fun h => (by cases h)
              have HS1 : Hid (∀ W, Below K3W.heap.size K3W W → EnSl W (some ⟨b, off, none⟩) m1) := fun W h => by rw [e1]; exact (K3.row.below h).take j
              have HS2 : Hid (∀ W, Below K3W.heap.size K3W W → EnSl W (some ⟨b, off + j * 4, none⟩) m2) := fun W h => by rw [e2]; exact (K3.row.below h).drop j
              have HGG : Hid (m1 ++ [mkE p u n] ++ m2 = G) := by unfold Hid; rw [e1, e2, HGA.out j HP.out, List.append_assoc]; rfl
              clear e1 e2
              clear HGA HP HNil hje
              have hb1 : m1.length ≤ 500 := by have := HL1.out; omega
              have hb2 : m2.length ≤ 500 := by have := HL2.out; omega
              have HE0 := Lib.hid (own_empty8 K3W 53 4 K3W.heap.size (Nat.le_refl _))
              have HEB := Lib.hid (below_one K3W (.cells #[] 53))
              have HM1 := Lib.hid (HS1.out _ HEB.out)
              have HMS := Lib.hid HEB.out.size
              go_wp2_with (first | (at_builtin; refine wpList_append_en2 _ rfl (.tmp 36) (.tmp 39) 22 rfl K3W.heap.size 53 i0 _ Try.underlying22 hi hz0 hz1 hz2 rfl _ [] rfl HE0.out (some ⟨b, off, none⟩) c m1 j HL1.out rfl HM1.out hk1 (by simp; omega) HMS.out ?_; intro v1 w4 ho1 hB1; have HO1 := Lib.hid ho1; have HB1 := Lib.hid (HEB.out.trans hB1); have HO1A : Hid ((w4.alloc (.cells #[.string p, .string u, .int .i64 n, .int .i64 1099511627776] 53)).ownsRow K3W.heap.size 53 4 v1 m1.length (ens m1)) := own_below HO1.out (below_one w4 (.cells #[.string p, .string u, .int .i64 n, .int .i64 1099511627776] 53)); have HB1A := Lib.hid (HB1.out.trans ((below_one w4 (.cells #[.string p, .string u, .int .i64 n, .int .i64 1099511627776] 53)).mono HB1.out.size)); have HS1A := Lib.hid HB1A.out.size; clear ho1 hB1; obtain ⟨d0, d1, d2, d3⟩ := HSB.out _ (K3.below HB1.out)) | (at_builtin; refine wpList_append_own _ rfl (.tmp 41) (.tmp 43) 22 rfl K3W.heap.size 53 i0 _ 4 48 Try.underlying22 hi hz0 hz1 hz2 rfl (by decide) _ _ _ rfl HO1A.out ⟨w4.heap.size, 0, none⟩ 1 1 [.string p, .string u, .int .i64 n, .int .i64 1099511627776] rfl rfl (news_at _ _ _ _ rfl) (four_e _ _ _ _) (by unfold maxLen; omega) (by omega) HS1A.out ?_; intro v2 w5 ho2 hgrow hiff; have HB2 := Lib.hid (app_below HB1A.out HS1A.out HO1A.out hgrow); have HO2 : Hid (w5.ownsRow K3W.heap.size 53 4 v2 (m1 ++ [mkE p u n]).length (ens (m1 ++ [mkE p u n]))) := own_snoc ho2; clear ho2 hgrow hiff; have HM2 := Lib.hid (HS2.out _ HB2.out); have HMS2 := Lib.hid HB2.out.size) | (at_builtin; refine wpList_append_en2 _ rfl (.tmp 45) (.tmp 48) 22 rfl K3W.heap.size 53 i0 _ Try.underlying22 hi hz0 hz1 hz2 rfl _ (m1 ++ [mkE p u n]) rfl HO2.out (some ⟨b, off + j * 4, none⟩) (c - j) m2 (l.length - j) HL2.out rfl HM2.out hk2 (by simp; omega) HMS2.out ?_; intro v3 w6 ho3 hB3; have HO3 := Lib.hid ho3; have HB3 := Lib.hid (HB2.out.trans hB3); clear ho3 hB3))
              rw [HGG.out] at HO3
              go_ret2
              first | exact Or.inr ⟨by trivial, v3, rfl, own_low HO3.out K3.frame.size, K3.frame.trans (HB3.out.mono K3.frame.size)⟩ | exact ⟨v3, rfl, own_low HO3.out K3.frame.size, K3.frame.trans (HB3.out.mono K3.frame.size)⟩
          · have hl0 : l = [] := List.eq_nil_of_length_eq_zero (by omega)
            subst hl0
            obtain rfl : j = 0 := by simpa using hje
            have hz : (0 : Int) ≤ (c : Int) := by omega
            by_cases hcp : c = 0
            · subst hcp
              obtain ⟨m1, e1⟩ : ∃ m : List EnM, m = [] := ⟨_, rfl⟩
              obtain ⟨m2, e2⟩ : ∃ m : List EnM, m = [] := ⟨_, rfl⟩
              have HL1 : Hid (0 = m1.length) := by unfold Hid; rw [e1]; rfl
              have HL2 : Hid (0 = m2.length) := by unfold Hid; rw [e2]; rfl
              have hk1 : (some ad) = none → 0 = 0 := fun h => (by cases h)
              have hk2 : (some ad) = none → 0 = 0 := fun h => (by cases h)
              have HS1 : Hid (∀ W, Below K3W.heap.size K3W W → EnSl W (some ad) m1) := fun W h => by rw [e1]; exact EnSl.nil _ _
              have HS2 : Hid (∀ W, Below K3W.heap.size K3W W → EnSl W (some ad) m2) := fun W h => by rw [e2]; exact EnSl.nil _ _
              have HGG : Hid (m1 ++ [mkE p u n] ++ m2 = G) := by unfold Hid; rw [e1, e2, HGA.out 0 HP.out]; rfl
              clear e1 e2
              clear HGA HP HNil hje
              have hb1 : m1.length ≤ 500 := by have := HL1.out; omega
              have hb2 : m2.length ≤ 500 := by have := HL2.out; omega
              have HE0 := Lib.hid (own_empty8 K3W 53 4 K3W.heap.size (Nat.le_refl _))
              have HEB := Lib.hid (below_one K3W (.cells #[] 53))
              have HM1 := Lib.hid (HS1.out _ HEB.out)
              have HMS := Lib.hid HEB.out.size
              go_wp2_with (first | (at_builtin; refine wpList_append_en2 _ rfl (.tmp 36) (.tmp 39) 22 rfl K3W.heap.size 53 i0 _ Try.underlying22 hi hz0 hz1 hz2 rfl _ [] rfl HE0.out (some ad) 0 m1 0 HL1.out rfl HM1.out hk1 (by simp; omega) HMS.out ?_; intro v1 w4 ho1 hB1; have HO1 := Lib.hid ho1; have HB1 := Lib.hid (HEB.out.trans hB1); have HO1A : Hid ((w4.alloc (.cells #[.string p, .string u, .int .i64 n, .int .i64 1099511627776] 53)).ownsRow K3W.heap.size 53 4 v1 m1.length (ens m1)) := own_below HO1.out (below_one w4 (.cells #[.string p, .string u, .int .i64 n, .int .i64 1099511627776] 53)); have HB1A := Lib.hid (HB1.out.trans ((below_one w4 (.cells #[.string p, .string u, .int .i64 n, .int .i64 1099511627776] 53)).mono HB1.out.size)); have HS1A := Lib.hid HB1A.out.size; clear ho1 hB1; obtain ⟨d0, d1, d2, d3⟩ := HSB.out _ (K3.below HB1.out)) | (at_builtin; refine wpList_append_own _ rfl (.tmp 41) (.tmp 43) 22 rfl K3W.heap.size 53 i0 _ 4 48 Try.underlying22 hi hz0 hz1 hz2 rfl (by decide) _ _ _ rfl HO1A.out ⟨w4.heap.size, 0, none⟩ 1 1 [.string p, .string u, .int .i64 n, .int .i64 1099511627776] rfl rfl (news_at _ _ _ _ rfl) (four_e _ _ _ _) (by unfold maxLen; omega) (by omega) HS1A.out ?_; intro v2 w5 ho2 hgrow hiff; have HB2 := Lib.hid (app_below HB1A.out HS1A.out HO1A.out hgrow); have HO2 : Hid (w5.ownsRow K3W.heap.size 53 4 v2 (m1 ++ [mkE p u n]).length (ens (m1 ++ [mkE p u n]))) := own_snoc ho2; clear ho2 hgrow hiff; have HM2 := Lib.hid (HS2.out _ HB2.out); have HMS2 := Lib.hid HB2.out.size) | (at_builtin; refine wpList_append_en2 _ rfl (.tmp 45) (.tmp 48) 22 rfl K3W.heap.size 53 i0 _ Try.underlying22 hi hz0 hz1 hz2 rfl _ (m1 ++ [mkE p u n]) rfl HO2.out (some ad) 0 m2 0 HL2.out rfl HM2.out hk2 (by simp; omega) HMS2.out ?_; intro v3 w6 ho3 hB3; have HO3 := Lib.hid ho3; have HB3 := Lib.hid (HB2.out.trans hB3); clear ho3 hB3))
              rw [HGG.out] at HO3
              go_ret2
              first | exact Or.inr ⟨by trivial, v3, rfl, own_low HO3.out K3.frame.size, K3.frame.trans (HB3.out.mono K3.frame.size)⟩ | exact ⟨v3, rfl, own_low HO3.out K3.frame.size, K3.frame.trans (HB3.out.mono K3.frame.size)⟩
            · have hcp2 : 0 < c := by omega
              obtain ⟨m1, e1⟩ : ∃ m : List EnM, m = [] := ⟨_, rfl⟩
              obtain ⟨m2, e2⟩ : ∃ m : List EnM, m = [] := ⟨_, rfl⟩
              have HL1 : Hid (0 = m1.length) := by unfold Hid; rw [e1]; rfl
              have HL2 : Hid (0 = m2.length) := by unfold Hid; rw [e2]; rfl
              have hk1 : (some ad) = none → c = 0 := fun h => (by cases h)
              have hk2 : (some ad) = none → c = 0 := fun h => (by cases h)
              have HS1 : Hid (∀ W, Below K3W.heap.size K3W W → EnSl W (some ad) m1) := fun W h => by rw [e1]; exact EnSl.nil _ _
              have HS2 : Hid (∀ W, Below K3W.heap.size K3W W → EnSl W (some ad) m2) := fun W h => by rw [e2]; exact EnSl.nil _ _
              have HGG : Hid (m1 ++ [mkE p u n] ++ m2 = G) := by unfold Hid; rw [e1, e2, HGA.out 0 HP.out]; rfl
              clear e1 e2
              clear HGA HP HNil hje
              have hb1 : m1.length ≤ 500 := by have := HL1.out; omega
              have hb2 : m2.length ≤ 500 := by have := HL2.out; omega
              have HE0 := Lib.hid (own_empty8 K3W 53 4 K3W.heap.size (Nat.le_refl _))
              have HEB := Lib.hid (below_one K3W (.cells #[] 53))
              have HM1 := Lib.hid (HS1.out _ HEB.out)
              have HMS := Lib.hid HEB.out.size
              go_wp2_with (first | (at_builtin; refine wpList_append_en2 _ rfl (.tmp 36) (.tmp 39) 22 rfl K3W.heap.size 53 i0 _ Try.underlying22 hi hz0 hz1 hz2 rfl _ [] rfl HE0.out (some ad) c m1 0 HL1.out rfl HM1.out hk1 (by simp; omega) HMS.out ?_; intro v1 w4 ho1 hB1; have HO1 := Lib.hid ho1; have HB1 := Lib.hid (HEB.out.trans hB1); have HO1A : Hid ((w4.alloc (.cells #[.string p, .string u, .int .i64 n, .int .i64 1099511627776] 53)).ownsRow K3W.heap.size 53 4 v1 m1.length (ens m1)) := own_below HO1.out (below_one w4 (.cells #[.string p, .string u, .int .i64 n, .int .i64 1099511627776] 53)); have HB1A := Lib.hid (HB1.out.trans ((below_one w4 (.cells #[.string p, .string u, .int .i64 n, .int .i64 1099511627776] 53)).mono HB1.out.size)); have HS1A := Lib.hid HB1A.out.size; clear ho1 hB1; obtain ⟨d0, d1, d2, d3⟩ := HSB.out _ (K3.below HB1.out)) | (at_builtin; refine wpList_append_own _ rfl (.tmp 41) (.tmp 43) 22 rfl K3W.heap.size 53 i0 _ 4 48 Try.underlying22 hi hz0 hz1 hz2 rfl (by decide) _ _ _ rfl HO1A.out ⟨w4.heap.size, 0, none⟩ 1 1 [.string p, .string u, .int .i64 n, .int .i64 1099511627776] rfl rfl (news_at _ _ _ _ rfl) (four_e _ _ _ _) (by unfold maxLen; omega) (by omega) HS1A.out ?_; intro v2 w5 ho2 hgrow hiff; have HB2 := Lib.hid (app_below HB1A.out HS1A.out HO1A.out hgrow); have HO2 : Hid (w5.ownsRow K3W.heap.size 53 4 v2 (m1 ++ [mkE p u n]).length (ens (m1 ++ [mkE p u n]))) := own_snoc ho2; clear ho2 hgrow hiff; have HM2 := Lib.hid (HS2.out _ HB2.out); have HMS2 := Lib.hid HB2.out.size) | (at_builtin; refine wpList_append_en2 _ rfl (.tmp 45) (.tmp 48) 22 rfl K3W.heap.size 53 i0 _ Try.underlying22 hi hz0 hz1 hz2 rfl _ (m1 ++ [mkE p u n]) rfl HO2.out (some ad) c m2 0 HL2.out rfl HM2.out hk2 (by simp; omega) HMS2.out ?_; intro v3 w6 ho3 hB3; have HO3 := Lib.hid ho3; have HB3 := Lib.hid (HB2.out.trans hB3); clear ho3 hB3))
              rw [HGG.out] at HO3
              go_ret2
              first | exact Or.inr ⟨by trivial, v3, rfl, own_low HO3.out K3.frame.size, K3.frame.trans (HB3.out.mono K3.frame.size)⟩ | exact ⟨v3, rfl, own_low HO3.out K3.frame.size, K3.frame.trans (HB3.out.mono K3.frame.size)⟩
end Go.Proofs.Ythaancmobpamhaa
