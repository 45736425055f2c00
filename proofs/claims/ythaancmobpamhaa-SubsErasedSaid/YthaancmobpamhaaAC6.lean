/- SubsErased: without a user no pair that has it has any period, and all others have theirs; for all rows, users and pairs. No condition. -/
import Derived.Test.YthaancmobpamhaaAB18
import Derived.Test.YthaancmobpamhaaAB2
namespace Go.Proofs.Ythaancmobpamhaa.subsErased
open Go.ChangeShapes Go.WideShapes Go.ChangeAt Go.RowKit
open Go.ChangeMaps (open_string shut_string)
set_option linter.unusedVariables false
set_option maxRecDepth 100000

/-- the pair, the row that came in, the program's own of it, all else as it was -/
structure Pl (w : World) (g : Nat) (p u : ByteArray) (a x : Option Addr) (l m : List EnM) (W : World) : Prop where
  pc : PcAt W g p u
  a : EnSl W a l
  x : EnSl W x m
  frame : Below w.heap.size w W
theorem Pl.below {w W W' : World} {g : Nat} {p u : ByteArray} {a x : Option Addr} {l m : List EnM} (h : Pl w g p u a x l m W) (q : Below W.heap.size W W') : Pl w g p u a x l m W' :=
  ⟨h.pc.below q, h.a.below q, h.x.below q, h.frame.trans (q.mono h.frame.size)⟩
theorem Pl.new {w : World} (p u : ByteArray) {a : Option Addr} {l : List EnM} (h : EnSl w a l) : Pl w w.heap.size p u a a l l (w.alloc (.cells #[.string p, .string u] 24)) :=
  ⟨PcAt.new _ _ _ _, h.below (below_one _ _), h.below (below_one _ _), below_one _ _⟩

set_option maxHeartbeats 8000000 in
theorem walk (w : World) (a : Option Addr) (c : Nat) (l : List EnM) (hs : EnSl w a l) (hf : FitsE l) (hc : l.length ≤ c) (hcm : c ≤ maxLen) (hn : a = none → c = 0) (s : ByteArray) (hss : s.size ≤ maxLen) (p u : ByteArray) (hp : p.size ≤ maxLen) (hu : u.size ≤ maxLen) :
    Calls Try.prog 8 #[.slice a l.length c, .string s, .agg #[.string p, .string u]] w fun e w' => e = .returned (.bool true) ∧ Below w.heap.size w w' := by
  have HAL := Lib.hid alive_any
  have S0 := Lib.hid (Pl.new p u hs)
  by_cases h1 : 60 < l.length
  · have hd1 : decide ((60 : Int) < (l.length : Int)) = true := decide_eq_true (by omega)
    clear hs hf hc hcm hn hp hu hss
    go_enter Try.func8, Try.ntmps8
    go_wp2_with fail
    refine (HAL.out _).mono ?_
    rintro e w1 ⟨rfl, hB⟩
    go_wp2
    go_ret
    exact ⟨rfl, S0.out.frame.trans (hB.mono S0.out.frame.size)⟩
  have hd1 : decide ((60 : Int) < (l.length : Int)) = false := decide_eq_false (by omega)
  have HL := Lib.hid (show l.length ≤ 60 by omega)
  have HFW := Lib.hid (List.length_filter_le (wiE s) l)
  have HN := Lib.hid (fun W (h : EnSl W a l) => e_news a c l W h (by omega))
  have HWI := Lib.hid (fun x q W (h : EnSl W x l) => e_without x q l s W h (by omega))
  have HPE := Lib.hid (fun x q W (h : EnSl W x (l.filter (wiE s))) => e_periods x q (l.filter (wiE s)) p u W h (by have := HFW.out; omega))
  by_cases hsp : p = s ∨ u = s
  · have HNO : Hid (∀ r, IsSet (HasL (perS (l.filter (wiE s)) p u)) r → r = []) := fun r hr => by
      have e : perS (l.filter (wiE s)) p u = [] := without_none hsp
      rw [e] at hr
      exact hr.only (set_nil (fun x => HasL.nil))
    have HIN : Hid (∀ x q W, EnSl W x (l.filter (wiE s)) → Calls Try.prog 18 #[.slice x (l.filter (wiE s)).length q, .agg #[.string p, .string u]] W fun e w' => e = .returned (.bool false) ∧ Below W.heap.size W w') := fun x q W h => by
      have := e_inforce x q (l.filter (wiE s)) p u W h (by have := HFW.out; omega)
      rwa [show (l.filter (wiE s)).any (infE p u) = false from without_inf hsp] at this
    have hcase : (p.toList == s.toList) = true ∨ ((p.toList == s.toList) = false ∧ (u.toList == s.toList) = true) := by
      by_cases h : p = s
      · left; rw [h]; exact str_eq s
      · right
        refine ⟨str_ne h, ?_⟩
        rcases hsp with h2 | h2
        · exact absurd h2 h
        · rw [h2]; exact str_eq s
    clear hs hf hc hcm hn h1 hp hu hss hsp HFW
    generalize l.filter (wiE s) = lw at *
    obtain ⟨c0, c1, -⟩ := S0.out.pc
    rcases hcase with e1 | ⟨e1, e2⟩
    · go_enter Try.func8, Try.ntmps8
      go_wp2_with fail
      generalize w.alloc (.cells #[.string p, .string u] 24) = w0 at *
      refine (HN.out _ S0.out.a).mono ?_
      rintro e w1 ⟨x1, q1, rfl, -, -, -, z1, h1⟩
      have S1 := Lib.hid (S0.out.below h1)
      clear S0 c0 c1 h1
      obtain ⟨c0, c1, -⟩ := S1.out.pc
      go_wp2_with fail
      refine (HWI.out x1 q1 _ z1).mono ?_
      rintro e w2 ⟨x, q, rfl, -, -, -, z2, h1⟩
      have S2 : Hid (Pl w w.heap.size p u a x l lw w2) := ⟨S1.out.pc.below h1, S1.out.a.below h1, z2, S1.out.frame.trans (h1.mono S1.out.frame.size)⟩
      clear S1 c0 c1 h1 z1 z2
      obtain ⟨c0, c1, -⟩ := S2.out.pc
      go_wp2_with fail
      refine (HPE.out x q _ S2.out.x).mono ?_
      rintro e w3 ⟨y, qy, r, rfl, hr, -, -, -, -, -, h1⟩
      have S3 := Lib.hid (S2.out.below h1)
      clear S2 h1 c0 c1
      obtain ⟨c0, c1, -⟩ := S3.out.pc
      obtain rfl := HNO.out r hr
      clear hr
      go_wp2_with fail
      refine (HAL.out _).mono ?_
      rintro e w4 ⟨rfl, h1⟩
      have S4 := Lib.hid (S3.out.below h1)
      clear S3 h1 c0 c1
      obtain ⟨c0, c1, -⟩ := S4.out.pc
      go_wp2_with fail
      refine (HIN.out x q _ S4.out.x).mono ?_
      rintro e w5 ⟨rfl, h1⟩
      have S5 := Lib.hid (S4.out.below h1)
      clear S4 h1 c0 c1
      obtain ⟨c0, c1, -⟩ := S5.out.pc
      go_wp2
      go_ret
      exact ⟨rfl, S5.out.frame⟩
    · go_enter Try.func8, Try.ntmps8
      go_wp2_with fail
      generalize w.alloc (.cells #[.string p, .string u] 24) = w0 at *
      refine (HN.out _ S0.out.a).mono ?_
      rintro e w1 ⟨x1, q1, rfl, -, -, -, z1, h1⟩
      have S1 := Lib.hid (S0.out.below h1)
      clear S0 c0 c1 h1
      obtain ⟨c0, c1, -⟩ := S1.out.pc
      go_wp2_with fail
      refine (HWI.out x1 q1 _ z1).mono ?_
      rintro e w2 ⟨x, q, rfl, -, -, -, z2, h1⟩
      have S2 : Hid (Pl w w.heap.size p u a x l lw w2) := ⟨S1.out.pc.below h1, S1.out.a.below h1, z2, S1.out.frame.trans (h1.mono S1.out.frame.size)⟩
      clear S1 c0 c1 h1 z1 z2
      obtain ⟨c0, c1, -⟩ := S2.out.pc
      go_wp2_with fail
      refine (HPE.out x q _ S2.out.x).mono ?_
      rintro e w3 ⟨y, qy, r, rfl, hr, -, -, -, -, -, h1⟩
      have S3 := Lib.hid (S2.out.below h1)
      clear S2 h1 c0 c1
      obtain ⟨c0, c1, -⟩ := S3.out.pc
      obtain rfl := HNO.out r hr
      clear hr
      go_wp2_with fail
      refine (HAL.out _).mono ?_
      rintro e w4 ⟨rfl, h1⟩
      have S4 := Lib.hid (S3.out.below h1)
      clear S3 h1 c0 c1
      obtain ⟨c0, c1, -⟩ := S4.out.pc
      go_wp2_with fail
      refine (HIN.out x q _ S4.out.x).mono ?_
      rintro e w5 ⟨rfl, h1⟩
      have S5 := Lib.hid (S4.out.below h1)
      clear S4 h1 c0 c1
      obtain ⟨c0, c1, -⟩ := S5.out.pc
      go_wp2
      go_ret
      exact ⟨rfl, S5.out.frame⟩
  · have e1 := str_ne (fun h => hsp (Or.inl h))
    have e2 := str_ne (fun h => hsp (Or.inr h))
    have HP2 : Hid (∀ r, IsSet (HasL (perS (l.filter (wiE s)) p u)) r → ∀ x q W, EnSl W x l → Calls Try.prog 22 #[.slice x l.length q, .agg #[.string p, .string u]] W fun e w' => ∃ x q, e = .returned (.slice x r.length q) ∧ SpSl w' x r ∧ Below W.heap.size W w') := fun r hr x q W h => by
      have e : perS (l.filter (wiE s)) p u = perS l p u := without_per hsp
      rw [e] at hr
      exact e_periods_r x q l p u r W h hr (by omega)
    have HSS := Lib.hid (fun x y p q r W (h : SpSl W x r) (k : SpSl W y r) hl => c_same x y p q r W h k hl)
    have HRR := Lib.hid (fun W (h : EnSl W a l) => e_rrising a c l W h (SzE.of hf) (by omega))
    have HRA := Lib.hid (fun (hr : RiseE l) x q W (h : EnSl W x (l.filter (wiE s))) => by
      have := e_rising x q (l.filter (wiE s)) W h ((SzE.of hf).filter _) (by have := HFW.out; omega)
      rw [decide_eq_true (rise_filter hr (wiE s))] at this
      exact this)
    have HRI : Hid (∃ b, b = decide (RiseE l) ∧ (b = true → RiseE l)) := ⟨decide (RiseE l), rfl, of_decide_eq_true⟩
    obtain ⟨rb, hrb, hrise⟩ := HRI.out
    rw [← hrb] at HRR
    clear hs hf hc hcm hn h1 hp hu hss hsp HRI hrb
    generalize l.filter (wiE s) = lw at *
    obtain ⟨c0, c1, -⟩ := S0.out.pc
    go_enter Try.func8, Try.ntmps8
    go_wp2_with fail
    generalize w.alloc (.cells #[.string p, .string u] 24) = w0 at *
    refine (HN.out _ S0.out.a).mono ?_
    rintro e w1 ⟨x1, q1, rfl, -, -, -, z1, h1⟩
    have S1 := Lib.hid (S0.out.below h1)
    clear S0 c0 c1 h1
    obtain ⟨c0, c1, -⟩ := S1.out.pc
    go_wp2_with fail
    refine (HWI.out x1 q1 _ z1).mono ?_
    rintro e w2 ⟨x, q, rfl, -, -, -, z2, h1⟩
    have S2 : Hid (Pl w w.heap.size p u a x l lw w2) := ⟨S1.out.pc.below h1, S1.out.a.below h1, z2, S1.out.frame.trans (h1.mono S1.out.frame.size)⟩
    clear S1 c0 c1 h1 z1 z2
    obtain ⟨c0, c1, -⟩ := S2.out.pc
    go_wp2_with fail
    refine (HPE.out x q _ S2.out.x).mono ?_
    rintro e w3 ⟨y, qy, r, rfl, hr, hrl, -, -, -, zy, h1⟩
    have S3 := Lib.hid (S2.out.below h1)
    have ZY := Lib.hid (zy.below (Below.refl w3.heap.size w3).drew)
    have HPR := Lib.hid (HP2.out r hr)
    have HRL := Lib.hid (show r.length ≤ 60 by have := HL.out; have := HFW.out; omega)
    clear S2 c0 c1 h1 hr hrl zy HPE HP2
    obtain ⟨c0, c1, -⟩ := S3.out.pc
    generalize w.heap.size = g at S3 c0 c1 ⊢
    have K0 : Pl w g p u a x l lw w3.drew := S3.out.below (Below.refl _ _).drew
    have HSC : Hid (∀ W, Pl w g p u a x l lw W → W.cell? ⟨g, 0, none⟩ = some (.string p) ∧ W.cell? ⟨g, 1, none⟩ = some (.string u)) := fun W h => ⟨h.pc.1, h.pc.2.1⟩
    cases rb with
    | true =>
      have HRX := Lib.hid (HRA.out (hrise rfl))
      clear hrise HRA
      go_wp2_with fail
      refine wp_region_held_drew (S := (fun W => W.cell? ⟨g, 0, none⟩ = some (.string p) ∧ W.cell? ⟨g, 1, none⟩ = some (.string u))) (by kernel_rfl) ?_ (fun hHeld => ?_)
      · exact HSC.out _ K0
      refine wpAnyH_ready (rs := [0]) (by kernel_rfl) (by simp) ?_
      refine AllReadyH.cons (o := ⟨some 42, _, _, _, _, _⟩) rfl (fun K hK => ?_) AllReadyH.nil
      go_simp
      refine (HAL.out _).mono ?_
      rintro e v1 ⟨rfl, h1⟩
      have K1 := K0.below h1
      have z1 := ZY.out.below h1
      go_wp2_with fail
      refine hK.out _ _ ?_ (fun hH0 => ?_)
      · exact HSC.out _ K1
      clear hK K
      (try simp only [Act.put, List.setIfInBounds_toArray, List.set_cons_zero, List.set_cons_succ])
      refine wpAnyH_take (i := 1) (oi := ⟨some 43, _, _, _, _, _⟩) (v := ?_) rfl (by kernel_rfl) (by kernel_rfl) (by kernel_rfl) (fun _ _ _ h => h) (Or.inl ⟨by rfl, ?_⟩) (by assumption) ?_
      rotate_left
      · (intro wS hSw; (try dsimp only at hSw); (go_simp) <;> (with_reducible rfl))
      (try simp only [Act.put, List.setIfInBounds_toArray, List.set_cons_zero, List.set_cons_succ])
      refine wpAnyH_take (i := 2) (oi := ⟨some 44, _, _, _, _, _⟩) (v := ?_) rfl (by kernel_rfl) (by kernel_rfl) (by kernel_rfl) (fun _ _ _ h => h) (Or.inl ⟨by rfl, ?_⟩) (by assumption) ?_
      rotate_left
      · (intro wS hSw; (try dsimp only at hSw); (go_simp) <;> (with_reducible rfl))
      (try simp only [Act.put, List.setIfInBounds_toArray, List.set_cons_zero, List.set_cons_succ])
      refine wpAnyH_take (i := 3) (oi := ⟨some 45, _, _, _, _, _⟩) (v := ?_) rfl (by kernel_rfl) (by kernel_rfl) (by kernel_rfl) (fun _ _ _ h => h) (Or.inl ⟨by rfl, ?_⟩) (by assumption) ?_
      rotate_left
      · (intro wS hSw; (try dsimp only at hSw); (go_simp) <;> (with_reducible rfl))
      (try simp only [Act.put, List.setIfInBounds_toArray, List.set_cons_zero, List.set_cons_succ])
      refine wpAnyH_take (i := 5) (oi := ⟨some 47, _, _, _, _, _⟩) (v := ?_) rfl (by kernel_rfl) (by kernel_rfl) (by kernel_rfl) (fun _ _ _ h => h) (Or.inl ⟨by rfl, ?_⟩) (by assumption) ?_
      rotate_left
      · (intro wS hSw; (try dsimp only at hSw); (go_simp) <;> (with_reducible rfl))
      (try simp only [Act.put, List.setIfInBounds_toArray, List.set_cons_zero, List.set_cons_succ])
      refine wpAnyH_ready (rs := [4]) (by kernel_rfl) (by simp) ?_
      refine AllReadyH.cons (o := ⟨some 46, _, _, _, _, _⟩) rfl (fun K hK => ?_) AllReadyH.nil
      go_simp
      refine (HN.out _ K1.a).mono ?_
      rintro e v2 ⟨y2, p2, rfl, -, -, -, z2, h2⟩
      have K2 := K1.below h2
      have z3 := z1.below h2
      go_wp2_with fail
      refine hK.out _ _ ?_ (fun hH4 => ?_)
      · exact HSC.out _ K2
      clear hK K
      (try simp only [Act.put, List.setIfInBounds_toArray, List.set_cons_zero, List.set_cons_succ])
      refine wpAnyH_ready (rs := [6]) (by kernel_rfl) (by simp) ?_
      refine AllReadyH.cons (o := ⟨some 48, _, _, _, _, _⟩) rfl (fun K hK => ?_) AllReadyH.nil
      go_simp
      refine (HPR.out y2 p2 _ z2).mono ?_
      rintro e v3 ⟨y3, p3, rfl, z4, h3⟩
      have K3 := K2.below h3
      have z5 := z3.below h3
      go_wp2_with fail
      refine hK.out _ _ ?_ (fun hH6 => ?_)
      · exact HSC.out _ K3
      clear hK K
      (try simp only [Act.put, List.setIfInBounds_toArray, List.set_cons_zero, List.set_cons_succ])
      refine wpAnyH_ready (rs := [7]) (by kernel_rfl) (by simp) ?_
      refine AllReadyH.cons (o := ⟨some 49, _, _, _, _, _⟩) rfl (fun K hK => ?_) AllReadyH.nil
      go_simp
      refine (HSS.out y y3 qy p3 r _ z5 z4 (by have := HRL.out; omega)).mono ?_
      rintro e v4 ⟨rfl, h4⟩
      have K4 := K3.below h4
      go_wp2_with fail
      refine hK.out _ _ ?_ (fun hH7 => ?_)
      · exact HSC.out _ K4
      clear hK K
      (try simp only [Act.put, List.setIfInBounds_toArray, List.set_cons_zero, List.set_cons_succ])
      refine wpAnyH_take (i := 8) (oi := ⟨some 50, _, _, _, _, _⟩) (v := ?_) rfl (by kernel_rfl) (by kernel_rfl) (by kernel_rfl) (fun _ _ _ h => h) (Or.inl ⟨by rfl, ?_⟩) (by assumption) ?_
      rotate_left
      · (intro wS hSw; (try dsimp only at hSw); (go_simp) <;> (with_reducible rfl))
      (try simp only [Act.put, List.setIfInBounds_toArray, List.set_cons_zero, List.set_cons_succ])
      refine wpAnyH_take (i := 9) (oi := ⟨some 51, _, _, _, _, _⟩) (v := ?_) rfl (by kernel_rfl) (by kernel_rfl) (by kernel_rfl) (fun _ _ _ h => h) (Or.inl ⟨by rfl, ?_⟩) (by assumption) ?_
      rotate_left
      · (intro wS hSw; (try dsimp only at hSw); (go_simp) <;> (with_reducible rfl))
      (try simp only [Act.put, List.setIfInBounds_toArray, List.set_cons_zero, List.set_cons_succ])
      refine wpAnyH_take (i := 10) (oi := ⟨some 52, _, _, _, _, _⟩) (v := ?_) rfl (by kernel_rfl) (by kernel_rfl) (by kernel_rfl) (fun _ _ _ h => h) (Or.inl ⟨by rfl, ?_⟩) (by assumption) ?_
      rotate_left
      · (intro wS hSw; (try dsimp only at hSw); (go_simp) <;> (with_reducible rfl))
      (try simp only [Act.put, List.setIfInBounds_toArray, List.set_cons_zero, List.set_cons_succ])
      refine wpAnyH_ready (rs := [11]) (by kernel_rfl) (by simp) ?_
      refine AllReadyH.cons (o := ⟨some 53, _, _, _, _, _⟩) rfl (fun K hK => ?_) AllReadyH.nil
      go_simp
      refine (HRR.out _ K4.a).mono ?_
      rintro e v5 ⟨rfl, h5⟩
      have K5 := K4.below h5
      go_wp2_with fail
      refine hK.out _ _ ?_ (fun hH11 => ?_)
      · exact HSC.out _ K5
      clear hK K
      (try simp only [Act.put, List.setIfInBounds_toArray, List.set_cons_zero, List.set_cons_succ])
      refine wpAnyH_take (i := 12) (oi := ⟨some 54, _, _, _, _, _⟩) (v := ?_) rfl (by kernel_rfl) (by kernel_rfl) (by kernel_rfl) (fun _ _ _ h => h) (Or.inl ⟨by rfl, ?_⟩) (by assumption) ?_
      rotate_left
      · (intro wS hSw; (try dsimp only at hSw); (go_simp) <;> (with_reducible rfl))
      (try simp only [Act.put, List.setIfInBounds_toArray, List.set_cons_zero, List.set_cons_succ])
      refine wpAnyH_take (i := 13) (oi := ⟨some 55, _, _, _, _, _⟩) (v := ?_) rfl (by kernel_rfl) (by kernel_rfl) (by kernel_rfl) (fun _ _ _ h => h) (Or.inl ⟨by rfl, ?_⟩) (by assumption) ?_
      rotate_left
      · (intro wS hSw; (try dsimp only at hSw); (go_simp) <;> (with_reducible rfl))
      (try simp only [Act.put, List.setIfInBounds_toArray, List.set_cons_zero, List.set_cons_succ])
      refine wpAnyH_take (i := 14) (oi := ⟨some 56, _, _, _, _, _⟩) (v := ?_) rfl (by kernel_rfl) (by kernel_rfl) (by kernel_rfl) (fun _ _ _ h => h) (Or.inl ⟨by rfl, ?_⟩) (by assumption) ?_
      rotate_left
      · (intro wS hSw; (try dsimp only at hSw); (go_simp) <;> (with_reducible rfl))
      (try simp only [Act.put, List.setIfInBounds_toArray, List.set_cons_zero, List.set_cons_succ])
      refine wpAnyH_ready (rs := [15]) (by kernel_rfl) (by simp) ?_
      refine AllReadyH.cons (o := ⟨some 57, _, _, _, _, _⟩) rfl (fun K hK => ?_) AllReadyH.nil
      go_simp
      refine (HRX.out x q _ K5.x).mono ?_
      rintro e v6 ⟨rfl, h6⟩
      have K6 := K5.below h6
      go_wp2_with fail
      refine hK.out _ _ ?_ (fun hH15 => ?_)
      · exact HSC.out _ K6
      clear hK K
      (try simp only [Act.put, List.setIfInBounds_toArray, List.set_cons_zero, List.set_cons_succ])
      refine wpAnyH_take (i := 16) (oi := ⟨some 58, _, _, _, _, _⟩) (v := ?_) rfl (by kernel_rfl) (by kernel_rfl) (by kernel_rfl) (fun _ _ _ h => h) (Or.inl ⟨by rfl, ?_⟩) (by assumption) ?_
      rotate_left
      · (intro wS hSw; (try dsimp only at hSw); (go_simp) <;> (with_reducible rfl))
      (try simp only [Act.put, List.setIfInBounds_toArray, List.set_cons_zero, List.set_cons_succ])
      refine wpAnyH_take (i := 17) (oi := ⟨some 59, _, _, _, _, _⟩) (v := ?_) rfl (by kernel_rfl) (by kernel_rfl) (by kernel_rfl) (fun _ _ _ h => h) (Or.inl ⟨by rfl, ?_⟩) (by assumption) ?_
      rotate_left
      · (intro wS hSw; (try dsimp only at hSw); (go_simp) <;> (with_reducible rfl))
      (try simp only [Act.put, List.setIfInBounds_toArray, List.set_cons_zero, List.set_cons_succ])
      refine wpAnyH_take (i := 18) (oi := ⟨some 6, _, _, _, _, _⟩) (v := ?_) rfl (by kernel_rfl) (by kernel_rfl) (by kernel_rfl) (fun _ _ _ h => h) (Or.inl ⟨by rfl, ?_⟩) (by assumption) ?_
      rotate_left
      · (intro wS hSw; (try dsimp only at hSw); (go_simp) <;> (with_reducible rfl))
      (try simp only [Act.put, List.setIfInBounds_toArray, List.set_cons_zero, List.set_cons_succ])
      refine wpAnyH_done (by kernel_rfl) ?_ _
      all_goals
        go_wp2
        go_ret
        exact ⟨rfl, K6.frame⟩
    | false =>
      clear hrise HRA
      go_wp2_with fail
      refine wp_region_held_drew (S := (fun W => W.cell? ⟨g, 0, none⟩ = some (.string p) ∧ W.cell? ⟨g, 1, none⟩ = some (.string u))) (by kernel_rfl) ?_ (fun hHeld => ?_)
      · exact HSC.out _ K0
      refine wpAnyH_ready (rs := [0]) (by kernel_rfl) (by simp) ?_
      refine AllReadyH.cons (o := ⟨some 42, _, _, _, _, _⟩) rfl (fun K hK => ?_) AllReadyH.nil
      go_simp
      refine (HAL.out _).mono ?_
      rintro e v1 ⟨rfl, h1⟩
      have K1 := K0.below h1
      have z1 := ZY.out.below h1
      go_wp2_with fail
      refine hK.out _ _ ?_ (fun hH0 => ?_)
      · exact HSC.out _ K1
      clear hK K
      (try simp only [Act.put, List.setIfInBounds_toArray, List.set_cons_zero, List.set_cons_succ])
      refine wpAnyH_take (i := 1) (oi := ⟨some 43, _, _, _, _, _⟩) (v := ?_) rfl (by kernel_rfl) (by kernel_rfl) (by kernel_rfl) (fun _ _ _ h => h) (Or.inl ⟨by rfl, ?_⟩) (by assumption) ?_
      rotate_left
      · (intro wS hSw; (try dsimp only at hSw); (go_simp) <;> (with_reducible rfl))
      (try simp only [Act.put, List.setIfInBounds_toArray, List.set_cons_zero, List.set_cons_succ])
      refine wpAnyH_take (i := 2) (oi := ⟨some 44, _, _, _, _, _⟩) (v := ?_) rfl (by kernel_rfl) (by kernel_rfl) (by kernel_rfl) (fun _ _ _ h => h) (Or.inl ⟨by rfl, ?_⟩) (by assumption) ?_
      rotate_left
      · (intro wS hSw; (try dsimp only at hSw); (go_simp) <;> (with_reducible rfl))
      (try simp only [Act.put, List.setIfInBounds_toArray, List.set_cons_zero, List.set_cons_succ])
      refine wpAnyH_take (i := 3) (oi := ⟨some 45, _, _, _, _, _⟩) (v := ?_) rfl (by kernel_rfl) (by kernel_rfl) (by kernel_rfl) (fun _ _ _ h => h) (Or.inl ⟨by rfl, ?_⟩) (by assumption) ?_
      rotate_left
      · (intro wS hSw; (try dsimp only at hSw); (go_simp) <;> (with_reducible rfl))
      (try simp only [Act.put, List.setIfInBounds_toArray, List.set_cons_zero, List.set_cons_succ])
      refine wpAnyH_take (i := 5) (oi := ⟨some 47, _, _, _, _, _⟩) (v := ?_) rfl (by kernel_rfl) (by kernel_rfl) (by kernel_rfl) (fun _ _ _ h => h) (Or.inl ⟨by rfl, ?_⟩) (by assumption) ?_
      rotate_left
      · (intro wS hSw; (try dsimp only at hSw); (go_simp) <;> (with_reducible rfl))
      (try simp only [Act.put, List.setIfInBounds_toArray, List.set_cons_zero, List.set_cons_succ])
      refine wpAnyH_ready (rs := [4]) (by kernel_rfl) (by simp) ?_
      refine AllReadyH.cons (o := ⟨some 46, _, _, _, _, _⟩) rfl (fun K hK => ?_) AllReadyH.nil
      go_simp
      refine (HN.out _ K1.a).mono ?_
      rintro e v2 ⟨y2, p2, rfl, -, -, -, z2, h2⟩
      have K2 := K1.below h2
      have z3 := z1.below h2
      go_wp2_with fail
      refine hK.out _ _ ?_ (fun hH4 => ?_)
      · exact HSC.out _ K2
      clear hK K
      (try simp only [Act.put, List.setIfInBounds_toArray, List.set_cons_zero, List.set_cons_succ])
      refine wpAnyH_ready (rs := [6]) (by kernel_rfl) (by simp) ?_
      refine AllReadyH.cons (o := ⟨some 48, _, _, _, _, _⟩) rfl (fun K hK => ?_) AllReadyH.nil
      go_simp
      refine (HPR.out y2 p2 _ z2).mono ?_
      rintro e v3 ⟨y3, p3, rfl, z4, h3⟩
      have K3 := K2.below h3
      have z5 := z3.below h3
      go_wp2_with fail
      refine hK.out _ _ ?_ (fun hH6 => ?_)
      · exact HSC.out _ K3
      clear hK K
      (try simp only [Act.put, List.setIfInBounds_toArray, List.set_cons_zero, List.set_cons_succ])
      refine wpAnyH_ready (rs := [7]) (by kernel_rfl) (by simp) ?_
      refine AllReadyH.cons (o := ⟨some 49, _, _, _, _, _⟩) rfl (fun K hK => ?_) AllReadyH.nil
      go_simp
      refine (HSS.out y y3 qy p3 r _ z5 z4 (by have := HRL.out; omega)).mono ?_
      rintro e v4 ⟨rfl, h4⟩
      have K4 := K3.below h4
      go_wp2_with fail
      refine hK.out _ _ ?_ (fun hH7 => ?_)
      · exact HSC.out _ K4
      clear hK K
      (try simp only [Act.put, List.setIfInBounds_toArray, List.set_cons_zero, List.set_cons_succ])
      refine wpAnyH_take (i := 8) (oi := ⟨some 50, _, _, _, _, _⟩) (v := ?_) rfl (by kernel_rfl) (by kernel_rfl) (by kernel_rfl) (fun _ _ _ h => h) (Or.inl ⟨by rfl, ?_⟩) (by assumption) ?_
      rotate_left
      · (intro wS hSw; (try dsimp only at hSw); (go_simp) <;> (with_reducible rfl))
      (try simp only [Act.put, List.setIfInBounds_toArray, List.set_cons_zero, List.set_cons_succ])
      refine wpAnyH_take (i := 9) (oi := ⟨some 51, _, _, _, _, _⟩) (v := ?_) rfl (by kernel_rfl) (by kernel_rfl) (by kernel_rfl) (fun _ _ _ h => h) (Or.inl ⟨by rfl, ?_⟩) (by assumption) ?_
      rotate_left
      · (intro wS hSw; (try dsimp only at hSw); (go_simp) <;> (with_reducible rfl))
      (try simp only [Act.put, List.setIfInBounds_toArray, List.set_cons_zero, List.set_cons_succ])
      refine wpAnyH_take (i := 10) (oi := ⟨some 52, _, _, _, _, _⟩) (v := ?_) rfl (by kernel_rfl) (by kernel_rfl) (by kernel_rfl) (fun _ _ _ h => h) (Or.inl ⟨by rfl, ?_⟩) (by assumption) ?_
      rotate_left
      · (intro wS hSw; (try dsimp only at hSw); (go_simp) <;> (with_reducible rfl))
      (try simp only [Act.put, List.setIfInBounds_toArray, List.set_cons_zero, List.set_cons_succ])
      refine wpAnyH_ready (rs := [11]) (by kernel_rfl) (by simp) ?_
      refine AllReadyH.cons (o := ⟨some 53, _, _, _, _, _⟩) rfl (fun K hK => ?_) AllReadyH.nil
      go_simp
      refine (HRR.out _ K4.a).mono ?_
      rintro e v5 ⟨rfl, h5⟩
      have K5 := K4.below h5
      go_wp2_with fail
      refine hK.out _ _ ?_ (fun hH11 => ?_)
      · exact HSC.out _ K5
      clear hK K
      (try simp only [Act.put, List.setIfInBounds_toArray, List.set_cons_zero, List.set_cons_succ])
      refine wpAnyH_take (i := 12) (oi := ⟨some 54, _, _, _, _, _⟩) (v := ?_) rfl (by kernel_rfl) (by kernel_rfl) (by kernel_rfl) (fun _ _ _ h => h) (Or.inl ⟨by rfl, ?_⟩) (by assumption) ?_
      rotate_left
      · (intro wS hSw; (try dsimp only at hSw); (go_simp) <;> (with_reducible rfl))
      (try simp only [Act.put, List.setIfInBounds_toArray, List.set_cons_zero, List.set_cons_succ])
      refine wpAnyH_take (i := 13) (oi := ⟨some 55, _, _, _, _, _⟩) (v := ?_) rfl (by kernel_rfl) (by kernel_rfl) (by kernel_rfl) (fun _ _ _ h => h) (Or.inl ⟨by rfl, ?_⟩) (by assumption) ?_
      rotate_left
      · (intro wS hSw; (try dsimp only at hSw); (go_simp) <;> (with_reducible rfl))
      (try simp only [Act.put, List.setIfInBounds_toArray, List.set_cons_zero, List.set_cons_succ])
      refine wpAnyH_take (i := 14) (oi := ⟨some 56, _, _, _, _, _⟩) (v := undef) rfl (by kernel_rfl) (by kernel_rfl) (by kernel_rfl) (fun _ _ _ h => h) (Or.inr ⟨by rfl, rfl⟩) (by assumption) ?_
      (try simp only [Act.put, List.setIfInBounds_toArray, List.set_cons_zero, List.set_cons_succ])
      refine wpAnyH_take (i := 15) (oi := ⟨some 57, _, _, _, _, _⟩) (v := undef) rfl (by kernel_rfl) (by kernel_rfl) (by kernel_rfl) (fun _ _ _ h => h) (Or.inr ⟨by rfl, rfl⟩) (by assumption) ?_
      (try simp only [Act.put, List.setIfInBounds_toArray, List.set_cons_zero, List.set_cons_succ])
      refine wpAnyH_take (i := 16) (oi := ⟨some 58, _, _, _, _, _⟩) (v := ?_) rfl (by kernel_rfl) (by kernel_rfl) (by kernel_rfl) (fun _ _ _ h => h) (Or.inl ⟨by rfl, ?_⟩) (by assumption) ?_
      rotate_left
      · (intro wS hSw; (try dsimp only at hSw); (go_simp) <;> (with_reducible rfl))
      (try simp only [Act.put, List.setIfInBounds_toArray, List.set_cons_zero, List.set_cons_succ])
      refine wpAnyH_take (i := 17) (oi := ⟨some 59, _, _, _, _, _⟩) (v := ?_) rfl (by kernel_rfl) (by kernel_rfl) (by kernel_rfl) (fun _ _ _ h => h) (Or.inl ⟨by rfl, ?_⟩) (by assumption) ?_
      rotate_left
      · (intro wS hSw; (try dsimp only at hSw); (go_simp) <;> (with_reducible rfl))
      (try simp only [Act.put, List.setIfInBounds_toArray, List.set_cons_zero, List.set_cons_succ])
      refine wpAnyH_take (i := 18) (oi := ⟨some 6, _, _, _, _, _⟩) (v := ?_) rfl (by kernel_rfl) (by kernel_rfl) (by kernel_rfl) (fun _ _ _ h => h) (Or.inl ⟨by rfl, ?_⟩) (by assumption) ?_
      rotate_left
      · (intro wS hSw; (try dsimp only at hSw); (go_simp) <;> (with_reducible rfl))
      (try simp only [Act.put, List.setIfInBounds_toArray, List.set_cons_zero, List.set_cons_succ])
      refine wpAnyH_done (by kernel_rfl) ?_ _
      all_goals
        go_wp2
        go_ret
        exact ⟨rfl, K5.frame⟩

set_option maxRecDepth 100000 in
theorem lifted (os : Os) (started : os.Started) (H : Type) (enc : TypeId × Value → H) :
    ReturnsInHanded {} Try.checked os 8 .any (Rows.subsErasedSpec.pre6 enc Try.prog Try.f8 Rows.subsErasedRow.domain false) (Rows.subsErasedSpec.post enc Try.prog Try.f8 false true false false) := by
  refine returnsInHanded_of_change (C := Try.checked) own started (by kernel_rfl) Try.func8
    (ChangeSpec.witness6 (enc := enc) (C := Try.checked) false ⟨#[], #[.slice none 0 0, .string ByteArray.empty, .agg #[.string ByteArray.empty, .string ByteArray.empty]], []⟩ 8 (by kernel_rfl) (by kernel_rfl) (by kernel_rfl) (by kernel_rfl)) ?_
  intro W base args ds gs before hval0 hW hcnd _
  have hval : ∀ (j : Nat) t v, Try.f8.params[j]? = some t → args[j]? = some v → Value.okWide Try.prog W .any base t v := hval0
  have hW' := hW
  have hlt := hW.lt
  obtain ⟨p, q, hA0, hV, rfl, hfz, hnd⟩ := hW
  have hA : DataW.TrodAll enc Try.prog W 0 (fun _ => true) true Try.f8.params.toList args.toList ds p := hA0
  rw [Try.params8] at hA hval
  obtain ⟨v0, vs0, d0, ds0, p0, q0, hargs, rfl, rfl, h0, r0⟩ := trodAll_cons hA
  obtain ⟨v1, vs1, d1, ds1, p1, q1, rfl, rfl, rfl, h1, r1⟩ := trodAll_cons r0
  obtain ⟨v2, vs2, d2, ds2, p2, q2, rfl, rfl, rfl, h2, r2⟩ := trodAll_cons r1
  obtain ⟨rfl, rfl, rfl⟩ := trodAll_nil r2
  obtain rfl : args = #[v0, v1, v2] := by cases args; simp_all
  obtain ⟨a0, c0, l0, rfl, s0, f0, m0, n0, o0⟩ := open_entries (hval 0 22 v0 rfl rfl) h0
  obtain ⟨a1, rfl, -, -, w1⟩ := open_string Try.underlying9 (hval 1 9 v1 rfl rfl) h1
  obtain ⟨x2, y2, rfl, f2, g2⟩ := open_prr (hval 2 24 v2 rfl rfl) h2
  refine (walk W a0 c0 l0 s0 f0 m0 n0 o0 a1 w1 x2 y2 f2 g2).mono fun e W' ⟨he, hb⟩ => ?_
  subst he
  exact ⟨_, rfl, law_post rfl hW' (fun ds h => by match ds, h with | [_, _, _], _ => rfl) (by kernel_rfl) (by kernel_rfl) (by kernel_rfl) hb⟩

theorem over : Rows.subsErasedRow.holds Try.pinned (OpenSpec.ofChange Rows.subsErasedSpec) :=
  OpenClaim.holds_of_wide 8 Try.f8 rfl rfl rfl rfl rfl rfl rfl ⟨rfl, rfl, rfl, rfl, rfl⟩ rfl rfl rfl rfl rfl (by kernel_rfl) Try.func8 (by kernel_rfl)
    (of_decide_eq_true (by kernel_rfl)) (by unfold Func.isWrapper; first | (rw [if_pos (by decide +kernel)]; kernel_rfl) | (rw [if_neg (by decide +kernel)]; exact ⟨rfl, rfl⟩))
    (fun os started H enc _ => lifted os started H enc)

theorem proved : Rows.SubsErasedSaid := over
end Go.Proofs.Ythaancmobpamhaa.subsErased
