/- SubsGoes: entries that are made by grants and revokes, at times that never fall, rise; a period is from its grant up to its revoke; for all rows. No condition. -/
import Derived.Test.YthaancmobpamhaaAB18
import Derived.Test.YthaancmobpamhaaAB2
namespace Go.Proofs.Ythaancmobpamhaa.subsGoes
open Go.ChangeShapes Go.WideShapes Go.ChangeAt Go.RowKit
open Go.ChangeMaps (open_string shut_string)
set_option linter.unusedVariables false
set_option maxRecDepth 100000

theorem sz_grant {m : List EnM} {p u : ByteArray} {n : Int} (h : SzE m) (hp : p.size ≤ maxLen) (hu : u.size ≤ maxLen) : SzE (grantS m (mkE p u n)) := fun e he => by
  unfold grantS at he
  rcases List.mem_append.1 he with h1 | h1
  · exact h e (List.mem_of_mem_take h1)
  · rcases List.mem_cons.1 h1 with rfl | h1
    · exact ⟨hp, hu⟩
    · exact h e (List.mem_of_mem_drop h1)
theorem sz_revoke {m : List EnM} {p u : ByteArray} {n : Int} (h : SzE m) : SzE (revokeS m p u n) := fun e he => by
  have hF := first_idx (infE p u) m
  rw [revoke_at hF] at he
  generalize m.findIdx _ = k at *
  by_cases hk : k < m.length
  · rw [cut_at hk] at he
    rcases List.mem_append.1 he with h1 | h1
    · exact h e (List.mem_of_mem_take h1)
    · rcases List.mem_append.1 h1 with h1 | h1
      · unfold endS at h1
        split at h1
        · cases h1
        · rw [List.mem_singleton.1 h1]
          exact h m[k] (List.getElem_mem hk)
      · exact h e (List.mem_of_mem_drop h1)
  · unfold cutS at he
    rw [List.getElem?_eq_none (by omega)] at he
    exact h e he
theorem fits_per {m : List EnM} {b : Int} {p u : ByteArray} {r : List SpM} (h : GoE m b) (hb : b < 1099511627776) (hr : IsSet (HasL (perS m p u)) r) : FitsS r :=
  fits_set hr (fun x hx => by
    obtain ⟨e, he, _, h1, h2⟩ := per_has.1 hx
    have h3 := h.bnd e he
    unfold minI maxI
    omega)
/-- where the loop stands -/
structure Go9 (w : World) (a x : Option Addr) (l m : List EnM) (j q : Nat) (b : Int) (W : World) : Prop where
  ra : EnSl W a l
  rx : EnSl W x m
  nil : x = none → q = 0
  cap : m.length ≤ q
  top : q ≤ maxLen
  len : m.length ≤ j
  go : GoE m b
  low : 0 ≤ b
  sz : SzE m
  frame : Below w.heap.size w W
/-- an entry at g, a pair at h, both rows, all else as it was -/
structure Rd (w : World) (g h : Nat) (ew eu : ByteArray) (ef et : Int) (a x : Option Addr) (l m : List EnM) (W : World) : Prop where
  e : W.cell? ⟨g, 0, none⟩ = some (.string ew) ∧ W.cell? ⟨g, 1, none⟩ = some (.string eu) ∧ W.cell? ⟨g, 2, none⟩ = some (.int .i64 ef) ∧ W.cell? ⟨g, 3, none⟩ = some (.int .i64 et) ∧ g < W.heap.size
  pc : PcAt W h ew eu
  a : EnSl W a l
  x : EnSl W x m
  frame : Below w.heap.size w W
theorem Rd.below {w W W' : World} {g h : Nat} {ew eu : ByteArray} {ef et : Int} {a x : Option Addr} {l m : List EnM} (k : Rd w g h ew eu ef et a x l m W) (q : Below W.heap.size W W') : Rd w g h ew eu ef et a x l m W' :=
  ⟨⟨(q.cell (p := ⟨g, 0, none⟩) k.e.2.2.2.2).trans k.e.1, (q.cell (p := ⟨g, 1, none⟩) k.e.2.2.2.2).trans k.e.2.1, (q.cell (p := ⟨g, 2, none⟩) k.e.2.2.2.2).trans k.e.2.2.1, (q.cell (p := ⟨g, 3, none⟩) k.e.2.2.2.2).trans k.e.2.2.2.1, Nat.lt_of_lt_of_le k.e.2.2.2.2 q.size⟩, k.pc.below q, k.a.below q, k.x.below q, k.frame.trans (q.mono k.frame.size)⟩
theorem Rd.cells {w W : World} {g h : Nat} {ew eu : ByteArray} {ef et : Int} {a x : Option Addr} {l m : List EnM} (k : Rd w g h ew eu ef et a x l m W) : W.cell? ⟨g, 0, none⟩ = some (.string ew) ∧ W.cell? ⟨g, 1, none⟩ = some (.string eu) ∧ W.cell? ⟨g, 2, none⟩ = some (.int .i64 ef) ∧ W.cell? ⟨g, 3, none⟩ = some (.int .i64 et) ∧ W.cell? ⟨h, 0, none⟩ = some (.string ew) ∧ W.cell? ⟨h, 1, none⟩ = some (.string eu) :=
  ⟨k.e.1, k.e.2.1, k.e.2.2.1, k.e.2.2.2.1, k.pc.1, k.pc.2.1⟩
theorem Rd.new {w W : World} (ew eu : ByteArray) (ef et : Int) {a x : Option Addr} {l m : List EnM} (ha : EnSl W a l) (hx : EnSl W x m) (hb : Below w.heap.size w W) : Rd w W.heap.size (W.heap.size + 1) ew eu ef et a x l m ((W.alloc (.cells #[.string ew, .string eu, .int .i64 ef, .int .i64 et] 53)).alloc (.cells #[.string ew, .string eu] 31)) := by
  have b0 := below_one W (.cells #[.string ew, .string eu, .int .i64 ef, .int .i64 et] 53)
  have z0 := size1 W (.cells #[.string ew, .string eu, .int .i64 ef, .int .i64 et] 53)
  obtain ⟨d0, d1, d2, d3⟩ := cells4 (heap_alloc_new W (.cells #[.string ew, .string eu, .int .i64 ef, .int .i64 et] 53))
  generalize W.alloc (.cells #[.string ew, .string eu, .int .i64 ef, .int .i64 et] 53) = w0 at *
  have h1 := PcAt.new w0 ew eu 31
  have b1 := below_one w0 (.cells #[.string ew, .string eu] 31)
  generalize w0.alloc (.cells #[.string ew, .string eu] 31) = w1 at *
  rw [z0] at h1
  have hlt : W.heap.size < w0.heap.size := by omega
  exact ⟨⟨(b1.cell (p := ⟨W.heap.size, 0, none⟩) hlt).trans d0, (b1.cell (p := ⟨W.heap.size, 1, none⟩) hlt).trans d1, (b1.cell (p := ⟨W.heap.size, 2, none⟩) hlt).trans d2, (b1.cell (p := ⟨W.heap.size, 3, none⟩) hlt).trans d3, Nat.lt_of_lt_of_le hlt b1.size⟩, h1, (ha.below b0).below b1, (hx.below b0).below b1, (hb.trans (b0.mono hb.size)).trans (b1.mono (Nat.le_trans hb.size b0.size))⟩
theorem join_1 (x : Option Addr) (q g : Nat) (r : List SpM) (f : Int) (W : World) (hx : SpSl W x r) (nx : x = none → q = 0) (hl : r.length ≤ 1000) (t t' : TypeId) (g2 : Nat) (hg : g = W.heap.size) (hg2 : g2 = W.heap.size + 1) :
    Calls Try.prog 32 #[.slice (some ⟨g2, 0, none⟩) 2 2] ((W.alloc (.cells #[.int .i64 f, .int .i64 1099511627776] t')).alloc (.cells #[.slice x r.length q, .slice (some ⟨g, 0, none⟩) 1 1] t)) fun e w' => ∃ z c s, e = .returned (.slice z s.length c) ∧ IsSet (fun t => HasL r t ∨ (f ≤ t ∧ t < 1099511627776)) s ∧ s.length ≤ r.length + 1 ∧ SpSl w' z s ∧ Below W.heap.size W w' := by
  subst hg
  have hb := below_one W (.cells #[.int .i64 f, .int .i64 1099511627776] t')
  have hz := size1 W (.cells #[.int .i64 f, .int .i64 1099511627776] t')
  have hy := cells_sp W [⟨f, 1099511627776⟩] #[.int .i64 f, .int .i64 1099511627776] t' _ rfl rfl
  generalize W.alloc (.cells #[.int .i64 f, .int .i64 1099511627776] t') = W1 at *
  refine (n_join x (some ⟨W.heap.size, 0, none⟩) q 1 g2 r [⟨f, 1099511627776⟩] W1 (by omega) (hx.below hb) hy nx (fun h => by cases h) hl (show 1 ≤ 1000 by decide) t).mono ?_
  rintro e w' ⟨z, c, s, rfl, hs, hsl, -, -, -, h3, hbb⟩
  exact ⟨z, c, s, rfl, hs.congr (fun t => or_congr Iff.rfl hasL_one), hsl, h3, hb.trans (hbb.mono hb.size)⟩
theorem less_1 (x : Option Addr) (q g : Nat) (r : List SpM) (f : Int) (W : World) (hx : SpSl W x r) (hq : r.length ≤ q) (hqm : q ≤ maxLen) (hl : r.length ≤ 400) (hr : FitsS r) (hf : I64 f) (t' : TypeId) (hg : g = W.heap.size) :
    Calls Try.prog 33 #[.slice x r.length q, .slice (some ⟨g, 0, none⟩) 1 1] (W.alloc (.cells #[.int .i64 f, .int .i64 1099511627776] t')) fun e w' => ∃ z c s, e = .returned (.slice z s.length c) ∧ IsSet (fun t => HasL r t ∧ ¬ (f ≤ t ∧ t < 1099511627776)) s ∧ s.length ≤ r.length + 2 ∧ SpSl w' z s ∧ Below W.heap.size W w' := by
  subst hg
  have hb := below_one W (.cells #[.int .i64 f, .int .i64 1099511627776] t')
  have hy := cells_sp W [⟨f, 1099511627776⟩] #[.int .i64 f, .int .i64 1099511627776] t' _ rfl rfl
  generalize W.alloc (.cells #[.int .i64 f, .int .i64 1099511627776] t') = W1 at *
  refine (n_less x q (some ⟨W.heap.size, 0, none⟩) 1 r [⟨f, 1099511627776⟩] W1 (hx.below hb) hy hq (show 1 ≤ 1 by decide) hqm (by decide) hl (show 1 ≤ 400 by decide) hr (fun s hs => by rw [List.mem_singleton.1 hs]; exact ⟨hf, show I64 1099511627776 by unfold I64; decide⟩)).mono ?_
  rintro e w' ⟨z, c, s, rfl, hs, hsl, -, -, -, h3, hbb⟩
  exact ⟨z, c, s, rfl, hs.congr (fun t => and_congr Iff.rfl (not_congr hasL_one)), hsl, h3, hb.trans (hbb.mono hb.size)⟩

set_option maxHeartbeats 16000000 in
theorem walk (w : World) (a : Option Addr) (c : Nat) (l : List EnM) (hs : EnSl w a l) (hf : FitsE l) (hc : l.length ≤ c) (hcm : c ≤ maxLen) (hn : a = none → c = 0) :
    Calls Try.prog 6 #[.slice a l.length c] w fun e w' => e = .returned (.bool true) ∧ Below w.heap.size w w' := by
  have HAL := Lib.hid alive_any
  by_cases h1 : 60 < l.length
  · have hd1 : decide ((60 : Int) < (l.length : Int)) = true := decide_eq_true (by omega)
    clear hs hf hc hcm hn
    go_enter Try.func6, Try.ntmps6
    go_wp2_with fail
    refine (HAL.out _).mono ?_
    rintro e w1 ⟨rfl, hB⟩
    go_wp2
    go_ret
    exact ⟨rfl, hB⟩
  have hd1 : decide ((60 : Int) < (l.length : Int)) = false := decide_eq_false (by omega)
  have HL := Lib.hid (show l.length ≤ 60 by omega)
  have HF := Lib.hid hf
  have HS0 : Hid (Go9 w a none l [] 0 0 0 w) := ⟨hs, EnSl.nil _ _, fun _ => rfl, Nat.le_refl _, by decide, Nat.le_refl _, GoE.nil, Int.le_refl _, (fun e h => by cases h), Below.refl _ _⟩
  clear hs hf hc hcm hn h1
  go_enter Try.func6, Try.ntmps6
  go_wp2
  go_loopw [3, 4, 19] (fun vx vb i wr => ∃ (j : Nat) (m : List EnM) (x : Option Addr) (q : Nat) (b : Int), j ≤ l.length ∧ i = .int .i64 j ∧ vx = .slice x m.length q ∧ vb = .int .i64 b ∧ Hid (Go9 w a x l m j q b wr)) (fun _ _ i _ => l.length - (intOf i).toNat)
  case atStart => exact ⟨0, [], none, 0, 0, by omega, rfl, rfl, rfl, HS0.out⟩
  case round =>
    clear HS0
    obtain ⟨j, m, x, q, b, hj, rfl, rfl, rfl, HG⟩ := hrel
    by_cases hjl : j < l.length
    · obtain ⟨ab, off, rfl, hbl, hc0, hc1, hc2, hc3⟩ := HG.out.ra.at_ hjl
      have HFX := Lib.hid (HF.out l[j] (List.getElem_mem hjl))
      generalize l[j] = ex at *
      obtain ⟨ew, eu, ef, et⟩ := ex
      dsimp only at hc0 hc1 hc2 hc3 HFX
      have S0 := Lib.hid (Rd.new ew eu ef et HG.out.ra HG.out.rx HG.out.frame)
      have HML : Hid (m.length ≤ 60) := Nat.le_trans HG.out.len (Nat.le_trans hj HL.out)
      by_cases h1 : ef < b
      · have hd2 := decide_eq_true h1
        clear h1
        go_wp2_with fail
        refine (HAL.out _).mono ?_
        rintro e w1 ⟨rfl, hB⟩
        go_wp2
        go_ret
        exact ⟨rfl, S0.out.frame.trans (hB.mono S0.out.frame.size)⟩
      have hd2 := decide_eq_false h1
      by_cases h2 : (1099511627776 : Int) ≤ ef
      · have hd3 := decide_eq_true h2
        clear h1 h2
        go_wp2_with fail
        refine (HAL.out _).mono ?_
        rintro e w1 ⟨rfl, hB⟩
        go_wp2
        go_ret
        exact ⟨rfl, S0.out.frame.trans (hB.mono S0.out.frame.size)⟩
      have hd3 := decide_eq_false h2
      have HRT := Lib.hid (fun W => pairRight_any ew eu W HFX.out.1 HFX.out.2.1)
      unfold pr at HRT
      have HBF := Lib.hid (show b ≤ ef ∧ ef < 1099511627776 by omega)
      clear h1 h2
      cases hnm : (nameB ew && nameB eu) with
      | false =>
        rw [hnm] at HRT
        clear hnm
        go_wp2_with fail
        refine (HRT.out _).mono ?_
        rintro e w1 ⟨rfl, hB⟩
        have S1 := Lib.hid (S0.out.below hB)
        clear hB S0 HRT
        go_wp2_with fail
        refine (HAL.out _).mono ?_
        rintro e w2 ⟨rfl, hB⟩
        go_wp2
        go_ret
        exact ⟨rfl, S1.out.frame.trans (hB.mono S1.out.frame.size)⟩
      | true =>
        rw [hnm] at HRT
        have HNM := Lib.hid ((Bool.and_eq_true _ _).mp hnm)
        clear hnm
        have HPE := Lib.hid (fun W (h : EnSl W x m) => e_periods x q m ew eu W h (by have := HML.out; omega))
        have HIN := Lib.hid (fun W (h : EnSl W x m) => e_inforce x q m ew eu W h (by have := HML.out; omega))
        have HSS := Lib.hid (fun x y p q r W (h : SpSl W x r) (k : SpSl W y r) hl => c_same x y p q r W h k hl)
        have HJN := Lib.hid join_1
        cases hi : m.any (infE ew eu) with
        | false =>
          rw [hi] at HIN
          have HGR := Lib.hid (fun W (h : EnSl W x m) => e_grant x q m ew eu ef W h HG.out.nil (by have := HML.out; omega) HG.out.cap HG.out.top hi)
          obtain ⟨hgo, hset, hany⟩ := HG.out.go.grant HG.out.low HBF.out.1 HBF.out.2 HNM.out.1 HNM.out.2 hi
          have HGS := Lib.hid (sz_grant (n := ef) HG.out.sz HFX.out.1 HFX.out.2.1)
          have HGL : Hid ((grantS m (mkE ew eu ef)).length ≤ m.length + 1) := Nat.le_of_eq (grant_len _ _)
          generalize grantS m (mkE ew eu ef) = G at *
          have HGO := Lib.hid hgo
          have HST := Lib.hid hset
          have HRI : Hid (∀ y qy W, EnSl W y G → Calls Try.prog 28 #[.slice y G.length qy] W fun e w' => e = .returned (.bool true) ∧ Below W.heap.size W w') := fun y qy W h => by
            have := e_rising y qy G W h HGS.out (by have := HML.out; have := HGL.out; omega)
            rwa [decide_eq_true HGO.out.rise] at this
          have HI2 : Hid (∀ y qy W, EnSl W y G → Calls Try.prog 18 #[.slice y G.length qy, .agg #[.string ew, .string eu]] W fun e w' => e = .returned (.bool true) ∧ Below W.heap.size W w') := fun y qy W h => by
            have := e_inforce y qy G ew eu W h (by have := HML.out; have := HGL.out; omega)
            rwa [hany] at this
          have HP2 := Lib.hid (fun y qy z W (h : EnSl W y G) (hz : IsSet (HasL (perS G ew eu)) z) => e_periods_r y qy G ew eu z W h hz (by have := HML.out; have := HGL.out; omega))
          clear hi hgo hset hany
          go_wp2_with fail
          refine (HRT.out _).mono ?_
          rintro e w1 ⟨rfl, hB⟩
          have S1 := Lib.hid (S0.out.below hB)
          clear S0 hB HRT hc0 hc1 hc2 hc3
          obtain ⟨d0, d1, d2, d3, c0, c1⟩ := S1.out.cells
          go_wp2_with fail
          refine (HPE.out _ S1.out.x).mono ?_
          rintro e w2 ⟨y, qy, r, rfl, hr, hrl, hrq, hrm, hrn, zr, h1⟩
          have S2 := Lib.hid (S1.out.below h1)
          clear S1 h1 d0 d1 d2 d3 c0 c1
          obtain ⟨d0, d1, d2, d3, c0, c1⟩ := S2.out.cells
          have HRS := Lib.hid hr
          have HRL := Lib.hid (Nat.le_trans hrl HML.out)
          have HRQ := Lib.hid hrq
          have HRM := Lib.hid hrm
          have HRN := Lib.hid hrn
          clear hr hrl hrq hrm hrn
          go_wp2_with fail
          refine (HIN.out _ S2.out.x).mono ?_
          rintro e w3 ⟨rfl, h1⟩
          have S3 := Lib.hid (S2.out.below h1)
          replace zr := zr.below h1
          clear S2 h1 d0 d1 d2 d3 c0 c1
          obtain ⟨d0, d1, d2, d3, c0, c1⟩ := S3.out.cells
          go_wp2_with fail
          refine (HGR.out _ S3.out.x).mono ?_
          rintro e w4 ⟨x4, q4, rfl, k4, m4, n4, z4, h1⟩
          have S4 := Lib.hid (S3.out.below h1)
          replace zr := zr.below h1
          clear S3 h1 d0 d1 d2 d3 c0 c1
          obtain ⟨d0, d1, d2, d3, c0, c1⟩ := S4.out.cells
          have KQ := Lib.hid k4
          have MQ := Lib.hid m4
          have NQ := Lib.hid n4
          clear k4 m4 n4
          go_wp2_with fail
          refine (HRI.out x4 q4 _ z4).mono ?_
          rintro e w5 ⟨rfl, h1⟩
          have S5 := Lib.hid (S4.out.below h1)
          replace zr := zr.below h1
          replace z4 := z4.below h1
          clear S4 h1 d0 d1 d2 d3 c0 c1
          obtain ⟨d0, d1, d2, d3, c0, c1⟩ := S5.out.cells
          go_wp2_with fail
          refine (HI2.out x4 q4 _ z4).mono ?_
          rintro e w6 ⟨rfl, h1⟩
          have S6 := Lib.hid (S5.out.below h1)
          replace zr := zr.below h1
          replace z4 := z4.below h1
          clear S5 h1 d0 d1 d2 d3 c0 c1
          obtain ⟨d0, d1, d2, d3, c0, c1⟩ := S6.out.cells
          go_wp2_with fail
          refine (HJN.out y qy _ r ef _ zr HRN.out (by have := HRL.out; omega) _ _ _ rfl rfl).mono ?_
          rintro e w7 ⟨z, qz, s, rfl, hz, hzl, zz, h1⟩
          have S7 := Lib.hid (S6.out.below h1)
          replace zr := zr.below h1
          replace z4 := z4.below h1
          clear S6 h1 d0 d1 d2 d3 c0 c1
          obtain ⟨d0, d1, d2, d3, c0, c1⟩ := S7.out.cells
          have HZ : Hid (IsSet (HasL (perS G ew eu)) s) := hz.congr (fun t => (or_congr (HRS.out.2 t) Iff.rfl).trans (HST.out t).symm)
          have HZL := Lib.hid hzl
          clear hz hzl
          go_wp2_with fail
          refine (HP2.out x4 q4 s _ z4 HZ.out).mono ?_
          rintro e w8 ⟨y5, q5, rfl, z5, h1⟩
          have S8 := Lib.hid (S7.out.below h1)
          replace z4 := z4.below h1
          replace zz := zz.below h1
          clear S7 h1 d0 d1 d2 d3 c0 c1
          obtain ⟨d0, d1, d2, d3, c0, c1⟩ := S8.out.cells
          go_wp2_with fail
          refine (HSS.out y5 z q5 qz s _ z5 zz (by have := HRL.out; have := HZL.out; omega)).mono ?_
          rintro e w9 ⟨rfl, h1⟩
          have S9 := Lib.hid (S8.out.below h1)
          replace z4 := z4.below h1
          clear S8 h1 d0 d1 d2 d3 c0 c1
          obtain ⟨d0, d1, d2, d3, c0, c1⟩ := S9.out.cells
          have HN9 : Hid (Go9 w (some ⟨ab, off, none⟩) x4 l G (j + 1) q4 ef w9) := ⟨S9.out.a, z4, NQ.out, KQ.out, MQ.out, by have := HGL.out; have := HG.out.len; omega, HGO.out, by have := HG.out.low; have := HBF.out; omega, HGS.out, S9.out.frame⟩
          have hl60 : l.length ≤ 60 := HL.out
          go_wp2
          go_roundw
          case rel => exact ⟨j + 1, G, x4, q4, ef, by omega, by go_num, rfl, rfl, HN9⟩
          case measure => simp [intOf]; omega
        | true =>
          rw [hi] at HIN
          have HGR := Lib.hid (fun W (h : EnSl W x m) => e_grant_no x q m ew eu ef W h HG.out.nil (by have := HML.out; omega) HG.out.cap HG.out.top hi)
          have HRV := Lib.hid (fun W (h : EnSl W x m) => e_revoke x q m ew eu ef W h (by have := HML.out; omega) HG.out.cap HG.out.top hi)
          have HLS := Lib.hid less_1
          obtain ⟨hgo, hset, hany⟩ := HG.out.go.revoke HG.out.low HBF.out.1 HBF.out.2 hi
          have HGS := Lib.hid (sz_revoke (p := ew) (u := eu) (n := ef) HG.out.sz)
          have HGL : Hid ((revokeS m ew eu ef).length ≤ m.length + 1) := Nat.le_trans (revoke_len _ _ _ _) (Nat.le_succ _)
          have HFR := Lib.hid (fun r (hr : IsSet (HasL (perS m ew eu)) r) => fits_per HG.out.go (by have := HBF.out; omega) hr)
          generalize revokeS m ew eu ef = G at *
          have HGO := Lib.hid hgo
          have HST := Lib.hid hset
          have HRI : Hid (∀ y qy W, EnSl W y G → Calls Try.prog 28 #[.slice y G.length qy] W fun e w' => e = .returned (.bool true) ∧ Below W.heap.size W w') := fun y qy W h => by
            have := e_rising y qy G W h HGS.out (by have := HML.out; have := HGL.out; omega)
            rwa [decide_eq_true HGO.out.rise] at this
          have HI2 : Hid (∀ y qy W, EnSl W y G → Calls Try.prog 18 #[.slice y G.length qy, .agg #[.string ew, .string eu]] W fun e w' => e = .returned (.bool false) ∧ Below W.heap.size W w') := fun y qy W h => by
            have := e_inforce y qy G ew eu W h (by have := HML.out; have := HGL.out; omega)
            rwa [hany] at this
          have HP2 := Lib.hid (fun y qy z W (h : EnSl W y G) (hz : IsSet (HasL (perS G ew eu)) z) => e_periods_r y qy G ew eu z W h hz (by have := HML.out; have := HGL.out; omega))
          clear hi hgo hset hany
          go_wp2_with fail
          refine (HRT.out _).mono ?_
          rintro e w1 ⟨rfl, hB⟩
          have S1 := Lib.hid (S0.out.below hB)
          clear S0 hB HRT hc0 hc1 hc2 hc3
          obtain ⟨d0, d1, d2, d3, c0, c1⟩ := S1.out.cells
          go_wp2_with fail
          refine (HPE.out _ S1.out.x).mono ?_
          rintro e w2 ⟨y, qy, r, rfl, hr, hrl, hrq, hrm, hrn, zr, h1⟩
          have S2 := Lib.hid (S1.out.below h1)
          clear S1 h1 d0 d1 d2 d3 c0 c1
          obtain ⟨d0, d1, d2, d3, c0, c1⟩ := S2.out.cells
          have HRS := Lib.hid hr
          have HRL := Lib.hid (Nat.le_trans hrl HML.out)
          have HRQ := Lib.hid hrq
          have HRM := Lib.hid hrm
          have HRN := Lib.hid hrn
          clear hr hrl hrq hrm hrn
          go_wp2_with fail
          refine (HIN.out _ S2.out.x).mono ?_
          rintro e w3 ⟨rfl, h1⟩
          have S3 := Lib.hid (S2.out.below h1)
          replace zr := zr.below h1
          clear S2 h1 d0 d1 d2 d3 c0 c1
          obtain ⟨d0, d1, d2, d3, c0, c1⟩ := S3.out.cells
          go_wp2_with fail
          refine (HGR.out _ S3.out.x).mono ?_
          rintro e w4 ⟨rfl, h1⟩
          have S4 := Lib.hid (S3.out.below h1)
          replace zr := zr.below h1
          clear S3 h1 d0 d1 d2 d3 c0 c1
          obtain ⟨d0, d1, d2, d3, c0, c1⟩ := S4.out.cells
          go_wp2_with fail
          refine (HRV.out _ S4.out.x).mono ?_
          rintro e w5 ⟨x4, q4, rfl, k4, m4, n4, z4, h1⟩
          have S5 := Lib.hid (S4.out.below h1)
          replace zr := zr.below h1
          clear S4 h1 d0 d1 d2 d3 c0 c1
          obtain ⟨d0, d1, d2, d3, c0, c1⟩ := S5.out.cells
          have KQ := Lib.hid k4
          have MQ := Lib.hid m4
          have NQ := Lib.hid n4
          clear k4 m4 n4
          go_wp2_with fail
          refine (HRI.out x4 q4 _ z4).mono ?_
          rintro e w6 ⟨rfl, h1⟩
          have S6 := Lib.hid (S5.out.below h1)
          replace zr := zr.below h1
          replace z4 := z4.below h1
          clear S5 h1 d0 d1 d2 d3 c0 c1
          obtain ⟨d0, d1, d2, d3, c0, c1⟩ := S6.out.cells
          go_wp2_with fail
          refine (HI2.out x4 q4 _ z4).mono ?_
          rintro e w7 ⟨rfl, h1⟩
          have S7 := Lib.hid (S6.out.below h1)
          replace zr := zr.below h1
          replace z4 := z4.below h1
          clear S6 h1 d0 d1 d2 d3 c0 c1
          obtain ⟨d0, d1, d2, d3, c0, c1⟩ := S7.out.cells
          go_wp2_with fail
          refine (HJN.out y qy _ r ef _ zr HRN.out (by have := HRL.out; omega) _ _ _ rfl rfl).mono ?_
          rintro e w8 ⟨z, qz, s, rfl, hz, hzl, zz, h1⟩
          have S8 := Lib.hid (S7.out.below h1)
          replace zr := zr.below h1
          replace z4 := z4.below h1
          clear S7 h1 d0 d1 d2 d3 c0 c1
          obtain ⟨d0, d1, d2, d3, c0, c1⟩ := S8.out.cells
          clear hz hzl zz
          go_wp2_with fail
          refine (HLS.out y qy _ r ef _ zr HRQ.out HRM.out (by have := HRL.out; omega) (HFR.out r HRS.out) HFX.out.2.2.1 _ rfl).mono ?_
          rintro e w9 ⟨z', qz', s', rfl, hz, hzl, zz, h1⟩
          have S9 := Lib.hid (S8.out.below h1)
          replace z4 := z4.below h1
          clear S8 h1 d0 d1 d2 d3 c0 c1
          obtain ⟨d0, d1, d2, d3, c0, c1⟩ := S9.out.cells
          have HZ : Hid (IsSet (HasL (perS G ew eu)) s') := hz.congr (fun t => (and_congr (HRS.out.2 t) Iff.rfl).trans (HST.out t).symm)
          have HZL := Lib.hid hzl
          clear hz hzl
          go_wp2_with fail
          refine (HP2.out x4 q4 s' _ z4 HZ.out).mono ?_
          rintro e w10 ⟨y5, q5, rfl, z5, h1⟩
          have S10 := Lib.hid (S9.out.below h1)
          replace z4 := z4.below h1
          replace zz := zz.below h1
          clear S9 h1 d0 d1 d2 d3 c0 c1
          obtain ⟨d0, d1, d2, d3, c0, c1⟩ := S10.out.cells
          go_wp2_with fail
          refine (HSS.out y5 z' q5 qz' s' _ z5 zz (by have := HRL.out; have := HZL.out; omega)).mono ?_
          rintro e w11 ⟨rfl, h1⟩
          have S11 := Lib.hid (S10.out.below h1)
          replace z4 := z4.below h1
          clear S10 h1 d0 d1 d2 d3 c0 c1
          obtain ⟨d0, d1, d2, d3, c0, c1⟩ := S11.out.cells
          have HN9 : Hid (Go9 w (some ⟨ab, off, none⟩) x4 l G (j + 1) q4 ef w11) := ⟨S11.out.a, z4, NQ.out, KQ.out, MQ.out, by have := HGL.out; have := HG.out.len; omega, HGO.out, by have := HG.out.low; have := HBF.out; omega, HGS.out, S11.out.frame⟩
          have hl60 : l.length ≤ 60 := HL.out
          go_wp2
          go_roundw
          case rel => exact ⟨j + 1, G, x4, q4, ef, by omega, by go_num, rfl, rfl, HN9⟩
          case measure => simp [intOf]; omega
    · obtain rfl : j = l.length := by omega
      go_wp2_with fail
      refine (HAL.out _).mono ?_
      rintro e w1 ⟨rfl, hB⟩
      go_wp2
      go_ret
      exact ⟨rfl, HG.out.frame.trans (hB.mono HG.out.frame.size)⟩

set_option maxRecDepth 100000 in
theorem lifted (os : Os) (started : os.Started) (H : Type) (enc : TypeId × Value → H) :
    ReturnsInHanded {} Try.checked os 6 .any (Rows.subsGoesSpec.pre6 enc Try.prog Try.f6 Rows.subsGoesRow.domain false) (Rows.subsGoesSpec.post enc Try.prog Try.f6 false true false false) := by
  refine returnsInHanded_of_change (C := Try.checked) own started (by kernel_rfl) Try.func6
    (ChangeSpec.witness6 (enc := enc) (C := Try.checked) false ⟨#[], #[.slice none 0 0], []⟩ 8 (by kernel_rfl) (by kernel_rfl) (by kernel_rfl) (by kernel_rfl)) ?_
  intro W base args ds gs before hval0 hW hcnd _
  have hval : ∀ (j : Nat) t v, Try.f6.params[j]? = some t → args[j]? = some v → Value.okWide Try.prog W .any base t v := hval0
  have hW' := hW
  have hlt := hW.lt
  obtain ⟨p, q, hA0, hV, rfl, hfz, hnd⟩ := hW
  have hA : DataW.TrodAll enc Try.prog W 0 (fun _ => true) true Try.f6.params.toList args.toList ds p := hA0
  rw [Try.params6] at hA hval
  obtain ⟨v0, vs0, d0, ds0, p0, q0, hargs, rfl, rfl, h0, r0⟩ := trodAll_cons hA
  obtain ⟨rfl, rfl, rfl⟩ := trodAll_nil r0
  obtain rfl : args = #[v0] := by cases args; simp_all
  obtain ⟨a0, c0, l0, rfl, s0, f0, m0, n0, o0⟩ := open_entries (hval 0 22 v0 rfl rfl) h0
  refine (walk W a0 c0 l0 s0 f0 m0 n0 o0).mono fun e W' ⟨he, hb⟩ => ?_
  subst he
  exact ⟨_, rfl, law_post rfl hW' (fun ds h => by match ds, h with | [_], _ => rfl) (by kernel_rfl) (by kernel_rfl) (by kernel_rfl) hb⟩

theorem over : Rows.subsGoesRow.holds Try.pinned (OpenSpec.ofChange Rows.subsGoesSpec) :=
  OpenClaim.holds_of_wide 6 Try.f6 rfl rfl rfl rfl rfl rfl rfl ⟨rfl, rfl, rfl, rfl, rfl⟩ rfl rfl rfl rfl rfl (by kernel_rfl) Try.func6 (by kernel_rfl)
    (of_decide_eq_true (by kernel_rfl)) (by unfold Func.isWrapper; first | (rw [if_pos (by decide +kernel)]; kernel_rfl) | (rw [if_neg (by decide +kernel)]; exact ⟨rfl, rfl⟩))
    (fun os started H enc _ => lifted os started H enc)

theorem proved : Rows.SubsGoesSaid := over
end Go.Proofs.Ythaancmobpamhaa.subsGoes
