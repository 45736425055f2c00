/- Layer 7: the document's Meet and Less: contracts. -/
import Derived.Test.YtbcabbddgppkaaaW8
namespace Go.Proofs.Ytbcabbddgppkaaa
open Go.RowKit
set_option linter.unusedVariables false
set_option maxRecDepth 100000

theorem addr_add (b off j : Nat) : (⟨b, off, none⟩ : Addr).add j = ⟨b, off + j, none⟩ := by
  unfold Addr.add
  split
  · rename_i h; subst h; rfl
  · rfl
theorem SpSl.cells {w : World} {a : Option Addr} {l : List SpM} (h : SpSl w a l) : ∀ ad, a = some ad → ∀ j u, (sps l)[j]? = some u → w.cell? (ad.add j) = some u := fun ad ha j u hu => by
  have hj : j < l.length * 2 := by rw [← sps_len]; exact (List.getElem?_eq_some_iff.1 hu).1
  have hk : j / 2 < l.length := by omega
  obtain ⟨b, off, e, _, h1, h2⟩ := h (j / 2) hk
  rw [ha] at e
  cases e
  obtain ⟨g1, g2⟩ := sps_get l (j / 2) hk
  rw [addr_add]
  have hd : j = j / 2 * 2 ∨ j = j / 2 * 2 + 1 := by omega
  generalize j / 2 = k at *
  rcases hd with rfl | rfl
  · rw [g1] at hu
    cases hu
    exact h1
  · rw [g2] at hu
    cases hu
    exact h2
theorem sps_one (l : List SpM) : ∀ u ∈ sps l, u.oneCell' = true := fun u hu => by
  unfold sps at hu
  obtain ⟨y, _, hy⟩ := List.mem_flatMap.1 hu
  exact two_one _ _ u hy
theorem wpList_append_sp {P : Program} (w : World) {ops : Array Oper} {rest : List Oper} {o : Oper} {a : Act} {Q : Exit → Act → World → Prop} (hgd : o.guard = none) (s x : Operand) (t : TypeId)
    (ho : o.op = .call { callee := .builtin .append, args := #[s, x], argTypes := #[t, t] })
    (base : Nat) (e : TypeId) (i : TypeInfo) (z : Value) (ht : P.underlying t = some (.slice e)) (hi : P.info? e = some i) (hz : i.zero = some z)
    (hsize : i.size = 2) (hby : i.bytes = 16) (hzs : z.cells.size = 2)
    (v : Value) (l : List SpM) (hs : a.eval s = v) (hown : w.ownsRow base e 2 v l.length (sps l))
    (A : Option Addr) (c : Nat) (m : List SpM) (hx : a.eval x = .slice A m.length c) (hsl : SpSl w A m) (hnil : A = none → c = 0)
    (hlen : l.length + m.length ≤ 1000000) (hbase : base ≤ w.heap.size)
    (h : ∀ v' w', w'.ownsRow base e 2 v' (l ++ m).length (sps (l ++ m)) → Below base w w' → wpList P ops Q rest (a.put o.dst v') w') : wpList P ops Q (o :: rest) a w := by
  rw [List.length_append, sps_append] at h
  cases A with
  | none =>
    have hc := hnil rfl
    subst hc
    have hm0 : m = [] := by
      cases m with
      | nil => rfl
      | cons y m => obtain ⟨_, _, e, _⟩ := hsl 0 (by simp); cases e
    subst hm0
    exact wpList_append_own_none hgd s x t ho base e i 2 ht hi v l.length (sps l) hs hown hx (h v w (by simpa [sps] using hown) (Below.refl _ _))
  | some ad =>
    exact wpList_append_own w hgd s x t ho base e i z 2 16 ht hi hz hsize hby hzs (by decide) v l.length (sps l) hs hown ad m.length c (sps m) hx (sps_len m) (hsl.cells ad rfl) (sps_one m) (by unfold maxLen; omega) (by omega) hbase (fun v' w' h2 h3 _ => h v' w' h2 (app_below (Below.refl _ _) hbase hown h3))

set_option maxHeartbeats 4000000 in
theorem refMeet_any (xa : Option Addr) (ca : Nat) (xb : Option Addr) (cb : Nat) (A B : List SpM) (w : World) (ha : SpSl w xa A) (hb : SpSl w xb B) (na : xa = none → ca = 0) (nb : xb = none → cb = 0) (hl : A.length + B.length ≤ 100000) :
    Calls Try.prog 24 #[.slice xa A.length ca, .slice xb B.length cb] w fun e w' => ∃ (v : Value) (r : List SpM), e = .returned v ∧ IsSet (fun x => HasL A x ∧ HasL B x) r ∧ r.length ≤ 2 * (A.length + B.length) ∧ w'.ownsRow w.heap.size 23 2 v r.length (sps r) ∧ Below w.heap.size w w' := by
  obtain ⟨i0, hi, hz0, hz1, hz2⟩ := info_parts infoSpanR
  have HA := Lib.hid ha
  have HB := Lib.hid hb
  have HEN := Lib.hid ends_any
  have HH := Lib.hid refHas_any
  have HG := Lib.hid glue_any
  have hlA : A.length ≤ maxLen := by unfold maxLen; omega
  have hlB : B.length ≤ maxLen := by unfold maxLen; omega
  have HE1 := (Below.refl w.heap.size w).alloc (Nat.le_refl _) (.cells #[] 23)
  have HO1 : Hid ((w.alloc (.cells #[] 23)).ownsRow w.heap.size 23 2 (.slice (some ⟨w.heap.size, 0, none⟩) 0 0) ([] : List SpM).length (sps [])) := World.ownsRow_lit w #[] 0 (Nat.le_refl _) (by unfold maxLen; omega) rfl
  have HB1 := Lib.hid HE1
  have HA1 := Lib.hid (ha.below HE1)
  clear ha hb HE1
  obtain ⟨L, hL⟩ : ∃ L, L = A ++ B := ⟨_, rfl⟩
  have hLl : L.length = A.length + B.length := by rw [hL, List.length_append]
  have HLL := Lib.hid hL
  have HLN := Lib.hid hLl
  clear hL hLl
  go_enter Try.func24, Try.ntmps24
  go_wp2_with (first | (at_builtin; (refine wpList_append_sp _ rfl (.tmp 8) (.tmp 9) 30 rfl w.heap.size 23 i0 _ Try.underlying30 hi hz0 hz1 hz2 rfl _ [] rfl HO1.out xa ca A rfl HA1.out na (by simp; omega) HB1.out.size ?_; intro v2 w2 hown2 hB2; rw [List.nil_append] at hown2; have hBB2 := HB1.out.trans hB2)) | (at_builtin; (refine wpList_append_sp _ rfl (.tmp 10) (.tmp 11) 30 rfl w.heap.size 23 i0 _ Try.underlying30 hi hz0 hz1 hz2 rfl v2 A rfl hown2 xb cb B rfl (HB.out.below hBB2) nb (by omega) hBB2.size ?_; intro v3 w3 hown3 hB3; have hBB3 := hBB2.trans hB3; rw [← HLL.out] at hown3; obtain ⟨x3, c3, rfl, _, hs3⟩ := own_sp hown3)) | fail)
  refine (HEN.out x3 c3 L w3 hs3 (by have := HLN.out; omega)).mono ?_
  rintro r w1 ⟨v, e, rfl, hen, hel, hown, hB1⟩
  rw [HLN.out] at hel
  rw [HLL.out] at hen
  have HP := Lib.hid (cell_both hen)
  have HW1 := Lib.hid (hBB3.trans (hB1.mono hBB3.size))
  obtain ⟨ea, ec, rfl, _, hecm, hsl, _, _⟩ := own_slice hown
  have HSL := Lib.hid hsl
  clear hen hown hB1 hsl hown3 hown2 hB2 hB3 hBB2 hBB3 hs3 HO1 HA1 HB1 HEN
  go_wp2
  go_loopw [6, 7] (fun v i wr => ∃ (k : Nat) (r : List SpM), i = .int .i64 k ∧ k ≤ e.length ∧ r.length ≤ k ∧ Hid (GlW (fun x => HasL A x ∧ HasL B x) e k r) ∧ Hid (wr.ownsRow w1.heap.size 23 2 v r.length (sps r)) ∧ Hid (Below w1.heap.size w1 wr)) (fun _ i _ => e.length - (intOf i).toNat)
  case atStart => exact ⟨0, [], rfl, by omega, by simp, HP.out.start, ⟨rfl, .inl ⟨rfl, rfl⟩⟩, Below.refl _ _⟩
  case round =>
    obtain ⟨k, r, rfl, hke, hrk, HI, HO, HBW⟩ := hrel
    by_cases hk : k + 1 < e.length
    · obtain ⟨b, off, rfl, hc⟩ := ints_two HSL.out hk
      have HSC := Lib.hid (fun W (hW : Below w1.heap.size wr W) => hc W (HBW.out.trans hW))
      obtain ⟨c0, c1⟩ := hc wr HBW.out
      have HST := Lib.hid (fun hp => HP.out.step HI.out hk hp)
      have HSK := Lib.hid (fun hp => HP.out.skip HI.out hk hp)
      have hW0 := HW1.out.trans (HBW.out.mono HW1.out.size)
      have HHA := Lib.hid (HH.out xa ca A e[k] wr (HA.out.below hW0) hlA)
      have HHB := Lib.hid (HH.out xb cb B e[k] wr (HB.out.below hW0) hlB)
      have HBA := Lib.hid (hasB_iff A e[k])
      have HBB := Lib.hid (hasB_iff B e[k])
      clear hc HI hW0
      generalize e[k] = x at *
      generalize e[k + 1] = y at *
      by_cases pa : hasB A x = true
      · rw [pa] at HHA
        by_cases pb : hasB B x = true
        · rw [pb] at HHB
          have HN := Lib.hid (HST.out ⟨HBA.out.1 pa, HBB.out.1 pb⟩)
          clear HST HSK HBA HBB pa pb
          go_wp2_with fail
          refine HHA.out.mono ?_
          rintro r1 w2 ⟨rfl, hw2⟩
          obtain rfl : wr = w2 := hw2.symm
          clear hw2
          go_wp2_with fail
          refine HHB.out.mono ?_
          rintro r1 w2 ⟨rfl, hw2⟩
          obtain rfl : wr = w2 := hw2.symm
          clear hw2
          go_wp2_with fail
          have hX : Below w1.heap.size wr wr.drew := (Below.refl _ _).drew
          have hwk : IntKind.i64.wrap ((k : Int) + 1) = (k : Int) + 1 := by rw [IntWalk.i64_in] <;> omega
          have hk0 : (0 : Int) ≤ (k : Int) := Int.natCast_nonneg _
          have hk1 : (k : Int) < (e.length : Int) := by omega
          have hk2 : (k : Int) + 1 < (e.length : Int) := by omega
          have hk3 : (0 : Int) ≤ (k : Int) + 1 := by omega
          have hk4 : ((k : Int) + 1).toNat = k + 1 := by omega
          have HGW : Hid (Calls Try.prog 52 #[_, .agg #[.int .i64 x, .int .i64 y]] wr.drew _) := HG.out w1.heap.size _ r ⟨x, y⟩ wr.drew HBW.out.size HO.out.drew (by omega)
          go_region_held3 (fun W => W.cell? ⟨b, off + k, none⟩ = some (.int .i64 x) ∧ W.cell? ⟨b, off + (k + 1), none⟩ = some (.int .i64 y))
            (first | with_reducible exact HSC.out _ hX | with_reducible exact HSC.out _ hY | assumption)
            ((go_at_call 52; refine HGW.out.mono ?_; rintro r3 w3 ⟨v3, rfl, hown3, hB3⟩; have hY := hX.trans hB3))
          clear hwk hk0 hk1 hk2 hk3 hk4 hX HSC HGW HHA HHB
          go_wp2
          go_roundw
          case rel => exact ⟨k + 1, glueS r ⟨x, y⟩, by go_num, by omega, Nat.le_trans (glueS_le _ _) (by omega), HN, hown3, HBW.out.trans hY⟩
          case measure => simp [intOf]; omega
        · have pb : hasB B x = false := by cases h : hasB B x <;> simp_all
          rw [pb] at HHB
          have HN := Lib.hid (HSK.out (fun h => by rw [HBB.out.2 h.2] at pb; cases pb))
          clear HST HSK HBA HBB pa pb
          go_wp2_with fail
          refine HHA.out.mono ?_
          rintro r1 w2 ⟨rfl, hw2⟩
          obtain rfl : wr = w2 := hw2.symm
          clear hw2
          go_wp2_with fail
          refine HHB.out.mono ?_
          rintro r1 w2 ⟨rfl, hw2⟩
          obtain rfl : wr = w2 := hw2.symm
          clear hw2 HSC HHA HHB
          go_wp2
          go_roundw
          case rel => exact ⟨k + 1, r, by go_num, by omega, by omega, HN, HO, HBW⟩
          case measure => simp [intOf]; omega
      · have pa : hasB A x = false := by simpa using pa
        rw [pa] at HHA
        have HN := Lib.hid (HSK.out (fun h => by rw [HBA.out.2 h.1] at pa; cases pa))
        clear HST HSK HBA HBB pa
        go_wp2_with fail
        refine HHA.out.mono ?_
        rintro r1 w2 ⟨rfl, hw2⟩
        obtain rfl : wr = w2 := hw2.symm
        clear hw2 HSC HHA HHB
        go_wp2
        go_roundw
        case rel => exact ⟨k + 1, r, by go_num, by omega, by omega, HN, HO, HBW⟩
        case measure => simp [intOf]; omega
    · have HD := Lib.hid (HP.out.done HI.out hk)
      go_wp2
      go_ret
      first | exact ⟨_, r, rfl, HD.out, by omega, own_low HO.out HW1.out.size, HW1.out.trans (HBW.out.mono HW1.out.size)⟩ | exact ⟨_, rfl, r, HD.out, by omega, own_low HO.out HW1.out.size, HW1.out.trans (HBW.out.mono HW1.out.size)⟩

set_option maxHeartbeats 4000000 in
theorem refLess_any (xa : Option Addr) (ca : Nat) (xb : Option Addr) (cb : Nat) (A B : List SpM) (w : World) (ha : SpSl w xa A) (hb : SpSl w xb B) (na : xa = none → ca = 0) (nb : xb = none → cb = 0) (hl : A.length + B.length ≤ 100000) :
    Calls Try.prog 25 #[.slice xa A.length ca, .slice xb B.length cb] w fun e w' => ∃ (v : Value) (r : List SpM), e = .returned v ∧ IsSet (fun x => HasL A x ∧ ¬ HasL B x) r ∧ r.length ≤ 2 * (A.length + B.length) ∧ w'.ownsRow w.heap.size 23 2 v r.length (sps r) ∧ Below w.heap.size w w' := by
  obtain ⟨i0, hi, hz0, hz1, hz2⟩ := info_parts infoSpanR
  have HA := Lib.hid ha
  have HB := Lib.hid hb
  have HEN := Lib.hid ends_any
  have HH := Lib.hid refHas_any
  have HG := Lib.hid glue_any
  have hlA : A.length ≤ maxLen := by unfold maxLen; omega
  have hlB : B.length ≤ maxLen := by unfold maxLen; omega
  have HE1 := (Below.refl w.heap.size w).alloc (Nat.le_refl _) (.cells #[] 23)
  have HO1 : Hid ((w.alloc (.cells #[] 23)).ownsRow w.heap.size 23 2 (.slice (some ⟨w.heap.size, 0, none⟩) 0 0) ([] : List SpM).length (sps [])) := World.ownsRow_lit w #[] 0 (Nat.le_refl _) (by unfold maxLen; omega) rfl
  have HB1 := Lib.hid HE1
  have HA1 := Lib.hid (ha.below HE1)
  clear ha hb HE1
  obtain ⟨L, hL⟩ : ∃ L, L = A ++ B := ⟨_, rfl⟩
  have hLl : L.length = A.length + B.length := by rw [hL, List.length_append]
  have HLL := Lib.hid hL
  have HLN := Lib.hid hLl
  clear hL hLl
  go_enter Try.func25, Try.ntmps25
  go_wp2_with (first | (at_builtin; (refine wpList_append_sp _ rfl (.tmp 8) (.tmp 9) 30 rfl w.heap.size 23 i0 _ Try.underlying30 hi hz0 hz1 hz2 rfl _ [] rfl HO1.out xa ca A rfl HA1.out na (by simp; omega) HB1.out.size ?_; intro v2 w2 hown2 hB2; rw [List.nil_append] at hown2; have hBB2 := HB1.out.trans hB2)) | (at_builtin; (refine wpList_append_sp _ rfl (.tmp 10) (.tmp 11) 30 rfl w.heap.size 23 i0 _ Try.underlying30 hi hz0 hz1 hz2 rfl v2 A rfl hown2 xb cb B rfl (HB.out.below hBB2) nb (by omega) hBB2.size ?_; intro v3 w3 hown3 hB3; have hBB3 := hBB2.trans hB3; rw [← HLL.out] at hown3; obtain ⟨x3, c3, rfl, _, hs3⟩ := own_sp hown3)) | fail)
  refine (HEN.out x3 c3 L w3 hs3 (by have := HLN.out; omega)).mono ?_
  rintro r w1 ⟨v, e, rfl, hen, hel, hown, hB1⟩
  rw [HLN.out] at hel
  rw [HLL.out] at hen
  have HP := Lib.hid (cell_less hen)
  have HW1 := Lib.hid (hBB3.trans (hB1.mono hBB3.size))
  obtain ⟨ea, ec, rfl, _, hecm, hsl, _, _⟩ := own_slice hown
  have HSL := Lib.hid hsl
  clear hen hown hB1 hsl hown3 hown2 hB2 hB3 hBB2 hBB3 hs3 HO1 HA1 HB1 HEN
  go_wp2
  go_loopw [6, 7] (fun v i wr => ∃ (k : Nat) (r : List SpM), i = .int .i64 k ∧ k ≤ e.length ∧ r.length ≤ k ∧ Hid (GlW (fun x => HasL A x ∧ ¬ HasL B x) e k r) ∧ Hid (wr.ownsRow w1.heap.size 23 2 v r.length (sps r)) ∧ Hid (Below w1.heap.size w1 wr)) (fun _ i _ => e.length - (intOf i).toNat)
  case atStart => exact ⟨0, [], rfl, by omega, by simp, HP.out.start, ⟨rfl, .inl ⟨rfl, rfl⟩⟩, Below.refl _ _⟩
  case round =>
    obtain ⟨k, r, rfl, hke, hrk, HI, HO, HBW⟩ := hrel
    by_cases hk : k + 1 < e.length
    · obtain ⟨b, off, rfl, hc⟩ := ints_two HSL.out hk
      have HSC := Lib.hid (fun W (hW : Below w1.heap.size wr W) => hc W (HBW.out.trans hW))
      obtain ⟨c0, c1⟩ := hc wr HBW.out
      have HST := Lib.hid (fun hp => HP.out.step HI.out hk hp)
      have HSK := Lib.hid (fun hp => HP.out.skip HI.out hk hp)
      have hW0 := HW1.out.trans (HBW.out.mono HW1.out.size)
      have HHA := Lib.hid (HH.out xa ca A e[k] wr (HA.out.below hW0) hlA)
      have HHB := Lib.hid (HH.out xb cb B e[k] wr (HB.out.below hW0) hlB)
      have HBA := Lib.hid (hasB_iff A e[k])
      have HBB := Lib.hid (hasB_iff B e[k])
      clear hc HI hW0
      generalize e[k] = x at *
      generalize e[k + 1] = y at *
      by_cases pa : hasB A x = true
      · rw [pa] at HHA
        by_cases pb : hasB B x = false
        · rw [pb] at HHB
          have HN := Lib.hid (HST.out ⟨HBA.out.1 pa, fun h => by rw [HBB.out.2 h] at pb; cases pb⟩)
          clear HST HSK HBA HBB pa pb
          go_wp2_with fail
          refine HHA.out.mono ?_
          rintro r1 w2 ⟨rfl, hw2⟩
          obtain rfl : wr = w2 := hw2.symm
          clear hw2
          go_wp2_with fail
          refine HHB.out.mono ?_
          rintro r1 w2 ⟨rfl, hw2⟩
          obtain rfl : wr = w2 := hw2.symm
          clear hw2
          go_wp2_with fail
          have hX : Below w1.heap.size wr wr.drew := (Below.refl _ _).drew
          have hwk : IntKind.i64.wrap ((k : Int) + 1) = (k : Int) + 1 := by rw [IntWalk.i64_in] <;> omega
          have hk0 : (0 : Int) ≤ (k : Int) := Int.natCast_nonneg _
          have hk1 : (k : Int) < (e.length : Int) := by omega
          have hk2 : (k : Int) + 1 < (e.length : Int) := by omega
          have hk3 : (0 : Int) ≤ (k : Int) + 1 := by omega
          have hk4 : ((k : Int) + 1).toNat = k + 1 := by omega
          have HGW : Hid (Calls Try.prog 52 #[_, .agg #[.int .i64 x, .int .i64 y]] wr.drew _) := HG.out w1.heap.size _ r ⟨x, y⟩ wr.drew HBW.out.size HO.out.drew (by omega)
          go_region_held3 (fun W => W.cell? ⟨b, off + k, none⟩ = some (.int .i64 x) ∧ W.cell? ⟨b, off + (k + 1), none⟩ = some (.int .i64 y))
            (first | with_reducible exact HSC.out _ hX | with_reducible exact HSC.out _ hY | assumption)
            ((go_at_call 52; refine HGW.out.mono ?_; rintro r3 w3 ⟨v3, rfl, hown3, hB3⟩; have hY := hX.trans hB3))
          clear hwk hk0 hk1 hk2 hk3 hk4 hX HSC HGW HHA HHB
          go_wp2
          go_roundw
          case rel => exact ⟨k + 1, glueS r ⟨x, y⟩, by go_num, by omega, Nat.le_trans (glueS_le _ _) (by omega), HN, hown3, HBW.out.trans hY⟩
          case measure => simp [intOf]; omega
        · have pb : hasB B x = true := by cases h : hasB B x <;> simp_all
          rw [pb] at HHB
          have HN := Lib.hid (HSK.out (fun h => h.2 (HBB.out.1 pb)))
          clear HST HSK HBA HBB pa pb
          go_wp2_with fail
          refine HHA.out.mono ?_
          rintro r1 w2 ⟨rfl, hw2⟩
          obtain rfl : wr = w2 := hw2.symm
          clear hw2
          go_wp2_with fail
          refine HHB.out.mono ?_
          rintro r1 w2 ⟨rfl, hw2⟩
          obtain rfl : wr = w2 := hw2.symm
          clear hw2 HSC HHA HHB
          go_wp2
          go_roundw
          case rel => exact ⟨k + 1, r, by go_num, by omega, by omega, HN, HO, HBW⟩
          case measure => simp [intOf]; omega
      · have pa : hasB A x = false := by simpa using pa
        rw [pa] at HHA
        have HN := Lib.hid (HSK.out (fun h => by rw [HBA.out.2 h.1] at pa; cases pa))
        clear HST HSK HBA HBB pa
        go_wp2_with fail
        refine HHA.out.mono ?_
        rintro r1 w2 ⟨rfl, hw2⟩
        obtain rfl : wr = w2 := hw2.symm
        clear hw2 HSC HHA HHB
        go_wp2
        go_roundw
        case rel => exact ⟨k + 1, r, by go_num, by omega, by omega, HN, HO, HBW⟩
        case measure => simp [intOf]; omega
    · have HD := Lib.hid (HP.out.done HI.out hk)
      go_wp2
      go_ret
      first | exact ⟨_, r, rfl, HD.out, by omega, own_low HO.out HW1.out.size, HW1.out.trans (HBW.out.mono HW1.out.size)⟩ | exact ⟨_, rfl, r, HD.out, by omega, own_low HO.out HW1.out.size, HW1.out.trans (HBW.out.mono HW1.out.size)⟩
end Go.Proofs.Ytbcabbddgppkaaa
