/- EventApart: two rows of events that may be have one text just if they are the same: for every two rows of events of bulk at most 1048576 together (rows that no machine holds can't be appended). -/
import Derived.Test.YtollhemkjnkalaaDoorK10
import Derived.Deep.Upon
import Derived.ArgAppend
namespace Go.Proofs.YtollhemkjnkalaaDoor.eventApart
open Go.ChangeShapes Go.WideShapes Go.ChangeAt Go.RowKit Go.Shelf
open Go.ChangeMaps (open_string shut_string)
set_option linter.unusedVariables false
set_option maxRecDepth 100000

theorem infoEvR6 : (Tryd.prog.info? 23).map (fun i => (i.zero, i.size, i.bytes)) = some (some (.agg #[.int .i64 0, .int .i64 0, .string ⟨#[]⟩, .string ⟨#[]⟩, .int .i64 0, .int .i64 0]), 6, 64) := by kernel_rfl
theorem evs_append (l m : List EvM) : evs (l ++ m) = evs l ++ evs m := by simp [evs]
theorem evs_one (l : List EvM) : ∀ u ∈ evs l, u.oneCell' = true := by
  intro u hu
  unfold evs at hu
  obtain ⟨e, _, he⟩ := List.mem_flatMap.1 hu
  exact six_cells e u he
theorem evSl_cells {W : World} {b off : Nat} {l : List EvM} (h : EvSl W (some ⟨b, off, none⟩) l) : ∀ j u, (evs l)[j]? = some u → W.cell? ((⟨b, off, none⟩ : Addr).add j) = some u := fun j u hu => by
  have hj : j < l.length * 6 := by
    have := (List.getElem?_eq_some_iff.1 hu).1
    rwa [evs_len] at this
  obtain ⟨b', off', e, _, hc⟩ := h (j / 6) (by omega)
  cases e
  have hg := evs_get l (j / 6) (j % 6) (by omega) (by omega)
  rw [show j / 6 * 6 + j % 6 = j by omega, hu] at hg
  have h1 := hc (j % 6) (by omega)
  rw [Go.WideShapes.add_plain, hg, ← h1, Nat.add_assoc, show j / 6 * 6 + j % 6 = j by omega]
/-- two rows of events, one behind the other, in a row of its own -/
theorem append_evs (W : World) (al am : Option Addr) (l m : List EvM) (cm : Nat) (hl : EvSl W al l) (hm : EvSl W am m) (hal : al = none → l = []) (ham : am = none → cm = 0) (hsz : l.length + m.length ≤ 1048576) (ty : TypeId) :
    ∃ ar cr W', (Builtin.append_ #[42, 42] ty #[.slice al l.length l.length, .slice am m.length cm]).run Tryd.prog W = .ok (.slice ar (l.length + m.length) cr) W' ∧ EvSl W' ar (l ++ m) ∧ Below W.heap.size W W' := by
  obtain ⟨i0, hi, hz0, hz1, hz2⟩ := info_parts infoEvR6
  cases m with
  | nil =>
    refine ⟨al, l.length, W, ?_, by rw [List.append_nil]; exact hl, Below.refl _ _⟩
    cases am with
    | none =>
      rw [ham rfl]
      exact run_append_nothing W _ _ ty _ i0 Tryd.underlying42 hi al l.length l.length (Nat.le_refl _) _ (Src.ofNil W Tryd.underlying42 0)
    | some a =>
      exact run_append_nothing W _ _ ty _ i0 Tryd.underlying42 hi al l.length l.length (Nat.le_refl _) _ (Src.ofSlice W Tryd.underlying42 a 0 cm [] (by simp) (fun j u h => by simp at h) (fun u h => by cases h))
  | cons x m =>
    obtain ⟨b2, o2, rfl, _⟩ := hm 0 (by simp)
    have hml : (evs (x :: m)).length = (x :: m).length * 6 := evs_len _
    have fin : ∀ v' w', w'.ownsRow W.heap.size 23 6 v' (l.length + (x :: m).length) (evs l ++ evs (x :: m)) → W.grownBy w' none → ∃ ar cr, v' = .slice ar (l.length + (x :: m).length) cr ∧ EvSl w' ar (l ++ x :: m) ∧ Below W.heap.size W w' := fun v' w' ho hg => by
      rw [← evs_append, ← List.length_append] at ho
      obtain ⟨ar, cr, rfl, _, hs⟩ := own_ev ho
      refine ⟨ar, cr, by rw [List.length_append], hs, (Below.refl _ _).grown hg (Nat.le_refl _) (fun j hj => by cases hj)⟩
    cases al with
    | none =>
      obtain rfl := hal rfl
      obtain ⟨v', w', h1, h2, h3, _⟩ := run_append_own (P := Tryd.prog) W W.heap.size 42 ty 23 i0 _ 6 64 Tryd.underlying42 hi hz0 hz1 hz2 rfl (by decide) (.slice none 0 0) 0 [] (World.ownsRow_nil W _ _ 6) ⟨b2, o2, none⟩ (x :: m).length cm (evs (x :: m)) hml (evSl_cells hm) (evs_one _) (by unfold maxLen; simp only [List.length_nil] at hsz; omega) (by simp only [List.length_nil] at hsz; omega) (Nat.le_refl _)
      obtain ⟨ar, cr, rfl, q1, q2⟩ := fin v' w' h2 h3
      exact ⟨ar, cr, w', h1, q1, q2⟩
    | some b =>
      have holds : ∀ j u, (evs l)[j]? = some u → W.cell? (b.add j) = some u := by
        cases l with
        | nil => intro j u h; simp [evs] at h
        | cons y l =>
          obtain ⟨b1, o1, e, _⟩ := hl 0 (by simp)
          cases e
          exact evSl_cells hl
      obtain ⟨v', w', h1, h2, h3⟩ := run_append_arg_grows (P := Tryd.prog) W 42 ty 23 i0 _ 6 64 Tryd.underlying42 hi hz0 hz1 hz2 rfl (by decide) b l.length l.length (evs l) (evs_len _) holds ⟨b2, o2, none⟩ (x :: m).length cm (evs (x :: m)) hml (evSl_cells hm) (by simp only [List.length_cons]; omega) (by unfold maxLen; omega) (by omega)
      obtain ⟨ar, cr, rfl, q1, q2⟩ := fin v' w' h2 h3
      exact ⟨ar, cr, w', h1, q1, q2⟩
theorem wpList_append_ran {P : Program} {w w' : World} {ops : Array Oper} {rest : List Oper} {o : Oper} {a : Act} {Q : Exit → Act → World → Prop} (hgd : o.guard = none) (s x : Operand) (t : TypeId)
    (ho : o.op = .call { callee := .builtin .append, args := #[s, x], argTypes := #[t, t] }) (vs vx r : Value) (hs : a.eval s = vs) (hx : a.eval x = vx)
    (hrun : (Builtin.append_ #[t, t] o.type #[vs, vx]).run P w = .ok r w') (h : wpList P ops Q rest (a.put o.dst r) w') : wpList P ops Q (o :: rest) a w := by
  refine wpList_plain hgd fun K hK => ?_
  unfold Oper.wp
  simp [execOp, ho, resolve, invoke, builtin, hs, hx, hrun, Result.andThen]
  exact hK _ _ h
theorem bulk_pos {H : Type} (d : DataW H) : 1 ≤ Rows.uptoBulk d := by
  cases d with
  | lit x => cases x <;> simp [Rows.uptoBulk]
  | _ => simp [Rows.uptoBulk]
theorem bulk_len {H : Type} : ∀ (l : List (DataW H)), l.length ≤ Rows.uptoBulkAll l
  | [] => Nat.zero_le _
  | d :: l => by
    have a := bulk_pos d
    have b := bulk_len l
    simp only [List.length_cons, Rows.uptoBulkAll]; omega
theorem sliceLen_le {H : Type} (d : DataW H) : Go.Joins.sliceLen d ≤ Rows.uptoBulk d := by
  cases d with
  | slice el sp =>
    have := bulk_len el
    simp only [Go.Joins.sliceLen, Rows.uptoBulk]; omega
  | _ => exact Nat.zero_le _
theorem flat_eq {l m : List EvM} (hl : l.all rightE = true) (hm : m.all rightE = true) : ((tx (flatE l)).toList == (tx (flatE m)).toList) = decide (l = m) := by
  rw [toList_tx, toList_tx]
  by_cases h : l = m
  · subst h; simp
  · rw [decide_eq_false h]
    exact beq_eq_false_iff_ne.2 (fun e => h (flatE_inj hl hm e))

theorem sizeEvR (W : World) : (sizeOf (Tryd.prog.elem 42)).run Tryd.prog W = .ok 6 W := by rfl
theorem add_zero' (a : Addr) : a.add 0 = a := by unfold Addr.add; rw [if_pos rfl]
theorem full_to (a : Option Addr) (n c : Nat) (hc : n ≤ c) (W : World) : (Instr.slice 42 (.slice a n c) none (some (.int .i64 (n : Int))) (some (.int .i64 (n : Int)))).run Tryd.prog W = .ok (.slice a n n) W := by
  rw [run_slice_hm W 42 a n c (by kernel_rfl) .i64 .i64 n n (by omega) (by omega) (by omega), sizeEvR]
  show Result.ok (sliced a 0 n n 6) W = _
  unfold sliced
  congr 2
  split
  · rfl
  · cases a
    · rfl
    · simp [add_zero']

set_option maxHeartbeats 4000000 in
theorem walk {H : Type} (w : World) (hS : w.ShapedOpen Tryd.prog) (hL : laidMetH Tryd.prog Rows.eventRightRow.laid w) (a : Option Addr) (c : Nat) (l : List EvM) (hr : EvSl w a l) (hf : FitsE l) (hc : l.length ≤ c) (hm1 : c ≤ maxLen) (hn1 : a = none → c = 0)
    (a' : Option Addr) (c' : Nat) (m : List EvM) (hr' : EvSl w a' m) (hf' : FitsE m) (hc' : m.length ≤ c') (hm2 : c' ≤ maxLen) (hn2 : a' = none → c' = 0)
    {d0 d1 : DataW H} (hk : Rows.uptoSmall H ([d0, d1] ++ []) = true) (e0 : Go.Joins.sliceLen d0 = l.length) (e1 : Go.Joins.sliceLen d1 = m.length) :
    Calls Tryd.prog 6 #[.slice a l.length c, .slice a' m.length c'] w fun r w' => r = .returned (.bool true) ∧ Below w.heap.size w w' := by
  have hsum : l.length + m.length ≤ 1048576 := by
    have h : Rows.uptoBulkAll ([d0, d1] ++ []) ≤ 1048576 := of_decide_eq_true hk
    simp only [List.append_nil, Rows.uptoBulkAll] at h
    have h0 := sliceLen_le d0
    have h1 := sliceLen_le d1
    omega
  have hm : MaxIs w := ⟨_, (max_is hS).choose_spec⟩
  have hp := pow10_is hL
  have HAL := Lib.hid (fun W (h : Below w.heap.size w W) => alive_any W (hp.below h) (hm.below h))
  obtain ⟨ar, cr, w1, hrun, hs1, hB1⟩ := append_evs w a a' l m c' hr hr' (fun h => by have := hn1 h; exact List.eq_nil_of_length_eq_zero (by omega)) hn2 hsum 42
  have hfull := full_to a l.length c hc
  have HRUN := Lib.hid hrun
  have HS1 := Lib.hid hs1
  have HB1 := Lib.hid hB1
  have HFA : Hid (FitsE (l ++ m)) := fun e he => by
    rcases List.mem_append.1 he with h | h
    · exact hf e h
    · exact hf' e h
  have HNW : Hid (l.length ≤ 20 → ∀ W, Below w.heap.size w W → Calls Tryd.prog 17 #[.slice a l.length c] W fun e w' => ∃ a c, e = .returned (.slice a l.length c) ∧ EvSl w' a l ∧ Below W.heap.size W w') := fun hl W hW => by
    refine (news_any a c l W (hr.below hW) (by omega)).mono ?_
    rintro e w' ⟨v, rfl, ho, hb⟩
    obtain ⟨a', c', rfl, _, h⟩ := own_ev ho
    exact ⟨a', c', rfl, h, hb⟩
  have HNX : Hid (m.length ≤ 20 → ∀ W, Below w.heap.size w W → Calls Tryd.prog 17 #[.slice a' m.length c'] W fun e w' => ∃ a c, e = .returned (.slice a m.length c) ∧ EvSl w' a m ∧ Below W.heap.size W w') := fun hl W hW => by
    refine (news_any a' c' m W (hr'.below hW) (by omega)).mono ?_
    rintro e w' ⟨v, rfl, ho, hb⟩
    obtain ⟨a', c', rfl, _, h⟩ := own_ev ho
    exact ⟨a', c', rfl, h, hb⟩
  have HSM : Hid (∀ W, Below w.heap.size w W → Calls Tryd.prog 18 #[.slice a l.length c, .slice a' m.length c'] W fun e w' => e = .returned (.bool (decide (l = m))) ∧ Below W.heap.size W w') := fun W hW =>
    esame_any a a' c c' l m W (hr.below hW) (hr'.below hW) (by unfold maxLen; omega) (by unfold maxLen; omega)
  have HPK : Hid (l.length ≤ 20 → l.all rightE = true → ∀ W x y, EvSl W x l → Below w.heap.size w W → Calls Tryd.prog 16 #[.slice x l.length y] W fun e w' => e = .returned (.string (tx (flatE l))) ∧ Below W.heap.size W w') := fun hl ha W x y hs hb => by
    have := epack_any x y l W hs hf (by omega) (hp.below hb)
    rw [packAll_good ha] at this
    exact this
  have HPX : Hid (m.length ≤ 20 → m.all rightE = true → ∀ W x y, EvSl W x m → Below w.heap.size w W → Calls Tryd.prog 16 #[.slice x m.length y] W fun e w' => e = .returned (.string (tx (flatE m))) ∧ Below W.heap.size W w') := fun hl ha W x y hs hb => by
    have := epack_any x y m W hs hf' (by omega) (hp.below hb)
    rw [packAll_good ha] at this
    exact this
  unfold maxLen at hm1 hm2
  clear hS hL hr hr' hf hf' hp hm hk e0 e1 hrun hs1 hB1 hn1 hn2
  obtain ⟨n1, hn1⟩ : ∃ n, n = l.length := ⟨_, rfl⟩
  obtain ⟨n2, hn2⟩ : ∃ n, n = m.length := ⟨_, rfl⟩
  rw [← hn1] at hc hsum hfull HRUN HNW HPK HSM ⊢
  rw [← hn2] at hc' hsum HRUN HNX HPX HSM ⊢
  have HL1 := Lib.hid hn1
  have HL2 := Lib.hid hn2
  clear hn1 hn2
  go_enter Tryd.func6, Tryd.ntmps6
  go_wp2_with (at_builtin; refine wpList_append_ran rfl (.tmp 12) (.tmp 13) 42 rfl (.slice a n1 n1) (.slice a' n2 c') _ rfl rfl HRUN.out ?_)
  go_wp2
  go_loopw [16] (fun i wr => ∃ (j : Nat), j ≤ n1 + n2 ∧ i = .int .i64 j ∧ (j = 0 ∨ n1 ≤ 20 ∧ n2 ≤ 20) ∧ Hid (((l ++ m).take j).all rightE = true) ∧ Hid (EvSl wr ar (l ++ m)) ∧ Hid (Below w.heap.size w wr)) (fun i _ => n1 + n2 - (intOf i).toNat)
  case atStart => exact ⟨0, by omega, rfl, .inl rfl, rfl, HS1.out, HB1.out⟩
  case round =>
    obtain ⟨j, hj, rfl, h20, HA, HS, HB⟩ := hrel
    clear HS1 HB1 HRUN
    by_cases hjn : j < n1 + n2
    · have hjl : j < (l ++ m).length := by rw [List.length_append, ← HL1.out, ← HL2.out]; exact hjn
      obtain ⟨b, off, rfl, hbl, c0, c1, c2, c3, c4, c5⟩ := HS.out.at_ hjl
      have HQ := Lib.hid (fun W => refRight_any (l ++ m)[j] (HFA.out.at_ hjl).1 W)
      have HNA : Hid (rightE (l ++ m)[j] = true → ((l ++ m).take (j + 1)).all rightE = true) := fun h => take_right hjl HA.out h
      generalize (l ++ m)[j] = x at *
      have HAL1 := Lib.hid ((Below.refl wr.heap.size wr).alloc (Nat.le_refl _) (.cells #[.int .i64 x.kind, .int .i64 x.at_, .string x.user, .string x.other, .int .i64 x.n, .int .i64 x.status] 23))
      have HB2 := Lib.hid (HB.out.trans (HAL1.out.mono HB.out.size))
      have HS2 := Lib.hid (HS.out.below HAL1.out)
      unfold evV at HQ
      clear HAL1 HS HB HA hjl
      have hadd : IntKind.i64.wrap ((j : Int) + 1) = (j : Int) + 1 := IntWalk.i64_in _ (by omega)
      by_cases hok : rightE x = true ∧ n1 ≤ 20 ∧ n2 ≤ 20
      · obtain ⟨ok1, ok2, ok3⟩ := hok
        have HNA2 := Lib.hid (HNA.out ok1)
        rw [ok1] at HQ
        clear HNA ok1
        go_wp2_with fail
        refine (HQ.out _).mono ?_
        rintro r w3 ⟨rfl, h3⟩
        have HB3 : Hid (Below w.heap.size w w3) := HB2.out.trans (h3.mono HB2.out.size)
        have HS3 := Lib.hid (HS2.out.below h3)
        clear h3 HB2 HS2 HQ c0 c1 c2 c3 c4 c5
        go_wp2
        go_roundw
        case rel => exact ⟨j + 1, by omega, by go_num, .inr ⟨ok2, ok3⟩, HNA2, HS3, HB3⟩
        case measure => simp [intOf]; omega
      · have hc3 : rightE x = false ∨ (rightE x = true ∧ 20 < n1) ∨ (rightE x = true ∧ ¬ 20 < n1 ∧ 20 < n2) := by
          cases h : rightE x with
          | false => exact .inl rfl
          | true =>
            rw [h] at hok
            simp only [true_and] at hok
            rcases Nat.lt_or_ge 20 n1 with h1 | h1
            · exact .inr (.inl ⟨rfl, h1⟩)
            · exact .inr (.inr ⟨rfl, by omega, by omega⟩)
        clear hok HNA
        rcases hc3 with ok1 | ⟨ok1, ok2⟩ | ⟨ok1, ok2, ok3⟩
        all_goals
          rw [ok1] at HQ
          clear ok1
          go_wp2_with fail
          refine (HQ.out _).mono ?_
          rintro r w3 ⟨rfl, h3⟩
          have HB3 : Hid (Below w.heap.size w w3) := HB2.out.trans (h3.mono HB2.out.size)
          clear h3 HB2 HS2 HQ c0 c1 c2 c3 c4 c5
          go_wp2_with fail
          refine (HAL.out _ HB3.out).mono ?_
          rintro r w4 ⟨rfl, h4⟩
          go_wp2
          go_ret
          exact ⟨rfl, HB3.out.trans (h4.mono HB3.out.size)⟩
    · obtain rfl : j = n1 + n2 := by omega
      rw [List.take_of_length_le (by rw [List.length_append, ← HL1.out, ← HL2.out]; exact Nat.le_refl _), List.all_append] at HA
      have hall := HA.out
      rw [Bool.and_eq_true] at hall
      have h1 : n1 ≤ 20 := by omega
      have h2 : n2 ≤ 20 := by omega
      have HNW := Lib.hid (HNW.out h1)
      have HNX := Lib.hid (HNX.out h2)
      have HPK := Lib.hid (HPK.out h1 hall.1)
      have HPX := Lib.hid (HPX.out h2 hall.2)
      have hq := flat_eq hall.1 hall.2
      clear hall HA HS
      generalize tx (flatE l) = s1 at *
      generalize tx (flatE m) = s2 at *
      generalize decide (l = m) = q at *
      go_wp2_with fail
      refine (HAL.out _ HB.out).mono ?_
      rintro r w2 ⟨rfl, h3⟩
      have HB2 : Hid (Below w.heap.size w w2) := HB.out.trans (h3.mono HB.out.size)
      clear h3
      go_wp2_with fail
      refine (HNW.out _ HB2.out).mono ?_
      rintro r w3 ⟨x1, y1, rfl, hs3, h3⟩
      have HB3 : Hid (Below w.heap.size w w3) := HB2.out.trans (h3.mono HB2.out.size)
      have HS3 := Lib.hid hs3
      clear h3 hs3
      go_wp2_with fail
      refine (HPK.out _ _ _ HS3.out HB3.out).mono ?_
      rintro r w4 ⟨rfl, h3⟩
      have HB4 : Hid (Below w.heap.size w w4) := HB3.out.trans (h3.mono HB3.out.size)
      clear h3 HS3
      go_wp2_with fail
      refine (HNX.out _ HB4.out).mono ?_
      rintro r w5 ⟨x2, y2, rfl, hs3, h3⟩
      have HB5 : Hid (Below w.heap.size w w5) := HB4.out.trans (h3.mono HB4.out.size)
      have HS5 := Lib.hid hs3
      clear h3 hs3
      go_wp2_with fail
      refine (HPX.out _ _ _ HS5.out HB5.out).mono ?_
      rintro r w6 ⟨rfl, h3⟩
      have HB6 : Hid (Below w.heap.size w w6) := HB5.out.trans (h3.mono HB5.out.size)
      clear h3 HS5
      go_wp2_with fail
      refine (HSM.out _ HB6.out).mono ?_
      rintro r w7 ⟨rfl, h3⟩
      have hqq : (q == q) = true := beq_self_eq_true _
      go_wp2
      go_ret
      exact ⟨rfl, HB6.out.trans (h3.mono HB6.out.size)⟩

theorem contract (H : Type) (enc : TypeId × Value → H) (W : World) (base : Nat) (args : Array Value) (ds gs : List (DataW H)) (before : List MemPlace)
    (hval : ∀ (j : Nat) t v, Tryd.f6.params[j]? = some t → args[j]? = some v → Value.okWide Tryd.prog W .any base t v)
    (hW : DataW.Whole enc Tryd.prog Tryd.f6.params.toList Rows.eventApartSpec.vars false W args.toList ds gs before) (hL : laidMetH Tryd.prog Rows.eventRightRow.laid W) (hS : W.ShapedOpen Tryd.prog) (hk : Rows.uptoSmall H (ds ++ gs) = true) :
    Calls Tryd.prog 6 args W fun e W' => ∃ v, e = .returned v ∧ Rows.eventApartSpec.post enc Tryd.prog Tryd.f6 false true false false W args v W' := by
  have hW' := hW
  have hlt := hW.lt
  obtain ⟨p, q, hA0, hV, rfl, hfz, hnd⟩ := hW
  have hA : DataW.TrodAll enc Tryd.prog W 0 (fun _ => true) true Tryd.f6.params.toList args.toList ds p := hA0
  rw [Tryd.params6] at hA hval
  obtain ⟨v0, vs0, d0, ds0, p0, q0, hargs, rfl, rfl, h0, r0⟩ := trodAll_cons hA
  obtain ⟨v1, vs1, d1, ds1, p1, q1, rfl, rfl, rfl, h1, r1⟩ := trodAll_cons r0
  obtain ⟨rfl, rfl, rfl⟩ := trodAll_nil r1
  obtain rfl : args = #[v0, v1] := by cases args; simp_all
  obtain ⟨rfl, rfl⟩ := trodVars_none hV
  obtain ⟨a0, c0, l0, rfl, s0, f0, m0, n0, o0⟩ := open_events (hval 0 42 v0 rfl rfl) h0
  have e0 := Go.Joins.sliceLen_Trod Tryd.underlying42 h0
  obtain ⟨a1, c1, l1, rfl, s1, f1, m1, n1, o1⟩ := open_events (hval 1 42 v1 rfl rfl) h1
  have e1 := Go.Joins.sliceLen_Trod Tryd.underlying42 h1
  refine (walk (H := H) W hS hL a0 c0 l0 s0 f0 m0 n0 o0 a1 c1 l1 s1 f1 m1 n1 o1 hk e0 e1).mono fun e W' ⟨he, hb⟩ => ?_
  subst he
  exact ⟨_, rfl, law_post rfl hW' (fun ds h => by match ds, h with | [_, _], _ => rfl) (by kernel_rfl) (by kernel_rfl) (by kernel_rfl) hb⟩

set_option maxRecDepth 100000 in
theorem lifted (os : Os) (started : os.Started) (H : Type) (enc : TypeId × Value → H) (F : Stop.Interp) :
    ReturnsInHanded {} Tryd.checked os 6 .any ((Rows.OpenSpec.upto Rows.eventApartSpec).preRow enc Tryd.prog Tryd.f6 Rows.eventApartUptoRow.domain false Rows.eventRightRow.laid) (((Rows.OpenSpec.upto Rows.eventApartSpec).at F).post enc Tryd.prog Tryd.f6 false true false false) := by
  have hx : ∃ places, DataW.whole enc Tryd.prog ((World.laidAll Tryd.prog os Rows.eventRightRow.laid).forCall (fun _ _ => 0) ⟨#[], #[.slice none 0 0, .slice none 0 0], []⟩).memory Tryd.f6.params.toList Rows.eventApartSpec.vars false (#[.slice none 0 0, .slice none 0 0] : Array Value).toList 8 = some ([.nil, .nil], [], places) := ⟨[], by kernel_rfl⟩
  obtain ⟨places, hx⟩ := hx
  refine returnsInHanded_of_row (C := Tryd.checked) (s := (Rows.OpenSpec.upto Rows.eventApartSpec)) own started (by kernel_rfl) Tryd.func6
    (witness_lay (enc := enc) (C := Tryd.checked) false #[.slice none 0 0, .slice none 0 0] (World.shaped_of_ZipB (by kernel_rfl) (by kernel_rfl)) (by kernel_rfl)
      (OpenSpec.preRow_of_cond 8 hx (by kernel_rfl) (fun k hk => by cases hk; kernel_rfl) (by kernel_rfl) (laid_met os _))) ?_
  intro W base args ds gs before hval hW _ hcond _ hL hS _
  exact contract H enc W base args ds gs before hval hW hL hS (hcond _ rfl)

theorem said : Rows.EventApartUptoSaid :=
  OpenClaim.holds_of_cond 6 Tryd.f6 rfl rfl rfl rfl rfl rfl rfl ⟨rfl, rfl, rfl, rfl, rfl⟩ rfl rfl rfl rfl rfl (by kernel_rfl) Tryd.func6 (by kernel_rfl)
    (of_decide_eq_true (by kernel_rfl)) (by unfold Func.isWrapper; first | (rw [if_pos (by decide +kernel)]; kernel_rfl) | (rw [if_neg (by decide +kernel)]; exact ⟨rfl, rfl⟩))
    (fun os started H enc _ F => by rw [OpenClaim.pre_eq_preRow]; exact lifted os started H enc F)

theorem plain (f : FuncId) (fn : Func) (hf : Tryd.pinned.checked.prog.funcNamed Rows.eventApartUptoRow.func = some f) (hfn : Tryd.pinned.checked.prog.funcs[f]? = some fn) :
    false = Tryd.pinned.checked.prog.looks [] ∧ ∀ (j : Nat) t, fn.params[j]? = some t → Tryd.pinned.checked.prog.wantsStandIn t = false := by
  obtain rfl : f = 6 := Option.some.inj ((show Tryd.prog.funcNamed Rows.eventApartUptoRow.func = some 6 by kernel_rfl).symm.trans hf) |>.symm
  obtain rfl : fn = Tryd.f6 := (Option.some.inj (Tryd.func6.symm.trans hfn)).symm
  refine ⟨by kernel_rfl, fun j t ht => ?_⟩
  rw [Tryd.params6] at ht
  have hm : t ∈ [42, 42] := by simpa using Array.mem_of_getElem? ht
  have hall : ([42, 42].all fun u => !Tryd.prog.wantsStandIn u) = true := by kernel_rfl
  exact (show Tryd.prog.wantsStandIn t = false by simpa using List.all_eq_true.1 hall t hm)

theorem proved : Rows.EventApartUptoCardSaid :=
  Claim7.holds_tied_plain_at .later [] _ _ _ _ said (fun _ h => by cases h) (by kernel_rfl) (fun _ h => by cases h) eventApartUpto_row_tie rfl ⟨rfl, rfl⟩ (by kernel_rfl) rfl plain (by kernel_rfl)
end Go.Proofs.YtollhemkjnkalaaDoor.eventApart
