/- SpanJoins: the times that any of some rows has are what the document says; the order of rows is of no account; for all rows. No condition. -/
import Derived.Test.YtbcabbddgppkaaaW21
import Derived.SizedLaws
import Derived.Deep.RegionHeld3
import Derived.Deep.AppendLies
namespace Go.Proofs.Ytbcabbddgppkaaa.spanJoins
open Go.ChangeShapes Go.WideShapes Go.ChangeAt Go.RowKit
open Go.ChangeMaps (open_string shut_string)
set_option linter.unusedVariables false
set_option maxRecDepth 100000

/-- one more row of the program's own, in a region that draws -/
theorem step_row {P : Program} {w W : World} {ops : Array Oper} {o : Oper} {a : Act} {Kc : Act → World → Prop} {Q : Exit → Act → World → Prop} {E : Prop} (hgd : o.guard = none) (s x : Operand) (t : TypeId)
    (ho : o.op = .call { callee := .builtin .append, args := #[s, x], argTypes := #[t, t] })
    (i : TypeInfo) (z : Value) (ht : P.underlying t = some (.slice 32)) (hi : P.info? 32 = some i) (hz : i.zero = some z)
    (hsize : i.size = 1) (hby : i.bytes = 24) (hzs : z.cells.size = 1)
    (va vr vb : Value) (A : List SpM) (R K : List RwM) (r : RwM) (T : TypeId) (g : Nat) (hg : g = W.heap.size) (hJ : Jn w va vr vb A R K W) (hr : RwAt W r) (hf : FarR r va ∧ FarR r vr ∧ FarR r vb)
    (hs : a.eval s = vr) (hx : a.eval x = .slice (some ⟨g, 0, none⟩) 1 1) (hlen : R.length ≤ 1000)
    (h : ∀ v' w', Jn w va v' vb A (R ++ [r]) K w' → Kc (a.put o.dst v') w') :
    if Region.wanted o (yielded ops a.tmps) = true then Oper.wp P o a (W.alloc (.cells #[rwV r] T)) Kc Q else E := by
  have hw : Region.wanted o (yielded ops a.tmps) = true := by simp [Region.wanted, hgd]
  rw [if_pos hw]
  subst hg
  have hb := (Below.refl W.heap.size W).alloc (Nat.le_refl _) (.cells #[rwV r] T)
  have hJ1 := hJ.below hb
  obtain ⟨v', w', hrun, h2, h3, h4, h5⟩ := run_append_own_at (P := P) (W.alloc (.cells #[rwV r] T)) w.heap.size t o.type 32 i z 1 24 ht hi hz hsize hby hzs (by decide) vr R.length (R.map rwV) hJ1.rows ⟨W.heap.size, 0, none⟩ 1 1 [rwV r] rfl (cell_one_new _ _ _) (by simp [rwV, Value.oneCell']) (by unfold maxLen; omega) (by omega) hJ1.frame.size
  unfold Oper.wp execOp
  simp only [ho, resolve, invoke, builtin, Sem.run_bind, Sem.run_pure, Result.andThen_ok, List.map_toArray, List.map_cons, List.map_nil, hs, hx, hrun]
  exact h v' w' (hJ1.addRow (hr.below hb) hf h2 h3 h5)
theorem step_back {P : Program} {w W : World} {ops : Array Oper} {o : Oper} {a : Act} {Kc : Act → World → Prop} {Q : Exit → Act → World → Prop} {E : Prop} (hgd : o.guard = none) (s x : Operand) (t : TypeId)
    (ho : o.op = .call { callee := .builtin .append, args := #[s, x], argTypes := #[t, t] })
    (i : TypeInfo) (z : Value) (ht : P.underlying t = some (.slice 32)) (hi : P.info? 32 = some i) (hz : i.zero = some z)
    (hsize : i.size = 1) (hby : i.bytes = 24) (hzs : z.cells.size = 1)
    (va vr vb : Value) (A : List SpM) (R K : List RwM) (r : RwM) (T : TypeId) (g : Nat) (hg : g = W.heap.size) (hJ : Jn w va vr vb A R K W) (hr : RwAt W r) (hf : FarR r va ∧ FarR r vr ∧ FarR r vb)
    (hs : a.eval s = vb) (hx : a.eval x = .slice (some ⟨g, 0, none⟩) 1 1) (hlen : K.length ≤ 1000)
    (h : ∀ v' w', Jn w va vr v' A R (K ++ [r]) w' → Kc (a.put o.dst v') w') :
    if Region.wanted o (yielded ops a.tmps) = true then Oper.wp P o a (W.alloc (.cells #[rwV r] T)) Kc Q else E := by
  have hw : Region.wanted o (yielded ops a.tmps) = true := by simp [Region.wanted, hgd]
  rw [if_pos hw]
  subst hg
  have hb := (Below.refl W.heap.size W).alloc (Nat.le_refl _) (.cells #[rwV r] T)
  have hJ1 := hJ.below hb
  obtain ⟨v', w', hrun, h2, h3, h4, h5⟩ := run_append_own_at (P := P) (W.alloc (.cells #[rwV r] T)) w.heap.size t o.type 32 i z 1 24 ht hi hz hsize hby hzs (by decide) vb K.length (K.map rwV) hJ1.back ⟨W.heap.size, 0, none⟩ 1 1 [rwV r] rfl (cell_one_new _ _ _) (by simp [rwV, Value.oneCell']) (by unfold maxLen; omega) (by omega) hJ1.frame.size
  unfold Oper.wp execOp
  simp only [ho, resolve, invoke, builtin, Sem.run_bind, Sem.run_pure, Result.andThen_ok, List.map_toArray, List.map_cons, List.map_nil, hs, hx, hrun]
  exact h v' w' (hJ1.addBack (hr.below hb) hf h2 h3 h5)
theorem cat_flat (R : List RwM) : cat R = (R.map (·.l)).flatten := by
  unfold cat
  rw [List.flatMap_def]
theorem cat_same {R D : List RwM} (h : R.map (·.l) = D.map (·.l)) : cat R = cat D := by rw [cat_flat, cat_flat, h]
theorem cat_has {K D : List RwM} (h : K.map (·.l) = D.reverse.map (·.l)) (t : Int) : HasL (cat K) t ↔ HasL (cat D) t := by
  rw [cat_flat, cat_flat, h]
  unfold HasL
  simp
theorem cat_le {D : List RwM} {d : RwM} (h : d ∈ D) : d.l.length ≤ (cat D).length := by
  rw [cat_flat, List.length_flatten]
  have hm : d.l ∈ D.map (·.l) := List.mem_map.2 ⟨d, h, rfl⟩
  generalize D.map (·.l) = M at *
  induction M with
  | nil => cases hm
  | cons m M ih =>
    rw [List.map_cons, List.sum_cons]
    rcases List.mem_cons.1 hm with rfl | hm
    · omega
    · have := ih hm; omega
theorem cat_len {K D : List RwM} (h : K.map (·.l) = D.reverse.map (·.l)) : (cat K).length = (cat D).length := by
  rw [cat_flat, cat_flat, h, List.map_reverse]
  exact (List.Perm.flatten (List.reverse_perm _)).length_eq
theorem infoRow : (Try.prog.info? 32).map (fun i => (i.zero, i.size, i.bytes)) = some (some (.slice none 0 0), 1, 24) := by kernel_rfl
theorem take_ls {D R : List RwM} {r : RwM} {j : Nat} (h : j < D.length) (hR : R.map (·.l) = (D.take j).map (·.l)) (hr : r.l = D[j].l) : (R ++ [r]).map (·.l) = (D.take (j + 1)).map (·.l) := by
  rw [List.take_succ_eq_append_getElem h, List.map_append, List.map_append, hR]
  simp [hr]

set_option maxHeartbeats 4000000 in
theorem walk (w : World) (a : Option Addr) (c : Nat) (D : List RwM) (hs : Sl w a (D.map rwV)) (hD : ∀ r ∈ D, RwAt w r ∧ r.l.length * 16 ≤ bnd) (hc : D.length ≤ c) (hcm : c ≤ maxLen) :
    Calls Try.prog 4 #[.slice a D.length c] w fun e w' => e = .returned (.bool true) ∧ Below w.heap.size w w' := by
  obtain ⟨i0, hi, hz0, hz1, hz2⟩ := info_parts infoSpanR
  obtain ⟨i1, hj, hy0, hy1, hy2⟩ := info_parts infoRow
  have HAL := Lib.hid alive_any
  have HS := Lib.hid hs
  have HD := Lib.hid hD
  have hcm' : D.length ≤ 9223372036854775807 := by unfold maxLen at hcm; omega
  clear hs hD hc hcm
  have J0 := Lib.hid (Jn.start w)
  go_enter Try.func4, Try.ntmps4
  go_wp2
  go_loopw [3, 4, 5, 6, 13] (fun n va vr vb i wr => ∃ (j q : Nat) (A : List SpM) (R K : List RwM), j ≤ D.length ∧ q ≤ 60 ∧ i = .int .i64 j ∧ n = .int .i64 q ∧ Hid (0 < j → D.length ≤ 20) ∧ Hid (A = cat (D.take j) ∧ q = A.length) ∧ Hid (R.map (·.l) = (D.take j).map (·.l)) ∧ Hid (K.map (·.l) = (D.reverse.take j).map (·.l)) ∧ Hid (Jn w va vr vb A R K wr)) (fun _ _ _ _ i _ => D.length - (intOf i).toNat)
  case atStart => exact ⟨0, 0, [], [], [], by omega, by omega, rfl, rfl, (fun h => absurd h (by omega)), ⟨by simp [cat], rfl⟩, (by unfold Hid; simp), (by unfold Hid; simp), J0⟩
  case round =>
    obtain ⟨j, q, A, R, K, hjD, hq, rfl, rfl, HJ20, HA, HR, HK, HJ⟩ := hrel
    clear J0
    by_cases hjl : j < D.length
    · obtain ⟨b, off, rfl, hbl, hcell⟩ := (HS.out.below HJ.out.frame) j (by simpa using hjl)
      have hdm := HD.out D[j] (List.getElem_mem hjl)
      have hce : wr.cell? ⟨b, off + j, none⟩ = some (.slice D[j].a D[j].l.length D[j].c) := by rw [hcell]; simp [rwV]
      have HTK := Lib.hid (cat_take D j hjl)
      have HTL := Lib.hid (fun R r => take_ls (D := D) (R := R) (r := r) hjl)
      have HDA := Lib.hid hdm.1
      have HDB := Lib.hid hdm.2
      have hdl := hdm.2
      unfold bnd at hdl
      clear hcell hdm
      have hN2 : D.length - 1 - j < D.length := by omega
      have HCE2 : Hid (∀ W, Below w.heap.size w W → W.cell? ⟨b, off + (D.length - 1 - j), none⟩ = some (rwV D[D.length - 1 - j])) := fun W hW => by
        obtain ⟨_, _, e, _, h2⟩ := (HS.out.below hW) (D.length - 1 - j) (by simpa using hN2)
        cases e
        rw [h2]
        simp
      have HD2 := Lib.hid (HD.out D[D.length - 1 - j] (List.getElem_mem hN2))
      have HREV : Hid (∀ (K : List RwM) (r : RwM), K.map (fun x => x.l) = (D.reverse.take j).map (fun x => x.l) → r.l = (D[D.length - 1 - j]).l → (K ++ [r]).map (fun x => x.l) = (D.reverse.take (j + 1)).map (fun x => x.l)) := fun K r h1 h2 => by
        refine take_ls (D := D.reverse) (by simpa using hjl) h1 ?_
        rw [List.getElem_reverse]
        exact h2
      generalize D[D.length - 1 - j] = d2 at *
      generalize D[j] = d at *
      obtain ⟨m, hm⟩ : ∃ m, m = D.length - 1 - j := ⟨_, rfl⟩
      rw [← hm] at HCE2
      have hNm : D.length = m + 1 + j := by omega
      have hw0 : IntKind.i64.wrap ((q : Int) + (d.l.length : Int)) = ((q + d.l.length : Nat) : Int) := by rw [IntWalk.i64_in] <;> omega
      by_cases h60 : 60 < q + d.l.length
      · have hd1 : decide ((60 : Int) < ((q + d.l.length : Nat) : Int)) = true := decide_eq_true (by omega)
        generalize ((q + d.l.length : Nat) : Int) = qq at *
        clear hm hNm hN2 hdl
        go_wp2_with fail
        refine (HAL.out _).mono ?_
        rintro e w9 ⟨rfl, hB⟩
        go_wp2
        go_ret
        exact ⟨rfl, HJ.out.frame.trans (hB.mono HJ.out.frame.size)⟩
      have hd1 : decide ((60 : Int) < ((q + d.l.length : Nat) : Int)) = false := decide_eq_false (by omega)
      obtain ⟨q2, hq2⟩ : ∃ q2, q2 = q + d.l.length := ⟨_, rfl⟩
      rw [← hq2] at hw0 hd1
      by_cases h20 : 20 < D.length
      · have hd2 : decide ((20 : Int) < (D.length : Int)) = true := decide_eq_true (by omega)
        clear hm hNm hN2 hdl hq2 h60
        go_wp2_with fail
        refine (HAL.out _).mono ?_
        rintro e w9 ⟨rfl, hB⟩
        go_wp2
        go_ret
        exact ⟨rfl, HJ.out.frame.trans (hB.mono HJ.out.frame.size)⟩
      have hd2 : decide ((20 : Int) < (D.length : Int)) = false := decide_eq_false (by omega)
      have hAl : A.length + d.l.length ≤ 60 := by have := HA.out.2; omega
      have HRL : Hid (R.length ≤ 1000) := by
        have := congrArg List.length HR.out
        simp at this
        unfold Hid; omega
      have HKL : Hid (K.length ≤ 1000) := by
        have := congrArg List.length HK.out
        simp at this
        unfold Hid; omega
      have hw1 : IntKind.i64.wrap ((D.length : Int) - 1) = (m : Int) + (j : Int) := by rw [IntWalk.i64_in] <;> omega
      have hw3 : IntKind.i64.wrap (m : Int) = (m : Int) := by rw [IntWalk.i64_in] <;> omega
      have hi0 : (0 : Int) ≤ (m : Int) := Int.natCast_nonneg _
      have hi1 : (m : Int) < (D.length : Int) := by omega
      have H20 := Lib.hid (show D.length ≤ 20 by omega)
      have H60 := Lib.hid (show q2 ≤ 60 by omega)
      have HQ2 := Lib.hid hq2
      clear hm hNm hN2 hdl h60 h20 hq2
      go_wp2_with (at_builtin; refine wpList_all rfl (.tmp 30) (.tmp 31) 30 rfl i0 _ Try.underlying30 hi hz0 hz1 hz2 rfl _ _ _ A R K rfl HJ.out d rfl (HDA.out.below HJ.out.frame) (by omega) ?_; intro va2 w2 hJ2 hB2)
      have K0 := hJ2.below (Below.refl w2.heap.size w2).drew
      have HSC : Hid (∀ W, Below w.heap.size w W → W.cell? ⟨b, off + m, none⟩ = some (.slice d2.a d2.l.length d2.c)) := HCE2.out
      have HBA : Hid (∀ W O, Below w.heap.size w W → Below w.heap.size w (W.alloc O)) := fun W O h => h.alloc h.size O
      clear hJ2 hB2 HCE2 hw0 hd1 hd2 hAl HJ
      go_wp2_with fail
      go_region_held3 (fun W => W.cell? ⟨b, off + m, none⟩ = some (.slice d2.a d2.l.length d2.c))
        (first | with_reducible exact HSC.out _ K4.frame | with_reducible exact HSC.out _ (HBA.out _ _ K3.frame) | with_reducible exact HSC.out _ K3.frame | with_reducible exact HSC.out _ K2.frame | with_reducible exact HSC.out _ (HBA.out _ _ K1.frame) | with_reducible exact HSC.out _ K1.frame | with_reducible exact HSC.out _ K0.frame | assumption)
        (first | (have hseen := K3; clear hseen; refine step_back rfl (.tmp 38) (.tmp 48) 31 rfl i1 _ Try.underlying31 hj hy0 hy1 hy2 rfl _ _ _ _ _ K r2 _ _ rfl K3 hr2 hf2 rfl rfl HKL.out ?_; intro vb2 w6 K4) | (have hseen := K2; clear hseen; go_at_call 17; refine (j_news d2 (HD2.out.1.below K2.frame) HD2.out.2 K2).mono ?_; rintro e w5 ⟨r2, e2, rfl, hr2, hf2, h5⟩; have K3 := K2.below h5) | (have hseen := K1; clear hseen; refine step_row rfl (.tmp 33) (.tmp 36) 31 rfl i1 _ Try.underlying31 hj hy0 hy1 hy2 rfl _ _ _ _ R K r1 _ _ rfl K1 hr1 hf1 rfl rfl HRL.out ?_; intro vr2 w4 K2) | (have hseen := K0; clear hseen; go_at_call 17; refine (j_news d (HDA.out.below K0.frame) HDB.out K0).mono ?_; rintro e w3 ⟨r1, e1, rfl, hr1, hf1, h3⟩; have K1 := K0.below h3))
      have HJ4 := Lib.hid K4
      have HA4 : Hid (A ++ d.l = cat (D.take (j + 1)) ∧ q2 = (A ++ d.l).length) := ⟨by rw [HTK.out, HA.out.1], by rw [HQ2.out, HA.out.2, List.length_append]⟩
      have HR4 := Lib.hid (HTL.out R r1 HR.out e1.out)
      have HK4 := Lib.hid (HREV.out K r2 HK.out e2.out)
      clear K0 K1 K2 K3 K4 HR HK HA hr1 hr2 hf1 hf2
      have h20 := H20.out
      go_wp2
      go_roundw
      case rel => exact ⟨j + 1, q2, A ++ d.l, R ++ [r1], K ++ [r2], by omega, H60.out, by go_num, rfl, (fun _ => H20.out), HA4, HR4, HK4, HJ4⟩
      case measure => simp [intOf]; omega
    · obtain rfl : j = D.length := by omega
      rw [List.take_length] at HA HR
      have HTR : Hid (D.reverse.take D.length = D.reverse) := List.take_of_length_le (by simp)
      rw [HTR.out] at HK
      have HKN : Hid (K.length = D.length) := by
        have := congrArg List.length HK.out
        unfold Hid
        simpa using this
      obtain ⟨ab, cb, rfl, hbc, hbm, hsb, -, -⟩ := own_slice HJ.out.back
      have HSB := Lib.hid hsb
      have HK60 : Hid (∀ j (h : j < K.length), K[j].l.length ≤ 60) := fun j h => by
        have h1 : K[j].l ∈ K.map (·.l) := List.mem_map.2 ⟨K[j], List.getElem_mem h, rfl⟩
        rw [HK.out] at h1
        obtain ⟨d, hd, e⟩ := List.mem_map.1 h1
        rw [← e]
        have h2 := cat_le (List.mem_reverse.1 hd)
        rw [← HA.out.1, ← HA.out.2] at h2
        omega
      have hKl : K.length ≤ 9223372036854775807 := by have := HKN.out; omega
      have HFR := Lib.hid HJ.out.frame
      clear hsb hbc hbm hjl hjD
      go_wp2
      go_loopw [53] (fun i w2 => ∃ (k : Nat), k ≤ K.length ∧ i = .int .i64 k ∧ wr = w2) (fun i _ => K.length - (intOf i).toNat)
      case atStart => exact ⟨0, by omega, rfl, rfl⟩
      case round =>
        obtain ⟨k, hk, rfl, rfl⟩ := hrel
        by_cases hkl : k < K.length
        · obtain ⟨b2, o2, rfl, hbl, hcell⟩ := HSB.out k (by simpa using hkl)
          have hce : wr.cell? ⟨b2, o2 + k, none⟩ = some (.slice K[k].a K[k].l.length K[k].c) := by rw [hcell]; simp [rwV]
          have h60 := HK60.out k hkl
          generalize K[k] = x at *
          have hd1 : decide ((60 : Int) < (x.l.length : Int)) = false := decide_eq_false (by omega)
          clear hcell
          go_wp2
          go_roundw
          case rel => exact ⟨k + 1, by omega, by go_num, by trivial⟩
          case measure => simp [intOf]; omega
        · obtain rfl : k = K.length := by omega
          obtain ⟨ar, cr, rfl, -, -, hsr, -, -⟩ := own_slice HJ.out.rows
          obtain ⟨aa, ca, rfl, -, hsa⟩ := own_sp HJ.out.all
          have HSR := Lib.hid hsr
          have HSA := Lib.hid hsa
          have HCR : Hid (cat R = cat D) := cat_same HR.out
          have HCK := Lib.hid (fun t => cat_has HK.out t)
          have HAD := Lib.hid HA.out.1
          have HA60 : Hid (A.length ≤ 60) := by have := HA.out.2; unfold Hid; omega
          have HRN : Hid (R.length ≤ 100000) := by
            have h1 := congrArg List.length HR.out
            simp at h1
            unfold Hid
            rcases Nat.eq_zero_or_pos D.length with h2 | h2
            · omega
            · have := HJ20.out h2
              omega
          have HKN2 : Hid (K.length ≤ 100000) := by
            have h1 := HKN.out
            unfold Hid
            rcases Nat.eq_zero_or_pos D.length with h2 | h2
            · omega
            · have := HJ20.out h2
              omega
          have HJR : Hid (∀ W, Below wr.heap.size wr W → Calls Try.prog 20 #[.slice ar R.length cr] W fun e w' => ∃ x q r, e = .returned (.slice x r.length q) ∧ IsSet (HasL A) r ∧ r.length ≤ 60 ∧ SpSl w' x r ∧ Below W.heap.size W w') := fun W hW => by
            refine (join_any ar cr R W (HSR.out.below hW) (fun r hr => (HJ.out.rat r hr).below hW) HRN.out (by rw [HCR.out, ← HAD.out]; have := HA60.out; omega)).mono ?_
            rintro e w' ⟨v, r, rfl, h1, h2, ho, hb⟩
            rw [HCR.out, ← HAD.out] at h1 h2
            obtain ⟨x, q, rfl, _, h3⟩ := own_sp ho
            exact ⟨x, q, r, rfl, h1, by have := HA60.out; omega, h3, hb⟩
          have HJK : Hid (∀ W, Below wr.heap.size wr W → Calls Try.prog 20 #[.slice ab K.length cb] W fun e w' => ∃ x q r, e = .returned (.slice x r.length q) ∧ IsSet (HasL A) r ∧ SpSl w' x r ∧ Below W.heap.size W w') := fun W hW => by
            refine (join_any ab cb K W (HSB.out.below hW) (fun r hr => (HJ.out.kat r hr).below hW) HKN2.out (by have h1 := cat_len HK.out; rw [h1, ← HAD.out]; have := HA60.out; omega)).mono ?_
            rintro e w' ⟨v, r, rfl, h1, h2, ho, hb⟩
            obtain ⟨x, q, rfl, _, h3⟩ := own_sp ho
            exact ⟨x, q, r, rfl, h1.congr (fun t => by rw [HCK.out t, ← HAD.out]), h3, hb⟩
          have HRN2 : Hid (∀ W, Below wr.heap.size wr W → ∀ r, IsSet (HasL A) r → Calls Try.prog 21 #[.slice aa A.length ca] W fun e w' => ∃ x q, e = .returned (.slice x r.length q) ∧ SpSl w' x r ∧ Below W.heap.size W w') := fun W hW r hr => c_rnorm aa ca A W (HSA.out.below hW) (by have := HA60.out; omega) r hr
          clear hsr hsa HSR HSA HSB HJ HCR HCK HA HR HK HKN HK60 hKl HRN HKN2
          have HOl := Lib.hid (fun x q r W (h : SpSl W x r) (hl : r.length ≤ 1000) => c_olds x q r W h hl)
          have HRS := Lib.hid (fun x y p q r W (h : SpSl W x r) (k : SpSl W y r) (hl : r.length ≤ 1000) => c_rsame x y p q r W h k hl)
          have HPS := Lib.hid (fun x y p q r W (h : SpSl W x r) (k : SpSl W y r) (hl : r.length ≤ 1000) => c_same x y p q r W h k hl)
          go_wp2_with fail
          refine (HAL.out _).mono ?_
          rintro e w1 ⟨rfl, h1⟩
          have F1 := Lib.hid h1
          clear h1
          go_wp2_with fail
          refine (HJR.out _ F1.out).mono ?_
          rintro e w2 ⟨x2, q2, r, rfl, hr, hrl, z2, h2⟩
          have F2 := Lib.hid (F1.out.trans (h2.mono F1.out.size))
          have RR := Lib.hid hr
          have RL := Lib.hid hrl
          clear h2 F1 hr hrl
          go_wp2_with fail
          refine (HOl.out x2 q2 r _ z2 (by have := RL.out; omega)).mono ?_
          rintro e w3 ⟨x3, q3, rfl, z3, h3⟩
          have F3 := Lib.hid (F2.out.trans (h3.mono F2.out.size))
          clear h3 F2 z2
          go_wp2_with fail
          refine (HRN2.out _ F3.out r RR.out).mono ?_
          rintro e w4 ⟨x4, q4, rfl, z4, h4⟩
          have F4 := Lib.hid (F3.out.trans (h4.mono F3.out.size))
          replace z3 := z3.below h4
          clear h4 F3
          go_wp2_with fail
          refine (HRS.out x3 x4 q3 q4 r _ z3 z4 (by have := RL.out; omega)).mono ?_
          rintro e w5 ⟨rfl, h5⟩
          have F5 := Lib.hid (F4.out.trans (h5.mono F4.out.size))
          clear h5 F4 z3 z4
          go_wp2_with fail
          refine (HJK.out _ F5.out).mono ?_
          rintro e w6 ⟨x6, q6, r6, rfl, hr6, z6, h6⟩
          obtain rfl := hr6.only RR.out
          have F6 := Lib.hid (F5.out.trans (h6.mono F5.out.size))
          clear h6 F5 hr6
          go_wp2_with fail
          refine (HJR.out _ F6.out).mono ?_
          rintro e w7 ⟨x7, q7, r7, rfl, hr7, -, z7, h7⟩
          obtain rfl := hr7.only RR.out
          have F7 := Lib.hid (F6.out.trans (h7.mono F6.out.size))
          replace z6 := z6.below h7
          clear h7 F6 hr7
          go_wp2_with fail
          refine (HPS.out x6 x7 q6 q7 r7 _ z6 z7 (by have := RL.out; omega)).mono ?_
          rintro e w8 ⟨rfl, h8⟩
          have F8 := Lib.hid (F7.out.trans (h8.mono F7.out.size))
          clear h8 F7 z6 z7
          go_wp2
          go_ret
          exact ⟨rfl, HFR.out.trans (F8.out.mono HFR.out.size)⟩

set_option maxRecDepth 100000 in
theorem lifted (os : Os) (started : os.Started) (H : Type) (enc : TypeId × Value → H) :
    ReturnsInHanded {} Try.checked os 4 .any (Rows.spanJoinsSpec.pre6 enc Try.prog Try.f4 Rows.spanJoinsRow.domain false) (Rows.spanJoinsSpec.post enc Try.prog Try.f4 false true false false) := by
  refine returnsInHanded_of_change_sized (C := Try.checked) own started (by kernel_rfl) Try.func4
    (ChangeSpec.witness6 (enc := enc) (C := Try.checked) false ⟨#[], #[.slice none 0 0], []⟩ 8 (by kernel_rfl) (by kernel_rfl) (by kernel_rfl) (by kernel_rfl)) ?_
  intro W base args ds gs before hval0 hW hcnd hsz0 _
  have hval : ∀ (j : Nat) t v, Try.f4.params[j]? = some t → args[j]? = some v → Value.okWide Try.prog W .any base t v := hval0
  have hW' := hW
  have hlt := hW.lt
  obtain ⟨p, q, hA0, hV, rfl, hfz, hnd⟩ := hW
  have hA : DataW.TrodAll enc Try.prog W 0 (fun _ => true) true Try.f4.params.toList args.toList ds p := hA0
  rw [Try.params4] at hA hval
  obtain ⟨v0, vs0, d0, ds0, p0, q0, hargs, rfl, rfl, h0, r0⟩ := trodAll_cons hA
  obtain ⟨rfl, rfl, rfl⟩ := trodAll_nil r0
  obtain rfl : args = #[v0] := by cases args; simp_all
  obtain ⟨rfl, rfl⟩ := trodVars_none hV
  obtain ⟨a0, c0, l0, rfl, s0, f0, m0, n0⟩ := open_rows (hval 0 29 v0 rfl rfl) h0 (fun n hn => show n ≤ bnd from of_decide_eq_true (List.all_eq_true.1 hsz0 n (DataW.weights_mem_each (j := 0) (t := 29) (by kernel_rfl) rfl n hn)))
  refine (walk W a0 c0 l0 s0 f0 m0 n0).mono fun e W' ⟨he, hb⟩ => ?_
  subst he
  exact ⟨_, rfl, law_post rfl hW' (fun ds h => by match ds, h with | [_], _ => rfl) (by kernel_rfl) (by kernel_rfl) (by kernel_rfl) hb⟩

theorem over : Rows.spanJoinsRow.holds Try.pinned (OpenSpec.ofChange Rows.spanJoinsSpec) :=
  OpenClaim.holds_of_wide 4 Try.f4 rfl rfl rfl rfl rfl rfl rfl ⟨rfl, rfl, rfl, rfl, rfl⟩ rfl rfl rfl rfl rfl (by kernel_rfl) Try.func4 (by kernel_rfl)
    (of_decide_eq_true (by kernel_rfl)) (by unfold Func.isWrapper; first | (rw [if_pos (by decide +kernel)]; kernel_rfl) | (rw [if_neg (by decide +kernel)]; exact ⟨rfl, rfl⟩))
    (fun os started H enc _ => lifted os started H enc)

theorem proved : Rows.SpanJoinsSaid := over
end Go.Proofs.Ytbcabbddgppkaaa.spanJoins
