/- Texts of mine, one behind the other, of each what is wanted: DG8 DJ0 DJ1. -/
import Derived.Test.YtjhdhfokhkcamaaGreatProg
import Derived.WalkKit
import Derived.WalkLawsBesides
import Derived.Lib.Hide
import Derived.Lib.Bytealg
import Derived.Deep.QuietTactic
import Derived.BigQuiet
import Derived.Deep.Draws
import Derived.Below
import Derived.WalkSmall
import Derived.OwnWalk
import Derived.Maps.AppendAt
import Derived.Laws.AppendOwnNone
import Derived.BigRegion
import Derived.Deep.MidRow
import Derived.Deep.RegionHeld3
import Derived.Shelf.SlSortCmp.QuietGrown
import Derived.Shelf.SlSorted.Search
import Derived.Laws.ResultCell
import Derived.WalkMore
import Derived.Shelf.Spec.SlicesGrow
import Derived.Test.YtjhdhfokhkcamaaGreatShelf
import Derived.Shelf.SlicesG.Cmp
import Derived.Lib.SliceRun
import Derived.Deep.WholeRow
import Derived.Shelf.SlSortCmp.WholeK
import Derived.Shelf.SlSortCmp.NoneTotal
import Derived.Lib.SlicesCompact
import Derived.Shelf.Slices.Clone
import Derived.Shelf.Slices.CompactS
import Derived.Sort.OwnSorted
import Derived.Sort.Grow
import Derived.Lib.OwnBridge
import Derived.Deep.AppendLies
import Derived.ArgAppend
import Derived.Test.YtjhdhfokhkcamaaGreatRows
import Derived.ProofKit
import Derived.OpenShut
import Derived.ShutString
import Derived.SliceStrings
import Derived.Carry
import Derived.Deep.SlicePairs
import Derived.Lib.SmallJoins
import Derived.Deep.DeepCutAuto
import Derived.Deep.RegionLaw
import Derived.StillTailTactics
import Derived.OrdersHeld
import Derived.KernelRfl
import Derived.Deep.Slices
import Derived.ChangeSlices
import Derived.JoinedCond
import Derived.Test.YtjhdhfokhkcamaaGreatP01
import Derived.Test.YtjhdhfokhkcamaaGreatP04
import Derived.Test.YtjhdhfokhkcamaaGreatP09
import Derived.Test.YtjhdhfokhkcamaaGreatP10
import Derived.Test.YtjhdhfokhkcamaaGreatP12
import Derived.Test.YtjhdhfokhkcamaaGreatP18
import Derived.Test.YtjhdhfokhkcamaaGreatP19
import Derived.Test.YtjhdhfokhkcamaaGreatP21
import Derived.Test.YtjhdhfokhkcamaaGreatP25
import Derived.Test.YtjhdhfokhkcamaaGreatP26
import Derived.Test.YtjhdhfokhkcamaaGreatP31
import Derived.Test.YtjhdhfokhkcamaaGreatP32
import Derived.Test.YtjhdhfokhkcamaaGreatP33
import Derived.Test.YtjhdhfokhkcamaaGreatP34
import Derived.Test.YtjhdhfokhkcamaaGreatP36
import Derived.Test.YtjhdhfokhkcamaaGreatP39
import Derived.Test.YtjhdhfokhkcamaaGreatP40
import Derived.Test.YtjhdhfokhkcamaaGreatP41
import Derived.Test.YtjhdhfokhkcamaaGreatP42
import Derived.Test.YtjhdhfokhkcamaaGreatP44
import Derived.Test.YtjhdhfokhkcamaaGreatP46
import Derived.Test.YtjhdhfokhkcamaaGreatP47
import Derived.Test.YtjhdhfokhkcamaaGreatTK
namespace Go.Proofs.YtjhdhfokhkcamaaGreat
open Go.RowKit Go.Proofs
set_option linter.unusedVariables false
set_option maxRecDepth 100000
theorem filt_lt {α : Type} (p : α → Bool) (l : List α) : decide (((l.filter p).length : Int) < (l.length : Int)) = l.any fun x => !p x := by
  rw [Bool.eq_iff_iff, decide_eq_true_iff, List.any_eq_true]
  have h := List.length_filter_lt_length_iff_exists (p := p) (l := l)
  constructor
  · intro h1
    obtain ⟨x, hx, hp⟩ := h.1 (by omega)
    exact ⟨x, hx, by simpa using hp⟩
  · rintro ⟨x, hx, hp⟩
    have := h.2 ⟨x, hx, by simpa using hp⟩
    omega
theorem hasO_lt (l : List OpM) (u : ByteArray) : decide (((l.filter (notU u)).length : Int) < (l.length : Int)) = hasO l u := by
  rw [filt_lt]
  unfold hasO
  congr 1
  funext e
  unfold notU isU
  simp
theorem hasE_lt (l : List EnM) (u : ByteArray) : decide (((l.filter (wiE u)).length : Int) < (l.length : Int)) = hasE l u := by
  rw [filt_lt]
  unfold hasE
  congr 1
  funext e
  unfold wiE prE
  by_cases h1 : e.w = u <;> by_cases h2 : e.u = u <;> simp [h1, h2]
theorem hasT_no {l : List TbM} {u : ByteArray} (h : ∀ i (h : i < l.length), (l[i]).u ≠ u) : hasT l u = false := by
  unfold hasT
  rw [List.any_eq_false]
  intro x hx hk
  obtain ⟨i, hi, rfl⟩ := List.getElem_of_mem hx
  exact h i hi (isKy_iff.1 hk)
theorem hasT_yes {l : List TbM} {u : ByteArray} {j : Nat} (hj : j < l.length) (h : (l[j]).u = u) : hasT l u = true := by
  unfold hasT
  rw [List.any_eq_true]
  exact ⟨l[j], List.getElem_mem hj, isKy_iff.2 h⟩
theorem hasU_no {l : List UsL} {u : ByteArray} (h : ∀ i (h : i < l.length), (l[i]).u ≠ u) : hasU (umS l) u = false := by
  unfold hasU
  rw [List.any_eq_false]
  intro x hx hk
  obtain ⟨y, hy, rfl⟩ := List.mem_map.1 hx
  obtain ⟨i, hi, rfl⟩ := List.getElem_of_mem hy
  exact h i hi (isKy_iff.1 hk)
theorem hasU_yes {l : List UsL} {u : ByteArray} {j : Nat} (hj : j < l.length) (h : (l[j]).u = u) : hasU (umS l) u = true := by
  unfold hasU
  rw [List.any_eq_true]
  exact ⟨(l[j]).m, List.mem_map_of_mem (List.getElem_mem hj), isKy_iff.2 h⟩
set_option maxHeartbeats 2000000 in
theorem rhas_any11 (x : SaL) (u : ByteArray) (w : World) (h : SaAt w x) (hf : Few x.m 900) :
    Calls Tryz.prog 32 #[saV x, .string u] w fun e w' => e = .returned (.bool (stHas x.m u)) ∧ Below w.heap.size w w' := by
  have S0 := SB.new (Below.refl w.heap.size w) h 27
  have HS := Lib.hid S0
  obtain ⟨c0, c1, c2, c3, c4, c5⟩ := S0.cells
  have HT := Lib.hid S0.at_.tb
  have HU := Lib.hid S0.at_.us
  have HFR := Lib.hid S0.frame
  have hun := few_us hf
  have htn : x.tb.length ≤ 900 := hf.tb
  have HWO := Lib.hid (fun V (h : OpSl V x.oa x.op) => o_rwithout x.oa x.oc x.op u V h (Nat.le_trans hf.op (by decide)))
  have HWE := Lib.hid (fun V (h : EnSl V x.sa x.su) => e_rwithout x.sa x.sc x.su u V h (Nat.le_trans hf.su (by decide)))
  have HST : Hid (stHas x.m u = (hasT x.tb u || hasU (umS x.us) u || hasO x.op u || hasE x.su u)) := rfl
  have HLO := Lib.hid (hasO_lt x.op u)
  have HLE := Lib.hid (hasE_lt x.su u)
  have HCE : Hid (∀ V, SB w w.heap.size 27 x V → V.cell? ⟨w.heap.size, 2, none⟩ = some (.slice x.oa x.op.length x.oc) ∧ V.cell? ⟨w.heap.size, 4, none⟩ = some (.slice x.sa x.su.length x.sc)) := fun V h => ⟨h.cells.2.2.1, h.cells.2.2.2.2.1⟩
  generalize stHas x.m u = R at *
  obtain ⟨now, hor, oa, op, oc, ua, us, uc, sa, su, sc, ta, tb, tc⟩ := x
  unfold saV saC at *
  dsimp only at *
  clear h hf S0
  go_enter Tryz.func32, Tryz.ntmps32
  go_wp2
  go_loopw [5] (fun i wr => ∃ (j : Nat), j ≤ tb.length ∧ i = .int .i64 j ∧ Hid (∀ i (h : i < tb.length), i < j → (tb[i]).u ≠ u) ∧ wr = w.alloc (.cells #[.int .i64 now, .int .i64 hor, .slice oa op.length oc, .slice ua us.length uc, .slice sa su.length sc, .slice ta tb.length tc] 27)) (fun i _ => tb.length - (intOf i).toNat)
  case atStart => exact ⟨0, by omega, rfl, (fun i h hi => by omega), rfl⟩
  case round =>
    obtain ⟨j, hj, rfl, HLW, rfl⟩ := hrel
    by_cases hjl : j < tb.length
    · obtain ⟨b, off, rfl, hbl, r0, r1⟩ := HT.out.get hjl
      by_cases he : (tb[j]).u = u
      · have HX := Lib.hid (hasT_yes hjl he)
        clear HLW HLO HLE HWO HWE HCE HU
        generalize tb[j] = y at *
        have he1 := txt_eq y.u
        subst he
        go_wp2
        go_ret
        exact ⟨by rw [HST.out, HX.out]; rfl, HFR.out⟩
      · have heq := txt_ne he
        have HN : Hid (∀ i (h : i < tb.length), i < j + 1 → (tb[i]).u ≠ u) := fun i h hi => by
          by_cases hij : i = j
          · subst hij; exact he
          · exact HLW.out i h (by omega)
        clear HLW HLO HLE HWO HWE HCE HU he
        generalize tb[j] = y at *
        go_wp2
        go_roundw
        case rel => exact ⟨j + 1, by omega, by go_num, HN, by first | rfl | trivial⟩
        case measure => simp [intOf]; omega
    · obtain rfl : j = tb.length := by omega
      have HX := Lib.hid (hasT_no (l := tb) (u := u) (fun i h => HLW.out i h h))
      clear HLW HT
      go_wp2
      go_loopw [6] (fun i wr => ∃ (j : Nat), j ≤ us.length ∧ i = .int .i64 j ∧ Hid (∀ i (h : i < us.length), i < j → (us[i]).u ≠ u) ∧ wr = w.alloc (.cells #[.int .i64 now, .int .i64 hor, .slice oa op.length oc, .slice ua us.length uc, .slice sa su.length sc, .slice ta tb.length tc] 27)) (fun i _ => us.length - (intOf i).toNat)
      case atStart => exact ⟨0, by omega, rfl, (fun i h hi => by omega), rfl⟩
      case round =>
        obtain ⟨j, hj, rfl, HLW, rfl⟩ := hrel
        by_cases hjl : j < us.length
        · obtain ⟨b, off, rfl, hbl, r0, r1, -⟩ := HU.out.get hjl
          by_cases he : (us[j]).u = u
          · have HY := Lib.hid (hasU_yes hjl he)
            clear HLW HLO HLE HWO HWE HCE
            generalize us[j] = y at *
            have he1 := txt_eq y.u
            subst he
            go_wp2
            go_ret
            exact ⟨by rw [HST.out, HX.out, HY.out]; rfl, HFR.out⟩
          · have heq := txt_ne he
            have HN : Hid (∀ i (h : i < us.length), i < j + 1 → (us[i]).u ≠ u) := fun i h hi => by
              by_cases hij : i = j
              · subst hij; exact he
              · exact HLW.out i h (by omega)
            clear HLW HLO HLE HWO HWE HCE he
            generalize us[j] = y at *
            go_wp2
            go_roundw
            case rel => exact ⟨j + 1, by omega, by go_num, HN, by first | rfl | trivial⟩
            case measure => simp [intOf]; omega
        · obtain rfl : j = us.length := by omega
          have HY := Lib.hid (hasU_no (l := us) (u := u) (fun i h => HLW.out i h h))
          have HRR : Hid (R = (hasO op u || hasE su u)) := by unfold Hid; rw [HST.out, HX.out, HY.out]; rfl
          have Q1 := HS.out.below (Below.refl _ _).drew
          clear HLW HU HX HY HST
          generalize op.filter (notU u) = F at *
          generalize su.filter (wiE u) = G at *
          generalize hasO op u = b1 at *
          generalize hasE su u = b2 at *
          have hlo := HLO.out
          have hle := HLE.out
          have hlo2 : decide (F.length < op.length) = b1 := by rw [← hlo]; exact decide_eq_decide.2 Int.ofNat_lt.symm
          have hle2 : decide (G.length < su.length) = b2 := by rw [← hle]; exact decide_eq_decide.2 Int.ofNat_lt.symm
          have HCF := Lib.hid (fun (b : Bool) (h : R = b) V (q : Below w.heap.size w V) => And.intro (congrArg (fun z => Ending.returned (.bool z)) h) q)
          cases b1 with
          | true =>
            go_wp2_with fail
            refine wp_region_held_drew (S := (fun V => V.cell? ⟨w.heap.size, 2, none⟩ = some (.slice oa op.length oc) ∧ V.cell? ⟨w.heap.size, 4, none⟩ = some (.slice sa su.length sc))) (by kernel_rfl) ?_ (fun hHeld => ?_)
            · exact HCE.out _ Q1
            refine tT 0 ⟨some 37, _, _, _, _, _⟩ rfl (h := ?_)
            refine tT 1 ⟨some 38, _, _, _, _, _⟩ rfl (h := ?_)
            refine tT 2 ⟨some 39, _, _, _, _, _⟩ rfl (h := ?_)
            refine tT 5 ⟨some 42, _, _, _, _, _⟩ rfl (h := ?_)
            refine tT 6 ⟨some 43, _, _, _, _, _⟩ rfl (h := ?_)
            refine tT 7 ⟨some 44, _, _, _, _, _⟩ rfl (h := ?_)
            refine wpAnyH_ready (rs := [3]) (by kernel_rfl) (by simp) ?_
            refine AllReadyH.cons (o := ⟨some 40, _, _, _, _, _⟩) rfl (fun K hK => ?_) AllReadyH.nil
            go_simp
            refine (HWO.out _ Q1.at_.op).mono ?_
            rintro e w2 ⟨x2, q2, rfl, -, -, -, -, h2⟩
            have Q2 := Q1.below h2
            go_wp2_with fail
            refine hK.out _ _ ?_ (fun hH3 => ?_)
            · exact HCE.out _ Q2
            clear hK K
            (try simp only [Act.put, List.setIfInBounds_toArray, List.set_cons_zero, List.set_cons_succ])
            refine tT 4 ⟨some 41, _, _, _, _, _⟩ rfl (h := ?_)
            refine tT 8 ⟨some 45, _, _, _, _, _⟩ rfl (h := ?_)
            refine tT 9 ⟨some 46, _, _, _, _, _⟩ rfl (h := ?_)
            refine tS 10 ⟨some 47, _, _, _, _, _⟩ rfl (h := ?_)
            refine tS 11 ⟨some 48, _, _, _, _, _⟩ rfl (h := ?_)
            refine tS 12 ⟨some 49, _, _, _, _, _⟩ rfl (h := ?_)
            refine tS 13 ⟨some 50, _, _, _, _, _⟩ rfl (h := ?_)
            refine tS 14 ⟨some 51, _, _, _, _, _⟩ rfl (h := ?_)
            refine tS 15 ⟨some 52, _, _, _, _, _⟩ rfl (h := ?_)
            refine tS 16 ⟨some 53, _, _, _, _, _⟩ rfl (h := ?_)
            refine tS 17 ⟨some 54, _, _, _, _, _⟩ rfl (h := ?_)
            refine tS 18 ⟨some 55, _, _, _, _, _⟩ rfl (h := ?_)
            refine tT 19 ⟨some 56, _, _, _, _, _⟩ rfl (h := ?_)
            refine tT 20 ⟨some 4, _, _, _, _, _⟩ rfl (h := ?_)
            refine wpAnyH_done (by kernel_rfl) ?_ _
            all_goals
              go_wp2
              go_ret
              exact ⟨retB HRR.out.symm, Q2.frame⟩
          | false =>
            cases b2 with
            | true =>
              go_wp2_with fail
              refine wp_region_held_drew (S := (fun V => V.cell? ⟨w.heap.size, 2, none⟩ = some (.slice oa op.length oc) ∧ V.cell? ⟨w.heap.size, 4, none⟩ = some (.slice sa su.length sc))) (by kernel_rfl) ?_ (fun hHeld => ?_)
              · exact HCE.out _ Q1
              refine tT 0 ⟨some 37, _, _, _, _, _⟩ rfl (h := ?_)
              refine tT 1 ⟨some 38, _, _, _, _, _⟩ rfl (h := ?_)
              refine tT 2 ⟨some 39, _, _, _, _, _⟩ rfl (h := ?_)
              refine tT 5 ⟨some 42, _, _, _, _, _⟩ rfl (h := ?_)
              refine tT 6 ⟨some 43, _, _, _, _, _⟩ rfl (h := ?_)
              refine tT 7 ⟨some 44, _, _, _, _, _⟩ rfl (h := ?_)
              refine wpAnyH_ready (rs := [3]) (by kernel_rfl) (by simp) ?_
              refine AllReadyH.cons (o := ⟨some 40, _, _, _, _, _⟩) rfl (fun K hK => ?_) AllReadyH.nil
              go_simp
              refine (HWO.out _ Q1.at_.op).mono ?_
              rintro e w2 ⟨x2, q2, rfl, -, -, -, -, h2⟩
              have Q2 := Q1.below h2
              go_wp2_with fail
              refine hK.out _ _ ?_ (fun hH3 => ?_)
              · exact HCE.out _ Q2
              clear hK K
              (try simp only [Act.put, List.setIfInBounds_toArray, List.set_cons_zero, List.set_cons_succ])
              refine tT 4 ⟨some 41, _, _, _, _, _⟩ rfl (h := ?_)
              refine tT 8 ⟨some 45, _, _, _, _, _⟩ rfl (h := ?_)
              refine tT 9 ⟨some 46, _, _, _, _, _⟩ rfl (h := ?_)
              refine tT 10 ⟨some 47, _, _, _, _, _⟩ rfl (h := ?_)
              refine tT 11 ⟨some 48, _, _, _, _, _⟩ rfl (h := ?_)
              refine tT 12 ⟨some 49, _, _, _, _, _⟩ rfl (h := ?_)
              refine tT 15 ⟨some 52, _, _, _, _, _⟩ rfl (h := ?_)
              refine tT 16 ⟨some 53, _, _, _, _, _⟩ rfl (h := ?_)
              refine tT 17 ⟨some 54, _, _, _, _, _⟩ rfl (h := ?_)
              refine wpAnyH_ready (rs := [13]) (by kernel_rfl) (by simp) ?_
              refine AllReadyH.cons (o := ⟨some 50, _, _, _, _, _⟩) rfl (fun K hK => ?_) AllReadyH.nil
              go_simp
              refine (HWE.out _ Q2.at_.su).mono ?_
              rintro e w3 ⟨x3, q3, rfl, -, -, -, -, h3⟩
              have Q3 := Q2.below h3
              go_wp2_with fail
              refine hK.out _ _ ?_ (fun hH13 => ?_)
              · exact HCE.out _ Q3
              clear hK K
              (try simp only [Act.put, List.setIfInBounds_toArray, List.set_cons_zero, List.set_cons_succ])
              refine tT 14 ⟨some 51, _, _, _, _, _⟩ rfl (h := ?_)
              refine tT 18 ⟨some 55, _, _, _, _, _⟩ rfl (h := ?_)
              refine tT 19 ⟨some 56, _, _, _, _, _⟩ rfl (h := ?_)
              refine tT 20 ⟨some 4, _, _, _, _, _⟩ rfl (h := ?_)
              refine wpAnyH_done (by kernel_rfl) ?_ _
              all_goals
                go_wp2
                go_ret
                exact ⟨retB HRR.out.symm, Q3.frame⟩
            | false =>
              go_wp2_with fail
              refine wp_region_held_drew (S := (fun V => V.cell? ⟨w.heap.size, 2, none⟩ = some (.slice oa op.length oc) ∧ V.cell? ⟨w.heap.size, 4, none⟩ = some (.slice sa su.length sc))) (by kernel_rfl) ?_ (fun hHeld => ?_)
              · exact HCE.out _ Q1
              refine tT 0 ⟨some 37, _, _, _, _, _⟩ rfl (h := ?_)
              refine tT 1 ⟨some 38, _, _, _, _, _⟩ rfl (h := ?_)
              refine tT 2 ⟨some 39, _, _, _, _, _⟩ rfl (h := ?_)
              refine tT 5 ⟨some 42, _, _, _, _, _⟩ rfl (h := ?_)
              refine tT 6 ⟨some 43, _, _, _, _, _⟩ rfl (h := ?_)
              refine tT 7 ⟨some 44, _, _, _, _, _⟩ rfl (h := ?_)
              refine wpAnyH_ready (rs := [3]) (by kernel_rfl) (by simp) ?_
              refine AllReadyH.cons (o := ⟨some 40, _, _, _, _, _⟩) rfl (fun K hK => ?_) AllReadyH.nil
              go_simp
              refine (HWO.out _ Q1.at_.op).mono ?_
              rintro e w2 ⟨x2, q2, rfl, -, -, -, -, h2⟩
              have Q2 := Q1.below h2
              go_wp2_with fail
              refine hK.out _ _ ?_ (fun hH3 => ?_)
              · exact HCE.out _ Q2
              clear hK K
              (try simp only [Act.put, List.setIfInBounds_toArray, List.set_cons_zero, List.set_cons_succ])
              refine tT 4 ⟨some 41, _, _, _, _, _⟩ rfl (h := ?_)
              refine tT 8 ⟨some 45, _, _, _, _, _⟩ rfl (h := ?_)
              refine tT 9 ⟨some 46, _, _, _, _, _⟩ rfl (h := ?_)
              refine tT 10 ⟨some 47, _, _, _, _, _⟩ rfl (h := ?_)
              refine tT 11 ⟨some 48, _, _, _, _, _⟩ rfl (h := ?_)
              refine tT 12 ⟨some 49, _, _, _, _, _⟩ rfl (h := ?_)
              refine tT 15 ⟨some 52, _, _, _, _, _⟩ rfl (h := ?_)
              refine tT 16 ⟨some 53, _, _, _, _, _⟩ rfl (h := ?_)
              refine tT 17 ⟨some 54, _, _, _, _, _⟩ rfl (h := ?_)
              refine wpAnyH_ready (rs := [13]) (by kernel_rfl) (by simp) ?_
              refine AllReadyH.cons (o := ⟨some 50, _, _, _, _, _⟩) rfl (fun K hK => ?_) AllReadyH.nil
              go_simp
              refine (HWE.out _ Q2.at_.su).mono ?_
              rintro e w3 ⟨x3, q3, rfl, -, -, -, -, h3⟩
              have Q3 := Q2.below h3
              go_wp2_with fail
              refine hK.out _ _ ?_ (fun hH13 => ?_)
              · exact HCE.out _ Q3
              clear hK K
              (try simp only [Act.put, List.setIfInBounds_toArray, List.set_cons_zero, List.set_cons_succ])
              refine tT 14 ⟨some 51, _, _, _, _, _⟩ rfl (h := ?_)
              refine tT 18 ⟨some 55, _, _, _, _, _⟩ rfl (h := ?_)
              refine tT 19 ⟨some 56, _, _, _, _, _⟩ rfl (h := ?_)
              refine tT 20 ⟨some 4, _, _, _, _, _⟩ rfl (h := ?_)
              refine wpAnyH_done (by kernel_rfl) ?_ _
              all_goals
                go_wp2
                go_ret
                exact ⟨retB HRR.out.symm, Q3.frame⟩
end Go.Proofs.YtjhdhfokhkcamaaGreat
namespace Go.Proofs.YtjhdhfokhkcamaaGreat
open Go.RowKit Go.Proofs
set_option linter.unusedVariables false
set_option maxRecDepth 100000
theorem cntU_le : ∀ {l : List UsM}, ∀ x ∈ l, x.l.length ≤ cntU l
  | y :: l, x, hx => by
    rw [cntU_cons]
    rcases List.mem_cons.1 hx with rfl | hx
    · omega
    · have := cntU_le x hx
      omega
theorem few_cnt {x : SaL} {n : Nat} (h : stCnt x.m + x.us.length ≤ n) : Few x.m n := by
  have h0 : stCnt x.m = x.op.length + x.su.length + x.tb.length + cntU (umS x.us) := rfl
  have h1 : x.m.us.length = x.us.length := umS_len _
  refine ⟨?_, by omega, ?_, ?_, fun u hu => ?_⟩
  · show x.op.length ≤ n; omega
  · show x.su.length ≤ n; omega
  · show x.tb.length ≤ n; omega
  · have := cntU_le u hu
    show u.l.length ≤ n
    have h2 : cntU x.m.us = cntU (umS x.us) := rfl
    omega
theorem stays_few {s : SaM} (h : Few s 400) (u : ByteArray) (t : Int) : (staysS s u t).length ≤ 1000 := by
  have h1 := addsS_len (staysO s.op u t) (ofU s.us u)
  have h2 := staysO_few s.op u t h.op
  have h3 := ofU_few h u
  unfold staysS
  omega
theorem in_event {w : World} {x : SaL} (h : SaAt w x) (e : EvM) (t te : TypeId) : SB w w.heap.size t x ((w.alloc (.cells (saC x) t)).alloc (.cells #[.int .i64 e.kind, .int .i64 e.at_, .string e.user, .string e.other, .int .i64 e.n, .int .i64 e.status] te))
    ∧ EB w (w.heap.size + 1) te e ((w.alloc (.cells (saC x) t)).alloc (.cells #[.int .i64 e.kind, .int .i64 e.at_, .string e.user, .string e.other, .int .i64 e.n, .int .i64 e.status] te)) := by
  have S0 := SB.new (Below.refl w.heap.size w) h t
  refine ⟨S0.alloc _, ?_, by omega⟩
  have := heap_alloc_new (w.alloc (.cells (saC x) t)) (.cells #[.int .i64 e.kind, .int .i64 e.at_, .string e.user, .string e.other, .int .i64 e.n, .int .i64 e.status] te)
  rwa [size1] at this
theorem EB.cells {w W : World} {g : Nat} {t : TypeId} {e : EvM} (h : EB w g t e W) : W.cell? ⟨g, 0, none⟩ = some (.int .i64 e.kind) ∧ W.cell? ⟨g, 1, none⟩ = some (.int .i64 e.at_) ∧ W.cell? ⟨g, 2, none⟩ = some (.string e.user) ∧ W.cell? ⟨g, 3, none⟩ = some (.string e.other) ∧ W.cell? ⟨g, 4, none⟩ = some (.int .i64 e.n) ∧ W.cell? ⟨g, 5, none⟩ = some (.int .i64 e.status) :=
  ⟨cell_of_row _ _ _ _ _ _ h.blk, cell_of_row _ _ _ _ _ _ h.blk, cell_of_row _ _ _ _ _ _ h.blk, cell_of_row _ _ _ _ _ _ h.blk, cell_of_row _ _ _ _ _ _ h.blk, cell_of_row _ _ _ _ _ _ h.blk⟩
theorem g_olds (a : Option Addr) (c : Nat) (l : List StM) (W : World) (h : StSl W a l) (hl : l.length ≤ 1000) : Calls Tryz.prog 28 #[.slice a l.length c] W fun e w' => ∃ x q, e = .returned (.slice x l.length q) ∧ StSl w' x l ∧ Below W.heap.size W w' := by
  refine (solds_any a c l W h (by omega)).mono ?_
  rintro e w' ⟨v, rfl, ho, hb⟩
  obtain ⟨x, q, rfl, h1, h2, h3, h4⟩ := own_st ho
  exact ⟨x, q, rfl, h3, hb⟩
theorem g_ssame (a b : Option Addr) (c q : Nat) (l : List StM) (W : World) (ha : StSl W a l) (hb : StSl W b l) (hl : l.length ≤ 1000) : Calls Tryz.prog 27 #[.slice a l.length c, .slice b l.length q] W fun e w' => e = .returned (.bool true) ∧ Below W.heap.size W w' := by
  have h := srefSame_any a b c q l l W ha hb (by unfold maxLen; omega) (by unfold maxLen; omega)
  rwa [decide_eq_true rfl] at h
section
variable {M : SaM} (x y : SaL) (V : World) (h : SaAt V x) (k : SaAt V y) (hm : x.m = M) (km : y.m = M)
include h hm
theorem g_new (hf : Few M 900) : Calls Tryz.prog 15 #[saV x] V (Is V M) := by subst hm; exact lnew_any x V h hf
theorem g_old (hf : Few M 900) : Calls Tryz.prog 19 #[saV x] V (Is V M) := by subst hm; exact lold_any x V h hf
theorem g_rightB (hz : SzS M) (hf : Few M 900) : Calls Tryz.prog 20 #[saV x] V fun r w' => r = .returned (.bool (rightB M)) ∧ Below V.heap.size V w' := by
  subst hm
  exact right_any11 x V h hz (Nat.le_trans hf.op (by decide)) (Nat.le_trans (few_us hf) (by decide)) (Nat.le_trans hf.su (by decide)) (Nat.le_trans hf.tb (by decide)) (fun z hz => Nat.le_trans (umS_st hf.st z hz) (by decide))
theorem g_rrightB (hz : SzS M) (hf : Few M 900) : Calls Tryz.prog 13 #[saV x] V fun r w' => r = .returned (.bool (rightB M)) ∧ Below V.heap.size V w' := by
  subst hm
  have := rright_any11 x V h hz (Nat.le_trans hf.op (by decide)) (Nat.le_trans (few_us hf) (by decide)) (Nat.le_trans hf.su (by decide)) (Nat.le_trans hf.tb (by decide)) (fun z hz => Nat.le_trans (umS_st hf.st z hz) (by decide))
  refine this.mono fun r w' q => ?_
  cases hb : rightB x.m
  · exact q.no (fun hr => by rw [(rightB_iff _).2 hr] at hb; cases hb)
  · exact q.yes ((rightB_iff _).1 hb)
theorem g_rright (hz : SzS M) (hf : Few M 900) (hr : RightS M) : Calls Tryz.prog 13 #[saV x] V fun r w' => r = .returned (.bool true) ∧ Below V.heap.size V w' := by
  have := g_rrightB x V h hm hz hf
  rwa [(rightB_iff _).2 hr] at this
theorem g_rwrong (hz : SzS M) (hf : Few M 900) (hr : ¬ RightS M) : Calls Tryz.prog 13 #[saV x] V fun r w' => r = .returned (.bool false) ∧ Below V.heap.size V w' := by
  have := g_rrightB x V h hm hz hf
  rwa [Bool.eq_false_iff.2 fun hb => hr ((rightB_iff _).1 hb)] at this
theorem g_stays (u : ByteArray) (t : Int) (hf : Few M 400) : Calls Tryz.prog 29 #[saV x, .string u, .int .i64 t] V fun r w' => ∃ a q, r = .returned (.slice a (staysS M u t).length q) ∧ StSl w' a (staysS M u t) ∧ Below V.heap.size V w' := by subst hm; exact stays_any11 x u t V h hf
theorem g_rstays (u : ByteArray) (t : Int) (hf : Few M 400) : Calls Tryz.prog 30 #[saV x, .string u, .int .i64 t] V fun r w' => ∃ a q, r = .returned (.slice a (staysS M u t).length q) ∧ StSl w' a (staysS M u t) ∧ Below V.heap.size V w' := by subst hm; exact rstays_any11 x u t V h hf
theorem g_has (u : ByteArray) (hr : RightS M) (hf : Few M 400) : Calls Tryz.prog 31 #[saV x, .string u] V fun r w' => r = .returned (.bool (stHas M u)) ∧ Below V.heap.size V w' := by subst hm; exact has_any11 x u V h hr hf
theorem g_rhas (u : ByteArray) (hf : Few M 900) : Calls Tryz.prog 32 #[saV x, .string u] V fun r w' => r = .returned (.bool (stHas M u)) ∧ Below V.heap.size V w' := by subst hm; exact rhas_any11 x u V h hf
theorem g_count (hf : Few M 900) (hc : stCnt M ≤ 1000) : Calls Tryz.prog 33 #[saV x] V fun r w' => r = .returned (.int .i64 (stCnt M : Nat)) ∧ Below V.heap.size V w' := by subst hm; exact count_any11 x V h (Nat.le_trans hc (by decide)) (Nat.le_trans (few_us hf) (by decide))
theorem g_rcount (hf : Few M 900) (hc : stCnt M ≤ 1000) : Calls Tryz.prog 34 #[saV x] V fun r w' => r = .returned (.int .i64 (stCnt M : Nat)) ∧ Below V.heap.size V w' := by subst hm; exact rcount_any x V h (Nat.le_trans hc (by decide)) (Nat.le_trans (few_us hf) (by decide))
theorem g_reset (hr : RightS M) (hc : stCnt M ≤ 220) : Calls Tryz.prog 22 #[saV x] V (Is V (resetS M)) := by subst hm; exact reset_any11 x V h hr hc
theorem g_prune (hr : RightS M) (hc : stCnt M ≤ 220) : Calls Tryz.prog 23 #[saV x] V (Is V (pruneS M)) := by subst hm; exact prune_any11 x V h hr hc
include k km
theorem g_same (hf : Few M 900) : Calls Tryz.prog 26 #[saV x, saV y] V fun r w' => r = .returned (.bool true) ∧ Below V.heap.size V w' := by
  subst hm
  have := same_any11 x y V h k hf (by rw [km]; exact hf)
  rwa [(sameS_iff _ _).2 km.symm] at this
end
theorem g_sameB {M N : SaM} (x y : SaL) (V : World) (h : SaAt V x) (k : SaAt V y) (hm : x.m = M) (km : y.m = N) (hf : Few M 900) (kf : Few N 900) : Calls Tryz.prog 26 #[saV x, saV y] V fun r w' => r = .returned (.bool (sameS M N)) ∧ Below V.heap.size V w' := by
  subst hm km
  exact same_any11 x y V h k hf kf
theorem g_rsameB {M N : SaM} (x y : SaL) (V : World) (h : SaAt V x) (k : SaAt V y) (hm : x.m = M) (km : y.m = N) (hf : Few M 900) (kf : Few N 900) : Calls Tryz.prog 18 #[saV x, saV y] V fun r w' => r = .returned (.bool (sameS M N)) ∧ Below V.heap.size V w' := by
  subst hm km
  refine (rsame_any11 x y V h k hf kf).mono fun r w' q => ?_
  cases hb : sameS x.m y.m
  · exact q.no (fun hr => by rw [(sameS_iff _ _).2 hr] at hb; cases hb)
  · exact q.yes ((sameS_iff _ _).1 hb)
def erV (s : SaM) (e : EvM) : Int := errS s e.kind e.at_ e.n e.status e.user e.other
def teV (s : SaM) (e : EvM) : SaM := tellS s e.kind e.at_ e.n e.status e.user e.other
theorem te_ok {s : SaM} {e : EvM} (h : RightS s) (he : erV s e = 0) : RightS (teV s e) ∧ stCnt (teV s e) ≤ stCnt s + 1 ∧ teV s e = goS s e.kind e.at_ e.n e.status e.user e.other := by
  have h1 : teV s e = goS s e.kind e.at_ e.n e.status e.user e.other := by unfold teV tellS; exact if_pos he
  rw [h1]
  exact ⟨right_go h he, cnt_go _ _ _ _ _ _ _, rfl⟩
theorem te_no {s : SaM} {e : EvM} (he : erV s e ≠ 0) : teV s e = saZ := by unfold teV tellS; exact if_neg he
theorem te_right {s : SaM} (h : RightS s) (e : EvM) : RightS (teV s e) := by
  by_cases he : erV s e = 0
  · exact (te_ok h he).1
  · rw [te_no he]; exact RightS.zero
theorem te_cnt {s : SaM} (h : RightS s) (e : EvM) : stCnt (teV s e) ≤ stCnt s + 1 := by
  by_cases he : erV s e = 0
  · exact (te_ok h he).2.1
  · rw [te_no he]; exact Nat.zero_le _
theorem g_apply {M : SaM} (x : SaL) (e : EvM) (V : World) (h : SaAt V x) (hm : x.m = M) (hr : RightS M) (hc : stCnt M ≤ 200) (hw : EFits e) : Calls Tryz.prog 16 #[saV x, evV e] V (Tells V (teV M e) (erV M e)) := by
  subst hm
  exact apply_any x e.kind e.at_ e.n e.status e.user e.other V h hr hc hw.1 hw.2
end Go.Proofs.YtjhdhfokhkcamaaGreat
namespace Go.Proofs.YtjhdhfokhkcamaaGreat
open Go.RowKit Go.Proofs
theorem EB.lt' {w W : World} {g : Nat} {t : TypeId} {e : EvM} (h : EB w g t e W) : g < W.heap.size := heap_lt h.blk
end Go.Proofs.YtjhdhfokhkcamaaGreat
