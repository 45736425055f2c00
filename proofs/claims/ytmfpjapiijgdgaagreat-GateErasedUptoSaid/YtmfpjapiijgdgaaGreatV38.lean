/- Texts of mine, one behind the other, of each what is wanted. -/
import Derived.Test.YtmfpjapiijgdgaaGreatV00
import Derived.Test.YtmfpjapiijgdgaaGreatShelf
import Derived.Test.YtmfpjapiijgdgaaGreatRows
import Derived.Test.YtmfpjapiijgdgaaGreatV01
import Derived.Test.YtmfpjapiijgdgaaGreatV03
import Derived.Test.YtmfpjapiijgdgaaGreatV05
import Derived.Test.YtmfpjapiijgdgaaGreatV06
import Derived.Test.YtmfpjapiijgdgaaGreatV07
import Derived.Test.YtmfpjapiijgdgaaGreatV17
import Derived.Test.YtmfpjapiijgdgaaGreatV20
namespace Go.Proofs.YtmfpjapiijgdgaaGreat
open Go.RowKit Go.Proofs
set_option linter.unusedVariables false
set_option maxRecDepth 100000
set_option maxRecDepth 100000
theorem few_us {x : SaL} {n : Nat} (hf : Few x.m n) : x.us.length ≤ n := by have := hf.us; unfold SaL.m at this; simp only at this; rwa [umS_len] at this
def TellsB (w : World) (P : Prop) (r : Ending) (w' : World) : Prop := ∃ b, r = .returned (.bool b) ∧ (b = true ↔ P) ∧ Below w.heap.size w w'
def StaysP (now : Int) (op : List OpM) (l : List StM) : Prop := (∀ x ∈ l, OkSt now op x) ∧ l ≠ [] ∧ RiseS l
set_option maxHeartbeats 2000000 in
theorem rstayok_any (a : Option Addr) (c : Nat) (l : List StM) (now : Int) (oa : Option Addr) (oc : Nat) (op : List OpM) (w : World) (h : StSl w a l) (ho : OpSl w oa op) (hl : l.length ≤ 1000) (hol : op.length ≤ 1000) :
  Calls Tryz.prog 68 #[.slice a l.length c, .int .i64 now, .slice oa op.length oc] w (TellsB w (StaysP now op l)) := by
 have HR := Lib.hid h
 have HO := Lib.hid ho
 have HRS := Lib.hid (fun V (h : StSl V a l) => refRising_any a c l V h (by omega))
 clear h ho
 go_enter Tryz.func68, Tryz.ntmps68
 go_wp2
 go_loopw [7, 8, 9] (fun iv pv qv wr => ∃ (j : Nat), j ≤ l.length ∧ iv = .int .i64 j ∧ Hid (∀ i (h : i < l.length), i < j → OkSt now op l[i]) ∧ Hid (Below w.heap.size w wr)) (fun iv _ _ _ => l.length - (intOf iv).toNat)
 case atStart => exact ⟨0, by omega, rfl, (fun i h hi => by omega), Below.refl _ _⟩
 case round =>
  obtain ⟨j, hj, rfl, HLW, HB⟩ := hrel
  by_cases hjl : j < l.length
  ·obtain ⟨b, off, rfl, hbl, r0, r1, r2, r3⟩ := (HR.out.below HB.out) j hjl
   have hb := below_one wr (.cells #[.int .i64 (l[j]).f, .int .i64 (l[j]).t, .int .i64 (l[j]).n, .int .i64 (l[j]).s] 104)
   have ST := heap_alloc_new wr (.cells #[.int .i64 (l[j]).f, .int .i64 (l[j]).t, .int .i64 (l[j]).n, .int .i64 (l[j]).s] 104)
   have hsz := size1 wr (.cells #[.int .i64 (l[j]).f, .int .i64 (l[j]).t, .int .i64 (l[j]).n, .int .i64 (l[j]).s] 104)
   have HX := Lib.hid (fun (h : ¬ OkSt now op l[j]) (h' : StaysP now op l) => h (h'.1 _ (List.getElem_mem hjl)))
   have HBT := Lib.hid (HB.out.trans (hb.mono HB.out.size))
   have HN := Lib.hid (fun (h : OkSt now op l[j]) => (show ∀ i (h : i < l.length), i < j + 1 → OkSt now op l[i] from fun i hi hij => by
    by_cases e : i = j
    ·subst e; exact h
    ·exact HLW.out i hi (by omega)))
   clear HLW HB
   generalize l[j] = s at *
   go_wp2
   obtain ⟨T, hT⟩ : ∃ T, T = wr.alloc (.cells #[.int .i64 s.f, .int .i64 s.t, .int .i64 s.n, .int .i64 s.s] 104) := ⟨_, rfl⟩
   rw [← hT] at ST hsz HBT ⊢
   have HST := Lib.hid ST
   have hlt : wr.heap.size < T.heap.size := by omega
   clear hb ST r0 r1 r2 r3 hT hbl
   go_loopw [9] (fun qv wq => ∃ (i : Nat), i ≤ op.length ∧ qv = .int .i64 i ∧ Hid (∀ m (h : m < op.length), m < i → op[m].n = s.n → s.t ≤ op[m].f) ∧ Hid (Below T.heap.size T wq)) (fun qv _ => op.length - (intOf qv).toNat)
   case atStart => exact ⟨0, by omega, rfl, (fun i h hi => by omega), Below.refl _ _⟩
   case round =>
    obtain ⟨i, hi, rfl, HLQ, HQ⟩ := hrel
    obtain ⟨s0, s1, s2, s3⟩ := cells4 ((HQ.out.block _ hlt).trans HST.out)
    by_cases hil : i < op.length
    ·obtain ⟨b2, off2, rfl, hbl2, o0, o1, o2, o3⟩ := ((HO.out.below HBT.out).below HQ.out) i hil
     have HQN := Lib.hid (fun (h : op[i].n = s.n → s.t ≤ op[i].f) => (show ∀ m (h : m < op.length), m < i + 1 → op[m].n = s.n → s.t ≤ op[m].f from fun m hm hmi => by
      by_cases e : m = i
      ·subst e; exact h
      ·exact HLQ.out m hm (by omega)))
     have HXX := Lib.hid (fun (h1 : op[i].n = s.n) (h2 : op[i].f < s.t) => HX.out (fun h => by have := h.2.2.2.2.2.2 _ (List.getElem_mem hil) h1; omega))
     clear HLQ HRS HN HX
     by_cases hn : op[i].n = s.n
     ·by_cases hf : op[i].f < s.t
      ·have HP := Lib.hid (HXX.out hn hf)
       have hd : decide (op[i].f < s.t) = true := decide_eq_true hf
       have HF0 := Lib.hid (HBT.out.trans (HQ.out.mono HBT.out.size))
       rw [hn] at o0
       clear HQN HXX hf HQ HST
       generalize op[i] = e at *
       clear hn
       go_wp2
       go_quiet (fail)
       go_wp2
       go_ret
       exact ⟨false, rfl, ⟨(fun h => by cases h), fun h => absurd h HP.out⟩, HF0.out.trans ((Drew.below ⟨_, rfl⟩ _).mono HF0.out.size)⟩
      ·have HQ2 := Lib.hid (HQN.out fun _ => by omega)
       have hd : decide (op[i].f < s.t) = false := decide_eq_false hf
       rw [hn] at o0
       clear HQN HXX hf
       generalize op[i] = e at *
       clear hn
       go_wp2
       go_quiet (fail)
       go_wp2
       go_roundw
       case rel => exact ⟨i + 1, by omega, by go_num, HQ2.out, HQ.out.trans ((Drew.below ⟨_, rfl⟩ _).mono HQ.out.size)⟩
       case measure => simp [intOf]; omega
     ·have HQ2 := Lib.hid (HQN.out fun h => absurd h hn)
      clear HQN HXX
      generalize op[i] = e at *
      have hd1 : (e.n == s.n) = false := beq_eq_false_iff_ne.2 hn
      go_wp2
      go_quiet (fail)
      go_wp2
      go_roundw
      case rel => exact ⟨i + 1, by omega, by go_num, HQ2.out, HQ.out.trans ((Drew.below ⟨_, rfl⟩ _).mono HQ.out.size)⟩
      case measure => simp [intOf]; omega
    ·obtain rfl : i = op.length := by omega
     have HAL : Hid (∀ o ∈ op, o.n = s.n → s.t ≤ o.f) := fun o ho => by
      obtain ⟨m, hm, rfl⟩ := List.getElem_of_mem ho
      exact HLQ.out m hm hm
     have HFR := Lib.hid (HBT.out.trans (HQ.out.mono HBT.out.size))
     clear HLQ HQ HBT HST HRS
     by_cases q0 : s.f < 0
     ·have HP := Lib.hid (HX.out (fun h => by have := h.1; omega))
      have d0 : decide (s.f < 0) = true := decide_eq_true q0
      clear HN HX HAL
      go_wp2
      go_ret
      exact ⟨false, rfl, ⟨(fun h => by cases h), fun h => absurd h HP.out⟩, HFR.out⟩
     ·skip
      by_cases q1 : now < s.t
      ·have HP := Lib.hid (HX.out (fun h => by have := h.2.1; omega))
       have d0 : decide (s.f < 0) = false := decide_eq_false q0
       have d1 : decide (now < s.t) = true := decide_eq_true q1
       clear HN HX HAL
       go_wp2
       go_ret
       exact ⟨false, rfl, ⟨(fun h => by cases h), fun h => absurd h HP.out⟩, HFR.out⟩
      ·skip
       by_cases q2 : s.n < 1
       ·have HP := Lib.hid (HX.out (fun h => by have := h.2.2.1; omega))
        have d0 : decide (s.f < 0) = false := decide_eq_false q0
        have d1 : decide (now < s.t) = false := decide_eq_false q1
        have d2 : decide (s.n < 1) = true := decide_eq_true q2
        clear HN HX HAL
        go_wp2
        go_ret
        exact ⟨false, rfl, ⟨(fun h => by cases h), fun h => absurd h HP.out⟩, HFR.out⟩
       ·skip
        by_cases q3 : 999 < s.n
        ·have HP := Lib.hid (HX.out (fun h => by have := h.2.2.2.1; omega))
         have d0 : decide (s.f < 0) = false := decide_eq_false q0
         have d1 : decide (now < s.t) = false := decide_eq_false q1
         have d2 : decide (s.n < 1) = false := decide_eq_false q2
         have d3 : decide (999 < s.n) = true := decide_eq_true q3
         clear HN HX HAL
         go_wp2
         go_ret
         exact ⟨false, rfl, ⟨(fun h => by cases h), fun h => absurd h HP.out⟩, HFR.out⟩
        ·skip
         by_cases q4 : s.s < 1
         ·have HP := Lib.hid (HX.out (fun h => by have := h.2.2.2.2.1; omega))
          have d0 : decide (s.f < 0) = false := decide_eq_false q0
          have d1 : decide (now < s.t) = false := decide_eq_false q1
          have d2 : decide (s.n < 1) = false := decide_eq_false q2
          have d3 : decide (999 < s.n) = false := decide_eq_false q3
          have d4 : decide (s.s < 1) = true := decide_eq_true q4
          clear HN HX HAL
          go_wp2
          go_ret
          exact ⟨false, rfl, ⟨(fun h => by cases h), fun h => absurd h HP.out⟩, HFR.out⟩
         ·skip
          by_cases q5 : 4 < s.s
          ·have HP := Lib.hid (HX.out (fun h => by have := h.2.2.2.2.2.1; omega))
           have d0 : decide (s.f < 0) = false := decide_eq_false q0
           have d1 : decide (now < s.t) = false := decide_eq_false q1
           have d2 : decide (s.n < 1) = false := decide_eq_false q2
           have d3 : decide (999 < s.n) = false := decide_eq_false q3
           have d4 : decide (s.s < 1) = false := decide_eq_false q4
           have d5 : decide (4 < s.s) = true := decide_eq_true q5
           clear HN HX HAL
           go_wp2
           go_ret
           exact ⟨false, rfl, ⟨(fun h => by cases h), fun h => absurd h HP.out⟩, HFR.out⟩
          ·skip
           have d0 : decide (s.f < 0) = false := decide_eq_false q0
           have d1 : decide (now < s.t) = false := decide_eq_false q1
           have d2 : decide (s.n < 1) = false := decide_eq_false q2
           have d3 : decide (999 < s.n) = false := decide_eq_false q3
           have d4 : decide (s.s < 1) = false := decide_eq_false q4
           have d5 : decide (4 < s.s) = false := decide_eq_false q5
           have HN2 := Lib.hid (HN.out ⟨by omega, by omega, by omega, by omega, by omega, by omega, HAL.out⟩)
           clear HN HX HAL
           go_wp2
           go_roundw
           case rel => exact ⟨j + 1, by omega, by go_num, HN2.out, HFR.out⟩
           case measure => simp [intOf]; omega
  ·obtain rfl : j = l.length := by omega
   have HAL : Hid (∀ x ∈ l, OkSt now op x) := fun x hx => by
    obtain ⟨m, hm, rfl⟩ := List.getElem_of_mem hx
    exact HLW.out m hm hm
   have HL := Lib.hid (HR.out.below HB.out)
   by_cases hnil : l = []
   ·have HF : Hid (¬ StaysP now op l) := fun h => h.2.1 hnil
    subst hnil
    clear HAL HL HLW HRS HR HO
    go_wp2
    go_ret
    exact ⟨false, rfl, ⟨(fun h => by cases h), fun h => absurd h HF.out⟩, HB.out⟩
   ·have hlen : 0 < l.length := List.length_pos_iff.2 hnil
    have hd : decide ((0 : Int) < (l.length : Int)) = true := decide_eq_true (by omega)
    have HF : Hid (StaysP now op l ↔ RiseS l) := ⟨fun h => h.2.2, fun h => ⟨HAL.out, hnil, h⟩⟩
    clear HAL HLW HR HO hnil
    go_wp2_with fail
    refine (HRS.out _ HL.out).mono ?_
    rintro e w2 ⟨rfl, h2⟩
    have HB2 := Lib.hid (HB.out.trans (h2.mono HB.out.size))
    clear h2 HB HL HRS
    go_wp2
    go_ret
    exact ⟨_, rfl, by rw [decide_eq_true_iff]; exact HF.out.symm, HB2.out⟩
end Go.Proofs.YtmfpjapiijgdgaaGreat
