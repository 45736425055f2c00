/- Texts of mine, one behind the other, of each what is wanted. -/
import Derived.Test.YtjhdhfokhkcamaaGreatS00
import Derived.Test.YtjhdhfokhkcamaaGreatShelf
import Derived.Test.YtjhdhfokhkcamaaGreatRows
import Derived.Test.YtjhdhfokhkcamaaGreatS01
import Derived.Test.YtjhdhfokhkcamaaGreatS02
import Derived.Test.YtjhdhfokhkcamaaGreatS07
import Derived.Test.YtjhdhfokhkcamaaGreatS09
import Derived.Test.YtjhdhfokhkcamaaGreatS10
import Derived.Test.YtjhdhfokhkcamaaGreatS14
import Derived.Test.YtjhdhfokhkcamaaGreatS17
import Derived.Test.YtjhdhfokhkcamaaGreatS24
import Derived.Test.YtjhdhfokhkcamaaGreatS26
import Derived.Test.YtjhdhfokhkcamaaGreatS29
import Derived.Test.YtjhdhfokhkcamaaGreatS45
namespace Go.Proofs.YtjhdhfokhkcamaaGreat
open Go.RowKit Go.Proofs
set_option linter.unusedVariables false
set_option maxRecDepth 100000
def nowB (s : SaM) : Bool := wiB (v4 s.now s.hor 0 0) (v4 0 0 0 0) (v4 1099511627775 1099511627775 0 0)
def rightB (s : SaM) : Bool := nowB s && (decide (RiseO s.op) && (s.op.all (fromB s) && (decide (riseNB UsM.u s.us) && (s.us.all (fun x => staysB s x.l) && (decide (RiseE s.su) && (s.su.all (timesB s) && (decide (riseNB TbM.u s.tb) && s.tb.all (tombB s))))))))
theorem wiB_iff {n l m : Nat → Int} (h : ∀ i, i < 4 → l i ≤ m i) : wiB n l m = true ↔ ∀ i, i < 4 → l i ≤ n i ∧ n i ≤ m i := by
 unfold wiB
 simp only [Bool.and_eq_true, beq_iff_eq]
 have key : ∀ i, i < 4 → (clampN n l m i = n i ↔ l i ≤ n i ∧ n i ≤ m i) := fun i hi => by
  have := h i hi
  unfold clampN
  omega
 rw [key 0 (by decide), key 1 (by decide), key 2 (by decide), key 3 (by decide)]
 constructor
 ·rintro ⟨h0, h1, h2, h3⟩ i hi
  have : i = 0 ∨ i = 1 ∨ i = 2 ∨ i = 3 := by omega
  rcases this with rfl | rfl | rfl | rfl
  ·exact h0
  ·exact h1
  ·exact h2
  ·exact h3
 ·intro h
  exact ⟨h 0 (by decide), h 1 (by decide), h 2 (by decide), h 3 (by decide)⟩
theorem latS_le {op : List OpM} {now : Int} {n t : Int} (hp : op.Pairwise fun a b => a.n < b.n) (hf : ∀ e ∈ op, e.f ≤ now) : t ≤ latS op now n ↔ (t ≤ now ∧ ∀ o ∈ op, o.n = n → t ≤ o.f) ∨ (t ≤ latS op now n ∧ False) := by
 have hle : op.findIdx (hasN n) ≤ op.length := List.findIdx_le_length
 by_cases hk : op.findIdx (hasN n) < op.length
 ·have e : latS op now n = op[op.findIdx (hasN n)].f := by unfold latS; rw [dif_pos hk]
  have hn : op[op.findIdx (hasN n)].n = n := by
   have := List.findIdx_getElem (p := hasN n) (xs := op) (w := hk)
   exact of_decide_eq_true this
  rw [e]
  constructor
  ·intro h
   refine .inl ⟨Int.le_trans h (hf _ (List.getElem_mem hk)), fun o ho hon => ?_⟩
   obtain ⟨i, hi, rfl⟩ := List.getElem_of_mem ho
   rw [List.pairwise_iff_getElem] at hp
   rcases Nat.lt_trichotomy i (op.findIdx (hasN n)) with h1 | h1 | h1
   ·have := hp i _ hi hk h1; omega
   ·subst h1; exact h
   ·have := hp _ i hk hi h1; omega
  ·rintro (⟨_, h⟩ | ⟨_, h⟩)
   ·exact h _ (List.getElem_mem hk) hn
   ·exact h.elim
 ·have e : latS op now n = now := by unfold latS; rw [dif_neg hk]
  rw [e]
  constructor
  ·intro h
   refine .inl ⟨h, fun o ho hon => ?_⟩
   have h1 := List.findIdx_eq_length.1 (show op.findIdx (hasN n) = op.length by omega) o ho
   rw [show hasN n o = true from decide_eq_true hon] at h1
   cases h1
  ·rintro (⟨h, _⟩ | ⟨_, h⟩)
   ·exact h
   ·exact h.elim
theorem latS_nonneg {op : List OpM} {now n : Int} (hn : 0 ≤ now) (hf : ∀ e ∈ op, 0 ≤ e.f) : 0 ≤ latS op now n := by
 unfold latS
 split
 ·exact hf _ (List.getElem_mem _)
 ·exact hn
theorem rightB_iff (s : SaM) : rightB s = true ↔ RightS s := by
 unfold rightB
 simp only [Bool.and_eq_true, decide_eq_true_eq, List.all_eq_true]
 have hnow : nowB s = true ↔ (0 ≤ s.now ∧ s.now ≤ 1099511627775) ∧ (0 ≤ s.hor ∧ s.hor ≤ 1099511627775) := by
  unfold nowB
  rw [wiB_iff (by intro i hi; have : i = 0 ∨ i = 1 ∨ i = 2 ∨ i = 3 := by omega
                  rcases this with rfl | rfl | rfl | rfl <;> decide)]
  constructor
  ·intro h; exact ⟨h 0 (by decide), h 1 (by decide)⟩
  ·rintro ⟨h0, h1⟩ i hi
   have : i = 0 ∨ i = 1 ∨ i = 2 ∨ i = 3 := by omega
   rcases this with rfl | rfl | rfl | rfl
   ·exact h0
   ·exact h1
   ·exact ⟨Int.le_refl _, Int.le_refl _⟩
   ·exact ⟨Int.le_refl _, Int.le_refl _⟩
 have hst : 0 ≤ s.now → RiseO s.op → (∀ e ∈ s.op, e.f ≤ s.now) → ∀ l : List StM, (staysB s l = true ↔ l ≠ [] ∧ RiseS l ∧ ∀ x ∈ l, OkSt s.now s.op x) := fun h0 hO hF l => by
  obtain ⟨_, h2, h3⟩ := riseO_iff.1 hO
  have hpos : ∀ e ∈ s.op, 0 ≤ e.f := fun e he => (h2 e he).2.2.2.2.2.1
  have key : ∀ x, (stayB s x = true ∧ x.f < x.t ↔ OkSt s.now s.op x ∧ x.f < x.t) := fun x => by
   have hlat := latS_nonneg (op := s.op) (n := x.n) h0 hpos
   have hle := latS_le (n := x.n) (t := x.t) h3 hF
   unfold stayB
   rw [wiB_iff (by intro i hi; have : i = 0 ∨ i = 1 ∨ i = 2 ∨ i = 3 := by omega
                   rcases this with rfl | rfl | rfl | rfl
                   ·exact h0
                   ·exact hlat
                   ·exact (show (1 : Int) ≤ 999 by decide)
                   ·exact (show (1 : Int) ≤ 4 by decide))]
   unfold OkSt
   constructor
   ·rintro ⟨h, hlt⟩
    have g0 := h 0 (by decide)
    have g1 := h 1 (by decide)
    have g2 := h 2 (by decide)
    have g3 := h 3 (by decide)
    simp only [v4] at g0 g1 g2 g3
    simp at g0 g1 g2 g3
    rcases hle.1 g1.2 with ⟨k1, k2⟩ | ⟨_, k⟩
    ·exact ⟨⟨g0.1, k1, g2.1, g2.2, g3.1, g3.2, k2⟩, hlt⟩
    ·exact k.elim
   ·rintro ⟨⟨k0, k1, k2, k3, k4, k5, k6⟩, hlt⟩
    refine ⟨fun i hi => ?_, hlt⟩
    have : i = 0 ∨ i = 1 ∨ i = 2 ∨ i = 3 := by omega
    rcases this with rfl | rfl | rfl | rfl
    ·exact ⟨k0, show x.f ≤ s.now by omega⟩
    ·exact ⟨show 0 ≤ x.t by omega, hle.2 (.inl ⟨k1, k6⟩)⟩
    ·exact ⟨k2, k3⟩
    ·exact ⟨k4, k5⟩
  unfold staysB
  simp only [Bool.and_eq_true, decide_eq_true_eq, List.all_eq_true]
  constructor
  ·rintro ⟨h5, h6, h7⟩
   refine ⟨fun e => by rw [e] at h5; simp at h5, h6, fun x hx => ?_⟩
   exact ((key x).1 ⟨h7 x hx, (rise_iff.1 h6).1 x hx⟩).1
  ·rintro ⟨h5, h6, h7⟩
   refine ⟨List.length_pos_iff.2 h5, h6, fun x hx => ((key x).2 ⟨h7 x hx, (rise_iff.1 h6).1 x hx⟩).1⟩
 constructor
 ·rintro ⟨h1, h2, h3, h4, h5, h6, h7, h8, h9⟩
  obtain ⟨n1, n2⟩ := hnow.1 h1
  have hF : ∀ e ∈ s.op, e.f ≤ s.now := fun e he => of_decide_eq_true (h3 e he)
  obtain ⟨u1, u2⟩ := riseN_iff.1 h4
  obtain ⟨t1, t2⟩ := riseN_iff.1 h8
  refine ⟨⟨n1.1, by omega⟩, ⟨n2.1, by omega⟩, h2, hF, fun x hx => ?_, u2, ⟨h6, fun e he => ?_⟩, fun x hx => ?_, t2⟩
  ·obtain ⟨k1, k2, k3⟩ := (hst n1.1 h2 hF x.l).1 (h5 x hx)
   exact ⟨u1 x hx, k1, k2, k3⟩
  ·have := h7 e he
   unfold timesB at this
   simp only [Bool.and_eq_true, Bool.or_eq_true, decide_eq_true_eq, beq_iff_eq] at this
   exact ⟨this.1, this.2.1, this.2.2.symm⟩
  ·have := h9 x hx
   unfold tombB at this
   simp only [Bool.and_eq_true, decide_eq_true_eq] at this
   exact ⟨t1 x hx, this.1, this.2⟩
 ·intro h
  refine ⟨hnow.2 ⟨⟨h.now.1, by have := h.now.2; omega⟩, ⟨h.hor.1, by have := h.hor.2; omega⟩⟩, h.op, fun e he => decide_eq_true (h.frm e he), riseN_iff.2 ⟨fun x hx => (h.us x hx).1, h.ur⟩, fun x hx => ?_, h.su.rise, fun e he => ?_, riseN_iff.2 ⟨fun x hx => (h.tb x hx).1, h.tr⟩, fun x hx => ?_⟩
  ·obtain ⟨k1, k2, k3, k4⟩ := h.us x hx
   exact (hst h.now.1 h.op h.frm x.l).2 ⟨k2, k3, k4⟩
  ·obtain ⟨k1, k2, k3⟩ := h.su.bnd e he
   unfold timesB
   simp only [Bool.and_eq_true, Bool.or_eq_true, decide_eq_true_eq, beq_iff_eq]
   exact ⟨k1, k2, k3.symm⟩
  ·obtain ⟨k1, k2, k3⟩ := h.tb x hx
   unfold tombB
   simp only [Bool.and_eq_true, decide_eq_true_eq]
   exact ⟨k2, k3⟩
set_option maxHeartbeats 8000000 in
theorem right_any11 (x : SaL) (w : World) (h : SaAt w x) (hz : SzS x.m) (ho : x.op.length ≤ 1000) (hu : x.us.length ≤ 1000) (hs : x.su.length ≤ 1000) (ht : x.tb.length ≤ 1000) (hst : ∀ y ∈ x.us, y.l.length ≤ 1000) :
  Calls Tryz.prog 20 #[saV x] w fun e w' => e = .returned (.bool (rightB x.m)) ∧ Below w.heap.size w w' := by
 have S := Lib.hid (SB.new (Below.refl w.heap.size w) h 38)
 obtain ⟨c0, c1, c2, c3, c4, c5⟩ := S.out.cells
 have HW := Lib.hid (fun V => within4_any (v4 x.now x.hor 0 0) (v4 0 0 0 0) (v4 1099511627775 1099511627775 0 0) V)
 rw [arr_v4, arr_v4, arr_v4] at HW
 have HO := Lib.hid (fun V h => o_rising x.oa x.oc x.op V h hz.op ho)
 have HA1 := Lib.hid (fun V (h : SB w w.heap.size 38 x V) => all_op x.oa x.oc x.op 61 w.heap.size (fromB x.m) (fun V => SB w w.heap.size 38 x V) V h.at_.op h (by omega) (call_known Tryz.func61 rfl) (fun W W' h q => h.below q) (fun y hy V h => c_right1 y x w w.heap.size V h))
 have HU := Lib.hid (fun V h => rising_us x.ua x.uc x.us V h (fun y hy => hz.us _ (List.mem_map_of_mem hy)) (by omega))
 have HA2 := Lib.hid (fun V (h : SB w w.heap.size 38 x V) => all_us x.ua x.uc x.us 65 w.heap.size (fun y => staysB x.m y.l) (fun V => SB w w.heap.size 38 x V) V h.at_.us h (by omega) (call_known Tryz.func65 rfl) (fun W W' h q => h.below q) (fun y hy V ha h => c_right2 y x w w.heap.size V h ha (by omega) (by have := hst y hy; omega)))
 have HS := Lib.hid (fun V h => e_rising x.sa x.sc x.su V h hz.su hs)
 have HA3 := Lib.hid (fun V (h : SB w w.heap.size 38 x V) => all_en x.sa x.sc x.su 69 w.heap.size (timesB x.m) (fun V => SB w w.heap.size 38 x V) V h.at_.su h (by omega) (call_known Tryz.func69 rfl) (fun W W' h q => h.below q) (fun y hy V h => c_right3 y x w w.heap.size V h))
 have HT := Lib.hid (fun V h => rising_tb x.ta x.tc x.tb V h (fun y hy => hz.tb _ hy) (by omega))
 have HA4 := Lib.hid (fun V (h : SB w w.heap.size 38 x V) => all_tb x.ta x.tc x.tb 74 w.heap.size (tombB x.m) (fun V => SB w w.heap.size 38 x V) V h.at_.tb h (by omega) (call_known Tryz.func74 rfl) (fun W W' h q => h.below q) (fun y hy V h => c_right4 y x w w.heap.size V h))
 have hE : (wiB (v4 x.now x.hor 0 0) (v4 0 0 0 0) (v4 1099511627775 1099511627775 0 0) && (decide (RiseO x.op) && (x.op.all (fromB x.m) && (decide (riseNB UsL.u x.us) && (x.us.all (fun y => staysB x.m y.l) && (decide (RiseE x.su) && (x.su.all (timesB x.m) && (decide (riseNB TbM.u x.tb) && x.tb.all (tombB x.m))))))))) = rightB x.m := by
  have e1 : decide (riseNB UsL.u x.us) = decide (riseNB UsM.u (umS x.us)) := by
   have : riseNB UsL.u x.us ↔ riseNB UsM.u (umS x.us) := by
    rw [riseN_iff, riseN_iff]
    unfold umS RiseK
    rw [List.pairwise_map]
    constructor
    ·rintro ⟨k1, k2⟩
     exact ⟨fun y hy => by obtain ⟨z, hz, rfl⟩ := List.mem_map.1 hy; exact k1 z hz, k2⟩
    ·rintro ⟨k1, k2⟩
     exact ⟨fun y hy => k1 _ (List.mem_map_of_mem hy), k2⟩
   by_cases hq : riseNB UsL.u x.us
   ·rw [decide_eq_true hq, decide_eq_true (this.1 hq)]
   ·rw [decide_eq_false hq, decide_eq_false (fun h => hq (this.2 h))]
  have e2 : x.us.all (fun y => staysB x.m y.l) = (umS x.us).all (fun y => staysB x.m y.l) := by
   unfold umS
   rw [List.all_map]
   rfl
  rw [e1, e2]
  rfl
 have HE := Lib.hid hE
 unfold saV saC at *
 clear h hz ho hu hs ht hst hE
 generalize wiB (v4 x.now x.hor 0 0) (v4 0 0 0 0) (v4 1099511627775 1099511627775 0 0) = b1 at *
 generalize decide (RiseO x.op) = b2 at *
 generalize x.op.all (fromB x.m) = b3 at *
 generalize decide (riseNB UsL.u x.us) = b4 at *
 generalize x.us.all (fun y => staysB x.m y.l) = b5 at *
 generalize decide (RiseE x.su) = b6 at *
 generalize x.su.all (timesB x.m) = b7 at *
 generalize decide (riseNB TbM.u x.tb) = b8 at *
 generalize x.tb.all (tombB x.m) = b9 at *
 generalize rightB x.m = R at *
 cases b1 with
 | false =>
  replace HE : Hid (false = R) := HE.out
  go_enter Tryz.func20, Tryz.ntmps20
  go_wp2_with fail
  refine (HW.out _).mono ?_
  rintro e w1 ⟨rfl, h1⟩
  replace S := Lib.hid (S.out.below h1)
  clear h1 c0 c1 c2 c3 c4 c5
  obtain ⟨c0, c1, c2, c3, c4, c5⟩ := S.out.cells
  go_wp2
  go_ret
  exact ⟨retB HE.out, S.out.frame⟩
 | true =>
  rw [Bool.true_and] at HE
  cases b2 with
  | false =>
   replace HE : Hid (false = R) := HE.out
   go_enter Tryz.func20, Tryz.ntmps20
   go_wp2_with fail
   refine (HW.out _).mono ?_
   rintro e w1 ⟨rfl, h1⟩
   replace S := Lib.hid (S.out.below h1)
   clear h1 c0 c1 c2 c3 c4 c5
   obtain ⟨c0, c1, c2, c3, c4, c5⟩ := S.out.cells
   go_wp2_with fail
   refine (HO.out _ S.out.at_.op).mono ?_
   rintro e w2 ⟨rfl, h1⟩
   replace S := Lib.hid (S.out.below h1)
   clear h1 c0 c1 c2 c3 c4 c5
   obtain ⟨c0, c1, c2, c3, c4, c5⟩ := S.out.cells
   go_wp2
   go_ret
   exact ⟨retB HE.out, S.out.frame⟩
  | true =>
   rw [Bool.true_and] at HE
   cases b3 with
   | false =>
    replace HE : Hid (false = R) := HE.out
    go_enter Tryz.func20, Tryz.ntmps20
    go_wp2_with fail
    refine (HW.out _).mono ?_
    rintro e w1 ⟨rfl, h1⟩
    replace S := Lib.hid (S.out.below h1)
    clear h1 c0 c1 c2 c3 c4 c5
    obtain ⟨c0, c1, c2, c3, c4, c5⟩ := S.out.cells
    go_wp2_with fail
    refine (HO.out _ S.out.at_.op).mono ?_
    rintro e w2 ⟨rfl, h1⟩
    replace S := Lib.hid (S.out.below h1)
    clear h1 c0 c1 c2 c3 c4 c5
    obtain ⟨c0, c1, c2, c3, c4, c5⟩ := S.out.cells
    go_wp2_with fail
    refine (HA1.out _ S.out).mono ?_
    rintro e w3 ⟨rfl, h1⟩
    replace S := Lib.hid (S.out.below h1)
    clear h1 c0 c1 c2 c3 c4 c5
    obtain ⟨c0, c1, c2, c3, c4, c5⟩ := S.out.cells
    go_wp2
    go_ret
    exact ⟨retB HE.out, S.out.frame⟩
   | true =>
    rw [Bool.true_and] at HE
    cases b4 with
    | false =>
     replace HE : Hid (false = R) := HE.out
     go_enter Tryz.func20, Tryz.ntmps20
     go_wp2_with fail
     refine (HW.out _).mono ?_
     rintro e w1 ⟨rfl, h1⟩
     replace S := Lib.hid (S.out.below h1)
     clear h1 c0 c1 c2 c3 c4 c5
     obtain ⟨c0, c1, c2, c3, c4, c5⟩ := S.out.cells
     go_wp2_with fail
     refine (HO.out _ S.out.at_.op).mono ?_
     rintro e w2 ⟨rfl, h1⟩
     replace S := Lib.hid (S.out.below h1)
     clear h1 c0 c1 c2 c3 c4 c5
     obtain ⟨c0, c1, c2, c3, c4, c5⟩ := S.out.cells
     go_wp2_with fail
     refine (HA1.out _ S.out).mono ?_
     rintro e w3 ⟨rfl, h1⟩
     replace S := Lib.hid (S.out.below h1)
     clear h1 c0 c1 c2 c3 c4 c5
     obtain ⟨c0, c1, c2, c3, c4, c5⟩ := S.out.cells
     go_wp2_with fail
     refine (HU.out _ S.out.at_.us).mono ?_
     rintro e w4 ⟨rfl, h1⟩
     replace S := Lib.hid (S.out.below h1)
     clear h1 c0 c1 c2 c3 c4 c5
     obtain ⟨c0, c1, c2, c3, c4, c5⟩ := S.out.cells
     go_wp2
     go_ret
     exact ⟨retB HE.out, S.out.frame⟩
    | true =>
     rw [Bool.true_and] at HE
     cases b5 with
     | false =>
      replace HE : Hid (false = R) := HE.out
      go_enter Tryz.func20, Tryz.ntmps20
      go_wp2_with fail
      refine (HW.out _).mono ?_
      rintro e w1 ⟨rfl, h1⟩
      replace S := Lib.hid (S.out.below h1)
      clear h1 c0 c1 c2 c3 c4 c5
      obtain ⟨c0, c1, c2, c3, c4, c5⟩ := S.out.cells
      go_wp2_with fail
      refine (HO.out _ S.out.at_.op).mono ?_
      rintro e w2 ⟨rfl, h1⟩
      replace S := Lib.hid (S.out.below h1)
      clear h1 c0 c1 c2 c3 c4 c5
      obtain ⟨c0, c1, c2, c3, c4, c5⟩ := S.out.cells
      go_wp2_with fail
      refine (HA1.out _ S.out).mono ?_
      rintro e w3 ⟨rfl, h1⟩
      replace S := Lib.hid (S.out.below h1)
      clear h1 c0 c1 c2 c3 c4 c5
      obtain ⟨c0, c1, c2, c3, c4, c5⟩ := S.out.cells
      go_wp2_with fail
      refine (HU.out _ S.out.at_.us).mono ?_
      rintro e w4 ⟨rfl, h1⟩
      replace S := Lib.hid (S.out.below h1)
      clear h1 c0 c1 c2 c3 c4 c5
      obtain ⟨c0, c1, c2, c3, c4, c5⟩ := S.out.cells
      go_wp2_with fail
      refine (HA2.out _ S.out).mono ?_
      rintro e w5 ⟨rfl, h1⟩
      replace S := Lib.hid (S.out.below h1)
      clear h1 c0 c1 c2 c3 c4 c5
      obtain ⟨c0, c1, c2, c3, c4, c5⟩ := S.out.cells
      go_wp2
      go_ret
      exact ⟨retB HE.out, S.out.frame⟩
     | true =>
      rw [Bool.true_and] at HE
      cases b6 with
      | false =>
       replace HE : Hid (false = R) := HE.out
       go_enter Tryz.func20, Tryz.ntmps20
       go_wp2_with fail
       refine (HW.out _).mono ?_
       rintro e w1 ⟨rfl, h1⟩
       replace S := Lib.hid (S.out.below h1)
       clear h1 c0 c1 c2 c3 c4 c5
       obtain ⟨c0, c1, c2, c3, c4, c5⟩ := S.out.cells
       go_wp2_with fail
       refine (HO.out _ S.out.at_.op).mono ?_
       rintro e w2 ⟨rfl, h1⟩
       replace S := Lib.hid (S.out.below h1)
       clear h1 c0 c1 c2 c3 c4 c5
       obtain ⟨c0, c1, c2, c3, c4, c5⟩ := S.out.cells
       go_wp2_with fail
       refine (HA1.out _ S.out).mono ?_
       rintro e w3 ⟨rfl, h1⟩
       replace S := Lib.hid (S.out.below h1)
       clear h1 c0 c1 c2 c3 c4 c5
       obtain ⟨c0, c1, c2, c3, c4, c5⟩ := S.out.cells
       go_wp2_with fail
       refine (HU.out _ S.out.at_.us).mono ?_
       rintro e w4 ⟨rfl, h1⟩
       replace S := Lib.hid (S.out.below h1)
       clear h1 c0 c1 c2 c3 c4 c5
       obtain ⟨c0, c1, c2, c3, c4, c5⟩ := S.out.cells
       go_wp2_with fail
       refine (HA2.out _ S.out).mono ?_
       rintro e w5 ⟨rfl, h1⟩
       replace S := Lib.hid (S.out.below h1)
       clear h1 c0 c1 c2 c3 c4 c5
       obtain ⟨c0, c1, c2, c3, c4, c5⟩ := S.out.cells
       go_wp2_with fail
       refine (HS.out _ S.out.at_.su).mono ?_
       rintro e w6 ⟨rfl, h1⟩
       replace S := Lib.hid (S.out.below h1)
       clear h1 c0 c1 c2 c3 c4 c5
       obtain ⟨c0, c1, c2, c3, c4, c5⟩ := S.out.cells
       go_wp2
       go_ret
       exact ⟨retB HE.out, S.out.frame⟩
      | true =>
       rw [Bool.true_and] at HE
       cases b7 with
       | false =>
        replace HE : Hid (false = R) := HE.out
        go_enter Tryz.func20, Tryz.ntmps20
        go_wp2_with fail
        refine (HW.out _).mono ?_
        rintro e w1 ⟨rfl, h1⟩
        replace S := Lib.hid (S.out.below h1)
        clear h1 c0 c1 c2 c3 c4 c5
        obtain ⟨c0, c1, c2, c3, c4, c5⟩ := S.out.cells
        go_wp2_with fail
        refine (HO.out _ S.out.at_.op).mono ?_
        rintro e w2 ⟨rfl, h1⟩
        replace S := Lib.hid (S.out.below h1)
        clear h1 c0 c1 c2 c3 c4 c5
        obtain ⟨c0, c1, c2, c3, c4, c5⟩ := S.out.cells
        go_wp2_with fail
        refine (HA1.out _ S.out).mono ?_
        rintro e w3 ⟨rfl, h1⟩
        replace S := Lib.hid (S.out.below h1)
        clear h1 c0 c1 c2 c3 c4 c5
        obtain ⟨c0, c1, c2, c3, c4, c5⟩ := S.out.cells
        go_wp2_with fail
        refine (HU.out _ S.out.at_.us).mono ?_
        rintro e w4 ⟨rfl, h1⟩
        replace S := Lib.hid (S.out.below h1)
        clear h1 c0 c1 c2 c3 c4 c5
        obtain ⟨c0, c1, c2, c3, c4, c5⟩ := S.out.cells
        go_wp2_with fail
        refine (HA2.out _ S.out).mono ?_
        rintro e w5 ⟨rfl, h1⟩
        replace S := Lib.hid (S.out.below h1)
        clear h1 c0 c1 c2 c3 c4 c5
        obtain ⟨c0, c1, c2, c3, c4, c5⟩ := S.out.cells
        go_wp2_with fail
        refine (HS.out _ S.out.at_.su).mono ?_
        rintro e w6 ⟨rfl, h1⟩
        replace S := Lib.hid (S.out.below h1)
        clear h1 c0 c1 c2 c3 c4 c5
        obtain ⟨c0, c1, c2, c3, c4, c5⟩ := S.out.cells
        go_wp2_with fail
        refine (HA3.out _ S.out).mono ?_
        rintro e w7 ⟨rfl, h1⟩
        replace S := Lib.hid (S.out.below h1)
        clear h1 c0 c1 c2 c3 c4 c5
        obtain ⟨c0, c1, c2, c3, c4, c5⟩ := S.out.cells
        go_wp2
        go_ret
        exact ⟨retB HE.out, S.out.frame⟩
       | true =>
        rw [Bool.true_and] at HE
        cases b8 with
        | false =>
         replace HE : Hid (false = R) := HE.out
         go_enter Tryz.func20, Tryz.ntmps20
         go_wp2_with fail
         refine (HW.out _).mono ?_
         rintro e w1 ⟨rfl, h1⟩
         replace S := Lib.hid (S.out.below h1)
         clear h1 c0 c1 c2 c3 c4 c5
         obtain ⟨c0, c1, c2, c3, c4, c5⟩ := S.out.cells
         go_wp2_with fail
         refine (HO.out _ S.out.at_.op).mono ?_
         rintro e w2 ⟨rfl, h1⟩
         replace S := Lib.hid (S.out.below h1)
         clear h1 c0 c1 c2 c3 c4 c5
         obtain ⟨c0, c1, c2, c3, c4, c5⟩ := S.out.cells
         go_wp2_with fail
         refine (HA1.out _ S.out).mono ?_
         rintro e w3 ⟨rfl, h1⟩
         replace S := Lib.hid (S.out.below h1)
         clear h1 c0 c1 c2 c3 c4 c5
         obtain ⟨c0, c1, c2, c3, c4, c5⟩ := S.out.cells
         go_wp2_with fail
         refine (HU.out _ S.out.at_.us).mono ?_
         rintro e w4 ⟨rfl, h1⟩
         replace S := Lib.hid (S.out.below h1)
         clear h1 c0 c1 c2 c3 c4 c5
         obtain ⟨c0, c1, c2, c3, c4, c5⟩ := S.out.cells
         go_wp2_with fail
         refine (HA2.out _ S.out).mono ?_
         rintro e w5 ⟨rfl, h1⟩
         replace S := Lib.hid (S.out.below h1)
         clear h1 c0 c1 c2 c3 c4 c5
         obtain ⟨c0, c1, c2, c3, c4, c5⟩ := S.out.cells
         go_wp2_with fail
         refine (HS.out _ S.out.at_.su).mono ?_
         rintro e w6 ⟨rfl, h1⟩
         replace S := Lib.hid (S.out.below h1)
         clear h1 c0 c1 c2 c3 c4 c5
         obtain ⟨c0, c1, c2, c3, c4, c5⟩ := S.out.cells
         go_wp2_with fail
         refine (HA3.out _ S.out).mono ?_
         rintro e w7 ⟨rfl, h1⟩
         replace S := Lib.hid (S.out.below h1)
         clear h1 c0 c1 c2 c3 c4 c5
         obtain ⟨c0, c1, c2, c3, c4, c5⟩ := S.out.cells
         go_wp2_with fail
         refine (HT.out _ S.out.at_.tb).mono ?_
         rintro e w8 ⟨rfl, h1⟩
         replace S := Lib.hid (S.out.below h1)
         clear h1 c0 c1 c2 c3 c4 c5
         obtain ⟨c0, c1, c2, c3, c4, c5⟩ := S.out.cells
         go_wp2
         go_ret
         exact ⟨retB HE.out, S.out.frame⟩
        | true =>
         rw [Bool.true_and] at HE
         cases b9 with
         | false =>
          replace HE : Hid (false = R) := HE.out
          go_enter Tryz.func20, Tryz.ntmps20
          go_wp2_with fail
          refine (HW.out _).mono ?_
          rintro e w1 ⟨rfl, h1⟩
          replace S := Lib.hid (S.out.below h1)
          clear h1 c0 c1 c2 c3 c4 c5
          obtain ⟨c0, c1, c2, c3, c4, c5⟩ := S.out.cells
          go_wp2_with fail
          refine (HO.out _ S.out.at_.op).mono ?_
          rintro e w2 ⟨rfl, h1⟩
          replace S := Lib.hid (S.out.below h1)
          clear h1 c0 c1 c2 c3 c4 c5
          obtain ⟨c0, c1, c2, c3, c4, c5⟩ := S.out.cells
          go_wp2_with fail
          refine (HA1.out _ S.out).mono ?_
          rintro e w3 ⟨rfl, h1⟩
          replace S := Lib.hid (S.out.below h1)
          clear h1 c0 c1 c2 c3 c4 c5
          obtain ⟨c0, c1, c2, c3, c4, c5⟩ := S.out.cells
          go_wp2_with fail
          refine (HU.out _ S.out.at_.us).mono ?_
          rintro e w4 ⟨rfl, h1⟩
          replace S := Lib.hid (S.out.below h1)
          clear h1 c0 c1 c2 c3 c4 c5
          obtain ⟨c0, c1, c2, c3, c4, c5⟩ := S.out.cells
          go_wp2_with fail
          refine (HA2.out _ S.out).mono ?_
          rintro e w5 ⟨rfl, h1⟩
          replace S := Lib.hid (S.out.below h1)
          clear h1 c0 c1 c2 c3 c4 c5
          obtain ⟨c0, c1, c2, c3, c4, c5⟩ := S.out.cells
          go_wp2_with fail
          refine (HS.out _ S.out.at_.su).mono ?_
          rintro e w6 ⟨rfl, h1⟩
          replace S := Lib.hid (S.out.below h1)
          clear h1 c0 c1 c2 c3 c4 c5
          obtain ⟨c0, c1, c2, c3, c4, c5⟩ := S.out.cells
          go_wp2_with fail
          refine (HA3.out _ S.out).mono ?_
          rintro e w7 ⟨rfl, h1⟩
          replace S := Lib.hid (S.out.below h1)
          clear h1 c0 c1 c2 c3 c4 c5
          obtain ⟨c0, c1, c2, c3, c4, c5⟩ := S.out.cells
          go_wp2_with fail
          refine (HT.out _ S.out.at_.tb).mono ?_
          rintro e w8 ⟨rfl, h1⟩
          replace S := Lib.hid (S.out.below h1)
          clear h1 c0 c1 c2 c3 c4 c5
          obtain ⟨c0, c1, c2, c3, c4, c5⟩ := S.out.cells
          go_wp2_with fail
          refine (HA4.out _ S.out).mono ?_
          rintro e w9 ⟨rfl, h1⟩
          replace S := Lib.hid (S.out.below h1)
          clear h1 c0 c1 c2 c3 c4 c5
          obtain ⟨c0, c1, c2, c3, c4, c5⟩ := S.out.cells
          go_wp2
          go_ret
          exact ⟨retB HE.out, S.out.frame⟩
         | true =>
          go_enter Tryz.func20, Tryz.ntmps20
          go_wp2_with fail
          refine (HW.out _).mono ?_
          rintro e w1 ⟨rfl, h1⟩
          replace S := Lib.hid (S.out.below h1)
          clear h1 c0 c1 c2 c3 c4 c5
          obtain ⟨c0, c1, c2, c3, c4, c5⟩ := S.out.cells
          go_wp2_with fail
          refine (HO.out _ S.out.at_.op).mono ?_
          rintro e w2 ⟨rfl, h1⟩
          replace S := Lib.hid (S.out.below h1)
          clear h1 c0 c1 c2 c3 c4 c5
          obtain ⟨c0, c1, c2, c3, c4, c5⟩ := S.out.cells
          go_wp2_with fail
          refine (HA1.out _ S.out).mono ?_
          rintro e w3 ⟨rfl, h1⟩
          replace S := Lib.hid (S.out.below h1)
          clear h1 c0 c1 c2 c3 c4 c5
          obtain ⟨c0, c1, c2, c3, c4, c5⟩ := S.out.cells
          go_wp2_with fail
          refine (HU.out _ S.out.at_.us).mono ?_
          rintro e w4 ⟨rfl, h1⟩
          replace S := Lib.hid (S.out.below h1)
          clear h1 c0 c1 c2 c3 c4 c5
          obtain ⟨c0, c1, c2, c3, c4, c5⟩ := S.out.cells
          go_wp2_with fail
          refine (HA2.out _ S.out).mono ?_
          rintro e w5 ⟨rfl, h1⟩
          replace S := Lib.hid (S.out.below h1)
          clear h1 c0 c1 c2 c3 c4 c5
          obtain ⟨c0, c1, c2, c3, c4, c5⟩ := S.out.cells
          go_wp2_with fail
          refine (HS.out _ S.out.at_.su).mono ?_
          rintro e w6 ⟨rfl, h1⟩
          replace S := Lib.hid (S.out.below h1)
          clear h1 c0 c1 c2 c3 c4 c5
          obtain ⟨c0, c1, c2, c3, c4, c5⟩ := S.out.cells
          go_wp2_with fail
          refine (HA3.out _ S.out).mono ?_
          rintro e w7 ⟨rfl, h1⟩
          replace S := Lib.hid (S.out.below h1)
          clear h1 c0 c1 c2 c3 c4 c5
          obtain ⟨c0, c1, c2, c3, c4, c5⟩ := S.out.cells
          go_wp2_with fail
          refine (HT.out _ S.out.at_.tb).mono ?_
          rintro e w8 ⟨rfl, h1⟩
          replace S := Lib.hid (S.out.below h1)
          clear h1 c0 c1 c2 c3 c4 c5
          obtain ⟨c0, c1, c2, c3, c4, c5⟩ := S.out.cells
          go_wp2_with fail
          refine (HA4.out _ S.out).mono ?_
          rintro e w9 ⟨rfl, h1⟩
          replace S := Lib.hid (S.out.below h1)
          clear h1 c0 c1 c2 c3 c4 c5
          obtain ⟨c0, c1, c2, c3, c4, c5⟩ := S.out.cells
          go_wp2
          go_ret
          exact ⟨retB HE.out, S.out.frame⟩
end Go.Proofs.YtjhdhfokhkcamaaGreat
