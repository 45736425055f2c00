/- Layer 7: the program's Meet and Less of two rows: contracts. -/
import Derived.Test.YtbcabbddgppkaaaW12
namespace Go.Proofs.Ytbcabbddgppkaaa
open Go.RowKit Go.Sort Go.Proofs
set_option linter.unusedVariables false
set_option maxRecDepth 100000

theorem own_spm {w : World} {B e : Nat} {v : Value} {l : List SpM} (h : w.ownsRow B e 2 v l.length (sps l)) : ∃ a c, v = .slice a l.length c ∧ l.length ≤ c ∧ c ≤ maxLen ∧ SpSl w a l ∧ (a = none → c = 0) := by
  obtain ⟨a, c, rfl, hc, hs⟩ := own_sp h
  refine ⟨a, c, rfl, hc, ?_, hs, ?_⟩
  · rcases h.2 with ⟨h0, _⟩ | ⟨g, cap', _, h0, _, _, _, h1, _⟩
    · injection h0 with e1 e2 e3
      rw [e3]; unfold maxLen; omega
    · injection h0 with e1 e2 e3
      rw [e3]; exact h1
  · intro ha
    rcases h.2 with ⟨h0, _⟩ | ⟨g, cap', _, h0, _, _, _, h1, _⟩
    · injection h0 with e1 e2 e3
    · injection h0 with e1 e2 e3
      rw [ha] at e1; cases e1

set_option maxHeartbeats 2000000 in
theorem meet_any (xa : Option Addr) (ca : Nat) (xb : Option Addr) (cb : Nat) (A B : List SpM) (w : World) (ha : SpSl w xa A) (hb : SpSl w xb B) (hca : A.length ≤ ca) (hcb : B.length ≤ cb) (hcm : ca ≤ maxLen ∧ cb ≤ maxLen) (hl : A.length + B.length ≤ 100000) :
    Calls Try.prog 27 #[.slice xa A.length ca, .slice xb B.length cb] w fun e w' => ∃ (v : Value) (r : List SpM), e = .returned v ∧ IsSet (fun x => HasL A x ∧ HasL B x) r ∧ w'.ownsRow w.heap.size 24 2 v r.length (sps r) ∧ r.length ≤ A.length + B.length ∧ Below w.heap.size w w' := by
  have HNA := Lib.hid (norm_any xa ca A w ha (by omega) hca hcm.1)
  have HNB := Lib.hid (fun W (h : Below w.heap.size w W) => norm_any xb cb B W (hb.below h) (by omega) hcb hcm.2)
  have HC := Lib.hid common_any
  clear ha hb
  go_enter Try.func27, Try.ntmps27
  go_wp2_with fail
  refine HNA.out.mono ?_
  rintro e w1 ⟨v1, r1, rfl, hs1, hl1, ho1, hB1⟩
  go_wp2_with fail
  refine (HNB.out _ hB1).mono ?_
  rintro e w2 ⟨v2, r2, rfl, hs2, hl2, ho2, hB2⟩
  have ho1' := own_below ho1 hB2
  obtain ⟨a1, c1, rfl, hc1, hm1, hp1, _⟩ := own_spm ho1'
  obtain ⟨a2, c2, rfl, hc2, hm2, hp2, _⟩ := own_spm ho2
  have HB2 := Lib.hid (hB1.trans (hB2.mono hB1.size))
  have HS1 := Lib.hid hs1
  have HS2 := Lib.hid hs2
  have HCC := Lib.hid (HC.out a1 c1 a2 c2 r1 r2 w2 hp1 hp2 hs1.1.1 hs2.1.1 hc1 hc2 ⟨hm1, hm2⟩ (by omega))
  clear hs1 hs2 ho1 ho2 ho1' hB1 hB2 hp1 hp2 HC HNB HNA
  go_wp2_with fail
  refine HCC.out.mono ?_
  rintro e w3 ⟨v3, r3, rfl, hs3, ho3, hl3, hB3⟩
  have HS3 : Hid (IsSet (fun x => HasL A x ∧ HasL B x) r3) := hs3.congr fun x => and_congr (HS1.out.2 x) (HS2.out.2 x)
  have HO3 := Lib.hid (own_low ho3 HB2.out.size)
  have HB3 := Lib.hid (HB2.out.trans (hB3.mono HB2.out.size))
  clear hs3 ho3 hB3 HCC
  go_wp2
  go_ret
  first | exact ⟨_, r3, rfl, HS3.out, HO3.out, by omega, HB3.out⟩ | exact ⟨_, rfl, r3, HS3.out, HO3.out, by omega, HB3.out⟩
end Go.Proofs.Ytbcabbddgppkaaa
