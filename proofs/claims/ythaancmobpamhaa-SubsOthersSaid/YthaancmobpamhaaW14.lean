/- Layer 7: the program's Less of two rows: contract; rows of numbers that a machine can hold. -/
import Derived.Test.YthaancmobpamhaaW13
namespace Go.Proofs.Ythaancmobpamhaa
open Go.RowKit Go.Sort Go.Proofs
set_option linter.unusedVariables false
set_option maxRecDepth 100000
set_option maxRecDepth 100000

theorem gapsS_len (M : Int) : ∀ (l : List SpM) (c : Int), (gapsS c M l).length = l.length + 1
  | [], c => rfl
  | s :: l, c => by
    show (gapsS s.t M l).length + 1 = _
    rw [gapsS_len M l s.t]
    simp
theorem FitsS.has {l : List SpM} (h : FitsS l) {x : Int} (hx : HasL l x) : minI ≤ x ∧ x < maxI := by
  obtain ⟨s, hs, h1, h2⟩ := hx
  obtain ⟨⟨a, _⟩, ⟨_, b⟩⟩ := h s hs
  unfold minI maxI
  omega
theorem fits_set {P : Int → Prop} {r : List SpM} (h : IsSet P r) (hP : ∀ x, P x → minI ≤ x ∧ x < maxI) : FitsS r := fun s hs => by
  have h1 := isSet_fits h hP s hs
  have h2 := h.1.2 s hs
  unfold minI maxI at h1
  exact ⟨⟨by omega, by omega⟩, ⟨by omega, by omega⟩⟩
theorem FitsS.append {l m : List SpM} (h : FitsS l) (k : FitsS m) : FitsS (l ++ m) := fun s hs => by
  rcases List.mem_append.1 hs with hs | hs
  · exact h s hs
  · exact k s hs

set_option maxHeartbeats 400000 in
theorem less_any (xa : Option Addr) (ca : Nat) (xb : Option Addr) (cb : Nat) (A B : List SpM) (w : World) (ha : SpSl w xa A) (hb : SpSl w xb B) (hca : A.length ≤ ca) (hcb : B.length ≤ cb) (hcm : ca ≤ maxLen ∧ cb ≤ maxLen) (hl : A.length + B.length ≤ 100000) (hfa : FitsS A) (hfb : FitsS B) :
    Calls Try.prog 33 #[.slice xa A.length ca, .slice xb B.length cb] w fun e w' => ∃ (v : Value) (r : List SpM), e = .returned v ∧ IsSet (fun x => HasL A x ∧ ¬ HasL B x) r ∧ w'.ownsRow w.heap.size 56 2 v r.length (sps r) ∧ r.length ≤ A.length + B.length + 1 ∧ Below w.heap.size w w' := by
  have HNA := Lib.hid (norm_any xa ca A w ha (by omega) hca hcm.1)
  have HNB := Lib.hid (fun W (h : Below w.heap.size w W) => norm_any xb cb B W (hb.below h) (by omega) hcb hcm.2)
  have HC := Lib.hid common_any
  have HG := Lib.hid gaps_any
  clear ha hb
  go_enter Try.func33, Try.ntmps33
  go_wp2_with fail
  refine HNA.out.mono ?_
  rintro e w1 ⟨v1, r1, rfl, hs1, hl1, ho1, hB1⟩
  go_wp2_with fail
  refine (HNB.out _ hB1).mono ?_
  rintro e w2 ⟨v2, r2, rfl, hs2, hl2, ho2, hB2⟩
  have ho1' := own_below ho1 hB2
  obtain ⟨a2, c2, rfl, hc2, hm2, hp2, _⟩ := own_spm ho2
  have HB2 := Lib.hid (hB1.trans (hB2.mono hB1.size))
  have HGG := Lib.hid (HG.out a2 c2 r2 w2 hp2 (by omega))
  have HO1 := Lib.hid ho1'
  have HS1 := Lib.hid hs1
  have HS2 := Lib.hid hs2
  clear hs1 hs2 ho1 ho2 ho1' hB1 hB2 hp2 HNB HNA HG
  go_wp2_with fail
  refine HGG.out.mono ?_
  rintro e w3 ⟨v3, rfl, ho3, hB3⟩
  have hfit : ∀ s ∈ r2, minI ≤ s.f ∧ s.t ≤ maxI := isSet_fits HS2.out fun x hx => hfb.has hx
  have hrow : RowL (gapsS minI maxI r2) := gapsS_row maxI r2 minI HS2.out.1 hfit (by decide)
  have hhas := gapsS_has maxI r2 minI HS2.out.1 hfit
  have hglen := gapsS_len maxI r2 minI
  generalize gapsS minI maxI r2 = gs at *
  obtain ⟨a3, c3, rfl, hc3, hm3, hp3, _⟩ := own_spm ho3
  obtain ⟨a1, c1, rfl, hc1, hm1, hp1, _⟩ := own_spm (own_below HO1.out hB3)
  have HB3 := Lib.hid (HB2.out.trans (hB3.mono HB2.out.size))
  have HCC := Lib.hid (HC.out a1 c1 a3 c3 r1 gs w3 hp1 hp3 HS1.out.1.1 hrow hc1 hc3 ⟨hm1, hm3⟩ (by omega))
  have HH := Lib.hid hhas
  have hgl : gs.length ≤ r2.length + 1 := by omega
  clear hfit hrow hhas ho3 hB3 hp1 hp3 HC HGG HO1 hglen
  go_wp2_with fail
  refine HCC.out.mono ?_
  rintro e w4 ⟨v4, r4, rfl, hs4, ho4, hl4, hB4⟩
  have HS4 : Hid (IsSet (fun x => HasL A x ∧ ¬ HasL B x) r4) := hs4.congr fun x => by
    constructor
    · rintro ⟨h1, h2⟩
      have hA := (HS1.out.2 x).1 h1
      obtain ⟨b1, b2⟩ := hfa.has hA
      exact ⟨hA, fun hB => (HH.out x b1 b2).1 h2 ((HS2.out.2 x).2 hB)⟩
    · rintro ⟨hA, hB⟩
      obtain ⟨b1, b2⟩ := hfa.has hA
      exact ⟨(HS1.out.2 x).2 hA, (HH.out x b1 b2).2 fun h => hB ((HS2.out.2 x).1 h)⟩
  have HO4 := Lib.hid (own_low ho4 HB3.out.size)
  have HB4 := Lib.hid (HB3.out.trans (hB4.mono HB3.out.size))
  clear hs4 ho4 hB4 HCC
  go_wp2
  go_ret
  first | exact ⟨_, r4, rfl, HS4.out, HO4.out, by omega, HB4.out⟩ | exact ⟨_, rfl, r4, HS4.out, HO4.out, by omega, HB4.out⟩
end Go.Proofs.Ythaancmobpamhaa
