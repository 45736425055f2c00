/- Texts of mine, one behind the other, of each what is wanted: DE3. -/
import Derived.Test.YtjhdhfokhkcamaaGreatProg
import Derived.WalkKit
import Derived.WalkLawsBesides
import Derived.Lib.Hide
import Derived.Lib.Bytealg
import Derived.Deep.QuietTactic
import Derived.BigQuiet
import Derived.Deep.Draws
import Derived.Below
import Derived.WalkSmall
import Derived.OwnWalk
import Derived.Maps.AppendAt
import Derived.Laws.AppendOwnNone
import Derived.BigRegion
import Derived.Deep.MidRow
import Derived.Deep.RegionHeld3
import Derived.Shelf.SlSortCmp.QuietGrown
import Derived.Shelf.SlSorted.Search
import Derived.Laws.ResultCell
import Derived.WalkMore
import Derived.Shelf.Spec.SlicesGrow
import Derived.Test.YtjhdhfokhkcamaaGreatShelf
import Derived.Shelf.SlicesG.Cmp
import Derived.Lib.SliceRun
import Derived.Deep.WholeRow
import Derived.Shelf.SlSortCmp.WholeK
import Derived.Shelf.SlSortCmp.NoneTotal
import Derived.Lib.SlicesCompact
import Derived.Shelf.Slices.Clone
import Derived.Shelf.Slices.CompactS
import Derived.Sort.OwnSorted
import Derived.Sort.Grow
import Derived.Lib.OwnBridge
import Derived.Deep.AppendLies
import Derived.ArgAppend
import Derived.Test.YtjhdhfokhkcamaaGreatRows
import Derived.ProofKit
import Derived.OpenShut
import Derived.ShutString
import Derived.SliceStrings
import Derived.Carry
import Derived.Deep.SlicePairs
import Derived.Lib.SmallJoins
import Derived.Deep.DeepCutAuto
import Derived.Test.YtjhdhfokhkcamaaGreatP01
import Derived.Test.YtjhdhfokhkcamaaGreatP02
import Derived.Test.YtjhdhfokhkcamaaGreatP09
import Derived.Test.YtjhdhfokhkcamaaGreatP10
import Derived.Test.YtjhdhfokhkcamaaGreatP12
import Derived.Test.YtjhdhfokhkcamaaGreatP31
import Derived.Test.YtjhdhfokhkcamaaGreatP32
import Derived.Test.YtjhdhfokhkcamaaGreatP35
namespace Go.Proofs.YtjhdhfokhkcamaaGreat
open Go.RowKit Go.Proofs
set_option linter.unusedVariables false
set_option maxRecDepth 100000
theorem two_states {w : World} {x y : SaL} (h : SaAt w x) (k : SaAt w y) (t t' : TypeId) : SB w w.heap.size t x ((w.alloc (.cells (saC x) t)).alloc (.cells (saC y) t')) ∧ SB w (w.heap.size + 1) t' y ((w.alloc (.cells (saC x) t)).alloc (.cells (saC y) t')) := by
  have S0 := SB.new (Below.refl w.heap.size w) h t
  have Z0 := SB.new (S0.frame) (k.below (below_one w (.cells (saC x) t))) t'
  rw [size1] at Z0
  exact ⟨S0.alloc _, Z0⟩
set_option maxHeartbeats 8000000 in
theorem same_any11 (x y : SaL) (w : World) (h : SaAt w x) (k : SaAt w y) (hf : Few x.m 900) (kf : Few y.m 900) :
    Calls Tryz.prog 26 #[saV x, saV y] w fun e w' => e = .returned (.bool (sameS x.m y.m)) ∧ Below w.heap.size w w' := by
  obtain ⟨HK, HZ⟩ := two_states h k 38 38
  have HS := Lib.hid HK
  have HT := Lib.hid HZ
  have hux : x.us.length ≤ 900 := by have := hf.us; unfold SaL.m at this; simp only at this; rwa [umS_len] at this
  have huy : y.us.length ≤ 900 := by have := kf.us; unfold SaL.m at this; simp only at this; rwa [umS_len] at this
  have hop := hf.op
  have kop := kf.op
  have hsu := hf.su
  have ksu := kf.su
  have htb := hf.tb
  have ktb := kf.tb
  have H1 := Lib.hid (fun V (p : OpSl V x.oa x.op) (q : OpSl V y.oa y.op) => osame_any x.oa y.oa x.oc y.oc x.op y.op V p q (Nat.le_trans hop (by unfold maxLen; decide)) (Nat.le_trans kop (by unfold maxLen; decide)))
  have H2 := Lib.hid (fun V (p : UsSl V x.ua x.us) (q : UsSl V y.ua y.us) => ueq_any x.ua y.ua x.uc y.uc x.us y.us V p q (by omega) (by omega) (fun z hz => Nat.le_trans (umS_st hf.st z hz) (by decide)) (fun z hz => Nat.le_trans (umS_st kf.st z hz) (by decide)))
  have H3 := Lib.hid (fun V (p : EnSl V x.sa x.su) (q : EnSl V y.sa y.su) => esame_any x.sa y.sa x.sc y.sc x.su y.su V p q (Nat.le_trans hsu (by unfold maxLen; decide)) (Nat.le_trans ksu (by unfold maxLen; decide)))
  have H4 := Lib.hid (fun V (p : TbSl V x.ta x.tb) (q : TbSl V y.ta y.tb) => teq_any x.ta y.ta x.tc y.tc x.tb y.tb V p q (Nat.le_trans htb (by unfold maxLen; decide)) (Nat.le_trans ktb (by unfold maxLen; decide)))
  have heq := fun V => eqNs x.now x.hor 0 0 y.now y.hor 0 0 V
  have hb0 : ((x.now == y.now) && ((x.hor == y.hor) && (((0 : Int) == 0) && ((0 : Int) == 0)))) = (decide (x.now = y.now) && decide (x.hor = y.hor)) := by
    rw [Bool.eq_iff_iff]
    simp
  rw [hb0] at heq
  have hsm : sameS x.m y.m = ((decide (x.now = y.now) && decide (x.hor = y.hor)) && decide (x.op = y.op) && decide (umS x.us = umS y.us) && decide (x.su = y.su) && decide (x.tb = y.tb)) := rfl
  rw [hsm]
  obtain ⟨c0, c1, c2, c3, c4, c5⟩ := HK.cells
  obtain ⟨d0, d1, d2, d3, d4, d5⟩ := HZ.cells
  generalize (decide (x.now = y.now) && decide (x.hor = y.hor)) = b0 at *
  generalize decide (x.op = y.op) = b1 at *
  generalize decide (umS x.us = umS y.us) = b2 at *
  generalize decide (x.su = y.su) = b3 at *
  generalize decide (x.tb = y.tb) = b4 at *
  obtain ⟨now, hor, oa, op, oc, ua, us, uc, sa, su, sc, ta, tb, tc⟩ := x
  obtain ⟨nowy, hory, oay, opy, ocy, uay, usy, ucy, say, suy, scy, tay, tby, tcy⟩ := y
  unfold saV saC at *
  dsimp only at *
  clear h k hf kf HK HZ hb0 hsm hop kop hsu ksu htb ktb hux huy
  cases b0
  · go_enter Tryz.func26, Tryz.ntmps26
    have HF := Lib.hid HS.out.frame
    go_wp2
    go_ret
    exact ⟨retB (by simp), HF.out⟩
  ·
    cases b1
    · go_enter Tryz.func26, Tryz.ntmps26
      go_wp2_with fail
      refine (H1.out _ HS.out.at_.op HT.out.at_.op).mono ?_
      rintro e w1 ⟨rfl, h1⟩
      have S1 := Lib.hid (HS.out.below h1)
      have T1 := Lib.hid (HT.out.below h1)
      clear c0 c1 c2 c3 c4 c5 d0 d1 d2 d3 d4 d5 HS HT h1 H1
      obtain ⟨c0, c1, c2, c3, c4, c5⟩ := S1.out.cells
      obtain ⟨d0, d1, d2, d3, d4, d5⟩ := T1.out.cells
      dsimp only at *
      have HF := Lib.hid S1.out.frame
      go_wp2
      go_ret
      exact ⟨retB (by simp), HF.out⟩
    ·
      cases b2
      · go_enter Tryz.func26, Tryz.ntmps26
        go_wp2_with fail
        refine (H1.out _ HS.out.at_.op HT.out.at_.op).mono ?_
        rintro e w1 ⟨rfl, h1⟩
        have S1 := Lib.hid (HS.out.below h1)
        have T1 := Lib.hid (HT.out.below h1)
        clear c0 c1 c2 c3 c4 c5 d0 d1 d2 d3 d4 d5 HS HT h1 H1
        obtain ⟨c0, c1, c2, c3, c4, c5⟩ := S1.out.cells
        obtain ⟨d0, d1, d2, d3, d4, d5⟩ := T1.out.cells
        dsimp only at *
        go_wp2_with fail
        refine (H2.out _ S1.out.at_.us T1.out.at_.us).mono ?_
        rintro e w2 ⟨rfl, h2⟩
        have S2 := Lib.hid (S1.out.below h2)
        have T2 := Lib.hid (T1.out.below h2)
        clear c0 c1 c2 c3 c4 c5 d0 d1 d2 d3 d4 d5 S1 T1 h2 H2
        obtain ⟨c0, c1, c2, c3, c4, c5⟩ := S2.out.cells
        obtain ⟨d0, d1, d2, d3, d4, d5⟩ := T2.out.cells
        dsimp only at *
        have HF := Lib.hid S2.out.frame
        go_wp2
        go_ret
        exact ⟨retB (by simp), HF.out⟩
      ·
        cases b3
        · go_enter Tryz.func26, Tryz.ntmps26
          go_wp2_with fail
          refine (H1.out _ HS.out.at_.op HT.out.at_.op).mono ?_
          rintro e w1 ⟨rfl, h1⟩
          have S1 := Lib.hid (HS.out.below h1)
          have T1 := Lib.hid (HT.out.below h1)
          clear c0 c1 c2 c3 c4 c5 d0 d1 d2 d3 d4 d5 HS HT h1 H1
          obtain ⟨c0, c1, c2, c3, c4, c5⟩ := S1.out.cells
          obtain ⟨d0, d1, d2, d3, d4, d5⟩ := T1.out.cells
          dsimp only at *
          go_wp2_with fail
          refine (H2.out _ S1.out.at_.us T1.out.at_.us).mono ?_
          rintro e w2 ⟨rfl, h2⟩
          have S2 := Lib.hid (S1.out.below h2)
          have T2 := Lib.hid (T1.out.below h2)
          clear c0 c1 c2 c3 c4 c5 d0 d1 d2 d3 d4 d5 S1 T1 h2 H2
          obtain ⟨c0, c1, c2, c3, c4, c5⟩ := S2.out.cells
          obtain ⟨d0, d1, d2, d3, d4, d5⟩ := T2.out.cells
          dsimp only at *
          go_wp2_with fail
          refine (H3.out _ S2.out.at_.su T2.out.at_.su).mono ?_
          rintro e w3 ⟨rfl, h3⟩
          have S3 := Lib.hid (S2.out.below h3)
          have T3 := Lib.hid (T2.out.below h3)
          clear c0 c1 c2 c3 c4 c5 d0 d1 d2 d3 d4 d5 S2 T2 h3 H3
          obtain ⟨c0, c1, c2, c3, c4, c5⟩ := S3.out.cells
          obtain ⟨d0, d1, d2, d3, d4, d5⟩ := T3.out.cells
          dsimp only at *
          have HF := Lib.hid S3.out.frame
          go_wp2
          go_ret
          exact ⟨retB (by simp), HF.out⟩
        ·
          go_enter Tryz.func26, Tryz.ntmps26
          go_wp2_with fail
          refine (H1.out _ HS.out.at_.op HT.out.at_.op).mono ?_
          rintro e w1 ⟨rfl, h1⟩
          have S1 := Lib.hid (HS.out.below h1)
          have T1 := Lib.hid (HT.out.below h1)
          clear c0 c1 c2 c3 c4 c5 d0 d1 d2 d3 d4 d5 HS HT h1 H1
          obtain ⟨c0, c1, c2, c3, c4, c5⟩ := S1.out.cells
          obtain ⟨d0, d1, d2, d3, d4, d5⟩ := T1.out.cells
          dsimp only at *
          go_wp2_with fail
          refine (H2.out _ S1.out.at_.us T1.out.at_.us).mono ?_
          rintro e w2 ⟨rfl, h2⟩
          have S2 := Lib.hid (S1.out.below h2)
          have T2 := Lib.hid (T1.out.below h2)
          clear c0 c1 c2 c3 c4 c5 d0 d1 d2 d3 d4 d5 S1 T1 h2 H2
          obtain ⟨c0, c1, c2, c3, c4, c5⟩ := S2.out.cells
          obtain ⟨d0, d1, d2, d3, d4, d5⟩ := T2.out.cells
          dsimp only at *
          go_wp2_with fail
          refine (H3.out _ S2.out.at_.su T2.out.at_.su).mono ?_
          rintro e w3 ⟨rfl, h3⟩
          have S3 := Lib.hid (S2.out.below h3)
          have T3 := Lib.hid (T2.out.below h3)
          clear c0 c1 c2 c3 c4 c5 d0 d1 d2 d3 d4 d5 S2 T2 h3 H3
          obtain ⟨c0, c1, c2, c3, c4, c5⟩ := S3.out.cells
          obtain ⟨d0, d1, d2, d3, d4, d5⟩ := T3.out.cells
          dsimp only at *
          go_wp2_with fail
          refine (H4.out _ S3.out.at_.tb T3.out.at_.tb).mono ?_
          rintro e w4 ⟨rfl, h4⟩
          have S4 := Lib.hid (S3.out.below h4)
          have T4 := Lib.hid (T3.out.below h4)
          clear c0 c1 c2 c3 c4 c5 d0 d1 d2 d3 d4 d5 S3 T3 h4 H4
          obtain ⟨c0, c1, c2, c3, c4, c5⟩ := S4.out.cells
          obtain ⟨d0, d1, d2, d3, d4, d5⟩ := T4.out.cells
          dsimp only at *
          have HF := Lib.hid S4.out.frame
          go_wp2
          go_ret
          exact ⟨retB (by simp), HF.out⟩
end Go.Proofs.YtjhdhfokhkcamaaGreat
