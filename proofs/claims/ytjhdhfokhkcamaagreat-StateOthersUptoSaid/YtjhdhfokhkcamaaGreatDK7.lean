/- StateOthers: an event of a user's session changes no stay of another user, up to any time; for all states of at most 1048576 things, all events and texts. -/
import Derived.Test.YtjhdhfokhkcamaaGreatP01
import Derived.Test.YtjhdhfokhkcamaaGreatP03
import Derived.Test.YtjhdhfokhkcamaaGreatP09
import Derived.Test.YtjhdhfokhkcamaaGreatP10
import Derived.Test.YtjhdhfokhkcamaaGreatP12
import Derived.Test.YtjhdhfokhkcamaaGreatP18
import Derived.Test.YtjhdhfokhkcamaaGreatP19
import Derived.Test.YtjhdhfokhkcamaaGreatP21
import Derived.Test.YtjhdhfokhkcamaaGreatP25
import Derived.Test.YtjhdhfokhkcamaaGreatP31
import Derived.Test.YtjhdhfokhkcamaaGreatP32
import Derived.Test.YtjhdhfokhkcamaaGreatP33
import Derived.Test.YtjhdhfokhkcamaaGreatP34
import Derived.Test.YtjhdhfokhkcamaaGreatP45
import Derived.JoinedCond
import Derived.Deep.RegionHeld3
import Derived.Test.YtjhdhfokhkcamaaGreatP48
namespace Go.Proofs.YtjhdhfokhkcamaaGreat.stateOthers
open Go.ChangeShapes Go.WideShapes Go.ChangeAt Go.RowKit Go.Proofs
open Go.ChangeMaps (open_string shut_string)
set_option linter.unusedVariables false
set_option maxRecDepth 100000

structure OtK (w : World) (x : SaL) (e : EvM) (W : World) : Prop where
  s : SB w w.heap.size 27 x W
  e : EB w (w.heap.size + 1) 29 e W
theorem OtK.below {w W W' : World} {x : SaL} {e : EvM} (h : OtK w x e W) (qB : Below W.heap.size W W') : OtK w x e W' := ⟨h.s.below qB, h.e.below qB⟩
theorem OtK.over {w T : World} {x : SaL} {e : EvM} {gz : Nat} {zz : SaL} (h : OtK w x e T) (hZ : SB w gz 38 saO T) (hy : SaAt T zz) (ns : w.heap.size ≠ gz) (ne : w.heap.size + 1 ≠ gz) : OtK w x e (setS T gz zz) ∧ SB w gz 38 zz (setS T gz zz) :=
  ⟨⟨(hZ.over hy h.s ns).2, h.e.set ne⟩, hZ.set hy⟩
structure OzK (w : World) (g : Nat) (x : SaL) (e : EvM) (z : SaL) (W : World) : Prop where
  s : SB w w.heap.size 27 x W
  e : EB w (w.heap.size + 1) 29 e W
  z : SB w g 38 z W
theorem OzK.below {w W W' : World} {g : Nat} {x : SaL} {e : EvM} {z : SaL} (h : OzK w g x e z W) (qB : Below W.heap.size W W') : OzK w g x e z W' := ⟨h.s.below qB, h.e.below qB, h.z.below qB⟩
set_option maxHeartbeats 16000000 in
theorem walk (w : World) (x : SaL) (h : SaAt w x) (z : SzS x.m) (b : stCnt x.m + x.us.length ≤ 1048576) (e : EvM) (he : EFits e) (v : ByteArray) (hv : v.size ≤ maxLen) :
    Calls Tryz.prog 9 #[saV x, evV e, .string v] w fun e w' => e = .returned (.bool true) ∧ Below w.heap.size w w' := by
  obtain ⟨S, E⟩ := in_event h e 27 29
  unfold saC at S E
  replace S := Lib.hid S
  replace E := Lib.hid E
  unfold evV
  have HAL := Lib.hid alive11
  have HMA := Lib.hid (fun V (h : SaAt V x) => many_any x V h b)
  by_cases g1 : 100 < stCnt x.m + x.us.length
  · have d1 : decide ((100 : Int) < (stCnt x.m : Int) + (x.us.length : Int)) = true := decide_eq_true (by omega)
    clear h z b g1 he hv
    unfold saV saC
    obtain ⟨cS0, cS1, cS2, cS3, cS4, cS5⟩ := S.out.cells
    obtain ⟨cE0, cE1, cE2, cE3, cE4, cE5⟩ := E.out.cells
    go_enter Tryz.func9, Tryz.ntmps9
    go_wp2_with fail
    refine (HMA.out _ S.out.at_).mono ?_
    rintro r1 w1 ⟨rfl, h1⟩
    clear cS0 cS1 cS2 cS3 cS4 cS5 cE0 cE1 cE2 cE3 cE4 cE5
    replace S := Lib.hid (S.out.below h1)
    replace E := Lib.hid (E.out.below h1)
    clear h1
    obtain ⟨cS0, cS1, cS2, cS3, cS4, cS5⟩ := S.out.cells
    obtain ⟨cE0, cE1, cE2, cE3, cE4, cE5⟩ := E.out.cells
    go_wp2_with fail
    refine (HAL.out _).mono ?_
    rintro r2 w2 ⟨rfl, h2⟩
    clear cS0 cS1 cS2 cS3 cS4 cS5 cE0 cE1 cE2 cE3 cE4 cE5
    replace S := Lib.hid (S.out.below h2)
    replace E := Lib.hid (E.out.below h2)
    clear h2
    go_wp2
    go_ret
    exact ⟨rfl, S.out.frame⟩
  have d1 : decide ((100 : Int) < (stCnt x.m : Int) + (x.us.length : Int)) = false := decide_eq_false (by omega)
  have hf0 : Few x.m 100 := few_cnt (by omega)
  by_cases hr0 : RightS x.m
  case neg =>
    have HRR := Lib.hid (fun V (h : SaAt V x) => g_rwrong x V h rfl z (hf0.mono (by decide)) hr0)
    clear h z b g1 hf0 hr0 he hv
    unfold saV saC
    obtain ⟨cS0, cS1, cS2, cS3, cS4, cS5⟩ := S.out.cells
    obtain ⟨cE0, cE1, cE2, cE3, cE4, cE5⟩ := E.out.cells
    go_enter Tryz.func9, Tryz.ntmps9
    go_wp2_with fail
    refine (HMA.out _ S.out.at_).mono ?_
    rintro r1 w1 ⟨rfl, h1⟩
    clear cS0 cS1 cS2 cS3 cS4 cS5 cE0 cE1 cE2 cE3 cE4 cE5
    replace S := Lib.hid (S.out.below h1)
    replace E := Lib.hid (E.out.below h1)
    clear h1
    obtain ⟨cS0, cS1, cS2, cS3, cS4, cS5⟩ := S.out.cells
    obtain ⟨cE0, cE1, cE2, cE3, cE4, cE5⟩ := E.out.cells
    go_wp2_with fail
    refine (HRR.out _ S.out.at_).mono ?_
    rintro r2 w2 ⟨rfl, h2⟩
    clear cS0 cS1 cS2 cS3 cS4 cS5 cE0 cE1 cE2 cE3 cE4 cE5
    replace S := Lib.hid (S.out.below h2)
    replace E := Lib.hid (E.out.below h2)
    clear h2
    obtain ⟨cS0, cS1, cS2, cS3, cS4, cS5⟩ := S.out.cells
    obtain ⟨cE0, cE1, cE2, cE3, cE4, cE5⟩ := E.out.cells
    go_wp2_with fail
    refine (HAL.out _).mono ?_
    rintro r3 w3 ⟨rfl, h3⟩
    clear cS0 cS1 cS2 cS3 cS4 cS5 cE0 cE1 cE2 cE3 cE4 cE5
    replace S := Lib.hid (S.out.below h3)
    replace E := Lib.hid (E.out.below h3)
    clear h3
    go_wp2
    go_ret
    exact ⟨rfl, S.out.frame⟩
  have HRR := Lib.hid (fun V (h : SaAt V x) => g_rright x V h rfl z (hf0.mono (by decide)) hr0)
  have hc0 : stCnt x.m ≤ 100 := by omega
  clear b g1
  obtain ⟨M, hM⟩ : ∃ M, x.m = M := ⟨_, rfl⟩
  have hr : RightS M := hM ▸ hr0
  have hf : Few M 100 := hM ▸ hf0
  have hz : SzS M := hM ▸ z
  have hc : stCnt M ≤ 100 := hM ▸ hc0
  have HNW := Lib.hid (fun V (h : SaAt V x) => g_new x V h hM (hf.mono (by decide)))
  by_cases g3 : 3 < e.kind
  · have d3 : decide ((3 : Int) < e.kind) = true := decide_eq_true g3
    replace hM := Lib.hid hM
    clear h z hf0 hr0 hc0 hr hf hz hc he hv HNW
    unfold saV saC
    obtain ⟨cS0, cS1, cS2, cS3, cS4, cS5⟩ := S.out.cells
    obtain ⟨cE0, cE1, cE2, cE3, cE4, cE5⟩ := E.out.cells
    go_enter Tryz.func9, Tryz.ntmps9
    go_wp2_with fail
    refine (HMA.out _ S.out.at_).mono ?_
    rintro r1 w1 ⟨rfl, h1⟩
    clear cS0 cS1 cS2 cS3 cS4 cS5 cE0 cE1 cE2 cE3 cE4 cE5
    replace S := Lib.hid (S.out.below h1)
    replace E := Lib.hid (E.out.below h1)
    clear h1
    obtain ⟨cS0, cS1, cS2, cS3, cS4, cS5⟩ := S.out.cells
    obtain ⟨cE0, cE1, cE2, cE3, cE4, cE5⟩ := E.out.cells
    go_wp2_with fail
    refine (HRR.out _ S.out.at_).mono ?_
    rintro r2 w2 ⟨rfl, h2⟩
    clear cS0 cS1 cS2 cS3 cS4 cS5 cE0 cE1 cE2 cE3 cE4 cE5
    replace S := Lib.hid (S.out.below h2)
    replace E := Lib.hid (E.out.below h2)
    clear h2
    obtain ⟨cS0, cS1, cS2, cS3, cS4, cS5⟩ := S.out.cells
    obtain ⟨cE0, cE1, cE2, cE3, cE4, cE5⟩ := E.out.cells
    go_wp2_with fail
    refine (HAL.out _).mono ?_
    rintro r3 w3 ⟨rfl, h3⟩
    clear cS0 cS1 cS2 cS3 cS4 cS5 cE0 cE1 cE2 cE3 cE4 cE5
    replace S := Lib.hid (S.out.below h3)
    replace E := Lib.hid (E.out.below h3)
    clear h3
    go_wp2
    go_ret
    exact ⟨rfl, S.out.frame⟩
  have d3 : decide ((3 : Int) < e.kind) = false := decide_eq_false g3
  by_cases g4 : e.user = v
  · have d4 := txt_eq e.user
    replace hM := Lib.hid hM
    clear h z hf0 hr0 hc0 hr hf hz hc he hv HNW
    subst g4
    unfold saV saC
    obtain ⟨cS0, cS1, cS2, cS3, cS4, cS5⟩ := S.out.cells
    obtain ⟨cE0, cE1, cE2, cE3, cE4, cE5⟩ := E.out.cells
    go_enter Tryz.func9, Tryz.ntmps9
    go_wp2_with fail
    refine (HMA.out _ S.out.at_).mono ?_
    rintro r1 w1 ⟨rfl, h1⟩
    clear cS0 cS1 cS2 cS3 cS4 cS5 cE0 cE1 cE2 cE3 cE4 cE5
    replace S := Lib.hid (S.out.below h1)
    replace E := Lib.hid (E.out.below h1)
    clear h1
    obtain ⟨cS0, cS1, cS2, cS3, cS4, cS5⟩ := S.out.cells
    obtain ⟨cE0, cE1, cE2, cE3, cE4, cE5⟩ := E.out.cells
    go_wp2_with fail
    refine (HRR.out _ S.out.at_).mono ?_
    rintro r2 w2 ⟨rfl, h2⟩
    clear cS0 cS1 cS2 cS3 cS4 cS5 cE0 cE1 cE2 cE3 cE4 cE5
    replace S := Lib.hid (S.out.below h2)
    replace E := Lib.hid (E.out.below h2)
    clear h2
    obtain ⟨cS0, cS1, cS2, cS3, cS4, cS5⟩ := S.out.cells
    obtain ⟨cE0, cE1, cE2, cE3, cE4, cE5⟩ := E.out.cells
    go_wp2_with fail
    refine (HAL.out _).mono ?_
    rintro r3 w3 ⟨rfl, h3⟩
    clear cS0 cS1 cS2 cS3 cS4 cS5 cE0 cE1 cE2 cE3 cE4 cE5
    replace S := Lib.hid (S.out.below h3)
    replace E := Lib.hid (E.out.below h3)
    clear h3
    go_wp2
    go_ret
    exact ⟨rfl, S.out.frame⟩
  have d4 := txt_ne g4
  have HAP : Hid (∀ y V, SaAt V y → y.m = M → Calls Tryz.prog 16 #[saV y, evV e] V (fun r w' => ∃ z, r = .returned (.tuple #[.agg #[.int .i64 z.now, .int .i64 z.hor, .slice z.oa z.op.length z.oc, .slice z.ua z.us.length z.uc, .slice z.sa z.su.length z.sc, .slice z.ta z.tb.length z.tc], .int .i64 (erV M e)]) ∧ SaAt w' z ∧ z.m = teV M e ∧ Below V.heap.size V w')) := Lib.hid (fun y V (h : SaAt V y) hm => g_apply (M := M) y e V h hm hr (Nat.le_trans hc (by decide)) he)
  have hr1 := te_right hr e
  have hc1 := te_cnt hr e
  have hf1 : Few (teV M e) 400 := (few_of hr1 (Nat.le_refl _)).mono (by omega)
  have HST := Lib.hid (fun y V (h : SaAt V y) hm => g_stays (M := teV M e) y V h hm v e.at_ hf1)
  have HRS := Lib.hid (fun V (h : SaAt V x) => g_rstays x V h hM v e.at_ (hf.mono (by decide)))
  have hl := stays_few (hf.mono (show 100 ≤ 400 by decide)) v e.at_
  have HGO : Hid (erV M e = 0 → staysS (teV M e) v e.at_ = staysS M v e.at_ ∧ (teV M e).tb = M.tb ∧ (teV M e).su = M.su) := fun h0 => by
    rw [(te_ok hr h0).2.2]
    exact go_other hr h0 (by omega) (fun k => g4 k.symm)
  have hqx : M.tb = x.tb ∧ M.su = x.su := by rw [← hM]; exact ⟨rfl, rfl⟩
  replace hM := Lib.hid hM
  clear h z hf0 hr0 hc0 hr hf hz hc hr1 hc1 hf1 he hv g3 g4
  generalize teV M e = M1 at *
  generalize erV M e = er at *
  generalize staysS M1 v e.at_ = l1 at *
  generalize staysS M v e.at_ = l at *
  have HOL := Lib.hid (fun a q V (h : StSl V a l) => g_olds a q l V h hl)
  have HSA := Lib.hid (fun a b q r V (h : StSl V a l) (k : StSl V b l) => g_ssame a b q r l V h k hl)
  clear hl
  unfold saV saC
  obtain ⟨cS0, cS1, cS2, cS3, cS4, cS5⟩ := S.out.cells
  obtain ⟨cE0, cE1, cE2, cE3, cE4, cE5⟩ := E.out.cells
  go_enter Tryz.func9, Tryz.ntmps9
  go_wp2_with fail
  refine (HMA.out _ S.out.at_).mono ?_
  rintro r1 w1 ⟨rfl, h1⟩
  clear cS0 cS1 cS2 cS3 cS4 cS5 cE0 cE1 cE2 cE3 cE4 cE5
  replace S := Lib.hid (S.out.below h1)
  replace E := Lib.hid (E.out.below h1)
  clear h1
  obtain ⟨cS0, cS1, cS2, cS3, cS4, cS5⟩ := S.out.cells
  obtain ⟨cE0, cE1, cE2, cE3, cE4, cE5⟩ := E.out.cells
  go_wp2_with fail
  refine (HRR.out _ S.out.at_).mono ?_
  rintro r2 w2 ⟨rfl, h2⟩
  clear cS0 cS1 cS2 cS3 cS4 cS5 cE0 cE1 cE2 cE3 cE4 cE5
  replace S := Lib.hid (S.out.below h2)
  replace E := Lib.hid (E.out.below h2)
  clear h2
  clear HMA HRR
  have KK : OtK w x e w2 := ⟨S.out, E.out⟩
  have HSC : Hid (∀ V, OtK w x e V → V.cell? ⟨w.heap.size, 0, none⟩ = some (.int .i64 x.now) ∧ V.cell? ⟨w.heap.size, 1, none⟩ = some (.int .i64 x.hor) ∧ V.cell? ⟨w.heap.size, 2, none⟩ = some (.slice x.oa x.op.length x.oc) ∧ V.cell? ⟨w.heap.size, 3, none⟩ = some (.slice x.ua x.us.length x.uc) ∧ V.cell? ⟨w.heap.size, 4, none⟩ = some (.slice x.sa x.su.length x.sc) ∧ V.cell? ⟨w.heap.size, 5, none⟩ = some (.slice x.ta x.tb.length x.tc) ∧ V.cell? ⟨w.heap.size + 1, 0, none⟩ = some (.int .i64 e.kind) ∧ V.cell? ⟨w.heap.size + 1, 1, none⟩ = some (.int .i64 e.at_) ∧ V.cell? ⟨w.heap.size + 1, 2, none⟩ = some (.string e.user) ∧ V.cell? ⟨w.heap.size + 1, 3, none⟩ = some (.string e.other) ∧ V.cell? ⟨w.heap.size + 1, 4, none⟩ = some (.int .i64 e.n) ∧ V.cell? ⟨w.heap.size + 1, 5, none⟩ = some (.int .i64 e.status)) := fun V h => by
    obtain ⟨s0, s1, s2, s3, s4, s5⟩ := h.s.cells
    obtain ⟨e0, e1, e2, e3, e4, e5⟩ := h.e.cells
    exact ⟨s0, s1, s2, s3, s4, s5, e0, e1, e2, e3, e4, e5⟩
  have HBL : Hid (∀ V V', OtK w x e V → Below V.heap.size V V' → OtK w x e V') := fun V V' h q => h.below q
  obtain ⟨k0, k1, k2, k3, k4, k5, k6, k7, k8, k9, k10, k11⟩ := HSC.out _ KK
  clear S E
  have K0 := KK.below (Below.refl w2.heap.size w2).drew
  have K0b := (KK.below (below_one w2 (.cells #[.int .i64 0, .int .i64 0, .slice none 0 0, .slice none 0 0, .slice none 0 0, .slice none 0 0] 38))).below (Below.refl _ _).drew
  have Z0b : SB w w2.heap.size 38 saO (w2.alloc (.cells #[.int .i64 0, .int .i64 0, .slice none 0 0, .slice none 0 0, .slice none 0 0, .slice none 0 0] 38)).drew := SB.drew (SB.new KK.s.frame (SaAt.zero w2) 38)
  have NG0 : w.heap.size ≠ w2.heap.size ∧ w.heap.size + 1 ≠ w2.heap.size := ⟨Nat.ne_of_lt KK.s.lt, Nat.ne_of_lt KK.e.lt'⟩
  go_wp2_with fail
  go_region_held3 (fun V => V.cell? ⟨w.heap.size, 0, none⟩ = some (.int .i64 x.now) ∧ V.cell? ⟨w.heap.size, 1, none⟩ = some (.int .i64 x.hor) ∧ V.cell? ⟨w.heap.size, 2, none⟩ = some (.slice x.oa x.op.length x.oc) ∧ V.cell? ⟨w.heap.size, 3, none⟩ = some (.slice x.ua x.us.length x.uc) ∧ V.cell? ⟨w.heap.size, 4, none⟩ = some (.slice x.sa x.su.length x.sc) ∧ V.cell? ⟨w.heap.size, 5, none⟩ = some (.slice x.ta x.tb.length x.tc) ∧ V.cell? ⟨w.heap.size + 1, 0, none⟩ = some (.int .i64 e.kind) ∧ V.cell? ⟨w.heap.size + 1, 1, none⟩ = some (.int .i64 e.at_) ∧ V.cell? ⟨w.heap.size + 1, 2, none⟩ = some (.string e.user) ∧ V.cell? ⟨w.heap.size + 1, 3, none⟩ = some (.string e.other) ∧ V.cell? ⟨w.heap.size + 1, 4, none⟩ = some (.int .i64 e.n) ∧ V.cell? ⟨w.heap.size + 1, 5, none⟩ = some (.int .i64 e.status))
    (first | with_reducible exact HSC.out _ KT | with_reducible exact HSC.out _ K2b | with_reducible exact HSC.out _ K2 | with_reducible exact HSC.out _ K1b | with_reducible exact HSC.out _ K1 | with_reducible exact HSC.out _ K0b | with_reducible exact HSC.out _ K0)
    (first | (have hseen := K1; clear hseen; go_at_call 16; (first | (refine (HAP.out y _ hy hm).mono ?_; rintro r v2 ⟨z, rfl, hz, hn, h2⟩; have K2 := HBL.out _ _ K1 h2; (try have Z2 := Z1.below h2)) | (refine (HAP.out y _ hyb hm).mono ?_; rintro r v2 ⟨z, rfl, hz, hn, h2⟩; have K2 := HBL.out _ _ K1b h2; have Z2 := Z1b.below h2)); have NG2 : w.heap.size ≠ v2.heap.size ∧ w.heap.size + 1 ≠ v2.heap.size := ⟨Nat.ne_of_lt K2.s.lt, Nat.ne_of_lt K2.e.lt'⟩; (first | (have hzz := Z2; unfold saO at hzz; obtain ⟨z0, z1, z2, z3, z4, z5⟩ := hzz.cells; obtain ⟨f0, f1, f2, f3, f4, f5⟩ := hzz.free; have hzl := hzz.lt; dsimp only [List.length_nil] at z0 z1 z2 z3 z4 z5; clear hzz; (first | (have OV := K2.over Z2 hz NG0.1 NG0.2; have NE := Lib.hid NG0) | (have OV := K2.over Z2 hz NG1.1 NG1.2; have NE := Lib.hid NG1)); obtain ⟨KT, OB⟩ := OV; unfold setS at OB KT; (try dsimp only at OB KT)) | (have K2b := K2.below (below_one v2 (.cells #[.int .i64 0, .int .i64 0, .slice none 0 0, .slice none 0 0, .slice none 0 0, .slice none 0 0] 38)); have OB : SB w v2.heap.size 38 z (v2.alloc (.cells #[.int .i64 z.now, .int .i64 z.hor, .slice z.oa z.op.length z.oc, .slice z.ua z.us.length z.uc, .slice z.sa z.su.length z.sc, .slice z.ta z.tb.length z.tc] 38)) := SB.new K2.s.frame hz 38; have KT := K2.below (below_one v2 (.cells #[.int .i64 z.now, .int .i64 z.hor, .slice z.oa z.op.length z.oc, .slice z.ua z.us.length z.uc, .slice z.sa z.su.length z.sc, .slice z.ta z.tb.length z.tc] 38)); have NE := Lib.hid NG2))) | (have hseen := K0; clear hseen; go_at_call 15; (first | (refine (HNW.out _ K0.s.at_).mono ?_; rintro r v1 ⟨y, rfl, hy, hm, h1⟩; have K1 := HBL.out _ _ K0 h1; (try have Z1 := Z0.below h1); have hyb := hy.below (below_one v1 (.cells #[.int .i64 0, .int .i64 0, .slice none 0 0, .slice none 0 0, .slice none 0 0, .slice none 0 0] 38))) | (refine (HNW.out _ K0b.s.at_).mono ?_; rintro r v1 ⟨y, rfl, hy, hm, h1⟩; have K1 := HBL.out _ _ K0b h1; have Z1 := Z0b.below h1; have hyb := hy.below (below_one v1 (.cells #[.int .i64 0, .int .i64 0, .slice none 0 0, .slice none 0 0, .slice none 0 0, .slice none 0 0] 38)))); have NG1 : w.heap.size ≠ v1.heap.size ∧ w.heap.size + 1 ≠ v1.heap.size := ⟨Nat.ne_of_lt K1.s.lt, Nat.ne_of_lt K1.e.lt'⟩; (first | (have hzz := Z1; clear hzz) | (have K1b := K1.below (below_one v1 (.cells #[.int .i64 0, .int .i64 0, .slice none 0 0, .slice none 0 0, .slice none 0 0, .slice none 0 0] 38)); have Z1b : SB w v1.heap.size 38 saO (v1.alloc (.cells #[.int .i64 0, .int .i64 0, .slice none 0 0, .slice none 0 0, .slice none 0 0, .slice none 0 0] 38)) := SB.new K1.s.frame (SaAt.zero v1) 38))))
  all_goals
    have TK := Lib.hid KT
    have TO := Lib.hid OB
    clear KT OB K0 K0b Z0b NG0
    clear K1 NG1 h1
    (try clear K1b)
    (try clear Z1b)
    (try clear Z1)
    clear K2 NG2 h2
    (try clear K2b)
    (try clear Z2b)
    (try clear Z2)
    (try clear z0 z1 z2 z3 z4 z5 f0 f1 f2 f3 f4 f5 hzl)
    clear KK
    clear k0 k1 k2 k3 k4 k5 k6 k7 k8 k9 k10 k11
    clear HSC HBL HNW HAP
    clear hy hyb hm hz NE
    (first
      | (generalize ((((((v2.setCell ⟨w2.heap.size, 0, none⟩ (.int .i64 z.now)).setCell ⟨w2.heap.size, 1, none⟩ (.int .i64 z.hor)).setCell ⟨w2.heap.size, 2, none⟩ (.slice z.oa z.op.length z.oc)).setCell ⟨w2.heap.size, 3, none⟩ (.slice z.ua z.us.length z.uc)).setCell ⟨w2.heap.size, 4, none⟩ (.slice z.sa z.su.length z.sc)).setCell ⟨w2.heap.size, 5, none⟩ (.slice z.ta z.tb.length z.tc)) = T at *; generalize w2.heap.size = g at *; (have hseen : SB w g 38 z T := TO.out; clear hseen))
      | (generalize ((((((v2.setCell ⟨v1.heap.size, 0, none⟩ (.int .i64 z.now)).setCell ⟨v1.heap.size, 1, none⟩ (.int .i64 z.hor)).setCell ⟨v1.heap.size, 2, none⟩ (.slice z.oa z.op.length z.oc)).setCell ⟨v1.heap.size, 3, none⟩ (.slice z.ua z.us.length z.uc)).setCell ⟨v1.heap.size, 4, none⟩ (.slice z.sa z.su.length z.sc)).setCell ⟨v1.heap.size, 5, none⟩ (.slice z.ta z.tb.length z.tc)) = T at *; generalize v1.heap.size = g at *; (have hseen : SB w g 38 z T := TO.out; clear hseen))
      | (generalize v2.alloc (.cells #[.int .i64 z.now, .int .i64 z.hor, .slice z.oa z.op.length z.oc, .slice z.ua z.us.length z.uc, .slice z.sa z.su.length z.sc, .slice z.ta z.tb.length z.tc] 38) = T at *; generalize v2.heap.size = g at *; (have hseen : SB w g 38 z T := TO.out; clear hseen)))
    by_cases g : er = 0
    case neg =>
      have g1 : (er == 0) = false := beq_false_of_ne g
      have g2 : (er != 0) = true := bne_iff_ne.2 g
      go_wp2_with fail
      refine (HAL.out _).mono ?_
      rintro r u1 ⟨rfl, h1⟩
      go_wp2
      go_ret
      exact ⟨rfl, TK.out.s.frame.trans (h1.mono TK.out.s.frame.size)⟩
    obtain ⟨q1, q2, q3⟩ := HGO.out g
    subst g
    have g1 : ((0 : Int) == 0) = true := rfl
    have g2 : ((0 : Int) != 0) = false := rfl
    subst q1
    have q4 : ((z.tb.length : Int) == (x.tb.length : Int)) = true := by rw [show z.tb = M1.tb by rw [← hn]; rfl, q2, hqx.1]; exact beq_self_eq_true _
    have q5 : ((z.su.length : Int) == (x.su.length : Int)) = true := by rw [show z.su = M1.su by rw [← hn]; rfl, q3, hqx.2]; exact beq_self_eq_true _
    have q6 : decide ((z.tb.length : Int) = (x.tb.length : Int)) = true := decide_eq_true (beq_iff_eq.1 q4)
    have q7 : decide ((z.su.length : Int) = (x.su.length : Int)) = true := decide_eq_true (beq_iff_eq.1 q5)
    clear HGO q2 q3 hqx
    have KZ : OzK w g x e z T := ⟨TK.out.s, TK.out.e, TO.out⟩
    clear TK TO
    have HSC : Hid (∀ V, OzK w g x e z V → V.cell? ⟨w.heap.size, 0, none⟩ = some (.int .i64 x.now) ∧ V.cell? ⟨w.heap.size, 1, none⟩ = some (.int .i64 x.hor) ∧ V.cell? ⟨w.heap.size, 2, none⟩ = some (.slice x.oa x.op.length x.oc) ∧ V.cell? ⟨w.heap.size, 3, none⟩ = some (.slice x.ua x.us.length x.uc) ∧ V.cell? ⟨w.heap.size, 4, none⟩ = some (.slice x.sa x.su.length x.sc) ∧ V.cell? ⟨w.heap.size, 5, none⟩ = some (.slice x.ta x.tb.length x.tc) ∧ V.cell? ⟨w.heap.size + 1, 0, none⟩ = some (.int .i64 e.kind) ∧ V.cell? ⟨w.heap.size + 1, 1, none⟩ = some (.int .i64 e.at_) ∧ V.cell? ⟨w.heap.size + 1, 2, none⟩ = some (.string e.user) ∧ V.cell? ⟨w.heap.size + 1, 3, none⟩ = some (.string e.other) ∧ V.cell? ⟨w.heap.size + 1, 4, none⟩ = some (.int .i64 e.n) ∧ V.cell? ⟨w.heap.size + 1, 5, none⟩ = some (.int .i64 e.status) ∧ V.cell? ⟨g, 0, none⟩ = some (.int .i64 z.now) ∧ V.cell? ⟨g, 1, none⟩ = some (.int .i64 z.hor) ∧ V.cell? ⟨g, 2, none⟩ = some (.slice z.oa z.op.length z.oc) ∧ V.cell? ⟨g, 3, none⟩ = some (.slice z.ua z.us.length z.uc) ∧ V.cell? ⟨g, 4, none⟩ = some (.slice z.sa z.su.length z.sc) ∧ V.cell? ⟨g, 5, none⟩ = some (.slice z.ta z.tb.length z.tc)) := fun V h => by
      obtain ⟨s0, s1, s2, s3, s4, s5⟩ := h.s.cells
      obtain ⟨e0, e1, e2, e3, e4, e5⟩ := h.e.cells
      obtain ⟨z0, z1, z2, z3, z4, z5⟩ := h.z.cells
      exact ⟨s0, s1, s2, s3, s4, s5, e0, e1, e2, e3, e4, e5, z0, z1, z2, z3, z4, z5⟩
    have HBL : Hid (∀ V V', OzK w g x e z V → Below V.heap.size V V' → OzK w g x e z V') := fun V V' h q => h.below q
    obtain ⟨k0, k1, k2, k3, k4, k5, k6, k7, k8, k9, k10, k11, k12, k13, k14, k15, k16, k17⟩ := HSC.out _ KZ
    have K0 := KZ.below (Below.refl _ _).drew
    go_wp2_with fail
    go_region_held3 (fun V => V.cell? ⟨w.heap.size, 0, none⟩ = some (.int .i64 x.now) ∧ V.cell? ⟨w.heap.size, 1, none⟩ = some (.int .i64 x.hor) ∧ V.cell? ⟨w.heap.size, 2, none⟩ = some (.slice x.oa x.op.length x.oc) ∧ V.cell? ⟨w.heap.size, 3, none⟩ = some (.slice x.ua x.us.length x.uc) ∧ V.cell? ⟨w.heap.size, 4, none⟩ = some (.slice x.sa x.su.length x.sc) ∧ V.cell? ⟨w.heap.size, 5, none⟩ = some (.slice x.ta x.tb.length x.tc) ∧ V.cell? ⟨w.heap.size + 1, 0, none⟩ = some (.int .i64 e.kind) ∧ V.cell? ⟨w.heap.size + 1, 1, none⟩ = some (.int .i64 e.at_) ∧ V.cell? ⟨w.heap.size + 1, 2, none⟩ = some (.string e.user) ∧ V.cell? ⟨w.heap.size + 1, 3, none⟩ = some (.string e.other) ∧ V.cell? ⟨w.heap.size + 1, 4, none⟩ = some (.int .i64 e.n) ∧ V.cell? ⟨w.heap.size + 1, 5, none⟩ = some (.int .i64 e.status) ∧ V.cell? ⟨g, 0, none⟩ = some (.int .i64 z.now) ∧ V.cell? ⟨g, 1, none⟩ = some (.int .i64 z.hor) ∧ V.cell? ⟨g, 2, none⟩ = some (.slice z.oa z.op.length z.oc) ∧ V.cell? ⟨g, 3, none⟩ = some (.slice z.ua z.us.length z.uc) ∧ V.cell? ⟨g, 4, none⟩ = some (.slice z.sa z.su.length z.sc) ∧ V.cell? ⟨g, 5, none⟩ = some (.slice z.ta z.tb.length z.tc))
      (first | with_reducible exact HSC.out _ K5 | with_reducible exact HSC.out _ K4 | with_reducible exact HSC.out _ K3 | with_reducible exact HSC.out _ K2 | with_reducible exact HSC.out _ K1 | with_reducible exact HSC.out _ K0)
      (first | (have hseen := K4; clear hseen; go_at_call 27; refine (HSA.out a3 a4 b3 b4 _ p5 p4).mono ?_; rintro r v5 ⟨rfl, h5⟩; have K5 := HBL.out _ _ K4 h5) | (have hseen := K3; clear hseen; go_at_call 30; refine (HRS.out _ K3.s.at_).mono ?_; rintro r v4 ⟨a4, b4, rfl, p4, h4⟩; have K4 := HBL.out _ _ K3 h4; have p5 := p3.below h4) | (have hseen := K2; clear hseen; go_at_call 28; refine (HOL.out a2 b2 _ p2).mono ?_; rintro r v3 ⟨a3, b3, rfl, p3, h3⟩; have K3 := HBL.out _ _ K2 h3) | (have hseen := K1; clear hseen; go_at_call 29; refine (HST.out z _ K1.z.at_ hn).mono ?_; rintro r v2 ⟨a2, b2, rfl, p2, h2⟩; have K2 := HBL.out _ _ K1 h2) | (have hseen := K0; clear hseen; go_at_call 14; refine (HAL.out _).mono ?_; rintro r v1 ⟨rfl, h1⟩; have K1 := HBL.out _ _ K0 h1))
    all_goals
      have HF := Lib.hid K5.s.frame
      clear K0 K1 K2 K3 K4 K5
      go_wp2
      go_ret
      exact ⟨rfl, HF.out⟩
theorem contract (H : Type) (enc : TypeId × Value → H) (W : World) (base : Nat) (args : Array Value) (ds gs : List (DataW H)) (before : List MemPlace)
    (hval : ∀ (j : Nat) t v, Tryz.f9.params[j]? = some t → args[j]? = some v → Value.okWide Tryz.prog W .any base t v)
    (hW : DataW.Whole enc Tryz.prog Tryz.f9.params.toList Rows.stateOthersSpec.vars false W args.toList ds gs before) (hk : Rows.uptoSmall H (ds ++ gs) = true) :
    Calls Tryz.prog 9 args W fun e W' => ∃ v, e = .returned v ∧ Rows.stateOthersSpec.post enc Tryz.prog Tryz.f9 false true false false W args v W' := by
  have hW' := hW
  obtain ⟨p, q, hA0, hV, rfl, hfz, hnd⟩ := hW
  have hA : DataW.TrodAll enc Tryz.prog W 0 (fun _ => true) true Tryz.f9.params.toList args.toList ds p := hA0
  rw [Tryz.params9] at hA hval
  obtain ⟨v0, vs0, d0, ds0, p0, q0, hargs, rfl, rfl, h0, r0⟩ := trodAll_cons hA
  obtain ⟨v1, vs1, d1, ds1, p1, q1, rfl, rfl, rfl, h1, r1⟩ := trodAll_cons r0
  obtain ⟨v2, vs2, d2, ds2, p2, q2, rfl, rfl, rfl, h2, r2⟩ := trodAll_cons r1
  obtain ⟨rfl, rfl, rfl⟩ := trodAll_nil r2
  obtain rfl : args = #[v0, v1, v2] := by cases args; simp_all
  obtain ⟨rfl, rfl⟩ := trodVars_none hV
  have hbk : Rows.uptoBulkAll [d0, d1, d2] ≤ 1048576 := of_decide_eq_true hk
  simp only [Rows.uptoBulkAll] at hbk
  obtain ⟨a0, rfl, s0, z0, b0⟩ := open_state (hval 0 27 v0 rfl rfl) h0
  have u0 : stCnt a0.m + a0.us.length ≤ 1048576 := by omega
  obtain ⟨a1, rfl, w1⟩ := open_event (hval 1 29 v1 rfl rfl) h1
  obtain ⟨a2, rfl, -, -, w2⟩ := open_string Tryz.underlying9 (hval 2 9 v2 rfl rfl) h2
  refine (walk W a0 s0 z0 u0 a1 w1 a2 w2).mono fun e W' ⟨he, hb⟩ => ?_
  subst he
  exact ⟨_, rfl, law_post rfl hW' (fun ds h => by match ds, h with | [_, _, _], _ => rfl) (by kernel_rfl) (by kernel_rfl) (by kernel_rfl) hb⟩

set_option maxRecDepth 100000 in
theorem lifted (os : Os) (started : os.Started) (H : Type) (enc : TypeId × Value → H) (F : Stop.Interp) :
    ReturnsInHanded {} Tryz.checked os 9 .any ((Rows.OpenSpec.upto Rows.stateOthersSpec).pre6 enc Tryz.prog Tryz.f9 Rows.stateOthersUptoRow.domain false) (((Rows.OpenSpec.upto Rows.stateOthersSpec).at F).post enc Tryz.prog Tryz.f9 false true false false) := by
  refine returnsInHanded_of_cond (C := Tryz.checked) (s := (Rows.OpenSpec.upto Rows.stateOthersSpec)) (k := Rows.uptoSmall) rfl own started (by kernel_rfl) Tryz.func9
    (OpenSpec.witness (enc := enc) (C := Tryz.checked) (s := (Rows.OpenSpec.upto Rows.stateOthersSpec)) (k := Rows.uptoSmall) rfl false ⟨#[], #[.agg #[.int .i64 0, .int .i64 0, .slice none 0 0, .slice none 0 0, .slice none 0 0, .slice none 0 0], .agg #[.int .i64 0, .int .i64 0, .string ByteArray.empty, .string ByteArray.empty, .int .i64 0, .int .i64 0], .string ByteArray.empty], []⟩ 8 (by kernel_rfl) (by kernel_rfl) (by kernel_rfl)
      (x := ([.agg [.lit (.int .i64 0), .lit (.int .i64 0), .nil, .nil, .nil, .nil], .agg [.lit (.int .i64 0), .lit (.int .i64 0), .lit (.string []), .lit (.string []), .lit (.int .i64 0), .lit (.int .i64 0)], .lit (.string [])], [], [])) (by kernel_rfl) rfl (by kernel_rfl)) ?_
  intro W base args ds gs before hval hW _ hk _
  exact contract H enc W base args ds gs before hval hW hk

theorem proved : Rows.StateOthersUptoSaid :=
  OpenClaim.holds_of_cond 9 Tryz.f9 rfl rfl rfl rfl rfl rfl rfl ⟨rfl, rfl, rfl, rfl, rfl⟩ rfl rfl rfl rfl rfl (by kernel_rfl) Tryz.func9 (by kernel_rfl)
    (of_decide_eq_true (by kernel_rfl)) (by unfold Func.isWrapper; first | (rw [if_pos (by decide +kernel)]; kernel_rfl) | (rw [if_neg (by decide +kernel)]; exact ⟨rfl, rfl⟩))
    (fun os started H enc _ F => lifted os started H enc F)
end Go.Proofs.YtjhdhfokhkcamaaGreat.stateOthers
