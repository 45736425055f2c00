/- Texts of mine, one behind the other, of each what is wanted. -/
import Derived.Test.YtmfpjapiijgdgaaGreatQ00
import Derived.Test.YtmfpjapiijgdgaaGreatShelf
import Derived.Test.YtmfpjapiijgdgaaGreatRows
import Derived.Test.YtmfpjapiijgdgaaGreatQ01
import Derived.Test.YtmfpjapiijgdgaaGreatQ04
import Derived.Test.YtmfpjapiijgdgaaGreatQ05
import Derived.Test.YtmfpjapiijgdgaaGreatQ06
import Derived.Test.YtmfpjapiijgdgaaGreatQ17
import Derived.Test.YtmfpjapiijgdgaaGreatQ20
import Derived.Test.YtmfpjapiijgdgaaGreatQ31
import Derived.Test.YtmfpjapiijgdgaaGreatQ46
namespace Go.Proofs.YtmfpjapiijgdgaaGreat
set_option linter.unusedVariables false
set_option maxRecDepth 100000
theorem staysO_of {l m : List OpM} {u : ByteArray} {w : Int} (h : (rawO l u w).Perm (rawO m u w)) : staysO l u w = staysO m u w := by
 have h1 := stays_is l u w l.length (Nat.le_refl _)
 have h2 := stays_is m u w m.length (Nat.le_refl _)
 rw [List.take_of_length_le (Nat.le_refl _)] at h1 h2
 exact sorted_only h1.2 h2.2 ((h1.1.trans h).trans h2.1.symm)
theorem stU_other {v : ByteArray} {w : Int} {e : OpM} (h : e.u ≠ v) : stU v w e = false := by
 unfold stU
 rw [decide_eq_false h, Bool.false_and]
theorem raw_mid {A B : List OpM} {e : OpM} {v : ByteArray} {w : Int} (h : e.u ≠ v) : rawO (A ++ e :: B) v w = rawO (A ++ B) v w := by
 unfold rawO
 rw [List.filter_append, List.filter_append, List.filter_cons, stU_other h, if_neg Bool.false_ne_true]
theorem raw_without {l : List OpM} {u v : ByteArray} {w : Int} (h : v ≠ u) : rawO (l.filter (notU u)) v w = rawO l v w := by
 unfold rawO
 rw [List.filter_filter]
 congr 1
 refine List.filter_congr fun e _ => ?_
 by_cases h1 : e.u = v
 ·have h2 : notU u e = true := decide_eq_true fun h3 => h (h1.symm.trans h3)
  rw [h2, Bool.and_true]
 ·rw [stU_other h1, Bool.false_and]
theorem erase_other {s : SaM} (h : RiseK UsM.u s.us) {a st n w : Int} {u v o : ByteArray} (hv : v ≠ u) : staysS (goS s 7 a n st u o) v w = staysS s v w := by
 show addsS (staysO (s.op.filter (notU u)) v w) (ofU (putU s.us u []) v) = _
 rw [ofU_other h hv, staysO_of (List.Perm.of_eq (raw_without hv))]
 rfl
theorem open_other {l : List OpM} {e : OpM} {v : ByteArray} {w : Int} (h : e.u ≠ v) (hc : openC l e = 0) : staysO (openR l e) v w = staysO l v w := by
 refine staysO_of (List.Perm.of_eq ?_)
 unfold openR openS
 rw [if_pos hc, raw_mid h, List.take_append_drop]
theorem cut_other {l : List OpM} {k : Nat} (hk : k < l.length) {v : ByteArray} {w : Int} (h : l[k].u ≠ v) : rawO (cutAt l k) v w = rawO l v w := by
 unfold cutAt
 have h1 := raw_mid (A := l.take k) (B := l.drop (k + 1)) (w := w) h
 rw [← h1, ← List.drop_eq_getElem_cons hk, List.take_append_drop]
theorem chg_other {l : List OpM} {k : Nat} (hk : k < l.length) {v : ByteArray} {w s f : Int} (h : l[k].u ≠ v) : rawO (chgAt l k s f) v w = rawO l v w := by
 rw [chgAt_at hk, raw_mid (A := l.take k) (B := l.drop (k + 1)) (e := ⟨l[k].n, l[k].u, s, f⟩) (w := w) h]
 exact cut_other hk h
theorem go_other {s : SaM} (h : RightS s) {k a n st w : Int} {u v o : ByteArray} (he : errS s k a n st u o = 0) (hk : k ≤ 3) (hv : v ≠ u) :
  staysS (goS s k a n st u o) v w = staysS s v w ∧ (goS s k a n st u o).tb = s.tb ∧ (goS s k a n st u o).su = s.su := by
 obtain ⟨hr, ha, hc⟩ := errS_ok he
 obtain ⟨_, _, hr⟩ := hr
 have hu : u ≠ v := fun e => hv e.symm
 unfold errK at hc
 have hfc : ∀ n, findC s.op n u = 0 → staysO (chgR s.op n u st a) v w = staysO s.op v w ∧ staysO (cloR s.op n u) v w = staysO s.op v w := fun n hc => by
  rcases fc_three s.op n u with ⟨_, k, hk, hf, h1, h2, h3, h4⟩ | ⟨h1 | h1, _⟩
  ·unfold chgR cloR
   rw [if_pos hc, if_pos hc, h4]
   have h5 : s.op[k].u ≠ v := by rw [h2]; exact hu
   exact ⟨staysO_of (List.Perm.of_eq (chg_other hk h5)), staysO_of (List.Perm.of_eq (cut_other hk h5))⟩
  ·rw [hc] at h1; exact absurd h1 (by decide)
  ·rw [hc] at h1; exact absurd h1 (by decide)
 rcases hr with ⟨h1 | h1, _⟩ | ⟨h1, _⟩ | ⟨h1 | h1, _⟩ | ⟨h1, _⟩ | ⟨h1, _⟩
 ·subst h1
  refine ⟨?_, rfl, rfl⟩
  show addsS (staysO (openR s.op ⟨n, u, st, a⟩) v w) (ofU s.us v) = _
  rw [open_other hu hc]
  rfl
 ·subst h1
  refine ⟨?_, rfl, rfl⟩
  show addsS (staysO (chgR s.op n u st a) v w) (ofU (addU s.us u (fndS s.op n u a)) v) = _
  rw [(hfc n hc).1, ofU_add_other h.ur hv]
  rfl
 ·subst h1
  refine ⟨?_, rfl, rfl⟩
  show addsS (staysO (cloR s.op n u) v w) (ofU (addU s.us u (fndS s.op n u a)) v) = _
  rw [(hfc n hc).2, ofU_add_other h.ur hv]
  rfl
 all_goals omega
end Go.Proofs.YtmfpjapiijgdgaaGreat
namespace Go.Proofs.YtmfpjapiijgdgaaGreat
set_option linter.unusedVariables false
theorem go_same {s : SaM} (h : RightS s) {e : EvM} {u : ByteArray} (he : errE s e = 0) (hu : e.user ≠ u) (w : Int) : staysS (goE s e) u w = staysS s u w := by
 by_cases hk : e.kind ≤ 3
 ·exact (go_other h he hk (fun e => hu e.symm) (w := w)).1
 ·by_cases h7 : e.kind = 7
  ·unfold goE
   rw [h7]
   exact erase_other h.ur (fun e => hu e.symm)
  ·obtain ⟨_, _, h8⟩ := (errS_ok he).1
   have h9 : e.kind = 4 ∨ e.kind = 5 ∨ e.kind = 6 := by omega
   unfold goE goS
   rcases h9 with h9 | h9 | h9 <;> rw [h9] <;> rfl
theorem fold_same : ∀ (l : List EvM) {s : SaM} {u : ByteArray} (w : Int), RightS s → (∀ e ∈ l, e.user ≠ u) → staysS (foldE s l) u w = staysS s u w
 | [], _, _, _, _, _ => rfl
 | e :: l, s, u, w, h, hl => by
  rw [foldE_cons, fold_same l w (right_nx h e) fun x hx => hl x (List.mem_cons_of_mem _ hx)]
  unfold nxE
  split
  ·rename_i he; exact go_same h he (hl e (List.mem_cons_self ..)) w
  ·rfl
end Go.Proofs.YtmfpjapiijgdgaaGreat
namespace Go.Proofs.YtmfpjapiijgdgaaGreat
open Go.RowKit Go.Sort Go.Proofs
set_option linter.unusedVariables false
set_option maxRecDepth 100000
set_option maxRecDepth 100000
set_option maxHeartbeats 4000000 in
theorem rstays_any (a : Option Addr) (c : Nat) (l : List OpM) (u : ByteArray) (t : Int) (w : World) (hr : OpSl w a l) (hl : l.length ≤ 1000) :
  Calls Tryz.prog 98 #[.slice a l.length c, .string u, .int .i64 t] w fun e w' => ∃ x q, e = .returned (.slice x (staysO l u t).length q) ∧ StSl w' x (staysO l u t) ∧ Below w.heap.size w w' := by
 have HR := Lib.hid hr
 have HST := Lib.hid (fun (x : OpM) W => rstay_any x t W)
 unfold opV stV stayO at HST
 clear hr
 go_enter Tryz.func98, Tryz.ntmps98
 go_wp2
 go_loopw [7, 8] (fun v i wr => ∃ (j : Nat) (x : Option Addr) (q : Nat), j ≤ l.length ∧ i = .int .i64 j ∧ v = .slice x (staysO (l.take j) u t).length q ∧ Hid (Wd x q (staysO (l.take j) u t).length) ∧ Hid (StSl wr x (staysO (l.take j) u t)) ∧ Hid (Below w.heap.size w wr)) (fun _ i _ => l.length - (intOf i).toNat)
 case atStart => exact ⟨0, none, 0, by omega, rfl, rfl, ⟨Nat.le_refl _, by unfold maxLen; omega, fun _ => rfl⟩, StSl.nil _ _, Below.refl _ _⟩
 case round =>
  obtain ⟨j, x0, q0, hj, rfl, rfl, HW, HS, HB⟩ := hrel
  by_cases hjl : j < l.length
  ·obtain ⟨b, off, rfl, hbl, hc0, hc1, hc2, hc3⟩ := (HR.out.below HB.out).at_ hjl
   have HN := Lib.hid (staysO_next l u t j hjl)
   have HLN := Lib.hid (staysO_len l u t j)
   generalize staysO (l.take j) u t = M at *
   generalize l[j] = x at *
   by_cases hu : x.u = u
   ·have q1 : (x.u.toList == u.toList) = true := by rw [hu]; exact txt_eq u
    have HN2 : Hid (staysO (l.take (j + 1)) u t = addS M (stayO x t)) := by
     have := HN.out
     rwa [if_pos hu] at this
    have HAD := Lib.hid (fun W (h : StSl W x0 M) => refAdd_more x0 q0 M (stayO x t) W h HW.out.nil (by have := HLN.out; omega) HW.out.le HW.out.max)
    unfold stV stayO at HAD
    unfold stayO at HN2
    dsimp only at HAD HN2
    generalize addS M ⟨x.f, t, x.n, x.s⟩ = M2 at *
    clear HN hu HLN HW
    go_wp2_with fail
    refine (HST.out x _).mono ?_
    rintro r w2 ⟨rfl, hB⟩
    have HB2 := Lib.hid (HB.out.trans (hB.mono HB.out.size))
    have HS2 := Lib.hid (HS.out.below hB)
    clear hB HST hc0 hc1 hc2 hc3
    go_wp2_with fail
    refine (HAD.out _ HS2.out).mono ?_
    rintro r w3 ⟨x1, q1', rfl, hs, hB, hw⟩
    have HB3 := Lib.hid (HB2.out.trans (hB.mono HB2.out.size))
    have HS3 := Lib.hid hs
    have HW3 := Lib.hid hw
    clear hs hw hB HAD
    go_wp2
    go_roundw
    case rel => exact ⟨j + 1, x1, q1', by omega, by go_num, by rw [HN2.out], (by unfold Hid; rw [HN2.out]; exact HW3.out), (by unfold Hid; rw [HN2.out]; exact HS3.out), HB3.out⟩
    case measure => simp [intOf]; omega
   ·have q1 := txt_ne hu
    have HN2 : Hid (staysO (l.take (j + 1)) u t = M) := by
     have := HN.out
     rwa [if_neg hu] at this
    clear HN hu HLN HST
    go_wp2
    go_roundw
    case rel => exact ⟨j + 1, x0, q0, by omega, by go_num, by rw [HN2.out], (by unfold Hid; rw [HN2.out]; exact HW.out), (by unfold Hid; rw [HN2.out]; exact HS.out), HB.out⟩
    case measure => simp [intOf]; omega
  ·obtain rfl : j = l.length := by omega
   rw [List.take_of_length_le (Nat.le_refl _)] at HS
   have HE : Hid (staysO (l.take l.length) u t = staysO l u t) := by unfold Hid; rw [List.take_of_length_le (Nat.le_refl _)]
   go_wp2
   go_ret
   exact ⟨x0, q0, (by rw [HE.out]; rfl), HS.out, HB.out⟩
end Go.Proofs.YtmfpjapiijgdgaaGreat
namespace Go.Proofs.YtmfpjapiijgdgaaGreat
open Go.RowKit Go.Proofs
set_option linter.unusedVariables false
set_option maxRecDepth 100000
set_option maxRecDepth 100000
set_option maxHeartbeats 8000000 in
theorem rstays_any11 (x : SaL) (u : ByteArray) (t : Int) (w : World) (h : SaAt w x) (hf : Few x.m 400) :
  Calls Tryz.prog 46 #[saV x, .string u, .int .i64 t] w fun e w' => ∃ a q, e = .returned (.slice a (staysS x.m u t).length q) ∧ StSl w' a (staysS x.m u t) ∧ Below w.heap.size w w' := by
 have HK := SB.new (Below.refl w.heap.size w) h 27
 have hol : (ofU x.m.us u).length ≤ 400 := ofU_few hf u
 have hsl : (staysO x.m.op u t).length ≤ 400 := staysO_few _ _ _ hf.op
 have HSO := Lib.hid (fun V (h : SaAt V x) => rof_any x u V h (by have := hf.us; unfold SaL.m at this; simp only at this; rw [umS_len] at this; omega))
 have HOS := Lib.hid (fun V (h : OpSl V x.oa x.op) => rstays_any x.oa x.oc x.op u t V h (Nat.le_trans hf.op (by decide)))
 have HAN := Lib.hid (fun j (hj : j < (staysO x.m.op u t).length) => addsS_next (staysO x.m.op u t) (ofU x.m.us u) j hj)
 have HAL := Lib.hid (fun j => addsS_len ((staysO x.m.op u t).take j) (ofU x.m.us u))
 have HAD := Lib.hid (fun V a c (l : List StM) (s : StM) (h : StSl V a l) (k : Cp a l.length c) (hl : l.length ≤ 1000) => refAdd_more a c l s V h k.nil hl k.le k.mx)
 have HS := Lib.hid HK
 obtain ⟨c0, c1, c2, c3, c4, c5⟩ := HK.cells
 rw [show staysS x.m u t = addsS (staysO x.m.op u t) (ofU x.m.us u) from rfl]
 rw [show x.op = x.m.op from rfl] at HOS c2
 generalize hL : staysO x.m.op u t = L at *
 generalize ofU x.m.us u = O at *
 obtain ⟨now, hor, oa, op, oc, ua, us, uc, sa, su, sc, ta, tb, tc⟩ := x
 unfold saV saC stV at *
 dsimp only at *
 clear h hf HK hL
 go_enter Tryz.func46, Tryz.ntmps46
 go_wp2_with fail
 refine (HSO.out _ HS.out.at_).mono ?_
 rintro e w1 ⟨x1, q1, rfl, l1, k1, h1⟩
 have A2 := Lib.hid (HS.out.below h1)
 have L2 := Lib.hid l1
 have C2 := Lib.hid k1
 clear c0 c1 c2 c3 c4 c5
 obtain ⟨c0, c1, c2, c3, c4, c5⟩ := A2.out.cells
 dsimp only at *
 clear h1 l1 HS HSO k1
 go_wp2_with fail
 refine (HOS.out _ A2.out.at_.op).mono ?_
 rintro e w3 ⟨x3, q3, rfl, l3, h3⟩
 have L3 := Lib.hid (L2.out.below h3)
 have M3 := Lib.hid l3
 have B3 := Lib.hid (A2.out.frame.trans (h3.mono A2.out.frame.size))
 clear c0 c1 c2 c3 c4 c5 A2 L2 HOS l3 h3
 go_wp2
 go_loopw [7, 9] (fun v iv wr => ∃ (j : Nat) (a : Option Addr) (c : Nat), j ≤ L.length ∧ iv = .int .i64 j ∧ v = .slice a (addsS (L.take j) O).length c ∧ Hid (StSl wr a (addsS (L.take j) O)) ∧ Hid (Cp a (addsS (L.take j) O).length c) ∧ Hid (Below w3.heap.size w3 wr)) (fun _ iv _ => L.length - (intOf iv).toNat)
 case atStart => exact ⟨0, _, _, by omega, rfl, rfl, L3.out, C2.out, Below.refl _ _⟩
 case round =>
  clear L3 C2
  obtain ⟨j, a, c, hj, rfl, rfl, HR, HC, HB⟩ := hrel
  by_cases hjl : j < L.length
  ·obtain ⟨b, off, rfl, hbl, r0, r1, r2, r3⟩ := (M3.out.below HB.out) j hjl
   have HN := Lib.hid (HAN.out j hjl)
   have hal := HAL.out j
   have hal2 : (L.take j).length ≤ 400 := by rw [List.length_take]; omega
   have HAJ := Lib.hid (HAD.out _ a c (addsS (L.take j) O) L[j] HR.out HC.out (by omega))
   have HB1 := Lib.hid HB.out
   clear HAN HAL HAD HR HC HB hal hal2
   generalize addsS (L.take j) O = R at *
   generalize L[j] = s at *
   go_wp2_with fail
   refine HAJ.out.mono ?_
   rintro e w4 ⟨x4, q4, rfl, k4, h4, d4⟩
   have HB2 := Lib.hid (HB1.out.trans (h4.mono HB1.out.size))
   have HC2 := Lib.hid (Cp.mk d4.le d4.max d4.nil)
   have HS4 := Lib.hid k4
   clear HAJ HB1 h4 d4 k4 r0 r1 r2 r3
   go_wp2
   go_roundw
   case rel => exact ⟨j + 1, x4, q4, by omega, by go_num, by rw [HN.out], (by unfold Hid; rw [HN.out]; exact HS4.out), (by unfold Hid; rw [HN.out]; exact HC2.out), HB2.out⟩
   case measure => simp [intOf]; omega
  ·obtain rfl : j = L.length := by omega
   rw [List.take_length] at HR HC
   rw [List.take_length]
   have HF := Lib.hid (B3.out.trans (HB.out.mono B3.out.size))
   clear HAN HAL HAD HC HB B3 M3
   go_wp2
   go_ret
   exact ⟨a, c, rfl, HR.out, HF.out⟩
section
variable {M : SaM} (x y : SaL) (V : World) (h : SaAt V x) (k : SaAt V y) (hm : x.m = M) (km : y.m = M)
include h hm
theorem g_rstays (u : ByteArray) (t : Int) (hf : Few M 400) : Calls Tryz.prog 46 #[saV x, .string u, .int .i64 t] V fun r w' => ∃ a q, r = .returned (.slice a (staysS M u t).length q) ∧ StSl w' a (staysS M u t) ∧ Below V.heap.size V w' := by subst hm; exact rstays_any11 x u t V h hf
include k km
end
end Go.Proofs.YtmfpjapiijgdgaaGreat
namespace Go.Proofs.YtmfpjapiijgdgaaGreat
open Go.RowKit Go.Proofs
set_option linter.unusedVariables false
set_option maxRecDepth 100000
theorem fits_without {u : ByteArray} {l : List EvM} (h : FitsV l) : FitsV (withoutV u l) := fun e he => h e (List.mem_filter.1 he).1
end Go.Proofs.YtmfpjapiijgdgaaGreat
