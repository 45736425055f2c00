/- Texts of mine, one behind the other, of each what is wanted. -/
import Derived.Test.YtmfpjapiijgdgaaGreatV00
import Derived.Test.YtmfpjapiijgdgaaGreatShelf
import Derived.Test.YtmfpjapiijgdgaaGreatV01
import Derived.Test.YtmfpjapiijgdgaaGreatV05
import Derived.Test.YtmfpjapiijgdgaaGreatV07
import Derived.Test.YtmfpjapiijgdgaaGreatV17
import Derived.Test.YtmfpjapiijgdgaaGreatV18
import Derived.Test.YtmfpjapiijgdgaaGreatV30
import Derived.Test.YtmfpjapiijgdgaaGreatV31
namespace Go.Proofs.YtmfpjapiijgdgaaGreat
open Go.RowKit Go.Sort Go.Proofs
set_option linter.unusedVariables false
set_option maxRecDepth 100000
set_option maxRecDepth 100000
theorem pieces_step (x : StM) (r : List SpM) (i : Nat) (h : i < r.length) : piecesS x (r.take (i + 1)) = piecesS x (r.take i) ++ (if max x.f r[i].f < min x.t r[i].t then [⟨max x.f r[i].f, min x.t r[i].t, x.n, x.s⟩] else []) := by
 unfold piecesS
 rw [rowOf_take x.sp r i h, List.map_append]
 congr 1
 show List.map (ofSp x) (if max x.f r[i].f < min x.t r[i].t then [meetS x.sp r[i]] else []) = _
 by_cases h1 : max x.f r[i].f < min x.t r[i].t
 ·rw [if_pos h1, if_pos h1]
  rfl
 ·rw [if_neg h1, if_neg h1]
  rfl
set_option maxHeartbeats 4000000 in
theorem refCut_any (a : Option Addr) (c : Nat) (l : List StM) (xb : Option Addr) (cb : Nat) (by_ : List SpM) (w : World) (hr : StSl w a l) (hb : SpSl w xb by_) (hl : l.length ≤ 1000) (hlb : by_.length ≤ 1000) (hs : l.length * (2 * by_.length) ≤ 100000) :
  Calls Tryz.prog 101 #[.slice a l.length c, .slice xb by_.length cb] w fun e w' => ∃ v m, e = .returned v ∧ IsCut l (HasL by_) m ∧ w'.ownsRow w.heap.size 104 4 v m.length (sts m) ∧ Below w.heap.size w w' := by
 obtain ⟨i0, hi, hz0, hz1, hz2⟩ := info_parts infoStayR
 have HR := Lib.hid hr
 have HN := Lib.hid (refNorm_any xb cb by_ w hb (by omega))
 have HSO := Lib.hid sorted_any
 clear hr hb
 have HSZ := Lib.hid hs
 clear hs
 go_enter Tryz.func101, Tryz.ntmps101
 go_wp2_with fail
 refine HN.out.mono ?_
 rintro e w1 ⟨vn, r, rfl, hset, hrl, ho, hb1⟩
 obtain ⟨na, nc, rfl, _, hsp⟩ := own_sp ho
 have HRW := Lib.hid hsp
 have HSET := Lib.hid hset
 have HB1 := Lib.hid hb1
 have HRL : Hid (l.length * r.length ≤ l.length * (2 * by_.length)) := Nat.mul_le_mul_left _ hrl
 have HRA := Lib.hid (fun j => raw_le r (l.take j))
 have hrl3 : r.length ≤ 2000 := by omega
 clear hset ho hsp hb1 HN hrl
 have hrl2 : Hid (∀ j, j ≤ l.length → (rawS (l.take j) r).length ≤ 100000) := fun j hj => by
  have h1 := HRA.out j
  have h2 : (l.take j).length * r.length ≤ l.length * r.length := Nat.mul_le_mul_right _ (by simp; omega)
  have := HRL.out
  have := HSZ.out
  omega
 clear HRA
 go_wp2
 go_loopw [5, 7] (fun v i wr => ∃ (j : Nat), j ≤ l.length ∧ i = .int .i64 j ∧ Hid (wr.ownsRow w1.heap.size 104 4 v (rawS (l.take j) r).length (sts (rawS (l.take j) r))) ∧ Hid (Below w1.heap.size w1 wr)) (fun _ i _ => l.length - (intOf i).toNat)
 case atStart => exact ⟨0, by omega, rfl, ⟨rfl, .inl ⟨rfl, rfl⟩⟩, Below.refl _ _⟩
 case round =>
  obtain ⟨j, hj, rfl, HO, HB⟩ := hrel
  have HBW := Lib.hid (HB1.out.trans (HB.out.mono HB1.out.size))
  by_cases hjl : j < l.length
  ·obtain ⟨lb, lo, rfl, -, -, -, -, -⟩ := HR.out.at_ hjl
   have HLX0 : Hid (∀ W, Below w1.heap.size w1 W → W.cell? ⟨lb, lo + j * 4, none⟩ = some (.int .i64 l[j].f) ∧ W.cell? ⟨lb, lo + j * 4 + 1, none⟩ = some (.int .i64 l[j].t) ∧ W.cell? ⟨lb, lo + j * 4 + 2, none⟩ = some (.int .i64 l[j].n) ∧ W.cell? ⟨lb, lo + j * 4 + 3, none⟩ = some (.int .i64 l[j].s)) := fun W h => by
    obtain ⟨_, _, e, _, h0, h1, h2, h3⟩ := (HR.out.below (HB1.out.trans (h.mono HB1.out.size))).at_ hjl
    cases e
    exact ⟨h0, h1, h2, h3⟩
   have HC := Lib.hid (raw_take l r j hjl)
   have HL1 := Lib.hid (hrl2.out j (by omega))
   obtain ⟨x, hx⟩ : ∃ x, x = l[j] := ⟨_, rfl⟩
   have HLX : Hid (∀ W, Below w1.heap.size w1 W → W.cell? ⟨lb, lo + j * 4, none⟩ = some (.int .i64 x.f) ∧ W.cell? ⟨lb, lo + j * 4 + 1, none⟩ = some (.int .i64 x.t) ∧ W.cell? ⟨lb, lo + j * 4 + 2, none⟩ = some (.int .i64 x.n) ∧ W.cell? ⟨lb, lo + j * 4 + 3, none⟩ = some (.int .i64 x.s)) := by rw [hx]; exact HLX0.out
   rw [← hx] at HC
   clear HLX0 hx
   generalize rawS (l.take j) r = M0 at *
   have HPL : Hid (∀ i, (piecesS x (r.take i)).length ≤ 2000) := fun i => by
    have := pieces_le x (r.take i)
    have h2 : (r.take i).length ≤ r.length := by simp; omega
    omega
   generalize wr = w0 at *
   go_wp2
   go_loopw [5, 8] (fun v i wr => ∃ (k : Nat), k ≤ r.length ∧ i = .int .i64 k ∧ Hid (wr.ownsRow w1.heap.size 104 4 v (M0 ++ piecesS x (r.take k)).length (sts (M0 ++ piecesS x (r.take k)))) ∧ Hid (Below w1.heap.size w1 wr)) (fun _ i _ => r.length - (intOf i).toNat)
   case atStart => exact ⟨0, by omega, rfl, by unfold Hid; rw [show piecesS x (r.take 0) = [] from rfl, List.append_nil]; exact HO.out, HB.out⟩
   case round =>
    clear HO HB
    obtain ⟨i, hik, rfl, HO, HB⟩ := hrel
    by_cases hir : i < r.length
    ·obtain ⟨rb, ro, rfl, -, -, -⟩ := HRW.out.at_ hir
     have HRX0 : Hid (∀ W, Below w1.heap.size w1 W → W.cell? ⟨rb, ro + i * 2, none⟩ = some (.int .i64 r[i].f) ∧ W.cell? ⟨rb, ro + i * 2 + 1, none⟩ = some (.int .i64 r[i].t)) := fun W h => by
      obtain ⟨_, _, e, _, h0, h1⟩ := (HRW.out.below h).at_ hir
      cases e
      exact ⟨h0, h1⟩
     have HTK : Hid (M0 ++ piecesS x (r.take (i + 1)) = M0 ++ piecesS x (r.take i) ++ (if max x.f r[i].f < min x.t r[i].t then [⟨max x.f r[i].f, min x.t r[i].t, x.n, x.s⟩] else [])) := by
      unfold Hid
      rw [pieces_step x r i hir, List.append_assoc]
     obtain ⟨n, hn⟩ : ∃ n, n = r[i] := ⟨_, rfl⟩
     have HSC : Hid (∀ W, Below w1.heap.size w1 W → W.cell? ⟨lb, lo + j * 4, none⟩ = some (.int .i64 x.f) ∧ W.cell? ⟨lb, lo + j * 4 + 1, none⟩ = some (.int .i64 x.t) ∧ W.cell? ⟨lb, lo + j * 4 + 2, none⟩ = some (.int .i64 x.n) ∧ W.cell? ⟨lb, lo + j * 4 + 3, none⟩ = some (.int .i64 x.s) ∧ W.cell? ⟨rb, ro + i * 2, none⟩ = some (.int .i64 n.f) ∧ W.cell? ⟨rb, ro + i * 2 + 1, none⟩ = some (.int .i64 n.t)) := fun W h' => by
      obtain ⟨k0, k1, k2, k3⟩ := HLX.out W h'
      exact ⟨k0, k1, k2, k3, by rw [hn]; exact HRX0.out W h'⟩
     rw [← hn] at HTK
     have HML : Hid ((M0 ++ piecesS x (r.take i)).length ≤ 300000) := by
      unfold Hid
      rw [List.length_append]
      have := HL1.out
      have := HPL.out i
      omega
     clear hn HRX0
     generalize hM : M0 ++ piecesS x (r.take i) = M at *
     clear hM
     have K1 : Hid (Below wr.heap.size wr wr.drew) := (Below.refl _ _).drew
     rcases Int.lt_or_le x.f n.f with h1 | h1 <;> rcases Int.lt_or_le n.t x.t with h2 | h2
     ·have e1 : max x.f n.f = n.f := by omega
      have e2 : min x.t n.t = n.t := by omega
      rw [e1, e2] at HTK
      by_cases h3 : n.f < n.t
      ·have hd := decide_eq_true h3
       have HT2 := HTK
       rw [if_pos h3] at HT2
       clear HTK
       go_wp2_with fail
       go_region_held3 (fun W => W.cell? ⟨lb, lo + j * 4, none⟩ = some (.int .i64 x.f) ∧ W.cell? ⟨lb, lo + j * 4 + 1, none⟩ = some (.int .i64 x.t) ∧ W.cell? ⟨lb, lo + j * 4 + 2, none⟩ = some (.int .i64 x.n) ∧ W.cell? ⟨lb, lo + j * 4 + 3, none⟩ = some (.int .i64 x.s) ∧ W.cell? ⟨rb, ro + i * 2, none⟩ = some (.int .i64 n.f) ∧ W.cell? ⟨rb, ro + i * 2 + 1, none⟩ = some (.int .i64 n.t))
        (first | with_reducible exact HSC.out _ (HB.out.trans (K1.out.mono HB.out.size)))
        (first | (fail))
       generalize wr.drew = wa at *
       have K2 := Lib.hid (K1.out.trans ((Below.refl wa.heap.size wa).drew.mono K1.out.size))
       go_wp2_with fail
       go_region_held3 (fun W => W.cell? ⟨lb, lo + j * 4, none⟩ = some (.int .i64 x.f) ∧ W.cell? ⟨lb, lo + j * 4 + 1, none⟩ = some (.int .i64 x.t) ∧ W.cell? ⟨lb, lo + j * 4 + 2, none⟩ = some (.int .i64 x.n) ∧ W.cell? ⟨lb, lo + j * 4 + 3, none⟩ = some (.int .i64 x.s) ∧ W.cell? ⟨rb, ro + i * 2, none⟩ = some (.int .i64 n.f) ∧ W.cell? ⟨rb, ro + i * 2 + 1, none⟩ = some (.int .i64 n.t))
        (first | with_reducible exact HSC.out _ (HB.out.trans (K2.out.mono HB.out.size)))
        (first | (fail))
       generalize wa.drew = wb at *
       have K3 := Lib.hid (K2.out.trans ((Below.refl wb.heap.size wb).drew.mono K2.out.size))
       have K4 := Lib.hid (K3.out.trans ((below_one wb.drew (.cells #[.int .i64 n.f, .int .i64 n.t, .int .i64 x.n, .int .i64 x.s] 104)).mono K3.out.size))
       have O3 := Lib.hid (own_below HO.out (K2.out.trans (((below_one wb (.cells #[.int .i64 n.f, .int .i64 n.t, .int .i64 x.n, .int .i64 x.s] 104)).drew).mono K2.out.size)))
       have B3 := Lib.hid (HB.out.trans ((K2.out.trans (((below_one wb (.cells #[.int .i64 n.f, .int .i64 n.t, .int .i64 x.n, .int .i64 x.s] 104)).drew).mono K2.out.size)).mono HB.out.size))
       have HS3 := Lib.hid B3.out.size
       have hlj : M.length ≤ 300000 := HML.out
       go_wp2_with fail
       go_region_held3 (fun W => W.cell? ⟨lb, lo + j * 4, none⟩ = some (.int .i64 x.f) ∧ W.cell? ⟨lb, lo + j * 4 + 1, none⟩ = some (.int .i64 x.t) ∧ W.cell? ⟨lb, lo + j * 4 + 2, none⟩ = some (.int .i64 x.n) ∧ W.cell? ⟨lb, lo + j * 4 + 3, none⟩ = some (.int .i64 x.s) ∧ W.cell? ⟨rb, ro + i * 2, none⟩ = some (.int .i64 n.f) ∧ W.cell? ⟨rb, ro + i * 2 + 1, none⟩ = some (.int .i64 n.t))
        (first | with_reducible exact HSC.out _ (HB.out.trans (K3.out.mono HB.out.size)) | with_reducible exact HSC.out _ B3.out | with_reducible exact HSC.out _ hZ)
        (first | (refine step_own rfl (.tmp 50) (.tmp 64) 67 rfl w1.heap.size 104 i0 _ 4 32 Tryz.underlying67 hi hz0 hz1 hz2 rfl (by decide) _ _ _ rfl O3.out ⟨wb.heap.size, 0, none⟩ 1 1 [.int .i64 n.f, .int .i64 n.t, .int .i64 x.n, .int .i64 x.s] rfl rfl (news_at wb _ _ _ rfl) (four_one _ _ _ _) (by unfold maxLen; omega) (by omega) HS3.out ?_; intro v5 w5 hown5 hgrow5; have hZ := app_below B3.out HS3.out O3.out hgrow5))
       have HO5 := Lib.hid hown5
       have HZ := Lib.hid hZ
       clear hown5 hZ hgrow5
       go_wp2
       go_roundw
       case rel => exact ⟨i + 1, by omega, by go_num, by unfold Hid; rw [HT2.out, List.length_append, sts_snoc]; exact HO5.out, HZ.out⟩
       case measure => simp [intOf]; omega
      ·have hd := decide_eq_false h3
       have HT2 := HTK
       rw [if_neg h3, List.append_nil] at HT2
       clear HTK
       go_wp2_with fail
       go_region_held3 (fun W => W.cell? ⟨lb, lo + j * 4, none⟩ = some (.int .i64 x.f) ∧ W.cell? ⟨lb, lo + j * 4 + 1, none⟩ = some (.int .i64 x.t) ∧ W.cell? ⟨lb, lo + j * 4 + 2, none⟩ = some (.int .i64 x.n) ∧ W.cell? ⟨lb, lo + j * 4 + 3, none⟩ = some (.int .i64 x.s) ∧ W.cell? ⟨rb, ro + i * 2, none⟩ = some (.int .i64 n.f) ∧ W.cell? ⟨rb, ro + i * 2 + 1, none⟩ = some (.int .i64 n.t))
        (first | with_reducible exact HSC.out _ (HB.out.trans (K1.out.mono HB.out.size)))
        (first | (fail))
       generalize wr.drew = wa at *
       have K2 := Lib.hid (K1.out.trans ((Below.refl wa.heap.size wa).drew.mono K1.out.size))
       go_wp2_with fail
       go_region_held3 (fun W => W.cell? ⟨lb, lo + j * 4, none⟩ = some (.int .i64 x.f) ∧ W.cell? ⟨lb, lo + j * 4 + 1, none⟩ = some (.int .i64 x.t) ∧ W.cell? ⟨lb, lo + j * 4 + 2, none⟩ = some (.int .i64 x.n) ∧ W.cell? ⟨lb, lo + j * 4 + 3, none⟩ = some (.int .i64 x.s) ∧ W.cell? ⟨rb, ro + i * 2, none⟩ = some (.int .i64 n.f) ∧ W.cell? ⟨rb, ro + i * 2 + 1, none⟩ = some (.int .i64 n.t))
        (first | with_reducible exact HSC.out _ (HB.out.trans (K2.out.mono HB.out.size)))
        (first | (fail))
       generalize wa.drew = wb at *
       have HOb := Lib.hid (own_below HO.out K2.out)
       go_wp2
       go_roundw
       case rel => exact ⟨i + 1, by omega, by go_num, by unfold Hid; rw [HT2.out]; exact HOb.out, HB.out.trans (K2.out.mono HB.out.size)⟩
       case measure => simp [intOf]; omega
     ·have e1 : max x.f n.f = n.f := by omega
      have e2 : min x.t n.t = x.t := by omega
      rw [e1, e2] at HTK
      by_cases h3 : n.f < x.t
      ·have hd := decide_eq_true h3
       have HT2 := HTK
       rw [if_pos h3] at HT2
       clear HTK
       go_wp2_with fail
       go_region_held3 (fun W => W.cell? ⟨lb, lo + j * 4, none⟩ = some (.int .i64 x.f) ∧ W.cell? ⟨lb, lo + j * 4 + 1, none⟩ = some (.int .i64 x.t) ∧ W.cell? ⟨lb, lo + j * 4 + 2, none⟩ = some (.int .i64 x.n) ∧ W.cell? ⟨lb, lo + j * 4 + 3, none⟩ = some (.int .i64 x.s) ∧ W.cell? ⟨rb, ro + i * 2, none⟩ = some (.int .i64 n.f) ∧ W.cell? ⟨rb, ro + i * 2 + 1, none⟩ = some (.int .i64 n.t))
        (first | with_reducible exact HSC.out _ (HB.out.trans (K1.out.mono HB.out.size)))
        (first | (fail))
       generalize wr.drew = wa at *
       have K2 := Lib.hid (K1.out.trans ((Below.refl wa.heap.size wa).drew.mono K1.out.size))
       go_wp2_with fail
       go_region_held3 (fun W => W.cell? ⟨lb, lo + j * 4, none⟩ = some (.int .i64 x.f) ∧ W.cell? ⟨lb, lo + j * 4 + 1, none⟩ = some (.int .i64 x.t) ∧ W.cell? ⟨lb, lo + j * 4 + 2, none⟩ = some (.int .i64 x.n) ∧ W.cell? ⟨lb, lo + j * 4 + 3, none⟩ = some (.int .i64 x.s) ∧ W.cell? ⟨rb, ro + i * 2, none⟩ = some (.int .i64 n.f) ∧ W.cell? ⟨rb, ro + i * 2 + 1, none⟩ = some (.int .i64 n.t))
        (first | with_reducible exact HSC.out _ (HB.out.trans (K2.out.mono HB.out.size)))
        (first | (fail))
       generalize wa.drew = wb at *
       have K3 := Lib.hid (K2.out.trans ((Below.refl wb.heap.size wb).drew.mono K2.out.size))
       have K4 := Lib.hid (K3.out.trans ((below_one wb.drew (.cells #[.int .i64 n.f, .int .i64 x.t, .int .i64 x.n, .int .i64 x.s] 104)).mono K3.out.size))
       have O3 := Lib.hid (own_below HO.out (K2.out.trans (((below_one wb (.cells #[.int .i64 n.f, .int .i64 x.t, .int .i64 x.n, .int .i64 x.s] 104)).drew).mono K2.out.size)))
       have B3 := Lib.hid (HB.out.trans ((K2.out.trans (((below_one wb (.cells #[.int .i64 n.f, .int .i64 x.t, .int .i64 x.n, .int .i64 x.s] 104)).drew).mono K2.out.size)).mono HB.out.size))
       have HS3 := Lib.hid B3.out.size
       have hlj : M.length ≤ 300000 := HML.out
       go_wp2_with fail
       go_region_held3 (fun W => W.cell? ⟨lb, lo + j * 4, none⟩ = some (.int .i64 x.f) ∧ W.cell? ⟨lb, lo + j * 4 + 1, none⟩ = some (.int .i64 x.t) ∧ W.cell? ⟨lb, lo + j * 4 + 2, none⟩ = some (.int .i64 x.n) ∧ W.cell? ⟨lb, lo + j * 4 + 3, none⟩ = some (.int .i64 x.s) ∧ W.cell? ⟨rb, ro + i * 2, none⟩ = some (.int .i64 n.f) ∧ W.cell? ⟨rb, ro + i * 2 + 1, none⟩ = some (.int .i64 n.t))
        (first | with_reducible exact HSC.out _ (HB.out.trans (K3.out.mono HB.out.size)) | with_reducible exact HSC.out _ B3.out | with_reducible exact HSC.out _ hZ)
        (first | (refine step_own rfl (.tmp 50) (.tmp 64) 67 rfl w1.heap.size 104 i0 _ 4 32 Tryz.underlying67 hi hz0 hz1 hz2 rfl (by decide) _ _ _ rfl O3.out ⟨wb.heap.size, 0, none⟩ 1 1 [.int .i64 n.f, .int .i64 x.t, .int .i64 x.n, .int .i64 x.s] rfl rfl (news_at wb _ _ _ rfl) (four_one _ _ _ _) (by unfold maxLen; omega) (by omega) HS3.out ?_; intro v5 w5 hown5 hgrow5; have hZ := app_below B3.out HS3.out O3.out hgrow5))
       have HO5 := Lib.hid hown5
       have HZ := Lib.hid hZ
       clear hown5 hZ hgrow5
       go_wp2
       go_roundw
       case rel => exact ⟨i + 1, by omega, by go_num, by unfold Hid; rw [HT2.out, List.length_append, sts_snoc]; exact HO5.out, HZ.out⟩
       case measure => simp [intOf]; omega
      ·have hd := decide_eq_false h3
       have HT2 := HTK
       rw [if_neg h3, List.append_nil] at HT2
       clear HTK
       go_wp2_with fail
       go_region_held3 (fun W => W.cell? ⟨lb, lo + j * 4, none⟩ = some (.int .i64 x.f) ∧ W.cell? ⟨lb, lo + j * 4 + 1, none⟩ = some (.int .i64 x.t) ∧ W.cell? ⟨lb, lo + j * 4 + 2, none⟩ = some (.int .i64 x.n) ∧ W.cell? ⟨lb, lo + j * 4 + 3, none⟩ = some (.int .i64 x.s) ∧ W.cell? ⟨rb, ro + i * 2, none⟩ = some (.int .i64 n.f) ∧ W.cell? ⟨rb, ro + i * 2 + 1, none⟩ = some (.int .i64 n.t))
        (first | with_reducible exact HSC.out _ (HB.out.trans (K1.out.mono HB.out.size)))
        (first | (fail))
       generalize wr.drew = wa at *
       have K2 := Lib.hid (K1.out.trans ((Below.refl wa.heap.size wa).drew.mono K1.out.size))
       go_wp2_with fail
       go_region_held3 (fun W => W.cell? ⟨lb, lo + j * 4, none⟩ = some (.int .i64 x.f) ∧ W.cell? ⟨lb, lo + j * 4 + 1, none⟩ = some (.int .i64 x.t) ∧ W.cell? ⟨lb, lo + j * 4 + 2, none⟩ = some (.int .i64 x.n) ∧ W.cell? ⟨lb, lo + j * 4 + 3, none⟩ = some (.int .i64 x.s) ∧ W.cell? ⟨rb, ro + i * 2, none⟩ = some (.int .i64 n.f) ∧ W.cell? ⟨rb, ro + i * 2 + 1, none⟩ = some (.int .i64 n.t))
        (first | with_reducible exact HSC.out _ (HB.out.trans (K2.out.mono HB.out.size)))
        (first | (fail))
       generalize wa.drew = wb at *
       have HOb := Lib.hid (own_below HO.out K2.out)
       go_wp2
       go_roundw
       case rel => exact ⟨i + 1, by omega, by go_num, by unfold Hid; rw [HT2.out]; exact HOb.out, HB.out.trans (K2.out.mono HB.out.size)⟩
       case measure => simp [intOf]; omega
     ·have e1 : max x.f n.f = x.f := by omega
      have e2 : min x.t n.t = n.t := by omega
      rw [e1, e2] at HTK
      by_cases h3 : x.f < n.t
      ·have hd := decide_eq_true h3
       have HT2 := HTK
       rw [if_pos h3] at HT2
       clear HTK
       go_wp2_with fail
       go_region_held3 (fun W => W.cell? ⟨lb, lo + j * 4, none⟩ = some (.int .i64 x.f) ∧ W.cell? ⟨lb, lo + j * 4 + 1, none⟩ = some (.int .i64 x.t) ∧ W.cell? ⟨lb, lo + j * 4 + 2, none⟩ = some (.int .i64 x.n) ∧ W.cell? ⟨lb, lo + j * 4 + 3, none⟩ = some (.int .i64 x.s) ∧ W.cell? ⟨rb, ro + i * 2, none⟩ = some (.int .i64 n.f) ∧ W.cell? ⟨rb, ro + i * 2 + 1, none⟩ = some (.int .i64 n.t))
        (first | with_reducible exact HSC.out _ (HB.out.trans (K1.out.mono HB.out.size)))
        (first | (fail))
       generalize wr.drew = wa at *
       have K2 := Lib.hid (K1.out.trans ((Below.refl wa.heap.size wa).drew.mono K1.out.size))
       go_wp2_with fail
       go_region_held3 (fun W => W.cell? ⟨lb, lo + j * 4, none⟩ = some (.int .i64 x.f) ∧ W.cell? ⟨lb, lo + j * 4 + 1, none⟩ = some (.int .i64 x.t) ∧ W.cell? ⟨lb, lo + j * 4 + 2, none⟩ = some (.int .i64 x.n) ∧ W.cell? ⟨lb, lo + j * 4 + 3, none⟩ = some (.int .i64 x.s) ∧ W.cell? ⟨rb, ro + i * 2, none⟩ = some (.int .i64 n.f) ∧ W.cell? ⟨rb, ro + i * 2 + 1, none⟩ = some (.int .i64 n.t))
        (first | with_reducible exact HSC.out _ (HB.out.trans (K2.out.mono HB.out.size)))
        (first | (fail))
       generalize wa.drew = wb at *
       have K3 := Lib.hid (K2.out.trans ((Below.refl wb.heap.size wb).drew.mono K2.out.size))
       have K4 := Lib.hid (K3.out.trans ((below_one wb.drew (.cells #[.int .i64 x.f, .int .i64 n.t, .int .i64 x.n, .int .i64 x.s] 104)).mono K3.out.size))
       have O3 := Lib.hid (own_below HO.out (K2.out.trans (((below_one wb (.cells #[.int .i64 x.f, .int .i64 n.t, .int .i64 x.n, .int .i64 x.s] 104)).drew).mono K2.out.size)))
       have B3 := Lib.hid (HB.out.trans ((K2.out.trans (((below_one wb (.cells #[.int .i64 x.f, .int .i64 n.t, .int .i64 x.n, .int .i64 x.s] 104)).drew).mono K2.out.size)).mono HB.out.size))
       have HS3 := Lib.hid B3.out.size
       have hlj : M.length ≤ 300000 := HML.out
       go_wp2_with fail
       go_region_held3 (fun W => W.cell? ⟨lb, lo + j * 4, none⟩ = some (.int .i64 x.f) ∧ W.cell? ⟨lb, lo + j * 4 + 1, none⟩ = some (.int .i64 x.t) ∧ W.cell? ⟨lb, lo + j * 4 + 2, none⟩ = some (.int .i64 x.n) ∧ W.cell? ⟨lb, lo + j * 4 + 3, none⟩ = some (.int .i64 x.s) ∧ W.cell? ⟨rb, ro + i * 2, none⟩ = some (.int .i64 n.f) ∧ W.cell? ⟨rb, ro + i * 2 + 1, none⟩ = some (.int .i64 n.t))
        (first | with_reducible exact HSC.out _ (HB.out.trans (K3.out.mono HB.out.size)) | with_reducible exact HSC.out _ B3.out | with_reducible exact HSC.out _ hZ)
        (first | (refine step_own rfl (.tmp 50) (.tmp 64) 67 rfl w1.heap.size 104 i0 _ 4 32 Tryz.underlying67 hi hz0 hz1 hz2 rfl (by decide) _ _ _ rfl O3.out ⟨wb.heap.size, 0, none⟩ 1 1 [.int .i64 x.f, .int .i64 n.t, .int .i64 x.n, .int .i64 x.s] rfl rfl (news_at wb _ _ _ rfl) (four_one _ _ _ _) (by unfold maxLen; omega) (by omega) HS3.out ?_; intro v5 w5 hown5 hgrow5; have hZ := app_below B3.out HS3.out O3.out hgrow5))
       have HO5 := Lib.hid hown5
       have HZ := Lib.hid hZ
       clear hown5 hZ hgrow5
       go_wp2
       go_roundw
       case rel => exact ⟨i + 1, by omega, by go_num, by unfold Hid; rw [HT2.out, List.length_append, sts_snoc]; exact HO5.out, HZ.out⟩
       case measure => simp [intOf]; omega
      ·have hd := decide_eq_false h3
       have HT2 := HTK
       rw [if_neg h3, List.append_nil] at HT2
       clear HTK
       go_wp2_with fail
       go_region_held3 (fun W => W.cell? ⟨lb, lo + j * 4, none⟩ = some (.int .i64 x.f) ∧ W.cell? ⟨lb, lo + j * 4 + 1, none⟩ = some (.int .i64 x.t) ∧ W.cell? ⟨lb, lo + j * 4 + 2, none⟩ = some (.int .i64 x.n) ∧ W.cell? ⟨lb, lo + j * 4 + 3, none⟩ = some (.int .i64 x.s) ∧ W.cell? ⟨rb, ro + i * 2, none⟩ = some (.int .i64 n.f) ∧ W.cell? ⟨rb, ro + i * 2 + 1, none⟩ = some (.int .i64 n.t))
        (first | with_reducible exact HSC.out _ (HB.out.trans (K1.out.mono HB.out.size)))
        (first | (fail))
       generalize wr.drew = wa at *
       have K2 := Lib.hid (K1.out.trans ((Below.refl wa.heap.size wa).drew.mono K1.out.size))
       go_wp2_with fail
       go_region_held3 (fun W => W.cell? ⟨lb, lo + j * 4, none⟩ = some (.int .i64 x.f) ∧ W.cell? ⟨lb, lo + j * 4 + 1, none⟩ = some (.int .i64 x.t) ∧ W.cell? ⟨lb, lo + j * 4 + 2, none⟩ = some (.int .i64 x.n) ∧ W.cell? ⟨lb, lo + j * 4 + 3, none⟩ = some (.int .i64 x.s) ∧ W.cell? ⟨rb, ro + i * 2, none⟩ = some (.int .i64 n.f) ∧ W.cell? ⟨rb, ro + i * 2 + 1, none⟩ = some (.int .i64 n.t))
        (first | with_reducible exact HSC.out _ (HB.out.trans (K2.out.mono HB.out.size)))
        (first | (fail))
       generalize wa.drew = wb at *
       have HOb := Lib.hid (own_below HO.out K2.out)
       go_wp2
       go_roundw
       case rel => exact ⟨i + 1, by omega, by go_num, by unfold Hid; rw [HT2.out]; exact HOb.out, HB.out.trans (K2.out.mono HB.out.size)⟩
       case measure => simp [intOf]; omega
     ·have e1 : max x.f n.f = x.f := by omega
      have e2 : min x.t n.t = x.t := by omega
      rw [e1, e2] at HTK
      by_cases h3 : x.f < x.t
      ·have hd := decide_eq_true h3
       have HT2 := HTK
       rw [if_pos h3] at HT2
       clear HTK
       go_wp2_with fail
       go_region_held3 (fun W => W.cell? ⟨lb, lo + j * 4, none⟩ = some (.int .i64 x.f) ∧ W.cell? ⟨lb, lo + j * 4 + 1, none⟩ = some (.int .i64 x.t) ∧ W.cell? ⟨lb, lo + j * 4 + 2, none⟩ = some (.int .i64 x.n) ∧ W.cell? ⟨lb, lo + j * 4 + 3, none⟩ = some (.int .i64 x.s) ∧ W.cell? ⟨rb, ro + i * 2, none⟩ = some (.int .i64 n.f) ∧ W.cell? ⟨rb, ro + i * 2 + 1, none⟩ = some (.int .i64 n.t))
        (first | with_reducible exact HSC.out _ (HB.out.trans (K1.out.mono HB.out.size)))
        (first | (fail))
       generalize wr.drew = wa at *
       have K2 := Lib.hid (K1.out.trans ((Below.refl wa.heap.size wa).drew.mono K1.out.size))
       go_wp2_with fail
       go_region_held3 (fun W => W.cell? ⟨lb, lo + j * 4, none⟩ = some (.int .i64 x.f) ∧ W.cell? ⟨lb, lo + j * 4 + 1, none⟩ = some (.int .i64 x.t) ∧ W.cell? ⟨lb, lo + j * 4 + 2, none⟩ = some (.int .i64 x.n) ∧ W.cell? ⟨lb, lo + j * 4 + 3, none⟩ = some (.int .i64 x.s) ∧ W.cell? ⟨rb, ro + i * 2, none⟩ = some (.int .i64 n.f) ∧ W.cell? ⟨rb, ro + i * 2 + 1, none⟩ = some (.int .i64 n.t))
        (first | with_reducible exact HSC.out _ (HB.out.trans (K2.out.mono HB.out.size)))
        (first | (fail))
       generalize wa.drew = wb at *
       have K3 := Lib.hid (K2.out.trans ((Below.refl wb.heap.size wb).drew.mono K2.out.size))
       have K4 := Lib.hid (K3.out.trans ((below_one wb.drew (.cells #[.int .i64 x.f, .int .i64 x.t, .int .i64 x.n, .int .i64 x.s] 104)).mono K3.out.size))
       have O3 := Lib.hid (own_below HO.out (K2.out.trans (((below_one wb (.cells #[.int .i64 x.f, .int .i64 x.t, .int .i64 x.n, .int .i64 x.s] 104)).drew).mono K2.out.size)))
       have B3 := Lib.hid (HB.out.trans ((K2.out.trans (((below_one wb (.cells #[.int .i64 x.f, .int .i64 x.t, .int .i64 x.n, .int .i64 x.s] 104)).drew).mono K2.out.size)).mono HB.out.size))
       have HS3 := Lib.hid B3.out.size
       have hlj : M.length ≤ 300000 := HML.out
       go_wp2_with fail
       go_region_held3 (fun W => W.cell? ⟨lb, lo + j * 4, none⟩ = some (.int .i64 x.f) ∧ W.cell? ⟨lb, lo + j * 4 + 1, none⟩ = some (.int .i64 x.t) ∧ W.cell? ⟨lb, lo + j * 4 + 2, none⟩ = some (.int .i64 x.n) ∧ W.cell? ⟨lb, lo + j * 4 + 3, none⟩ = some (.int .i64 x.s) ∧ W.cell? ⟨rb, ro + i * 2, none⟩ = some (.int .i64 n.f) ∧ W.cell? ⟨rb, ro + i * 2 + 1, none⟩ = some (.int .i64 n.t))
        (first | with_reducible exact HSC.out _ (HB.out.trans (K3.out.mono HB.out.size)) | with_reducible exact HSC.out _ B3.out | with_reducible exact HSC.out _ hZ)
        (first | (refine step_own rfl (.tmp 50) (.tmp 64) 67 rfl w1.heap.size 104 i0 _ 4 32 Tryz.underlying67 hi hz0 hz1 hz2 rfl (by decide) _ _ _ rfl O3.out ⟨wb.heap.size, 0, none⟩ 1 1 [.int .i64 x.f, .int .i64 x.t, .int .i64 x.n, .int .i64 x.s] rfl rfl (news_at wb _ _ _ rfl) (four_one _ _ _ _) (by unfold maxLen; omega) (by omega) HS3.out ?_; intro v5 w5 hown5 hgrow5; have hZ := app_below B3.out HS3.out O3.out hgrow5))
       have HO5 := Lib.hid hown5
       have HZ := Lib.hid hZ
       clear hown5 hZ hgrow5
       go_wp2
       go_roundw
       case rel => exact ⟨i + 1, by omega, by go_num, by unfold Hid; rw [HT2.out, List.length_append, sts_snoc]; exact HO5.out, HZ.out⟩
       case measure => simp [intOf]; omega
      ·have hd := decide_eq_false h3
       have HT2 := HTK
       rw [if_neg h3, List.append_nil] at HT2
       clear HTK
       go_wp2_with fail
       go_region_held3 (fun W => W.cell? ⟨lb, lo + j * 4, none⟩ = some (.int .i64 x.f) ∧ W.cell? ⟨lb, lo + j * 4 + 1, none⟩ = some (.int .i64 x.t) ∧ W.cell? ⟨lb, lo + j * 4 + 2, none⟩ = some (.int .i64 x.n) ∧ W.cell? ⟨lb, lo + j * 4 + 3, none⟩ = some (.int .i64 x.s) ∧ W.cell? ⟨rb, ro + i * 2, none⟩ = some (.int .i64 n.f) ∧ W.cell? ⟨rb, ro + i * 2 + 1, none⟩ = some (.int .i64 n.t))
        (first | with_reducible exact HSC.out _ (HB.out.trans (K1.out.mono HB.out.size)))
        (first | (fail))
       generalize wr.drew = wa at *
       have K2 := Lib.hid (K1.out.trans ((Below.refl wa.heap.size wa).drew.mono K1.out.size))
       go_wp2_with fail
       go_region_held3 (fun W => W.cell? ⟨lb, lo + j * 4, none⟩ = some (.int .i64 x.f) ∧ W.cell? ⟨lb, lo + j * 4 + 1, none⟩ = some (.int .i64 x.t) ∧ W.cell? ⟨lb, lo + j * 4 + 2, none⟩ = some (.int .i64 x.n) ∧ W.cell? ⟨lb, lo + j * 4 + 3, none⟩ = some (.int .i64 x.s) ∧ W.cell? ⟨rb, ro + i * 2, none⟩ = some (.int .i64 n.f) ∧ W.cell? ⟨rb, ro + i * 2 + 1, none⟩ = some (.int .i64 n.t))
        (first | with_reducible exact HSC.out _ (HB.out.trans (K2.out.mono HB.out.size)))
        (first | (fail))
       generalize wa.drew = wb at *
       have HOb := Lib.hid (own_below HO.out K2.out)
       go_wp2
       go_roundw
       case rel => exact ⟨i + 1, by omega, by go_num, by unfold Hid; rw [HT2.out]; exact HOb.out, HB.out.trans (K2.out.mono HB.out.size)⟩
       case measure => simp [intOf]; omega
    ·obtain rfl : i = r.length := by omega
     rw [List.take_of_length_le (Nat.le_refl _)] at HO
     go_wp2
     go_roundw
     case rel => exact ⟨j + 1, by omega, by go_num, by unfold Hid; rw [HC.out]; exact HO.out, HB.out⟩
     case measure => simp [intOf]; omega
  ·obtain rfl : j = l.length := by omega
   have HLJ := hrl2.out l.length (Nat.le_refl _)
   rw [List.take_of_length_le (Nat.le_refl _)] at HO HLJ
   obtain ⟨oa, oc, rfl, _, _, hos, _⟩ := own_st HO.out
   generalize hM : rawS l r = M at *
   have HS := Lib.hid (HSO.out oa oc M wr hos (by omega))
   clear HLJ hos
   go_wp2_with fail
   refine HS.out.mono ?_
   rintro e w5 ⟨v5, m, rfl, hperm, hsort, ho5, hb5⟩
   go_wp2
   go_ret
   exact ⟨_, m, rfl, ⟨r, HSET.out, hM ▸ hperm, hsort⟩, own_low ho5 HBW.out.size, HBW.out.trans (hb5.mono HBW.out.size)⟩
end Go.Proofs.YtmfpjapiijgdgaaGreat
