/- Layer 6: the document's own guess at an event, and its Of: contracts. -/
import Derived.Test.YtollhemkjnkalaaGreatDoorK2
import Derived.Test.YtollhemkjnkalaaGreatDoorK6
import Derived.Test.YtollhemkjnkalaaGreatDoorJ8
namespace Go.Proofs.YtollhemkjnkalaaGreatDoor
open Go.RowKit Go.Shelf
set_option linter.unusedVariables false
set_option maxRecDepth 100000

theorem refG_cons (k : Int) (a b : ByteArray) (r : List ByteArray) : refG k (a :: b :: r) = if k = 6 then ⟨k, numW a, ⟨#[]⟩, ⟨#[]⟩, numW b, 0⟩ else if k = 4 ∨ k = 5 then ⟨k, numW a, b, headW r, 0, 0⟩ else ⟨k, numW a, b, ⟨#[]⟩, numW (headW r), numW (headW (tailW r))⟩ := rfl
theorem infoInt : (Tryz.prog.info? 3).map (fun i => (i.zero, i.size, i.bytes)) = some (some (.int .i64 0), 1, 8) := by kernel_rfl
theorem infoEvR : (Tryz.prog.info? 29).map (·.size) = some 6 := by kernel_rfl
def numsW (L : List ByteArray) : List Value := L.map fun s => .int .i64 (numW s)
theorem numsW_len (L : List ByteArray) : (numsW L).length = L.length := by simp [numsW]
theorem numsW_take (L : List ByteArray) (j : Nat) (h : j < L.length) : numsW (L.take (j + 1)) = numsW (L.take j) ++ [.int .i64 (numW L[j])] := by
  unfold numsW
  rw [List.take_succ_eq_append_getElem h, List.map_append]; rfl
/-- the result's block, still empty, and the event's, that has its kind -/
structure GsW (w : World) (e : EvM) (W : World) : Prop where
  res : W.heap[w.heap.size]? = some (.cells #[.int .i64 0, .int .i64 0, .string ⟨#[]⟩, .string ⟨#[]⟩, .int .i64 0, .int .i64 0] 29 (0, 0))
  ev : W.heap[w.heap.size + 1]? = some (.cells #[.int .i64 e.kind, .int .i64 e.at_, .string e.user, .string e.other, .int .i64 e.n, .int .i64 e.status] 29 (0, 0))
  size : w.heap.size + 2 ≤ W.heap.size
  frame : Below w.heap.size w W
theorem GsW.below {w W W' : World} {e : EvM} (h : GsW w e W) (q : Below W.heap.size W W') : GsW w e W' :=
  ⟨(q.block _ (by have := h.size; omega)).trans h.res, (q.block _ (by have := h.size; omega)).trans h.ev, Nat.le_trans h.size q.size, h.frame.trans (q.mono h.frame.size)⟩
theorem GsW.grow {w W W' : World} {e : EvM} (h : GsW w e W) (q : Below (w.heap.size + 2) W W') : GsW w e W' :=
  ⟨(q.block _ (by omega)).trans h.res, (q.block _ (by omega)).trans h.ev, Nat.le_trans h.size q.size, h.frame.trans (q.mono (by omega))⟩
theorem loadEvR {W : World} {g : Nat} {a b c d e f : Value} {t : TypeId} (h : W.heap[g]? = some (.cells #[a, b, c, d, e, f] t (0, 0))) :
    (loadVar 29 ⟨g, 0, none⟩).run Tryz.prog W = .ok (.agg #[a, b, c, d, e, f]) W := 
  run_loadVar_mid (P := Tryz.prog) W g 0 29 [a, b, c, d, e, f] _ (fun j v hv => by
    rw [Nat.zero_add, cell_of_row _ _ _ _ _ (0, 0) h]
    simpa using hv) Tryz.underlying29 rfl infoEvR
theorem finR {w W : World} {R : Nat} {a0 b0 c0 d0 e0 f0 : Value} (h : W.heap[R]? = some (.cells #[a0, b0, c0, d0, e0, f0] 29 (0, 0))) (hB : Below w.heap.size w W) (hR : w.heap.size ≤ R) (a b c d e f : Value) :
    (loadVar 29 ⟨R, 0, none⟩).run Tryz.prog ((((((W.setCell ⟨R, 0, none⟩ a).setCell ⟨R, 1, none⟩ b).setCell ⟨R, 2, none⟩ c).setCell ⟨R, 3, none⟩ d).setCell ⟨R, 4, none⟩ e).setCell ⟨R, 5, none⟩ f) = .ok (.agg #[a, b, c, d, e, f]) ((((((W.setCell ⟨R, 0, none⟩ a).setCell ⟨R, 1, none⟩ b).setCell ⟨R, 2, none⟩ c).setCell ⟨R, 3, none⟩ d).setCell ⟨R, 4, none⟩ e).setCell ⟨R, 5, none⟩ f) ∧
    Below w.heap.size w ((((((W.setCell ⟨R, 0, none⟩ a).setCell ⟨R, 1, none⟩ b).setCell ⟨R, 2, none⟩ c).setCell ⟨R, 3, none⟩ d).setCell ⟨R, 4, none⟩ e).setCell ⟨R, 5, none⟩ f) :=
  ⟨loadEvR (set6_at h a b c d e f), set6_below hB hR a b c d e f⟩
theorem GsW.new (w : World) (e : EvM) : GsW w e ((w.alloc (.cells #[.int .i64 0, .int .i64 0, .string ⟨#[]⟩, .string ⟨#[]⟩, .int .i64 0, .int .i64 0] 29)).alloc (.cells #[.int .i64 e.kind, .int .i64 e.at_, .string e.user, .string e.other, .int .i64 e.n, .int .i64 e.status] 29)) := by
  refine ⟨(Below.heap_alloc _ _ w.heap.size (by rw [size1]; omega)).trans (heap_alloc_new w _), ?_, by rw [size1, size1]; omega, ((Below.refl _ _).alloc (Nat.le_refl _) _).alloc (by rw [size1]; omega) _⟩
  have := heap_alloc_new (w.alloc (.cells #[.int .i64 0, .int .i64 0, .string ⟨#[]⟩, .string ⟨#[]⟩, .int .i64 0, .int .i64 0] 29)) (.cells #[.int .i64 e.kind, .int .i64 e.at_, .string e.user, .string e.other, .int .i64 e.n, .int .i64 e.status] 29)
  rwa [size1] at this

set_option maxHeartbeats 2000000 in
theorem guess_any (k : Int) (hk : I64 k) (L : List ByteArray) (hf : ∀ s ∈ L, s.size ≤ maxLen) (hL : L.length ≤ 100000) (a : Option Addr) (c : Nat) (w : World) (hs : Sl w a (strs L)) :
    Calls Tryz.prog 54 #[.int .i64 k, .slice a L.length c] w fun r w' => r = .returned (evV (refG k L)) ∧ Below w.heap.size w w' := by
  obtain ⟨i0, hi, hz0, hz1, hz2⟩ := info_parts infoInt
  have HS := Lib.hid hs
  have HLB : Hid (∀ b o, a = some ⟨b, o, none⟩ → L ≠ [] → b < w.heap.size) := fun b o e hne => by
    obtain ⟨b1, o1, e1, h1, _⟩ := hs 0 (by rw [strs_length]; exact List.length_pos_iff.2 hne)
    rw [e] at e1; cases e1; exact h1
  have HUN := Lib.hid (fun (s : ByteArray) W (h : s.size ≤ maxLen) => refUndec_any s W h)
  have HNW := Lib.hid (GsW.new w ⟨k, 0, ⟨#[]⟩, ⟨#[]⟩, 0, 0⟩)
  unfold I64 at hk
  clear hs
  obtain ⟨n, hn⟩ : ∃ n, n = L.length := ⟨_, rfl⟩
  rw [← hn] at hL ⊢
  have HLN := Lib.hid hn
  clear hn
  go_enter Tryz.func54, Tryz.ntmps54
  go_wp2
  generalize ((w.alloc (.cells #[.int .i64 0, .int .i64 0, .string ⟨#[]⟩, .string ⟨#[]⟩, .int .i64 0, .int .i64 0] 29)).alloc (.cells #[.int .i64 k, .int .i64 0, .string ⟨#[]⟩, .string ⟨#[]⟩, .int .i64 0, .int .i64 0] 29)) = W0 at *
  go_loopw [6, 7] (fun v i wr => ∃ (j : Nat), j ≤ n ∧ i = .int .i64 j ∧ Hid (wr.ownsRow (w.heap.size + 2) 3 1 v j (numsW (L.take j))) ∧ Hid (GsW w ⟨k, 0, ⟨#[]⟩, ⟨#[]⟩, 0, 0⟩ wr)) (fun _ i _ => n - (intOf i).toNat)
  case atStart => exact ⟨0, by omega, rfl, ⟨rfl, .inl ⟨rfl, rfl⟩⟩, HNW.out⟩
  case round =>
    obtain ⟨j, hj, rfl, HO, HG⟩ := hrel
    by_cases hjl : j < n
    · have hjL : j < L.length := by have := HLN.out; omega
      obtain ⟨b, off, rfl, hbl, hc0⟩ := (HS.out.below HG.out.frame).str hjL
      have HT := Lib.hid (numsW_take L j hjL)
      have HU := Lib.hid (fun W => HUN.out L[j] W (hf _ (List.getElem_mem hjL)))
      have HNM : Hid ((undecL L[j].data.toList).getD 0 = numW L[j]) := rfl
      unfold optV at HU
      rw [HNM.out] at HU
      clear HNM HUN hf
      generalize L[j] = x at *
      have hnx := undec_in x
      generalize numW x = nx at *
      generalize (undecL x.data.toList).isSome = bx at *
      go_wp2_with fail
      refine (HU.out _).mono ?_
      rintro e w2 ⟨rfl, h2⟩
      have HB2 := Lib.hid ((Below.refl w2.heap.size w2).alloc (Nat.le_refl _) (.cells #[.int .i64 nx] 3))
      have HO2 := Lib.hid (own_below (own_below HO.out h2) HB2.out)
      have HG2 := Lib.hid ((HG.out.below h2).below HB2.out)
      have HS2 := Lib.hid HG2.out.size
      clear h2 HU HO HG
      go_wp2_with (at_builtin; refine wpList_append_own _ rfl (.tmp 26) (.tmp 28) 119 rfl (w.heap.size + 2) 3 i0 _ 1 8 Tryz.underlying119 hi hz0 hz1 hz2 rfl (by decide) _ _ _ rfl HO2.out ⟨w2.heap.size, 0, none⟩ 1 1 [.int .i64 nx] rfl rfl (news_at _ _ _ _ rfl) (fun u hu => by rw [List.mem_singleton.1 hu]; rfl) (by unfold maxLen; omega) (by omega) HS2.out ?_; intro v' w3 hown' hgrow hiff)
      have HG3 := Lib.hid (HG2.out.grow (app_below (Below.refl _ _) HS2.out HO2.out hgrow))
      have HO3 := Lib.hid hown'
      clear hown' hgrow hiff HG2 HS2 HO2 HB2
      go_wp2
      go_roundw
      case rel => exact ⟨j + 1, by omega, by go_num, (by unfold Hid; rw [HT.out]; exact HO3.out), HG3⟩
      case measure => simp [intOf]; omega
    · obtain rfl : n = j := by omega
      rw [List.take_of_length_le (by rw [← HLN.out]; exact Nat.le_refl _)] at HO
      obtain ⟨a2, c2, rfl, hc2, _, hs2, hlow, _⟩ := own_slice HO.out
      have HS2 := Lib.hid hs2
      have HLOW := Lib.hid hlow
      have HSW := Lib.hid (HS.out.below HG.out.frame)
      have HRS := Lib.hid HG.out.res
      have HFR := Lib.hid HG.out.frame
      have hsz := HG.out.size
      have hsz1 : w.heap.size < wr.heap.size := by omega
      have hsz2 : w.heap.size + 1 < wr.heap.size := by omega
      obtain ⟨⟨e0, e1, e2, e3, e4, e5⟩, p0, p1, p2, p3, p4, p5⟩ := cells6 HG.out.ev
      obtain ⟨⟨z0, z1, z2, z3, z4, z5⟩, y0, y1, y2, y3, y4, y5⟩ := cells6 HG.out.res
      clear hs2 hlow HO HG HS HUN hf HNW hi hz0 hz1 hz2
      cases L with
      | nil =>
        obtain rfl : n = 0 := HLN.out
        clear HS2 HLOW HSW
        have HF := finR (W := wr) (w := w) (R := w.heap.size) HRS.out HFR.out (Nat.le_refl _) (.int .i64 k) (.int .i64 0) (.string ⟨#[]⟩) (.string ⟨#[]⟩) (.int .i64 0) (.int .i64 0)
        go_wp2
        refine bodyPost_ret (v := .agg #[.int .i64 k, .int .i64 0, .string ⟨#[]⟩, .string ⟨#[]⟩, .int .i64 0, .int .i64 0]) ?_ rfl ?_
        · rw [results_cell1 rfl]
          simp [asAddr, Result.andThen, HF.1]
        · exact ⟨rfl, HF.2⟩
      | cons x1 L1 =>
      cases L1 with
      | nil =>
        obtain rfl : n = 1 := HLN.out
        clear HS2 HLOW HSW
        have HF := finR (W := wr) (w := w) (R := w.heap.size) HRS.out HFR.out (Nat.le_refl _) (.int .i64 k) (.int .i64 0) (.string ⟨#[]⟩) (.string ⟨#[]⟩) (.int .i64 0) (.int .i64 0)
        go_wp2
        refine bodyPost_ret (v := .agg #[.int .i64 k, .int .i64 0, .string ⟨#[]⟩, .string ⟨#[]⟩, .int .i64 0, .int .i64 0]) ?_ rfl ?_
        · rw [results_cell1 rfl]
          simp [asAddr, Result.andThen, HF.1]
        · exact ⟨rfl, HF.2⟩
      | cons x2 L2 =>
      obtain ⟨b, o, rfl, hb, hc0⟩ := HSW.out 0 (by simp [strs])
      obtain ⟨b', o', he, hb', hd0⟩ := HS2.out 0 (by simp [numsW])
      obtain ⟨_, _, he1, _, hc1⟩ := HSW.out 1 (by simp [strs])
      obtain ⟨_, _, he2, _, hd1⟩ := HS2.out 1 (by simp [numsW])
      subst he
      cases he1
      cases he2
      have hbw : b < w.heap.size := HLB.out b o rfl (by simp)
      have hbn : w.heap.size + 2 ≤ b' := HLOW.out b' o' rfl
      have v1 := undec_in x1
      have v2 := undec_in x2
      simp only [strs, numsW, List.map_cons, List.getElem_cons_zero, List.getElem_cons_succ, Nat.add_zero] at hc0 hc1 hd0 hd1
      have hn2 : 2 ≤ n := by have := HLN.out; simp only [List.length_cons] at this; omega
      have hm0 : b ≠ w.heap.size + 1 := by omega
      have hm1 : b' ≠ w.heap.size + 1 := by omega
      by_cases h6 : k = 6
      · subst h6
        have HR6 : Hid (evV (refG 6 (x1 :: x2 :: L2)) = .agg #[.int .i64 6, .int .i64 (numW x1), .string ⟨#[]⟩, .string ⟨#[]⟩, .int .i64 (numW x2), .int .i64 0]) := by unfold Hid; rw [refG_cons, if_pos rfl]; rfl
        clear HS2 HLOW HSW
        generalize numW x1 = n1 at *
        generalize numW x2 = n2 at *
        have HF := finR (W := ((wr.setCell ⟨w.heap.size + 1, 1, none⟩ (.int .i64 n1)).setCell ⟨w.heap.size + 1, 4, none⟩ (.int .i64 n2))) (w := w) (R := w.heap.size) ((heap_set_far (by omega)).trans ((heap_set_far (by omega)).trans HRS.out)) ((HFR.out.setCell (p := ⟨w.heap.size + 1, 1, none⟩) (by show w.heap.size ≤ w.heap.size + 1; omega) (.int .i64 n1)).setCell (p := ⟨w.heap.size + 1, 4, none⟩) (by show w.heap.size ≤ w.heap.size + 1; omega) (.int .i64 n2)) (Nat.le_refl _) (.int .i64 6) (.int .i64 n1) (.string ⟨#[]⟩) (.string ⟨#[]⟩) (.int .i64 n2) (.int .i64 0)
        go_wp2
        refine bodyPost_ret (v := .agg #[.int .i64 6, .int .i64 n1, .string ⟨#[]⟩, .string ⟨#[]⟩, .int .i64 n2, .int .i64 0]) ?_ rfl ?_
        · rw [results_cell1 rfl]
          simp [asAddr, Result.andThen, HF.1]
        · exact ⟨by rw [HR6.out], HF.2⟩
      · by_cases h45 : k = 4 ∨ k = 5
        · cases L2 with
          | nil =>
            obtain rfl : n = 2 := HLN.out
            have HR6 : Hid (evV (refG k [x1, x2]) = .agg #[.int .i64 k, .int .i64 (numW x1), .string x2, .string ⟨#[]⟩, .int .i64 0, .int .i64 0]) := by unfold Hid; rw [refG_cons, if_neg h6, if_pos h45]; rfl
            clear HS2 HLOW HSW
            generalize numW x1 = n1 at *
            generalize numW x2 = n2 at *
            rcases h45 with rfl | rfl
            · have HF := finR (W := ((wr.setCell ⟨w.heap.size + 1, 1, none⟩ (.int .i64 n1)).setCell ⟨w.heap.size + 1, 2, none⟩ (.string x2))) (w := w) (R := w.heap.size) ((heap_set_far (by omega)).trans ((heap_set_far (by omega)).trans HRS.out)) ((HFR.out.setCell (p := ⟨w.heap.size + 1, 1, none⟩) (by show w.heap.size ≤ w.heap.size + 1; omega) (.int .i64 n1)).setCell (p := ⟨w.heap.size + 1, 2, none⟩) (by show w.heap.size ≤ w.heap.size + 1; omega) (.string x2)) (Nat.le_refl _) (.int .i64 4) (.int .i64 n1) (.string x2) (.string ⟨#[]⟩) (.int .i64 0) (.int .i64 0)
              go_wp2
              refine bodyPost_ret (v := .agg #[.int .i64 4, .int .i64 n1, .string x2, .string ⟨#[]⟩, .int .i64 0, .int .i64 0]) ?_ rfl ?_
              · rw [results_cell1 rfl]
                simp [asAddr, Result.andThen, HF.1]
              · exact ⟨by rw [HR6.out], HF.2⟩
            · have HF := finR (W := ((wr.setCell ⟨w.heap.size + 1, 1, none⟩ (.int .i64 n1)).setCell ⟨w.heap.size + 1, 2, none⟩ (.string x2))) (w := w) (R := w.heap.size) ((heap_set_far (by omega)).trans ((heap_set_far (by omega)).trans HRS.out)) ((HFR.out.setCell (p := ⟨w.heap.size + 1, 1, none⟩) (by show w.heap.size ≤ w.heap.size + 1; omega) (.int .i64 n1)).setCell (p := ⟨w.heap.size + 1, 2, none⟩) (by show w.heap.size ≤ w.heap.size + 1; omega) (.string x2)) (Nat.le_refl _) (.int .i64 5) (.int .i64 n1) (.string x2) (.string ⟨#[]⟩) (.int .i64 0) (.int .i64 0)
              go_wp2
              refine bodyPost_ret (v := .agg #[.int .i64 5, .int .i64 n1, .string x2, .string ⟨#[]⟩, .int .i64 0, .int .i64 0]) ?_ rfl ?_
              · rw [results_cell1 rfl]
                simp [asAddr, Result.andThen, HF.1]
              · exact ⟨by rw [HR6.out], HF.2⟩
          | cons x3 L3 =>
            have hn3 : 3 ≤ n := by have := HLN.out; simp only [List.length_cons] at this; omega
            obtain ⟨_, _, he3, _, hc2⟩ := HSW.out 2 (by simp [strs])
            cases he3
            simp only [strs, List.map_cons, List.getElem_cons_zero, List.getElem_cons_succ] at hc2
            have HR6 : Hid (evV (refG k (x1 :: x2 :: x3 :: L3)) = .agg #[.int .i64 k, .int .i64 (numW x1), .string x2, .string x3, .int .i64 0, .int .i64 0]) := by unfold Hid; rw [refG_cons, if_neg h6, if_pos h45]; rfl
            clear HS2 HLOW HSW
            generalize numW x1 = n1 at *
            generalize numW x2 = n2 at *
            rcases h45 with rfl | rfl
            · have HF := finR (W := (((wr.setCell ⟨w.heap.size + 1, 1, none⟩ (.int .i64 n1)).setCell ⟨w.heap.size + 1, 2, none⟩ (.string x2)).setCell ⟨w.heap.size + 1, 3, none⟩ (.string x3))) (w := w) (R := w.heap.size) ((heap_set_far (by omega)).trans ((heap_set_far (by omega)).trans ((heap_set_far (by omega)).trans HRS.out))) (((HFR.out.setCell (p := ⟨w.heap.size + 1, 1, none⟩) (by show w.heap.size ≤ w.heap.size + 1; omega) (.int .i64 n1)).setCell (p := ⟨w.heap.size + 1, 2, none⟩) (by show w.heap.size ≤ w.heap.size + 1; omega) (.string x2)).setCell (p := ⟨w.heap.size + 1, 3, none⟩) (by show w.heap.size ≤ w.heap.size + 1; omega) (.string x3)) (Nat.le_refl _) (.int .i64 4) (.int .i64 n1) (.string x2) (.string x3) (.int .i64 0) (.int .i64 0)
              go_wp2
              refine bodyPost_ret (v := .agg #[.int .i64 4, .int .i64 n1, .string x2, .string x3, .int .i64 0, .int .i64 0]) ?_ rfl ?_
              · rw [results_cell1 rfl]
                simp [asAddr, Result.andThen, HF.1]
              · exact ⟨by rw [HR6.out], HF.2⟩
            · have HF := finR (W := (((wr.setCell ⟨w.heap.size + 1, 1, none⟩ (.int .i64 n1)).setCell ⟨w.heap.size + 1, 2, none⟩ (.string x2)).setCell ⟨w.heap.size + 1, 3, none⟩ (.string x3))) (w := w) (R := w.heap.size) ((heap_set_far (by omega)).trans ((heap_set_far (by omega)).trans ((heap_set_far (by omega)).trans HRS.out))) (((HFR.out.setCell (p := ⟨w.heap.size + 1, 1, none⟩) (by show w.heap.size ≤ w.heap.size + 1; omega) (.int .i64 n1)).setCell (p := ⟨w.heap.size + 1, 2, none⟩) (by show w.heap.size ≤ w.heap.size + 1; omega) (.string x2)).setCell (p := ⟨w.heap.size + 1, 3, none⟩) (by show w.heap.size ≤ w.heap.size + 1; omega) (.string x3)) (Nat.le_refl _) (.int .i64 5) (.int .i64 n1) (.string x2) (.string x3) (.int .i64 0) (.int .i64 0)
              go_wp2
              refine bodyPost_ret (v := .agg #[.int .i64 5, .int .i64 n1, .string x2, .string x3, .int .i64 0, .int .i64 0]) ?_ rfl ?_
              · rw [results_cell1 rfl]
                simp [asAddr, Result.andThen, HF.1]
              · exact ⟨by rw [HR6.out], HF.2⟩
        · have h4 : ¬ k = 4 := fun h => h45 (.inl h)
          have h5 : ¬ k = 5 := fun h => h45 (.inr h)
          have g6 : (k == 6) = false := beq_eq_false_iff_ne.2 h6
          have g4 : (k == 4) = false := beq_eq_false_iff_ne.2 h4
          have g5 : (k == 5) = false := beq_eq_false_iff_ne.2 h5
          cases L2 with
          | nil =>
            obtain rfl : n = 2 := HLN.out
            have HR6 : Hid (evV (refG k [x1, x2]) = .agg #[.int .i64 k, .int .i64 (numW x1), .string x2, .string ⟨#[]⟩, .int .i64 0, .int .i64 0]) := by unfold Hid; rw [refG_cons, if_neg h6, if_neg h45]; simp only [headW, tailW, numW_nil]; rfl
            clear HS2 HLOW HSW h45
            generalize numW x1 = n1 at *
            generalize numW x2 = n2 at *
            have HF := finR (W := ((wr.setCell ⟨w.heap.size + 1, 1, none⟩ (.int .i64 n1)).setCell ⟨w.heap.size + 1, 2, none⟩ (.string x2))) (w := w) (R := w.heap.size) ((heap_set_far (by omega)).trans ((heap_set_far (by omega)).trans HRS.out)) ((HFR.out.setCell (p := ⟨w.heap.size + 1, 1, none⟩) (by show w.heap.size ≤ w.heap.size + 1; omega) (.int .i64 n1)).setCell (p := ⟨w.heap.size + 1, 2, none⟩) (by show w.heap.size ≤ w.heap.size + 1; omega) (.string x2)) (Nat.le_refl _) (.int .i64 k) (.int .i64 n1) (.string x2) (.string ⟨#[]⟩) (.int .i64 0) (.int .i64 0)
            go_wp2
            refine bodyPost_ret (v := .agg #[.int .i64 k, .int .i64 n1, .string x2, .string ⟨#[]⟩, .int .i64 0, .int .i64 0]) ?_ rfl ?_
            · rw [results_cell1 rfl]
              simp [asAddr, Result.andThen, HF.1]
            · exact ⟨by rw [HR6.out], HF.2⟩
          | cons x3 L3 =>
            obtain ⟨_, _, he4, _, hd2⟩ := HS2.out 2 (by simp [numsW])
            cases he4
            simp only [numsW, List.map_cons, List.getElem_cons_zero, List.getElem_cons_succ] at hd2
            have v3 := undec_in x3
            cases L3 with
            | nil =>
              obtain rfl : n = 3 := HLN.out
              have HR6 : Hid (evV (refG k [x1, x2, x3]) = .agg #[.int .i64 k, .int .i64 (numW x1), .string x2, .string ⟨#[]⟩, .int .i64 (numW x3), .int .i64 0]) := by unfold Hid; rw [refG_cons, if_neg h6, if_neg h45]; simp only [headW, tailW, numW_nil]; rfl
              clear HS2 HLOW HSW h45
              generalize numW x1 = n1 at *
              generalize numW x2 = n2 at *
              generalize numW x3 = n3 at *
              have HF := finR (W := (((wr.setCell ⟨w.heap.size + 1, 1, none⟩ (.int .i64 n1)).setCell ⟨w.heap.size + 1, 2, none⟩ (.string x2)).setCell ⟨w.heap.size + 1, 4, none⟩ (.int .i64 n3))) (w := w) (R := w.heap.size) ((heap_set_far (by omega)).trans ((heap_set_far (by omega)).trans ((heap_set_far (by omega)).trans HRS.out))) (((HFR.out.setCell (p := ⟨w.heap.size + 1, 1, none⟩) (by show w.heap.size ≤ w.heap.size + 1; omega) (.int .i64 n1)).setCell (p := ⟨w.heap.size + 1, 2, none⟩) (by show w.heap.size ≤ w.heap.size + 1; omega) (.string x2)).setCell (p := ⟨w.heap.size + 1, 4, none⟩) (by show w.heap.size ≤ w.heap.size + 1; omega) (.int .i64 n3)) (Nat.le_refl _) (.int .i64 k) (.int .i64 n1) (.string x2) (.string ⟨#[]⟩) (.int .i64 n3) (.int .i64 0)
              go_wp2
              refine bodyPost_ret (v := .agg #[.int .i64 k, .int .i64 n1, .string x2, .string ⟨#[]⟩, .int .i64 n3, .int .i64 0]) ?_ rfl ?_
              · rw [results_cell1 rfl]
                simp [asAddr, Result.andThen, HF.1]
              · exact ⟨by rw [HR6.out], HF.2⟩
            | cons x4 L4 =>
              have hn4 : 4 ≤ n := by have := HLN.out; simp only [List.length_cons] at this; omega
              obtain ⟨_, _, he5, _, hd3⟩ := HS2.out 3 (by simp [numsW])
              cases he5
              simp only [numsW, List.map_cons, List.getElem_cons_zero, List.getElem_cons_succ] at hd3
              have v4 := undec_in x4
              have HR6 : Hid (evV (refG k (x1 :: x2 :: x3 :: x4 :: L4)) = .agg #[.int .i64 k, .int .i64 (numW x1), .string x2, .string ⟨#[]⟩, .int .i64 (numW x3), .int .i64 (numW x4)]) := by unfold Hid; rw [refG_cons, if_neg h6, if_neg h45]; rfl
              clear HS2 HLOW HSW h45
              generalize numW x1 = n1 at *
              generalize numW x2 = n2 at *
              generalize numW x3 = n3 at *
              generalize numW x4 = n4 at *
              have HF := finR (W := ((((wr.setCell ⟨w.heap.size + 1, 1, none⟩ (.int .i64 n1)).setCell ⟨w.heap.size + 1, 2, none⟩ (.string x2)).setCell ⟨w.heap.size + 1, 4, none⟩ (.int .i64 n3)).setCell ⟨w.heap.size + 1, 5, none⟩ (.int .i64 n4))) (w := w) (R := w.heap.size) ((heap_set_far (by omega)).trans ((heap_set_far (by omega)).trans ((heap_set_far (by omega)).trans ((heap_set_far (by omega)).trans HRS.out)))) ((((HFR.out.setCell (p := ⟨w.heap.size + 1, 1, none⟩) (by show w.heap.size ≤ w.heap.size + 1; omega) (.int .i64 n1)).setCell (p := ⟨w.heap.size + 1, 2, none⟩) (by show w.heap.size ≤ w.heap.size + 1; omega) (.string x2)).setCell (p := ⟨w.heap.size + 1, 4, none⟩) (by show w.heap.size ≤ w.heap.size + 1; omega) (.int .i64 n3)).setCell (p := ⟨w.heap.size + 1, 5, none⟩) (by show w.heap.size ≤ w.heap.size + 1; omega) (.int .i64 n4)) (Nat.le_refl _) (.int .i64 k) (.int .i64 n1) (.string x2) (.string ⟨#[]⟩) (.int .i64 n3) (.int .i64 n4)
              go_wp2
              refine bodyPost_ret (v := .agg #[.int .i64 k, .int .i64 n1, .string x2, .string ⟨#[]⟩, .int .i64 n3, .int .i64 n4]) ?_ rfl ?_
              · rw [results_cell1 rfl]
                simp [asAddr, Result.andThen, HF.1]
              · exact ⟨by rw [HR6.out], HF.2⟩
/-! ### the document's own Of -/
theorem refG_fits (k : Int) (hk : I64 k) (L : List ByteArray) (h : ∀ s ∈ L, s.size ≤ maxLen) : EFits (refG k L) ∧ EInts (refG k L) := by
  have hz : (⟨#[]⟩ : ByteArray).size ≤ maxLen := Nat.zero_le _
  have hn : ∀ s, I64 (numW s) := fun s => by have := undec_in s; unfold I64; omega
  have h0 : I64 0 := by unfold I64; omega
  rcases L with _ | ⟨a, _ | ⟨b, r⟩⟩
  · exact ⟨⟨hz, hz⟩, ⟨h0, h0, h0⟩⟩
  · exact ⟨⟨hz, hz⟩, ⟨h0, h0, h0⟩⟩
  · rw [refG_cons]
    have hb : b.size ≤ maxLen := h b (by simp)
    have hr : (headW r).size ≤ maxLen := headW_size (fun s hs => h s (by simp [hs]))
    split
    · exact ⟨⟨hz, hz⟩, ⟨hn _, hn _, h0⟩⟩
    · split
      · exact ⟨⟨hb, hr⟩, ⟨hn _, h0, h0⟩⟩
      · exact ⟨⟨hb, hz⟩, ⟨hn _, hn _, hn _⟩⟩
theorem split_len (b : ByteArray) : ((splitOf (toL b)).map tx).length ≤ b.size + 1 := by
  have h := cut_sum [] (toL b)
  have h2 := lsum_length ((cut [] (toL b)).map tx)
  rw [toL_length] at h
  simp only [List.length_nil] at h
  unfold splitOf
  split
  · omega
  · simp
/-- the frame in its box, and the result's block, still empty -/
structure RoW (w : World) (k : UInt8) (b : ByteArray) (W : World) : Prop where
  fr : W.heap[w.heap.size]? = some (.cells #[.int .u8 (k.toNat : Int), .string b] 61 (0, 0))
  res : W.heap[w.heap.size + 1]? = some (.cells #[.int .i64 0, .int .i64 0, .string ⟨#[]⟩, .string ⟨#[]⟩, .int .i64 0, .int .i64 0] 29 (0, 0))
  size : w.heap.size + 2 ≤ W.heap.size
  frame : Below w.heap.size w W
theorem RoW.below {w W W' : World} {k : UInt8} {b : ByteArray} (h : RoW w k b W) (q : Below W.heap.size W W') : RoW w k b W' :=
  ⟨(q.block _ (by have := h.size; omega)).trans h.fr, (q.block _ (by have := h.size; omega)).trans h.res, Nat.le_trans h.size q.size, h.frame.trans (q.mono h.frame.size)⟩
theorem RoW.new (w : World) (k : UInt8) (b : ByteArray) : RoW w k b ((w.alloc (.cells #[.int .u8 (k.toNat : Int), .string b] 61)).alloc (.cells #[.int .i64 0, .int .i64 0, .string ⟨#[]⟩, .string ⟨#[]⟩, .int .i64 0, .int .i64 0] 29)) := by
  refine ⟨(Below.heap_alloc _ _ w.heap.size (by rw [size1]; omega)).trans (heap_alloc_new w _), ?_, by rw [size1, size1]; omega, ((Below.refl _ _).alloc (Nat.le_refl _) _).alloc (by rw [size1]; omega) _⟩
  have := heap_alloc_new (w.alloc (.cells #[.int .u8 (k.toNat : Int), .string b] 61)) (.cells #[.int .i64 0, .int .i64 0, .string ⟨#[]⟩, .string ⟨#[]⟩, .int .i64 0, .int .i64 0] 29)
  rwa [size1] at this
theorem set6_loadR {W : World} {R : Nat} {a0 b0 c0 d0 e0 f0 : Value} (h : W.heap[R]? = some (.cells #[a0, b0, c0, d0, e0, f0] 29 (0, 0))) (a b c d e f : Value) (o : Obj) :
    (loadVar 29 ⟨R, 0, none⟩).run Tryz.prog (((((((W.setCell ⟨R, 0, none⟩ a).setCell ⟨R, 1, none⟩ b).setCell ⟨R, 2, none⟩ c).setCell ⟨R, 3, none⟩ d).setCell ⟨R, 4, none⟩ e).setCell ⟨R, 5, none⟩ f).alloc o) = .ok (.agg #[a, b, c, d, e, f]) (((((((W.setCell ⟨R, 0, none⟩ a).setCell ⟨R, 1, none⟩ b).setCell ⟨R, 2, none⟩ c).setCell ⟨R, 3, none⟩ d).setCell ⟨R, 4, none⟩ e).setCell ⟨R, 5, none⟩ f).alloc o) :=
  loadEvR ((Below.heap_alloc _ _ _ (heap_lt (set6_at h a b c d e f))).trans (set6_at h a b c d e f))
def evRO (e : EvM) : Obj := .cells #[.int .i64 e.kind, .int .i64 e.at_, .string e.user, .string e.other, .int .i64 e.n, .int .i64 e.status] 29

set_option maxHeartbeats 4000000 in
theorem refOf_any (k : UInt8) (b : ByteArray) (hb : b.size ≤ 2000) (w : World) :
    Calls Tryz.prog 28 #[frW k b] w fun r w' => r = .returned (.tuple #[evV (ofE k b), .bool (isF k b)]) ∧ Below w.heap.size w w' := by
  have hfit := split_fit b (by omega)
  have hlen := split_len b
  have HSP : Hid (∀ W, Calls Tryz.prog 53 #[.string b] W fun r w' => ∃ a c, r = .returned (.slice a ((splitOf (toL b)).map tx).length c) ∧ Sl w' a (strs ((splitOf (toL b)).map tx)) ∧ Below W.heap.size W w') := fun W => by
    refine (refSplit_any b W hb).mono ?_
    rintro r w' ⟨v, rfl, hown, hB⟩
    rw [← List.length_map (f := tx)] at hown
    obtain ⟨a, c, rfl, q1, q2, q3, _⟩ := own_slice hown
    exact ⟨a, c, rfl, q3, hB⟩
  have HGU := Lib.hid (fun i hi W a c (hs : Sl W a (strs ((splitOf (toL b)).map tx))) => guess_any i hi ((splitOf (toL b)).map tx) hfit (by omega) a c W hs)
  have HRF := Lib.hid (fun i (hi : I64 i) W => refFrame_any (refG i ((splitOf (toL b)).map tx)) (refG_fits i hi _ hfit).1 (refG_fits i hi _ hfit).2 W)
  have HOK : Hid (∀ i, okG k b i = (rightE (refG i ((splitOf (toL b)).map tx)) && (decide (letterE i = k) && ((tx (lineE (refG i ((splitOf (toL b)).map tx)))).toList == b.toList)))) := fun i => rfl
  have HOE : Hid (∀ i, okG k b i = true → ofE k b = refG i ((splitOf (toL b)).map tx) ∧ isF k b = true) := fun i h => okG_ofE h
  have HKD : Hid (∀ i, (refG i ((splitOf (toL b)).map tx)).kind = i) := fun i => refG_kind i _
  have HW := Lib.hid (RoW.new w k b)
  clear hfit hlen
  generalize ((splitOf (toL b)).map tx) = ws at *
  generalize ws.length = n at *
  unfold frW evV at *
  go_enter Tryz.func28, Tryz.ntmps28
  go_wp2_with fail
  refine (HSP.out _).mono ?_
  rintro r w1 ⟨a, c, rfl, hsl, h1⟩
  have HW1 := Lib.hid (HW.out.below h1)
  have HS1 := Lib.hid hsl
  clear HW hsl h1 HSP
  go_wp2
  go_loopw [5] (fun i wr => ∃ (j : Nat), 1 ≤ j ∧ j ≤ 8 ∧ i = .int .i64 j ∧ Hid (NoG k b j) ∧ Hid (RoW w k b wr) ∧ Hid (Sl wr a (strs ws))) (fun i _ => 8 - (intOf i).toNat)
  case atStart => exact ⟨1, by omega, by omega, rfl, NoG.start k b, HW1.out, HS1.out⟩
  case round =>
    obtain ⟨j, hj1, hj8, rfl, HN, HR, HS⟩ := hrel
    clear HW1 HS1
    by_cases hj7 : j ≤ 7
    · have hji : I64 (j : Int) := by unfold I64; omega
      have HC1 := Lib.hid (HGU.out (j : Int) hji wr a c HS.out)
      have HC2 := Lib.hid (HRF.out (j : Int) hji)
      have HOK1 := Lib.hid (HOK.out (j : Int))
      have HOE1 := Lib.hid (HOE.out (j : Int))
      have hkd := HKD.out (j : Int)
      have HNX := Lib.hid (fun h => HN.out.next (n := (j : Int)) h)
      clear HGU HRF HOK HOE HKD hji HN
      generalize refG (j : Int) ws = g at *
      unfold frameE frK at HC2
      rw [hkd] at HC1 HC2
      go_wp2_with fail
      refine (HC1.out).mono ?_
      rintro r w2 ⟨rfl, h2⟩
      have HR2 := Lib.hid (HR.out.below h2)
      have HS2 := Lib.hid (HS.out.below h2)
      have HAL := Lib.hid ((Below.refl w2.heap.size w2).alloc (Nat.le_refl _) (.cells #[.int .i64 j, .int .i64 g.at_, .string g.user, .string g.other, .int .i64 g.n, .int .i64 g.status] 29))
      have HR3 := Lib.hid (HR2.out.below HAL.out)
      have HS3 := Lib.hid (HS2.out.below HAL.out)
      have HG3 : Hid ((w2.alloc (.cells #[.int .i64 j, .int .i64 g.at_, .string g.user, .string g.other, .int .i64 g.n, .int .i64 g.status] 29)).heap[w2.heap.size]? = some (.cells #[.int .i64 j, .int .i64 g.at_, .string g.user, .string g.other, .int .i64 g.n, .int .i64 g.status] 29 (0, 0))) := heap_alloc_new w2 _
      clear h2 HR HS HR2 HS2 HC1 HAL
      cases hr : rightE g with
      | false =>
        rw [hr, if_neg (by decide)] at HC2
        have HNE := Lib.hid (HNX.out (by rw [HOK1.out, hr]; rfl))
        clear hr HNX HOK1 HOE1
        go_wp2_with fail
        refine (HC2.out _).mono ?_
        rintro r w3 ⟨rfl, h3⟩
        have HAL := Lib.hid ((Below.refl w3.heap.size w3).alloc (Nat.le_refl _) (.cells #[.int .u8 0, .string ⟨#[]⟩] 61))
        have HR4 := Lib.hid ((HR3.out.below h3).below HAL.out)
        have HS4 := Lib.hid ((HS3.out.below h3).below HAL.out)
        clear h3 HR3 HS3 HC2 HG3
        go_wp2
        go_roundw
        case rel => exact ⟨j + 1, by omega, by omega, by go_num, (by have := HNE.out; unfold Hid; rwa [show ((j : Int) + 1) = ((j + 1 : Nat) : Int) by omega] at this), HR4, HS4⟩
        case measure => simp [intOf]; omega
      | true =>
        rw [hr, if_pos rfl] at HC2
        have hok := HOK1.out
        rw [hr, Bool.true_and, dec_u8] at hok
        clear hr HOK1
        generalize tx (lineE g) = tl at *
        have hlb : 0 ≤ ((letterE (j : Int)).toNat : Int) ∧ ((letterE (j : Int)).toNat : Int) ≤ 255 := ⟨by omega, by have := (letterE (j : Int)).toNat_lt; omega⟩
        have hkb : 0 ≤ (k.toNat : Int) ∧ (k.toNat : Int) ≤ 255 := ⟨by omega, by have := k.toNat_lt; omega⟩
        generalize ((letterE (j : Int)).toNat : Int) = lt at *
        go_wp2_with fail
        refine (HC2.out _).mono ?_
        rintro r w3 ⟨rfl, h3⟩
        have HR4 := Lib.hid (HR3.out.below h3)
        have HS4 := Lib.hid (HS3.out.below h3)
        have hbk := (h3.block _ (heap_lt HG3.out)).trans HG3.out
        have hgl := heap_lt hbk
        obtain ⟨⟨k0, k1⟩, q0, q1⟩ := cells2 HR4.out.fr
        have hrs := HR4.out.res
        have hlt := heap_lt hrs
        have hlt0 : w.heap.size < w3.heap.size := by omega
        obtain ⟨⟨z0, z1, z2, z3, z4, z5⟩, y0, y1, y2, y3, y4, y5⟩ := cells6 hrs
        obtain ⟨⟨E0, E1, E2, E3, E4, E5⟩, P0, P1, P2, P3, P4, P5⟩ := cells6 hbk
        clear h3 HR3 HS3 HC2 HG3 hbk
        go_wp2
        · rename_i g1 g2
          have hy := HOE1.out (by rw [hok, g1, g2]; simp)
          have HL := set6_loadR hrs (.int .i64 (j : Int)) (.int .i64 g.at_) (.string g.user) (.string g.other) (.int .i64 g.n) (.int .i64 g.status) (.cells #[.int .u8 (k.toNat : Int), .string tl] 61)
          have HQ2 := set6_alloc HR4.out.frame (G := w.heap.size + 1) (by omega) (.int .i64 (j : Int)) (.int .i64 g.at_) (.string g.user) (.string g.other) (.int .i64 g.n) (.int .i64 g.status) (.cells #[.int .u8 (k.toNat : Int), .string tl] 61)
          refine bodyPost_ret (v := .tuple #[.agg #[.int .i64 (j : Int), .int .i64 g.at_, .string g.user, .string g.other, .int .i64 g.n, .int .i64 g.status], .bool true]) ?_ rfl ?_
          · rw [results_cellT rfl]
            simp [asAddr, Result.andThen, HL]
          · refine ⟨?_, HQ2⟩
            rw [hy.1, hy.2, hkd]
        · rename_i g1 g2
          have HNE := HNX.out (by rw [hok, beq_eq_false_iff_ne.2 g2, Bool.and_false])
          have HAL := (Below.refl w3.heap.size w3).alloc (Nat.le_refl _) (.cells #[.int .u8 (k.toNat : Int), .string tl] 61)
          refine ⟨⟨j + 1, by omega, by omega, by go_num, (by unfold Hid; rwa [show ((j : Int) + 1) = ((j + 1 : Nat) : Int) by omega] at HNE), HR4.out.below HAL, HS4.out.below HAL⟩, ?_⟩
          simp [intOf]; omega
        · rename_i g1
          have HNE := HNX.out (by rw [hok, beq_eq_false_iff_ne.2 g1, Bool.false_and])
          have HAL := (Below.refl w3.heap.size w3).alloc (Nat.le_refl _) (.cells #[.int .u8 lt, .string tl] 61)
          refine ⟨⟨j + 1, by omega, by omega, by go_num, (by unfold Hid; rwa [show ((j : Int) + 1) = ((j + 1 : Nat) : Int) by omega] at HNE), HR4.out.below HAL, HS4.out.below HAL⟩, ?_⟩
          simp [intOf]; omega
    · obtain rfl : j = 8 := by omega
      obtain ⟨hif, hof⟩ := HN.out.all (by omega)
      have hrs := HR.out.res
      have hlt := heap_lt hrs
      obtain ⟨⟨z0, z1, z2, z3, z4, z5⟩, y0, y1, y2, y3, y4, y5⟩ := cells6 hrs
      have HF := finR (w := w) hrs HR.out.frame (by omega) (.int .i64 0) (.int .i64 0) (.string ⟨#[]⟩) (.string ⟨#[]⟩) (.int .i64 0) (.int .i64 0)
      have HF := Lib.hid HF
      clear HN HR HS HGU HRF HOK HOE HKD
      go_wp2
      refine bodyPost_ret (v := .tuple #[.agg #[.int .i64 0, .int .i64 0, .string ⟨#[]⟩, .string ⟨#[]⟩, .int .i64 0, .int .i64 0], .bool false]) ?_ rfl ?_
      · rw [results_cellT rfl]
        simp [asAddr, Result.andThen, HF.out.1]
      · refine ⟨?_, HF.out.2⟩
        rw [hof, hif]; rfl
end Go.Proofs.YtollhemkjnkalaaGreatDoor
