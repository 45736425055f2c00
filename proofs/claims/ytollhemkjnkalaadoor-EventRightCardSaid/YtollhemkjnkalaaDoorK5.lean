/- Layer 6: the document's own guess at an event, contract. -/
import Derived.Test.YtollhemkjnkalaaDoorK2
import Derived.Test.YtollhemkjnkalaaDoorK6
namespace Go.Proofs.YtollhemkjnkalaaDoor
open Go.RowKit Go.Shelf
set_option linter.unusedVariables false
set_option maxRecDepth 100000

theorem refG_cons (k : Int) (a b : ByteArray) (r : List ByteArray) : refG k (a :: b :: r) = if k = 6 then ⟨k, numW a, ⟨#[]⟩, ⟨#[]⟩, numW b, 0⟩ else if k = 4 ∨ k = 5 then ⟨k, numW a, b, headW r, 0, 0⟩ else ⟨k, numW a, b, ⟨#[]⟩, numW (headW r), numW (headW (tailW r))⟩ := rfl
theorem infoInt : (Tryd.prog.info? 3).map (fun i => (i.zero, i.size, i.bytes)) = some (some (.int .i64 0), 1, 8) := by kernel_rfl
theorem infoEvR : (Tryd.prog.info? 23).map (·.size) = some 6 := by kernel_rfl
def numsW (L : List ByteArray) : List Value := L.map fun s => .int .i64 (numW s)
theorem numsW_len (L : List ByteArray) : (numsW L).length = L.length := by simp [numsW]
theorem numsW_take (L : List ByteArray) (j : Nat) (h : j < L.length) : numsW (L.take (j + 1)) = numsW (L.take j) ++ [.int .i64 (numW L[j])] := by
  unfold numsW
  rw [List.take_succ_eq_append_getElem h, List.map_append]; rfl
/-- the result's block, still empty, and the event's, that has its kind -/
structure GsW (w : World) (e : EvM) (W : World) : Prop where
  res : W.heap[w.heap.size]? = some (.cells #[.int .i64 0, .int .i64 0, .string ⟨#[]⟩, .string ⟨#[]⟩, .int .i64 0, .int .i64 0] 23 (0, 0))
  ev : W.heap[w.heap.size + 1]? = some (.cells #[.int .i64 e.kind, .int .i64 e.at_, .string e.user, .string e.other, .int .i64 e.n, .int .i64 e.status] 23 (0, 0))
  size : w.heap.size + 2 ≤ W.heap.size
  frame : Below w.heap.size w W
theorem GsW.below {w W W' : World} {e : EvM} (h : GsW w e W) (q : Below W.heap.size W W') : GsW w e W' :=
  ⟨(q.block _ (by have := h.size; omega)).trans h.res, (q.block _ (by have := h.size; omega)).trans h.ev, Nat.le_trans h.size q.size, h.frame.trans (q.mono h.frame.size)⟩
theorem GsW.grow {w W W' : World} {e : EvM} (h : GsW w e W) (q : Below (w.heap.size + 2) W W') : GsW w e W' :=
  ⟨(q.block _ (by omega)).trans h.res, (q.block _ (by omega)).trans h.ev, Nat.le_trans h.size q.size, h.frame.trans (q.mono (by omega))⟩
theorem loadEvR {W : World} {g : Nat} {a b c d e f : Value} {t : TypeId} (h : W.heap[g]? = some (.cells #[a, b, c, d, e, f] t (0, 0))) :
    (loadVar 23 ⟨g, 0, none⟩).run Tryd.prog W = .ok (.agg #[a, b, c, d, e, f]) W := 
  run_loadVar_mid (P := Tryd.prog) W g 0 23 [a, b, c, d, e, f] _ (fun j v hv => by
    rw [Nat.zero_add, cell_of_row _ _ _ _ _ (0, 0) h]
    simpa using hv) Tryd.underlying23 rfl infoEvR
theorem finR {w W : World} {R : Nat} {a0 b0 c0 d0 e0 f0 : Value} (h : W.heap[R]? = some (.cells #[a0, b0, c0, d0, e0, f0] 23 (0, 0))) (hB : Below w.heap.size w W) (hR : w.heap.size ≤ R) (a b c d e f : Value) :
    (loadVar 23 ⟨R, 0, none⟩).run Tryd.prog ((((((W.setCell ⟨R, 0, none⟩ a).setCell ⟨R, 1, none⟩ b).setCell ⟨R, 2, none⟩ c).setCell ⟨R, 3, none⟩ d).setCell ⟨R, 4, none⟩ e).setCell ⟨R, 5, none⟩ f) = .ok (.agg #[a, b, c, d, e, f]) ((((((W.setCell ⟨R, 0, none⟩ a).setCell ⟨R, 1, none⟩ b).setCell ⟨R, 2, none⟩ c).setCell ⟨R, 3, none⟩ d).setCell ⟨R, 4, none⟩ e).setCell ⟨R, 5, none⟩ f) ∧
    Below w.heap.size w ((((((W.setCell ⟨R, 0, none⟩ a).setCell ⟨R, 1, none⟩ b).setCell ⟨R, 2, none⟩ c).setCell ⟨R, 3, none⟩ d).setCell ⟨R, 4, none⟩ e).setCell ⟨R, 5, none⟩ f) :=
  ⟨loadEvR (set6_at h a b c d e f), set6_below hB hR a b c d e f⟩
theorem GsW.new (w : World) (e : EvM) : GsW w e ((w.alloc (.cells #[.int .i64 0, .int .i64 0, .string ⟨#[]⟩, .string ⟨#[]⟩, .int .i64 0, .int .i64 0] 23)).alloc (.cells #[.int .i64 e.kind, .int .i64 e.at_, .string e.user, .string e.other, .int .i64 e.n, .int .i64 e.status] 23)) := by
  refine ⟨(Below.heap_alloc _ _ w.heap.size (by rw [size1]; omega)).trans (heap_alloc_new w _), ?_, by rw [size1, size1]; omega, ((Below.refl _ _).alloc (Nat.le_refl _) _).alloc (by rw [size1]; omega) _⟩
  have := heap_alloc_new (w.alloc (.cells #[.int .i64 0, .int .i64 0, .string ⟨#[]⟩, .string ⟨#[]⟩, .int .i64 0, .int .i64 0] 23)) (.cells #[.int .i64 e.kind, .int .i64 e.at_, .string e.user, .string e.other, .int .i64 e.n, .int .i64 e.status] 23)
  rwa [size1] at this

set_option maxHeartbeats 2000000 in
theorem guess_any (k : Int) (hk : I64 k) (L : List ByteArray) (hf : ∀ s ∈ L, s.size ≤ maxLen) (hL : L.length ≤ 100000) (a : Option Addr) (c : Nat) (w : World) (hs : Sl w a (strs L)) :
    Calls Tryd.prog 35 #[.int .i64 k, .slice a L.length c] w fun r w' => r = .returned (evV (refG k L)) ∧ Below w.heap.size w w' := by
  obtain ⟨i0, hi, hz0, hz1, hz2⟩ := info_parts infoInt
  have HS := Lib.hid hs
  have HLB : Hid (∀ b o, a = some ⟨b, o, none⟩ → L ≠ [] → b < w.heap.size) := fun b o e hne => by
    obtain ⟨b1, o1, e1, h1, _⟩ := hs 0 (by rw [strs_length]; exact List.length_pos_iff.2 hne)
    rw [e] at e1; cases e1; exact h1
  have HUN := Lib.hid (fun (s : ByteArray) W (h : s.size ≤ maxLen) => refUndec_any s W h)
  have HNW := Lib.hid (GsW.new w ⟨k, 0, ⟨#[]⟩, ⟨#[]⟩, 0, 0⟩)
  unfold I64 at hk
  clear hs
  obtain ⟨n, hn⟩ : ∃ n, n = L.length := ⟨_, rfl⟩
  rw [← hn] at hL ⊢
  have HLN := Lib.hid hn
  clear hn
  go_enter Tryd.func35, Tryd.ntmps35
  go_wp2
  generalize ((w.alloc (.cells #[.int .i64 0, .int .i64 0, .string ⟨#[]⟩, .string ⟨#[]⟩, .int .i64 0, .int .i64 0] 23)).alloc (.cells #[.int .i64 k, .int .i64 0, .string ⟨#[]⟩, .string ⟨#[]⟩, .int .i64 0, .int .i64 0] 23)) = W0 at *
  go_loopw [6, 7] (fun v i wr => ∃ (j : Nat), j ≤ n ∧ i = .int .i64 j ∧ Hid (wr.ownsRow (w.heap.size + 2) 3 1 v j (numsW (L.take j))) ∧ Hid (GsW w ⟨k, 0, ⟨#[]⟩, ⟨#[]⟩, 0, 0⟩ wr)) (fun _ i _ => n - (intOf i).toNat)
  case atStart => exact ⟨0, by omega, rfl, ⟨rfl, .inl ⟨rfl, rfl⟩⟩, HNW.out⟩
  case round =>
    obtain ⟨j, hj, rfl, HO, HG⟩ := hrel
    by_cases hjl : j < n
    · have hjL : j < L.length := by have := HLN.out; omega
      obtain ⟨b, off, rfl, hbl, hc0⟩ := (HS.out.below HG.out.frame).str hjL
      have HT := Lib.hid (numsW_take L j hjL)
      have HU := Lib.hid (fun W => HUN.out L[j] W (hf _ (List.getElem_mem hjL)))
      have HNM : Hid ((undecL L[j].data.toList).getD 0 = numW L[j]) := rfl
      unfold optV at HU
      rw [HNM.out] at HU
      clear HNM HUN hf
      generalize L[j] = x at *
      have hnx := undec_in x
      generalize numW x = nx at *
      generalize (undecL x.data.toList).isSome = bx at *
      go_wp2_with fail
      refine (HU.out _).mono ?_
      rintro e w2 ⟨rfl, h2⟩
      have HB2 := Lib.hid ((Below.refl w2.heap.size w2).alloc (Nat.le_refl _) (.cells #[.int .i64 nx] 3))
      have HO2 := Lib.hid (own_below (own_below HO.out h2) HB2.out)
      have HG2 := Lib.hid ((HG.out.below h2).below HB2.out)
      have HS2 := Lib.hid HG2.out.size
      clear h2 HU HO HG
      go_wp2_with (at_builtin; refine wpList_append_own _ rfl (.tmp 26) (.tmp 28) 91 rfl (w.heap.size + 2) 3 i0 _ 1 8 Tryd.underlying91 hi hz0 hz1 hz2 rfl (by decide) _ _ _ rfl HO2.out ⟨w2.heap.size, 0, none⟩ 1 1 [.int .i64 nx] rfl rfl (news_at _ _ _ _ rfl) (fun u hu => by rw [List.mem_singleton.1 hu]; rfl) (by unfold maxLen; omega) (by omega) HS2.out ?_; intro v' w3 hown' hgrow hiff)
      have HG3 := Lib.hid (HG2.out.grow (app_below (Below.refl _ _) HS2.out HO2.out hgrow))
      have HO3 := Lib.hid hown'
      clear hown' hgrow hiff HG2 HS2 HO2 HB2
      go_wp2
      go_roundw
      case rel => exact ⟨j + 1, by omega, by go_num, (by unfold Hid; rw [HT.out]; exact HO3.out), HG3⟩
      case measure => simp [intOf]; omega
    · obtain rfl : n = j := by omega
      rw [List.take_of_length_le (by rw [← HLN.out]; exact Nat.le_refl _)] at HO
      obtain ⟨a2, c2, rfl, hc2, _, hs2, hlow, _⟩ := own_slice HO.out
      have HS2 := Lib.hid hs2
      have HLOW := Lib.hid hlow
      have HSW := Lib.hid (HS.out.below HG.out.frame)
      have HRS := Lib.hid HG.out.res
      have HFR := Lib.hid HG.out.frame
      have hsz := HG.out.size
      have hsz1 : w.heap.size < wr.heap.size := by omega
      have hsz2 : w.heap.size + 1 < wr.heap.size := by omega
      obtain ⟨⟨e0, e1, e2, e3, e4, e5⟩, p0, p1, p2, p3, p4, p5⟩ := cells6 HG.out.ev
      obtain ⟨⟨z0, z1, z2, z3, z4, z5⟩, y0, y1, y2, y3, y4, y5⟩ := cells6 HG.out.res
      clear hs2 hlow HO HG HS HUN hf HNW hi hz0 hz1 hz2
      cases L with
      | nil =>
        obtain rfl : n = 0 := HLN.out
        clear HS2 HLOW HSW
        have HF := finR (W := wr) (w := w) (R := w.heap.size) HRS.out HFR.out (Nat.le_refl _) (.int .i64 k) (.int .i64 0) (.string ⟨#[]⟩) (.string ⟨#[]⟩) (.int .i64 0) (.int .i64 0)
        go_wp2
        refine bodyPost_ret (v := .agg #[.int .i64 k, .int .i64 0, .string ⟨#[]⟩, .string ⟨#[]⟩, .int .i64 0, .int .i64 0]) ?_ rfl ?_
        · rw [results_cell1 rfl]
          simp [asAddr, Result.andThen, HF.1]
        · exact ⟨rfl, HF.2⟩
      | cons x1 L1 =>
      cases L1 with
      | nil =>
        obtain rfl : n = 1 := HLN.out
        clear HS2 HLOW HSW
        have HF := finR (W := wr) (w := w) (R := w.heap.size) HRS.out HFR.out (Nat.le_refl _) (.int .i64 k) (.int .i64 0) (.string ⟨#[]⟩) (.string ⟨#[]⟩) (.int .i64 0) (.int .i64 0)
        go_wp2
        refine bodyPost_ret (v := .agg #[.int .i64 k, .int .i64 0, .string ⟨#[]⟩, .string ⟨#[]⟩, .int .i64 0, .int .i64 0]) ?_ rfl ?_
        · rw [results_cell1 rfl]
          simp [asAddr, Result.andThen, HF.1]
        · exact ⟨rfl, HF.2⟩
      | cons x2 L2 =>
      obtain ⟨b, o, rfl, hb, hc0⟩ := HSW.out 0 (by simp [strs])
      obtain ⟨b', o', he, hb', hd0⟩ := HS2.out 0 (by simp [numsW])
      obtain ⟨_, _, he1, _, hc1⟩ := HSW.out 1 (by simp [strs])
      obtain ⟨_, _, he2, _, hd1⟩ := HS2.out 1 (by simp [numsW])
      subst he
      cases he1
      cases he2
      have hbw : b < w.heap.size := HLB.out b o rfl (by simp)
      have hbn : w.heap.size + 2 ≤ b' := HLOW.out b' o' rfl
      have v1 := undec_in x1
      have v2 := undec_in x2
      simp only [strs, numsW, List.map_cons, List.getElem_cons_zero, List.getElem_cons_succ, Nat.add_zero] at hc0 hc1 hd0 hd1
      have hn2 : 2 ≤ n := by have := HLN.out; simp only [List.length_cons] at this; omega
      have hm0 : b ≠ w.heap.size + 1 := by omega
      have hm1 : b' ≠ w.heap.size + 1 := by omega
      by_cases h6 : k = 6
      · subst h6
        have HR6 : Hid (evV (refG 6 (x1 :: x2 :: L2)) = .agg #[.int .i64 6, .int .i64 (numW x1), .string ⟨#[]⟩, .string ⟨#[]⟩, .int .i64 (numW x2), .int .i64 0]) := by unfold Hid; rw [refG_cons, if_pos rfl]; rfl
        clear HS2 HLOW HSW
        generalize numW x1 = n1 at *
        generalize numW x2 = n2 at *
        have HF := finR (W := ((wr.setCell ⟨w.heap.size + 1, 1, none⟩ (.int .i64 n1)).setCell ⟨w.heap.size + 1, 4, none⟩ (.int .i64 n2))) (w := w) (R := w.heap.size) ((heap_set_far (by omega)).trans ((heap_set_far (by omega)).trans HRS.out)) ((HFR.out.setCell (p := ⟨w.heap.size + 1, 1, none⟩) (by show w.heap.size ≤ w.heap.size + 1; omega) (.int .i64 n1)).setCell (p := ⟨w.heap.size + 1, 4, none⟩) (by show w.heap.size ≤ w.heap.size + 1; omega) (.int .i64 n2)) (Nat.le_refl _) (.int .i64 6) (.int .i64 n1) (.string ⟨#[]⟩) (.string ⟨#[]⟩) (.int .i64 n2) (.int .i64 0)
        go_wp2
        refine bodyPost_ret (v := .agg #[.int .i64 6, .int .i64 n1, .string ⟨#[]⟩, .string ⟨#[]⟩, .int .i64 n2, .int .i64 0]) ?_ rfl ?_
        · rw [results_cell1 rfl]
          simp [asAddr, Result.andThen, HF.1]
        · exact ⟨by rw [HR6.out], HF.2⟩
      · by_cases h45 : k = 4 ∨ k = 5
        · cases L2 with
          | nil =>
            obtain rfl : n = 2 := HLN.out
            have HR6 : Hid (evV (refG k [x1, x2]) = .agg #[.int .i64 k, .int .i64 (numW x1), .string x2, .string ⟨#[]⟩, .int .i64 0, .int .i64 0]) := by unfold Hid; rw [refG_cons, if_neg h6, if_pos h45]; rfl
            clear HS2 HLOW HSW
            generalize numW x1 = n1 at *
            generalize numW x2 = n2 at *
            rcases h45 with rfl | rfl
            · have HF := finR (W := ((wr.setCell ⟨w.heap.size + 1, 1, none⟩ (.int .i64 n1)).setCell ⟨w.heap.size + 1, 2, none⟩ (.string x2))) (w := w) (R := w.heap.size) ((heap_set_far (by omega)).trans ((heap_set_far (by omega)).trans HRS.out)) ((HFR.out.setCell (p := ⟨w.heap.size + 1, 1, none⟩) (by show w.heap.size ≤ w.heap.size + 1; omega) (.int .i64 n1)).setCell (p := ⟨w.heap.size + 1, 2, none⟩) (by show w.heap.size ≤ w.heap.size + 1; omega) (.string x2)) (Nat.le_refl _) (.int .i64 4) (.int .i64 n1) (.string x2) (.string ⟨#[]⟩) (.int .i64 0) (.int .i64 0)
              go_wp2
              refine bodyPost_ret (v := .agg #[.int .i64 4, .int .i64 n1, .string x2, .string ⟨#[]⟩, .int .i64 0, .int .i64 0]) ?_ rfl ?_
              · rw [results_cell1 rfl]
                simp [asAddr, Result.andThen, HF.1]
              · exact ⟨by rw [HR6.out], HF.2⟩
            · have HF := finR (W := ((wr.setCell ⟨w.heap.size + 1, 1, none⟩ (.int .i64 n1)).setCell ⟨w.heap.size + 1, 2, none⟩ (.string x2))) (w := w) (R := w.heap.size) ((heap_set_far (by omega)).trans ((heap_set_far (by omega)).trans HRS.out)) ((HFR.out.setCell (p := ⟨w.heap.size + 1, 1, none⟩) (by show w.heap.size ≤ w.heap.size + 1; omega) (.int .i64 n1)).setCell (p := ⟨w.heap.size + 1, 2, none⟩) (by show w.heap.size ≤ w.heap.size + 1; omega) (.string x2)) (Nat.le_refl _) (.int .i64 5) (.int .i64 n1) (.string x2) (.string ⟨#[]⟩) (.int .i64 0) (.int .i64 0)
              go_wp2
              refine bodyPost_ret (v := .agg #[.int .i64 5, .int .i64 n1, .string x2, .string ⟨#[]⟩, .int .i64 0, .int .i64 0]) ?_ rfl ?_
              · rw [results_cell1 rfl]
                simp [asAddr, Result.andThen, HF.1]
              · exact ⟨by rw [HR6.out], HF.2⟩
          | cons x3 L3 =>
            have hn3 : 3 ≤ n := by have := HLN.out; simp only [List.length_cons] at this; omega
            obtain ⟨_, _, he3, _, hc2⟩ := HSW.out 2 (by simp [strs])
            cases he3
            simp only [strs, List.map_cons, List.getElem_cons_zero, List.getElem_cons_succ] at hc2
            have HR6 : Hid (evV (refG k (x1 :: x2 :: x3 :: L3)) = .agg #[.int .i64 k, .int .i64 (numW x1), .string x2, .string x3, .int .i64 0, .int .i64 0]) := by unfold Hid; rw [refG_cons, if_neg h6, if_pos h45]; rfl
            clear HS2 HLOW HSW
            generalize numW x1 = n1 at *
            generalize numW x2 = n2 at *
            rcases h45 with rfl | rfl
            · have HF := finR (W := (((wr.setCell ⟨w.heap.size + 1, 1, none⟩ (.int .i64 n1)).setCell ⟨w.heap.size + 1, 2, none⟩ (.string x2)).setCell ⟨w.heap.size + 1, 3, none⟩ (.string x3))) (w := w) (R := w.heap.size) ((heap_set_far (by omega)).trans ((heap_set_far (by omega)).trans ((heap_set_far (by omega)).trans HRS.out))) (((HFR.out.setCell (p := ⟨w.heap.size + 1, 1, none⟩) (by show w.heap.size ≤ w.heap.size + 1; omega) (.int .i64 n1)).setCell (p := ⟨w.heap.size + 1, 2, none⟩) (by show w.heap.size ≤ w.heap.size + 1; omega) (.string x2)).setCell (p := ⟨w.heap.size + 1, 3, none⟩) (by show w.heap.size ≤ w.heap.size + 1; omega) (.string x3)) (Nat.le_refl _) (.int .i64 4) (.int .i64 n1) (.string x2) (.string x3) (.int .i64 0) (.int .i64 0)
              go_wp2
              refine bodyPost_ret (v := .agg #[.int .i64 4, .int .i64 n1, .string x2, .string x3, .int .i64 0, .int .i64 0]) ?_ rfl ?_
              · rw [results_cell1 rfl]
                simp [asAddr, Result.andThen, HF.1]
              · exact ⟨by rw [HR6.out], HF.2⟩
            · have HF := finR (W := (((wr.setCell ⟨w.heap.size + 1, 1, none⟩ (.int .i64 n1)).setCell ⟨w.heap.size + 1, 2, none⟩ (.string x2)).setCell ⟨w.heap.size + 1, 3, none⟩ (.string x3))) (w := w) (R := w.heap.size) ((heap_set_far (by omega)).trans ((heap_set_far (by omega)).trans ((heap_set_far (by omega)).trans HRS.out))) (((HFR.out.setCell (p := ⟨w.heap.size + 1, 1, none⟩) (by show w.heap.size ≤ w.heap.size + 1; omega) (.int .i64 n1)).setCell (p := ⟨w.heap.size + 1, 2, none⟩) (by show w.heap.size ≤ w.heap.size + 1; omega) (.string x2)).setCell (p := ⟨w.heap.size + 1, 3, none⟩) (by show w.heap.size ≤ w.heap.size + 1; omega) (.string x3)) (Nat.le_refl _) (.int .i64 5) (.int .i64 n1) (.string x2) (.string x3) (.int .i64 0) (.int .i64 0)
              go_wp2
              refine bodyPost_ret (v := .agg #[.int .i64 5, .int .i64 n1, .string x2, .string x3, .int .i64 0, .int .i64 0]) ?_ rfl ?_
              · rw [results_cell1 rfl]
                simp [asAddr, Result.andThen, HF.1]
              · exact ⟨by rw [HR6.out], HF.2⟩
        · have h4 : ¬ k = 4 := fun h => h45 (.inl h)
          have h5 : ¬ k = 5 := fun h => h45 (.inr h)
          have g6 : (k == 6) = false := beq_eq_false_iff_ne.2 h6
          have g4 : (k == 4) = false := beq_eq_false_iff_ne.2 h4
          have g5 : (k == 5) = false := beq_eq_false_iff_ne.2 h5
          cases L2 with
          | nil =>
            obtain rfl : n = 2 := HLN.out
            have HR6 : Hid (evV (refG k [x1, x2]) = .agg #[.int .i64 k, .int .i64 (numW x1), .string x2, .string ⟨#[]⟩, .int .i64 0, .int .i64 0]) := by unfold Hid; rw [refG_cons, if_neg h6, if_neg h45]; simp only [headW, tailW, numW_nil]; rfl
            clear HS2 HLOW HSW h45
            generalize numW x1 = n1 at *
            generalize numW x2 = n2 at *
            have HF := finR (W := ((wr.setCell ⟨w.heap.size + 1, 1, none⟩ (.int .i64 n1)).setCell ⟨w.heap.size + 1, 2, none⟩ (.string x2))) (w := w) (R := w.heap.size) ((heap_set_far (by omega)).trans ((heap_set_far (by omega)).trans HRS.out)) ((HFR.out.setCell (p := ⟨w.heap.size + 1, 1, none⟩) (by show w.heap.size ≤ w.heap.size + 1; omega) (.int .i64 n1)).setCell (p := ⟨w.heap.size + 1, 2, none⟩) (by show w.heap.size ≤ w.heap.size + 1; omega) (.string x2)) (Nat.le_refl _) (.int .i64 k) (.int .i64 n1) (.string x2) (.string ⟨#[]⟩) (.int .i64 0) (.int .i64 0)
            go_wp2
            refine bodyPost_ret (v := .agg #[.int .i64 k, .int .i64 n1, .string x2, .string ⟨#[]⟩, .int .i64 0, .int .i64 0]) ?_ rfl ?_
            · rw [results_cell1 rfl]
              simp [asAddr, Result.andThen, HF.1]
            · exact ⟨by rw [HR6.out], HF.2⟩
          | cons x3 L3 =>
            obtain ⟨_, _, he4, _, hd2⟩ := HS2.out 2 (by simp [numsW])
            cases he4
            simp only [numsW, List.map_cons, List.getElem_cons_zero, List.getElem_cons_succ] at hd2
            have v3 := undec_in x3
            cases L3 with
            | nil =>
              obtain rfl : n = 3 := HLN.out
              have HR6 : Hid (evV (refG k [x1, x2, x3]) = .agg #[.int .i64 k, .int .i64 (numW x1), .string x2, .string ⟨#[]⟩, .int .i64 (numW x3), .int .i64 0]) := by unfold Hid; rw [refG_cons, if_neg h6, if_neg h45]; simp only [headW, tailW, numW_nil]; rfl
              clear HS2 HLOW HSW h45
              generalize numW x1 = n1 at *
              generalize numW x2 = n2 at *
              generalize numW x3 = n3 at *
              have HF := finR (W := (((wr.setCell ⟨w.heap.size + 1, 1, none⟩ (.int .i64 n1)).setCell ⟨w.heap.size + 1, 2, none⟩ (.string x2)).setCell ⟨w.heap.size + 1, 4, none⟩ (.int .i64 n3))) (w := w) (R := w.heap.size) ((heap_set_far (by omega)).trans ((heap_set_far (by omega)).trans ((heap_set_far (by omega)).trans HRS.out))) (((HFR.out.setCell (p := ⟨w.heap.size + 1, 1, none⟩) (by show w.heap.size ≤ w.heap.size + 1; omega) (.int .i64 n1)).setCell (p := ⟨w.heap.size + 1, 2, none⟩) (by show w.heap.size ≤ w.heap.size + 1; omega) (.string x2)).setCell (p := ⟨w.heap.size + 1, 4, none⟩) (by show w.heap.size ≤ w.heap.size + 1; omega) (.int .i64 n3)) (Nat.le_refl _) (.int .i64 k) (.int .i64 n1) (.string x2) (.string ⟨#[]⟩) (.int .i64 n3) (.int .i64 0)
              go_wp2
              refine bodyPost_ret (v := .agg #[.int .i64 k, .int .i64 n1, .string x2, .string ⟨#[]⟩, .int .i64 n3, .int .i64 0]) ?_ rfl ?_
              · rw [results_cell1 rfl]
                simp [asAddr, Result.andThen, HF.1]
              · exact ⟨by rw [HR6.out], HF.2⟩
            | cons x4 L4 =>
              have hn4 : 4 ≤ n := by have := HLN.out; simp only [List.length_cons] at this; omega
              obtain ⟨_, _, he5, _, hd3⟩ := HS2.out 3 (by simp [numsW])
              cases he5
              simp only [numsW, List.map_cons, List.getElem_cons_zero, List.getElem_cons_succ] at hd3
              have v4 := undec_in x4
              have HR6 : Hid (evV (refG k (x1 :: x2 :: x3 :: x4 :: L4)) = .agg #[.int .i64 k, .int .i64 (numW x1), .string x2, .string ⟨#[]⟩, .int .i64 (numW x3), .int .i64 (numW x4)]) := by unfold Hid; rw [refG_cons, if_neg h6, if_neg h45]; rfl
              clear HS2 HLOW HSW h45
              generalize numW x1 = n1 at *
              generalize numW x2 = n2 at *
              generalize numW x3 = n3 at *
              generalize numW x4 = n4 at *
              have HF := finR (W := ((((wr.setCell ⟨w.heap.size + 1, 1, none⟩ (.int .i64 n1)).setCell ⟨w.heap.size + 1, 2, none⟩ (.string x2)).setCell ⟨w.heap.size + 1, 4, none⟩ (.int .i64 n3)).setCell ⟨w.heap.size + 1, 5, none⟩ (.int .i64 n4))) (w := w) (R := w.heap.size) ((heap_set_far (by omega)).trans ((heap_set_far (by omega)).trans ((heap_set_far (by omega)).trans ((heap_set_far (by omega)).trans HRS.out)))) ((((HFR.out.setCell (p := ⟨w.heap.size + 1, 1, none⟩) (by show w.heap.size ≤ w.heap.size + 1; omega) (.int .i64 n1)).setCell (p := ⟨w.heap.size + 1, 2, none⟩) (by show w.heap.size ≤ w.heap.size + 1; omega) (.string x2)).setCell (p := ⟨w.heap.size + 1, 4, none⟩) (by show w.heap.size ≤ w.heap.size + 1; omega) (.int .i64 n3)).setCell (p := ⟨w.heap.size + 1, 5, none⟩) (by show w.heap.size ≤ w.heap.size + 1; omega) (.int .i64 n4)) (Nat.le_refl _) (.int .i64 k) (.int .i64 n1) (.string x2) (.string ⟨#[]⟩) (.int .i64 n3) (.int .i64 n4)
              go_wp2
              refine bodyPost_ret (v := .agg #[.int .i64 k, .int .i64 n1, .string x2, .string ⟨#[]⟩, .int .i64 n3, .int .i64 n4]) ?_ rfl ?_
              · rw [results_cell1 rfl]
                simp [asAddr, Result.andThen, HF.1]
              · exact ⟨by rw [HR6.out], HF.2⟩
end Go.Proofs.YtollhemkjnkalaaDoor
