/- Texts of mine, one behind the other, of each what is wanted. -/
import Derived.Test.YtmfpjapiijgdgaaGreatQ00
import Derived.Test.YtmfpjapiijgdgaaGreatQ01
namespace Go.Proofs.YtmfpjapiijgdgaaGreat
open Go.RowKit
set_option linter.unusedVariables false
set_option maxRecDepth 100000
set_option maxRecDepth 100000
theorem sts_take (l : List StM) (j : Nat) (h : j < l.length) : sts (l.take (j + 1)) = sts (l.take j) ++ [.int .i64 l[j].f, .int .i64 l[j].t, .int .i64 l[j].n, .int .i64 l[j].s] := by
 rw [List.take_succ_eq_append_getElem h]; exact sts_snoc _ _
end Go.Proofs.YtmfpjapiijgdgaaGreat
namespace Go.Proofs.YtmfpjapiijgdgaaGreat
open Go.RowKit Go.Sort Go.Proofs
set_option linter.unusedVariables false
set_option maxRecDepth 100000
set_option maxRecDepth 100000
theorem one_any (f t n s : Int) (w : World) : Calls Tryz.prog 111 #[.int .i64 f, .int .i64 t, .int .i64 n, .int .i64 s] w fun e w' => e = .returned (.agg #[.int .i64 f, .int .i64 t, .int .i64 n, .int .i64 s]) ∧ w' = w.alloc (.cells #[.int .i64 f, .int .i64 t, .int .i64 n, .int .i64 s] 111) := by
 have HL := Lib.hid (loadSt (heap_alloc_new w (.cells #[.int .i64 f, .int .i64 t, .int .i64 n, .int .i64 s] 111)))
 go_enter Tryz.func111, Tryz.ntmps111
 go_wp2
 refine bodyPost_ret (v := .agg #[.int .i64 f, .int .i64 t, .int .i64 n, .int .i64 s]) ?_ rfl ?_
 ·rw [results_cell1 rfl]
  simp [asAddr, Result.andThen, HL.out]
 ·exact ⟨rfl, rfl⟩
set_option maxHeartbeats 1000000 in
theorem new_any (x : StM) (w : World) : Calls Tryz.prog 57 #[stV x] w fun e w' => e = .returned (stV x) ∧ Grew w w' := by
 unfold stV
 obtain ⟨f, t, n, s⟩ := x
 dsimp only
 have HO := Lib.hid one_any
 have HL : Hid (∀ o1 o3 : Obj, (loadVar 111 ⟨w.heap.size + 1, 0, none⟩).run Tryz.prog (((w.alloc o1).alloc (.cells #[.int .i64 f, .int .i64 t, .int .i64 n, .int .i64 s] 111)).alloc o3) = .ok (.agg #[.int .i64 f, .int .i64 t, .int .i64 n, .int .i64 s]) (((w.alloc o1).alloc (.cells #[.int .i64 f, .int .i64 t, .int .i64 n, .int .i64 s] 111)).alloc o3)) := fun o1 o3 => by
  have := heap_alloc_new (w.alloc o1) (.cells #[.int .i64 f, .int .i64 t, .int .i64 n, .int .i64 s] 111)
  rw [size1] at this
  exact loadSt ((Below.heap_alloc _ o3 _ (by rw [size1, size1]; omega)).trans this)
 have HG := Lib.hid (fun o p r => (((Grew.refl w).alloc o).alloc p).alloc r)
 go_enter Tryz.func57, Tryz.ntmps57
 go_wp2_with (go_at_call 111; refine (HO.out _ _ _ _ _).mono ?_; rintro e w' ⟨rfl, rfl⟩)
 refine bodyPost_ret (v := .agg #[.int .i64 f, .int .i64 t, .int .i64 n, .int .i64 s]) ?_ rfl ?_
 ·rw [results_cell1 rfl]
  simp [asAddr, Result.andThen, HL.out]
 ·exact ⟨rfl, HG.out _ _ _⟩
end Go.Proofs.YtmfpjapiijgdgaaGreat
namespace Go.Proofs.YtmfpjapiijgdgaaGreat
open Go.RowKit
set_option linter.unusedVariables false
set_option maxRecDepth 100000
set_option maxRecDepth 100000
set_option maxHeartbeats 2000000 in
theorem snews_any (a : Option Addr) (c : Nat) (l : List StM) (w : World) (hr : StSl w a l) (hl : l.length ≤ 1000000) :
  Calls Tryz.prog 73 #[.slice a l.length c] w fun e w' => ∃ (v : Value), e = .returned v ∧ w'.ownsRow w.heap.size 111 4 v l.length (sts l) ∧ Below w.heap.size w w' := by
 obtain ⟨i0, hi, hz0, hz1, hz2⟩ := info_parts infoStay
 have HR := Lib.hid hr
 have HN := Lib.hid new_any
 unfold stV at HN
 clear hr
 go_enter Tryz.func73, Tryz.ntmps73
 go_wp2
 go_loopw [3, 8] (fun v i wr => ∃ (j : Nat), j ≤ l.length ∧ i = .int .i64 j ∧ Hid (wr.ownsRow w.heap.size 111 4 v j (sts (l.take j))) ∧ Hid (Below w.heap.size w wr)) (fun _ i _ => l.length - (intOf i).toNat)
 case atStart => exact ⟨0, by omega, rfl, ⟨rfl, .inl ⟨rfl, rfl⟩⟩, Below.refl _ _⟩
 case round =>
  obtain ⟨j, hj, rfl, HO, HB⟩ := hrel
  by_cases hjl : j < l.length
  ·obtain ⟨b, off, rfl, hbl, hc0, hc1, hc2, hc3⟩ := (HR.out.below HB.out).at_ hjl
   have HC := Lib.hid (sts_take l j hjl)
   generalize l[j] = x at *
   go_wp2_with fail
   refine (HN.out x _).mono ?_
   rintro e w2 ⟨rfl, hg⟩
   have hb1 := hg.below (Nat.le_refl _)
   have hb2 := (below_one wr (.cells #[.int .i64 x.f, .int .i64 x.t, .int .i64 x.n, .int .i64 x.s] 104)).trans (hb1.mono (by rw [size1]; omega))
   have HO2 := Lib.hid (own_below HO.out (hb2.trans ((below_one w2 (.cells #[.int .i64 x.f, .int .i64 x.t, .int .i64 x.n, .int .i64 x.s] 111)).mono hb2.size)))
   have HB2 : Hid (Below w.heap.size w (w2.alloc (.cells #[.int .i64 x.f, .int .i64 x.t, .int .i64 x.n, .int .i64 x.s] 111))) := HB.out.trans ((hb2.trans ((below_one w2 _).mono hb2.size)).mono HB.out.size)
   have HS2 := Lib.hid HB2.out.size
   clear hg hb1 hb2 hc0 hc1 hc2 hc3
   go_wp2_with (at_builtin; refine wpList_append_own _ rfl (.tmp 12) (.tmp 15) 69 rfl w.heap.size 111 i0 _ 4 32 Tryz.underlying69 hi hz0 hz1 hz2 rfl (by decide) _ _ _ rfl HO2.out ⟨w2.heap.size, 0, none⟩ 1 1 [.int .i64 x.f, .int .i64 x.t, .int .i64 x.n, .int .i64 x.s] rfl rfl (news_at _ _ _ _ rfl) (four_one _ _ _ _) (by unfold maxLen; omega) (by omega) HS2.out ?_; intro v' w3 hown' hgrow hiff)
   have HB3 := Lib.hid (app_below HB2.out HS2.out HO2.out hgrow)
   have HO3 := Lib.hid hown'
   clear hown' hgrow hiff HB2 HS2 HO2
   go_wp2
   go_roundw
   case rel => exact ⟨j + 1, by omega, by go_num, (by unfold Hid; rw [HC.out]; exact HO3.out), HB3⟩
   case measure => simp [intOf]; omega
  ·obtain rfl : j = l.length := by omega
   rw [List.take_of_length_le (Nat.le_refl _)] at HO
   go_wp2
   go_ret
   exact ⟨_, rfl, HO.out, HB.out⟩
end Go.Proofs.YtmfpjapiijgdgaaGreat
