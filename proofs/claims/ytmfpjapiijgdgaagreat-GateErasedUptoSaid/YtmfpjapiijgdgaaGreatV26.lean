/- Texts of mine, one behind the other, of each what is wanted. -/
import Derived.Test.YtmfpjapiijgdgaaGreatV00
import Derived.Test.YtmfpjapiijgdgaaGreatShelf
import Derived.Test.YtmfpjapiijgdgaaGreatRows
import Derived.Test.YtmfpjapiijgdgaaGreatV01
import Derived.Test.YtmfpjapiijgdgaaGreatV03
import Derived.Test.YtmfpjapiijgdgaaGreatV05
import Derived.Test.YtmfpjapiijgdgaaGreatV06
import Derived.Test.YtmfpjapiijgdgaaGreatV07
import Derived.Test.YtmfpjapiijgdgaaGreatV10
import Derived.Test.YtmfpjapiijgdgaaGreatV17
import Derived.Test.YtmfpjapiijgdgaaGreatV20
namespace Go.Proofs.YtmfpjapiijgdgaaGreat
open Go.RowKit
set_option linter.unusedVariables false
set_option maxRecDepth 100000
set_option maxRecDepth 100000
theorem infoEn4 : (Tryz.prog.info? 165).map (·.size) = some 4 := by kernel_rfl
theorem loadEn {W : World} {g : Nat} {a b c d : Value} {t : TypeId} (h : W.heap[g]? = some (.cells #[a, b, c, d] t (0, 0))) :
  (loadVar 165 ⟨g, 0, none⟩).run Tryz.prog W = .ok (.agg #[a, b, c, d]) W :=
 run_loadVar_mid (P := Tryz.prog) W g 0 165 [a, b, c, d] _ (fun j v hv => by
  rw [Nat.zero_add, cell_of_row _ _ _ _ _ (0, 0) h]
  simpa using hv) Tryz.underlying165 rfl infoEn4
set_option maxHeartbeats 1000000 in
theorem eone_any (p u : ByteArray) (f t : Int) (w : World) : Calls Tryz.prog 143 #[.string p, .string u, .int .i64 f, .int .i64 t] w fun e w' => e = .returned (.agg #[.string p, .string u, .int .i64 f, .int .i64 t]) ∧ w' = w.alloc (.cells #[.string p, .string u, .int .i64 f, .int .i64 t] 165) := by
 have HL := Lib.hid (loadEn (heap_alloc_new w (.cells #[.string p, .string u, .int .i64 f, .int .i64 t] 165)))
 go_enter Tryz.func143, Tryz.ntmps143
 go_wp2
 refine bodyPost_ret (v := .agg #[.string p, .string u, .int .i64 f, .int .i64 t]) ?_ rfl ?_
 ·rw [results_cell1 rfl]
  simp [asAddr, Result.andThen, HL.out]
 ·exact ⟨rfl, rfl⟩
set_option maxHeartbeats 2000000 in
theorem enews_any (a : Option Addr) (c : Nat) (l : List EnM) (w : World) (hr : EnSl w a l) (hl : l.length ≤ 1000000) :
  Calls Tryz.prog 72 #[.slice a l.length c] w fun e w' => ∃ (v : Value), e = .returned v ∧ w'.ownsRow w.heap.size 165 4 v l.length (ens l) ∧ Below w.heap.size w w' := by
 obtain ⟨i0, hi, hz0, hz1, hz2⟩ := info_parts infoEn
 have HR := Lib.hid hr
 have HN := Lib.hid eone_any
 clear hr
 go_enter Tryz.func72, Tryz.ntmps72
 go_wp2
 go_loopw [3, 8] (fun v i wr => ∃ (j : Nat), j ≤ l.length ∧ i = .int .i64 j ∧ Hid (wr.ownsRow w.heap.size 165 4 v j (ens (l.take j))) ∧ Hid (Below w.heap.size w wr)) (fun _ i _ => l.length - (intOf i).toNat)
 case atStart => exact ⟨0, by omega, rfl, ⟨rfl, .inl ⟨rfl, rfl⟩⟩, Below.refl _ _⟩
 case round =>
  obtain ⟨j, hj, rfl, HO, HB⟩ := hrel
  by_cases hjl : j < l.length
  ·obtain ⟨b, off, rfl, hbl, hc0, hc1, hc2, hc3⟩ := (HR.out.below HB.out).at_ hjl
   have HC := Lib.hid (ens_take l j hjl)
   generalize l[j] = x at *
   go_wp2_with fail
   refine (HN.out _ _ _ _ _).mono ?_
   rintro e w2 ⟨rfl, hw⟩
   have hb2 : Below wr.heap.size wr w2 := by rw [hw]; exact below_2 wr (.cells #[.string x.w, .string x.u, .int .i64 x.f, .int .i64 x.t] 135) (.cells #[.string x.w, .string x.u, .int .i64 x.f, .int .i64 x.t] 165)
   have HO2 := Lib.hid (own_below HO.out (hb2.trans ((ebelow_one w2 (.cells #[.string x.w, .string x.u, .int .i64 x.f, .int .i64 x.t] 165)).mono hb2.size)))
   have HB2 : Hid (Below w.heap.size w (w2.alloc (.cells #[.string x.w, .string x.u, .int .i64 x.f, .int .i64 x.t] 165))) := HB.out.trans ((hb2.trans ((ebelow_one w2 _).mono hb2.size)).mono HB.out.size)
   have HS2 := Lib.hid HB2.out.size
   clear hw hb2 hc0 hc1 hc2 hc3
   go_wp2_with (at_builtin; refine wpList_append_own _ rfl (.tmp 12) (.tmp 22) 36 rfl w.heap.size 165 i0 _ 4 48 Tryz.underlying36 hi hz0 hz1 hz2 rfl (by decide) _ _ _ rfl HO2.out ⟨w2.heap.size, 0, none⟩ 1 1 [.string x.w, .string x.u, .int .i64 x.f, .int .i64 x.t] rfl rfl (news_at _ _ _ _ rfl) (four_e _ _ _ _) (by unfold maxLen; omega) (by omega) HS2.out ?_; intro v' w3 hown' hgrow hiff)
   have HB3 := Lib.hid (app_below HB2.out HS2.out HO2.out hgrow)
   have HO3 := Lib.hid hown'
   clear hown' hgrow hiff HB2 HS2 HO2
   go_wp2
   go_roundw
   case rel => exact ⟨j + 1, by omega, by go_num, (by unfold Hid; rw [HC.out]; exact HO3.out), HB3⟩
   case measure => simp [intOf]; omega
  ·obtain rfl : j = l.length := by omega
   rw [List.take_of_length_le (Nat.le_refl _)] at HO
   go_wp2
   go_ret
   exact ⟨_, rfl, HO.out, HB.out⟩
def lastStep (p : Int × Bool) (s : StM) : Int × Bool := if s.f < s.t ∧ (p.2 = false ∨ p.1 < s.t) then (s.t, true) else p
def lastS (l : List StM) : Int × Bool := l.foldl lastStep (0, false)
theorem last_take (l : List StM) (j : Nat) (h : j < l.length) : lastS (l.take (j + 1)) = lastStep (lastS (l.take j)) l[j] := by
 unfold lastS
 rw [List.take_succ_eq_append_getElem h, List.foldl_append]
 rfl
set_option maxHeartbeats 2000000 in
theorem last_any (a : Option Addr) (c : Nat) (l : List StM) (w : World) (hr : StSl w a l) (hl : l.length ≤ 1000000) :
  Calls Tryz.prog 102 #[.slice a l.length c] w fun e w' => e = .returned (.tuple #[.int .i64 (lastS l).1, .bool (lastS l).2]) ∧ Below w.heap.size w w' := by
 have HR := Lib.hid hr
 have HNO := Lib.hid none_any
 clear hr
 go_enter Tryz.func102, Tryz.ntmps102
 go_wp2
 go_loopw [4, 5, 10] (fun u v i wr => ∃ (j : Nat) (m : Int) (is : Bool), j ≤ l.length ∧ i = .int .i64 j ∧ u = .int .i64 m ∧ v = .bool is ∧ Hid (lastS (l.take j) = (m, is)) ∧ Hid (Below w.heap.size w wr)) (fun _ _ i _ => l.length - (intOf i).toNat)
 case atStart => exact ⟨0, 0, false, by omega, rfl, rfl, rfl, rfl, Below.refl _ _⟩
 case round =>
  obtain ⟨j, m, is, hj, rfl, rfl, rfl, HO, HB⟩ := hrel
  by_cases hjl : j < l.length
  ·obtain ⟨b, off, rfl, hbl, hc0, hc1, hc2, hc3⟩ := (HR.out.below HB.out).at_ hjl
   have HC := Lib.hid (last_take l j hjl)
   rw [HO.out] at HC
   generalize l[j] = x at *
   have HN0 := Lib.hid (HNO.out x.f x.t)
   have HB1 := Lib.hid (HB.out.trans ((below_one wr (.cells #[.int .i64 x.f, .int .i64 x.t, .int .i64 x.n, .int .i64 x.s] 111)).mono HB.out.size))
   have hcn := cells4 (heap_alloc_new wr (.cells #[.int .i64 x.f, .int .i64 x.t, .int .i64 x.n, .int .i64 x.s] 111))
   by_cases h1 : x.t ≤ x.f
   ·have HC2 : Hid (lastS (l.take (j + 1)) = (m, is)) := HC.out.trans (by unfold lastStep; rw [if_neg (by omega)])
    have HN1 : Hid (∀ W, Calls Tryz.prog 108 #[.agg #[.int .i64 x.f, .int .i64 x.t]] W fun e w' => e = .returned (.bool true) ∧ Below W.heap.size W w') := fun W => by
     have := HN0.out W
     rwa [decide_eq_true h1] at this
    clear HN0 HC h1 hcn
    go_wp2_with fail
    refine (HN1.out _).mono ?_
    rintro e w2 ⟨rfl, h2⟩
    have HB2 := Lib.hid (HB1.out.trans (h2.mono HB1.out.size))
    go_wp2
    go_roundw
    case rel => exact ⟨j + 1, m, is, by omega, by go_num, rfl, rfl, HC2, HB2⟩
    case measure => simp [intOf]; omega
   ·have HN1 : Hid (∀ W, Calls Tryz.prog 108 #[.agg #[.int .i64 x.f, .int .i64 x.t]] W fun e w' => e = .returned (.bool false) ∧ Below W.heap.size W w') := fun W => by
     have := HN0.out W
     rwa [decide_eq_false h1] at this
    have HX : Hid (∀ W, Below (wr.heap.size + 1) (wr.alloc (.cells #[.int .i64 x.f, .int .i64 x.t, .int .i64 x.n, .int .i64 x.s] 111)) W → W.cell? ⟨wr.heap.size, 0, none⟩ = some (.int .i64 x.f) ∧ W.cell? ⟨wr.heap.size, 1, none⟩ = some (.int .i64 x.t) ∧ W.cell? ⟨wr.heap.size, 2, none⟩ = some (.int .i64 x.n) ∧ W.cell? ⟨wr.heap.size, 3, none⟩ = some (.int .i64 x.s)) := fun W h => cells4 ((h.block _ (by omega)).trans (heap_alloc_new wr _))
    clear HN0 hcn
    by_cases h2 : is = false
    ·subst h2
     have HC2 : Hid (lastS (l.take (j + 1)) = (x.t, true)) := HC.out.trans (by unfold lastStep; rw [if_pos ⟨by omega, .inl rfl⟩])
     clear HC h1
     go_wp2_with fail
     refine (HN1.out _).mono ?_
     rintro e w2 ⟨rfl, h2⟩
     have HB2 := Lib.hid (HB1.out.trans (h2.mono HB1.out.size))
     obtain ⟨g0, g1, g2, g3⟩ := HX.out w2 (h2.mono (by rw [size1]; exact Nat.le_refl _))
     go_wp2
     go_roundw
     case rel => exact ⟨j + 1, x.t, true, by omega, by go_num, rfl, rfl, HC2, HB2⟩
     case measure => simp [intOf]; omega
    ·obtain rfl : is = true := by cases is <;> simp_all
     by_cases h3 : m < x.t
     ·have HC2 : Hid (lastS (l.take (j + 1)) = (x.t, true)) := HC.out.trans (by unfold lastStep; rw [if_pos ⟨by omega, .inr h3⟩])
      clear HC h1 h2
      go_wp2_with fail
      refine (HN1.out _).mono ?_
      rintro e w2 ⟨rfl, h2⟩
      have HB2 := Lib.hid (HB1.out.trans (h2.mono HB1.out.size))
      obtain ⟨g0, g1, g2, g3⟩ := HX.out w2 (h2.mono (by rw [size1]; exact Nat.le_refl _))
      go_wp2
      go_roundw
      case rel => exact ⟨j + 1, x.t, true, by omega, by go_num, rfl, rfl, HC2, HB2⟩
      case measure => simp [intOf]; omega
     ·have HC2 : Hid (lastS (l.take (j + 1)) = (m, true)) := HC.out.trans (by unfold lastStep; rw [if_neg (by rintro ⟨_, h | h⟩; cases h; exact h3 h)])
      clear HC h1 h2
      go_wp2_with fail
      refine (HN1.out _).mono ?_
      rintro e w2 ⟨rfl, h2⟩
      have HB2 := Lib.hid (HB1.out.trans (h2.mono HB1.out.size))
      obtain ⟨g0, g1, g2, g3⟩ := HX.out w2 (h2.mono (by rw [size1]; exact Nat.le_refl _))
      go_wp2
      go_roundw
      case rel => exact ⟨j + 1, m, true, by omega, by go_num, rfl, rfl, HC2, HB2⟩
      case measure => simp [intOf]; omega
  ·obtain rfl : j = l.length := by omega
   rw [List.take_of_length_le (Nat.le_refl _)] at HO
   go_wp2
   go_ret2
   exact ⟨by rw [HO.out]; rfl, HB.out⟩
end Go.Proofs.YtmfpjapiijgdgaaGreat
namespace Go.Proofs.YtmfpjapiijgdgaaGreat
open Go.RowKit Go.Proofs
set_option linter.unusedVariables false
set_option maxRecDepth 100000
set_option maxRecDepth 100000
theorem tbv_snoc (D : List TbM) (y : TbM) : tbv (D ++ [y]) = tbv D ++ [.string y.u, .int .i64 y.a] := by
 unfold tbv
 rw [List.map_append]
 exact pps_snoc _ _
end Go.Proofs.YtmfpjapiijgdgaaGreat
