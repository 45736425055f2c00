/- Texts of mine, one behind the other, of each what is wanted. -/
import Derived.Test.YtapacckmgmdnoaaGreatR00
import Derived.Test.YtapacckmgmdnoaaGreatRows
import Derived.Test.YtapacckmgmdnoaaGreatShelf
import Derived.Test.YtapacckmgmdnoaaGreatR01
import Derived.Test.YtapacckmgmdnoaaGreatR03
import Derived.Test.YtapacckmgmdnoaaGreatR04
import Derived.Test.YtapacckmgmdnoaaGreatR12
import Derived.Test.YtapacckmgmdnoaaGreatR14
import Derived.Test.YtapacckmgmdnoaaGreatR18
import Derived.Test.YtapacckmgmdnoaaGreatR20
import Derived.Test.YtapacckmgmdnoaaGreatR23
import Derived.Test.YtapacckmgmdnoaaGreatR26
namespace Go.Proofs.YtapacckmgmdnoaaGreat
set_option linter.unusedVariables false
set_option maxRecDepth 100000
instance riseDec (l : List StM) : Decidable (RiseS l) := by unfold RiseS; infer_instance
instance okODec (e : OpM) : Decidable (OkO e) := by unfold OkO; infer_instance
instance riseODec (l : List OpM) : Decidable (RiseO l) := by unfold RiseO; infer_instance
end Go.Proofs.YtapacckmgmdnoaaGreat
namespace Go.Proofs.YtapacckmgmdnoaaGreat
open Go.RowKit
set_option linter.unusedVariables false
set_option maxRecDepth 100000
set_option maxRecDepth 100000
theorem infoEn4 : (Tryz.prog.info? 165).map (·.size) = some 4 := by kernel_rfl
theorem loadEn {W : World} {g : Nat} {a b c d : Value} {t : TypeId} (h : W.heap[g]? = some (.cells #[a, b, c, d] t (0, 0))) :
  (loadVar 165 ⟨g, 0, none⟩).run Tryz.prog W = .ok (.agg #[a, b, c, d]) W :=
 run_loadVar_mid (P := Tryz.prog) W g 0 165 [a, b, c, d] _ (fun j v hv => by
  rw [Nat.zero_add, cell_of_row _ _ _ _ _ (0, 0) h]
  simpa using hv) Tryz.underlying165 rfl infoEn4
set_option maxHeartbeats 1000000 in
theorem eone_any (p u : ByteArray) (f t : Int) (w : World) : Calls Tryz.prog 143 #[.string p, .string u, .int .i64 f, .int .i64 t] w fun e w' => e = .returned (.agg #[.string p, .string u, .int .i64 f, .int .i64 t]) ∧ w' = w.alloc (.cells #[.string p, .string u, .int .i64 f, .int .i64 t] 165) := by
 have HL := Lib.hid (loadEn (heap_alloc_new w (.cells #[.string p, .string u, .int .i64 f, .int .i64 t] 165)))
 go_enter Tryz.func143, Tryz.ntmps143
 go_wp2
 refine bodyPost_ret (v := .agg #[.string p, .string u, .int .i64 f, .int .i64 t]) ?_ rfl ?_
 ·rw [results_cell1 rfl]
  simp [asAddr, Result.andThen, HL.out]
 ·exact ⟨rfl, rfl⟩
set_option maxHeartbeats 2000000 in
theorem enews_any (a : Option Addr) (c : Nat) (l : List EnM) (w : World) (hr : EnSl w a l) (hl : l.length ≤ 1000000) :
  Calls Tryz.prog 72 #[.slice a l.length c] w fun e w' => ∃ (v : Value), e = .returned v ∧ w'.ownsRow w.heap.size 165 4 v l.length (ens l) ∧ Below w.heap.size w w' := by
 obtain ⟨i0, hi, hz0, hz1, hz2⟩ := info_parts infoEn
 have HR := Lib.hid hr
 have HN := Lib.hid eone_any
 clear hr
 go_enter Tryz.func72, Tryz.ntmps72
 go_wp2
 go_loopw [3, 8] (fun v i wr => ∃ (j : Nat), j ≤ l.length ∧ i = .int .i64 j ∧ Hid (wr.ownsRow w.heap.size 165 4 v j (ens (l.take j))) ∧ Hid (Below w.heap.size w wr)) (fun _ i _ => l.length - (intOf i).toNat)
 case atStart => exact ⟨0, by omega, rfl, ⟨rfl, .inl ⟨rfl, rfl⟩⟩, Below.refl _ _⟩
 case round =>
  obtain ⟨j, hj, rfl, HO, HB⟩ := hrel
  by_cases hjl : j < l.length
  ·obtain ⟨b, off, rfl, hbl, hc0, hc1, hc2, hc3⟩ := (HR.out.below HB.out).at_ hjl
   have HC := Lib.hid (ens_take l j hjl)
   generalize l[j] = x at *
   go_wp2_with fail
   refine (HN.out _ _ _ _ _).mono ?_
   rintro e w2 ⟨rfl, hw⟩
   have hb2 : Below wr.heap.size wr w2 := by rw [hw]; exact below_2 wr (.cells #[.string x.w, .string x.u, .int .i64 x.f, .int .i64 x.t] 135) (.cells #[.string x.w, .string x.u, .int .i64 x.f, .int .i64 x.t] 165)
   have HO2 := Lib.hid (own_below HO.out (hb2.trans ((ebelow_one w2 (.cells #[.string x.w, .string x.u, .int .i64 x.f, .int .i64 x.t] 165)).mono hb2.size)))
   have HB2 : Hid (Below w.heap.size w (w2.alloc (.cells #[.string x.w, .string x.u, .int .i64 x.f, .int .i64 x.t] 165))) := HB.out.trans ((hb2.trans ((ebelow_one w2 _).mono hb2.size)).mono HB.out.size)
   have HS2 := Lib.hid HB2.out.size
   clear hw hb2 hc0 hc1 hc2 hc3
   go_wp2_with (at_builtin; refine wpList_append_own _ rfl (.tmp 12) (.tmp 22) 36 rfl w.heap.size 165 i0 _ 4 48 Tryz.underlying36 hi hz0 hz1 hz2 rfl (by decide) _ _ _ rfl HO2.out ⟨w2.heap.size, 0, none⟩ 1 1 [.string x.w, .string x.u, .int .i64 x.f, .int .i64 x.t] rfl rfl (news_at _ _ _ _ rfl) (four_e _ _ _ _) (by unfold maxLen; omega) (by omega) HS2.out ?_; intro v' w3 hown' hgrow hiff)
   have HB3 := Lib.hid (app_below HB2.out HS2.out HO2.out hgrow)
   have HO3 := Lib.hid hown'
   clear hown' hgrow hiff HB2 HS2 HO2
   go_wp2
   go_roundw
   case rel => exact ⟨j + 1, by omega, by go_num, (by unfold Hid; rw [HC.out]; exact HO3.out), HB3⟩
   case measure => simp [intOf]; omega
  ·obtain rfl : j = l.length := by omega
   rw [List.take_of_length_le (Nat.le_refl _)] at HO
   go_wp2
   go_ret
   exact ⟨_, rfl, HO.out, HB.out⟩
end Go.Proofs.YtapacckmgmdnoaaGreat
namespace Go.Proofs.YtapacckmgmdnoaaGreat
open Go.ChangeShapes Go.WideShapes Go.ChangeAt Go.RowKit
set_option linter.unusedVariables false
set_option maxRecDepth 100000
set_option maxRecDepth 100000
theorem array6 {α : Type} {cs : Array α} (h : cs.size = 6) : ∃ c0 c1 c2 c3 c4 c5, cs = #[c0, c1, c2, c3, c4, c5] := by
 obtain ⟨l⟩ := cs
 match l, h with
 | [c0, c1, c2, c3, c4, c5], _ => exact ⟨c0, c1, c2, c3, c4, c5, rfl⟩
section
variable {H : Type} {enc : TypeId × Value → H} {P : Program} {w : World} {base : Nat} {spare : Nat → Bool} {held : Bool}
end
end Go.Proofs.YtapacckmgmdnoaaGreat
namespace Go.Proofs.YtapacckmgmdnoaaGreat
open Go.RowKit Go.Proofs
set_option linter.unusedVariables false
set_option maxRecDepth 100000
theorem sizeEv12 (W : World) : (sizeOf (Tryz.prog.elem 32)).run Tryz.prog W = .ok 6 W := by rfl
theorem sizeEr12 (W : World) : (sizeOf (Tryz.prog.elem 40)).run Tryz.prog W = .ok 1 W := by rfl
theorem add_zero12 (a : Addr) : a.add 0 = a := by unfold Addr.add; rw [if_pos rfl]
theorem ev_to (a : Option Addr) (n c h : Nat) (hc : h ≤ c) (W : World) : (Instr.slice 32 (.slice a n c) none (some (.int .i64 (h : Int))) none).run Tryz.prog W = .ok (.slice a h c) W := by
 rw [run_slice_h W 32 a n c (by kernel_rfl) .i64 h (by omega) (by omega), sizeEv12]
 show Result.ok (sliced a 0 h c 6) W = _
 unfold sliced
 congr 2
 split
 ·rfl
 ·cases a
  ·rfl
  ·show some (Addr.add _ (0 * _)) = some _
   rw [Nat.zero_mul, add_zero12]
theorem ev_from (a : Option Addr) (l : List EvM) (c k : Nat) (hk : k ≤ l.length) (hc : l.length ≤ c) (ha : a = none → c = 0) :
  ∃ a' : Option Addr, (∀ W : World, (Instr.slice 32 (.slice a l.length c) (some (.int .i64 (k : Int))) none none).run Tryz.prog W = .ok (.slice a' (l.length - k) (c - k)) W) ∧ (∀ V, EvSl V a l → EvSl V a' (l.drop k)) := by
 refine ⟨if c = k then a else a.map (·.add (k * 6)), fun W => ?_, fun V h => ?_⟩
 ·rw [run_slice_l W 32 a l.length c (by kernel_rfl) .i64 k (by omega) (by omega), sizeEv12]
  rfl
 ·split
  ·rename_i e
   have : l.drop k = [] := List.drop_eq_nil_of_le (by omega)
   rw [this]
   exact fun j hj => absurd hj (by simp)
  ·by_cases h0 : k < l.length
   ·obtain ⟨b, off, rfl, -⟩ := h 0 (by omega)
    have e : (some (⟨b, off, none⟩ : Addr)).map (·.add (k * 6)) = some ⟨b, off + k * 6, none⟩ := by
     by_cases hz : k = 0
     ·subst hz; show some (Addr.add _ (0 * 6)) = _; rw [Nat.zero_mul, add_zero12, Nat.add_zero]
     ·show some (Addr.add _ _) = _
      unfold Addr.add
      rw [if_neg (by omega)]
    rw [e]
    exact h.drop k
   ·have : l.drop k = [] := List.drop_eq_nil_of_le (by omega)
    rw [this]
    exact fun j hj => absurd hj (by simp)
theorem er_cut (a : Option Addr) (n c : Nat) (hc : n ≤ c) (W : World) : (Instr.slice 40 (.slice a n c) none (some (.int .i64 (n : Int))) (some (.int .i64 (n : Int)))).run Tryz.prog W = .ok (.slice a n n) W := by
 rw [run_slice_hm W 40 a n c (by kernel_rfl) .i64 .i64 n n (by omega) (by omega) (by omega), sizeEr12]
 show Result.ok (sliced a 0 n n 1) W = _
 unfold sliced
 congr 2
 split
 ·rfl
 ·cases a
  ·rfl
  ·show some (Addr.add _ (0 * _)) = some _
   rw [Nat.zero_mul, add_zero12]
end Go.Proofs.YtapacckmgmdnoaaGreat
