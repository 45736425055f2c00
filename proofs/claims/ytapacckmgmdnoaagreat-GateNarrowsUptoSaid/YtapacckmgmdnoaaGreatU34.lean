/- Texts of mine, one behind the other, of each what is wanted. -/
import Derived.Test.YtapacckmgmdnoaaGreatU00
import Derived.Test.YtapacckmgmdnoaaGreatShelf
import Derived.Test.YtapacckmgmdnoaaGreatRows
import Derived.Test.YtapacckmgmdnoaaGreatU01
import Derived.Test.YtapacckmgmdnoaaGreatU02
import Derived.Test.YtapacckmgmdnoaaGreatU04
import Derived.Test.YtapacckmgmdnoaaGreatU06
import Derived.Test.YtapacckmgmdnoaaGreatU07
import Derived.Test.YtapacckmgmdnoaaGreatU16
import Derived.Test.YtapacckmgmdnoaaGreatU21
namespace Go.Proofs.YtapacckmgmdnoaaGreat
open Go.RowKit
set_option linter.unusedVariables false
set_option maxRecDepth 100000
set_option maxRecDepth 100000
theorem refRightN_any (s : ByteArray) (w : World) (hs : s.size ≤ maxLen) : Calls Tryz.prog 36 #[.string s] w fun e w' => e = .returned (.bool (isN s)) ∧ w' = w := (refRight_any s w hs).mono fun e w' ⟨h1, h2⟩ => ⟨h1, h2.symm⟩
def lastStep (p : Int × Bool) (s : StM) : Int × Bool := if s.f < s.t ∧ (p.2 = false ∨ p.1 < s.t) then (s.t, true) else p
def lastS (l : List StM) : Int × Bool := l.foldl lastStep (0, false)
theorem last_take (l : List StM) (j : Nat) (h : j < l.length) : lastS (l.take (j + 1)) = lastStep (lastS (l.take j)) l[j] := by
 unfold lastS
 rw [List.take_succ_eq_append_getElem h, List.foldl_append]
 rfl
set_option maxHeartbeats 2000000 in
theorem last_any (a : Option Addr) (c : Nat) (l : List StM) (w : World) (hr : StSl w a l) (hl : l.length ≤ 1000000) :
  Calls Tryz.prog 102 #[.slice a l.length c] w fun e w' => e = .returned (.tuple #[.int .i64 (lastS l).1, .bool (lastS l).2]) ∧ Below w.heap.size w w' := by
 have HR := Lib.hid hr
 have HNO := Lib.hid none_any
 clear hr
 go_enter Tryz.func102, Tryz.ntmps102
 go_wp2
 go_loopw [4, 5, 10] (fun u v i wr => ∃ (j : Nat) (m : Int) (is : Bool), j ≤ l.length ∧ i = .int .i64 j ∧ u = .int .i64 m ∧ v = .bool is ∧ Hid (lastS (l.take j) = (m, is)) ∧ Hid (Below w.heap.size w wr)) (fun _ _ i _ => l.length - (intOf i).toNat)
 case atStart => exact ⟨0, 0, false, by omega, rfl, rfl, rfl, rfl, Below.refl _ _⟩
 case round =>
  obtain ⟨j, m, is, hj, rfl, rfl, rfl, HO, HB⟩ := hrel
  by_cases hjl : j < l.length
  ·obtain ⟨b, off, rfl, hbl, hc0, hc1, hc2, hc3⟩ := (HR.out.below HB.out).at_ hjl
   have HC := Lib.hid (last_take l j hjl)
   rw [HO.out] at HC
   generalize l[j] = x at *
   have HN0 := Lib.hid (HNO.out x.f x.t)
   have HB1 := Lib.hid (HB.out.trans ((below_one wr (.cells #[.int .i64 x.f, .int .i64 x.t, .int .i64 x.n, .int .i64 x.s] 111)).mono HB.out.size))
   have hcn := cells4 (heap_alloc_new wr (.cells #[.int .i64 x.f, .int .i64 x.t, .int .i64 x.n, .int .i64 x.s] 111))
   by_cases h1 : x.t ≤ x.f
   ·have HC2 : Hid (lastS (l.take (j + 1)) = (m, is)) := HC.out.trans (by unfold lastStep; rw [if_neg (by omega)])
    have HN1 : Hid (∀ W, Calls Tryz.prog 108 #[.agg #[.int .i64 x.f, .int .i64 x.t]] W fun e w' => e = .returned (.bool true) ∧ Below W.heap.size W w') := fun W => by
     have := HN0.out W
     rwa [decide_eq_true h1] at this
    clear HN0 HC h1 hcn
    go_wp2_with fail
    refine (HN1.out _).mono ?_
    rintro e w2 ⟨rfl, h2⟩
    have HB2 := Lib.hid (HB1.out.trans (h2.mono HB1.out.size))
    go_wp2
    go_roundw
    case rel => exact ⟨j + 1, m, is, by omega, by go_num, rfl, rfl, HC2, HB2⟩
    case measure => simp [intOf]; omega
   ·have HN1 : Hid (∀ W, Calls Tryz.prog 108 #[.agg #[.int .i64 x.f, .int .i64 x.t]] W fun e w' => e = .returned (.bool false) ∧ Below W.heap.size W w') := fun W => by
     have := HN0.out W
     rwa [decide_eq_false h1] at this
    have HX : Hid (∀ W, Below (wr.heap.size + 1) (wr.alloc (.cells #[.int .i64 x.f, .int .i64 x.t, .int .i64 x.n, .int .i64 x.s] 111)) W → W.cell? ⟨wr.heap.size, 0, none⟩ = some (.int .i64 x.f) ∧ W.cell? ⟨wr.heap.size, 1, none⟩ = some (.int .i64 x.t) ∧ W.cell? ⟨wr.heap.size, 2, none⟩ = some (.int .i64 x.n) ∧ W.cell? ⟨wr.heap.size, 3, none⟩ = some (.int .i64 x.s)) := fun W h => cells4 ((h.block _ (by omega)).trans (heap_alloc_new wr _))
    clear HN0 hcn
    by_cases h2 : is = false
    ·subst h2
     have HC2 : Hid (lastS (l.take (j + 1)) = (x.t, true)) := HC.out.trans (by unfold lastStep; rw [if_pos ⟨by omega, .inl rfl⟩])
     clear HC h1
     go_wp2_with fail
     refine (HN1.out _).mono ?_
     rintro e w2 ⟨rfl, h2⟩
     have HB2 := Lib.hid (HB1.out.trans (h2.mono HB1.out.size))
     obtain ⟨g0, g1, g2, g3⟩ := HX.out w2 (h2.mono (by rw [size1]; exact Nat.le_refl _))
     go_wp2
     go_roundw
     case rel => exact ⟨j + 1, x.t, true, by omega, by go_num, rfl, rfl, HC2, HB2⟩
     case measure => simp [intOf]; omega
    ·obtain rfl : is = true := by cases is <;> simp_all
     by_cases h3 : m < x.t
     ·have HC2 : Hid (lastS (l.take (j + 1)) = (x.t, true)) := HC.out.trans (by unfold lastStep; rw [if_pos ⟨by omega, .inr h3⟩])
      clear HC h1 h2
      go_wp2_with fail
      refine (HN1.out _).mono ?_
      rintro e w2 ⟨rfl, h2⟩
      have HB2 := Lib.hid (HB1.out.trans (h2.mono HB1.out.size))
      obtain ⟨g0, g1, g2, g3⟩ := HX.out w2 (h2.mono (by rw [size1]; exact Nat.le_refl _))
      go_wp2
      go_roundw
      case rel => exact ⟨j + 1, x.t, true, by omega, by go_num, rfl, rfl, HC2, HB2⟩
      case measure => simp [intOf]; omega
     ·have HC2 : Hid (lastS (l.take (j + 1)) = (m, true)) := HC.out.trans (by unfold lastStep; rw [if_neg (by rintro ⟨_, h | h⟩; cases h; exact h3 h)])
      clear HC h1 h2
      go_wp2_with fail
      refine (HN1.out _).mono ?_
      rintro e w2 ⟨rfl, h2⟩
      have HB2 := Lib.hid (HB1.out.trans (h2.mono HB1.out.size))
      obtain ⟨g0, g1, g2, g3⟩ := HX.out w2 (h2.mono (by rw [size1]; exact Nat.le_refl _))
      go_wp2
      go_roundw
      case rel => exact ⟨j + 1, m, true, by omega, by go_num, rfl, rfl, HC2, HB2⟩
      case measure => simp [intOf]; omega
  ·obtain rfl : j = l.length := by omega
   rw [List.take_of_length_le (Nat.le_refl _)] at HO
   go_wp2
   go_ret2
   exact ⟨by rw [HO.out]; rfl, HB.out⟩
end Go.Proofs.YtapacckmgmdnoaaGreat
namespace Go.Proofs.YtapacckmgmdnoaaGreat
open Go.RowKit Go.Proofs
set_option linter.unusedVariables false
set_option maxRecDepth 100000
set_option maxRecDepth 100000
theorem umS_snoc (E : List UsL) (y : UsL) : umS (E ++ [y]) = umS E ++ [y.m] := by unfold umS; rw [List.map_append]; rfl
theorem rcmp11 (a b : ByteArray) (w : World) (ha : a.size ≤ maxLen) (hb : b.size ≤ maxLen) :
  Calls Tryz.prog 69 #[.string a, .string b] w fun e w' => e = .returned (.int .i64 (cmpS a b)) ∧ Below w.heap.size w w' :=
 (refCmp_any a b w ha hb).mono fun e w' ⟨h1, h2⟩ => ⟨h1, Drew.below h2 _⟩
end Go.Proofs.YtapacckmgmdnoaaGreat
