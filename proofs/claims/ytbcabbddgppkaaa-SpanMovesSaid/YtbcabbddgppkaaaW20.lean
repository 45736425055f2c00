/- Layer 7's laws: the closure that moves a row: contract. -/
import Derived.Test.YtbcabbddgppkaaaW19
namespace Go.Proofs.Ytbcabbddgppkaaa
open Go.RowKit
set_option linter.unusedVariables false
set_option maxRecDepth 100000

/-- ends within reach of moving -/
def InB (s : SpM) : Prop := s.f ≤ 2199023255552 ∧ -2199023255552 ≤ s.f ∧ s.t ≤ 2199023255552 ∧ -2199023255552 ≤ s.t
def AllIn (l : List SpM) : Prop := ∀ s ∈ l, InB s
def mvS (k : Int) (s : SpM) : SpM := ⟨s.f + k, s.t + k⟩
theorem take_map {l : List SpM} {j : Nat} (h : j < l.length) (k : Int) : (l.take (j + 1)).map (mvS k) = (l.take j).map (mvS k) ++ [mvS k l[j]] := by
  rw [List.take_succ_eq_append_getElem h, List.map_append]
  rfl

set_option maxHeartbeats 1000000 in
theorem move_any (a : Option Addr) (c : Nat) (l : List SpM) (g : Nat) (by_ : Int) (w : World) (hr : SpSl w a l) (hl : l.length ≤ 1000) (hg : w.cell? ⟨g, 0, none⟩ = some (.int .i64 by_)) (hgl : g < w.heap.size) (hb : -1073741824 ≤ by_ ∧ by_ ≤ 1073741824) :
    Calls Try.prog 23 #[.slice a l.length c, .pointer (some ⟨g, 0, none⟩)] w fun e w' => Below w.heap.size w w' ∧ ((¬ AllIn l ∧ e = .returned (.tuple #[.slice none 0 0, .bool false])) ∨ (AllIn l ∧ ∃ v, e = .returned (.tuple #[v, .bool true]) ∧ w'.ownsRow w.heap.size 24 2 v l.length (sps (l.map (mvS by_))))) := by
  obtain ⟨i0, hi, hz0, hz1, hz2⟩ := info_parts infoSpan
  have HR := Lib.hid hr
  have HGC : Hid (∀ W, Below w.heap.size w W → W.cell? ⟨g, 0, none⟩ = some (.int .i64 by_)) := fun W h => (World.cell?_of_block (h.block g hgl)).trans hg
  clear hr
  go_enter Try.func23, Try.ntmps23
  go_wp2
  go_loopw [5, 10] (fun v i wr => ∃ (j : Nat), j ≤ l.length ∧ i = .int .i64 j ∧ Hid (∀ s ∈ l.take j, InB s) ∧ Hid (wr.ownsRow w.heap.size 24 2 v j (sps ((l.take j).map (mvS by_)))) ∧ Hid (Below w.heap.size w wr)) (fun _ i _ => l.length - (intOf i).toNat)
  case atStart => exact ⟨0, by omega, rfl, (fun s hs => by cases hs), ⟨rfl, .inl ⟨rfl, rfl⟩⟩, Below.refl _ _⟩
  case round =>
    obtain ⟨j, hj, rfl, HI, HO, HB⟩ := hrel
    by_cases hjl : j < l.length
    · obtain ⟨b, off, rfl, hbl, hc0, hc1⟩ := (HR.out.below HB.out).at_ hjl
      have HT := Lib.hid (take_map hjl by_)
      have HIN : Hid (InB l[j] → ∀ s ∈ l.take (j + 1), InB s) := fun h s hs => by
        rw [List.take_succ_eq_append_getElem hjl] at hs
        rcases List.mem_append.1 hs with hs | hs
        · exact HI.out s hs
        · rw [List.mem_singleton.1 hs]; exact h
      have HNO : Hid (¬ InB l[j] → ¬ AllIn l) := fun h k => h (k _ (List.getElem_mem hjl))
      generalize l[j] = x at *
      have hA := (Below.refl wr.heap.size wr).alloc (Nat.le_refl _) (.cells #[.int .i64 x.f, .int .i64 x.t] 23)
      have HBA := Lib.hid (HB.out.trans (hA.mono HB.out.size))
      have hgc := HGC.out _ HBA.out
      have HOA := Lib.hid (own_below HO.out hA)
      clear hA
      by_cases d1 : (2199023255552 : Int) < x.f
      · have e1 : decide ((2199023255552 : Int) < x.f) = true := decide_eq_true d1
        have HX := Lib.hid (HNO.out (fun h => by have := h.1; omega))
        go_wp2
        go_ret2
        exact ⟨HBA.out, .inl ⟨HX.out, rfl⟩⟩
      have e1 : decide ((2199023255552 : Int) < x.f) = false := decide_eq_false d1
      by_cases d2 : x.f < (-2199023255552 : Int)
      · have e2 : decide (x.f < (-2199023255552 : Int)) = true := decide_eq_true d2
        have HX := Lib.hid (HNO.out (fun h => by have := h.2.1; omega))
        go_wp2
        go_ret2
        exact ⟨HBA.out, .inl ⟨HX.out, rfl⟩⟩
      have e2 : decide (x.f < (-2199023255552 : Int)) = false := decide_eq_false d2
      by_cases d3 : (2199023255552 : Int) < x.t
      · have e3 : decide ((2199023255552 : Int) < x.t) = true := decide_eq_true d3
        have HX := Lib.hid (HNO.out (fun h => by have := h.2.2.1; omega))
        go_wp2
        go_ret2
        exact ⟨HBA.out, .inl ⟨HX.out, rfl⟩⟩
      have e3 : decide ((2199023255552 : Int) < x.t) = false := decide_eq_false d3
      by_cases d4 : x.t < (-2199023255552 : Int)
      · have e4 : decide (x.t < (-2199023255552 : Int)) = true := decide_eq_true d4
        have HX := Lib.hid (HNO.out (fun h => by have := h.2.2.2; omega))
        go_wp2
        go_ret2
        exact ⟨HBA.out, .inl ⟨HX.out, rfl⟩⟩
      have e4 : decide (x.t < (-2199023255552 : Int)) = false := decide_eq_false d4
      have HX := Lib.hid (HIN.out ⟨by omega, by omega, by omega, by omega⟩)
      have s1 : IntKind.i64.wrap (x.f + by_) = x.f + by_ := by rw [IntWalk.i64_in] <;> omega
      have s2 : IntKind.i64.wrap (x.t + by_) = x.t + by_ := by rw [IntWalk.i64_in] <;> omega
      have HA2 := Lib.hid ((Below.refl (wr.alloc (.cells #[.int .i64 x.f, .int .i64 x.t] 23)).heap.size _).alloc (Nat.le_refl _) (.cells #[.int .i64 (x.f + by_), .int .i64 (x.t + by_)] 24))
      have HO2 := Lib.hid (own_below HOA.out HA2.out)
      have HB2 := Lib.hid (HBA.out.trans (HA2.out.mono HBA.out.size))
      have HS2 := Lib.hid HB2.out.size
      go_wp2_with (at_builtin; refine wpList_append_own _ rfl (.tmp 32) (.tmp 42) 32 rfl w.heap.size 24 i0 _ 2 16 Try.underlying32 hi hz0 hz1 hz2 rfl (by decide) _ _ _ rfl HO2.out ⟨wr.heap.size + 1, 0, none⟩ 1 1 [.int .i64 (x.f + by_), .int .i64 (x.t + by_)] rfl rfl (news_at _ _ _ _ (by rw [size1])) (two_one _ _) (by unfold maxLen; omega) (by omega) HS2.out ?_; intro v' w2 hown' hgrow hiff)
      have HB3 := Lib.hid (app_below HB2.out HS2.out HO2.out hgrow)
      have HO3 : Hid (w2.ownsRow w.heap.size 24 2 v' (j + 1) (sps ((l.take (j + 1)).map (mvS by_)))) := by
        unfold Hid
        rw [HT.out, sps_snoc]
        exact hown'
      clear hown' hgrow hiff s1 s2
      go_wp2
      go_roundw
      case rel => exact ⟨j + 1, by omega, by go_num, HX, HO3, HB3⟩
      case measure => simp [intOf]; omega
    · obtain rfl : j = l.length := by omega
      rw [List.take_of_length_le (Nat.le_refl _)] at HI HO
      go_wp2
      go_ret2
      first | exact ⟨HB.out, .inr ⟨HI.out, _, rfl, HO.out⟩⟩ | exact ⟨_, rfl, HB.out, .inr ⟨HI.out, _, rfl, HO.out⟩⟩
end Go.Proofs.Ytbcabbddgppkaaa
