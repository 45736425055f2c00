/- Layer 7: the document's ends of a row of spans: contract. -/
import Derived.Test.YthaancmobpamhaaW5
import Derived.Lib.Hide
import Derived.Deep.RegionHeld3
namespace Go.Proofs.Ythaancmobpamhaa
open Go.RowKit
set_option linter.unusedVariables false
set_option maxRecDepth 100000
set_option maxRecDepth 100000

theorem own_low {w : World} {B B' e k n : Nat} {v : Value} {xs : List Value} (h : w.ownsRow B e k v n xs) (hb : B' ≤ B) : w.ownsRow B' e k v n xs := by
  refine ⟨h.1, ?_⟩
  rcases h.2 with h0 | ⟨g, cap, cur, e0, hg, h1⟩
  · exact .inl h0
  · exact .inr ⟨g, cap, cur, e0, Nat.le_trans hb hg, h1⟩

set_option maxHeartbeats 4000000 in
theorem ends_any (a : Option Addr) (c : Nat) (l : List SpM) (w : World) (hr : SpSl w a l) (hl : l.length ≤ 100000) :
    Calls Try.prog 62 #[.slice a l.length c] w fun e w' => ∃ (v : Value) (r : List Int), e = .returned v ∧ IsEnds l r ∧ r.length ≤ 2 * l.length ∧ w'.ownsRow w.heap.size 3 1 v r.length (ints r) ∧ Below w.heap.size w w' := by
  have HR := Lib.hid hr
  have HPA := Lib.hid put_any
  clear hr
  go_enter Try.func62, Try.ntmps62
  go_wp2
  go_loopw [3, 4] (fun v i wr => ∃ (j : Nat) (e : List Int), j ≤ l.length ∧ i = .int .i64 j ∧ e.length ≤ 2 * j ∧ Hid (IsEnds (l.take j) e) ∧ Hid (wr.ownsRow w.heap.size 3 1 v e.length (ints e)) ∧ Hid (Below w.heap.size w wr)) (fun _ i _ => l.length - (intOf i).toNat)
  case atStart => exact ⟨0, [], by omega, rfl, by simp, IsEnds.nil, ⟨rfl, .inl ⟨rfl, rfl⟩⟩, Below.refl _ _⟩
  case round =>
    obtain ⟨j, e, hj, rfl, hel, HI, HO, HB⟩ := hrel
    by_cases hjl : j < l.length
    · obtain ⟨b, off, rfl, hbl, hc0, hc1⟩ := (HR.out.below HB.out).at_ hjl
      have HC : Hid (l.take (j + 1) = l.take j ++ [l[j]]) := by unfold Hid; rw [List.take_succ_eq_append_getElem hjl]
      have HSC : Hid (∀ W, Below wr.heap.size wr W → W.cell? ⟨b, off + j * 2, none⟩ = some (.int .i64 l[j].f) ∧ W.cell? ⟨b, off + j * 2 + 1, none⟩ = some (.int .i64 l[j].t)) := fun W hW => by
        obtain ⟨_, _, e1, _, h1, h2⟩ := ((HR.out.below HB.out).below hW).at_ hjl
        cases e1
        exact ⟨h1, h2⟩
      generalize l[j] = x at *
      obtain ⟨va, vc, rfl, _, _, hsl, _, _⟩ := own_slice HO.out
      have HSL := Lib.hid hsl
      clear hsl
      have HTR : Hid (∀ W W', Below wr.heap.size wr W → Below W.heap.size W W' → Below wr.heap.size wr W') := fun W W' h q => h.trans (q.mono h.size)
      have hX : Below wr.heap.size wr wr.drew := (Below.refl _ _).drew
      have HP1 : Hid (Calls Try.prog 72 #[.slice va e.length vc, .int .i64 x.f] wr.drew _) := HPA.out va vc e x.f wr.drew (HSL.out.below hX) HI.out.1 (by omega)
      go_wp2
      go_region_held3 (fun W => W.cell? ⟨b, off + j * 2, none⟩ = some (.int .i64 x.f) ∧ W.cell? ⟨b, off + j * 2 + 1, none⟩ = some (.int .i64 x.t))
        (first | with_reducible exact HSC.out _ hX | with_reducible exact HSC.out _ hY | with_reducible exact HSC.out _ hZ | assumption)
        (first | (have hseen := hY; clear hseen; go_at_call 72; refine (HPA.out a1 c1 e1 x.t _ hs1 hrise1 (by omega)).mono ?_; rintro r w3 ⟨v2, e2, rfl, hrise2, hmem2, hlen2, hown2, hB2⟩; have hZ := HTR.out _ _ hY hB2) | (go_at_call 72; refine HP1.out.mono ?_; rintro r w2 ⟨v1, e1, rfl, hrise1, hmem1, hlen1, hown1, hB1⟩; obtain ⟨a1, c1, rfl, _, _, hs1, _, _⟩ := own_slice hown1; have hY := HTR.out _ _ hX hB1))
      have HI2 : Hid (IsEnds (l.take (j + 1)) e2) := by
        unfold Hid
        rw [HC.out]
        exact HI.out.snoc ⟨hrise1, hmem1⟩ ⟨hrise2, hmem2⟩
      have HO2 : Hid (w3.ownsRow w.heap.size 3 1 v2 e2.length (ints e2)) := own_low hown2 (Nat.le_trans HB.out.size hY.size)
      have HB2 := Lib.hid (HB.out.trans (hZ.mono HB.out.size))
      clear hown2 hown1 hmem1 hmem2 hrise1 hrise2 hX hY hZ hB1 hB2 HSC HPA HP1
      go_wp2
      go_roundw
      case rel => exact ⟨j + 1, e2, by omega, by go_num, by omega, HI2, HO2, HB2⟩
      case measure => simp [intOf]; omega
    · obtain rfl : j = l.length := by omega
      rw [List.take_of_length_le (Nat.le_refl _)] at HI
      go_wp2
      go_ret
      first | exact ⟨_, e, rfl, HI.out, hel, HO.out, HB.out⟩ | exact ⟨_, rfl, e, HI.out, hel, HO.out, HB.out⟩
end Go.Proofs.Ythaancmobpamhaa
