/- Contracts of the document's own words of layer 5: all files but one; a file that is put. -/
import Derived.Test.YtammmhbkfdmbfaaT2
import Derived.OwnWalk
namespace Go.Proofs.Ytammmhbkfdmbfaa
open Go.RowKit
set_option linter.unusedVariables false

theorem own_below {w w' : World} {B e k n : Nat} {v : Value} {xs : List Value} (h : w.ownsRow B e k v n xs) (hb : Below w.heap.size w w') : w'.ownsRow B e k v n xs := by
  refine ⟨h.1, ?_⟩
  rcases h.2 with h | ⟨g, cap, cur, r1, r2, r3, r4⟩
  · exact .inl h
  · refine .inr ⟨g, cap, cur, r1, r2, ?_, r4⟩
    rw [hb.block g ?_]
    · exact r3
    · rcases Nat.lt_or_ge g w.heap.size with h1 | h1
      · exact h1
      · rw [Array.getElem?_eq_none h1] at r3; cases r3
theorem infoFile : (Try.prog.info? 54).map (fun i => (i.zero, i.size, i.bytes)) = some (some (.agg #[.string ⟨#[]⟩, .string ⟨#[]⟩, .string ⟨#[]⟩]), 3, 48) := by kernel_rfl
theorem fc_one (f : FileM) : ∀ u ∈ fc f, u.oneCell' = true := by
  intro u hu
  simp [fc] at hu
  rcases hu with rfl | rfl | rfl <;> rfl
theorem one_cells3 (x y z : ByteArray) : ∀ u ∈ [Value.string x, .string y, .string z], u.oneCell' = true := by
  intro u hu
  simp at hu
  rcases hu with rfl | rfl | rfl <;> rfl
theorem news_at (W : World) (xs : Array Value) (t : TypeId) (g : Nat) (hg : g = W.heap.size) : ∀ j u, xs.toList[j]? = some u → (W.alloc (.cells xs t)).cell? ((⟨g, 0, none⟩ : Addr).add j) = some u := by
  subst hg; exact Sl.cells (sl_lit W xs t)
theorem app_below {B : Nat} {w W w' : World} {e k n : Nat} {v : Value} {xs : List Value} (hB : Below B w W) (hs : B ≤ W.heap.size) (ho : W.ownsRow B e k v n xs) (hg : W.grownBy w' v.ownBlock) : Below B w w' :=
  hB.grown hg hs (fun j hj => (ho.lt j hj).1)
theorem take_wo (L : List FileM) (n : Nm) (k : Nat) (h : k < L.length) : wo (L.take (k + 1)) n = if L[k].name = n then wo (L.take k) n else wo (L.take k) n ++ [L[k]] := by
  rw [List.take_add_one, List.getElem?_eq_getElem h]
  unfold wo
  rw [List.filter_append]
  by_cases e : L[k].name = n <;> simp [e]

set_option maxHeartbeats 2000000 in
theorem without_any (n : Nm) (a : Option Addr) (c : Nat) (L : List FileM) (w : World) (h : FiSl w a L) (hl : L.length ≤ 1000000) :
    Calls Try.prog 66 #[.slice a L.length c, .string (tx n)] w fun e w' => ∃ v, e = .returned v ∧ w'.ownsRow w.heap.size 54 3 v (wo L n).length (fiC (wo L n)) ∧ Below w.heap.size w w' := by
  obtain ⟨i0, hi, hz0, hz1, hz2⟩ := info_parts infoFile
  have HALL : Hid (wo (L.take L.length) n = wo L n) := by unfold Hid; rw [List.take_length]
  have HTW := Lib.hid (take_wo L n)
  have HS := Lib.hid h
  obtain ⟨N, hN⟩ : ∃ N, N = L.length := ⟨_, rfl⟩
  have HN := Lib.hid hN
  rw [← hN] at hl HALL ⊢
  clear hN h
  go_enter Try.func66, Try.ntmps66
  go_wp2
  go_loopw [5, 6] (fun v i wr => ∃ k m : Nat, k ≤ N ∧ m ≤ k ∧ i = .int .i64 k ∧ Hid (m = (wo (L.take k) n).length) ∧ Hid (wr.ownsRow w.heap.size 54 3 v m (fiC (wo (L.take k) n))) ∧ Hid (Below w.heap.size w wr)) (fun _ i _ => N - (intOf i).toNat)
  case atStart => exact ⟨0, 0, by omega, by omega, rfl, rfl, ⟨rfl, .inl ⟨rfl, rfl⟩⟩, Below.refl _ _⟩
  case round =>
    obtain ⟨k, m, hk, hmk, rfl, HM, HO, HB⟩ := hrel
    by_cases hlt : k < N
    · have hkl : k < L.length := by have := HN.out; omega
      obtain ⟨b, off, rfl, hbl, hc0, hc1, hc2⟩ := (HS.out.below HB.out).at hkl
      have HT := Lib.hid (HTW.out k hkl)
      by_cases he : L[k].name = n
      · have heq : ((tx L[k].name).toList == (tx n).toList) = true := by rw [eqT]; exact decide_eq_true he
        have HT2 : Hid (wo (L.take (k + 1)) n = wo (L.take k) n) := by unfold Hid; rw [HT.out, if_pos he]
        clear he HT
        generalize tx L[k].name = x at *
        generalize tx n = y at *
        go_wp2
        go_roundw
        case rel => exact ⟨k + 1, m, by omega, by omega, by go_num, (by unfold Hid; rw [HT2.out]; exact HM.out), (by unfold Hid; rw [HT2.out]; exact HO.out), HB⟩
        case measure => simp [intOf]; omega
      · have heq : ((tx L[k].name).toList == (tx n).toList) = false := by rw [eqT]; exact decide_eq_false he
        have HT2 : Hid (wo (L.take (k + 1)) n = wo (L.take k) n ++ [L[k]]) := by unfold Hid; rw [HT.out, if_neg he]
        have HFC : Hid (fc L[k] = [.string (tx L[k].name), .string (tx L[k].safe), .string (tx L[k].loose)]) := rfl
        clear he HT
        have HOA : Hid (∀ o : Obj, (wr.alloc o).ownsRow w.heap.size 54 3 _ m (fiC (wo (L.take k) n))) := fun o => HO.out.alloc o
        have HBA : Hid (∀ o : Obj, Below w.heap.size w (wr.alloc o)) := fun o => HB.out.alloc HB.out.size o
        generalize tx L[k].name = x at *
        generalize tx L[k].safe = x1 at *
        generalize tx L[k].loose = x2 at *
        generalize tx n = y at *
        go_wp2_with (at_builtin; refine wpList_append_own _ rfl (.tmp 20) (.tmp 25) 28 rfl w.heap.size 54 i0 _ 3 48 Try.underlying28 hi hz0 hz1 hz2 rfl (by decide) _ _ _ rfl (HOA.out _) ⟨wr.heap.size, 0, none⟩ 1 1 [.string x, .string x1, .string x2] rfl rfl (news_at _ _ _ _ rfl) (one_cells3 _ _ _) (by unfold maxLen; omega) (by omega) (HBA.out _).size ?_; intro v' w2 hown' hgrow hiff; have HB3 := Lib.hid (app_below (HBA.out _) (HBA.out _).size (HOA.out _) hgrow); have HO3 := Lib.hid hown'; clear hown' hgrow hiff)
        go_wp2
        go_roundw
        case rel => exact ⟨k + 1, m + 1, by omega, by omega, by go_num, (by unfold Hid; rw [HT2.out, List.length_append, ← HM.out]; rfl), (by unfold Hid; rw [HT2.out, fiC_snoc, HFC.out]; exact HO3.out), HB3⟩
        case measure => simp [intOf]; omega
    · obtain rfl : k = N := by omega
      rw [HALL.out] at HM HO
      go_wp2
      go_ret
      exact ⟨_, rfl, (by rw [← HM.out]; exact HO.out), HB.out⟩
end Go.Proofs.Ytammmhbkfdmbfaa
