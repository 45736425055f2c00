/- Contracts of the document's own words of layer 5: a file that is put. -/
import Derived.Test.YtammmhbkfdmbfaaT3
namespace Go.Proofs.Ytammmhbkfdmbfaa
open Go.RowKit
set_option linter.unusedVariables false

theorem ins_none (f : FileM) : ∀ A : List FileM, (∀ x ∈ A, ¬ f.name < x.name) → ins f A = A ++ [f]
  | [], _ => rfl
  | x :: r, h => by
    unfold ins
    rw [if_neg (h x (by simp)), ins_none f r (fun y hy => h y (by simp [hy]))]
    rfl
theorem ins_snoc_none (f g : FileM) (hg : f.name < g.name) : ∀ A : List FileM, (∀ x ∈ A, ¬ f.name < x.name) → ins f (A ++ [g]) = A ++ [f] ++ [g]
  | [], _ => by simp [ins, hg]
  | x :: r, h => by
    rw [List.cons_append]
    unfold ins
    rw [if_neg (h x (by simp)), ins_snoc_none f g hg r (fun y hy => h y (by simp [hy]))]
    rfl
theorem ins_snoc_some (f g : FileM) : ∀ A : List FileM, (∃ x ∈ A, f.name < x.name) → ins f (A ++ [g]) = ins f A ++ [g]
  | [], h => by obtain ⟨x, hx, _⟩ := h; cases hx
  | x :: r, h => by
    rw [List.cons_append]
    unfold ins
    by_cases hx : f.name < x.name
    · rw [if_pos hx, if_pos hx]; rfl
    · rw [if_neg hx, if_neg hx, ins_snoc_some f g r ?_]
      · rfl
      · obtain ⟨y, hy, h2⟩ := h
        rcases List.mem_cons.1 hy with e | hy
        · subst e; exact absurd h2 hx
        · exact ⟨y, hy, h2⟩
/-- what put has made of the first k files -/
def PutK (f : FileM) (M : List FileM) (k : Nat) (done : Bool) (out : List FileM) : Prop :=
  (done = true ∧ (∃ x ∈ M.take k, f.name < x.name) ∧ out = ins f (M.take k)) ∨ (done = false ∧ (∀ x ∈ M.take k, ¬ f.name < x.name) ∧ out = M.take k)
theorem PutK.start (f : FileM) (M : List FileM) : PutK f M 0 false [] := .inr ⟨rfl, by simp, by simp⟩
theorem take_snoc (M : List FileM) (k : Nat) (h : k < M.length) : M.take (k + 1) = M.take k ++ [M[k]] := by rw [List.take_add_one, List.getElem?_eq_getElem h]; rfl
theorem PutK.on {f : FileM} {M : List FileM} {k : Nat} {out : List FileM} (h : PutK f M k true out) (hk : k < M.length) : PutK f M (k + 1) true (out ++ [M[k]]) := by
  rcases h with ⟨_, h1, h2⟩ | ⟨h1, _⟩
  · refine .inl ⟨rfl, ?_, ?_⟩
    · obtain ⟨x, hx, h3⟩ := h1
      exact ⟨x, by rw [take_snoc M k hk]; exact List.mem_append_left _ hx, h3⟩
    · rw [take_snoc M k hk, ins_snoc_some f _ _ h1, h2]
  · cases h1
theorem PutK.here {f : FileM} {M : List FileM} {k : Nat} {out : List FileM} (h : PutK f M k false out) (hk : k < M.length) (hl : f.name < M[k].name) : PutK f M (k + 1) true (out ++ [f] ++ [M[k]]) := by
  rcases h with ⟨h1, _⟩ | ⟨_, h1, h2⟩
  · cases h1
  · refine .inl ⟨rfl, ⟨M[k], by rw [take_snoc M k hk]; exact List.mem_append_right _ (List.mem_singleton.2 rfl), hl⟩, ?_⟩
    rw [take_snoc M k hk, ins_snoc_none f _ hl _ h1, h2]
theorem PutK.skip {f : FileM} {M : List FileM} {k : Nat} {out : List FileM} (h : PutK f M k false out) (hk : k < M.length) (hl : ¬ f.name < M[k].name) : PutK f M (k + 1) false (out ++ [M[k]]) := by
  rcases h with ⟨h1, _⟩ | ⟨_, h1, h2⟩
  · cases h1
  · refine .inr ⟨rfl, fun x hx => ?_, by rw [take_snoc M k hk, h2]⟩
    rw [take_snoc M k hk] at hx
    rcases List.mem_append.1 hx with hx | hx
    · exact h1 x hx
    · rw [List.mem_singleton] at hx; subst hx; exact hl
theorem PutK.end_ {f : FileM} {M : List FileM} {done : Bool} {out : List FileM} (h : PutK f M M.length done out) : ins f M = if done = true then out else out ++ [f] := by
  rcases h with ⟨h0, h1, h2⟩ | ⟨h0, h1, h2⟩
  · rw [h0, if_pos rfl, h2, List.take_length]
  · rw [h0, if_neg (by simp), h2, List.take_length]
    rw [List.take_length] at h1
    exact ins_none f M h1

theorem own_le {w : World} {B B' e k n : Nat} {v : Value} {xs : List Value} (h : B ≤ B') (ho : w.ownsRow B' e k v n xs) : w.ownsRow B e k v n xs := by
  refine ⟨ho.1, ?_⟩
  rcases ho.2 with h1 | ⟨g, cap, cur, r1, r2, r3⟩
  · exact .inl h1
  · exact .inr ⟨g, cap, cur, r1, Nat.le_trans h r2, r3⟩
theorem below_le {w w' : World} {B B' : Nat} (h : B ≤ B') (hb : Below B' w w') : Below B w w' := hb.mono h

set_option maxRecDepth 100000 in
set_option maxHeartbeats 4000000 in
theorem put_any (f : FileM) (a : Option Addr) (c : Nat) (L : List FileM) (w : World) (h : FiSl w a L) (hl : L.length ≤ 1000000) (hfn : f.name.length ≤ 100000000000) (hLn : ∀ g ∈ L, g.name.length ≤ 100000000000) :
    Calls Try.prog 65 #[.slice a L.length c, fV f] w fun e w' => ∃ v, e = .returned v ∧ w'.ownsRow w.heap.size 54 3 v (putL L f).length (fiC (putL L f)) ∧ Below w.heap.size w w' := by
  obtain ⟨i0, hi, hz0, hz1, hz2⟩ := info_parts infoFile
  have hmlen : (wo L f.name).length ≤ L.length := len_wo L f.name
  have hMn : ∀ g ∈ wo L f.name, g.name.length ≤ 100000000000 := fun g hg => hLn g (mem_wo.1 hg).1
  have HWO := Lib.hid (fun o : Obj => without_any f.name a c L (w.alloc o) (h.below ((Below.refl _ _).alloc (Nat.le_refl _) o)) hl)
  have HPL : Hid (putL L f = ins f (wo L f.name)) := rfl
  generalize hM : wo L f.name = M at *
  have HFF : Hid (fc f = [.string (tx f.name), .string (tx f.safe), .string (tx f.loose)]) := rfl
  have hyz : (tx f.name).size ≤ maxLen := by rw [tx_size]; unfold maxLen; omega
  have HCMP := Lib.hid (fun (x : Nm) (hx : (tx x).size ≤ maxLen) W => refCmp_any (tx f.name) (tx x) W hyz hx)
  unfold fV
  have hB1 : ∀ o : Obj, Below w.heap.size w (w.alloc o) := fun o => (Below.refl _ _).alloc (Nat.le_refl _) o
  have HB1 := Lib.hid hB1
  clear hB1 hM h hyz
  generalize hy0 : tx f.name = y0 at *
  have HF0 := Lib.hid hy0
  clear hy0
  generalize tx f.safe = y1 at *
  generalize tx f.loose = y2 at *
  go_enter Try.func65, Try.ntmps65
  go_wp2_with fail
  refine (HWO.out _).mono ?_
  rintro e w1 ⟨v1, rfl, hown1, hB2⟩
  obtain ⟨a1, c1, rfl, hc1, _, hsl1, hlow1, _⟩ := own_fi hown1
  have HB2 : Hid (Below w.heap.size w w1) := (HB1.out _).trans (hB2.mono (HB1.out _).size)
  have hx0 := (cell_of_row _ _ 0 _ _ (0, 0) ((hB2.block w.heap.size (by simp)).trans (heap_alloc_new w (.cells #[.string y0, .string y1, .string y2] 54))))
  have hx1 := (cell_of_row _ _ 1 _ _ (0, 0) ((hB2.block w.heap.size (by simp)).trans (heap_alloc_new w (.cells #[.string y0, .string y1, .string y2] 54))))
  have hx2 := (cell_of_row _ _ 2 _ _ (0, 0) ((hB2.block w.heap.size (by simp)).trans (heap_alloc_new w (.cells #[.string y0, .string y1, .string y2] 54))))
  have hbx : w.heap.size < w1.heap.size := by have := hB2.size; rw [size1] at this; omega
  change w1.cell? ⟨w.heap.size, 0, none⟩ = some (.string y0) at hx0
  change w1.cell? ⟨w.heap.size, 1, none⟩ = some (.string y1) at hx1
  change w1.cell? ⟨w.heap.size, 2, none⟩ = some (.string y2) at hx2
  have HX : Hid (∀ W, Below w1.heap.size w1 W → W.cell? ⟨w.heap.size, 0, none⟩ = some (.string y0) ∧ W.cell? ⟨w.heap.size, 1, none⟩ = some (.string y1) ∧ W.cell? ⟨w.heap.size, 2, none⟩ = some (.string y2)) := fun W k =>
    ⟨(k.cell (p := ⟨w.heap.size, 0, none⟩) hbx).trans hx0, (k.cell (p := ⟨w.heap.size, 1, none⟩) hbx).trans hx1, (k.cell (p := ⟨w.heap.size, 2, none⟩) hbx).trans hx2⟩
  have HSL := Lib.hid hsl1
  clear hown1 hB2 hsl1 hlow1 hx0 hx1 hx2 HWO
  obtain ⟨N, hN⟩ : ∃ N, N = M.length := ⟨_, rfl⟩
  have HN := Lib.hid hN
  have hNl : N ≤ 1000000 := by omega
  rw [← hN] at hc1 ⊢
  clear hN hmlen
  go_wp2
  go_loopw [5, 6, 7] (fun v dn i wr => ∃ (k : Nat) (done : Bool) (out : List FileM), k ≤ N ∧ i = .int .i64 k ∧ dn = .bool done ∧ out.length ≤ k + 1 ∧ Hid (PutK f M k done out) ∧ Hid (wr.ownsRow w1.heap.size 54 3 v out.length (fiC out)) ∧ Hid (Below w1.heap.size w1 wr)) (fun _ _ i _ => N - (intOf i).toNat)
  case atStart => exact ⟨0, false, [], by omega, rfl, rfl, by simp, PutK.start _ _, ⟨rfl, .inl ⟨rfl, rfl⟩⟩, Below.refl _ _⟩
  case round =>
    obtain ⟨k, done, out, hk, rfl, rfl, hol, HP, HO, HB⟩ := hrel
    obtain ⟨x0, x1, x2⟩ := HX.out wr HB.out
    by_cases hlt : k < N
    · have hkl : k < M.length := by have := HN.out; omega
      obtain ⟨b, off, rfl, hbl, e0, e1, e2⟩ := HSL.out.at hkl
      have HEC : Hid (∀ W, Below w1.heap.size w1 W → W.cell? ⟨b, off + k * 3, none⟩ = some (.string (tx M[k].name)) ∧ W.cell? ⟨b, off + k * 3 + 1, none⟩ = some (.string (tx M[k].safe)) ∧ W.cell? ⟨b, off + k * 3 + 2, none⟩ = some (.string (tx M[k].loose))) := fun W h => ⟨(h.cell (p := ⟨b, off + k * 3, none⟩) hbl).trans e0, (h.cell (p := ⟨b, off + k * 3 + 1, none⟩) hbl).trans e1, (h.cell (p := ⟨b, off + k * 3 + 2, none⟩) hbl).trans e2⟩
      obtain ⟨hc0, hc1', hc2⟩ := HEC.out wr HB.out
      clear e0 e1 e2
      have HFC : Hid (fc M[k] = [.string (tx M[k].name), .string (tx M[k].safe), .string (tx M[k].loose)]) := rfl
      have hzz : (tx M[k].name).size ≤ maxLen := by rw [tx_size]; have := hMn _ (List.getElem_mem hkl); unfold maxLen; omega
      have HBQ : Hid (∀ n (o : Obj), Below w1.heap.size w1 ((wr.drewN n).alloc o)) := fun n o => (HB.out.trans (Drew.below (show Drew wr (wr.drewN n) from ⟨n, rfl⟩) _)).alloc (by have := (HB.out.trans (Drew.below (show Drew wr (wr.drewN n) from ⟨n, rfl⟩) w1.heap.size)).size; exact this) o
      have HOQ : Hid (∀ n (o : Obj), ((wr.drewN n).alloc o).ownsRow w1.heap.size 54 3 _ out.length (fiC out)) := fun n o => (Drew.own (show Drew wr (wr.drewN n) from ⟨n, rfl⟩) HO.out).alloc o
      cases done
      · have HQ := Lib.hid (fun W => HCMP.out M[k].name hzz W)
        have HSG : Hid (Lib.compareBytes (tx f.name).data.toList (tx M[k].name).data.toList < 0 ↔ f.name < M[k].name) := cmp_lt _ _
        have hol2 : out.length ≤ k := by
          rcases HP.out with ⟨h, _⟩ | ⟨_, _, h⟩
          · cases h
          · rw [h, List.length_take]; omega
        by_cases hc : f.name < M[k].name
        · have HP2 := Lib.hid (HP.out.here hkl hc)
          have HFS : Hid (fiC (out ++ [f] ++ [M[k]]) = (fiC out ++ fc f) ++ fc M[k]) := by unfold Hid; rw [fiC_snoc, fiC_snoc]
          have HLS : Hid ((out ++ [f] ++ [M[k]]).length = out.length + 1 + 1) := by simp [Hid]
          have hlt0 := HSG.out.2 hc
          clear HP HSG hc
          generalize out ++ [f] ++ [M[k]] = out2 at *
          generalize tx M[k].name = z0 at *
          generalize tx M[k].safe = z1 at *
          generalize tx M[k].loose = z2 at *
          rw [HF0.out] at hlt0
          generalize Lib.compareBytes y0.data.toList z0.data.toList = sg at *
          go_wp2
          go_quiet (first | (go_at_call 70; refine Calls.quiet_of (HQ.out _)))
          go_wp2_with (first | (at_builtin; refine wpList_append_own _ rfl (.tmp 31) (.tmp 33) 28 rfl w1.heap.size 54 i0 _ 3 48 Try.underlying28 hi hz0 hz1 hz2 rfl (by decide) _ _ _ rfl (HOQ.out _ _) ⟨_, 0, none⟩ 1 1 [.string y0, .string y1, .string y2] rfl rfl (news_at _ _ _ _ rfl) (one_cells3 _ _ _) (by unfold maxLen; omega) (by omega) (HBQ.out _ _).size ?_; intro v3 w3 hown' hgrow hiff; have HB3 := Lib.hid (app_below (HBQ.out _ _) (HBQ.out _ _).size (HOQ.out _ _) hgrow); have HO3 := Lib.hid hown'; clear hown' hgrow hiff; obtain ⟨d0, d1, d2⟩ := HEC.out _ HB3.out) | (at_builtin; refine wpList_append_own _ rfl (.tmp 35) (.tmp 40) 28 rfl w1.heap.size 54 i0 _ 3 48 Try.underlying28 hi hz0 hz1 hz2 rfl (by decide) _ _ _ rfl (HO3.out.alloc _) ⟨_, 0, none⟩ 1 1 [.string z0, .string z1, .string z2] rfl rfl (news_at _ _ _ _ rfl) (one_cells3 _ _ _) (by unfold maxLen; omega) (by omega) (HB3.out.alloc HB3.out.size _).size ?_; intro v4 w4 hown' hgrow hiff; have HB4 := Lib.hid (app_below (HB3.out.alloc HB3.out.size _) (HB3.out.alloc HB3.out.size _).size (HO3.out.alloc _) hgrow); have HO4 := Lib.hid hown'; clear hown' hgrow hiff))
          go_wp2
          go_roundw
          case rel => exact ⟨k + 1, true, out2, by omega, by go_num, rfl, by rw [HLS.out]; omega, HP2, (by unfold Hid; rw [HLS.out, HFS.out, HFC.out, HFF.out]; exact HO4.out), HB4⟩
          case measure => simp [intOf]; omega
        · have HP2 := Lib.hid (HP.out.skip hkl hc)
          have HFS : Hid (fiC (out ++ [M[k]]) = fiC out ++ fc M[k]) := fiC_snoc _ _
          have HLS : Hid ((out ++ [M[k]]).length = out.length + 1) := by simp [Hid]
          have hlt0 : ¬ Lib.compareBytes (tx f.name).data.toList (tx M[k].name).data.toList < 0 := fun h => hc (HSG.out.1 h)
          clear HP HSG hc
          generalize out ++ [M[k]] = out2 at *
          generalize tx M[k].name = z0 at *
          generalize tx M[k].safe = z1 at *
          generalize tx M[k].loose = z2 at *
          rw [HF0.out] at hlt0
          generalize Lib.compareBytes y0.data.toList z0.data.toList = sg at *
          go_wp2
          go_quiet (first | (go_at_call 70; refine Calls.quiet_of (HQ.out _)))
          go_wp2_with (first | (at_builtin; refine wpList_append_own _ rfl (.tmp 35) (.tmp 40) 28 rfl w1.heap.size 54 i0 _ 3 48 Try.underlying28 hi hz0 hz1 hz2 rfl (by decide) _ _ _ rfl (HOQ.out _ _) ⟨_, 0, none⟩ 1 1 [.string z0, .string z1, .string z2] rfl rfl (news_at _ _ _ _ rfl) (one_cells3 _ _ _) (by unfold maxLen; omega) (by omega) (HBQ.out _ _).size ?_; intro v3 w3 hown' hgrow hiff; have HB3 := Lib.hid (app_below (HBQ.out _ _) (HBQ.out _ _).size (HOQ.out _ _) hgrow); have HO3 := Lib.hid hown'; clear hown' hgrow hiff))
          go_wp2
          go_roundw
          case rel => exact ⟨k + 1, false, out2, by omega, by go_num, rfl, by rw [HLS.out]; omega, HP2, (by unfold Hid; rw [HLS.out, HFS.out, HFC.out]; exact HO3.out), HB3⟩
          case measure => simp [intOf]; omega
      · have HP2 := Lib.hid (HP.out.on hkl)
        have HFS : Hid (fiC (out ++ [M[k]]) = fiC out ++ fc M[k]) := fiC_snoc _ _
        have HLS : Hid ((out ++ [M[k]]).length = out.length + 1) := by simp [Hid]
        clear HP
        generalize out ++ [M[k]] = out2 at *
        generalize tx M[k].name = z0 at *
        generalize tx M[k].safe = z1 at *
        generalize tx M[k].loose = z2 at *
        go_wp2
        go_quiet (fail)
        go_wp2_with (at_builtin; refine wpList_append_own _ rfl (.tmp 35) (.tmp 40) 28 rfl w1.heap.size 54 i0 _ 3 48 Try.underlying28 hi hz0 hz1 hz2 rfl (by decide) _ _ _ rfl (HOQ.out _ _) ⟨_, 0, none⟩ 1 1 [.string z0, .string z1, .string z2] rfl rfl (news_at _ _ _ _ rfl) (one_cells3 _ _ _) (by unfold maxLen; omega) (by omega) (HBQ.out _ _).size ?_; intro v3 w3 hown' hgrow hiff; have HB3 := Lib.hid (app_below (HBQ.out _ _) (HBQ.out _ _).size (HOQ.out _ _) hgrow); have HO3 := Lib.hid hown'; clear hown' hgrow hiff)
        go_wp2
        go_roundw
        case rel => exact ⟨k + 1, true, out2, by omega, by go_num, rfl, by rw [HLS.out]; omega, HP2, (by unfold Hid; rw [HLS.out, HFS.out, HFC.out]; exact HO3.out), HB3⟩
        case measure => simp [intOf]; omega
    · obtain rfl : k = N := by omega
      have HE : Hid (ins f M = if done = true then out else out ++ [f]) := by
        have := HP.out; rw [HN.out] at this; exact this.end_
      have HBQ : Hid (∀ (o : Obj), Below w1.heap.size w1 (wr.alloc o)) := fun o => HB.out.alloc HB.out.size o
      have HOQ : Hid (∀ (o : Obj), (wr.alloc o).ownsRow w1.heap.size 54 3 _ out.length (fiC out)) := fun o => HO.out.alloc o
      have hsz1 : w.heap.size ≤ w1.heap.size := by omega
      cases done
      · have HFS : Hid (fiC (out ++ [f]) = fiC out ++ fc f) := fiC_snoc _ _
        have HLS : Hid ((out ++ [f]).length = out.length + 1) := by simp [Hid]
        rw [if_neg (by simp)] at HE
        generalize out ++ [f] = out2 at *
        go_wp2_with (at_builtin; refine wpList_append_own _ rfl (.tmp 44) (.tmp 46) 28 rfl w1.heap.size 54 i0 _ 3 48 Try.underlying28 hi hz0 hz1 hz2 rfl (by decide) _ _ _ rfl (HOQ.out _) ⟨_, 0, none⟩ 1 1 [.string y0, .string y1, .string y2] rfl rfl (news_at _ _ _ _ rfl) (one_cells3 _ _ _) (by unfold maxLen; omega) (by omega) (HBQ.out _).size ?_; intro v5 w5 hown' hgrow hiff; have HB5 := Lib.hid (app_below (HBQ.out _) (HBQ.out _).size (HOQ.out _) hgrow); have HO5 := Lib.hid hown'; clear hown' hgrow hiff)
        go_wp2
        go_ret
        refine ⟨_, rfl, ?_, ?_⟩
        · rw [HPL.out, HE.out, HLS.out, HFS.out, HFF.out]; exact own_le hsz1 HO5.out
        · exact HB2.out.trans (below_le hsz1 HB5.out)
      · rw [if_pos rfl] at HE
        go_wp2
        go_ret
        refine ⟨_, rfl, ?_, ?_⟩
        · rw [HPL.out, HE.out]; exact own_le hsz1 HO.out
        · exact HB2.out.trans (below_le hsz1 HB.out)
end Go.Proofs.Ytammmhbkfdmbfaa
