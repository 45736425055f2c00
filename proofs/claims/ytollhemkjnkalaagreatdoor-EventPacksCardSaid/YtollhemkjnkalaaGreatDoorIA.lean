/- Texts of mine, one behind the other: H10 I1 I2 I3 I4 I5. -/
import Derived.Test.YtollhemkjnkalaaGreatDoorH9
import Derived.RegionTactic
/- Layer 4: rows of frames in memory; the words by which each law shows that the package is alive. -/
namespace Go.Proofs.YtollhemkjnkalaaGreatDoor
open Go.RowKit
set_option linter.unusedVariables false
set_option maxRecDepth 100000

/-- the row that begins at a holds these frames -/
def FrSl (w : World) (a : Option Addr) (l : List Fr) : Prop := ∀ k (h : k < l.length), ∃ b off, a = some ⟨b, off, none⟩ ∧ b < w.heap.size ∧
  w.cell? ⟨b, off + k * 2, none⟩ = some (.int .u8 (l[k].1.toNat : Int)) ∧ w.cell? ⟨b, off + k * 2 + 1, none⟩ = some (.string (tx l[k].2))
theorem FrSl.below {w w' : World} {a : Option Addr} {l : List Fr} (h : FrSl w a l) (hb : Below w.heap.size w w') : FrSl w' a l := fun k hk => by
  obtain ⟨b, off, e, hlt, h0, h1⟩ := h k hk
  exact ⟨b, off, e, Nat.lt_of_lt_of_le hlt hb.size, (hb.cell (p := ⟨b, off + k * 2, none⟩) hlt).trans h0, (hb.cell (p := ⟨b, off + k * 2 + 1, none⟩) hlt).trans h1⟩
theorem FrSl.take {w : World} {a : Option Addr} {l : List Fr} (h : FrSl w a l) (n : Nat) : FrSl w a (l.take n) := fun k hk => by
  have hk' : k < l.length := by rw [List.length_take] at hk; omega
  obtain ⟨b, off, e, hlt, h0, h1⟩ := h k hk'
  exact ⟨b, off, e, hlt, by rw [List.getElem_take]; exact h0, by rw [List.getElem_take]; exact h1⟩
theorem frC_get (l : List Fr) : ∀ (k : Nat) (h : k < l.length), (frC l)[k * 2]? = some (.int .u8 (l[k].1.toNat : Int)) ∧ (frC l)[k * 2 + 1]? = some (.string (tx l[k].2)) := by
  induction l with
  | nil => intro k h; exact absurd h (by simp)
  | cons x l ih =>
    intro k h
    have e : frC (x :: l) = .int .u8 (x.1.toNat : Int) :: .string (tx x.2) :: frC l := by simp [frC]
    cases k with
    | zero => rw [e]; exact ⟨rfl, rfl⟩
    | succ k =>
      have := ih k (by simpa using h)
      rw [e, show (k + 1) * 2 = k * 2 + 1 + 1 by omega]
      simpa using this
theorem own_fr {w : World} {B e : Nat} {v : Value} {l : List Fr} (h : w.ownsRow B e 2 v l.length (frC l)) : ∃ a c, v = .slice a l.length c ∧ l.length ≤ c ∧ FrSl w a l := by
  rcases h.2 with ⟨rfl, hn⟩ | ⟨g, cap, cur, rfl, hg, hh, hn, hc, hsz, ht⟩
  · have : l = [] := List.eq_nil_of_length_eq_zero hn
    subst this
    exact ⟨none, 0, rfl, Nat.le_refl _, fun k hk => absurd hk (by simp)⟩
  · refine ⟨_, cap, rfl, hn, fun k hk => ⟨g, 0, rfl, ?_, ?_, ?_⟩⟩
    · rcases Nat.lt_or_ge g w.heap.size with h1 | h1
      · exact h1
      · rw [Array.getElem?_eq_none h1] at hh; cases hh
    · have hg := (frC_get l k hk).1
      rw [← ht, List.getElem?_take, if_pos (by omega), Array.getElem?_toList] at hg
      rw [cell_of_row w g _ cur e (0, 0) hh, Nat.zero_add, hg]
    · have hg := (frC_get l k hk).2
      rw [← ht, List.getElem?_take, if_pos (by omega), Array.getElem?_toList] at hg
      rw [cell_of_row w g _ cur e (0, 0) hh, Nat.zero_add, hg]

/-- the frame that each law packs, as a text -/
def hi16 : List UInt8 := [254, 97, 48, 48, 48, 50, 104, 105, 97, 49, 57, 55, 101, 102, 54, 48]
theorem hi_ok : packE 97 [104, 105] = 0 := by decide +kernel
theorem hi_text : packT 97 [104, 105] = hi16 := by decide +kernel
theorem hi_pack (w : World) : Calls Tryz.prog 19 #[.agg #[.int .u8 97, .string ⟨#[104, 105]⟩]] w fun e w' => e = .returned (.tuple #[.string (tx hi16), .int .i64 0]) ∧ Below w.heap.size w w' := by
  have h := pack_any 97 ⟨#[104, 105]⟩ (by decide) w
  have e1 : packE 97 (toL ⟨#[104, 105]⟩) = 0 := hi_ok
  have e2 : packS 97 (toL ⟨#[104, 105]⟩) = hi16 := by unfold packS; rw [if_pos e1]; exact hi_text
  rw [e1, e2] at h
  exact h
theorem no_kind (w : World) : Calls Tryz.prog 19 #[.agg #[.int .u8 0, .string ⟨#[104, 105]⟩]] w fun e w' => e = .returned (.tuple #[.string ⟨#[]⟩, .int .i64 40]) ∧ Below w.heap.size w w' := by
  have h := pack_any 0 ⟨#[104, 105]⟩ (by decide) w
  have e1 : packE 0 (toL ⟨#[104, 105]⟩) = 40 := by decide +kernel
  have e2 : packS 0 (toL ⟨#[104, 105]⟩) = [] := by unfold packS; rw [e1]; rfl
  rw [e1, e2] at h
  exact h
theorem hi_next (r : List UInt8) : nextL (hi16 ++ r) = .ok 97 [104, 105] := by rw [← hi_text]; exact nextL_pack hi_ok r
theorem hi_cut (c : Nat) (h : c < 16) : nextL (hi16.take c) = .err 43 := by rw [← hi_text]; exact nextL_cut hi_ok c h
theorem hi_scan (l : List Fr) (n : Nat) (h : Scans (hi16 ++ hi16.take 9) l n) : l = [(97, [104, 105])] ∧ n = 16 := by
  have h2 : Scans (hi16 ++ hi16.take 9) [(97, [104, 105])] 16 := .step (hi_next _) (.done (hi_cut 9 (by decide)))
  exact h.only h2
theorem mark_next (c : UInt8) (r : List UInt8) (h : c ≠ 254) : nextL (c :: r) = .err 44 := by
  have hk : okAt 0 (0 + ([] : List UInt8).length) c = false := by
    show isMarkB c = false
    unfold isMarkB
    rw [decide_eq_false_iff_not]
    intro e
    exact h (UInt8.toNat_inj.1 e)
  have e := G_bad (l := []) (long := 0) (i := 0) (n := 6) rfl (by decide) c hk r
  have hb : bodyE (c :: r) = 44 := by
    unfold bodyE
    rw [show c :: r = [] ++ c :: r from rfl, e]; rfl
  rw [nextL_head _ (by omega), hb]
theorem hi_find : findTo ([120, 120] ++ hi16) 18 = [(97, [104, 105])] := by
  have f : ∀ n, n < 18 → n ≠ 2 → findTo ([120, 120] ++ hi16) (n + 1) = findTo ([120, 120] ++ hi16) n := fun n h1 h2 => by
    have hc : ∃ c r, ([120, 120] ++ hi16).drop n = c :: r ∧ c ≠ 254 := by
      obtain ⟨a, b⟩ := (by decide +kernel : ∀ n : Nat, n < 18 → n ≠ 2 → ((([120, 120] : List UInt8) ++ hi16).drop n).head? ≠ some (254 : UInt8) ∧ ((([120, 120] : List UInt8) ++ hi16).drop n) ≠ []) n h1 h2
      rcases hd : ([120, 120] ++ hi16).drop n with _ | ⟨c, r⟩
      · exact absurd hd b
      · rw [hd] at a
        exact ⟨c, r, by first | exact hd | rfl, fun e => a (by rw [e]; rfl)⟩
    obtain ⟨c, r, hd, hne⟩ := hc
    exact findTo_err (E := 44) (by rw [hd]; exact mark_next c r hne)
  have f2 : findTo ([120, 120] ++ hi16) 3 = findTo ([120, 120] ++ hi16) 2 ++ [(97, [104, 105])] := findTo_ok (by
    show nextL hi16 = _
    have := hi_next []
    rwa [List.append_nil] at this)
  rw [f 17 (by decide) (by decide), f 16 (by decide) (by decide), f 15 (by decide) (by decide), f 14 (by decide) (by decide), f 13 (by decide) (by decide), f 12 (by decide) (by decide), f 11 (by decide) (by decide), f 10 (by decide) (by decide),
    f 9 (by decide) (by decide), f 8 (by decide) (by decide), f 7 (by decide) (by decide), f 6 (by decide) (by decide), f 5 (by decide) (by decide), f 4 (by decide) (by decide), f 3 (by decide) (by decide), f2, f 1 (by decide) (by decide), f 0 (by decide) (by decide)]
  rfl

end Go.Proofs.YtollhemkjnkalaaGreatDoor

/- Contracts of the document's own words of layer 4: which bytes may stand where; what is summed of a frame. -/
namespace Go.Proofs.YtollhemkjnkalaaGreatDoor
open Go.RowKit
set_option linter.unusedVariables false
set_option maxRecDepth 100000

set_option maxHeartbeats 1000000 in
theorem refDigF_any : Tells 85 isDigB := fun c w => by
  have HE := Lib.hid (isDig_int c)
  generalize (c.toNat : Int) = n at *
  have hc : (48 ≤ n ∧ n ≤ 57) ∨ (48 ≤ n ∧ ¬ n ≤ 57 ∧ 97 ≤ n) ∨ (48 ≤ n ∧ ¬ n ≤ 57 ∧ ¬ 97 ≤ n) ∨ (¬ 48 ≤ n ∧ ¬ 97 ≤ n) := by omega
  rcases hc with ⟨a1, a2⟩ | ⟨a1, a2, a3⟩ | ⟨a1, a2, a3⟩ | ⟨a1, a3⟩
  all_goals
    go_enter Tryz.func85, Tryz.ntmps85
    go_wp2
    all_goals go_ret
    refine ⟨retB ?_, rfl⟩
    rw [HE.out, Bool.eq_iff_iff]
    simp
    try omega

theorem okAt_int (long i : Nat) (c : UInt8) : okAt long i c = if i = 0 then decide ((c.toNat : Int) = 254) else if i = 1 then (decide (97 ≤ (c.toNat : Int)) && decide ((c.toNat : Int) ≤ 122)) else if i < 6 ∨ 6 + long ≤ i then isDigB c else (decide (32 ≤ (c.toNat : Int)) && decide ((c.toNat : Int) ≤ 126)) := by
  unfold okAt
  split
  · unfold isMarkB; exact decide_eq_decide.2 (by omega)
  · split
    · unfold isKindB; congr 1 <;> exact decide_eq_decide.2 (by omega)
    · split
      · rfl
      · unfold inBodyB; congr 1 <;> exact decide_eq_decide.2 (by omega)

set_option maxHeartbeats 1000000 in
theorem may_any (c : UInt8) (i long : Nat) (hi : i ≤ 100000) (hl : long ≤ 100000) (w : World) :
    Calls Tryz.prog 71 #[.int .u8 (c.toNat : Int), .int .i64 (i : Int), .int .i64 (long : Int)] w fun e w' => e = .returned (.bool (okAt long i c)) ∧ w' = w := by
  have HE := Lib.hid (okAt_int long i c)
  have HD := Lib.hid (refDigF_any c)
  generalize isDigB c = dg at *
  generalize (c.toNat : Int) = n at *
  by_cases h0 : i = 0
  · have H1 : Hid (okAt long i c = decide (n = 254)) := by unfold Hid; rw [HE.out, if_pos h0]
    subst h0
    go_enter Tryz.func71, Tryz.ntmps71
    go_wp2
    all_goals go_ret
    refine ⟨retB ?_, rfl⟩
    rw [H1.out, Bool.eq_iff_iff]
    simp
  · by_cases h1 : i = 1
    · have H1 : Hid (okAt long i c = (decide (97 ≤ n) && decide (n ≤ 122))) := by unfold Hid; rw [HE.out, if_neg h0, if_pos h1]
      subst h1
      by_cases h2 : 97 ≤ n
      all_goals
        go_enter Tryz.func71, Tryz.ntmps71
        go_wp2
        all_goals go_ret
        refine ⟨retB ?_, rfl⟩
        rw [H1.out, Bool.eq_iff_iff]
        simp
        try omega
    · have g0 : ((i : Int) == 0) = false := beq_eq_false_iff_ne.2 (by omega)
      have g1 : ((i : Int) == 1) = false := beq_eq_false_iff_ne.2 (by omega)
      by_cases h2 : i < 6 ∨ 6 + long ≤ i
      · have H1 : Hid (okAt long i c = dg) := by unfold Hid; rw [HE.out, if_neg h0, if_neg h1, if_pos h2]
        by_cases h3 : i < 6
        all_goals
          go_enter Tryz.func71, Tryz.ntmps71
          go_wp2_with fail
          refine (HD.out _).mono ?_
          rintro e w1 ⟨rfl, rfl⟩
          go_wp2
          go_ret
          exact ⟨by rw [H1.out]; rfl, rfl⟩
      · have H1 : Hid (okAt long i c = (decide (32 ≤ n) && decide (n ≤ 126))) := by unfold Hid; rw [HE.out, if_neg h0, if_neg h1, if_neg h2]
        have h3 : ¬ (i : Int) < 6 := by omega
        have h4 : ¬ (6 + (long : Int) ≤ (i : Int)) := by omega
        by_cases h5 : 32 ≤ n
        all_goals
          go_enter Tryz.func71, Tryz.ntmps71
          go_wp2
          all_goals go_ret
          refine ⟨retB ?_, rfl⟩
          rw [H1.out, Bool.eq_iff_iff]
          simp
          try omega
end Go.Proofs.YtollhemkjnkalaaGreatDoor

/- Contracts of the document's own words of layer 4: what is summed of a frame; the text of a frame. -/
namespace Go.Proofs.YtollhemkjnkalaaGreatDoor
open Go.RowKit
set_option linter.unusedVariables false
set_option maxRecDepth 100000

theorem text_parts (k : UInt8) (b : ByteArray) : tx [k] ++ tx (hexL b.size 4) ++ b = tx (midT k (toL b)) := by
  have e2 : tx [k] ++ tx (hexL b.size 4) ++ b = tx ([k] ++ hexL b.size 4 ++ toL b) := by rw [← tx_append, ← tx_append, tx_toL]
  rw [e2]
  unfold midT
  rw [toL_length]; simp
set_option maxHeartbeats 2000000 in
theorem refText_any (k : UInt8) (b : ByteArray) (hb : b.size ≤ 2000) (w : World) :
    Calls Tryz.prog 46 #[.agg #[.int .u8 (k.toNat : Int), .string b]] w fun e w' => e = .returned (.string (tx (midT k (toL b)))) ∧ Below w.heap.size w w' := by
  have HK := Lib.hid (PackK.new w (.int .u8 (k.toNat : Int)) (.string b) 61)
  have hkb : 0 ≤ (k.toNat : Int) ∧ (k.toNat : Int) ≤ 255 := ⟨by omega, by have := k.toNat_lt; omega⟩
  have HH : Hid (∀ W, Calls Tryz.prog 47 #[.int .i64 (b.size : Int), .int .i64 4] W fun e w' => e = .returned (.string (tx (hexL b.size 4))) ∧ Below W.heap.size W w') := fun W => by
    have h := refHex_any (b.size : Int) 4 (by omega) (by omega) W
    rwa [show hexOf (b.size : Int) 4 = hexL b.size 4 from hexOf_nat b.size 4 (by decide) (by decide) (by omega)] at h
  have HH2 : Hid (∀ W : World, Calls Tryz.prog 47 #[.int .i64 (b.size : Int), .int .i64 4] (W.alloc (.cells #[.int .u8 (k.toNat : Int)] 5)).drew fun e w' => e = .returned (.string (tx (hexL b.size 4))) ∧ (convert 50 9 (.slice (some ⟨W.heap.size, 0, none⟩) 1 1)).run Tryz.prog w' = .ok (.string (tx [k])) w' ∧ Below (W.alloc (.cells #[.int .u8 (k.toNat : Int)] 5)).drew.heap.size (W.alloc (.cells #[.int .u8 (k.toNat : Int)] 5)).drew w') := after_row [k] HH.out
  have hv1 : ∀ W : World, (convert 50 9 (.slice (some ⟨W.heap.size, 0, none⟩) 1 1)).run Tryz.prog (W.alloc (.cells #[.int .u8 (k.toNat : Int)] 5)) = .ok (.string (tx [k])) (W.alloc (.cells #[.int .u8 (k.toNat : Int)] 5)) := conv_new [k]
  have hv2 : ∀ W : World, (convert 50 9 (.slice (some ⟨W.heap.size, 0, none⟩) 1 1)).run Tryz.prog (W.alloc (.cells #[.int .u8 (k.toNat : Int)] 5)).drew = .ok (.string (tx [k])) (W.alloc (.cells #[.int .u8 (k.toNat : Int)] 5)).drew := conv_drew [k]
  have HA := Lib.hid (text_parts k b)
  have hz1 : (tx [k]).size = 1 := rfl
  have hz2 : (tx (hexL b.size 4)).size = 4 := by rw [tx_size, hexL_length]
  have hc1 : ¬ (9223372036854775807 < 1 + 4 + b.size) := by omega
  generalize tx (midT k (toL b)) = M at *
  generalize tx [k] = T at *
  generalize tx (hexL b.size 4) = H at *
  have hz3 : (T ++ H).size = 5 := by rw [ByteArray.size_append, hz1, hz2]
  go_enter Tryz.func46, Tryz.ntmps46
  go_upto_region 1 with fail
  generalize w.alloc (.cells #[.int .u8 (k.toNat : Int), .string b] 61) = W0 at *
  refine wp_region_noPanic ?_
  refine wp_region_held_drew (S := (fun w' => w'.cell? ⟨w.heap.size, 0, none⟩ = some (.int .u8 (k.toNat : Int)) ∧ w'.cell? ⟨w.heap.size, 1, none⟩ = some (.string b) ∧ PackK w w.heap.size (.int .u8 (k.toNat : Int)) (.string b) 61 w')) (by kernel_rfl) ?_ (fun hH => ?_)
  · exact (PackK.drew HK.out).held
  refine wpAnyH_take (i := 0) (oi := ⟨some 3, _, _, _, _, _⟩) (v := ?_) rfl (by kernel_rfl) (by kernel_rfl) (by kernel_rfl) (fun _ _ _ h => h) (Or.inl ⟨by rfl, ?_⟩) (by assumption) ?_
  rotate_left
  · (intro wS hSw; (try dsimp only at hSw); (go_simp) <;> (with_reducible rfl))
  (try simp only [Act.put, List.setIfInBounds_toArray, List.set_cons_zero, List.set_cons_succ])
  refine wpAnyH_take (i := 1) (oi := ⟨some 4, _, _, _, _, _⟩) (v := ?_) rfl (by kernel_rfl) (by kernel_rfl) (by kernel_rfl) (fun _ _ _ h => h) (Or.inl ⟨by rfl, ?_⟩) (by assumption) ?_
  rotate_left
  · (intro wS hSw; (try dsimp only at hSw); (go_simp) <;> (with_reducible rfl))
  (try simp only [Act.put, List.setIfInBounds_toArray, List.set_cons_zero, List.set_cons_succ])
  refine wpAnyH_take (i := 4) (oi := ⟨some 7, _, _, _, _, _⟩) (v := ?_) rfl (by kernel_rfl) (by kernel_rfl) (by kernel_rfl) (fun _ _ _ h => h) (Or.inl ⟨by rfl, ?_⟩) (by assumption) ?_
  rotate_left
  · (intro wS hSw; (try dsimp only at hSw); (go_simp) <;> (with_reducible rfl))
  (try simp only [Act.put, List.setIfInBounds_toArray, List.set_cons_zero, List.set_cons_succ])
  refine wpAnyH_take (i := 5) (oi := ⟨some 8, _, _, _, _, _⟩) (v := ?_) rfl (by kernel_rfl) (by kernel_rfl) (by kernel_rfl) (fun _ _ _ h => h) (Or.inl ⟨by rfl, ?_⟩) (by assumption) ?_
  rotate_left
  · (intro wS hSw; (try dsimp only at hSw); (go_simp) <;> (with_reducible rfl))
  (try simp only [Act.put, List.setIfInBounds_toArray, List.set_cons_zero, List.set_cons_succ])
  refine wpAnyH_take (i := 6) (oi := ⟨some 9, _, _, _, _, _⟩) (v := ?_) rfl (by kernel_rfl) (by kernel_rfl) (by kernel_rfl) (fun _ _ _ h => h) (Or.inl ⟨by rfl, ?_⟩) (by assumption) ?_
  rotate_left
  · (intro wS hSw; (try dsimp only at hSw); (go_simp) <;> (with_reducible rfl))
  (try simp only [Act.put, List.setIfInBounds_toArray, List.set_cons_zero, List.set_cons_succ])
  refine wpAnyH_take (i := 9) (oi := ⟨some 12, _, _, _, _, _⟩) (v := ?_) rfl (by kernel_rfl) (by kernel_rfl) (by kernel_rfl) (fun _ _ _ h => h) (Or.inl ⟨by rfl, ?_⟩) (by assumption) ?_
  rotate_left
  · (intro wS hSw; (try dsimp only at hSw); (go_simp) <;> (with_reducible rfl))
  (try simp only [Act.put, List.setIfInBounds_toArray, List.set_cons_zero, List.set_cons_succ])
  refine wpAnyH_take (i := 10) (oi := ⟨some 13, _, _, _, _, _⟩) (v := ?_) rfl (by kernel_rfl) (by kernel_rfl) (by kernel_rfl) (fun _ _ _ h => h) (Or.inl ⟨by rfl, ?_⟩) (by assumption) ?_
  rotate_left
  · (intro wS hSw; (try dsimp only at hSw); (go_simp) <;> (with_reducible rfl))
  (try simp only [Act.put, List.setIfInBounds_toArray, List.set_cons_zero, List.set_cons_succ])
  refine wpAnyH_ready (rs := [2, 7]) (by kernel_rfl) (by simp) ?_
  refine AllReadyH.cons (o := ⟨some 5, _, _, _, _, _⟩) rfl (fun K hK => ?_) ?_
  · go_simp
    refine hK.out _ _ ?_ (fun hH => ?_)
    · first | exact (PackK.below hH.2.2 hB).held | exact (PackK.alloc hH.2.2 _).held | exact hH
    clear hK K
    (try simp only [Act.put, List.setIfInBounds_toArray, List.set_cons_zero, List.set_cons_succ])
    refine wpAnyH_ready (rs := [3, 7]) (by kernel_rfl) (by simp) ?_
    refine AllReadyH.cons (o := ⟨some 6, _, _, _, _, _⟩) rfl (fun K hK => ?_) ?_
    · go_simp
      refine hK.out _ _ ?_ (fun hH => ?_)
      · first | exact (PackK.below hH.2.2 hB).held | exact (PackK.alloc hH.2.2 _).held | exact hH
      clear hK K
      (try simp only [Act.put, List.setIfInBounds_toArray, List.set_cons_zero, List.set_cons_succ])
      refine wpAnyH_ready (rs := [7]) (by kernel_rfl) (by simp) ?_
      refine AllReadyH.cons (o := ⟨some 10, _, _, _, _, _⟩) rfl (fun K hK => ?_) AllReadyH.nil
      go_simp
      first | (refine (HH2.out _).mono ?_; rintro e w3 ⟨rfl, hcv, hB⟩) | (refine (HH.out _).mono ?_; rintro e w3 ⟨rfl, hB⟩)
      go_wp2_with fail
      refine hK.out _ _ ?_ (fun hH => ?_)
      · first | exact (PackK.below hH.2.2 hB).held | exact (PackK.alloc hH.2.2 _).held | exact hH
      clear hK K
      (try simp only [Act.put, List.setIfInBounds_toArray, List.set_cons_zero, List.set_cons_succ])
      refine wpAnyH_take (i := 8) (oi := ⟨some 11, _, _, _, _, _⟩) (v := ?_) rfl (by kernel_rfl) (by kernel_rfl) (by kernel_rfl) (fun _ _ _ h => h) (Or.inl ⟨by rfl, ?_⟩) (by assumption) ?_
      rotate_left
      · (intro wS hSw; (try dsimp only at hSw); (go_simp) <;> (with_reducible rfl))
      (try simp only [Act.put, List.setIfInBounds_toArray, List.set_cons_zero, List.set_cons_succ])
      refine wpAnyH_take (i := 11) (oi := ⟨some 14, _, _, _, _, _⟩) (v := ?_) rfl (by kernel_rfl) (by kernel_rfl) (by kernel_rfl) (fun _ _ _ h => h) (Or.inl ⟨by rfl, ?_⟩) (by assumption) ?_
      rotate_left
      · (intro wS hSw; (try dsimp only at hSw); (go_simp) <;> (with_reducible rfl))
      (try simp only [Act.put, List.setIfInBounds_toArray, List.set_cons_zero, List.set_cons_succ])
      refine wpAnyH_take (i := 12) (oi := ⟨some 2, _, _, _, _, _⟩) (v := ?_) rfl (by kernel_rfl) (by kernel_rfl) (by kernel_rfl) (fun _ _ _ h => h) (Or.inl ⟨by rfl, ?_⟩) (by assumption) ?_
      rotate_left
      · (intro wS hSw; (try dsimp only at hSw); (go_simp) <;> (with_reducible rfl))
      (try simp only [Act.put, List.setIfInBounds_toArray, List.set_cons_zero, List.set_cons_succ])
      refine wpAnyH_done (by kernel_rfl) ?_ _
      refine NoPanic.normal ?_
      go_wp2
      go_ret
      exact ⟨retS HA.out, hH.2.2.2.2⟩
    refine AllReadyH.cons (o := ⟨some 10, _, _, _, _, _⟩) rfl (fun K hK => ?_) AllReadyH.nil
    go_simp
    first | (refine (HH2.out _).mono ?_; rintro e w3 ⟨rfl, hcv, hB⟩) | (refine (HH.out _).mono ?_; rintro e w3 ⟨rfl, hB⟩)
    go_wp2_with fail
    refine hK.out _ _ ?_ (fun hH => ?_)
    · first | exact (PackK.below hH.2.2 hB).held | exact (PackK.alloc hH.2.2 _).held | exact hH
    clear hK K
    (try simp only [Act.put, List.setIfInBounds_toArray, List.set_cons_zero, List.set_cons_succ])
    refine wpAnyH_ready (rs := [3]) (by kernel_rfl) (by simp) ?_
    refine AllReadyH.cons (o := ⟨some 6, _, _, _, _, _⟩) rfl (fun K hK => ?_) AllReadyH.nil
    go_simp
    refine hK.out _ _ ?_ (fun hH => ?_)
    · first | exact (PackK.below hH.2.2 hB).held | exact (PackK.alloc hH.2.2 _).held | exact hH
    clear hK K
    (try simp only [Act.put, List.setIfInBounds_toArray, List.set_cons_zero, List.set_cons_succ])
    refine wpAnyH_take (i := 8) (oi := ⟨some 11, _, _, _, _, _⟩) (v := ?_) rfl (by kernel_rfl) (by kernel_rfl) (by kernel_rfl) (fun _ _ _ h => h) (Or.inl ⟨by rfl, ?_⟩) (by assumption) ?_
    rotate_left
    · (intro wS hSw; (try dsimp only at hSw); (go_simp) <;> (with_reducible rfl))
    (try simp only [Act.put, List.setIfInBounds_toArray, List.set_cons_zero, List.set_cons_succ])
    refine wpAnyH_take (i := 11) (oi := ⟨some 14, _, _, _, _, _⟩) (v := ?_) rfl (by kernel_rfl) (by kernel_rfl) (by kernel_rfl) (fun _ _ _ h => h) (Or.inl ⟨by rfl, ?_⟩) (by assumption) ?_
    rotate_left
    · (intro wS hSw; (try dsimp only at hSw); (go_simp) <;> (with_reducible rfl))
    (try simp only [Act.put, List.setIfInBounds_toArray, List.set_cons_zero, List.set_cons_succ])
    refine wpAnyH_take (i := 12) (oi := ⟨some 2, _, _, _, _, _⟩) (v := ?_) rfl (by kernel_rfl) (by kernel_rfl) (by kernel_rfl) (fun _ _ _ h => h) (Or.inl ⟨by rfl, ?_⟩) (by assumption) ?_
    rotate_left
    · (intro wS hSw; (try dsimp only at hSw); (go_simp) <;> (with_reducible rfl))
    (try simp only [Act.put, List.setIfInBounds_toArray, List.set_cons_zero, List.set_cons_succ])
    refine wpAnyH_done (by kernel_rfl) ?_ _
    refine NoPanic.normal ?_
    go_wp2
    go_ret
    exact ⟨retS HA.out, hH.2.2.2.2⟩
  refine AllReadyH.cons (o := ⟨some 10, _, _, _, _, _⟩) rfl (fun K hK => ?_) AllReadyH.nil
  go_simp
  first | (refine (HH2.out _).mono ?_; rintro e w3 ⟨rfl, hcv, hB⟩) | (refine (HH.out _).mono ?_; rintro e w3 ⟨rfl, hB⟩)
  go_wp2_with fail
  refine hK.out _ _ ?_ (fun hH => ?_)
  · first | exact (PackK.below hH.2.2 hB).held | exact (PackK.alloc hH.2.2 _).held | exact hH
  clear hK K
  (try simp only [Act.put, List.setIfInBounds_toArray, List.set_cons_zero, List.set_cons_succ])
  refine wpAnyH_ready (rs := [2]) (by kernel_rfl) (by simp) ?_
  refine AllReadyH.cons (o := ⟨some 5, _, _, _, _, _⟩) rfl (fun K hK => ?_) AllReadyH.nil
  go_simp
  refine hK.out _ _ ?_ (fun hH => ?_)
  · first | exact (PackK.below hH.2.2 hB).held | exact (PackK.alloc hH.2.2 _).held | exact hH
  clear hK K
  (try simp only [Act.put, List.setIfInBounds_toArray, List.set_cons_zero, List.set_cons_succ])
  refine wpAnyH_ready (rs := [3]) (by kernel_rfl) (by simp) ?_
  refine AllReadyH.cons (o := ⟨some 6, _, _, _, _, _⟩) rfl (fun K hK => ?_) AllReadyH.nil
  go_simp
  refine hK.out _ _ ?_ (fun hH => ?_)
  · first | exact (PackK.below hH.2.2 hB).held | exact (PackK.alloc hH.2.2 _).held | exact hH
  clear hK K
  (try simp only [Act.put, List.setIfInBounds_toArray, List.set_cons_zero, List.set_cons_succ])
  refine wpAnyH_take (i := 8) (oi := ⟨some 11, _, _, _, _, _⟩) (v := ?_) rfl (by kernel_rfl) (by kernel_rfl) (by kernel_rfl) (fun _ _ _ h => h) (Or.inl ⟨by rfl, ?_⟩) (by assumption) ?_
  rotate_left
  · (intro wS hSw; (try dsimp only at hSw); (go_simp) <;> (with_reducible rfl))
  (try simp only [Act.put, List.setIfInBounds_toArray, List.set_cons_zero, List.set_cons_succ])
  refine wpAnyH_take (i := 11) (oi := ⟨some 14, _, _, _, _, _⟩) (v := ?_) rfl (by kernel_rfl) (by kernel_rfl) (by kernel_rfl) (fun _ _ _ h => h) (Or.inl ⟨by rfl, ?_⟩) (by assumption) ?_
  rotate_left
  · (intro wS hSw; (try dsimp only at hSw); (go_simp) <;> (with_reducible rfl))
  (try simp only [Act.put, List.setIfInBounds_toArray, List.set_cons_zero, List.set_cons_succ])
  refine wpAnyH_take (i := 12) (oi := ⟨some 2, _, _, _, _, _⟩) (v := ?_) rfl (by kernel_rfl) (by kernel_rfl) (by kernel_rfl) (fun _ _ _ h => h) (Or.inl ⟨by rfl, ?_⟩) (by assumption) ?_
  rotate_left
  · (intro wS hSw; (try dsimp only at hSw); (go_simp) <;> (with_reducible rfl))
  (try simp only [Act.put, List.setIfInBounds_toArray, List.set_cons_zero, List.set_cons_succ])
  refine wpAnyH_done (by kernel_rfl) ?_ _
  refine NoPanic.normal ?_
  go_wp2
  go_ret
  exact ⟨retS HA.out, hH.2.2.2.2⟩

theorem pack_sum (k : UInt8) (b : ByteArray) : tx [254] ++ tx (midT k (toL b)) ++ textN (sumN (midT k (toL b))) = tx (packT k (toL b)) := by
  have e1 : textN (sumN (midT k (toL b))) = tx (sumT (midT k (toL b))) := rfl
  rw [e1, tx_append, tx_append]
  rfl
theorem all_snoc (p : UInt8 → Bool) (s : ByteArray) (j : Nat) (h : j < s.size) (hf : p s[j] = false) : (toL s).all p = false := by
  have h1 := take_all_next p s j h
  rw [hf, Bool.and_false] at h1
  have h2 := take_all_less p (toL s) (j + 1) s.size (by omega) h1
  rwa [take_size] at h2
theorem inBody_int (c : UInt8) : inBodyB c = (decide (32 ≤ (c.toNat : Int)) && decide ((c.toNat : Int) ≤ 126)) := by
  unfold inBodyB
  congr 1 <;> exact decide_eq_decide.2 (by omega)
theorem isKind_int (c : UInt8) : isKindB c = (decide (97 ≤ (c.toNat : Int)) && decide ((c.toNat : Int) ≤ 122)) := by
  unfold isKindB
  congr 1 <;> exact decide_eq_decide.2 (by omega)

set_option maxHeartbeats 2000000 in
theorem refPack_any (k : UInt8) (b : ByteArray) (hb : b.size ≤ maxLen) (w : World) :
    Calls Tryz.prog 23 #[.agg #[.int .u8 (k.toNat : Int), .string b]] w fun e w' => e = .returned (.tuple #[.string (tx (packS k (toL b))), .int .i64 (packE k (toL b) : Int)]) ∧ Below w.heap.size w w' := by
  have HK := Lib.hid (PackK.new w (.int .u8 (k.toNat : Int)) (.string b) 61)
  have HEE : Hid (packE k (toL b) = if isKindB k = false then 40 else if 2000 < b.size then 41 else if (toL b).all inBodyB = false then 42 else 0) := by
    unfold Hid packE
    rw [toL_length]
  have HSS : Hid (packS k (toL b) = if packE k (toL b) = 0 then packT k (toL b) else []) := rfl
  have HI := Lib.hid (isKind_int k)
  unfold maxLen at hb
  have hkb : 0 ≤ (k.toNat : Int) ∧ (k.toNat : Int) ≤ 255 := ⟨by omega, by have := k.toNat_lt; omega⟩
  cases hk : isKindB k
  · have HE : Hid (packE k (toL b) = 40) := by unfold Hid; rw [HEE.out, if_pos hk]
    have HS : Hid (packS k (toL b) = []) := by unfold Hid; rw [HSS.out, HE.out]; rfl
    have hn : (k.toNat : Int) < 97 ∨ (¬ (k.toNat : Int) < 97 ∧ 122 < (k.toNat : Int)) := by
      have := HI.out
      rw [hk] at this
      simp at this
      omega
    clear hk HI HEE HSS
    rcases hn with hn | ⟨hn, hn2⟩
    all_goals
      go_enter Tryz.func23, Tryz.ntmps23
      go_wp2
      go_ret2
      exact ⟨by rw [HE.out, HS.out]; rfl, HK.out.2.2⟩
  · have hn : 97 ≤ (k.toNat : Int) ∧ (k.toNat : Int) ≤ 122 := by
      have := HI.out
      rw [hk] at this
      simp at this
      omega
    obtain ⟨hn1, hn2⟩ := hn
    clear HI
    by_cases hl : 2000 < b.size
    · have HE : Hid (packE k (toL b) = 41) := by unfold Hid; rw [HEE.out, if_neg (by simp [hk]), if_pos hl]
      have HS : Hid (packS k (toL b) = []) := by unfold Hid; rw [HSS.out, HE.out]; rfl
      clear hk HEE HSS
      go_enter Tryz.func23, Tryz.ntmps23
      go_wp2
      go_ret2
      exact ⟨by rw [HE.out, HS.out]; rfl, HK.out.2.2⟩
    · have HBAD : Hid (∀ j (h : j < b.size), inBodyB b[j] = false → packE k (toL b) = 42) := fun j h hf => by
        rw [HEE.out, if_neg (by simp [hk]), if_neg hl, if_pos (all_snoc inBodyB b j h hf)]
      have HGOOD : Hid (((toL b).take b.size).all inBodyB = true → packE k (toL b) = 0) := fun h => by
        rw [take_size] at h
        rw [HEE.out, if_neg (by simp [hk]), if_neg hl, if_neg (by simp [h])]
      have HT := Lib.hid (fun W => refText_any k b (by omega) W)
      have hszm : (tx (midT k (toL b))).size = 5 + b.size := by rw [tx_size, midT_len, toL_length]
      have HU : Hid (∀ W, Calls Tryz.prog 48 #[.string (tx (midT k (toL b)))] W fun e w' => e = .returned (.int .i64 (sumN (midT k (toL b)) : Int)) ∧ W = w') := fun W => by
        have h := refSum_any (tx (midT k (toL b))) (by omega) W
        rwa [toL_tx] at h
      have hlt := sumN_lt (midT k (toL b))
      have HH : Hid (∀ W, Calls Tryz.prog 47 #[.int .i64 (sumN (midT k (toL b)) : Int), .int .i64 8] W fun e w' => e = .returned (.string (textN (sumN (midT k (toL b))))) ∧ Below W.heap.size W w') := fun W =>
        refHex_any (sumN (midT k (toL b)) : Int) 8 (by omega) (by omega) W
      have HH2 : Hid (∀ W : World, Calls Tryz.prog 47 #[.int .i64 (sumN (midT k (toL b)) : Int), .int .i64 8] (W.alloc (.cells #[.int .u8 254] 5)).drew fun e w' => e = .returned (.string (textN (sumN (midT k (toL b))))) ∧ (convert 50 9 (.slice (some ⟨W.heap.size, 0, none⟩) 1 1)).run Tryz.prog w' = .ok (.string (tx [254])) w' ∧ Below (W.alloc (.cells #[.int .u8 254] 5)).drew.heap.size (W.alloc (.cells #[.int .u8 254] 5)).drew w') := after_row [254] HH.out
      have hv1 : ∀ W : World, (convert 50 9 (.slice (some ⟨W.heap.size, 0, none⟩) 1 1)).run Tryz.prog (W.alloc (.cells #[.int .u8 254] 5)) = .ok (.string (tx [254])) (W.alloc (.cells #[.int .u8 254] 5)) := conv_new [254]
      have hv2 : ∀ W : World, (convert 50 9 (.slice (some ⟨W.heap.size, 0, none⟩) 1 1)).run Tryz.prog (W.alloc (.cells #[.int .u8 254] 5)).drew = .ok (.string (tx [254])) (W.alloc (.cells #[.int .u8 254] 5)).drew := conv_drew [254]
      have HZ := Lib.hid (pack_sum k b)
      have hz1 : (tx [254]).size = 1 := rfl
      have hz4 : (textN (sumN (midT k (toL b)))).size = 8 := by
        show (tx (sumT _)).size = 8
        rw [tx_size, sumT_len]
      generalize textN (sumN (midT k (toL b))) = X at *
      generalize sumN (midT k (toL b)) = N at *
      generalize tx (midT k (toL b)) = M at *
      generalize tx [254] = T at *
      have hz5 : (T ++ M).size = 6 + b.size := by rw [ByteArray.size_append, hz1, hszm]; omega
      have hc2 : ¬ (9223372036854775807 < 1 + (5 + b.size)) := by omega
      have hc3 : ¬ (9223372036854775807 < 6 + b.size + 8) := by omega
      have hc0 := HK.out.cell0
      have hc1 := HK.out.cell1
      have HK2 := Lib.hid (Below.refl (w.alloc (.cells #[.int .u8 (k.toNat : Int), .string b] 61)).heap.size (w.alloc (.cells #[.int .u8 (k.toNat : Int), .string b] 61)))
      clear hk HEE
      go_enter Tryz.func23, Tryz.ntmps23
      go_wp2
      generalize w.alloc (.cells #[.int .u8 (k.toNat : Int), .string b] 61) = W at *
      go_loopw [4] (fun i wr => ∃ j : Nat, j ≤ b.size ∧ i = .int .i64 j ∧ Hid (((toL b).take j).all inBodyB = true) ∧ W = wr) (fun i _ => b.size - (intOf i).toNat)
      case atStart => exact ⟨0, by omega, rfl, (by unfold Hid; rfl), rfl⟩
      case round =>
        obtain ⟨j, hj, rfl, HA, rfl⟩ := hrel
        by_cases hjs : j < b.size
        · have HN := Lib.hid (take_all_next inBodyB b j hjs)
          have HF := Lib.hid (HBAD.out j hjs)
          have hbyte : 0 ≤ (b[j].toNat : Int) ∧ (b[j].toNat : Int) ≤ 255 := ⟨by omega, by have := b[j].toNat_lt; omega⟩
          have hint := inBody_int b[j]
          cases hx : inBodyB b[j]
          · have HE := Lib.hid (HF.out hx)
            have HS : Hid (packS k (toL b) = []) := by unfold Hid; rw [HSS.out, HE.out]; rfl
            have hn : (b[j].toNat : Int) < 32 ∨ (¬ (b[j].toNat : Int) < 32 ∧ 126 < (b[j].toNat : Int)) := by
              rw [hx] at hint
              simp at hint
              omega
            clear hx hint HF HN HSS
            rcases hn with hn | ⟨hn, hn2⟩
            all_goals
              go_wp2
              go_ret2
              exact ⟨by rw [HE.out, HS.out]; rfl, HK.out.2.2⟩
          · have hn : ¬ (b[j].toNat : Int) < 32 ∧ ¬ 126 < (b[j].toNat : Int) := by
              rw [hx] at hint
              simp at hint
              omega
            obtain ⟨hn3, hn4⟩ := hn
            have HA2 : Hid (((toL b).take (j + 1)).all inBodyB = true) := by unfold Hid; rw [HN.out, HA.out, hx]; rfl
            clear hx hint HF HN HSS
            go_wp2
            go_roundw
            case rel => exact ⟨j + 1, by omega, by go_num, HA2, by trivial⟩
            case measure => simp [intOf]; omega
        · obtain rfl : j = b.size := by omega
          have HE := Lib.hid (HGOOD.out HA.out)
          have HS : Hid (packS k (toL b) = packT k (toL b)) := by unfold Hid; rw [HSS.out, HE.out]; rfl
          clear HSS HBAD HGOOD HA
          go_wp2_with fail
          go_at_call 46
          refine (HT.out _).mono ?_
          rintro e w2 ⟨rfl, hB2⟩
          have HK3 := Lib.hid (HK.out.below hB2)
          clear HK hB2 HT
          go_upto_region 11 with fail
          refine wp_region_noPanic ?_
          refine wp_region_held_drew (S := (fun w' => w'.cell? ⟨w.heap.size, 0, none⟩ = some (.int .u8 (k.toNat : Int)) ∧ w'.cell? ⟨w.heap.size, 1, none⟩ = some (.string b) ∧ PackK w w.heap.size (.int .u8 (k.toNat : Int)) (.string b) 61 w')) (by kernel_rfl) ?_ (fun hH => ?_)
          · exact (PackK.drew HK3.out).held
          refine wpAnyH_take (i := 2) (oi := ⟨some 41, _, _, _, _, _⟩) (v := ?_) rfl (by kernel_rfl) (by kernel_rfl) (by kernel_rfl) (fun _ _ _ h => h) (Or.inl ⟨by rfl, ?_⟩) (by assumption) ?_
          rotate_left
          · (intro wS hSw; (try dsimp only at hSw); (go_simp) <;> (with_reducible rfl))
          (try simp only [Act.put, List.setIfInBounds_toArray, List.set_cons_zero, List.set_cons_succ])
          refine wpAnyH_take (i := 4) (oi := ⟨some 43, _, _, _, _, _⟩) (v := ?_) rfl (by kernel_rfl) (by kernel_rfl) (by kernel_rfl) (fun _ _ _ h => h) (Or.inl ⟨by rfl, ?_⟩) (by assumption) ?_
          rotate_left
          · (intro wS hSw; (try dsimp only at hSw); (go_simp) <;> (with_reducible rfl))
          (try simp only [Act.put, List.setIfInBounds_toArray, List.set_cons_zero, List.set_cons_succ])
          refine wpAnyH_ready (rs := [0, 5]) (by kernel_rfl) (by simp) ?_
          refine AllReadyH.cons (o := ⟨some 39, _, _, _, _, _⟩) rfl (fun K hK => ?_) ?_
          · go_simp
            refine hK.out _ _ ?_ (fun hH => ?_)
            · first | exact (PackK.below hH.2.2 hB).held | exact (PackK.alloc hH.2.2 _).held | exact hH
            clear hK K
            (try simp only [Act.put, List.setIfInBounds_toArray, List.set_cons_zero, List.set_cons_succ])
            refine wpAnyH_ready (rs := [1, 5]) (by kernel_rfl) (by simp) ?_
            refine AllReadyH.cons (o := ⟨some 40, _, _, _, _, _⟩) rfl (fun K hK => ?_) ?_
            · go_simp
              refine hK.out _ _ ?_ (fun hH => ?_)
              · first | exact (PackK.below hH.2.2 hB).held | exact (PackK.alloc hH.2.2 _).held | exact hH
              clear hK K
              (try simp only [Act.put, List.setIfInBounds_toArray, List.set_cons_zero, List.set_cons_succ])
              refine wpAnyH_take (i := 3) (oi := ⟨some 42, _, _, _, _, _⟩) (v := ?_) rfl (by kernel_rfl) (by kernel_rfl) (by kernel_rfl) (fun _ _ _ h => h) (Or.inl ⟨by rfl, ?_⟩) (by assumption) ?_
              rotate_left
              · (intro wS hSw; (try dsimp only at hSw); (go_simp) <;> (with_reducible rfl))
              (try simp only [Act.put, List.setIfInBounds_toArray, List.set_cons_zero, List.set_cons_succ])
              refine wpAnyH_ready (rs := [5]) (by kernel_rfl) (by simp) ?_
              refine AllReadyH.cons (o := ⟨some 44, _, _, _, _, _⟩) rfl (fun K hK => ?_) AllReadyH.nil
              go_simp
              first | (refine (HH2.out _).mono ?_; rintro e w3 ⟨rfl, hcv, hB⟩) | (refine (HH.out _).mono ?_; rintro e w3 ⟨rfl, hB⟩) | (refine (HU.out _).mono ?_; rintro e w3 ⟨rfl, rfl⟩)
              go_wp2_with fail
              refine hK.out _ _ ?_ (fun hH => ?_)
              · first | exact (PackK.below hH.2.2 hB).held | exact (PackK.alloc hH.2.2 _).held | exact hH
              clear hK K
              (try simp only [Act.put, List.setIfInBounds_toArray, List.set_cons_zero, List.set_cons_succ])
              refine wpAnyH_ready (rs := [6]) (by kernel_rfl) (by simp) ?_
              refine AllReadyH.cons (o := ⟨some 45, _, _, _, _, _⟩) rfl (fun K hK => ?_) AllReadyH.nil
              go_simp
              first | (refine (HH2.out _).mono ?_; rintro e w3 ⟨rfl, hcv, hB⟩) | (refine (HH.out _).mono ?_; rintro e w3 ⟨rfl, hB⟩) | (refine (HU.out _).mono ?_; rintro e w3 ⟨rfl, rfl⟩)
              go_wp2_with fail
              refine hK.out _ _ ?_ (fun hH => ?_)
              · first | exact (PackK.below hH.2.2 hB).held | exact (PackK.alloc hH.2.2 _).held | exact hH
              clear hK K
              (try simp only [Act.put, List.setIfInBounds_toArray, List.set_cons_zero, List.set_cons_succ])
              refine wpAnyH_take (i := 7) (oi := ⟨some 46, _, _, _, _, _⟩) (v := ?_) rfl (by kernel_rfl) (by kernel_rfl) (by kernel_rfl) (fun _ _ _ h => h) (Or.inl ⟨by rfl, ?_⟩) (by assumption) ?_
              rotate_left
              · (intro wS hSw; (try dsimp only at hSw); (go_simp) <;> (with_reducible rfl))
              (try simp only [Act.put, List.setIfInBounds_toArray, List.set_cons_zero, List.set_cons_succ])
              refine wpAnyH_take (i := 8) (oi := ⟨some 2, _, _, _, _, _⟩) (v := ?_) rfl (by kernel_rfl) (by kernel_rfl) (by kernel_rfl) (fun _ _ _ h => h) (Or.inl ⟨by rfl, ?_⟩) (by assumption) ?_
              rotate_left
              · (intro wS hSw; (try dsimp only at hSw); (go_simp) <;> (with_reducible rfl))
              (try simp only [Act.put, List.setIfInBounds_toArray, List.set_cons_zero, List.set_cons_succ])
              refine wpAnyH_take (i := 9) (oi := ⟨some 3, _, _, _, _, _⟩) (v := ?_) rfl (by kernel_rfl) (by kernel_rfl) (by kernel_rfl) (fun _ _ _ h => h) (Or.inl ⟨by rfl, ?_⟩) (by assumption) ?_
              rotate_left
              · (intro wS hSw; (try dsimp only at hSw); (go_simp) <;> (with_reducible rfl))
              (try simp only [Act.put, List.setIfInBounds_toArray, List.set_cons_zero, List.set_cons_succ])
              refine wpAnyH_done (by kernel_rfl) ?_ _
              refine NoPanic.normal ?_
              go_wp2
              go_ret2
              exact ⟨by rw [HE.out, HS.out, ← HZ.out]; rfl, hH.2.2.2.2⟩
            refine AllReadyH.cons (o := ⟨some 44, _, _, _, _, _⟩) rfl (fun K hK => ?_) AllReadyH.nil
            go_simp
            first | (refine (HH2.out _).mono ?_; rintro e w3 ⟨rfl, hcv, hB⟩) | (refine (HH.out _).mono ?_; rintro e w3 ⟨rfl, hB⟩) | (refine (HU.out _).mono ?_; rintro e w3 ⟨rfl, rfl⟩)
            go_wp2_with fail
            refine hK.out _ _ ?_ (fun hH => ?_)
            · first | exact (PackK.below hH.2.2 hB).held | exact (PackK.alloc hH.2.2 _).held | exact hH
            clear hK K
            (try simp only [Act.put, List.setIfInBounds_toArray, List.set_cons_zero, List.set_cons_succ])
            refine wpAnyH_ready (rs := [1, 6]) (by kernel_rfl) (by simp) ?_
            refine AllReadyH.cons (o := ⟨some 40, _, _, _, _, _⟩) rfl (fun K hK => ?_) ?_
            · go_simp
              refine hK.out _ _ ?_ (fun hH => ?_)
              · first | exact (PackK.below hH.2.2 hB).held | exact (PackK.alloc hH.2.2 _).held | exact hH
              clear hK K
              (try simp only [Act.put, List.setIfInBounds_toArray, List.set_cons_zero, List.set_cons_succ])
              refine wpAnyH_take (i := 3) (oi := ⟨some 42, _, _, _, _, _⟩) (v := ?_) rfl (by kernel_rfl) (by kernel_rfl) (by kernel_rfl) (fun _ _ _ h => h) (Or.inl ⟨by rfl, ?_⟩) (by assumption) ?_
              rotate_left
              · (intro wS hSw; (try dsimp only at hSw); (go_simp) <;> (with_reducible rfl))
              (try simp only [Act.put, List.setIfInBounds_toArray, List.set_cons_zero, List.set_cons_succ])
              refine wpAnyH_ready (rs := [6]) (by kernel_rfl) (by simp) ?_
              refine AllReadyH.cons (o := ⟨some 45, _, _, _, _, _⟩) rfl (fun K hK => ?_) AllReadyH.nil
              go_simp
              first | (refine (HH2.out _).mono ?_; rintro e w3 ⟨rfl, hcv, hB⟩) | (refine (HH.out _).mono ?_; rintro e w3 ⟨rfl, hB⟩) | (refine (HU.out _).mono ?_; rintro e w3 ⟨rfl, rfl⟩)
              go_wp2_with fail
              refine hK.out _ _ ?_ (fun hH => ?_)
              · first | exact (PackK.below hH.2.2 hB).held | exact (PackK.alloc hH.2.2 _).held | exact hH
              clear hK K
              (try simp only [Act.put, List.setIfInBounds_toArray, List.set_cons_zero, List.set_cons_succ])
              refine wpAnyH_take (i := 7) (oi := ⟨some 46, _, _, _, _, _⟩) (v := ?_) rfl (by kernel_rfl) (by kernel_rfl) (by kernel_rfl) (fun _ _ _ h => h) (Or.inl ⟨by rfl, ?_⟩) (by assumption) ?_
              rotate_left
              · (intro wS hSw; (try dsimp only at hSw); (go_simp) <;> (with_reducible rfl))
              (try simp only [Act.put, List.setIfInBounds_toArray, List.set_cons_zero, List.set_cons_succ])
              refine wpAnyH_take (i := 8) (oi := ⟨some 2, _, _, _, _, _⟩) (v := ?_) rfl (by kernel_rfl) (by kernel_rfl) (by kernel_rfl) (fun _ _ _ h => h) (Or.inl ⟨by rfl, ?_⟩) (by assumption) ?_
              rotate_left
              · (intro wS hSw; (try dsimp only at hSw); (go_simp) <;> (with_reducible rfl))
              (try simp only [Act.put, List.setIfInBounds_toArray, List.set_cons_zero, List.set_cons_succ])
              refine wpAnyH_take (i := 9) (oi := ⟨some 3, _, _, _, _, _⟩) (v := ?_) rfl (by kernel_rfl) (by kernel_rfl) (by kernel_rfl) (fun _ _ _ h => h) (Or.inl ⟨by rfl, ?_⟩) (by assumption) ?_
              rotate_left
              · (intro wS hSw; (try dsimp only at hSw); (go_simp) <;> (with_reducible rfl))
              (try simp only [Act.put, List.setIfInBounds_toArray, List.set_cons_zero, List.set_cons_succ])
              refine wpAnyH_done (by kernel_rfl) ?_ _
              refine NoPanic.normal ?_
              go_wp2
              go_ret2
              exact ⟨by rw [HE.out, HS.out, ← HZ.out]; rfl, hH.2.2.2.2⟩
            refine AllReadyH.cons (o := ⟨some 45, _, _, _, _, _⟩) rfl (fun K hK => ?_) AllReadyH.nil
            go_simp
            first | (refine (HH2.out _).mono ?_; rintro e w3 ⟨rfl, hcv, hB⟩) | (refine (HH.out _).mono ?_; rintro e w3 ⟨rfl, hB⟩) | (refine (HU.out _).mono ?_; rintro e w3 ⟨rfl, rfl⟩)
            go_wp2_with fail
            refine hK.out _ _ ?_ (fun hH => ?_)
            · first | exact (PackK.below hH.2.2 hB).held | exact (PackK.alloc hH.2.2 _).held | exact hH
            clear hK K
            (try simp only [Act.put, List.setIfInBounds_toArray, List.set_cons_zero, List.set_cons_succ])
            refine wpAnyH_ready (rs := [1]) (by kernel_rfl) (by simp) ?_
            refine AllReadyH.cons (o := ⟨some 40, _, _, _, _, _⟩) rfl (fun K hK => ?_) AllReadyH.nil
            go_simp
            refine hK.out _ _ ?_ (fun hH => ?_)
            · first | exact (PackK.below hH.2.2 hB).held | exact (PackK.alloc hH.2.2 _).held | exact hH
            clear hK K
            (try simp only [Act.put, List.setIfInBounds_toArray, List.set_cons_zero, List.set_cons_succ])
            refine wpAnyH_take (i := 3) (oi := ⟨some 42, _, _, _, _, _⟩) (v := ?_) rfl (by kernel_rfl) (by kernel_rfl) (by kernel_rfl) (fun _ _ _ h => h) (Or.inl ⟨by rfl, ?_⟩) (by assumption) ?_
            rotate_left
            · (intro wS hSw; (try dsimp only at hSw); (go_simp) <;> (with_reducible rfl))
            (try simp only [Act.put, List.setIfInBounds_toArray, List.set_cons_zero, List.set_cons_succ])
            refine wpAnyH_take (i := 7) (oi := ⟨some 46, _, _, _, _, _⟩) (v := ?_) rfl (by kernel_rfl) (by kernel_rfl) (by kernel_rfl) (fun _ _ _ h => h) (Or.inl ⟨by rfl, ?_⟩) (by assumption) ?_
            rotate_left
            · (intro wS hSw; (try dsimp only at hSw); (go_simp) <;> (with_reducible rfl))
            (try simp only [Act.put, List.setIfInBounds_toArray, List.set_cons_zero, List.set_cons_succ])
            refine wpAnyH_take (i := 8) (oi := ⟨some 2, _, _, _, _, _⟩) (v := ?_) rfl (by kernel_rfl) (by kernel_rfl) (by kernel_rfl) (fun _ _ _ h => h) (Or.inl ⟨by rfl, ?_⟩) (by assumption) ?_
            rotate_left
            · (intro wS hSw; (try dsimp only at hSw); (go_simp) <;> (with_reducible rfl))
            (try simp only [Act.put, List.setIfInBounds_toArray, List.set_cons_zero, List.set_cons_succ])
            refine wpAnyH_take (i := 9) (oi := ⟨some 3, _, _, _, _, _⟩) (v := ?_) rfl (by kernel_rfl) (by kernel_rfl) (by kernel_rfl) (fun _ _ _ h => h) (Or.inl ⟨by rfl, ?_⟩) (by assumption) ?_
            rotate_left
            · (intro wS hSw; (try dsimp only at hSw); (go_simp) <;> (with_reducible rfl))
            (try simp only [Act.put, List.setIfInBounds_toArray, List.set_cons_zero, List.set_cons_succ])
            refine wpAnyH_done (by kernel_rfl) ?_ _
            refine NoPanic.normal ?_
            go_wp2
            go_ret2
            exact ⟨by rw [HE.out, HS.out, ← HZ.out]; rfl, hH.2.2.2.2⟩
          refine AllReadyH.cons (o := ⟨some 44, _, _, _, _, _⟩) rfl (fun K hK => ?_) AllReadyH.nil
          go_simp
          first | (refine (HH2.out _).mono ?_; rintro e w3 ⟨rfl, hcv, hB⟩) | (refine (HH.out _).mono ?_; rintro e w3 ⟨rfl, hB⟩) | (refine (HU.out _).mono ?_; rintro e w3 ⟨rfl, rfl⟩)
          go_wp2_with fail
          refine hK.out _ _ ?_ (fun hH => ?_)
          · first | exact (PackK.below hH.2.2 hB).held | exact (PackK.alloc hH.2.2 _).held | exact hH
          clear hK K
          (try simp only [Act.put, List.setIfInBounds_toArray, List.set_cons_zero, List.set_cons_succ])
          refine wpAnyH_ready (rs := [0, 6]) (by kernel_rfl) (by simp) ?_
          refine AllReadyH.cons (o := ⟨some 39, _, _, _, _, _⟩) rfl (fun K hK => ?_) ?_
          · go_simp
            refine hK.out _ _ ?_ (fun hH => ?_)
            · first | exact (PackK.below hH.2.2 hB).held | exact (PackK.alloc hH.2.2 _).held | exact hH
            clear hK K
            (try simp only [Act.put, List.setIfInBounds_toArray, List.set_cons_zero, List.set_cons_succ])
            refine wpAnyH_ready (rs := [1, 6]) (by kernel_rfl) (by simp) ?_
            refine AllReadyH.cons (o := ⟨some 40, _, _, _, _, _⟩) rfl (fun K hK => ?_) ?_
            · go_simp
              refine hK.out _ _ ?_ (fun hH => ?_)
              · first | exact (PackK.below hH.2.2 hB).held | exact (PackK.alloc hH.2.2 _).held | exact hH
              clear hK K
              (try simp only [Act.put, List.setIfInBounds_toArray, List.set_cons_zero, List.set_cons_succ])
              refine wpAnyH_take (i := 3) (oi := ⟨some 42, _, _, _, _, _⟩) (v := ?_) rfl (by kernel_rfl) (by kernel_rfl) (by kernel_rfl) (fun _ _ _ h => h) (Or.inl ⟨by rfl, ?_⟩) (by assumption) ?_
              rotate_left
              · (intro wS hSw; (try dsimp only at hSw); (go_simp) <;> (with_reducible rfl))
              (try simp only [Act.put, List.setIfInBounds_toArray, List.set_cons_zero, List.set_cons_succ])
              refine wpAnyH_ready (rs := [6]) (by kernel_rfl) (by simp) ?_
              refine AllReadyH.cons (o := ⟨some 45, _, _, _, _, _⟩) rfl (fun K hK => ?_) AllReadyH.nil
              go_simp
              first | (refine (HH2.out _).mono ?_; rintro e w3 ⟨rfl, hcv, hB⟩) | (refine (HH.out _).mono ?_; rintro e w3 ⟨rfl, hB⟩) | (refine (HU.out _).mono ?_; rintro e w3 ⟨rfl, rfl⟩)
              go_wp2_with fail
              refine hK.out _ _ ?_ (fun hH => ?_)
              · first | exact (PackK.below hH.2.2 hB).held | exact (PackK.alloc hH.2.2 _).held | exact hH
              clear hK K
              (try simp only [Act.put, List.setIfInBounds_toArray, List.set_cons_zero, List.set_cons_succ])
              refine wpAnyH_take (i := 7) (oi := ⟨some 46, _, _, _, _, _⟩) (v := ?_) rfl (by kernel_rfl) (by kernel_rfl) (by kernel_rfl) (fun _ _ _ h => h) (Or.inl ⟨by rfl, ?_⟩) (by assumption) ?_
              rotate_left
              · (intro wS hSw; (try dsimp only at hSw); (go_simp) <;> (with_reducible rfl))
              (try simp only [Act.put, List.setIfInBounds_toArray, List.set_cons_zero, List.set_cons_succ])
              refine wpAnyH_take (i := 8) (oi := ⟨some 2, _, _, _, _, _⟩) (v := ?_) rfl (by kernel_rfl) (by kernel_rfl) (by kernel_rfl) (fun _ _ _ h => h) (Or.inl ⟨by rfl, ?_⟩) (by assumption) ?_
              rotate_left
              · (intro wS hSw; (try dsimp only at hSw); (go_simp) <;> (with_reducible rfl))
              (try simp only [Act.put, List.setIfInBounds_toArray, List.set_cons_zero, List.set_cons_succ])
              refine wpAnyH_take (i := 9) (oi := ⟨some 3, _, _, _, _, _⟩) (v := ?_) rfl (by kernel_rfl) (by kernel_rfl) (by kernel_rfl) (fun _ _ _ h => h) (Or.inl ⟨by rfl, ?_⟩) (by assumption) ?_
              rotate_left
              · (intro wS hSw; (try dsimp only at hSw); (go_simp) <;> (with_reducible rfl))
              (try simp only [Act.put, List.setIfInBounds_toArray, List.set_cons_zero, List.set_cons_succ])
              refine wpAnyH_done (by kernel_rfl) ?_ _
              refine NoPanic.normal ?_
              go_wp2
              go_ret2
              exact ⟨by rw [HE.out, HS.out, ← HZ.out]; rfl, hH.2.2.2.2⟩
            refine AllReadyH.cons (o := ⟨some 45, _, _, _, _, _⟩) rfl (fun K hK => ?_) AllReadyH.nil
            go_simp
            first | (refine (HH2.out _).mono ?_; rintro e w3 ⟨rfl, hcv, hB⟩) | (refine (HH.out _).mono ?_; rintro e w3 ⟨rfl, hB⟩) | (refine (HU.out _).mono ?_; rintro e w3 ⟨rfl, rfl⟩)
            go_wp2_with fail
            refine hK.out _ _ ?_ (fun hH => ?_)
            · first | exact (PackK.below hH.2.2 hB).held | exact (PackK.alloc hH.2.2 _).held | exact hH
            clear hK K
            (try simp only [Act.put, List.setIfInBounds_toArray, List.set_cons_zero, List.set_cons_succ])
            refine wpAnyH_ready (rs := [1]) (by kernel_rfl) (by simp) ?_
            refine AllReadyH.cons (o := ⟨some 40, _, _, _, _, _⟩) rfl (fun K hK => ?_) AllReadyH.nil
            go_simp
            refine hK.out _ _ ?_ (fun hH => ?_)
            · first | exact (PackK.below hH.2.2 hB).held | exact (PackK.alloc hH.2.2 _).held | exact hH
            clear hK K
            (try simp only [Act.put, List.setIfInBounds_toArray, List.set_cons_zero, List.set_cons_succ])
            refine wpAnyH_take (i := 3) (oi := ⟨some 42, _, _, _, _, _⟩) (v := ?_) rfl (by kernel_rfl) (by kernel_rfl) (by kernel_rfl) (fun _ _ _ h => h) (Or.inl ⟨by rfl, ?_⟩) (by assumption) ?_
            rotate_left
            · (intro wS hSw; (try dsimp only at hSw); (go_simp) <;> (with_reducible rfl))
            (try simp only [Act.put, List.setIfInBounds_toArray, List.set_cons_zero, List.set_cons_succ])
            refine wpAnyH_take (i := 7) (oi := ⟨some 46, _, _, _, _, _⟩) (v := ?_) rfl (by kernel_rfl) (by kernel_rfl) (by kernel_rfl) (fun _ _ _ h => h) (Or.inl ⟨by rfl, ?_⟩) (by assumption) ?_
            rotate_left
            · (intro wS hSw; (try dsimp only at hSw); (go_simp) <;> (with_reducible rfl))
            (try simp only [Act.put, List.setIfInBounds_toArray, List.set_cons_zero, List.set_cons_succ])
            refine wpAnyH_take (i := 8) (oi := ⟨some 2, _, _, _, _, _⟩) (v := ?_) rfl (by kernel_rfl) (by kernel_rfl) (by kernel_rfl) (fun _ _ _ h => h) (Or.inl ⟨by rfl, ?_⟩) (by assumption) ?_
            rotate_left
            · (intro wS hSw; (try dsimp only at hSw); (go_simp) <;> (with_reducible rfl))
            (try simp only [Act.put, List.setIfInBounds_toArray, List.set_cons_zero, List.set_cons_succ])
            refine wpAnyH_take (i := 9) (oi := ⟨some 3, _, _, _, _, _⟩) (v := ?_) rfl (by kernel_rfl) (by kernel_rfl) (by kernel_rfl) (fun _ _ _ h => h) (Or.inl ⟨by rfl, ?_⟩) (by assumption) ?_
            rotate_left
            · (intro wS hSw; (try dsimp only at hSw); (go_simp) <;> (with_reducible rfl))
            (try simp only [Act.put, List.setIfInBounds_toArray, List.set_cons_zero, List.set_cons_succ])
            refine wpAnyH_done (by kernel_rfl) ?_ _
            refine NoPanic.normal ?_
            go_wp2
            go_ret2
            exact ⟨by rw [HE.out, HS.out, ← HZ.out]; rfl, hH.2.2.2.2⟩
          refine AllReadyH.cons (o := ⟨some 45, _, _, _, _, _⟩) rfl (fun K hK => ?_) AllReadyH.nil
          go_simp
          first | (refine (HH2.out _).mono ?_; rintro e w3 ⟨rfl, hcv, hB⟩) | (refine (HH.out _).mono ?_; rintro e w3 ⟨rfl, hB⟩) | (refine (HU.out _).mono ?_; rintro e w3 ⟨rfl, rfl⟩)
          go_wp2_with fail
          refine hK.out _ _ ?_ (fun hH => ?_)
          · first | exact (PackK.below hH.2.2 hB).held | exact (PackK.alloc hH.2.2 _).held | exact hH
          clear hK K
          (try simp only [Act.put, List.setIfInBounds_toArray, List.set_cons_zero, List.set_cons_succ])
          refine wpAnyH_ready (rs := [0]) (by kernel_rfl) (by simp) ?_
          refine AllReadyH.cons (o := ⟨some 39, _, _, _, _, _⟩) rfl (fun K hK => ?_) AllReadyH.nil
          go_simp
          refine hK.out _ _ ?_ (fun hH => ?_)
          · first | exact (PackK.below hH.2.2 hB).held | exact (PackK.alloc hH.2.2 _).held | exact hH
          clear hK K
          (try simp only [Act.put, List.setIfInBounds_toArray, List.set_cons_zero, List.set_cons_succ])
          refine wpAnyH_ready (rs := [1]) (by kernel_rfl) (by simp) ?_
          refine AllReadyH.cons (o := ⟨some 40, _, _, _, _, _⟩) rfl (fun K hK => ?_) AllReadyH.nil
          go_simp
          refine hK.out _ _ ?_ (fun hH => ?_)
          · first | exact (PackK.below hH.2.2 hB).held | exact (PackK.alloc hH.2.2 _).held | exact hH
          clear hK K
          (try simp only [Act.put, List.setIfInBounds_toArray, List.set_cons_zero, List.set_cons_succ])
          refine wpAnyH_take (i := 3) (oi := ⟨some 42, _, _, _, _, _⟩) (v := ?_) rfl (by kernel_rfl) (by kernel_rfl) (by kernel_rfl) (fun _ _ _ h => h) (Or.inl ⟨by rfl, ?_⟩) (by assumption) ?_
          rotate_left
          · (intro wS hSw; (try dsimp only at hSw); (go_simp) <;> (with_reducible rfl))
          (try simp only [Act.put, List.setIfInBounds_toArray, List.set_cons_zero, List.set_cons_succ])
          refine wpAnyH_take (i := 7) (oi := ⟨some 46, _, _, _, _, _⟩) (v := ?_) rfl (by kernel_rfl) (by kernel_rfl) (by kernel_rfl) (fun _ _ _ h => h) (Or.inl ⟨by rfl, ?_⟩) (by assumption) ?_
          rotate_left
          · (intro wS hSw; (try dsimp only at hSw); (go_simp) <;> (with_reducible rfl))
          (try simp only [Act.put, List.setIfInBounds_toArray, List.set_cons_zero, List.set_cons_succ])
          refine wpAnyH_take (i := 8) (oi := ⟨some 2, _, _, _, _, _⟩) (v := ?_) rfl (by kernel_rfl) (by kernel_rfl) (by kernel_rfl) (fun _ _ _ h => h) (Or.inl ⟨by rfl, ?_⟩) (by assumption) ?_
          rotate_left
          · (intro wS hSw; (try dsimp only at hSw); (go_simp) <;> (with_reducible rfl))
          (try simp only [Act.put, List.setIfInBounds_toArray, List.set_cons_zero, List.set_cons_succ])
          refine wpAnyH_take (i := 9) (oi := ⟨some 3, _, _, _, _, _⟩) (v := ?_) rfl (by kernel_rfl) (by kernel_rfl) (by kernel_rfl) (fun _ _ _ h => h) (Or.inl ⟨by rfl, ?_⟩) (by assumption) ?_
          rotate_left
          · (intro wS hSw; (try dsimp only at hSw); (go_simp) <;> (with_reducible rfl))
          (try simp only [Act.put, List.setIfInBounds_toArray, List.set_cons_zero, List.set_cons_succ])
          refine wpAnyH_done (by kernel_rfl) ?_ _
          refine NoPanic.normal ?_
          go_wp2
          go_ret2
          exact ⟨by rw [HE.out, HS.out, ← HZ.out]; rfl, hH.2.2.2.2⟩
end Go.Proofs.YtollhemkjnkalaaGreatDoor

/- Contract of the document's own words of layer 4: the frame with which a text begins. -/
namespace Go.Proofs.YtollhemkjnkalaaGreatDoor
open Go.RowKit
set_option linter.unusedVariables false
set_option maxRecDepth 100000

/-! ### how far a text was read -/
/-- up to place j all bytes may stand there, and m is how long the body is, so far -/
def Far (s : List UInt8) (j m : Nat) : Prop := j ≤ s.length ∧ goodF m 0 (s.take j) = true ∧ ((j < 6 ∧ m = 0) ∨ (6 ≤ j ∧ m = longOf s ∧ m ≤ 2000)) ∧ j ≤ 14 + m
theorem Far.start (s : List UInt8) : Far s 0 0 := ⟨Nat.zero_le _, by simp [goodF], .inl ⟨by decide, rfl⟩, by decide⟩
theorem Far.small {s : List UInt8} {j m : Nat} (h : Far s j m) : m ≤ 2000 := by
  rcases h.2.2.1 with ⟨_, h⟩ | ⟨_, _, h⟩ <;> omega
theorem Far.body {s : List UInt8} {j m : Nat} (h : Far s j m) (h6 : 6 ≤ j) : bodyE s = 0 ∧ m = longOf s := by
  obtain ⟨h1, h2, h3, h4⟩ := h
  rcases h3 with ⟨h3, _⟩ | ⟨_, h3, h5⟩
  · omega
  refine ⟨?_, h3⟩
  have hg : goodF 0 0 (s.take 6) = true := by
    rw [goodF_low 0 m _ 0 (by rw [List.length_take]; omega)]
    have := goodF_take 6 h2
    rwa [List.take_take, Nat.min_eq_left h6] at this
  have hG := (G_zero_iff 0 0 6 s).2 ⟨hg, by omega⟩
  unfold bodyE
  rw [if_neg (by simp [hG]), if_neg (by omega)]
theorem Far.rest {s : List UInt8} {j m : Nat} (h : Far s j m) (h6 : 6 ≤ j) : goodF m 6 ((s.drop 6).take (j - 6)) = true := by
  have := goodF_drop 6 (by rw [List.length_take]; have := h.1; omega) h.2.1
  rwa [Nat.zero_add, List.drop_take] at this
theorem Far.short {s : List UInt8} {j m : Nat} (h : Far s j m) (hj : j = s.length) (hm : j < 14 + m) : nextL s = .err 43 := by
  by_cases h6 : 6 ≤ j
  · obtain ⟨e1, e2⟩ := h.body h6
    have hr := h.rest h6
    rw [List.take_of_length_le (by rw [List.length_drop]; omega)] at hr
    have hG : G m 6 (m + 8) (s.drop 6) = 43 := G_cut hr (by rw [List.length_drop]; omega)
    rw [nextL_rest s e1 (by rw [← e2, hG]; decide), ← e2, hG]
  · rcases h.2.2.1 with ⟨_, h3⟩ | ⟨h3, _⟩
    · subst h3
      have hr := h.2.1
      rw [List.take_of_length_le (by omega)] at hr
      have hG : G 0 0 6 s = 43 := G_cut hr (by omega)
      have hb : bodyE s = 43 := by unfold bodyE; rw [hG]; rfl
      rw [nextL_head s (by omega), hb]
    · omega
theorem take_bad (s : List UInt8) (j : Nat) (h : j < s.length) : s = s.take j ++ s[j] :: s.drop (j + 1) := by
  rw [← List.drop_eq_getElem_cons h, List.take_append_drop]
theorem Far.bad {s : List UInt8} {j m : Nat} (h : Far s j m) (hj : j < s.length) (hm : j < 14 + m) (hx : okAt m j s[j] = false) : nextL s = .err 44 := by
  have hlen : (s.take j).length = j := by rw [List.length_take]; omega
  by_cases h6 : 6 ≤ j
  · obtain ⟨e1, e2⟩ := h.body h6
    have hr := h.rest h6
    have hd : s.drop 6 = (s.drop 6).take (j - 6) ++ s[j] :: s.drop (j + 1) := by
      have e := take_bad (s.drop 6) (j - 6) (by rw [List.length_drop]; omega)
      rw [List.getElem_drop, List.drop_drop] at e
      simp only [show 6 + (j - 6) = j by omega, show 6 + (j - 6 + 1) = j + 1 by omega] at e
      exact e
    have hl2 : ((s.drop 6).take (j - 6)).length = j - 6 := by rw [List.length_take, List.length_drop]; omega
    have hG : G m 6 (m + 8) (s.drop 6) = 44 := by
      rw [hd]
      exact G_bad hr (by rw [hl2]; omega) _ (by rw [hl2, show 6 + (j - 6) = j by omega]; exact hx) _
    rw [nextL_rest s e1 (by rw [← e2, hG]; decide), ← e2, hG]
  · rcases h.2.2.1 with ⟨_, h3⟩ | ⟨h3, _⟩
    · subst h3
      have hG : G 0 0 6 s = 44 := by
        have e := take_bad s j hj
        rw [e]
        exact G_bad h.2.1 (by rw [hlen]; omega) _ (by rw [hlen, Nat.zero_add]; exact hx) _
      have hb : bodyE s = 44 := by unfold bodyE; rw [hG]; rfl
      rw [nextL_head s (by omega), hb]
    · omega
theorem Far.good {s : List UInt8} {j m : Nat} (h : Far s j m) (hj : j < s.length) (hx : okAt m j s[j] = true) : goodF m 0 (s.take (j + 1)) = true := by
  have hlen : (s.take j).length = j := by rw [List.length_take]; omega
  rw [List.take_add_one, List.getElem?_eq_getElem hj, goodF_append, h.2.1, hlen]
  simp [goodF, hx]
theorem Far.next {s : List UInt8} {j m : Nat} (h : Far s j m) (hj : j < s.length) (hm : j < 14 + m) (h5 : j ≠ 5) (hx : okAt m j s[j] = true) : Far s (j + 1) m := by
  refine ⟨by omega, h.good hj hx, ?_, by omega⟩
  rcases h.2.2.1 with ⟨a, b⟩ | ⟨a, b, c⟩
  · exact .inl ⟨by omega, b⟩
  · exact .inr ⟨by omega, b, c⟩
theorem Far.head {s : List UInt8} {m : Nat} (h : Far s 5 m) (hj : 5 < s.length) (hx : okAt m 5 s[5] = true) : goodF 0 0 (s.take 6) = true := by
  have := h.good hj hx
  rcases h.2.2.1 with ⟨a, b⟩ | ⟨a, b, c⟩
  · subst b; exact this
  · omega
theorem Far.five {s : List UInt8} {m : Nat} (h : Far s 5 m) (hj : 5 < s.length) (hx : okAt m 5 s[5] = true) (hl : longOf s ≤ 2000) : Far s 6 (longOf s) := by
  refine ⟨by omega, ?_, .inr ⟨by omega, rfl, hl⟩, by omega⟩
  rw [goodF_low (longOf s) 0 _ 0 (by rw [List.length_take]; omega)]
  exact h.head hj hx
theorem Far.over {s : List UInt8} {m : Nat} (h : Far s 5 m) (hj : 5 < s.length) (hx : okAt m 5 s[5] = true) (hl : 2000 < longOf s) : nextL s = .err 44 := by
  have hG := (G_zero_iff 0 0 6 s).2 ⟨h.head hj hx, by omega⟩
  have hb : bodyE s = 44 := by unfold bodyE; rw [if_neg (by simp [hG]), if_pos hl]
  rw [nextL_head s (by omega), hb]
theorem Far.whole {s : List UInt8} {m : Nat} (h : Far s (14 + m) m) : bodyE s = 0 ∧ m = longOf s ∧ G (longOf s) 6 (longOf s + 8) (s.drop 6) = 0 ∧ 14 + m ≤ s.length := by
  obtain ⟨e1, e2⟩ := h.body (by omega)
  have hr := h.rest (by omega)
  have hl := h.1
  refine ⟨e1, e2, ?_, hl⟩
  rw [← e2]
  exact (G_zero_iff _ _ _ _).2 ⟨by rw [show m + 8 = 14 + m - 6 by omega]; exact hr, by rw [List.length_drop]; omega⟩
/-- what is summed of a frame that was read -/
theorem mid_of (s : List UInt8) (h1 : bodyE s = 0) (hl : 6 + longOf s ≤ s.length) : midT (s.getD 1 0) ((s.take (6 + longOf s)).drop 6) = (s.take (6 + longOf s)).drop 1 := by
  obtain ⟨_, hlong, h6⟩ := bodyE_zero h1
  have hG : G 0 0 6 s = 0 := by
    unfold bodyE at h1
    split at h1
    · omega
    · omega
  obtain ⟨hg1, _⟩ := (G_zero_iff _ _ _ _).1 hG
  have hbl : ((s.take (6 + longOf s)).drop 6).length = longOf s := by rw [List.length_drop, List.length_take]; omega
  obtain ⟨c0, c1, c2, c3, c4, c5, t, rfl⟩ := six_cons s h6
  have ht : (c0 :: c1 :: c2 :: c3 :: c4 :: c5 :: t).take 6 = [c0, c1, c2, c3, c4, c5] := by simp
  rw [ht] at hg1
  simp only [goodF, okAt, Bool.and_true, Bool.and_eq_true] at hg1
  simp at hg1
  obtain ⟨g0, g1, g2, g3, g4, g5⟩ := hg1
  have hd : ((c0 :: c1 :: c2 :: c3 :: c4 :: c5 :: t).drop 2).take 4 = [c2, c3, c4, c5] := by simp
  obtain ⟨m, hm⟩ := numF_dig [c2, c3, c4, c5] 0 0 (by simp [g2, g3, g4, g5]) (by decide) (by simp)
  have hu : unhexL [c2, c3, c4, c5] = some (m : Int) := by
    unfold unhexL
    rw [if_pos (by simp)]; exact hm
  have hlm : longOf (c0 :: c1 :: c2 :: c3 :: c4 :: c5 :: t) = m := by
    unfold longOf longI
    rw [hd, hu]; simp
  have hx := (hexOf_unhex _ _ hu).1
  rw [hlm] at hbl hlong hl ⊢
  have hhex : hexL m 4 = [c2, c3, c4, c5] := by
    rw [← hx]
    exact (hexOf_nat m 4 (by decide) (by decide) (by omega)).symm
  unfold midT
  rw [hbl, hhex, show 6 + m = m + 6 by omega]
  simp

/-! ### the result's block -/
theorem infoFrR : (Tryz.prog.info? 61).map (·.size) = some 2 := by kernel_rfl
theorem FrAt.loadR {W : World} {g : Nat} {x y : Value} {t : TypeId} (h : FrAt W g x y t) (a b : Value) :
    (loadVar 61 ⟨g, 0, none⟩).run Tryz.prog ((W.setCell ⟨g, 0, none⟩ a).setCell ⟨g, 1, none⟩ b) = .ok (.agg #[a, b]) ((W.setCell ⟨g, 0, none⟩ a).setCell ⟨g, 1, none⟩ b) :=
  run_loadVar_mid (P := Tryz.prog) (W.setCells g 0 [a, b]) g 0 61 [a, b] _ (World.rangeAt_setCells_same _ _ _ _ h.there) Tryz.underlying61 rfl infoFrR
theorem PackK.frozen {w W : World} {g : Nat} {x y : Value} {t : TypeId} (h : PackK w g x y t W) : W.frozen? ⟨g, 0, none⟩ = false ∧ W.frozen? ⟨g, 1, none⟩ = false := ⟨frozen_of_row _ _ 0 _ _ h.1, frozen_of_row _ _ 1 _ _ h.1⟩
theorem PackK.set {w W : World} {g : Nat} {x y : Value} {t : TypeId} (h : PackK w g x y t W) (hg : w.heap.size ≤ g) (a b : Value) : Below w.heap.size w ((W.setCell ⟨g, 0, none⟩ a).setCell ⟨g, 1, none⟩ b) :=
  (h.2.2.setCell (p := ⟨g, 0, none⟩) hg a).setCell (p := ⟨g, 1, none⟩) hg b
end Go.Proofs.YtollhemkjnkalaaGreatDoor

/- Contract of the document's own words of layer 4: the frame with which a text begins: the walk. -/
namespace Go.Proofs.YtollhemkjnkalaaGreatDoor
open Go.RowKit
set_option linter.unusedVariables false
set_option maxRecDepth 100000

theorem toL_at (s : ByteArray) (j : Nat) (h : j < s.size) : (toL s)[j]'(by rw [toL_length]; exact h) = s[j] := by
  unfold toL
  rw [Array.getElem_toList]; rfl

/-- what the function keeps beside its last calls: the result's block, the frame's, and all that was there -/
def TwoK (w : World) (g h : Nat) (x y : Value) (t : TypeId) (W : World) : Prop := PackK w g (.int .u8 0) (.string ⟨#[]⟩) t W ∧ FrAt W h x y t ∧ h < W.heap.size
theorem TwoK.below {w W W' : World} {g h : Nat} {x y : Value} {t : TypeId} (k : TwoK w g h x y t W) (hb : Below W.heap.size W W') : TwoK w g h x y t W' := ⟨k.1.below hb, k.2.1.below k.2.2 hb, Nat.lt_of_lt_of_le k.2.2 hb.size⟩
theorem TwoK.drew {w W : World} {g h : Nat} {x y : Value} {t : TypeId} (k : TwoK w g h x y t W) : TwoK w g h x y t W.drew := k.below ((Below.refl _ _).drew)
theorem TwoK.new {w W : World} {g : Nat} {t : TypeId} (h : PackK w g (.int .u8 0) (.string ⟨#[]⟩) t W) (x y : Value) : TwoK w g W.heap.size x y t (W.alloc (.cells #[x, y] t)).drew :=
  ⟨(h.alloc _).drew, heap_alloc_new W _, by show _ < (W.alloc _).heap.size; rw [size1]; omega⟩
theorem TwoK.cells {w W : World} {g h : Nat} {x y : Value} {t : TypeId} (k : TwoK w g h x y t W) : W.cell? ⟨h, 0, none⟩ = some x ∧ W.cell? ⟨h, 1, none⟩ = some y := ⟨cell_of_row _ _ 0 _ _ (0, 0) k.2.1, cell_of_row _ _ 1 _ _ (0, 0) k.2.1⟩
theorem TwoK.held {w W : World} {g h : Nat} {x y : Value} {t : TypeId} (k : TwoK w g h x y t W) : W.cell? ⟨h, 0, none⟩ = some x ∧ W.cell? ⟨h, 1, none⟩ = some y ∧ TwoK w g h x y t W := ⟨k.cells.1, k.cells.2, k⟩

set_option maxHeartbeats 2000000 in
theorem refNext_any (s : ByteArray) (hs : s.size ≤ 90000) (w : World) :
    Calls Tryz.prog 52 #[.string s] w fun e w' => e = .returned (nextL (toL s)).val ∧ Below w.heap.size w w' := by
  have HK := Lib.hid (PackK.new w (.int .u8 0) (.string ⟨#[]⟩) 61)
  have HM := Lib.hid (fun c i long h1 h2 => may_any c i long h1 h2)
  have HU := Lib.hid (fun W => refUnhex_any (s.extract 2 6) W (by rw [ByteArray.size_extract]; unfold maxLen; omega))
  have HL := Lib.hid (longI_slice s)
  unfold optV at HU
  change Hid (∀ W, Calls Tryz.prog 72 #[.string (s.extract 2 6)] W fun e w' => e = .returned (.tuple #[.int .i64 ((unhexL (toL (s.extract 2 6))).getD 0), .bool (unhexL (toL (s.extract 2 6))).isSome]) ∧ W = w') at HU
  rw [HL.out] at HU
  have HSL : Hid (6 ≤ s.size → ∀ W : World, (Instr.slice 9 (.string s) (some (.int .i64 2)) (some (.int .i64 6)) none).run Tryz.prog W = .ok (.string (s.extract 2 6)) W) := fun h => slice_int s 2 6 2 6 (by omega) (by omega) (by omega) (by omega)
  generalize (unhexL (toL (s.extract 2 6))).isSome = ub at *
  generalize s.extract 2 6 = S4 at *
  clear HL
  go_enter Tryz.func52, Tryz.ntmps52
  go_wp2
  generalize w.alloc (.cells #[.int .u8 0, .string ⟨#[]⟩] 61) = W at *
  go_loopw [5, 6] (fun v i wr => ∃ (j m : Nat), j ≤ s.size ∧ j ≤ 14 + m ∧ m ≤ 2000 ∧ v = .int .i64 m ∧ i = .int .i64 j ∧ Hid (Far (toL s) j m) ∧ W = wr) (fun _ i _ => 20000 - (intOf i).toNat)
  case atStart => exact ⟨0, 0, by omega, by omega, by omega, rfl, rfl, Far.start _, rfl⟩
  case round =>
    obtain ⟨j, m, hj, hjm, hm, rfl, rfl, HF, rfl⟩ := hrel
    obtain ⟨hc0, hc1⟩ := (⟨HK.out.cell0, HK.out.cell1⟩ : _ ∧ _)
    obtain ⟨hf0, hf1⟩ := HK.out.frozen
    by_cases hlt : j < 14 + m
    · by_cases hjs : j < s.size
      · have HM1 := Lib.hid (HM.out s[j] j m (by omega) (by omega))
        have HG := Lib.hid (HF.out.next (by rw [toL_length]; exact hjs) hlt)
        have HB := Lib.hid (HF.out.bad (by rw [toL_length]; exact hjs) hlt)
        rw [toL_at s j hjs] at HG HB
        have hbyte : 0 ≤ (s[j].toNat : Int) ∧ (s[j].toNat : Int) ≤ 255 := ⟨by omega, by have := s[j].toNat_lt; omega⟩
        by_cases hok : okAt m j s[j] = true
        · by_cases h5 : j = 5
          · subst h5
            have H5 := Lib.hid (HF.out.five (by rw [toL_length]; exact hjs) (by rw [toL_at s 5 hjs]; exact hok))
            have HO := Lib.hid (HF.out.over (by rw [toL_length]; exact hjs) (by rw [toL_at s 5 hjs]; exact hok))
            have hsl := HSL.out (by omega)
            rw [hok] at HM1
            clear HG HB hok HSL
            by_cases hov : 2000 < longOf (toL s)
            · have HE := Lib.hid (HO.out hov)
              generalize longOf (toL s) = n at *
              go_wp2_with fail
              refine (HM1.out _).mono ?_
              rintro e w2 ⟨rfl, rfl⟩
              go_wp2_with fail
              refine (HU.out _).mono ?_
              rintro e w3 ⟨rfl, rfl⟩
              go_wp2
              refine bodyPost_ret (v := (nextL (toL s)).val) ?_ rfl ⟨rfl, HK.out.set (Nat.le_refl _) _ _⟩
              rw [results_cell_two rfl]
              simp [asAddr, Result.andThen, HK.out.1.loadR, HE.out]
              rfl
            · have HF2 := Lib.hid (H5.out (by omega))
              generalize longOf (toL s) = n at *
              go_wp2_with fail
              refine (HM1.out _).mono ?_
              rintro e w2 ⟨rfl, rfl⟩
              go_wp2_with fail
              refine (HU.out _).mono ?_
              rintro e w3 ⟨rfl, rfl⟩
              go_wp2
              go_roundw
              case rel => exact ⟨6, n, by omega, by omega, by omega, rfl, rfl, HF2, by trivial⟩
              case measure => simp [intOf]
          · have HF2 := Lib.hid (HG.out h5 hok)
            rw [hok] at HM1
            have hne : ((j : Int) == 5) = false := beq_eq_false_iff_ne.2 (by omega)
            clear HG HB hok HF HSL HU
            go_wp2_with fail
            refine (HM1.out _).mono ?_
            rintro e w2 ⟨rfl, rfl⟩
            go_wp2
            go_roundw
            case rel => exact ⟨j + 1, m, by omega, by omega, by omega, rfl, by go_num, HF2, by trivial⟩
            case measure => simp [intOf]; omega
        · have hok' : okAt m j s[j] = false := by simpa using hok
          have HE := Lib.hid (HB.out hok')
          rw [hok'] at HM1
          clear HG HB hok hok' HF HSL HU
          go_wp2_with fail
          refine (HM1.out _).mono ?_
          rintro e w2 ⟨rfl, rfl⟩
          go_wp2
          refine bodyPost_ret (v := (nextL (toL s)).val) ?_ rfl ⟨rfl, HK.out.set (Nat.le_refl _) _ _⟩
          rw [results_cell_two rfl]
          simp [asAddr, Result.andThen, HK.out.1.loadR, HE.out]
          rfl
      · have HE := Lib.hid (HF.out.short (by rw [toL_length]; omega) hlt)
        clear HF HSL HU
        go_wp2
        refine bodyPost_ret (v := (nextL (toL s)).val) ?_ rfl ⟨rfl, HK.out.set (Nat.le_refl _) _ _⟩
        rw [results_cell_two rfl]
        simp [asAddr, Result.andThen, HK.out.1.loadR, HE.out]
        rfl
    · obtain rfl : j = 14 + m := by omega
      obtain ⟨h1, rfl, h2, hlen⟩ := HF.out.whole
      rw [toL_length] at hlen
      have HS := Lib.hid (nextL_sum (toL s) h1 h2)
      have HO := Lib.hid (nextL_ok (toL s) h1 h2)
      have HMID := Lib.hid (mid_of (toL s) h1 (by rw [toL_length]; omega))
      clear HF HSL HU h1 h2
      generalize hlg : longOf (toL s) = n at *
      clear hlg
      have hS2 := slice_int s (6 + n) (14 + n) (6 + n) (14 + n) (by omega) (by omega) (by omega) (by omega)
      have hS3 := slice_int s 6 (6 + n) 6 (6 + n) (by omega) (by omega) (by omega) (by omega)
      have HT2 := Lib.hid (toL_extract s (6 + n) (14 + n))
      have HT3 := Lib.hid (toL_extract s 6 (6 + n))
      have hi1 := index_at s 1 1 rfl (by omega)
      have hw1 : IntKind.i64.wrap (6 + (n : Int)) = 6 + n := IntWalk.i64_in _ (by omega)
      have hw2 : IntKind.i64.wrap (14 + (n : Int)) = 14 + n := IntWalk.i64_in _ (by omega)
      have hL3 : (s.extract 6 (6 + n)).size = n := by rw [ByteArray.size_extract]; omega
      rw [← HT3.out] at HO HMID
      rw [show 6 + n + 8 = 14 + n by omega, ← HT2.out] at HO HS
      have HTX := Lib.hid (fun W => refText_any ((toL s).getD 1 0) (s.extract 6 (6 + n)) (by omega) W)
      rw [HMID.out] at HTX
      generalize s.extract (6 + n) (14 + n) = T2 at *
      generalize s.extract 6 (6 + n) = T3 at *
      have hYl : (((toL s).take (6 + n)).drop 1).length = 5 + n := by rw [List.length_drop, List.length_take, toL_length]; omega
      generalize hY : ((toL s).take (6 + n)).drop 1 = Y at *
      have HU : Hid (∀ W, Calls Tryz.prog 48 #[.string (tx Y)] W fun e w' => e = .returned (.int .i64 (sumN Y : Int)) ∧ W = w') := fun W => by
        have h := refSum_any (tx Y) (by rw [tx_size]; omega) W
        rwa [toL_tx] at h
      have hlt2 := sumN_lt Y
      have HH : Hid (∀ W, Calls Tryz.prog 47 #[.int .i64 (sumN Y : Int), .int .i64 8] W fun e w' => e = .returned (.string (textN (sumN Y))) ∧ Below W.heap.size W w') := fun W =>
        refHex_any (sumN Y : Int) 8 (by omega) (by omega) W
      have HTS : Hid (textN (sumN Y) = tx (sumT Y)) := rfl
      generalize (toL s).getD 1 0 = c1 at *
      generalize textN (sumN Y) = X at *
      generalize sumN Y = N at *
      generalize sumT Y = Z at *
      have hbyte : 0 ≤ (c1.toNat : Int) ∧ (c1.toNat : Int) ≤ 255 := ⟨by omega, by have := c1.toNat_lt; omega⟩
      clear HT2 HT3 hY hYl HMID
      have HNK : Hid (∀ o : Obj, PackK w w.heap.size (.int .u8 0) (.string ⟨#[]⟩) 61 (W.alloc o)) := fun o => HK.out.alloc o
      by_cases h3 : Z = toL T2
      · have HV : Hid ((nextL (toL s)).val = .tuple #[.agg #[.int .u8 (c1.toNat : Int), .string T3], .int .i64 (14 + n), .int .i64 0]) := by
          unfold Hid
          rw [HO.out h3]
          simp only [NR.val, NR.kind, NR.body, NR.long, NR.code, frV, tx_toL, toL_length, hL3]
          have : ((14 + n : Nat) : Int) = 14 + n := by omega
          rw [this]; rfl
        have heq : (T2.toList == X.toList) = true := by rw [HTS.out, h3, tx_toL]; exact beq_self_eq_true _
        clear h3 HS HO HTS
        go_upto_region 14 with fail
        go_region
        have HT3 := Lib.hid (TwoK.new HK.out (.int .u8 (c1.toNat : Int)) (.string T3))
        clear hi1 HNK
        go_wp2_with fail
        go_region_held3 (fun w' => w'.cell? ⟨W.heap.size, 0, none⟩ = some (.int .u8 (c1.toNat : Int)) ∧ w'.cell? ⟨W.heap.size, 1, none⟩ = some (.string T3) ∧ TwoK w w.heap.size W.heap.size (.int .u8 (c1.toNat : Int)) (.string T3) 61 w')
          (first | exact (TwoK.drew HT3.out).held | exact (TwoK.below (And.right (And.right (by assumption))) (by assumption)).held | assumption)
          (first | (go_at_call 46; refine (HTX.out _).mono ?_; rintro e w3 ⟨rfl, hB3⟩) | (go_at_call 48; refine (HU.out _).mono ?_; rintro e w4 ⟨rfl, rfl⟩) | (go_at_call 47; refine (HH.out _).mono ?_; rintro e w5 ⟨rfl, hB5⟩))
        have HK5 : Hid (TwoK w w.heap.size W.heap.size (.int .u8 (c1.toNat : Int)) (.string T3) 61 w5) := And.right (And.right (by assumption))
        obtain ⟨hd0, hd1⟩ := HK5.out.cells
        obtain ⟨he0, he1⟩ := (⟨HK5.out.1.cell0, HK5.out.1.cell1⟩ : _ ∧ _)
        obtain ⟨hg0, hg1⟩ := HK5.out.1.frozen
        clear hB5
        go_wp2
        refine bodyPost_ret (v := (nextL (toL s)).val) ?_ rfl ⟨rfl, HK5.out.1.set (Nat.le_refl _) _ _⟩
        rw [results_cell_two rfl]
        simp [asAddr, Result.andThen, HK5.out.1.1.loadR, HV.out]
      · have HE := Lib.hid (HS.out h3)
        have heq : (T2.toList == X.toList) = false := by
          rw [HTS.out, ← tx_toL T2, eqT]; exact decide_eq_false (fun h => h3 h.symm)
        clear h3 HS HO HTS
        go_upto_region 14 with fail
        go_region
        have HT3 := Lib.hid (TwoK.new HK.out (.int .u8 (c1.toNat : Int)) (.string T3))
        clear hi1 HNK
        go_wp2_with fail
        go_region_held3 (fun w' => w'.cell? ⟨W.heap.size, 0, none⟩ = some (.int .u8 (c1.toNat : Int)) ∧ w'.cell? ⟨W.heap.size, 1, none⟩ = some (.string T3) ∧ TwoK w w.heap.size W.heap.size (.int .u8 (c1.toNat : Int)) (.string T3) 61 w')
          (first | exact (TwoK.drew HT3.out).held | exact (TwoK.below (And.right (And.right (by assumption))) (by assumption)).held | assumption)
          (first | (go_at_call 46; refine (HTX.out _).mono ?_; rintro e w3 ⟨rfl, hB3⟩) | (go_at_call 48; refine (HU.out _).mono ?_; rintro e w4 ⟨rfl, rfl⟩) | (go_at_call 47; refine (HH.out _).mono ?_; rintro e w5 ⟨rfl, hB5⟩))
        have HK5 : Hid (TwoK w w.heap.size W.heap.size (.int .u8 (c1.toNat : Int)) (.string T3) 61 w5) := And.right (And.right (by assumption))
        obtain ⟨hd0, hd1⟩ := HK5.out.cells
        obtain ⟨he0, he1⟩ := (⟨HK5.out.1.cell0, HK5.out.1.cell1⟩ : _ ∧ _)
        obtain ⟨hg0, hg1⟩ := HK5.out.1.frozen
        clear hB5
        go_wp2
        refine bodyPost_ret (v := (nextL (toL s)).val) ?_ rfl ⟨rfl, HK5.out.1.set (Nat.le_refl _) _ _⟩
        rw [results_cell_two rfl]
        simp [asAddr, Result.andThen, HK5.out.1.1.loadR, HE.out]
        rfl
end Go.Proofs.YtollhemkjnkalaaGreatDoor

/- Contracts of the document's own words of layer 4: all frames with which a text begins, and all that may be found in it. -/
namespace Go.Proofs.YtollhemkjnkalaaGreatDoor
open Go.RowKit
set_option linter.unusedVariables false
set_option maxRecDepth 100000

theorem infoFrameR : (Tryz.prog.info? 61).map (fun i => (i.zero, i.size, i.bytes)) = some (some (.agg #[.int .u8 0, .string ⟨#[]⟩]), 2, 24) := by kernel_rfl
set_option maxHeartbeats 2000000 in
theorem refScan_any (s : ByteArray) (hs : s.size ≤ 90000) (w : World) :
    Calls Tryz.prog 27 #[.string s] w fun e w' => ∃ (v : Value) (l : List Fr) (n : Nat), e = .returned (.tuple #[v, .int .i64 (n : Int)]) ∧ Scans (toL s) l n ∧ w'.ownsRow w.heap.size 61 2 v l.length (frC l) ∧ l.length ≤ s.size ∧ Below w.heap.size w w' := by
  obtain ⟨i0, hi, hz0, hz1, hz2⟩ := info_parts infoFrameR
  have HN := Lib.hid (fun t (ht : t.size ≤ 90000) W => refNext_any t ht W)
  go_enter Tryz.func27, Tryz.ntmps27
  go_wp2
  go_loopw [4, 5] (fun v i wr => ∃ (a : Nat) (l : List Fr), a ≤ s.size ∧ l.length * 14 ≤ a ∧ i = .int .i64 a ∧ Hid (Reads (toL s) l a) ∧ Hid (wr.ownsRow w.heap.size 61 2 v l.length (frC l)) ∧ Hid (Below w.heap.size w wr)) (fun _ i _ => s.size - (intOf i).toNat)
  case atStart => exact ⟨0, [], by omega, by simp, rfl, Reads.start _, ⟨rfl, .inl ⟨rfl, rfl⟩⟩, Below.refl _ _⟩
  case round =>
    obtain ⟨a, l, ha, hla, rfl, HR, HO, HB⟩ := hrel
    have HC := Lib.hid (fun W => HN.out (s.extract a s.size) (by rw [extract_size]; omega) W)
    rw [toL_from] at HC
    have hsl := slice_from s a ha
    generalize s.extract a s.size = T at *
    unfold NR.val frV at HC
    go_wp2_with fail
    refine (HC.out _).mono ?_
    rintro e w1 ⟨rfl, hB1⟩
    have HO1 := Lib.hid (own_below HO.out hB1)
    have HB1 : Hid (Below w.heap.size w w1) := HB.out.trans (hB1.mono HB.out.size)
    clear hB1 HB HO HC hsl
    rcases hx : nextL ((toL s).drop a) with E | ⟨k, b⟩
    · have hE : E ≠ 0 := by
        rcases nextL_cases ((toL s).drop a) with ⟨e, he, h2⟩ | ⟨_, _, _, h2⟩
        · rw [hx] at h2; injection h2 with h3; omega
        · rw [hx] at h2; cases h2
      have hne : ((E : Int) == 0) = false := beq_eq_false_iff_ne.2 (by omega)
      have HD := Lib.hid (HR.out.done hx)
      have HBA : Hid (Below w.heap.size w (w1.alloc (.cells #[.int .u8 0, .string ⟨#[]⟩] 61))) := HB1.out.alloc HB1.out.size _
      have HOA := Lib.hid (own_below HO1.out ((Below.refl w1.heap.size w1).alloc (Nat.le_refl _) (.cells #[.int .u8 0, .string ⟨#[]⟩] 61)))
      simp only [NR.kind, NR.body, NR.long, NR.code]
      clear hx HR
      go_wp2
      go_ret2
      exact ⟨_, l, a, rfl, HD.out, HOA.out, by omega, HBA.out⟩
    · have HX := Lib.hid hx
      simp only [NR.kind, NR.body, NR.long, NR.code]
      have HR2 := Lib.hid (HR.out.next hx)
      have hlen := (nextL_inv hx).2.2
      rw [List.length_drop, toL_length] at hlen
      clear hx HR
      have hkb : 0 ≤ (k.toNat : Int) ∧ (k.toNat : Int) ≤ 255 := ⟨by omega, by have := k.toNat_lt; omega⟩
      have HO2 := Lib.hid (own_below HO1.out (below_two w1 (.cells #[.int .u8 (k.toNat : Int), .string (tx b)] 61) (.cells #[.int .u8 (k.toNat : Int), .string (tx b)] 61)))
      have HB2 : Hid (Below w.heap.size w ((w1.alloc (.cells #[.int .u8 (k.toNat : Int), .string (tx b)] 61)).alloc (.cells #[.int .u8 (k.toNat : Int), .string (tx b)] 61))) := HB1.out.trans ((below_two _ _ _).mono HB1.out.size)
      have HS2 : Hid (w.heap.size ≤ ((w1.alloc (.cells #[.int .u8 (k.toNat : Int), .string (tx b)] 61)).alloc (.cells #[.int .u8 (k.toNat : Int), .string (tx b)] 61)).heap.size) := HB2.out.size
      go_wp2_with (at_builtin; refine wpList_append_own _ rfl (.tmp 21) (.tmp 23) 67 rfl w.heap.size 61 i0 _ 2 24 Tryz.underlying67 hi hz0 hz1 hz2 rfl (by decide) _ _ _ rfl HO2.out ⟨w1.heap.size + 1, 0, none⟩ 1 1 [.int .u8 (k.toNat : Int), .string (tx b)] rfl rfl (news_at _ _ _ _ (size1 _ _).symm) (one_cells _ _ rfl rfl) (by unfold maxLen; omega) (by omega) HS2.out ?_; intro v' w2 hown' hgrow hiff)
      have HB3 := Lib.hid (app_below HB2.out HS2.out HO2.out hgrow)
      have HO3 := Lib.hid hown'
      clear hown' hgrow hiff HB2 HS2 HO2
      go_wp2
      go_roundw
      case rel => exact ⟨a + (14 + b.length), l ++ [(k, b)], by omega, by rw [List.length_append]; simp; omega, by go_num, HR2, (by unfold Hid; rw [List.length_append, frC_snoc]; exact HO3.out), HB3⟩
      case measure => simp [intOf]; omega

end Go.Proofs.YtollhemkjnkalaaGreatDoor
