/- Texts of mine, one behind the other, of each what is wanted: Z3 Z6. -/
import Derived.Test.YtjhdhfokhkcamaaGreatShelf
import Derived.Shelf.SlicesG.Cmp
import Derived.Test.YtjhdhfokhkcamaaGreatP10
import Derived.Test.YtjhdhfokhkcamaaGreatTK
namespace Go.Proofs.YtjhdhfokhkcamaaGreat
open Go.RowKit Go.Sort Go.Proofs
set_option linter.unusedVariables false
set_option maxRecDepth 100000
set_option maxRecDepth 100000
theorem orL4 (a b c d : Int) : orL [a, b, c, d] = if a = 0 then (if b = 0 then (if c = 0 then (if d = 0 then 0 else d) else c) else b) else a := rfl
theorem orL_cmp (a b : StM) : orL [Lib.compareInt a.f b.f, Lib.compareInt a.t b.t, Lib.compareInt a.n b.n, Lib.compareInt a.s b.s] = cmpSt a b := by
  have key : ∀ x y : Int, (x < y ∧ Lib.compareInt x y = -1) ∨ (x = y ∧ Lib.compareInt x y = 0) ∨ (y < x ∧ Lib.compareInt x y = 1) := fun x y => by
    unfold Lib.compareInt
    rcases Int.lt_trichotomy x y with h | h | h
    · exact .inl ⟨h, by simp [h]⟩
    · exact .inr (.inl ⟨h, by simp [h]⟩)
    · exact .inr (.inr ⟨h, by simp [h]; omega⟩)
  have lo : (ltSt a b) → -1 = cmpSt a b := fun h => by unfold cmpSt; rw [if_pos h]
  have hi : (ltSt b a) → 1 = cmpSt a b := fun h => by unfold cmpSt; rw [if_neg (ltSt_asymm h), if_pos h]
  have eq : (¬ ltSt a b) → (¬ ltSt b a) → 0 = cmpSt a b := fun h k => by unfold cmpSt; rw [if_neg h, if_neg k]
  rw [orL4]
  rcases key a.f b.f with ⟨h, e⟩ | ⟨h, e⟩ | ⟨h, e⟩
  · rw [e, if_neg (by decide)]; exact lo (by unfold ltSt; omega)
  · rw [e, if_pos rfl]
    rcases key a.t b.t with ⟨k, e⟩ | ⟨k, e⟩ | ⟨k, e⟩
    · rw [e, if_neg (by decide)]; exact lo (by unfold ltSt; omega)
    · rw [e, if_pos rfl]
      rcases key a.n b.n with ⟨i, e⟩ | ⟨i, e⟩ | ⟨i, e⟩
      · rw [e, if_neg (by decide)]; exact lo (by unfold ltSt; omega)
      · rw [e, if_pos rfl]
        rcases key a.s b.s with ⟨j, e⟩ | ⟨j, e⟩ | ⟨j, e⟩
        · rw [e, if_neg (by decide)]; exact lo (by unfold ltSt; omega)
        · rw [e, if_pos rfl]; exact eq (by unfold ltSt; omega) (by unfold ltSt; omega)
        · rw [e, if_neg (by decide)]; exact hi (by unfold ltSt; omega)
      · rw [e, if_neg (by decide)]; exact hi (by unfold ltSt; omega)
    · rw [e, if_neg (by decide)]; exact hi (by unfold ltSt; omega)
  · rw [e, if_neg (by decide)]; exact hi (by unfold ltSt; omega)
def CmK (w : World) (p q : Nat) (a b : StM) (W : World) : Prop :=
  W.cell? ⟨p, 0, none⟩ = some (.int .i64 a.f) ∧ W.cell? ⟨p, 1, none⟩ = some (.int .i64 a.t) ∧ W.cell? ⟨p, 2, none⟩ = some (.int .i64 a.n) ∧ W.cell? ⟨p, 3, none⟩ = some (.int .i64 a.s) ∧
  W.cell? ⟨q, 0, none⟩ = some (.int .i64 b.f) ∧ W.cell? ⟨q, 1, none⟩ = some (.int .i64 b.t) ∧ W.cell? ⟨q, 2, none⟩ = some (.int .i64 b.n) ∧ W.cell? ⟨q, 3, none⟩ = some (.int .i64 b.s) ∧ (p < W.heap.size ∧ q < W.heap.size ∧ Grew w W)
theorem CmK.grew {w W W' : World} {p q : Nat} {a b : StM} (h : CmK w p q a b W) (g : Grew W W') : CmK w p q a b W' := by
  obtain ⟨h1, h2, h3, h4, h5, h6, h7, h8, hp, hq, hg⟩ := h
  have hb := g.below (Nat.le_refl _)
  exact ⟨(hb.cell (p := ⟨p, 0, none⟩) hp).trans h1, (hb.cell (p := ⟨p, 1, none⟩) hp).trans h2, (hb.cell (p := ⟨p, 2, none⟩) hp).trans h3, (hb.cell (p := ⟨p, 3, none⟩) hp).trans h4,
    (hb.cell (p := ⟨q, 0, none⟩) hq).trans h5, (hb.cell (p := ⟨q, 1, none⟩) hq).trans h6, (hb.cell (p := ⟨q, 2, none⟩) hq).trans h7, (hb.cell (p := ⟨q, 3, none⟩) hq).trans h8,
    Nat.lt_of_lt_of_le hp hb.size, Nat.lt_of_lt_of_le hq hb.size, hg.trans g⟩
theorem CmK.drew {w W : World} {p q : Nat} {a b : StM} (h : CmK w p q a b W) : CmK w p q a b W.drew := h.grew (Grew.refl _).drew
theorem CmK.alloc {w W : World} {p q : Nat} {a b : StM} (h : CmK w p q a b W) (o : Obj) : CmK w p q a b (W.alloc o) := h.grew ((Grew.refl _).alloc o)
theorem sl_lit_drew (w : World) (xs : Array Value) (t : TypeId) : Sl (w.alloc (.cells xs t)).drew (some ⟨w.heap.size, 0, none⟩) xs.toList := sl_lit w xs t
theorem or_lit (a b c d : Int) (t : TypeId) (W : World) : Calls Tryz.prog 186 #[.slice (some ⟨W.heap.size, 0, none⟩) 4 4] (W.alloc (.cells #[.int .i64 a, .int .i64 b, .int .i64 c, .int .i64 d] t)) fun e w' => e = .returned (.int .i64 (orL [a, b, c, d])) ∧ w' = W.alloc (.cells #[.int .i64 a, .int .i64 b, .int .i64 c, .int .i64 d] t) :=
  or_any (some ⟨W.heap.size, 0, none⟩) 4 [a, b, c, d] _ (sl_lit W #[.int .i64 a, .int .i64 b, .int .i64 c, .int .i64 d] t) (by simp)
theorem or_litd (a b c d : Int) (t : TypeId) (W : World) : Calls Tryz.prog 186 #[.slice (some ⟨W.heap.size, 0, none⟩) 4 4] (W.alloc (.cells #[.int .i64 a, .int .i64 b, .int .i64 c, .int .i64 d] t)).drew fun e w' => e = .returned (.int .i64 (orL [a, b, c, d])) ∧ w' = (W.alloc (.cells #[.int .i64 a, .int .i64 b, .int .i64 c, .int .i64 d] t)).drew :=
  or_any (some ⟨W.heap.size, 0, none⟩) 4 [a, b, c, d] _ (sl_lit_drew W #[.int .i64 a, .int .i64 b, .int .i64 c, .int .i64 d] t) (by simp)
set_option maxHeartbeats 4000000 in
theorem stcmp_any (a b : StM) (w : World) : Calls Tryz.prog 150 #[stV a, stV b] w fun e w' => e = .returned (.int .i64 (cmpSt a b)) ∧ Grew w w' := by
  have hcon := Lib.hid (fun x y W' => AnyG.cmp_Compare_int Tryz.laysCompare x y W')
  change Hid (∀ x y W', Calls Tryz.prog 187 _ _ _) at hcon
  have HE := Lib.hid (orL_cmp a b)
  have hor := Lib.hid or_lit
  have hord := Lib.hid or_litd
  have h0 : CmK w w.heap.size (w.heap.size + 1) a b ((w.alloc (.cells #[.int .i64 a.f, .int .i64 a.t, .int .i64 a.n, .int .i64 a.s] 86)).alloc (.cells #[.int .i64 b.f, .int .i64 b.t, .int .i64 b.n, .int .i64 b.s] 86)) := by
    have hb := heap_alloc_new (w.alloc (.cells #[.int .i64 a.f, .int .i64 a.t, .int .i64 a.n, .int .i64 a.s] 86)) (.cells #[.int .i64 b.f, .int .i64 b.t, .int .i64 b.n, .int .i64 b.s] 86)
    have ha := (Below.heap_alloc (w.alloc (.cells #[.int .i64 a.f, .int .i64 a.t, .int .i64 a.n, .int .i64 a.s] 86)) (.cells #[.int .i64 b.f, .int .i64 b.t, .int .i64 b.n, .int .i64 b.s] 86) w.heap.size (by rw [size1]; omega)).trans (heap_alloc_new w (.cells #[.int .i64 a.f, .int .i64 a.t, .int .i64 a.n, .int .i64 a.s] 86))
    rw [size1] at hb
    obtain ⟨a1, a2, a3, a4⟩ := cells4 ha
    obtain ⟨b1, b2, b3, b4⟩ := cells4 hb
    exact ⟨a1, a2, a3, a4, b1, b2, b3, b4, by rw [size1, size1]; omega, by rw [size1, size1]; omega, ((Grew.refl w).alloc _).alloc _⟩
  generalize Lib.compareInt = cI at hcon HE
  generalize cmpSt a b = r at *
  unfold stV
  obtain ⟨f1, t1, n1, s1⟩ := a
  obtain ⟨f2, t2, n2, s2⟩ := b
  dsimp only at *
  have h0' := Lib.hid h0
  clear h0
  go_enter Tryz.func150, Tryz.ntmps150
  go_wp2_with fail
  have h0 := h0'.out
  clear h0'
  generalize (w.alloc (.cells #[.int .i64 f1, .int .i64 t1, .int .i64 n1, .int .i64 s1] 86)).alloc (.cells #[.int .i64 f2, .int .i64 t2, .int .i64 n2, .int .i64 s2] 86) = W at *
  generalize hqq : w.heap.size + 1 = q at *
  generalize hpp : w.heap.size = p at *
  clear hqq hpp
  go_region_held3 (fun W => W.cell? ⟨p, 0, none⟩ = some (.int .i64 f1) ∧ W.cell? ⟨p, 1, none⟩ = some (.int .i64 t1) ∧ W.cell? ⟨p, 2, none⟩ = some (.int .i64 n1) ∧ W.cell? ⟨p, 3, none⟩ = some (.int .i64 s1) ∧
      W.cell? ⟨q, 0, none⟩ = some (.int .i64 f2) ∧ W.cell? ⟨q, 1, none⟩ = some (.int .i64 t2) ∧ W.cell? ⟨q, 2, none⟩ = some (.int .i64 n2) ∧ W.cell? ⟨q, 3, none⟩ = some (.int .i64 s2) ∧ (p < W.heap.size ∧ q < W.heap.size ∧ Grew w W))
    (first | exact CmK.drew h0 | exact CmK.alloc (a := ⟨f1, t1, n1, s1⟩) (b := ⟨f2, t2, n2, s2⟩) (by assumption) _ | assumption)
    (first | (go_at_call 187; refine (hcon.out _ _ _).mono ?_; rintro e w2 ⟨rfl, rfl⟩)
           | (go_at_call 186; (first | refine (hor.out _ _ _ _ _ _).mono ?_ | refine (hord.out _ _ _ _ _ _).mono ?_); rintro e w2 ⟨rfl, rfl⟩))
  go_wp2
  go_ret
  exact ⟨by rw [HE.out]; rfl, (show CmK w p q ⟨f1, t1, n1, s1⟩ ⟨f2, t2, n2, s2⟩ _ by assumption).2.2.2.2.2.2.2.2.2.2⟩
end Go.Proofs.YtjhdhfokhkcamaaGreat
namespace Go.Proofs.YtjhdhfokhkcamaaGreat
open Go.RowKit Go.Sort Go.Proofs
set_option linter.unusedVariables false
set_option maxRecDepth 100000
set_option maxRecDepth 100000
theorem cmpSt_le (a b : StM) : cmpSt a b ≤ 0 ↔ ¬ ltSt b a := by
  unfold cmpSt
  by_cases h : ltSt a b
  · rw [if_pos h]; exact ⟨fun _ => ltSt_asymm h, fun _ => by omega⟩
  · rw [if_neg h]
    by_cases k : ltSt b a
    · rw [if_pos k]; exact ⟨fun h => by omega, fun h => absurd k h⟩
    · rw [if_neg k]; exact ⟨fun _ => k, fun _ => by omega⟩
theorem cmpSt_gt (a b : StM) : 0 < cmpSt a b ↔ ltSt b a := by
  have := cmpSt_le a b
  constructor
  · intro h
    by_cases k : ltSt b a
    · exact k
    · have := this.2 k; omega
  · intro h
    by_cases k : cmpSt a b ≤ 0
    · exact absurd h (this.1 k)
    · omega
structure RsK (w : World) (g : Nat) (x : StM) (a : Option Addr) (l : List StM) (W : World) : Prop where
  box : W.heap[g]? = some (.cells #[.int .i64 x.f, .int .i64 x.t, .int .i64 x.n, .int .i64 x.s] 86 (0, 0))
  row : StSl W a l
  frame : Below w.heap.size w W
theorem RsK.below {w W W' : World} {g : Nat} {x : StM} {a : Option Addr} {l : List StM} (h : RsK w g x a l W) (q : Below W.heap.size W W') : RsK w g x a l W' :=
  ⟨(q.block _ (heap_lt h.box)).trans h.box, h.row.below q, h.frame.trans (q.mono h.frame.size)⟩
theorem RsK.four {w W : World} {g : Nat} {x : StM} {a : Option Addr} {l : List StM} (h : RsK w g x a l W) :
    W.cell? ⟨g, 0, none⟩ = some (.int .i64 x.f) ∧ W.cell? ⟨g, 1, none⟩ = some (.int .i64 x.t) ∧ W.cell? ⟨g, 2, none⟩ = some (.int .i64 x.n) ∧ W.cell? ⟨g, 3, none⟩ = some (.int .i64 x.s) := cells4 h.box
theorem RsK.at_ {w W : World} {g : Nat} {x : StM} {b off : Nat} {l : List StM} (h : RsK w g x (some ⟨b, off, none⟩) l W) {k : Nat} (hk : k < l.length) :
    W.cell? ⟨b, off + k * 4, none⟩ = some (.int .i64 l[k].f) ∧ W.cell? ⟨b, off + k * 4 + 1, none⟩ = some (.int .i64 l[k].t) ∧ W.cell? ⟨b, off + k * 4 + 2, none⟩ = some (.int .i64 l[k].n) ∧ W.cell? ⟨b, off + k * 4 + 3, none⟩ = some (.int .i64 l[k].s) := by
  obtain ⟨_, _, e, _, h0, h1, h2, h3⟩ := h.row.at_ hk
  cases e
  exact ⟨h0, h1, h2, h3⟩
theorem RsK.new {w W : World} {x : StM} {a : Option Addr} {l : List StM} (h : StSl W a l) (hb : Below w.heap.size w W) : RsK w W.heap.size x a l (W.alloc (.cells #[.int .i64 x.f, .int .i64 x.t, .int .i64 x.n, .int .i64 x.s] 86)) :=
  ⟨heap_alloc_new W _, h.below (below_one _ _), hb.alloc hb.size _⟩
def RiseTo (l : List StM) (j : Nat) : Prop := ∀ k (h : k < l.length), k < j → l[k].f < l[k].t ∧ (0 < k → ltSt (l[k - 1]'(by omega)) l[k])
theorem RiseTo.all {l : List StM} (h : RiseTo l l.length) : RiseS l := fun k hk => h k hk hk
theorem RiseTo.next {l : List StM} {j : Nat} (h : RiseTo l j) (hj : j < l.length) (h1 : l[j].f < l[j].t) (h2 : 0 < j → ltSt (l[j - 1]'(by omega)) l[j]) : RiseTo l (j + 1) := fun k hk hkj => by
  rcases Nat.lt_or_ge k j with h3 | h3
  · exact h k hk h3
  · obtain rfl : k = j := by omega
    exact ⟨h1, h2⟩
set_option maxHeartbeats 4000000 in
theorem rising8_any (a : Option Addr) (c : Nat) (l : List StM) (w : World) (hr : StSl w a l) (hl : l.length ≤ 1000000) :
    Calls Tryz.prog 131 #[.slice a l.length c] w fun e w' => e = .returned (.bool (decide (RiseS l))) ∧ Below w.heap.size w w' := by
  have HR := Lib.hid hr
  have HNO := Lib.hid none_any
  have HCM := Lib.hid (fun x y W => (stcmp_any x y W).mono fun e w' (h : _ ∧ Grew W w') => And.intro h.1 (h.2.below (Nat.le_refl _)))
  unfold stV at HCM
  clear hr
  go_enter Tryz.func131, Tryz.ntmps131
  go_wp2
  go_loopw [7] (fun i wr => ∃ (j : Nat), j ≤ l.length ∧ i = .int .i64 j ∧ Hid (RiseTo l j) ∧ Hid (Below w.heap.size w wr)) (fun i _ => l.length - (intOf i).toNat)
  case atStart => exact ⟨0, by omega, rfl, fun k _ h => absurd h (by omega), Below.refl _ _⟩
  case round =>
    obtain ⟨j, hj, rfl, HO, HB⟩ := hrel
    by_cases hjl : j < l.length
    · obtain ⟨b, off, rfl, hbl, hc0, hc1, hc2, hc3⟩ := (HR.out.below HB.out).at_ hjl
      have HK := Lib.hid (RsK.new (x := l[j]) (HR.out.below HB.out) HB.out)
      have HNX := Lib.hid (HO.out.next hjl)
      have HNF : Hid (¬ l[j].f < l[j].t → decide (RiseS l) = false) := fun h => decide_eq_false fun k => h (k j hjl).1
      have HNP : Hid (∀ (h0 : 0 < j), ¬ ltSt (l[j - 1]'(by omega)) l[j] → decide (RiseS l) = false) := fun h0 h => decide_eq_false fun k => h ((k j hjl).2 h0)
      by_cases h1 : l[j].t ≤ l[j].f
      · have HF := Lib.hid (HNF.out (by omega))
        have HN1 : Hid (∀ W, Calls Tryz.prog 135 #[.agg #[.int .i64 l[j].f, .int .i64 l[j].t]] W fun e w' => e = .returned (.bool true) ∧ Below W.heap.size W w') := fun W => by
          have := HNO.out l[j].f l[j].t W
          rwa [decide_eq_true h1] at this
        clear HNX HNF HNP HNO HCM
        generalize l[j] = x at *
        go_wp2_with fail
        generalize wr.alloc (.cells #[.int .i64 x.f, .int .i64 x.t, .int .i64 x.n, .int .i64 x.s] 86) = W at *
        generalize wr.heap.size = g at *
        refine wp_region_held_drew (S := (fun W => W.cell? ⟨g, 0, none⟩ = some (.int .i64 x.f) ∧ W.cell? ⟨g, 1, none⟩ = some (.int .i64 x.t) ∧ W.cell? ⟨g, 2, none⟩ = some (.int .i64 x.n) ∧ W.cell? ⟨g, 3, none⟩ = some (.int .i64 x.s))) (by kernel_rfl) ?_ (fun hHeld => ?_)
        · exact (HK.out.below (Below.refl _ _).drew).four
        refine tT 0 ⟨some 12, _, _, _, _, _⟩ rfl (h := ?_)
        refine tT 1 ⟨some 13, _, _, _, _, _⟩ rfl (h := ?_)
        refine wpAnyH_ready (rs := [2]) (by kernel_rfl) (by simp) ?_
        refine AllReadyH.cons (o := ⟨some 14, _, _, _, _, _⟩) rfl (fun K hK => ?_) AllReadyH.nil
        go_simp
        refine (HN1.out _).mono ?_
        rintro e w2 ⟨rfl, h2⟩
        have K2 := (HK.out.below (Below.refl _ _).drew).below h2
        go_wp2_with fail
        refine hK.out _ _ ?_ (fun hH2 => ?_)
        · exact K2.four
        clear hK K
        (try simp only [Act.put, List.setIfInBounds_toArray, List.set_cons_zero, List.set_cons_succ])
        refine tT 3 ⟨some 15, _, _, _, _, _⟩ rfl (h := ?_)
        refine tS 4 ⟨some 16, _, _, _, _, _⟩ rfl (h := ?_)
        refine tS 5 ⟨some 17, _, _, _, _, _⟩ rfl (h := ?_)
        refine tS 6 ⟨some 18, _, _, _, _, _⟩ rfl (h := ?_)
        refine tS 7 ⟨some 19, _, _, _, _, _⟩ rfl (h := ?_)
        refine tS 8 ⟨some 20, _, _, _, _, _⟩ rfl (h := ?_)
        refine tS 9 ⟨some 21, _, _, _, _, _⟩ rfl (h := ?_)
        refine tS 10 ⟨some 22, _, _, _, _, _⟩ rfl (h := ?_)
        refine tS 11 ⟨some 23, _, _, _, _, _⟩ rfl (h := ?_)
        refine tS 12 ⟨some 24, _, _, _, _, _⟩ rfl (h := ?_)
        refine tS 13 ⟨some 25, _, _, _, _, _⟩ rfl (h := ?_)
        refine tS 14 ⟨some 26, _, _, _, _, _⟩ rfl (h := ?_)
        refine tS 15 ⟨some 27, _, _, _, _, _⟩ rfl (h := ?_)
        refine tT 16 ⟨some 28, _, _, _, _, _⟩ rfl (h := ?_)
        refine wpAnyH_done (by kernel_rfl) ?_ _
        all_goals
          go_wp2
          go_ret
          exact ⟨by rw [HF.out]; rfl, K2.frame⟩
      · have HN1 : Hid (∀ W, Calls Tryz.prog 135 #[.agg #[.int .i64 l[j].f, .int .i64 l[j].t]] W fun e w' => e = .returned (.bool false) ∧ Below W.heap.size W w') := fun W => by
          have := HNO.out l[j].f l[j].t W
          rwa [decide_eq_false h1] at this
        have HNX := Lib.hid (HNX.out (by omega))
        by_cases h0 : 0 < j
        · obtain ⟨k, hk⟩ : ∃ k, j = k + 1 := ⟨j - 1, by omega⟩
          have hkl : k < l.length := by omega
          have hpw : IntKind.i64.wrap ((j : Int) - 1) = (k : Int) := by rw [IntWalk.i64_in] <;> omega
          have hgt : decide ((0 : Int) < (j : Int)) = true := decide_eq_true (by omega)
          have HCX := Lib.hid (HCM.out l[j] l[k])
          have HP0 : Hid (∀ W, RsK w wr.heap.size l[j] (some ⟨b, off, none⟩) l W → W.cell? ⟨b, off + k * 4, none⟩ = some (.int .i64 l[k].f) ∧ W.cell? ⟨b, off + k * 4 + 1, none⟩ = some (.int .i64 l[k].t) ∧ W.cell? ⟨b, off + k * 4 + 2, none⟩ = some (.int .i64 l[k].n) ∧ W.cell? ⟨b, off + k * 4 + 3, none⟩ = some (.int .i64 l[k].s)) := fun W h => h.at_ hkl
          have hkp : ∀ h, l[j - 1]'h = l[k] := fun h => by congr 1; omega
          have HNX3 : Hid (ltSt l[k] l[j] → RiseTo l (j + 1)) := fun h => HNX.out (fun _ => by rw [hkp]; exact h)
          have HNP3 : Hid (¬ ltSt l[k] l[j] → decide (RiseS l) = false) := fun h => HNP.out h0 (by rw [hkp]; exact h)
          have hcl := cmpSt_le l[j] l[k]
          clear HNF HNP HNO HCM HNX hkp hk
          generalize l[k] = y at *
          generalize l[j] = x at *
          generalize cmpSt x y = r at *
          by_cases h3 : ltSt y x
          · have HNX4 := Lib.hid (HNX3.out h3)
            have hd : decide (r ≤ 0) = false := decide_eq_false (fun h => hcl.1 h h3)
            clear HNX3 HNP3 hcl h3
            go_wp2_with fail
            generalize wr.alloc (.cells #[.int .i64 x.f, .int .i64 x.t, .int .i64 x.n, .int .i64 x.s] 86) = W at *
            generalize wr.heap.size = g at *
            refine wp_region_held_drew (S := (fun W => W.cell? ⟨g, 0, none⟩ = some (.int .i64 x.f) ∧ W.cell? ⟨g, 1, none⟩ = some (.int .i64 x.t) ∧ W.cell? ⟨g, 2, none⟩ = some (.int .i64 x.n) ∧ W.cell? ⟨g, 3, none⟩ = some (.int .i64 x.s) ∧ W.cell? ⟨b, off + k * 4, none⟩ = some (.int .i64 y.f) ∧ W.cell? ⟨b, off + k * 4 + 1, none⟩ = some (.int .i64 y.t) ∧ W.cell? ⟨b, off + k * 4 + 2, none⟩ = some (.int .i64 y.n) ∧ W.cell? ⟨b, off + k * 4 + 3, none⟩ = some (.int .i64 y.s))) (by kernel_rfl) ?_ (fun hHeld => ?_)
            · have K1 := HK.out.below (Below.refl _ _).drew; obtain ⟨k1, k2, k3, k4⟩ := K1.four; exact ⟨k1, k2, k3, k4, HP0.out _ K1⟩
            refine tT 0 ⟨some 12, _, _, _, _, _⟩ rfl (h := ?_)
            refine tT 1 ⟨some 13, _, _, _, _, _⟩ rfl (h := ?_)
            refine wpAnyH_ready (rs := [2]) (by kernel_rfl) (by simp) ?_
            refine AllReadyH.cons (o := ⟨some 14, _, _, _, _, _⟩) rfl (fun K hK => ?_) AllReadyH.nil
            go_simp
            refine (HN1.out _).mono ?_
            rintro e w2 ⟨rfl, h2⟩
            have K2 := (HK.out.below (Below.refl _ _).drew).below h2
            go_wp2_with fail
            refine hK.out _ _ ?_ (fun hH2 => ?_)
            · obtain ⟨k1, k2, k3, k4⟩ := K2.four; exact ⟨k1, k2, k3, k4, HP0.out _ K2⟩
            clear hK K
            (try simp only [Act.put, List.setIfInBounds_toArray, List.set_cons_zero, List.set_cons_succ])
            refine tT 3 ⟨some 15, _, _, _, _, _⟩ rfl (h := ?_)
            refine tT 4 ⟨some 16, _, _, _, _, _⟩ rfl (h := ?_)
            refine tT 5 ⟨some 17, _, _, _, _, _⟩ rfl (h := ?_)
            refine tT 6 ⟨some 18, _, _, _, _, _⟩ rfl (h := ?_)
            refine tT 7 ⟨some 19, _, _, _, _, _⟩ rfl (h := ?_)
            refine tT 8 ⟨some 20, _, _, _, _, _⟩ rfl (h := ?_)
            refine tT 9 ⟨some 21, _, _, _, _, _⟩ rfl (h := ?_)
            refine tT 10 ⟨some 22, _, _, _, _, _⟩ rfl (h := ?_)
            refine tT 11 ⟨some 23, _, _, _, _, _⟩ rfl (h := ?_)
            refine tT 12 ⟨some 24, _, _, _, _, _⟩ rfl (h := ?_)
            refine wpAnyH_ready (rs := [13]) (by kernel_rfl) (by simp) ?_
            refine AllReadyH.cons (o := ⟨some 25, _, _, _, _, _⟩) rfl (fun K hK => ?_) AllReadyH.nil
            go_simp
            refine (HCX.out _).mono ?_
            rintro e w3 ⟨rfl, h3⟩
            have K3 := K2.below h3
            go_wp2_with fail
            refine hK.out _ _ ?_ (fun hH13 => ?_)
            · obtain ⟨k1, k2, k3, k4⟩ := K3.four; exact ⟨k1, k2, k3, k4, HP0.out _ K3⟩
            clear hK K
            (try simp only [Act.put, List.setIfInBounds_toArray, List.set_cons_zero, List.set_cons_succ])
            refine tT 14 ⟨some 26, _, _, _, _, _⟩ rfl (h := ?_)
            refine tT 15 ⟨some 27, _, _, _, _, _⟩ rfl (h := ?_)
            refine tT 16 ⟨some 28, _, _, _, _, _⟩ rfl (h := ?_)
            refine wpAnyH_done (by kernel_rfl) ?_ _
            all_goals
              go_wp2
              go_roundw
              case rel => exact ⟨j + 1, by omega, by go_num, HNX4, K3.frame⟩
              case measure => simp [intOf]; omega
          · have HNF4 := Lib.hid (HNP3.out h3)
            have hd : decide (r ≤ 0) = true := decide_eq_true (hcl.2 h3)
            clear HNX3 HNP3 hcl h3
            go_wp2_with fail
            generalize wr.alloc (.cells #[.int .i64 x.f, .int .i64 x.t, .int .i64 x.n, .int .i64 x.s] 86) = W at *
            generalize wr.heap.size = g at *
            refine wp_region_held_drew (S := (fun W => W.cell? ⟨g, 0, none⟩ = some (.int .i64 x.f) ∧ W.cell? ⟨g, 1, none⟩ = some (.int .i64 x.t) ∧ W.cell? ⟨g, 2, none⟩ = some (.int .i64 x.n) ∧ W.cell? ⟨g, 3, none⟩ = some (.int .i64 x.s) ∧ W.cell? ⟨b, off + k * 4, none⟩ = some (.int .i64 y.f) ∧ W.cell? ⟨b, off + k * 4 + 1, none⟩ = some (.int .i64 y.t) ∧ W.cell? ⟨b, off + k * 4 + 2, none⟩ = some (.int .i64 y.n) ∧ W.cell? ⟨b, off + k * 4 + 3, none⟩ = some (.int .i64 y.s))) (by kernel_rfl) ?_ (fun hHeld => ?_)
            · have K1 := HK.out.below (Below.refl _ _).drew; obtain ⟨k1, k2, k3, k4⟩ := K1.four; exact ⟨k1, k2, k3, k4, HP0.out _ K1⟩
            refine tT 0 ⟨some 12, _, _, _, _, _⟩ rfl (h := ?_)
            refine tT 1 ⟨some 13, _, _, _, _, _⟩ rfl (h := ?_)
            refine wpAnyH_ready (rs := [2]) (by kernel_rfl) (by simp) ?_
            refine AllReadyH.cons (o := ⟨some 14, _, _, _, _, _⟩) rfl (fun K hK => ?_) AllReadyH.nil
            go_simp
            refine (HN1.out _).mono ?_
            rintro e w2 ⟨rfl, h2⟩
            have K2 := (HK.out.below (Below.refl _ _).drew).below h2
            go_wp2_with fail
            refine hK.out _ _ ?_ (fun hH2 => ?_)
            · obtain ⟨k1, k2, k3, k4⟩ := K2.four; exact ⟨k1, k2, k3, k4, HP0.out _ K2⟩
            clear hK K
            (try simp only [Act.put, List.setIfInBounds_toArray, List.set_cons_zero, List.set_cons_succ])
            refine tT 3 ⟨some 15, _, _, _, _, _⟩ rfl (h := ?_)
            refine tT 4 ⟨some 16, _, _, _, _, _⟩ rfl (h := ?_)
            refine tT 5 ⟨some 17, _, _, _, _, _⟩ rfl (h := ?_)
            refine tT 6 ⟨some 18, _, _, _, _, _⟩ rfl (h := ?_)
            refine tT 7 ⟨some 19, _, _, _, _, _⟩ rfl (h := ?_)
            refine tT 8 ⟨some 20, _, _, _, _, _⟩ rfl (h := ?_)
            refine tT 9 ⟨some 21, _, _, _, _, _⟩ rfl (h := ?_)
            refine tT 10 ⟨some 22, _, _, _, _, _⟩ rfl (h := ?_)
            refine tT 11 ⟨some 23, _, _, _, _, _⟩ rfl (h := ?_)
            refine tT 12 ⟨some 24, _, _, _, _, _⟩ rfl (h := ?_)
            refine wpAnyH_ready (rs := [13]) (by kernel_rfl) (by simp) ?_
            refine AllReadyH.cons (o := ⟨some 25, _, _, _, _, _⟩) rfl (fun K hK => ?_) AllReadyH.nil
            go_simp
            refine (HCX.out _).mono ?_
            rintro e w3 ⟨rfl, h3⟩
            have K3 := K2.below h3
            go_wp2_with fail
            refine hK.out _ _ ?_ (fun hH13 => ?_)
            · obtain ⟨k1, k2, k3, k4⟩ := K3.four; exact ⟨k1, k2, k3, k4, HP0.out _ K3⟩
            clear hK K
            (try simp only [Act.put, List.setIfInBounds_toArray, List.set_cons_zero, List.set_cons_succ])
            refine tT 14 ⟨some 26, _, _, _, _, _⟩ rfl (h := ?_)
            refine tT 15 ⟨some 27, _, _, _, _, _⟩ rfl (h := ?_)
            refine tT 16 ⟨some 28, _, _, _, _, _⟩ rfl (h := ?_)
            refine wpAnyH_done (by kernel_rfl) ?_ _
            all_goals
              go_wp2
              go_ret
              exact ⟨by rw [HNF4.out]; rfl, K3.frame⟩
        · have HNX2 := Lib.hid (HNX.out (fun h => absurd h h0))
          have hgt : decide ((0 : Int) < (j : Int)) = false := decide_eq_false (by omega)
          clear HNF HNP HNO HCM HNX
          generalize l[j] = x at *
          go_wp2_with fail
          generalize wr.alloc (.cells #[.int .i64 x.f, .int .i64 x.t, .int .i64 x.n, .int .i64 x.s] 86) = W at *
          generalize wr.heap.size = g at *
          refine wp_region_held_drew (S := (fun W => W.cell? ⟨g, 0, none⟩ = some (.int .i64 x.f) ∧ W.cell? ⟨g, 1, none⟩ = some (.int .i64 x.t) ∧ W.cell? ⟨g, 2, none⟩ = some (.int .i64 x.n) ∧ W.cell? ⟨g, 3, none⟩ = some (.int .i64 x.s))) (by kernel_rfl) ?_ (fun hHeld => ?_)
          · exact (HK.out.below (Below.refl _ _).drew).four
          refine tT 0 ⟨some 12, _, _, _, _, _⟩ rfl (h := ?_)
          refine tT 1 ⟨some 13, _, _, _, _, _⟩ rfl (h := ?_)
          refine wpAnyH_ready (rs := [2]) (by kernel_rfl) (by simp) ?_
          refine AllReadyH.cons (o := ⟨some 14, _, _, _, _, _⟩) rfl (fun K hK => ?_) AllReadyH.nil
          go_simp
          refine (HN1.out _).mono ?_
          rintro e w2 ⟨rfl, h2⟩
          have K2 := (HK.out.below (Below.refl _ _).drew).below h2
          go_wp2_with fail
          refine hK.out _ _ ?_ (fun hH2 => ?_)
          · exact K2.four
          clear hK K
          (try simp only [Act.put, List.setIfInBounds_toArray, List.set_cons_zero, List.set_cons_succ])
          refine tT 3 ⟨some 15, _, _, _, _, _⟩ rfl (h := ?_)
          refine tT 4 ⟨some 16, _, _, _, _, _⟩ rfl (h := ?_)
          refine tT 5 ⟨some 17, _, _, _, _, _⟩ rfl (h := ?_)
          refine tT 6 ⟨some 18, _, _, _, _, _⟩ rfl (h := ?_)
          refine tS 7 ⟨some 19, _, _, _, _, _⟩ rfl (h := ?_)
          refine tS 8 ⟨some 20, _, _, _, _, _⟩ rfl (h := ?_)
          refine tS 9 ⟨some 21, _, _, _, _, _⟩ rfl (h := ?_)
          refine tS 10 ⟨some 22, _, _, _, _, _⟩ rfl (h := ?_)
          refine tS 11 ⟨some 23, _, _, _, _, _⟩ rfl (h := ?_)
          refine tS 12 ⟨some 24, _, _, _, _, _⟩ rfl (h := ?_)
          refine tS 13 ⟨some 25, _, _, _, _, _⟩ rfl (h := ?_)
          refine tS 14 ⟨some 26, _, _, _, _, _⟩ rfl (h := ?_)
          refine tT 15 ⟨some 27, _, _, _, _, _⟩ rfl (h := ?_)
          refine tT 16 ⟨some 28, _, _, _, _, _⟩ rfl (h := ?_)
          refine wpAnyH_done (by kernel_rfl) ?_ _
          all_goals
            go_wp2
            go_roundw
            case rel => exact ⟨j + 1, by omega, by go_num, HNX2, K2.frame⟩
            case measure => simp [intOf]; omega
    · obtain rfl : j = l.length := by omega
      have HE := Lib.hid (decide_eq_true HO.out.all)
      go_wp2
      go_ret
      exact ⟨by rw [HE.out]; rfl, HB.out⟩
end Go.Proofs.YtjhdhfokhkcamaaGreat
