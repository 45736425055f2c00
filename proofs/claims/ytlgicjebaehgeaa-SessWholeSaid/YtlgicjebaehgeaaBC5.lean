/- SessWhole: a session that is opened, changed at times that never fall, and closed: its stays are all the time between, and no time twice; for all rows, entries and times. No condition. -/
import Derived.Test.YtlgicjebaehgeaaBA19
import Derived.Test.YtlgicjebaehgeaaBA2
import Derived.Test.YtlgicjebaehgeaaWN
import Derived.Test.YtlgicjebaehgeaaW7
import Derived.Deep.RegionHeld3
namespace Go.Proofs.Ytlgicjebaehgeaa.sessWhole
open Go.ChangeShapes Go.WideShapes Go.ChangeAt Go.RowKit
open Go.ChangeMaps (open_string shut_string)
set_option linter.unusedVariables false
set_option maxRecDepth 100000

/-- the times of one span, as Norm tells them -/
def oneR (f b : Int) : List SpM := if f < b then [⟨f, b⟩] else []
theorem oneR_set (f b : Int) : IsSet (HasL [⟨f, b⟩]) (oneR f b) := by
  unfold oneR
  by_cases h : f < b
  · rw [if_pos h]
    exact ⟨⟨⟨Int.le_of_lt h, fun u hu => (by cases hu), trivial⟩, fun s hs => by rw [List.mem_singleton.1 hs]; exact h⟩, fun x => Iff.rfl⟩
  · rw [if_neg h]
    refine ⟨NormL.nil, fun x => ⟨fun k => absurd k HasL.nil, fun k => ?_⟩⟩
    rw [hasL_one] at k
    have k1 : f ≤ x ∧ x < b := k
    omega
theorem oneR_len (f b : Int) : (oneR f b).length ≤ 1 := by
  unfold oneR
  split <;> simp
theorem opKept {W w' : World} {x : Option Addr} {m : List OpM} {r : Option Nat} (h : OpSl W x m) (hg : W.grownBy w' r) (hne : ∀ b o, x = some ⟨b, o, none⟩ → some b ≠ r) : OpSl w' x m := fun k hk => by
  obtain ⟨b, off, e, hlt, h0, h1, h2, h3⟩ := h k hk
  have hn := hne b off e
  have hc : ∀ i, w'.cell? ⟨b, i, none⟩ = W.cell? ⟨b, i, none⟩ := fun i => hg.cell_far ⟨b, i, none⟩ hlt hn
  exact ⟨b, off, e, Nat.lt_of_lt_of_le hlt hg.size, (hc _).trans h0, (hc _).trans h1, (hc _).trans h2, (hc _).trans h3⟩
theorem bkKept {W w' : World} {g : Nat} {a b c d : Value} {r : Option Nat} (h : Bk W g a b c d) (hg : W.grownBy w' r) (hne : some g ≠ r) : Bk w' g a b c d := by
  have hc : ∀ i, w'.cell? ⟨g, i, none⟩ = W.cell? ⟨g, i, none⟩ := fun i => hg.cell_far ⟨g, i, none⟩ h.2 hne
  exact ⟨⟨(hc _).trans h.1.1, (hc _).trans h.1.2.1, (hc _).trans h.1.2.2.1, (hc _).trans h.1.2.2.2⟩, Nat.lt_of_lt_of_le h.2 hg.size⟩
theorem news_kept {W w' : World} {k : Nat} {xs : List Value} {r : Option Nat} (hg : W.grownBy w' r) (hk : k < W.heap.size) (hne : some k ≠ r) (h : ∀ j x, xs[j]? = some x → W.cell? ((⟨k, 0, none⟩ : Addr).add j) = some x) :
    ∀ j x, xs[j]? = some x → w'.cell? ((⟨k, 0, none⟩ : Addr).add j) = some x := fun j x hx => by
  have hb : ∀ j, ((⟨k, 0, none⟩ : Addr).add j).block = k := fun j => by unfold Addr.add; split <;> rfl
  rw [hg.cell_far _ (by rw [hb]; exact hk) (by rw [hb]; exact hne)]
  exact h j x hx
theorem news_below {W w' : World} {k : Nat} {xs : List Value} (q : Below W.heap.size W w') (hk : k < W.heap.size) (h : ∀ j x, xs[j]? = some x → W.cell? ((⟨k, 0, none⟩ : Addr).add j) = some x) :
    ∀ j x, xs[j]? = some x → w'.cell? ((⟨k, 0, none⟩ : Addr).add j) = some x := fun j x hx => by
  have hb : ∀ j, ((⟨k, 0, none⟩ : Addr).add j).block = k := fun j => by unfold Addr.add; split <;> rfl
  exact (q.cell (by rw [hb]; exact hk)).trans (h j x hx)
theorem own_ne {W : World} {B e e' k k' n n' : Nat} {v v' : Value} {xs ys : List Value} (h1 : W.ownsRow B e k v n xs) (h2 : W.ownsRow B e' k' v' n' ys) (he : e ≠ e') : v'.ownBlock = none ∨ v'.ownBlock ≠ v.ownBlock := by
  rcases h2.2 with ⟨rfl, _⟩ | ⟨g, cap, cur, rfl, _, hh, _⟩
  · exact .inl rfl
  · refine .inr fun hb => ?_
    rcases h1.2 with ⟨rfl, _⟩ | ⟨g2, cap2, cur2, rfl, _, hh2, _⟩
    · cases hb
    · cases hb
      rw [hh2] at hh
      injection hh with hh
      injection hh with h3 h4
      exact he h4
theorem zbBk {w W : World} {g : Nat} {a b c d : Value} {t : TypeId} (h : Zb w g a b c d t W) (x y z v : Value) : Bk (setO W g x y z v) g x y z v := by
  obtain ⟨k0, k1, k2, k3⟩ := h.cells
  unfold setO
  refine ⟨⟨?_, ?_, ?_, ?_⟩, by simp [World.setCell]; exact h.lt⟩
  · exact cell_next (cell_next (cell_next (World.cell?_setCell_same _ _ _ k0) (by decide)) (by decide)) (by decide)
  · exact cell_next (cell_next (World.cell?_setCell_same _ _ _ (cell_next k1 (by decide))) (by decide)) (by decide)
  · exact cell_next (World.cell?_setCell_same _ _ _ (cell_next (cell_next k2 (by decide)) (by decide))) (by decide)
  · exact World.cell?_setCell_same _ _ _ (cell_next (cell_next (cell_next k3 (by decide)) (by decide)) (by decide))
/-- both rows that the loop makes, the open sessions, the stay; all that was there ahead of the loop as it was -/
structure Two (WB : World) (v9 v10 : Value) (M9 M10 : List StM) (x : Option Addr) (m : List OpM) (g : Nat) (s : StM) (W : World) : Prop where
  fb : Below WB.heap.size WB W
  o9 : W.ownsRow WB.heap.size 44 4 v9 M9.length (sts M9)
  o10 : W.ownsRow WB.heap.size 42 2 v10 (M10.map StM.sp).length (sps (M10.map StM.sp))
  X : OpSl W x m
  S : Bk W g (.int .i64 s.f) (.int .i64 s.t) (.int .i64 s.n) (.int .i64 s.s)
section
variable {WB W w' : World} {v9 v10 v' : Value} {M9 M10 : List StM} {x : Option Addr} {m : List OpM} {g N : Nat} {s : StM}
theorem Two.below (h : Two WB v9 v10 M9 M10 x m g s W) (q : Below W.heap.size W w') : Two WB v9 v10 M9 M10 x m g s w' := ⟨h.fb.trans (q.mono h.fb.size), own_below h.o9 q, own_below h.o10 q, h.X.below q, h.S.below q⟩
theorem Two.alloc (h : Two WB v9 v10 M9 M10 x m g s W) (o : Obj) : Two WB v9 v10 M9 M10 x m g s (W.alloc o) := h.below (below_one _ _)
theorem Two.drew (h : Two WB v9 v10 M9 M10 x m g s W) : Two WB v9 v10 M9 M10 x m g s W.drew := h.below (Below.refl _ _).drew
theorem Two.app9 (h : Two WB v9 v10 M9 M10 x m g s W) (ho : w'.ownsRow WB.heap.size 44 4 v' (M9.length + 1) (sts M9 ++ [.int .i64 s.f, .int .i64 s.t, .int .i64 s.n, .int .i64 s.s])) (hg : W.grownBy w' v9.ownBlock)
    (n9 : ∀ k, v9.ownBlock = some k → k < N) (hx : ∀ b o, x = some ⟨b, o, none⟩ → N ≤ b) (hgN : N ≤ g) : Two WB v' v10 (M9 ++ [s]) M10 x m g s w' := by
  refine ⟨app_below h.fb h.fb.size h.o9 hg, ?_, h.o10.kept hg (own_ne h.o9 h.o10 (by decide)), opKept h.X hg (fun b o e hr => ?_), bkKept h.S hg (fun hr => ?_)⟩
  · rw [List.length_append, sts_snoc]
    exact ho
  · have h1 := n9 b hr.symm
    have h2 := hx b o e
    omega
  · have h1 := n9 g hr.symm
    omega
theorem Two.app10 (h : Two WB v9 v10 M9 M10 x m g s W) (ho : w'.ownsRow WB.heap.size 42 2 v' ((M10.map StM.sp).length + 1) (sps (M10.map StM.sp) ++ [.int .i64 s.f, .int .i64 s.t])) (hg : W.grownBy w' v10.ownBlock)
    (n9 : ∀ k, v10.ownBlock = some k → k < N) (hx : ∀ b o, x = some ⟨b, o, none⟩ → N ≤ b) (hgN : N ≤ g) : Two WB v9 v' M9 (M10 ++ [s]) x m g s w' := by
  refine ⟨app_below h.fb h.fb.size h.o10 hg, h.o9.kept hg (own_ne h.o10 h.o9 (by decide)), ?_, opKept h.X hg (fun b o e hr => ?_), bkKept h.S hg (fun hr => ?_)⟩
  · have e1 : ((M10 ++ [s]).map StM.sp) = M10.map StM.sp ++ [s.sp] := by rw [List.map_append]; rfl
    rw [e1, List.length_append, sps_snoc]
    exact ho
  · have h1 := n9 b hr.symm
    have h2 := hx b o e
    omega
  · have h1 := n9 g hr.symm
    omega
end
/-- a block of four cells that came in, the row that came in, all else as it was -/
structure Kp (w : World) (g : Nat) (p : OpM) (a : Option Addr) (l : List OpM) (W : World) : Prop where
  F : Fr w W
  A : OpSl W a l
  E : Bk W g (.int .i64 p.n) (.string p.u) (.int .i64 p.s) (.int .i64 p.f)
theorem Kp.below {w W W' : World} {g : Nat} {p : OpM} {a : Option Addr} {l : List OpM} (h : Kp w g p a l W) (q : Below W.heap.size W W') : Kp w g p a l W' := ⟨h.F.below q, h.A.below q, h.E.below q⟩
/-- .. and the open sessions, and the spans -/
structure Kf (w : World) (g : Nat) (p : OpM) (a : Option Addr) (l : List OpM) (x y : Option Addr) (R : List SpM) (W : World) : Prop where
  K : Kp w g p a l W
  X : OpSl W x l
  S : SpSl W y R
theorem Kf.below {w W W' : World} {g : Nat} {p : OpM} {a : Option Addr} {l : List OpM} {x y : Option Addr} {R : List SpM} (h : Kf w g p a l x y R W) (q : Below W.heap.size W W') : Kf w g p a l x y R W' := ⟨h.K.below q, h.X.below q, h.S.below q⟩
/-- where the loop stands -/
structure Wh (WB : World) (l : List OpM) (p : OpM) (n : Nat) (v9 v10 : Value) (M : List StM) (x : Option Addr) (q : Nat) (m : List OpM) (b : Int) (j : Nat) (W : World) : Prop where
  fb : Below WB.heap.size WB W
  o9 : W.ownsRow WB.heap.size 44 4 v9 M.length (sts M)
  o10 : W.ownsRow WB.heap.size 42 2 v10 (M.map StM.sp).length (sps (M.map StM.sp))
  X : OpSl W x m
  cap : m.length ≤ q
  top : q ≤ maxLen
  ch : Chn p.f b M
  len : M.length = j
  row : j < n → ∃ s, m = midO l p s b
  fin : j = n → m = l
theorem mid_len (l : List OpM) (p : OpM) (s f : Int) : (midO l p s f).length = l.length + 1 := by
  have h := (fst_idx (abvN p.n) l).le
  unfold midO
  generalize l.findIdx _ = k at *
  simp only [List.length_append, List.length_take, List.length_cons, List.length_drop]
  omega
theorem mid_fnd {l : List OpM} {p : OpM} (hno : ∀ x ∈ l, ¬ x.n = p.n) (s f t : Int) : fndS (midO l p s f) p.n p.u t = ⟨f, t, p.n, s⟩ := by
  obtain ⟨m1, m2, -, -⟩ := mid_find hno s f
  unfold fndS
  rw [if_pos m1, m2]
  rfl
def FT (m : List OpM) (s : StM) (W : World) (e : Ending) (w' : World) : Prop := ∃ y k, e = .returned (.tuple #[.slice y m.length k, .agg #[.int .i64 s.f, .int .i64 s.t, .int .i64 s.n, .int .i64 s.s], .int .i64 0]) ∧ m.length ≤ k ∧ k ≤ maxLen ∧ (∀ b o, y = some ⟨b, o, none⟩ → W.heap.size ≤ b) ∧ OpSl w' y m ∧ Below W.heap.size W w'
theorem w_change {l : List OpM} {p : OpM} (hno : ∀ x ∈ l, ¬ x.n = p.n) (hl : l.length ≤ 20) (s f st t : Int) (x : Option Addr) (q : Nat) (W : World) (h : OpSl W x (midO l p s f)) (h1 : (midO l p s f).length ≤ q) (h2 : q ≤ maxLen) :
    Calls Try.prog 18 #[.slice x (midO l p s f).length q, .int .i64 p.n, .string p.u, .int .i64 st, .int .i64 t] W fun e w' => ∃ m2, (∃ s, m2 = midO l p s t) ∧ FT m2 ⟨f, t, p.n, s⟩ W e w' := by
  have hc := change_more x q (midO l p s f) p.n p.u st t W h (by rw [mid_len]; omega) h1 h2
  obtain ⟨m1, -, m3, -⟩ := mid_find hno s f
  rw [m1, m3, mid_fnd hno] at hc
  refine hc.mono ?_
  rintro e w' ⟨v, rfl, ⟨y, k, rfl, k1, k2, k3, k4, k5⟩, k6⟩
  exact ⟨_, ⟨_, rfl⟩, y, k, rfl, k1, k2, fun b o e => k6 b o _ _ (by rw [e]), k4, k5⟩
theorem w_close {l : List OpM} {p : OpM} (hno : ∀ x ∈ l, ¬ x.n = p.n) (hl : l.length ≤ 20) (s f t : Int) (x : Option Addr) (q : Nat) (W : World) (h : OpSl W x (midO l p s f)) (h1 : (midO l p s f).length ≤ q) (h2 : q ≤ maxLen) :
    Calls Try.prog 23 #[.slice x (midO l p s f).length q, .int .i64 p.n, .string p.u, .int .i64 t] W fun e w' => ∃ m2, m2 = l ∧ FT m2 ⟨f, t, p.n, s⟩ W e w' := by
  have hc := close_more x q (midO l p s f) p.n p.u t W h (by rw [mid_len]; omega) h1 h2
  obtain ⟨m1, -, -, m4⟩ := mid_find hno s f
  rw [m1, m4, mid_fnd hno] at hc
  refine hc.mono ?_
  rintro e w' ⟨v, rfl, ⟨y, k, rfl, k1, k2, k3, k4, k5⟩, k6⟩
  exact ⟨_, rfl, y, k, rfl, k1, k2, fun b o e => k6 b o _ _ (by rw [e]), k4, k5⟩
theorem w_norm (f b : Int) (A : List SpM) (hA : ∀ x, HasL A x ↔ f ≤ x ∧ x < b) (xa : Option Addr) (ca : Nat) (W : World) (ha : SpSl W xa A) (hca : A.length ≤ ca) (h1 : ca ≤ maxLen) (hl : A.length ≤ 1000) :
    Calls Try.prog 38 #[.slice xa A.length ca] W fun e w' => ∃ y k, e = .returned (.slice y (oneR f b).length k) ∧ SpSl w' y (oneR f b) ∧ Below W.heap.size W w' := by
  refine (c_norm xa ca A W ha hca h1 hl).mono ?_
  rintro e w' ⟨y, k, r, rfl, hs, -, -, -, -, h3, hb⟩
  obtain rfl : r = oneR f b := (hs.congr fun x => (hA x).trans (show f ≤ x ∧ x < b ↔ HasL [⟨f, b⟩] x from (hasL_one (s := ⟨f, b⟩)).symm)).only (oneR_set f b)
  exact ⟨y, k, rfl, h3, hb⟩
theorem w_meet (f1 t1 f2 t2 : Int) (W : World) : Calls Try.prog 35 #[.agg #[.int .i64 f1, .int .i64 t1], .agg #[.int .i64 f2, .int .i64 t2]] W fun e w' => e = .returned (.agg #[.int .i64 (max f1 f2), .int .i64 (min t1 t2)]) ∧ Below W.heap.size W w' := smeet_any ⟨f1, t1⟩ ⟨f2, t2⟩ W

set_option maxHeartbeats 16000000 in
theorem walk (w : World) (a : Option Addr) (c : Nat) (l : List OpM) (hs : OpSl w a l) (hf : SzO l) (hc : l.length ≤ c) (hcm : c ≤ maxLen) (hn : a = none → c = 0) (p : OpM) (hp : p.u.size ≤ maxLen) (ta : Option Addr) (tc : Nat) (T : List Int) (ht : Sl w ta (ints T)) (htc : T.length ≤ tc) (htm : tc ≤ maxLen) :
    Calls Try.prog 7 #[.slice a l.length c, .agg #[.int .i64 p.n, .string p.u, .int .i64 p.s, .int .i64 p.f], .slice ta T.length tc] w fun e w' => e = .returned (.bool true) ∧ Below w.heap.size w w' := by
  have HAL := Lib.hid alive_any
  have hb0 := below_one w (.cells #[.int .i64 p.n, .string p.u, .int .i64 p.s, .int .i64 p.f] 24)
  have F : Hid (Fr w (w.alloc (.cells #[.int .i64 p.n, .string p.u, .int .i64 p.s, .int .i64 p.f] 24))) := hb0
  have A := Lib.hid (hs.below hb0)
  have TM := Lib.hid (ht.below hb0)
  have E := Lib.hid (Bk.new w (.int .i64 p.n) (.string p.u) (.int .i64 p.s) (.int .i64 p.f) 24)
  by_cases h1 : 15 < l.length
  · have hd1 : decide ((15 : Int) < (l.length : Int)) = true := decide_eq_true (by omega)
    clear hs hf hc hcm hn hp hb0 A E ht htc htm TM
    go_enter Try.func7, Try.ntmps7
    go_wp2_with fail
    refine (HAL.out _).mono ?_
    rintro e w1 ⟨rfl, hB⟩
    go_wp2
    go_ret
    exact ⟨rfl, F.out.below hB⟩
  have hd1 : decide ((15 : Int) < (l.length : Int)) = false := decide_eq_false (by omega)
  by_cases h2 : T.length = 0
  · have hd2 : ((T.length : Int) == 0) = true := by simp [h2]
    clear hs hf hc hcm hn hp hb0 A E ht htc htm TM
    go_enter Try.func7, Try.ntmps7
    go_wp2_with fail
    refine (HAL.out _).mono ?_
    rintro e w1 ⟨rfl, hB⟩
    go_wp2
    go_ret
    exact ⟨rfl, F.out.below hB⟩
  have hd2 : ((T.length : Int) == 0) = false := beq_eq_false_iff_ne.2 (by omega)
  by_cases h3 : 30 < T.length
  · have hd3 : decide ((30 : Int) < (T.length : Int)) = true := decide_eq_true (by omega)
    clear hs hf hc hcm hn hp hb0 A E ht htc htm TM h2
    go_enter Try.func7, Try.ntmps7
    go_wp2_with fail
    refine (HAL.out _).mono ?_
    rintro e w1 ⟨rfl, hB⟩
    go_wp2
    go_ret
    exact ⟨rfl, F.out.below hB⟩
  have hd3 : decide ((30 : Int) < (T.length : Int)) = false := decide_eq_false (by omega)
  have HN := Lib.hid (fun W (h : OpSl W a l) => o_news a c l W h (by omega))
  have HO := Lib.hid (fun x q W (h : OpSl W x l) h1 h2 h3 => o_open x q l p W h h1 (by omega) h2 h3)
  have HBL := Lib.hid (fun W W' (h : Kp w w.heap.size p a l W ∧ Sl W ta (ints T)) (q : Below W.heap.size W W') => And.intro (h.1.below q) (h.2.below q))
  have HSC : Hid (∀ W, (Kp w w.heap.size p a l W ∧ Sl W ta (ints T)) → W.cell? ⟨w.heap.size, 0, none⟩ = some (.int .i64 p.n) ∧ W.cell? ⟨w.heap.size, 1, none⟩ = some (.string p.u) ∧ W.cell? ⟨w.heap.size, 2, none⟩ = some (.int .i64 p.s) ∧ W.cell? ⟨w.heap.size, 3, none⟩ = some (.int .i64 p.f)) := fun W h => h.1.E.1
  have HL15 := Lib.hid (show l.length ≤ 15 by omega)
  have HT30 := Lib.hid (show T.length ≤ 30 by omega)
  have HT0 := Lib.hid (show 0 < T.length by omega)
  have HSZ := Lib.hid hf
  have K00 : Kp w w.heap.size p a l (w.alloc (.cells #[.int .i64 p.n, .string p.u, .int .i64 p.s, .int .i64 p.f] 24)) ∧ Sl (w.alloc (.cells #[.int .i64 p.n, .string p.u, .int .i64 p.s, .int .i64 p.f] 24)) ta (ints T) := ⟨Kp.mk F.out A.out E.out, TM.out⟩
  have K0 := HBL.out _ _ K00 (Below.refl _ _).drew
  have HOK := Lib.hid (fun hC => openC_ok (l := l) (e := p) hC)
  have HOR : Hid (openC l p = 0 → openR l p = midO l p p.s p.f) := fun h => by unfold openR; rw [if_pos h]; rfl
  clear hs hf hc hcm hn hp hb0 ht htc htm h1 h2 h3 K00 F A TM E
  go_enter Try.func7, Try.ntmps7
  go_wp2_with fail
  generalize w.alloc (.cells #[.int .i64 p.n, .string p.u, .int .i64 p.s, .int .i64 p.f] 24) = W0 at *
  generalize hgg : w.heap.size = g at *
  go_region_held3 (fun W => W.cell? ⟨g, 0, none⟩ = some (.int .i64 p.n) ∧ W.cell? ⟨g, 1, none⟩ = some (.string p.u) ∧ W.cell? ⟨g, 2, none⟩ = some (.int .i64 p.s) ∧ W.cell? ⟨g, 3, none⟩ = some (.int .i64 p.f))
    (first |  with_reducible exact HSC.out _ K2 | with_reducible exact HSC.out _ K1 | with_reducible exact HSC.out _ K0 | assumption)
    (first | (have hseen := K1; clear hseen; go_at_call 12; refine (HO.out x1 q1 _ z1 n1 k1 m1).mono ?_; rintro e v2 ⟨x2, q2, rfl, k2, m2, n2, z2, h2⟩; have K2 := HBL.out _ _ K1 h2) | (have hseen := K0; clear hseen; go_at_call 11; refine (HN.out _ K0.1.A).mono ?_; rintro e v1 ⟨x1, q1, rfl, k1, m1, n1, z1, h1⟩; have K1 := HBL.out _ _ K0 h1))
  have HK := Lib.hid K2
  have HX2 := Lib.hid z2
  have HK2 := Lib.hid k2
  have HM2 := Lib.hid m2
  clear K0 K1 K2 z1 z2 h1 h2 k1 m1 n1 k2 m2 n2 HN HO hd1 hd2 hd3
  by_cases hC : openC l p = 0
  · have d0 : (openC l p != 0) = false := by rw [hC]; rfl
    have HNO := Lib.hid (HOK.out hC).2
    rw [HOR.out hC] at HX2 HK2 ⊢
    clear HOK HOR
    generalize openC l p = C at *
    clear hC
    obtain ⟨c0, c1, c2, c3⟩ := HK.out.1.E.1
    generalize v2 = WB at *
    have HWH : Hid (Wh WB l p T.length (.slice none 0 0) (.slice none 0 0) [] x2 q2 (midO l p p.s p.f) p.f 0 WB) :=
      ⟨Below.refl _ _, ⟨rfl, .inl ⟨rfl, rfl⟩⟩, ⟨rfl, .inl ⟨rfl, rfl⟩⟩, HX2.out, HK2.out, HM2.out, Chn.nil _, rfl, fun _ => ⟨_, rfl⟩, fun h => by have := HT0.out; omega⟩
    clear HX2 HK2 HM2
    go_wp2
    clear c0 c1 c2 c3 d0
    go_loopw [7, 9, 10, 11, 47] (fun v7 v9 v10 v11 i wr => ∃ (j : Nat) (m : List OpM) (x : Option Addr) (q : Nat) (b : Int) (M : List StM) (x9 : Option Addr) (c9 : Nat) (x10 : Option Addr) (c10 : Nat), j ≤ T.length ∧ i = .int .i64 j ∧ v7 = .slice x m.length q ∧ v11 = .int .i64 b ∧ v9 = .slice x9 M.length c9 ∧ v10 = .slice x10 M.length c10 ∧ Hid (Wh WB l p T.length (.slice x9 M.length c9) (.slice x10 M.length c10) M x q m b j wr)) (fun _ _ _ _ i _ => T.length - (intOf i).toNat)
    case atStart => exact ⟨0, _, x2, q2, p.f, [], none, 0, none, 0, by omega, rfl, rfl, rfl, rfl, rfl, HWH.out⟩
    case round =>
      clear HWH
      obtain ⟨j, m, x, q, b, M, x9, c9, x10, c10, hj, rfl, rfl, rfl, rfl, rfl, HW⟩ := hrel
      by_cases hjt : j < T.length
      · obtain ⟨tb, to, rfl, htl, htj⟩ := ints_at (HK.out.2.below HW.out.fb) hjt
        generalize T[j] = tt at *
        by_cases hlt : tt < b
        · have hd := decide_eq_true hlt
          clear hlt
          go_wp2_with fail
          refine (HAL.out _).mono ?_
          rintro e w9 ⟨rfl, hB⟩
          go_wp2
          go_ret
          subst hgg
          exact ⟨rfl, (HK.out.1.F.below HW.out.fb).below hB⟩
        · have hd := decide_eq_false hlt
          have HBT := Lib.hid (show b ≤ tt by omega)
          obtain ⟨s0, hm⟩ := HW.out.row hjt
          subst hm
          have HTOP := Lib.hid HW.out.ch.top
          have HML : Hid (M.length ≤ 100) := by have h1 := HW.out.len; have h2 := HT30.out; unfold Hid; omega
          have HN9 : Hid (∀ k, (Value.slice x9 M.length c9).ownBlock = some k → k < wr.heap.size) := fun k h => (HW.out.o9.lt k h).2
          have HN10 : Hid (∀ k, (Value.slice x10 M.length c10).ownBlock = some k → k < wr.heap.size) := fun k h => (HW.out.o10.lt k h).2
          have HZ := Lib.hid (Zb.new wr (.int .i64 0) (.int .i64 0) (.int .i64 0) (.int .i64 0) 44)
          obtain ⟨⟨c0, c1, c2, c3⟩, -⟩ := (HK.out.1.E.below HW.out.fb).below (below_one wr (.cells #[.int .i64 0, .int .i64 0, .int .i64 0, .int .i64 0] 44))
          have HXW := Lib.hid (HW.out.X.below (below_one wr (.cells #[.int .i64 0, .int .i64 0, .int .i64 0, .int .i64 0] 44)))
          obtain ⟨j1, hj1⟩ : ∃ j1, j1 = j + 1 := ⟨_, rfl⟩
          have HJ1 := Lib.hid hj1
          have hwj : IntKind.i64.wrap ((j : Int) + 1) = (j1 : Int) := by have := HT30.out; rw [IntWalk.i64_in] <;> omega
          clear hlt htl
          by_cases hl1 : j1 < T.length
          · have hdl : decide ((j1 : Int) < (T.length : Int)) = true := decide_eq_true (by omega)
            have hdk : decide ((j : Int) + 1 < (T.length : Int)) = true := decide_eq_true (by omega)
            have HCH := Lib.hid (fun st W (h : OpSl W x (midO l p s0 b)) => w_change HNO.out (by have := HL15.out; omega) s0 b st tt x q W h HW.out.cap HW.out.top)
            unfold FT at HCH
            dsimp only at HCH
            have HJL := Lib.hid (show j + 1 < T.length by omega)
            clear hj1
            go_wp2_with fail
            refine (HCH.out _ _ HXW.out).mono ?_
            rintro e w2 ⟨m2, hm2, y, k, rfl, k1, k2, k3, z2, hB⟩
            clear HCH HXW htj hdl hdk hwj hl1
            have HROW : Hid ((j + 1 < T.length → ∃ s, m2 = midO l p s tt) ∧ (j + 1 = T.length → m2 = l)) := ⟨fun _ => hm2, fun h => by have := HJL.out; omega⟩
            clear hm2
            have K2 := HZ.out.below hB
            have hset := K2.set (.int .i64 b) (.int .i64 tt) (.int .i64 p.n) (.int .i64 s0)
            have HXN : Hid (∀ b' o, y = some ⟨b', o, none⟩ → wr.heap.size ≤ b') := fun b' o e => by have := k3 b' o e; rw [size1] at this; omega
            have T3 : Two WB (.slice x9 M.length c9) (.slice x10 M.length c10) M M y m2 wr.heap.size (⟨b, tt, p.n, s0⟩ : StM) (setO w2 wr.heap.size (.int .i64 b) (.int .i64 tt) (.int .i64 p.n) (.int .i64 s0)) :=
              ⟨HW.out.fb.trans (hset.mono HW.out.fb.size), own_below HW.out.o9 hset, own_below HW.out.o10 hset, z2.setO _ _ _ _ _ (fun b' o e => by have := k3 b' o e; rw [size1] at this; omega), zbBk K2 _ _ _ _⟩
            have HMK : Hid (∀ v9' v10' W', Two WB v9' v10' (M ++ [(⟨b, tt, p.n, s0⟩ : StM)]) (M ++ [(⟨b, tt, p.n, s0⟩ : StM)]) y m2 wr.heap.size (⟨b, tt, p.n, s0⟩ : StM) W' → Wh WB l p T.length v9' v10' (M ++ [(⟨b, tt, p.n, s0⟩ : StM)]) y k m2 tt (j + 1) W') := fun v9' v10' W' h =>
              ⟨h.fb, h.o9, h.o10, h.X, k1, k2, HW.out.ch.snoc rfl rfl HBT.out, by rw [List.length_append, HW.out.len]; rfl, HROW.out.1, HROW.out.2⟩
            have E3 := HK.out.1.E.below T3.fb
            obtain ⟨z0, z1, z2', z3⟩ := K2.cells
            obtain ⟨y0, y1, y2, y3⟩ := K2.free
            have hgl := K2.lt
            obtain ⟨d0, d1, d2, d3⟩ := T3.S.1
            clear c0 c1 c2 c3
            obtain ⟨c0, c1, c2, c3⟩ := E3.1
            have HT3 := Lib.hid T3
            unfold setO at HT3 d0 d1 d2 d3 c0 c1 c2 c3
            dsimp only at d0 d1 d2 d3
            have q1 : (p.n != p.n) = false := by simp
            have q2 : (tt != tt) = false := by simp
            have q0 : ((0 : Int) != 0) = false := rfl
            clear K2 hset k1 k2 k3 z2 hB T3 E3 HZ HROW
            go_wp2
            generalize hW3 : ((((w2.setCell ⟨wr.heap.size, 0, none⟩ (.int .i64 b)).setCell ⟨wr.heap.size, 1, none⟩ (.int .i64 tt)).setCell ⟨wr.heap.size, 2, none⟩ (.int .i64 p.n)).setCell ⟨wr.heap.size, 3, none⟩ (.int .i64 s0)) = W3 at *
            clear z0 z1 z2' z3 y0 y1 y2 y3 hgl d0 d1 d2 d3 c0 c1 c2 c3 hW3
            generalize wr.heap.size = N at *
            clear HW
            obtain ⟨wo, hwo⟩ : ∃ wo : World, wo = wr := ⟨_, rfl⟩
            rw [← hwo] at *
            clear hwo
            have hml := HML.out
            go_loopw [105] (fun i wr => ∃ (i' : Nat), i' ≤ M.length ∧ i = .int .i64 i' ∧ Hid (Below W3.heap.size W3 wr)) (fun i _ => M.length - (intOf i).toNat)
            case atStart => exact ⟨0, by omega, rfl, Below.refl _ _⟩
            case round =>
              obtain ⟨i', hi', rfl, HB⟩ := hrel
              have HT4 := Lib.hid (HT3.out.below HB.out)
              by_cases hil : i' < M.length
              · have hs9 : StSl wr x9 M := by
                  obtain ⟨a9, b9, e9, _, _, h9, _⟩ := own_st HT4.out.o9
                  injection e9 with e9
                  rw [e9]
                  exact h9
                obtain ⟨sb, so, rfl, -, r0, r1, r2, r3⟩ := hs9.at_ hil
                have htop := HTOP.out M[i'] (List.getElem_mem hil)
                generalize M[i'] = ym at *
                obtain ⟨e0, e1, e2, e3⟩ := cells4 (heap_alloc_new wr (.cells #[.int .i64 ym.f, .int .i64 ym.t, .int .i64 ym.n, .int .i64 ym.s] 44))
                have hb := below_one wr (.cells #[.int .i64 ym.f, .int .i64 ym.t, .int .i64 ym.n, .int .i64 ym.s] 44)
                obtain ⟨g0, g1, g2, g3⟩ := (HT4.out.S.below hb).1
                dsimp only at g0 g1 g2 g3
                have hle : decide (min ym.t tt ≤ max ym.f b) = true := decide_eq_true (by omega)
                have HMT := Lib.hid (fun W => w_meet ym.f ym.t b tt W)
                have HNN := Lib.hid (fun W => none_any (max ym.f b) (min ym.t tt) W)
                rw [hle] at HNN
                generalize max ym.f b = mf at *
                generalize min ym.t tt = mt at *
                have HBN := Lib.hid (HB.out.trans (hb.mono HB.out.size))
                clear hle htop hb hs9 HT4
                go_wp2_with fail
                refine (HMT.out _).mono ?_
                rintro e w5 ⟨rfl, hB5⟩
                replace HBN := Lib.hid (HBN.out.trans (hB5.mono HBN.out.size))
                clear hB5 HMT
                go_wp2_with fail
                refine (HNN.out _).mono ?_
                rintro e w6 ⟨rfl, hB6⟩
                replace HBN := Lib.hid (HBN.out.trans (hB6.mono HBN.out.size))
                clear hB6 HNN
                go_wp2
                go_roundw
                case rel => exact ⟨i' + 1, by omega, by go_num, HBN.out⟩
                case measure => simp [intOf]; omega
              · obtain ⟨i0, hi, hz0, hz1, hz2⟩ := info_parts infoStay
                obtain ⟨j0, kj, kz0, kz1, kz2⟩ := info_parts infoSpan
                have hgt : decide ((i' : Int) < (M.length : Int)) = false := decide_eq_false (by omega)
                have T0 := HT4.out
                have T0D := T0.drew
                have TA := (T0.alloc (.cells #[.int .i64 b, .int .i64 tt, .int .i64 p.n, .int .i64 s0] 44)).drew
                have TB := ((T0.alloc (.cells #[.int .i64 b, .int .i64 tt, .int .i64 p.n, .int .i64 s0] 44)).alloc (.cells #[.int .i64 b, .int .i64 tt] 42)).drew
                have TC := ((T0.alloc (.cells #[.int .i64 b, .int .i64 tt] 42)).alloc (.cells #[.int .i64 b, .int .i64 tt, .int .i64 p.n, .int .i64 s0] 44)).drew
                have TE := (T0.alloc (.cells #[.int .i64 b, .int .i64 tt] 42)).drew
                have NA9 := news_at wr #[.int .i64 b, .int .i64 tt, .int .i64 p.n, .int .i64 s0] 44 wr.heap.size rfl
                have NE10 := news_at wr #[.int .i64 b, .int .i64 tt] 42 wr.heap.size rfl
                have NB10 := news_at (wr.alloc (.cells #[.int .i64 b, .int .i64 tt, .int .i64 p.n, .int .i64 s0] 44)) #[.int .i64 b, .int .i64 tt] 42 (wr.heap.size + 1) (size1 _ _).symm
                have NC9 := news_at (wr.alloc (.cells #[.int .i64 b, .int .i64 tt] 42)) #[.int .i64 b, .int .i64 tt, .int .i64 p.n, .int .i64 s0] 44 (wr.heap.size + 1) (size1 _ _).symm
                have NB9 := news_below (below_one (wr.alloc (.cells #[.int .i64 b, .int .i64 tt, .int .i64 p.n, .int .i64 s0] 44)) (.cells #[.int .i64 b, .int .i64 tt] 42)) (by rw [size1]; omega) NA9
                have NC10 := news_below (below_one (wr.alloc (.cells #[.int .i64 b, .int .i64 tt] 42)) (.cells #[.int .i64 b, .int .i64 tt, .int .i64 p.n, .int .i64 s0] 44)) (by rw [size1]; omega) NE10
                change ∀ j u, [Value.int .i64 b, .int .i64 tt, .int .i64 p.n, .int .i64 s0][j]? = some u → (wr.alloc (.cells #[.int .i64 b, .int .i64 tt, .int .i64 p.n, .int .i64 s0] 44)).drew.cell? _ = some u at NA9
                change ∀ j u, [Value.int .i64 b, .int .i64 tt][j]? = some u → (wr.alloc (.cells #[.int .i64 b, .int .i64 tt] 42)).drew.cell? _ = some u at NE10
                change ∀ j u, [Value.int .i64 b, .int .i64 tt][j]? = some u → ((wr.alloc (.cells #[.int .i64 b, .int .i64 tt, .int .i64 p.n, .int .i64 s0] 44)).alloc (.cells #[.int .i64 b, .int .i64 tt] 42)).drew.cell? _ = some u at NB10
                change ∀ j u, [Value.int .i64 b, .int .i64 tt, .int .i64 p.n, .int .i64 s0][j]? = some u → ((wr.alloc (.cells #[.int .i64 b, .int .i64 tt] 42)).alloc (.cells #[.int .i64 b, .int .i64 tt, .int .i64 p.n, .int .i64 s0] 44)).drew.cell? _ = some u at NC9
                change ∀ j u, [Value.int .i64 b, .int .i64 tt, .int .i64 p.n, .int .i64 s0][j]? = some u → ((wr.alloc (.cells #[.int .i64 b, .int .i64 tt, .int .i64 p.n, .int .i64 s0] 44)).alloc (.cells #[.int .i64 b, .int .i64 tt] 42)).drew.cell? _ = some u at NB9
                change ∀ j u, [Value.int .i64 b, .int .i64 tt][j]? = some u → ((wr.alloc (.cells #[.int .i64 b, .int .i64 tt] 42)).alloc (.cells #[.int .i64 b, .int .i64 tt, .int .i64 p.n, .int .i64 s0] 44)).drew.cell? _ = some u at NC10
                have hNw : N < wr.heap.size := T0.S.2
                have lB9 : wr.heap.size < ((wr.alloc (.cells #[.int .i64 b, .int .i64 tt, .int .i64 p.n, .int .i64 s0] 44)).alloc (.cells #[.int .i64 b, .int .i64 tt] 42)).drew.heap.size := by show _ < ((wr.alloc _).alloc _).heap.size; rw [size1, size1]; omega
                have lB10 : wr.heap.size + 1 < ((wr.alloc (.cells #[.int .i64 b, .int .i64 tt, .int .i64 p.n, .int .i64 s0] 44)).alloc (.cells #[.int .i64 b, .int .i64 tt] 42)).drew.heap.size := by show _ < ((wr.alloc _).alloc _).heap.size; rw [size1, size1]; omega
                have lC10 : wr.heap.size < ((wr.alloc (.cells #[.int .i64 b, .int .i64 tt] 42)).alloc (.cells #[.int .i64 b, .int .i64 tt, .int .i64 p.n, .int .i64 s0] 44)).drew.heap.size := by show _ < ((wr.alloc _).alloc _).heap.size; rw [size1, size1]; omega
                have lC9 : wr.heap.size + 1 < ((wr.alloc (.cells #[.int .i64 b, .int .i64 tt] 42)).alloc (.cells #[.int .i64 b, .int .i64 tt, .int .i64 p.n, .int .i64 s0] 44)).drew.heap.size := by show _ < ((wr.alloc _).alloc _).heap.size; rw [size1, size1]; omega
                have nB9 : ∀ {v : Value}, (∀ k, v.ownBlock = some k → k < N) → some wr.heap.size = v.ownBlock → False := fun h e => by have := h _ e.symm; omega
                have nB10 : ∀ {v : Value}, (∀ k, v.ownBlock = some k → k < N) → some (wr.heap.size + 1) = v.ownBlock → False := fun h e => by have := h _ e.symm; omega
                have hM1 : M.length + 1 ≤ maxLen := by have := HML.out; unfold maxLen; omega
                have hM2 : (M.length + 1) * 32 ≤ 140737488355328 := by have := HML.out; omega
                have hM3 : (M.map StM.sp).length + 1 ≤ maxLen := by have := HML.out; rw [List.length_map]; unfold maxLen; omega
                have hM4 : ((M.map StM.sp).length + 1) * 16 ≤ 140737488355328 := by have := HML.out; rw [List.length_map]; omega
                have HSC2 : Hid (∀ {v9' v10' M9 M10 W}, Two WB v9' v10' M9 M10 y m2 N (⟨b, tt, p.n, s0⟩ : StM) W → W.cell? ⟨N, 0, none⟩ = some (.int .i64 b) ∧ W.cell? ⟨N, 1, none⟩ = some (.int .i64 tt) ∧ W.cell? ⟨N, 2, none⟩ = some (.int .i64 p.n) ∧ W.cell? ⟨N, 3, none⟩ = some (.int .i64 s0)) := fun h => h.S.1
                clear HT4 T0 HTOP HK hi'
                go_wp2_with fail
                go_region_held3 (fun W => W.cell? ⟨N, 0, none⟩ = some (.int .i64 b) ∧ W.cell? ⟨N, 1, none⟩ = some (.int .i64 tt) ∧ W.cell? ⟨N, 2, none⟩ = some (.int .i64 p.n) ∧ W.cell? ⟨N, 3, none⟩ = some (.int .i64 s0))
                  (first | with_reducible exact HSC2.out TT | with_reducible exact HSC2.out T9 | with_reducible exact HSC2.out T10 | with_reducible exact HSC2.out (T9.alloc _) | with_reducible exact HSC2.out (T10.alloc _) | with_reducible exact HSC2.out T0D | with_reducible exact HSC2.out (T0D.alloc _) | with_reducible exact HSC2.out ((T0D.alloc _).alloc _) | with_reducible exact HSC2.out TA | with_reducible exact HSC2.out TB | with_reducible exact HSC2.out TC | with_reducible exact HSC2.out TE)
                  (first | (have hseen := T10; clear hseen; first | (refine step_own rfl (.tmp 117) (.tmp 119) 63 rfl WB.heap.size 44 i0 _ 4 32 Try.underlying63 hi hz0 hz1 hz2 rfl (by decide) _ M.length (sts M) rfl T10.o9 ⟨_, 0, none⟩ 1 1 [.int .i64 b, .int .i64 tt, .int .i64 p.n, .int .i64 s0] rfl rfl H9 (st_one _ _ _ _) hM1 hM2 T10.fb.size ?_; intro v2 w12 ho2 hg2; have TT := T10.app9 ho2 hg2 HN9.out HXN.out (Nat.le_refl _)) | (refine step_own rfl (.tmp 117) (.tmp 119) 63 rfl WB.heap.size 44 i0 _ 4 32 Try.underlying63 hi hz0 hz1 hz2 rfl (by decide) _ M.length (sts M) rfl (T10.alloc (.cells #[.int .i64 b, .int .i64 tt, .int .i64 p.n, .int .i64 s0] 44)).o9 ⟨_, 0, none⟩ 1 1 [.int .i64 b, .int .i64 tt, .int .i64 p.n, .int .i64 s0] rfl rfl (news_at _ _ _ _ rfl) (st_one _ _ _ _) hM1 hM2 (T10.alloc (.cells #[.int .i64 b, .int .i64 tt, .int .i64 p.n, .int .i64 s0] 44)).fb.size ?_; intro v2 w12 ho2 hg2; have TT := (T10.alloc (.cells #[.int .i64 b, .int .i64 tt, .int .i64 p.n, .int .i64 s0] 44)).app9 ho2 hg2 HN9.out HXN.out (Nat.le_refl _))) | (have hseen := T9; clear hseen; first | (refine step_own rfl (.tmp 121) (.tmp 124) 75 rfl WB.heap.size 42 j0 _ 2 16 Try.underlying75 kj kz0 kz1 kz2 rfl (by decide) _ (M.map StM.sp).length (sps (M.map StM.sp)) rfl T9.o10 ⟨_, 0, none⟩ 1 1 [.int .i64 b, .int .i64 tt] rfl rfl H10 (two_one _ _) hM3 hM4 T9.fb.size ?_; intro v2 w12 ho2 hg2; have TT := T9.app10 ho2 hg2 HN10.out HXN.out (Nat.le_refl _)) | (refine step_own rfl (.tmp 121) (.tmp 124) 75 rfl WB.heap.size 42 j0 _ 2 16 Try.underlying75 kj kz0 kz1 kz2 rfl (by decide) _ (M.map StM.sp).length (sps (M.map StM.sp)) rfl (T9.alloc (.cells #[.int .i64 b, .int .i64 tt] 42)).o10 ⟨_, 0, none⟩ 1 1 [.int .i64 b, .int .i64 tt] rfl rfl (news_at _ _ _ _ rfl) (two_one _ _) hM3 hM4 (T9.alloc (.cells #[.int .i64 b, .int .i64 tt] 42)).fb.size ?_; intro v2 w12 ho2 hg2; have TT := (T9.alloc (.cells #[.int .i64 b, .int .i64 tt] 42)).app10 ho2 hg2 HN10.out HXN.out (Nat.le_refl _))) | (refine step_own rfl (.tmp 117) (.tmp 119) 63 rfl WB.heap.size 44 i0 _ 4 32 Try.underlying63 hi hz0 hz1 hz2 rfl (by decide) _ M.length (sts M) rfl TA.o9 ⟨_, 0, none⟩ 1 1 [.int .i64 b, .int .i64 tt, .int .i64 p.n, .int .i64 s0] rfl rfl NA9 (st_one _ _ _ _) hM1 hM2 TA.fb.size ?_; intro v1 w11 ho1 hg1; have T9 := TA.app9 ho1 hg1 HN9.out HXN.out (Nat.le_refl _)) | (refine step_own rfl (.tmp 117) (.tmp 119) 63 rfl WB.heap.size 44 i0 _ 4 32 Try.underlying63 hi hz0 hz1 hz2 rfl (by decide) _ M.length (sts M) rfl TB.o9 ⟨_, 0, none⟩ 1 1 [.int .i64 b, .int .i64 tt, .int .i64 p.n, .int .i64 s0] rfl rfl NB9 (st_one _ _ _ _) hM1 hM2 TB.fb.size ?_; intro v1 w11 ho1 hg1; have T9 := TB.app9 ho1 hg1 HN9.out HXN.out (Nat.le_refl _); have H10 := news_kept hg1 lB10 (fun e => nB10 HN9.out e) NB10) | (refine step_own rfl (.tmp 117) (.tmp 119) 63 rfl WB.heap.size 44 i0 _ 4 32 Try.underlying63 hi hz0 hz1 hz2 rfl (by decide) _ M.length (sts M) rfl TC.o9 ⟨_, 0, none⟩ 1 1 [.int .i64 b, .int .i64 tt, .int .i64 p.n, .int .i64 s0] rfl rfl NC9 (st_one _ _ _ _) hM1 hM2 TC.fb.size ?_; intro v1 w11 ho1 hg1; have T9 := TC.app9 ho1 hg1 HN9.out HXN.out (Nat.le_refl _); have H10 := news_kept hg1 lC10 (fun e => nB9 HN9.out e) NC10) | (refine step_own rfl (.tmp 121) (.tmp 124) 75 rfl WB.heap.size 42 j0 _ 2 16 Try.underlying75 kj kz0 kz1 kz2 rfl (by decide) _ (M.map StM.sp).length (sps (M.map StM.sp)) rfl TE.o10 ⟨_, 0, none⟩ 1 1 [.int .i64 b, .int .i64 tt] rfl rfl NE10 (two_one _ _) hM3 hM4 TE.fb.size ?_; intro v1 w11 ho1 hg1; have T10 := TE.app10 ho1 hg1 HN10.out HXN.out (Nat.le_refl _)) | (refine step_own rfl (.tmp 121) (.tmp 124) 75 rfl WB.heap.size 42 j0 _ 2 16 Try.underlying75 kj kz0 kz1 kz2 rfl (by decide) _ (M.map StM.sp).length (sps (M.map StM.sp)) rfl TB.o10 ⟨_, 0, none⟩ 1 1 [.int .i64 b, .int .i64 tt] rfl rfl NB10 (two_one _ _) hM3 hM4 TB.fb.size ?_; intro v1 w11 ho1 hg1; have T10 := TB.app10 ho1 hg1 HN10.out HXN.out (Nat.le_refl _); have H9 := news_kept hg1 lB9 (fun e => nB9 HN10.out e) NB9) | (refine step_own rfl (.tmp 121) (.tmp 124) 75 rfl WB.heap.size 42 j0 _ 2 16 Try.underlying75 kj kz0 kz1 kz2 rfl (by decide) _ (M.map StM.sp).length (sps (M.map StM.sp)) rfl TC.o10 ⟨_, 0, none⟩ 1 1 [.int .i64 b, .int .i64 tt] rfl rfl NC10 (two_one _ _) hM3 hM4 TC.fb.size ?_; intro v1 w11 ho1 hg1; have T10 := TC.app10 ho1 hg1 HN10.out HXN.out (Nat.le_refl _); have H9 := news_kept hg1 lC9 (fun e => nB10 HN10.out e) NC9))
                all_goals
                  obtain ⟨x9', c9', rfl, -, -, -, -⟩ := own_st TT.o9
                  obtain ⟨x10', c10', e10, -, -, -, -⟩ := own_spm TT.o10
                  rw [List.length_map] at e10
                  subst e10
                  have HTT := Lib.hid (HMK.out _ _ _ TT)
                  have ht30 := HT30.out
                  clear TT
                  go_wp2
                  go_roundw
                  case rel => exact ⟨j + 1, m2, y, k, tt, M ++ [(⟨b, tt, p.n, s0⟩ : StM)], x9', c9', x10', c10', by omega, by go_num, rfl, rfl, rfl, rfl, HTT.out⟩
                  case measure => simp [intOf]; omega
          · have hdl : decide ((j1 : Int) < (T.length : Int)) = false := decide_eq_false (by omega)
            have hdk : decide ((j : Int) + 1 < (T.length : Int)) = false := decide_eq_false (by omega)
            have HCH := Lib.hid (fun W (h : OpSl W x (midO l p s0 b)) => w_close HNO.out (by have := HL15.out; omega) s0 b tt x q W h HW.out.cap HW.out.top)
            unfold FT at HCH
            dsimp only at HCH
            have HJL := Lib.hid (show j + 1 = T.length by omega)
            clear hj1
            go_wp2_with fail
            refine (HCH.out _ HXW.out).mono ?_
            rintro e w2 ⟨m2, hm2, y, k, rfl, k1, k2, k3, z2, hB⟩
            clear HCH HXW htj hdl hdk hwj hl1
            have HROW : Hid ((j + 1 < T.length → ∃ s, m2 = midO l p s tt) ∧ (j + 1 = T.length → m2 = l)) := ⟨fun h => by have := HJL.out; omega, fun _ => hm2⟩
            clear hm2
            have K2 := HZ.out.below hB
            have hset := K2.set (.int .i64 b) (.int .i64 tt) (.int .i64 p.n) (.int .i64 s0)
            have HXN : Hid (∀ b' o, y = some ⟨b', o, none⟩ → wr.heap.size ≤ b') := fun b' o e => by have := k3 b' o e; rw [size1] at this; omega
            have T3 : Two WB (.slice x9 M.length c9) (.slice x10 M.length c10) M M y m2 wr.heap.size (⟨b, tt, p.n, s0⟩ : StM) (setO w2 wr.heap.size (.int .i64 b) (.int .i64 tt) (.int .i64 p.n) (.int .i64 s0)) :=
              ⟨HW.out.fb.trans (hset.mono HW.out.fb.size), own_below HW.out.o9 hset, own_below HW.out.o10 hset, z2.setO _ _ _ _ _ (fun b' o e => by have := k3 b' o e; rw [size1] at this; omega), zbBk K2 _ _ _ _⟩
            have HMK : Hid (∀ v9' v10' W', Two WB v9' v10' (M ++ [(⟨b, tt, p.n, s0⟩ : StM)]) (M ++ [(⟨b, tt, p.n, s0⟩ : StM)]) y m2 wr.heap.size (⟨b, tt, p.n, s0⟩ : StM) W' → Wh WB l p T.length v9' v10' (M ++ [(⟨b, tt, p.n, s0⟩ : StM)]) y k m2 tt (j + 1) W') := fun v9' v10' W' h =>
              ⟨h.fb, h.o9, h.o10, h.X, k1, k2, HW.out.ch.snoc rfl rfl HBT.out, by rw [List.length_append, HW.out.len]; rfl, HROW.out.1, HROW.out.2⟩
            have E3 := HK.out.1.E.below T3.fb
            obtain ⟨z0, z1, z2', z3⟩ := K2.cells
            obtain ⟨y0, y1, y2, y3⟩ := K2.free
            have hgl := K2.lt
            obtain ⟨d0, d1, d2, d3⟩ := T3.S.1
            clear c0 c1 c2 c3
            obtain ⟨c0, c1, c2, c3⟩ := E3.1
            have HT3 := Lib.hid T3
            unfold setO at HT3 d0 d1 d2 d3 c0 c1 c2 c3
            dsimp only at d0 d1 d2 d3
            have q1 : (p.n != p.n) = false := by simp
            have q2 : (tt != tt) = false := by simp
            have q0 : ((0 : Int) != 0) = false := rfl
            clear K2 hset k1 k2 k3 z2 hB T3 E3 HZ HROW
            go_wp2
            generalize hW3 : ((((w2.setCell ⟨wr.heap.size, 0, none⟩ (.int .i64 b)).setCell ⟨wr.heap.size, 1, none⟩ (.int .i64 tt)).setCell ⟨wr.heap.size, 2, none⟩ (.int .i64 p.n)).setCell ⟨wr.heap.size, 3, none⟩ (.int .i64 s0)) = W3 at *
            clear z0 z1 z2' z3 y0 y1 y2 y3 hgl d0 d1 d2 d3 c0 c1 c2 c3 hW3
            generalize wr.heap.size = N at *
            clear HW
            obtain ⟨wo, hwo⟩ : ∃ wo : World, wo = wr := ⟨_, rfl⟩
            rw [← hwo] at *
            clear hwo
            have hml := HML.out
            go_loopw [105] (fun i wr => ∃ (i' : Nat), i' ≤ M.length ∧ i = .int .i64 i' ∧ Hid (Below W3.heap.size W3 wr)) (fun i _ => M.length - (intOf i).toNat)
            case atStart => exact ⟨0, by omega, rfl, Below.refl _ _⟩
            case round =>
              obtain ⟨i', hi', rfl, HB⟩ := hrel
              have HT4 := Lib.hid (HT3.out.below HB.out)
              by_cases hil : i' < M.length
              · have hs9 : StSl wr x9 M := by
                  obtain ⟨a9, b9, e9, _, _, h9, _⟩ := own_st HT4.out.o9
                  injection e9 with e9
                  rw [e9]
                  exact h9
                obtain ⟨sb, so, rfl, -, r0, r1, r2, r3⟩ := hs9.at_ hil
                have htop := HTOP.out M[i'] (List.getElem_mem hil)
                generalize M[i'] = ym at *
                obtain ⟨e0, e1, e2, e3⟩ := cells4 (heap_alloc_new wr (.cells #[.int .i64 ym.f, .int .i64 ym.t, .int .i64 ym.n, .int .i64 ym.s] 44))
                have hb := below_one wr (.cells #[.int .i64 ym.f, .int .i64 ym.t, .int .i64 ym.n, .int .i64 ym.s] 44)
                obtain ⟨g0, g1, g2, g3⟩ := (HT4.out.S.below hb).1
                dsimp only at g0 g1 g2 g3
                have hle : decide (min ym.t tt ≤ max ym.f b) = true := decide_eq_true (by omega)
                have HMT := Lib.hid (fun W => w_meet ym.f ym.t b tt W)
                have HNN := Lib.hid (fun W => none_any (max ym.f b) (min ym.t tt) W)
                rw [hle] at HNN
                generalize max ym.f b = mf at *
                generalize min ym.t tt = mt at *
                have HBN := Lib.hid (HB.out.trans (hb.mono HB.out.size))
                clear hle htop hb hs9 HT4
                go_wp2_with fail
                refine (HMT.out _).mono ?_
                rintro e w5 ⟨rfl, hB5⟩
                replace HBN := Lib.hid (HBN.out.trans (hB5.mono HBN.out.size))
                clear hB5 HMT
                go_wp2_with fail
                refine (HNN.out _).mono ?_
                rintro e w6 ⟨rfl, hB6⟩
                replace HBN := Lib.hid (HBN.out.trans (hB6.mono HBN.out.size))
                clear hB6 HNN
                go_wp2
                go_roundw
                case rel => exact ⟨i' + 1, by omega, by go_num, HBN.out⟩
                case measure => simp [intOf]; omega
              · obtain ⟨i0, hi, hz0, hz1, hz2⟩ := info_parts infoStay
                obtain ⟨j0, kj, kz0, kz1, kz2⟩ := info_parts infoSpan
                have hgt : decide ((i' : Int) < (M.length : Int)) = false := decide_eq_false (by omega)
                have T0 := HT4.out
                have T0D := T0.drew
                have TA := (T0.alloc (.cells #[.int .i64 b, .int .i64 tt, .int .i64 p.n, .int .i64 s0] 44)).drew
                have TB := ((T0.alloc (.cells #[.int .i64 b, .int .i64 tt, .int .i64 p.n, .int .i64 s0] 44)).alloc (.cells #[.int .i64 b, .int .i64 tt] 42)).drew
                have TC := ((T0.alloc (.cells #[.int .i64 b, .int .i64 tt] 42)).alloc (.cells #[.int .i64 b, .int .i64 tt, .int .i64 p.n, .int .i64 s0] 44)).drew
                have TE := (T0.alloc (.cells #[.int .i64 b, .int .i64 tt] 42)).drew
                have NA9 := news_at wr #[.int .i64 b, .int .i64 tt, .int .i64 p.n, .int .i64 s0] 44 wr.heap.size rfl
                have NE10 := news_at wr #[.int .i64 b, .int .i64 tt] 42 wr.heap.size rfl
                have NB10 := news_at (wr.alloc (.cells #[.int .i64 b, .int .i64 tt, .int .i64 p.n, .int .i64 s0] 44)) #[.int .i64 b, .int .i64 tt] 42 (wr.heap.size + 1) (size1 _ _).symm
                have NC9 := news_at (wr.alloc (.cells #[.int .i64 b, .int .i64 tt] 42)) #[.int .i64 b, .int .i64 tt, .int .i64 p.n, .int .i64 s0] 44 (wr.heap.size + 1) (size1 _ _).symm
                have NB9 := news_below (below_one (wr.alloc (.cells #[.int .i64 b, .int .i64 tt, .int .i64 p.n, .int .i64 s0] 44)) (.cells #[.int .i64 b, .int .i64 tt] 42)) (by rw [size1]; omega) NA9
                have NC10 := news_below (below_one (wr.alloc (.cells #[.int .i64 b, .int .i64 tt] 42)) (.cells #[.int .i64 b, .int .i64 tt, .int .i64 p.n, .int .i64 s0] 44)) (by rw [size1]; omega) NE10
                change ∀ j u, [Value.int .i64 b, .int .i64 tt, .int .i64 p.n, .int .i64 s0][j]? = some u → (wr.alloc (.cells #[.int .i64 b, .int .i64 tt, .int .i64 p.n, .int .i64 s0] 44)).drew.cell? _ = some u at NA9
                change ∀ j u, [Value.int .i64 b, .int .i64 tt][j]? = some u → (wr.alloc (.cells #[.int .i64 b, .int .i64 tt] 42)).drew.cell? _ = some u at NE10
                change ∀ j u, [Value.int .i64 b, .int .i64 tt][j]? = some u → ((wr.alloc (.cells #[.int .i64 b, .int .i64 tt, .int .i64 p.n, .int .i64 s0] 44)).alloc (.cells #[.int .i64 b, .int .i64 tt] 42)).drew.cell? _ = some u at NB10
                change ∀ j u, [Value.int .i64 b, .int .i64 tt, .int .i64 p.n, .int .i64 s0][j]? = some u → ((wr.alloc (.cells #[.int .i64 b, .int .i64 tt] 42)).alloc (.cells #[.int .i64 b, .int .i64 tt, .int .i64 p.n, .int .i64 s0] 44)).drew.cell? _ = some u at NC9
                change ∀ j u, [Value.int .i64 b, .int .i64 tt, .int .i64 p.n, .int .i64 s0][j]? = some u → ((wr.alloc (.cells #[.int .i64 b, .int .i64 tt, .int .i64 p.n, .int .i64 s0] 44)).alloc (.cells #[.int .i64 b, .int .i64 tt] 42)).drew.cell? _ = some u at NB9
                change ∀ j u, [Value.int .i64 b, .int .i64 tt][j]? = some u → ((wr.alloc (.cells #[.int .i64 b, .int .i64 tt] 42)).alloc (.cells #[.int .i64 b, .int .i64 tt, .int .i64 p.n, .int .i64 s0] 44)).drew.cell? _ = some u at NC10
                have hNw : N < wr.heap.size := T0.S.2
                have lB9 : wr.heap.size < ((wr.alloc (.cells #[.int .i64 b, .int .i64 tt, .int .i64 p.n, .int .i64 s0] 44)).alloc (.cells #[.int .i64 b, .int .i64 tt] 42)).drew.heap.size := by show _ < ((wr.alloc _).alloc _).heap.size; rw [size1, size1]; omega
                have lB10 : wr.heap.size + 1 < ((wr.alloc (.cells #[.int .i64 b, .int .i64 tt, .int .i64 p.n, .int .i64 s0] 44)).alloc (.cells #[.int .i64 b, .int .i64 tt] 42)).drew.heap.size := by show _ < ((wr.alloc _).alloc _).heap.size; rw [size1, size1]; omega
                have lC10 : wr.heap.size < ((wr.alloc (.cells #[.int .i64 b, .int .i64 tt] 42)).alloc (.cells #[.int .i64 b, .int .i64 tt, .int .i64 p.n, .int .i64 s0] 44)).drew.heap.size := by show _ < ((wr.alloc _).alloc _).heap.size; rw [size1, size1]; omega
                have lC9 : wr.heap.size + 1 < ((wr.alloc (.cells #[.int .i64 b, .int .i64 tt] 42)).alloc (.cells #[.int .i64 b, .int .i64 tt, .int .i64 p.n, .int .i64 s0] 44)).drew.heap.size := by show _ < ((wr.alloc _).alloc _).heap.size; rw [size1, size1]; omega
                have nB9 : ∀ {v : Value}, (∀ k, v.ownBlock = some k → k < N) → some wr.heap.size = v.ownBlock → False := fun h e => by have := h _ e.symm; omega
                have nB10 : ∀ {v : Value}, (∀ k, v.ownBlock = some k → k < N) → some (wr.heap.size + 1) = v.ownBlock → False := fun h e => by have := h _ e.symm; omega
                have hM1 : M.length + 1 ≤ maxLen := by have := HML.out; unfold maxLen; omega
                have hM2 : (M.length + 1) * 32 ≤ 140737488355328 := by have := HML.out; omega
                have hM3 : (M.map StM.sp).length + 1 ≤ maxLen := by have := HML.out; rw [List.length_map]; unfold maxLen; omega
                have hM4 : ((M.map StM.sp).length + 1) * 16 ≤ 140737488355328 := by have := HML.out; rw [List.length_map]; omega
                have HSC2 : Hid (∀ {v9' v10' M9 M10 W}, Two WB v9' v10' M9 M10 y m2 N (⟨b, tt, p.n, s0⟩ : StM) W → W.cell? ⟨N, 0, none⟩ = some (.int .i64 b) ∧ W.cell? ⟨N, 1, none⟩ = some (.int .i64 tt) ∧ W.cell? ⟨N, 2, none⟩ = some (.int .i64 p.n) ∧ W.cell? ⟨N, 3, none⟩ = some (.int .i64 s0)) := fun h => h.S.1
                clear HT4 T0 HTOP HK hi'
                go_wp2_with fail
                go_region_held3 (fun W => W.cell? ⟨N, 0, none⟩ = some (.int .i64 b) ∧ W.cell? ⟨N, 1, none⟩ = some (.int .i64 tt) ∧ W.cell? ⟨N, 2, none⟩ = some (.int .i64 p.n) ∧ W.cell? ⟨N, 3, none⟩ = some (.int .i64 s0))
                  (first | with_reducible exact HSC2.out TT | with_reducible exact HSC2.out T9 | with_reducible exact HSC2.out T10 | with_reducible exact HSC2.out (T9.alloc _) | with_reducible exact HSC2.out (T10.alloc _) | with_reducible exact HSC2.out T0D | with_reducible exact HSC2.out (T0D.alloc _) | with_reducible exact HSC2.out ((T0D.alloc _).alloc _) | with_reducible exact HSC2.out TA | with_reducible exact HSC2.out TB | with_reducible exact HSC2.out TC | with_reducible exact HSC2.out TE)
                  (first | (have hseen := T10; clear hseen; first | (refine step_own rfl (.tmp 117) (.tmp 119) 63 rfl WB.heap.size 44 i0 _ 4 32 Try.underlying63 hi hz0 hz1 hz2 rfl (by decide) _ M.length (sts M) rfl T10.o9 ⟨_, 0, none⟩ 1 1 [.int .i64 b, .int .i64 tt, .int .i64 p.n, .int .i64 s0] rfl rfl H9 (st_one _ _ _ _) hM1 hM2 T10.fb.size ?_; intro v2 w12 ho2 hg2; have TT := T10.app9 ho2 hg2 HN9.out HXN.out (Nat.le_refl _)) | (refine step_own rfl (.tmp 117) (.tmp 119) 63 rfl WB.heap.size 44 i0 _ 4 32 Try.underlying63 hi hz0 hz1 hz2 rfl (by decide) _ M.length (sts M) rfl (T10.alloc (.cells #[.int .i64 b, .int .i64 tt, .int .i64 p.n, .int .i64 s0] 44)).o9 ⟨_, 0, none⟩ 1 1 [.int .i64 b, .int .i64 tt, .int .i64 p.n, .int .i64 s0] rfl rfl (news_at _ _ _ _ rfl) (st_one _ _ _ _) hM1 hM2 (T10.alloc (.cells #[.int .i64 b, .int .i64 tt, .int .i64 p.n, .int .i64 s0] 44)).fb.size ?_; intro v2 w12 ho2 hg2; have TT := (T10.alloc (.cells #[.int .i64 b, .int .i64 tt, .int .i64 p.n, .int .i64 s0] 44)).app9 ho2 hg2 HN9.out HXN.out (Nat.le_refl _))) | (have hseen := T9; clear hseen; first | (refine step_own rfl (.tmp 121) (.tmp 124) 75 rfl WB.heap.size 42 j0 _ 2 16 Try.underlying75 kj kz0 kz1 kz2 rfl (by decide) _ (M.map StM.sp).length (sps (M.map StM.sp)) rfl T9.o10 ⟨_, 0, none⟩ 1 1 [.int .i64 b, .int .i64 tt] rfl rfl H10 (two_one _ _) hM3 hM4 T9.fb.size ?_; intro v2 w12 ho2 hg2; have TT := T9.app10 ho2 hg2 HN10.out HXN.out (Nat.le_refl _)) | (refine step_own rfl (.tmp 121) (.tmp 124) 75 rfl WB.heap.size 42 j0 _ 2 16 Try.underlying75 kj kz0 kz1 kz2 rfl (by decide) _ (M.map StM.sp).length (sps (M.map StM.sp)) rfl (T9.alloc (.cells #[.int .i64 b, .int .i64 tt] 42)).o10 ⟨_, 0, none⟩ 1 1 [.int .i64 b, .int .i64 tt] rfl rfl (news_at _ _ _ _ rfl) (two_one _ _) hM3 hM4 (T9.alloc (.cells #[.int .i64 b, .int .i64 tt] 42)).fb.size ?_; intro v2 w12 ho2 hg2; have TT := (T9.alloc (.cells #[.int .i64 b, .int .i64 tt] 42)).app10 ho2 hg2 HN10.out HXN.out (Nat.le_refl _))) | (refine step_own rfl (.tmp 117) (.tmp 119) 63 rfl WB.heap.size 44 i0 _ 4 32 Try.underlying63 hi hz0 hz1 hz2 rfl (by decide) _ M.length (sts M) rfl TA.o9 ⟨_, 0, none⟩ 1 1 [.int .i64 b, .int .i64 tt, .int .i64 p.n, .int .i64 s0] rfl rfl NA9 (st_one _ _ _ _) hM1 hM2 TA.fb.size ?_; intro v1 w11 ho1 hg1; have T9 := TA.app9 ho1 hg1 HN9.out HXN.out (Nat.le_refl _)) | (refine step_own rfl (.tmp 117) (.tmp 119) 63 rfl WB.heap.size 44 i0 _ 4 32 Try.underlying63 hi hz0 hz1 hz2 rfl (by decide) _ M.length (sts M) rfl TB.o9 ⟨_, 0, none⟩ 1 1 [.int .i64 b, .int .i64 tt, .int .i64 p.n, .int .i64 s0] rfl rfl NB9 (st_one _ _ _ _) hM1 hM2 TB.fb.size ?_; intro v1 w11 ho1 hg1; have T9 := TB.app9 ho1 hg1 HN9.out HXN.out (Nat.le_refl _); have H10 := news_kept hg1 lB10 (fun e => nB10 HN9.out e) NB10) | (refine step_own rfl (.tmp 117) (.tmp 119) 63 rfl WB.heap.size 44 i0 _ 4 32 Try.underlying63 hi hz0 hz1 hz2 rfl (by decide) _ M.length (sts M) rfl TC.o9 ⟨_, 0, none⟩ 1 1 [.int .i64 b, .int .i64 tt, .int .i64 p.n, .int .i64 s0] rfl rfl NC9 (st_one _ _ _ _) hM1 hM2 TC.fb.size ?_; intro v1 w11 ho1 hg1; have T9 := TC.app9 ho1 hg1 HN9.out HXN.out (Nat.le_refl _); have H10 := news_kept hg1 lC10 (fun e => nB9 HN9.out e) NC10) | (refine step_own rfl (.tmp 121) (.tmp 124) 75 rfl WB.heap.size 42 j0 _ 2 16 Try.underlying75 kj kz0 kz1 kz2 rfl (by decide) _ (M.map StM.sp).length (sps (M.map StM.sp)) rfl TE.o10 ⟨_, 0, none⟩ 1 1 [.int .i64 b, .int .i64 tt] rfl rfl NE10 (two_one _ _) hM3 hM4 TE.fb.size ?_; intro v1 w11 ho1 hg1; have T10 := TE.app10 ho1 hg1 HN10.out HXN.out (Nat.le_refl _)) | (refine step_own rfl (.tmp 121) (.tmp 124) 75 rfl WB.heap.size 42 j0 _ 2 16 Try.underlying75 kj kz0 kz1 kz2 rfl (by decide) _ (M.map StM.sp).length (sps (M.map StM.sp)) rfl TB.o10 ⟨_, 0, none⟩ 1 1 [.int .i64 b, .int .i64 tt] rfl rfl NB10 (two_one _ _) hM3 hM4 TB.fb.size ?_; intro v1 w11 ho1 hg1; have T10 := TB.app10 ho1 hg1 HN10.out HXN.out (Nat.le_refl _); have H9 := news_kept hg1 lB9 (fun e => nB9 HN10.out e) NB9) | (refine step_own rfl (.tmp 121) (.tmp 124) 75 rfl WB.heap.size 42 j0 _ 2 16 Try.underlying75 kj kz0 kz1 kz2 rfl (by decide) _ (M.map StM.sp).length (sps (M.map StM.sp)) rfl TC.o10 ⟨_, 0, none⟩ 1 1 [.int .i64 b, .int .i64 tt] rfl rfl NC10 (two_one _ _) hM3 hM4 TC.fb.size ?_; intro v1 w11 ho1 hg1; have T10 := TC.app10 ho1 hg1 HN10.out HXN.out (Nat.le_refl _); have H9 := news_kept hg1 lC9 (fun e => nB10 HN10.out e) NC9))
                all_goals
                  obtain ⟨x9', c9', rfl, -, -, -, -⟩ := own_st TT.o9
                  obtain ⟨x10', c10', e10, -, -, -, -⟩ := own_spm TT.o10
                  rw [List.length_map] at e10
                  subst e10
                  have HTT := Lib.hid (HMK.out _ _ _ TT)
                  have ht30 := HT30.out
                  clear TT
                  go_wp2
                  go_roundw
                  case rel => exact ⟨j + 1, m2, y, k, tt, M ++ [(⟨b, tt, p.n, s0⟩ : StM)], x9', c9', x10', c10', by omega, by go_num, rfl, rfl, rfl, rfl, HTT.out⟩
                  case measure => simp [intOf]; omega
      · have hjT : j = T.length := by omega
        have hml2 : m = l := HW.out.fin hjT
        have HXl : Hid (OpSl wr x l) := by have := HW.out.X; rw [hml2] at this; exact this
        rw [hml2]
        have hs10 : SpSl wr x10 (M.map StM.sp) ∧ (M.map StM.sp).length ≤ c10 ∧ c10 ≤ maxLen := by
          obtain ⟨a9, b9, e9, h7, h8, h9, _⟩ := own_spm HW.out.o10
          injection e9 with e9 _ e8
          rw [e9, e8]
          exact ⟨h9, h7, h8⟩
        have HS10 := Lib.hid hs10
        have HLM : Hid (M.length ≤ 100) := by have h1 := HW.out.len; have h2 := HT30.out; unfold Hid; omega
        have HFI : Hid (∀ W (h : OpSl W x l), Calls Try.prog 20 #[.slice x l.length q, .int .i64 p.n, .string p.u] W fun e w' => e = .returned (.tuple #[.agg #[.int .i64 0, .string ⟨#[]⟩, .int .i64 0, .int .i64 0], .int .i64 101]) ∧ Below W.heap.size W w') := fun W h => by
          have hc := o_find x q l p.n p.u W h (by have := HL15.out; omega)
          obtain ⟨f1, f2, -⟩ := fc_miss (l := l) (n := p.n) ⟨Nat.le_refl _, fun i hi _ => decide_eq_false (HNO.out _ (List.getElem_mem hi)), fun h => absurd h (by omega)⟩ p.u
          rw [f1, f2] at hc
          exact hc
        have HN1 : Hid (∀ W, SpSl W x10 (M.map StM.sp) → Calls Try.prog 38 #[.slice x10 M.length c10] W fun e w' => ∃ y k, e = .returned (.slice y (oneR p.f b).length k) ∧ SpSl w' y (oneR p.f b) ∧ Below W.heap.size W w') := fun W h => by
          have hc := w_norm p.f b (M.map StM.sp) HW.out.ch.has x10 c10 W h HS10.out.2.1 HS10.out.2.2 (by rw [List.length_map]; have := HLM.out; omega)
          rw [List.length_map] at hc
          exact hc
        have HN2 := Lib.hid (fun k W (h : SpSl W (some ⟨k, 0, none⟩) [⟨p.f, b⟩]) => w_norm p.f b [⟨p.f, b⟩] (fun x => hasL_one (s := ⟨p.f, b⟩)) (some ⟨k, 0, none⟩) 1 W h (Nat.le_refl _) (by decide) (by simp))
        have HSA := Lib.hid (fun y z k r W (h : SpSl W y (oneR p.f b)) (h2 : SpSl W z (oneR p.f b)) => c_same y z k r (oneR p.f b) W h h2 (by have := oneR_len p.f b; omega))
        have HR1 := Lib.hid (fun W (h : OpSl W a l) => o_rrising a c l W h HSZ.out (by have := HL15.out; omega))
        have HL2 := Lib.hid (fun x q W (h : OpSl W x l) => o_olds x q l W h (by have := HL15.out; omega))
        have HS2 := Lib.hid (fun x q W (h : OpSl W x l) (k : OpSl W a l) => o_rsame1 x a q c l W h k (by have := HL15.out; omega))
        generalize oneR p.f b = rr at *
        obtain ⟨⟨c0, c1, c2, c3⟩, -⟩ := HK.out.1.E.below HW.out.fb
        have KF := Lib.hid (Kf.mk (HK.out.1.below HW.out.fb) HXl.out hs10.1)
        clear hs10 HS10 hml2 hjT HXl
        go_wp2_with fail
        refine (HFI.out _ KF.out.X).mono ?_
        rintro e w2 ⟨rfl, hB⟩
        have hZ := below_one w2 (.cells #[.int .i64 0, .string ⟨#[]⟩, .int .i64 0, .int .i64 0] 31)
        have K0 := ((KF.out.below hB).below hZ).below (Below.refl _ _).drew
        clear hB hZ c0 c1 c2 c3 KF HFI HW
        by_cases hri : RiseO l
        · rw [decide_eq_true hri] at HR1
          clear hri
          go_wp2_with fail
          refine wp_region_held_drew (S := (fun W => W.cell? ⟨g, 3, none⟩ = some (.int .i64 p.f))) (by kernel_rfl) ?_ (fun hHeld => ?_)
          · exact K0.K.E.1.2.2.2
          refine wpAnyH_ready (rs := [0]) (by kernel_rfl) (by simp) ?_
          refine AllReadyH.cons (o := ⟨some 136, _, _, _, _, _⟩) rfl (fun K hK => ?_) AllReadyH.nil
          go_simp
          refine (HAL.out _).mono ?_
          rintro e v1 ⟨rfl, hB⟩
          have K1 := K0.below hB
          clear hB
          go_wp2_with fail
          refine hK.out _ _ ?_ (fun hH => ?_)
          · exact K1.K.E.1.2.2.2
          clear hK K
          (try simp only [Act.put, List.setIfInBounds_toArray, List.set_cons_zero, List.set_cons_succ])
          refine wpAnyH_take (i := 1) (oi := ⟨some 137, _, _, _, _, _⟩) (v := ?_) rfl (by kernel_rfl) (by kernel_rfl) (by kernel_rfl) (fun _ _ _ h => h) (Or.inl ⟨by rfl, ?_⟩) (by assumption) ?_
          rotate_left
          · (intro wS hSw; (try dsimp only at hSw); (go_simp) <;> (with_reducible rfl))
          (try simp only [Act.put, List.setIfInBounds_toArray, List.set_cons_zero, List.set_cons_succ])
          refine wpAnyH_take (i := 2) (oi := ⟨some 138, _, _, _, _, _⟩) (v := ?_) rfl (by kernel_rfl) (by kernel_rfl) (by kernel_rfl) (fun _ _ _ h => h) (Or.inl ⟨by rfl, ?_⟩) (by assumption) ?_
          rotate_left
          · (intro wS hSw; (try dsimp only at hSw); (go_simp) <;> (with_reducible rfl))
          (try simp only [Act.put, List.setIfInBounds_toArray, List.set_cons_zero, List.set_cons_succ])
          refine wpAnyH_take (i := 3) (oi := ⟨some 139, _, _, _, _, _⟩) (v := ?_) rfl (by kernel_rfl) (by kernel_rfl) (by kernel_rfl) (fun _ _ _ h => h) (Or.inl ⟨by rfl, ?_⟩) (by assumption) ?_
          rotate_left
          · (intro wS hSw; (try dsimp only at hSw); (go_simp) <;> (with_reducible rfl))
          (try simp only [Act.put, List.setIfInBounds_toArray, List.set_cons_zero, List.set_cons_succ])
          refine wpAnyH_take (i := 4) (oi := ⟨some 140, _, _, _, _, _⟩) (v := ?_) rfl (by kernel_rfl) (by kernel_rfl) (by kernel_rfl) (fun _ _ _ h => h) (Or.inl ⟨by rfl, ?_⟩) (by assumption) ?_
          rotate_left
          · (intro wS hSw; (try dsimp only at hSw); (go_simp) <;> (with_reducible rfl))
          (try simp only [Act.put, List.setIfInBounds_toArray, List.set_cons_zero, List.set_cons_succ])
          refine wpAnyH_take (i := 5) (oi := ⟨some 141, _, _, _, _, _⟩) (v := ?_) rfl (by kernel_rfl) (by kernel_rfl) (by kernel_rfl) (fun _ _ _ h => h) (Or.inl ⟨by rfl, ?_⟩) (by assumption) ?_
          rotate_left
          · (intro wS hSw; (try dsimp only at hSw); (go_simp) <;> (with_reducible rfl))
          (try simp only [Act.put, List.setIfInBounds_toArray, List.set_cons_zero, List.set_cons_succ])
          refine wpAnyH_take (i := 6) (oi := ⟨some 142, _, _, _, _, _⟩) (v := ?_) rfl (by kernel_rfl) (by kernel_rfl) (by kernel_rfl) (fun _ _ _ h => h) (Or.inl ⟨by rfl, ?_⟩) (by assumption) ?_
          rotate_left
          · (intro wS hSw; (try dsimp only at hSw); (go_simp) <;> (with_reducible rfl))
          (try simp only [Act.put, List.setIfInBounds_toArray, List.set_cons_zero, List.set_cons_succ])
          refine wpAnyH_ready (rs := [7]) (by kernel_rfl) (by simp) ?_
          refine AllReadyH.cons (o := ⟨some 143, _, _, _, _, _⟩) rfl (fun K hK => ?_) AllReadyH.nil
          go_simp
          refine (HR1.out _ K1.K.A).mono ?_
          rintro e v2 ⟨rfl, hB⟩
          have K2 := K1.below hB
          clear hB
          go_wp2_with fail
          refine hK.out _ _ ?_ (fun hH => ?_)
          · exact K2.K.E.1.2.2.2
          clear hK K
          (try simp only [Act.put, List.setIfInBounds_toArray, List.set_cons_zero, List.set_cons_succ])
          refine wpAnyH_take (i := 8) (oi := ⟨some 144, _, _, _, _, _⟩) (v := ?_) rfl (by kernel_rfl) (by kernel_rfl) (by kernel_rfl) (fun _ _ _ h => h) (Or.inl ⟨by rfl, ?_⟩) (by assumption) ?_
          rotate_left
          · (intro wS hSw; (try dsimp only at hSw); (go_simp) <;> (with_reducible rfl))
          (try simp only [Act.put, List.setIfInBounds_toArray, List.set_cons_zero, List.set_cons_succ])
          refine wpAnyH_take (i := 9) (oi := ⟨some 145, _, _, _, _, _⟩) (v := ?_) rfl (by kernel_rfl) (by kernel_rfl) (by kernel_rfl) (fun _ _ _ h => h) (Or.inl ⟨by rfl, ?_⟩) (by assumption) ?_
          rotate_left
          · (intro wS hSw; (try dsimp only at hSw); (go_simp) <;> (with_reducible rfl))
          (try simp only [Act.put, List.setIfInBounds_toArray, List.set_cons_zero, List.set_cons_succ])
          refine wpAnyH_take (i := 10) (oi := ⟨some 146, _, _, _, _, _⟩) (v := ?_) rfl (by kernel_rfl) (by kernel_rfl) (by kernel_rfl) (fun _ _ _ h => h) (Or.inl ⟨by rfl, ?_⟩) (by assumption) ?_
          rotate_left
          · (intro wS hSw; (try dsimp only at hSw); (go_simp) <;> (with_reducible rfl))
          (try simp only [Act.put, List.setIfInBounds_toArray, List.set_cons_zero, List.set_cons_succ])
          refine wpAnyH_take (i := 12) (oi := ⟨some 148, _, _, _, _, _⟩) (v := ?_) rfl (by kernel_rfl) (by kernel_rfl) (by kernel_rfl) (fun _ _ _ h => h) (Or.inl ⟨by rfl, ?_⟩) (by assumption) ?_
          rotate_left
          · (intro wS hSw; (try dsimp only at hSw); (go_simp) <;> (with_reducible rfl))
          (try simp only [Act.put, List.setIfInBounds_toArray, List.set_cons_zero, List.set_cons_succ])
          refine wpAnyH_ready (rs := [11]) (by kernel_rfl) (by simp) ?_
          refine AllReadyH.cons (o := ⟨some 147, _, _, _, _, _⟩) rfl (fun K hK => ?_) AllReadyH.nil
          go_simp
          refine (HL2.out x q _ K2.X).mono ?_
          rintro e v3 ⟨z, r, rfl, -, -, -, zz, hB⟩
          have K3 := K2.below hB
          clear hB
          go_wp2_with fail
          refine hK.out _ _ ?_ (fun hH => ?_)
          · exact K3.K.E.1.2.2.2
          clear hK K
          (try simp only [Act.put, List.setIfInBounds_toArray, List.set_cons_zero, List.set_cons_succ])
          refine wpAnyH_ready (rs := [13]) (by kernel_rfl) (by simp) ?_
          refine AllReadyH.cons (o := ⟨some 149, _, _, _, _, _⟩) rfl (fun K hK => ?_) AllReadyH.nil
          go_simp
          refine (HS2.out z r _ zz K3.K.A).mono ?_
          rintro e v4 ⟨rfl, hB⟩
          have K4 := K3.below hB
          clear hB zz
          go_wp2_with fail
          refine hK.out _ _ ?_ (fun hH => ?_)
          · exact K4.K.E.1.2.2.2
          clear hK K
          (try simp only [Act.put, List.setIfInBounds_toArray, List.set_cons_zero, List.set_cons_succ])
          refine wpAnyH_take (i := 14) (oi := ⟨some 150, _, _, _, _, _⟩) (v := ?_) rfl (by kernel_rfl) (by kernel_rfl) (by kernel_rfl) (fun _ _ _ h => h) (Or.inl ⟨by rfl, ?_⟩) (by assumption) ?_
          rotate_left
          · (intro wS hSw; (try dsimp only at hSw); (go_simp) <;> (with_reducible rfl))
          (try simp only [Act.put, List.setIfInBounds_toArray, List.set_cons_zero, List.set_cons_succ])
          refine wpAnyH_take (i := 15) (oi := ⟨some 151, _, _, _, _, _⟩) (v := ?_) rfl (by kernel_rfl) (by kernel_rfl) (by kernel_rfl) (fun _ _ _ h => h) (Or.inl ⟨by rfl, ?_⟩) (by assumption) ?_
          rotate_left
          · (intro wS hSw; (try dsimp only at hSw); (go_simp) <;> (with_reducible rfl))
          (try simp only [Act.put, List.setIfInBounds_toArray, List.set_cons_zero, List.set_cons_succ])
          refine wpAnyH_take (i := 16) (oi := ⟨some 152, _, _, _, _, _⟩) (v := ?_) rfl (by kernel_rfl) (by kernel_rfl) (by kernel_rfl) (fun _ _ _ h => h) (Or.inl ⟨by rfl, ?_⟩) (by assumption) ?_
          rotate_left
          · (intro wS hSw; (try dsimp only at hSw); (go_simp) <;> (with_reducible rfl))
          (try simp only [Act.put, List.setIfInBounds_toArray, List.set_cons_zero, List.set_cons_succ])
          refine wpAnyH_take (i := 17) (oi := ⟨some 153, _, _, _, _, _⟩) (v := ?_) rfl (by kernel_rfl) (by kernel_rfl) (by kernel_rfl) (fun _ _ _ h => h) (Or.inl ⟨by rfl, ?_⟩) (by assumption) ?_
          rotate_left
          · (intro wS hSw; (try dsimp only at hSw); (go_simp) <;> (with_reducible rfl))
          (try simp only [Act.put, List.setIfInBounds_toArray, List.set_cons_zero, List.set_cons_succ])
          refine wpAnyH_take (i := 19) (oi := ⟨some 155, _, _, _, _, _⟩) (v := ?_) rfl (by kernel_rfl) (by kernel_rfl) (by kernel_rfl) (fun _ _ _ h => h) (Or.inl ⟨by rfl, ?_⟩) (by assumption) ?_
          rotate_left
          · (intro wS hSw; (try dsimp only at hSw); (go_simp) <;> (with_reducible rfl))
          (try simp only [Act.put, List.setIfInBounds_toArray, List.set_cons_zero, List.set_cons_succ])
          refine wpAnyH_take (i := 20) (oi := ⟨some 156, _, _, _, _, _⟩) (v := ?_) rfl (by kernel_rfl) (by kernel_rfl) (by kernel_rfl) (fun _ _ _ h => h) (Or.inl ⟨by rfl, ?_⟩) (by assumption) ?_
          rotate_left
          · (intro wS hSw; (try dsimp only at hSw); (go_simp) <;> (with_reducible rfl))
          (try simp only [Act.put, List.setIfInBounds_toArray, List.set_cons_zero, List.set_cons_succ])
          refine wpAnyH_take (i := 21) (oi := ⟨some 157, _, _, _, _, _⟩) (v := ?_) rfl (by kernel_rfl) (by kernel_rfl) (by kernel_rfl) (fun _ _ _ h => h) (Or.inl ⟨by rfl, ?_⟩) (by assumption) ?_
          rotate_left
          · (intro wS hSw; (try dsimp only at hSw); (go_simp) <;> (with_reducible rfl))
          (try simp only [Act.put, List.setIfInBounds_toArray, List.set_cons_zero, List.set_cons_succ])
          refine wpAnyH_take (i := 22) (oi := ⟨some 158, _, _, _, _, _⟩) (v := ?_) rfl (by kernel_rfl) (by kernel_rfl) (by kernel_rfl) (fun _ _ _ h => h) (Or.inl ⟨by rfl, ?_⟩) (by assumption) ?_
          rotate_left
          · (intro wS hSw; (try dsimp only at hSw); (go_simp) <;> (with_reducible rfl))
          (try simp only [Act.put, List.setIfInBounds_toArray, List.set_cons_zero, List.set_cons_succ])
          refine wpAnyH_ready (rs := [18, 23]) (by kernel_rfl) (by simp) ?_
          refine AllReadyH.cons (o := ⟨some 154, _, _, _, _, _⟩) rfl (fun K hK => ?_) ?_
          · go_simp
            refine (HN1.out _ K4.S).mono ?_
            rintro e v5 ⟨y1, n1, rfl, s1, hB⟩
            have K5 := K4.below hB
            clear hB
            go_wp2_with fail
            refine hK.out _ _ ?_ (fun hH => ?_)
            · exact K5.K.E.1.2.2.2
            clear hK K
            (try simp only [Act.put, List.setIfInBounds_toArray, List.set_cons_zero, List.set_cons_succ])
            refine wpAnyH_ready (rs := [23]) (by kernel_rfl) (by simp) ?_
            refine AllReadyH.cons (o := ⟨some 159, _, _, _, _, _⟩) rfl (fun K hK => ?_) AllReadyH.nil
            go_simp
            refine hK.out _ _ ?_ (fun hH => ?_)
            · exact (K5.below (below_one _ _)).K.E.1.2.2.2
            clear hK K
            (try simp only [Act.put, List.setIfInBounds_toArray, List.set_cons_zero, List.set_cons_succ])
            refine wpAnyH_ready (rs := [24]) (by kernel_rfl) (by simp) ?_
            refine AllReadyH.cons (o := ⟨some 160, _, _, _, _, _⟩) rfl (fun K hK => ?_) AllReadyH.nil
            go_simp
            refine (HN2.out _ _ (cells_sp v5 [⟨p.f, b⟩] #[.int .i64 p.f, .int .i64 b] 42 _ rfl rfl)).mono ?_
            rintro e v6 ⟨y2, n2, rfl, s2, hB⟩
            have K6 := (K5.below (below_one _ _)).below hB
            replace s1 := (s1.below (below_one _ _)).below hB
            clear hB
            go_wp2_with fail
            refine hK.out _ _ ?_ (fun hH => ?_)
            · exact K6.K.E.1.2.2.2
            clear hK K
            (try simp only [Act.put, List.setIfInBounds_toArray, List.set_cons_zero, List.set_cons_succ])
            refine wpAnyH_ready (rs := [25]) (by kernel_rfl) (by simp) ?_
            refine AllReadyH.cons (o := ⟨some 161, _, _, _, _, _⟩) rfl (fun K hK => ?_) AllReadyH.nil
            go_simp
            refine (HSA.out y1 y2 n1 n2 _ s1 s2).mono ?_
            rintro e v7 ⟨rfl, hB⟩
            have K7 := K6.below hB
            clear hB
            go_wp2_with fail
            refine hK.out _ _ ?_ (fun hH => ?_)
            · exact K7.K.E.1.2.2.2
            clear hK K
            (try simp only [Act.put, List.setIfInBounds_toArray, List.set_cons_zero, List.set_cons_succ])
            refine wpAnyH_take (i := 26) (oi := ⟨some 162, _, _, _, _, _⟩) (v := ?_) rfl (by kernel_rfl) (by kernel_rfl) (by kernel_rfl) (fun _ _ _ h => h) (Or.inl ⟨by rfl, ?_⟩) (by assumption) ?_
            rotate_left
            · (intro wS hSw; (try dsimp only at hSw); (go_simp) <;> (with_reducible rfl))
            (try simp only [Act.put, List.setIfInBounds_toArray, List.set_cons_zero, List.set_cons_succ])
            refine wpAnyH_take (i := 27) (oi := ⟨some 6, _, _, _, _, _⟩) (v := ?_) rfl (by kernel_rfl) (by kernel_rfl) (by kernel_rfl) (fun _ _ _ h => h) (Or.inl ⟨by rfl, ?_⟩) (by assumption) ?_
            rotate_left
            · (intro wS hSw; (try dsimp only at hSw); (go_simp) <;> (with_reducible rfl))
            (try simp only [Act.put, List.setIfInBounds_toArray, List.set_cons_zero, List.set_cons_succ])
            refine wpAnyH_done (by kernel_rfl) ?_ _
            go_wp2
            go_ret
            exact ⟨rfl, K7.K.F⟩
          refine AllReadyH.cons (o := ⟨some 159, _, _, _, _, _⟩) rfl (fun K hK => ?_) AllReadyH.nil
          go_simp
          refine hK.out _ _ ?_ (fun hH => ?_)
          · exact (K4.below (below_one _ _)).K.E.1.2.2.2
          clear hK K
          (try simp only [Act.put, List.setIfInBounds_toArray, List.set_cons_zero, List.set_cons_succ])
          refine wpAnyH_ready (rs := [18]) (by kernel_rfl) (by simp) ?_
          refine AllReadyH.cons (o := ⟨some 154, _, _, _, _, _⟩) rfl (fun K hK => ?_) AllReadyH.nil
          go_simp
          refine (HN1.out _ (K4.S.below (below_one _ _))).mono ?_
          rintro e v5 ⟨y1, n1, rfl, s1, hB⟩
          have K5 := (K4.below (below_one _ _)).below hB
          have hrow := ((cells_sp v4 [⟨p.f, b⟩] #[.int .i64 p.f, .int .i64 b] 42 _ rfl rfl)).below hB
          clear hB
          go_wp2_with fail
          refine hK.out _ _ ?_ (fun hH => ?_)
          · exact K5.K.E.1.2.2.2
          clear hK K
          (try simp only [Act.put, List.setIfInBounds_toArray, List.set_cons_zero, List.set_cons_succ])
          refine wpAnyH_ready (rs := [24]) (by kernel_rfl) (by simp) ?_
          refine AllReadyH.cons (o := ⟨some 160, _, _, _, _, _⟩) rfl (fun K hK => ?_) AllReadyH.nil
          go_simp
          refine (HN2.out _ _ hrow).mono ?_
          rintro e v6 ⟨y2, n2, rfl, s2, hB⟩
          have K6 := K5.below hB
          replace s1 := s1.below hB
          clear hB hrow
          go_wp2_with fail
          refine hK.out _ _ ?_ (fun hH => ?_)
          · exact K6.K.E.1.2.2.2
          clear hK K
          (try simp only [Act.put, List.setIfInBounds_toArray, List.set_cons_zero, List.set_cons_succ])
          refine wpAnyH_ready (rs := [25]) (by kernel_rfl) (by simp) ?_
          refine AllReadyH.cons (o := ⟨some 161, _, _, _, _, _⟩) rfl (fun K hK => ?_) AllReadyH.nil
          go_simp
          refine (HSA.out y1 y2 n1 n2 _ s1 s2).mono ?_
          rintro e v7 ⟨rfl, hB⟩
          have K7 := K6.below hB
          clear hB
          go_wp2_with fail
          refine hK.out _ _ ?_ (fun hH => ?_)
          · exact K7.K.E.1.2.2.2
          clear hK K
          (try simp only [Act.put, List.setIfInBounds_toArray, List.set_cons_zero, List.set_cons_succ])
          refine wpAnyH_take (i := 26) (oi := ⟨some 162, _, _, _, _, _⟩) (v := ?_) rfl (by kernel_rfl) (by kernel_rfl) (by kernel_rfl) (fun _ _ _ h => h) (Or.inl ⟨by rfl, ?_⟩) (by assumption) ?_
          rotate_left
          · (intro wS hSw; (try dsimp only at hSw); (go_simp) <;> (with_reducible rfl))
          (try simp only [Act.put, List.setIfInBounds_toArray, List.set_cons_zero, List.set_cons_succ])
          refine wpAnyH_take (i := 27) (oi := ⟨some 6, _, _, _, _, _⟩) (v := ?_) rfl (by kernel_rfl) (by kernel_rfl) (by kernel_rfl) (fun _ _ _ h => h) (Or.inl ⟨by rfl, ?_⟩) (by assumption) ?_
          rotate_left
          · (intro wS hSw; (try dsimp only at hSw); (go_simp) <;> (with_reducible rfl))
          (try simp only [Act.put, List.setIfInBounds_toArray, List.set_cons_zero, List.set_cons_succ])
          refine wpAnyH_done (by kernel_rfl) ?_ _
          go_wp2
          go_ret
          exact ⟨rfl, K7.K.F⟩
        · rw [decide_eq_false hri] at HR1
          clear hri
          go_wp2_with fail
          refine wp_region_held_drew (S := (fun W => W.cell? ⟨g, 3, none⟩ = some (.int .i64 p.f))) (by kernel_rfl) ?_ (fun hHeld => ?_)
          · exact K0.K.E.1.2.2.2
          refine wpAnyH_ready (rs := [0]) (by kernel_rfl) (by simp) ?_
          refine AllReadyH.cons (o := ⟨some 136, _, _, _, _, _⟩) rfl (fun K hK => ?_) AllReadyH.nil
          go_simp
          refine (HAL.out _).mono ?_
          rintro e v1 ⟨rfl, hB⟩
          have K1 := K0.below hB
          clear hB
          go_wp2_with fail
          refine hK.out _ _ ?_ (fun hH => ?_)
          · exact K1.K.E.1.2.2.2
          clear hK K
          (try simp only [Act.put, List.setIfInBounds_toArray, List.set_cons_zero, List.set_cons_succ])
          refine wpAnyH_take (i := 1) (oi := ⟨some 137, _, _, _, _, _⟩) (v := ?_) rfl (by kernel_rfl) (by kernel_rfl) (by kernel_rfl) (fun _ _ _ h => h) (Or.inl ⟨by rfl, ?_⟩) (by assumption) ?_
          rotate_left
          · (intro wS hSw; (try dsimp only at hSw); (go_simp) <;> (with_reducible rfl))
          (try simp only [Act.put, List.setIfInBounds_toArray, List.set_cons_zero, List.set_cons_succ])
          refine wpAnyH_take (i := 2) (oi := ⟨some 138, _, _, _, _, _⟩) (v := ?_) rfl (by kernel_rfl) (by kernel_rfl) (by kernel_rfl) (fun _ _ _ h => h) (Or.inl ⟨by rfl, ?_⟩) (by assumption) ?_
          rotate_left
          · (intro wS hSw; (try dsimp only at hSw); (go_simp) <;> (with_reducible rfl))
          (try simp only [Act.put, List.setIfInBounds_toArray, List.set_cons_zero, List.set_cons_succ])
          refine wpAnyH_take (i := 3) (oi := ⟨some 139, _, _, _, _, _⟩) (v := ?_) rfl (by kernel_rfl) (by kernel_rfl) (by kernel_rfl) (fun _ _ _ h => h) (Or.inl ⟨by rfl, ?_⟩) (by assumption) ?_
          rotate_left
          · (intro wS hSw; (try dsimp only at hSw); (go_simp) <;> (with_reducible rfl))
          (try simp only [Act.put, List.setIfInBounds_toArray, List.set_cons_zero, List.set_cons_succ])
          refine wpAnyH_take (i := 4) (oi := ⟨some 140, _, _, _, _, _⟩) (v := ?_) rfl (by kernel_rfl) (by kernel_rfl) (by kernel_rfl) (fun _ _ _ h => h) (Or.inl ⟨by rfl, ?_⟩) (by assumption) ?_
          rotate_left
          · (intro wS hSw; (try dsimp only at hSw); (go_simp) <;> (with_reducible rfl))
          (try simp only [Act.put, List.setIfInBounds_toArray, List.set_cons_zero, List.set_cons_succ])
          refine wpAnyH_take (i := 5) (oi := ⟨some 141, _, _, _, _, _⟩) (v := ?_) rfl (by kernel_rfl) (by kernel_rfl) (by kernel_rfl) (fun _ _ _ h => h) (Or.inl ⟨by rfl, ?_⟩) (by assumption) ?_
          rotate_left
          · (intro wS hSw; (try dsimp only at hSw); (go_simp) <;> (with_reducible rfl))
          (try simp only [Act.put, List.setIfInBounds_toArray, List.set_cons_zero, List.set_cons_succ])
          refine wpAnyH_take (i := 6) (oi := ⟨some 142, _, _, _, _, _⟩) (v := ?_) rfl (by kernel_rfl) (by kernel_rfl) (by kernel_rfl) (fun _ _ _ h => h) (Or.inl ⟨by rfl, ?_⟩) (by assumption) ?_
          rotate_left
          · (intro wS hSw; (try dsimp only at hSw); (go_simp) <;> (with_reducible rfl))
          (try simp only [Act.put, List.setIfInBounds_toArray, List.set_cons_zero, List.set_cons_succ])
          refine wpAnyH_ready (rs := [7]) (by kernel_rfl) (by simp) ?_
          refine AllReadyH.cons (o := ⟨some 143, _, _, _, _, _⟩) rfl (fun K hK => ?_) AllReadyH.nil
          go_simp
          refine (HR1.out _ K1.K.A).mono ?_
          rintro e v2 ⟨rfl, hB⟩
          have K2 := K1.below hB
          clear hB
          go_wp2_with fail
          refine hK.out _ _ ?_ (fun hH => ?_)
          · exact K2.K.E.1.2.2.2
          clear hK K
          (try simp only [Act.put, List.setIfInBounds_toArray, List.set_cons_zero, List.set_cons_succ])
          refine wpAnyH_take (i := 8) (oi := ⟨some 144, _, _, _, _, _⟩) (v := ?_) rfl (by kernel_rfl) (by kernel_rfl) (by kernel_rfl) (fun _ _ _ h => h) (Or.inl ⟨by rfl, ?_⟩) (by assumption) ?_
          rotate_left
          · (intro wS hSw; (try dsimp only at hSw); (go_simp) <;> (with_reducible rfl))
          (try simp only [Act.put, List.setIfInBounds_toArray, List.set_cons_zero, List.set_cons_succ])
          refine wpAnyH_take (i := 9) (oi := ⟨some 145, _, _, _, _, _⟩) (v := ?_) rfl (by kernel_rfl) (by kernel_rfl) (by kernel_rfl) (fun _ _ _ h => h) (Or.inl ⟨by rfl, ?_⟩) (by assumption) ?_
          rotate_left
          · (intro wS hSw; (try dsimp only at hSw); (go_simp) <;> (with_reducible rfl))
          (try simp only [Act.put, List.setIfInBounds_toArray, List.set_cons_zero, List.set_cons_succ])
          refine wpAnyH_take (i := 10) (oi := ⟨some 146, _, _, _, _, _⟩) (v := undef) rfl (by kernel_rfl) (by kernel_rfl) (by kernel_rfl) (fun _ _ _ h => h) (Or.inr ⟨by rfl, rfl⟩) (by assumption) ?_
          (try simp only [Act.put, List.setIfInBounds_toArray, List.set_cons_zero, List.set_cons_succ])
          refine wpAnyH_take (i := 11) (oi := ⟨some 147, _, _, _, _, _⟩) (v := undef) rfl (by kernel_rfl) (by kernel_rfl) (by kernel_rfl) (fun _ _ _ h => h) (Or.inr ⟨by rfl, rfl⟩) (by assumption) ?_
          (try simp only [Act.put, List.setIfInBounds_toArray, List.set_cons_zero, List.set_cons_succ])
          refine wpAnyH_take (i := 12) (oi := ⟨some 148, _, _, _, _, _⟩) (v := undef) rfl (by kernel_rfl) (by kernel_rfl) (by kernel_rfl) (fun _ _ _ h => h) (Or.inr ⟨by rfl, rfl⟩) (by assumption) ?_
          (try simp only [Act.put, List.setIfInBounds_toArray, List.set_cons_zero, List.set_cons_succ])
          refine wpAnyH_take (i := 13) (oi := ⟨some 149, _, _, _, _, _⟩) (v := undef) rfl (by kernel_rfl) (by kernel_rfl) (by kernel_rfl) (fun _ _ _ h => h) (Or.inr ⟨by rfl, rfl⟩) (by assumption) ?_
          (try simp only [Act.put, List.setIfInBounds_toArray, List.set_cons_zero, List.set_cons_succ])
          refine wpAnyH_take (i := 14) (oi := ⟨some 150, _, _, _, _, _⟩) (v := ?_) rfl (by kernel_rfl) (by kernel_rfl) (by kernel_rfl) (fun _ _ _ h => h) (Or.inl ⟨by rfl, ?_⟩) (by assumption) ?_
          rotate_left
          · (intro wS hSw; (try dsimp only at hSw); (go_simp) <;> (with_reducible rfl))
          (try simp only [Act.put, List.setIfInBounds_toArray, List.set_cons_zero, List.set_cons_succ])
          refine wpAnyH_take (i := 15) (oi := ⟨some 151, _, _, _, _, _⟩) (v := ?_) rfl (by kernel_rfl) (by kernel_rfl) (by kernel_rfl) (fun _ _ _ h => h) (Or.inl ⟨by rfl, ?_⟩) (by assumption) ?_
          rotate_left
          · (intro wS hSw; (try dsimp only at hSw); (go_simp) <;> (with_reducible rfl))
          (try simp only [Act.put, List.setIfInBounds_toArray, List.set_cons_zero, List.set_cons_succ])
          refine wpAnyH_take (i := 16) (oi := ⟨some 152, _, _, _, _, _⟩) (v := ?_) rfl (by kernel_rfl) (by kernel_rfl) (by kernel_rfl) (fun _ _ _ h => h) (Or.inl ⟨by rfl, ?_⟩) (by assumption) ?_
          rotate_left
          · (intro wS hSw; (try dsimp only at hSw); (go_simp) <;> (with_reducible rfl))
          (try simp only [Act.put, List.setIfInBounds_toArray, List.set_cons_zero, List.set_cons_succ])
          refine wpAnyH_take (i := 17) (oi := ⟨some 153, _, _, _, _, _⟩) (v := ?_) rfl (by kernel_rfl) (by kernel_rfl) (by kernel_rfl) (fun _ _ _ h => h) (Or.inl ⟨by rfl, ?_⟩) (by assumption) ?_
          rotate_left
          · (intro wS hSw; (try dsimp only at hSw); (go_simp) <;> (with_reducible rfl))
          (try simp only [Act.put, List.setIfInBounds_toArray, List.set_cons_zero, List.set_cons_succ])
          refine wpAnyH_take (i := 19) (oi := ⟨some 155, _, _, _, _, _⟩) (v := ?_) rfl (by kernel_rfl) (by kernel_rfl) (by kernel_rfl) (fun _ _ _ h => h) (Or.inl ⟨by rfl, ?_⟩) (by assumption) ?_
          rotate_left
          · (intro wS hSw; (try dsimp only at hSw); (go_simp) <;> (with_reducible rfl))
          (try simp only [Act.put, List.setIfInBounds_toArray, List.set_cons_zero, List.set_cons_succ])
          refine wpAnyH_take (i := 20) (oi := ⟨some 156, _, _, _, _, _⟩) (v := ?_) rfl (by kernel_rfl) (by kernel_rfl) (by kernel_rfl) (fun _ _ _ h => h) (Or.inl ⟨by rfl, ?_⟩) (by assumption) ?_
          rotate_left
          · (intro wS hSw; (try dsimp only at hSw); (go_simp) <;> (with_reducible rfl))
          (try simp only [Act.put, List.setIfInBounds_toArray, List.set_cons_zero, List.set_cons_succ])
          refine wpAnyH_take (i := 21) (oi := ⟨some 157, _, _, _, _, _⟩) (v := ?_) rfl (by kernel_rfl) (by kernel_rfl) (by kernel_rfl) (fun _ _ _ h => h) (Or.inl ⟨by rfl, ?_⟩) (by assumption) ?_
          rotate_left
          · (intro wS hSw; (try dsimp only at hSw); (go_simp) <;> (with_reducible rfl))
          (try simp only [Act.put, List.setIfInBounds_toArray, List.set_cons_zero, List.set_cons_succ])
          refine wpAnyH_take (i := 22) (oi := ⟨some 158, _, _, _, _, _⟩) (v := ?_) rfl (by kernel_rfl) (by kernel_rfl) (by kernel_rfl) (fun _ _ _ h => h) (Or.inl ⟨by rfl, ?_⟩) (by assumption) ?_
          rotate_left
          · (intro wS hSw; (try dsimp only at hSw); (go_simp) <;> (with_reducible rfl))
          (try simp only [Act.put, List.setIfInBounds_toArray, List.set_cons_zero, List.set_cons_succ])
          refine wpAnyH_ready (rs := [18, 23]) (by kernel_rfl) (by simp) ?_
          refine AllReadyH.cons (o := ⟨some 154, _, _, _, _, _⟩) rfl (fun K hK => ?_) ?_
          · go_simp
            refine (HN1.out _ K2.S).mono ?_
            rintro e v5 ⟨y1, n1, rfl, s1, hB⟩
            have K5 := K2.below hB
            clear hB
            go_wp2_with fail
            refine hK.out _ _ ?_ (fun hH => ?_)
            · exact K5.K.E.1.2.2.2
            clear hK K
            (try simp only [Act.put, List.setIfInBounds_toArray, List.set_cons_zero, List.set_cons_succ])
            refine wpAnyH_ready (rs := [23]) (by kernel_rfl) (by simp) ?_
            refine AllReadyH.cons (o := ⟨some 159, _, _, _, _, _⟩) rfl (fun K hK => ?_) AllReadyH.nil
            go_simp
            refine hK.out _ _ ?_ (fun hH => ?_)
            · exact (K5.below (below_one _ _)).K.E.1.2.2.2
            clear hK K
            (try simp only [Act.put, List.setIfInBounds_toArray, List.set_cons_zero, List.set_cons_succ])
            refine wpAnyH_ready (rs := [24]) (by kernel_rfl) (by simp) ?_
            refine AllReadyH.cons (o := ⟨some 160, _, _, _, _, _⟩) rfl (fun K hK => ?_) AllReadyH.nil
            go_simp
            refine (HN2.out _ _ (cells_sp v5 [⟨p.f, b⟩] #[.int .i64 p.f, .int .i64 b] 42 _ rfl rfl)).mono ?_
            rintro e v6 ⟨y2, n2, rfl, s2, hB⟩
            have K6 := (K5.below (below_one _ _)).below hB
            replace s1 := (s1.below (below_one _ _)).below hB
            clear hB
            go_wp2_with fail
            refine hK.out _ _ ?_ (fun hH => ?_)
            · exact K6.K.E.1.2.2.2
            clear hK K
            (try simp only [Act.put, List.setIfInBounds_toArray, List.set_cons_zero, List.set_cons_succ])
            refine wpAnyH_ready (rs := [25]) (by kernel_rfl) (by simp) ?_
            refine AllReadyH.cons (o := ⟨some 161, _, _, _, _, _⟩) rfl (fun K hK => ?_) AllReadyH.nil
            go_simp
            refine (HSA.out y1 y2 n1 n2 _ s1 s2).mono ?_
            rintro e v7 ⟨rfl, hB⟩
            have K7 := K6.below hB
            clear hB
            go_wp2_with fail
            refine hK.out _ _ ?_ (fun hH => ?_)
            · exact K7.K.E.1.2.2.2
            clear hK K
            (try simp only [Act.put, List.setIfInBounds_toArray, List.set_cons_zero, List.set_cons_succ])
            refine wpAnyH_take (i := 26) (oi := ⟨some 162, _, _, _, _, _⟩) (v := ?_) rfl (by kernel_rfl) (by kernel_rfl) (by kernel_rfl) (fun _ _ _ h => h) (Or.inl ⟨by rfl, ?_⟩) (by assumption) ?_
            rotate_left
            · (intro wS hSw; (try dsimp only at hSw); (go_simp) <;> (with_reducible rfl))
            (try simp only [Act.put, List.setIfInBounds_toArray, List.set_cons_zero, List.set_cons_succ])
            refine wpAnyH_take (i := 27) (oi := ⟨some 6, _, _, _, _, _⟩) (v := ?_) rfl (by kernel_rfl) (by kernel_rfl) (by kernel_rfl) (fun _ _ _ h => h) (Or.inl ⟨by rfl, ?_⟩) (by assumption) ?_
            rotate_left
            · (intro wS hSw; (try dsimp only at hSw); (go_simp) <;> (with_reducible rfl))
            (try simp only [Act.put, List.setIfInBounds_toArray, List.set_cons_zero, List.set_cons_succ])
            refine wpAnyH_done (by kernel_rfl) ?_ _
            go_wp2
            go_ret
            exact ⟨rfl, K7.K.F⟩
          refine AllReadyH.cons (o := ⟨some 159, _, _, _, _, _⟩) rfl (fun K hK => ?_) AllReadyH.nil
          go_simp
          refine hK.out _ _ ?_ (fun hH => ?_)
          · exact (K2.below (below_one _ _)).K.E.1.2.2.2
          clear hK K
          (try simp only [Act.put, List.setIfInBounds_toArray, List.set_cons_zero, List.set_cons_succ])
          refine wpAnyH_ready (rs := [18]) (by kernel_rfl) (by simp) ?_
          refine AllReadyH.cons (o := ⟨some 154, _, _, _, _, _⟩) rfl (fun K hK => ?_) AllReadyH.nil
          go_simp
          refine (HN1.out _ (K2.S.below (below_one _ _))).mono ?_
          rintro e v5 ⟨y1, n1, rfl, s1, hB⟩
          have K5 := (K2.below (below_one _ _)).below hB
          have hrow := ((cells_sp v2 [⟨p.f, b⟩] #[.int .i64 p.f, .int .i64 b] 42 _ rfl rfl)).below hB
          clear hB
          go_wp2_with fail
          refine hK.out _ _ ?_ (fun hH => ?_)
          · exact K5.K.E.1.2.2.2
          clear hK K
          (try simp only [Act.put, List.setIfInBounds_toArray, List.set_cons_zero, List.set_cons_succ])
          refine wpAnyH_ready (rs := [24]) (by kernel_rfl) (by simp) ?_
          refine AllReadyH.cons (o := ⟨some 160, _, _, _, _, _⟩) rfl (fun K hK => ?_) AllReadyH.nil
          go_simp
          refine (HN2.out _ _ hrow).mono ?_
          rintro e v6 ⟨y2, n2, rfl, s2, hB⟩
          have K6 := K5.below hB
          replace s1 := s1.below hB
          clear hB hrow
          go_wp2_with fail
          refine hK.out _ _ ?_ (fun hH => ?_)
          · exact K6.K.E.1.2.2.2
          clear hK K
          (try simp only [Act.put, List.setIfInBounds_toArray, List.set_cons_zero, List.set_cons_succ])
          refine wpAnyH_ready (rs := [25]) (by kernel_rfl) (by simp) ?_
          refine AllReadyH.cons (o := ⟨some 161, _, _, _, _, _⟩) rfl (fun K hK => ?_) AllReadyH.nil
          go_simp
          refine (HSA.out y1 y2 n1 n2 _ s1 s2).mono ?_
          rintro e v7 ⟨rfl, hB⟩
          have K7 := K6.below hB
          clear hB
          go_wp2_with fail
          refine hK.out _ _ ?_ (fun hH => ?_)
          · exact K7.K.E.1.2.2.2
          clear hK K
          (try simp only [Act.put, List.setIfInBounds_toArray, List.set_cons_zero, List.set_cons_succ])
          refine wpAnyH_take (i := 26) (oi := ⟨some 162, _, _, _, _, _⟩) (v := ?_) rfl (by kernel_rfl) (by kernel_rfl) (by kernel_rfl) (fun _ _ _ h => h) (Or.inl ⟨by rfl, ?_⟩) (by assumption) ?_
          rotate_left
          · (intro wS hSw; (try dsimp only at hSw); (go_simp) <;> (with_reducible rfl))
          (try simp only [Act.put, List.setIfInBounds_toArray, List.set_cons_zero, List.set_cons_succ])
          refine wpAnyH_take (i := 27) (oi := ⟨some 6, _, _, _, _, _⟩) (v := ?_) rfl (by kernel_rfl) (by kernel_rfl) (by kernel_rfl) (fun _ _ _ h => h) (Or.inl ⟨by rfl, ?_⟩) (by assumption) ?_
          rotate_left
          · (intro wS hSw; (try dsimp only at hSw); (go_simp) <;> (with_reducible rfl))
          (try simp only [Act.put, List.setIfInBounds_toArray, List.set_cons_zero, List.set_cons_succ])
          refine wpAnyH_done (by kernel_rfl) ?_ _
          go_wp2
          go_ret
          exact ⟨rfl, K7.K.F⟩
  · have d0 : (openC l p != 0) = true := by simp [hC]
    clear hC HOK HOR HX2 HK2 HM2
    generalize openC l p = C at *
    go_wp2_with fail
    refine (HAL.out _).mono ?_
    rintro e w9 ⟨rfl, hB⟩
    go_wp2
    go_ret
    subst hgg
    exact ⟨rfl, HK.out.1.F.below hB⟩

set_option maxRecDepth 100000 in
theorem lifted (os : Os) (started : os.Started) (H : Type) (enc : TypeId × Value → H) :
    ReturnsInHanded {} Try.checked os 7 .any (Rows.sessWholeSpec.pre6 enc Try.prog Try.f7 Rows.sessWholeRow.domain false) (Rows.sessWholeSpec.post enc Try.prog Try.f7 false true false false) := by
  refine returnsInHanded_of_change (C := Try.checked) own started (by kernel_rfl) Try.func7
    (ChangeSpec.witness6 (enc := enc) (C := Try.checked) false ⟨#[], #[.slice none 0 0, .agg #[.int .i64 0, .string ByteArray.empty, .int .i64 0, .int .i64 0], .slice none 0 0], []⟩ 8 (by kernel_rfl) (by kernel_rfl) (by kernel_rfl) (by kernel_rfl)) ?_
  intro W base args ds gs before hval0 hW hcnd _
  have hval : ∀ (j : Nat) t v, Try.f7.params[j]? = some t → args[j]? = some v → Value.okWide Try.prog W .any base t v := hval0
  have hW' := hW
  have hlt := hW.lt
  obtain ⟨p, q, hA0, hV, rfl, hfz, hnd⟩ := hW
  have hA : DataW.TrodAll enc Try.prog W 0 (fun _ => true) true Try.f7.params.toList args.toList ds p := hA0
  rw [Try.params7] at hA hval
  obtain ⟨v0, vs0, d0, ds0, p0, q0, hargs, rfl, rfl, h0, r0⟩ := trodAll_cons hA
  obtain ⟨v1, vs1, d1, ds1, p1, q1, rfl, rfl, rfl, h1, r1⟩ := trodAll_cons r0
  obtain ⟨v2, vs2, d2, ds2, p2, q2, rfl, rfl, rfl, h2, r2⟩ := trodAll_cons r1
  obtain ⟨rfl, rfl, rfl⟩ := trodAll_nil r2
  obtain rfl : args = #[v0, v1, v2] := by cases args; simp_all
  obtain ⟨a0, c0, l0, rfl, s0, f0, m0, n0, o0⟩ := open_sess (hval 0 22 v0 rfl rfl) h0
  obtain ⟨l1, rfl, f1⟩ := open_sess1 (hval 1 24 v1 rfl rfl) h1
  obtain ⟨a2, c2, l2, rfl, s2, m2, n2⟩ := open_times (hval 2 74 v2 rfl rfl) h2
  refine (walk W a0 c0 l0 s0 f0 m0 n0 o0 l1 f1 a2 c2 l2 s2 m2 n2).mono fun e W' ⟨he, hb⟩ => ?_
  subst he
  exact ⟨_, rfl, law_post rfl hW' (fun ds h => by match ds, h with | [_, _, _], _ => rfl) (by kernel_rfl) (by kernel_rfl) (by kernel_rfl) hb⟩

theorem over : Rows.sessWholeRow.holds Try.pinned (OpenSpec.ofChange Rows.sessWholeSpec) :=
  OpenClaim.holds_of_wide 7 Try.f7 rfl rfl rfl rfl rfl rfl rfl ⟨rfl, rfl, rfl, rfl, rfl⟩ rfl rfl rfl rfl rfl (by kernel_rfl) Try.func7 (by kernel_rfl)
    (of_decide_eq_true (by kernel_rfl)) (by unfold Func.isWrapper; first | (rw [if_pos (by decide +kernel)]; kernel_rfl) | (rw [if_neg (by decide +kernel)]; exact ⟨rfl, rfl⟩))
    (fun os started H enc _ => lifted os started H enc)

theorem proved : Rows.SessWholeSaid := over
end Go.Proofs.Ytlgicjebaehgeaa.sessWhole
