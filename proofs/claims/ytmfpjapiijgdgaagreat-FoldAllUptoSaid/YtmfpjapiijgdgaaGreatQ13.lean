/- Texts of mine, one behind the other, of each what is wanted. -/
import Derived.Test.YtmfpjapiijgdgaaGreatQ00
import Derived.Test.YtmfpjapiijgdgaaGreatShelf
import Derived.Test.YtmfpjapiijgdgaaGreatRows
import Derived.Test.YtmfpjapiijgdgaaGreatQ01
namespace Go.Proofs.YtmfpjapiijgdgaaGreat
open Go.RowKit Go.Sort Go.Proofs
set_option linter.unusedVariables false
set_option maxRecDepth 100000
set_option maxRecDepth 100000
theorem orL4 (a b c d : Int) : orL [a, b, c, d] = if a = 0 then (if b = 0 then (if c = 0 then (if d = 0 then 0 else d) else c) else b) else a := rfl
theorem orL_cmp (a b : StM) : orL [Lib.compareInt a.f b.f, Lib.compareInt a.t b.t, Lib.compareInt a.n b.n, Lib.compareInt a.s b.s] = cmpSt a b := by
 have key : ∀ x y : Int, (x < y ∧ Lib.compareInt x y = -1) ∨ (x = y ∧ Lib.compareInt x y = 0) ∨ (y < x ∧ Lib.compareInt x y = 1) := fun x y => by
  unfold Lib.compareInt
  rcases Int.lt_trichotomy x y with h | h | h
  ·exact .inl ⟨h, by simp [h]⟩
  ·exact .inr (.inl ⟨h, by simp [h]⟩)
  ·exact .inr (.inr ⟨h, by simp [h]; omega⟩)
 have lo : (ltSt a b) → -1 = cmpSt a b := fun h => by unfold cmpSt; rw [if_pos h]
 have hi : (ltSt b a) → 1 = cmpSt a b := fun h => by unfold cmpSt; rw [if_neg (ltSt_asymm h), if_pos h]
 have eq : (¬ ltSt a b) → (¬ ltSt b a) → 0 = cmpSt a b := fun h k => by unfold cmpSt; rw [if_neg h, if_neg k]
 rw [orL4]
 rcases key a.f b.f with ⟨h, e⟩ | ⟨h, e⟩ | ⟨h, e⟩
 ·rw [e, if_neg (by decide)]; exact lo (by unfold ltSt; omega)
 ·rw [e, if_pos rfl]
  rcases key a.t b.t with ⟨k, e⟩ | ⟨k, e⟩ | ⟨k, e⟩
  ·rw [e, if_neg (by decide)]; exact lo (by unfold ltSt; omega)
  ·rw [e, if_pos rfl]
   rcases key a.n b.n with ⟨i, e⟩ | ⟨i, e⟩ | ⟨i, e⟩
   ·rw [e, if_neg (by decide)]; exact lo (by unfold ltSt; omega)
   ·rw [e, if_pos rfl]
    rcases key a.s b.s with ⟨j, e⟩ | ⟨j, e⟩ | ⟨j, e⟩
    ·rw [e, if_neg (by decide)]; exact lo (by unfold ltSt; omega)
    ·rw [e, if_pos rfl]; exact eq (by unfold ltSt; omega) (by unfold ltSt; omega)
    ·rw [e, if_neg (by decide)]; exact hi (by unfold ltSt; omega)
   ·rw [e, if_neg (by decide)]; exact hi (by unfold ltSt; omega)
  ·rw [e, if_neg (by decide)]; exact hi (by unfold ltSt; omega)
 ·rw [e, if_neg (by decide)]; exact hi (by unfold ltSt; omega)
def CmK (w : World) (p q : Nat) (a b : StM) (W : World) : Prop :=
 W.cell? ⟨p, 0, none⟩ = some (.int .i64 a.f) ∧ W.cell? ⟨p, 1, none⟩ = some (.int .i64 a.t) ∧ W.cell? ⟨p, 2, none⟩ = some (.int .i64 a.n) ∧ W.cell? ⟨p, 3, none⟩ = some (.int .i64 a.s) ∧
 W.cell? ⟨q, 0, none⟩ = some (.int .i64 b.f) ∧ W.cell? ⟨q, 1, none⟩ = some (.int .i64 b.t) ∧ W.cell? ⟨q, 2, none⟩ = some (.int .i64 b.n) ∧ W.cell? ⟨q, 3, none⟩ = some (.int .i64 b.s) ∧ (p < W.heap.size ∧ q < W.heap.size ∧ Grew w W)
theorem CmK.grew {w W W' : World} {p q : Nat} {a b : StM} (h : CmK w p q a b W) (g : Grew W W') : CmK w p q a b W' := by
 obtain ⟨h1, h2, h3, h4, h5, h6, h7, h8, hp, hq, hg⟩ := h
 have hb := g.below (Nat.le_refl _)
 exact ⟨(hb.cell (p := ⟨p, 0, none⟩) hp).trans h1, (hb.cell (p := ⟨p, 1, none⟩) hp).trans h2, (hb.cell (p := ⟨p, 2, none⟩) hp).trans h3, (hb.cell (p := ⟨p, 3, none⟩) hp).trans h4,
  (hb.cell (p := ⟨q, 0, none⟩) hq).trans h5, (hb.cell (p := ⟨q, 1, none⟩) hq).trans h6, (hb.cell (p := ⟨q, 2, none⟩) hq).trans h7, (hb.cell (p := ⟨q, 3, none⟩) hq).trans h8,
  Nat.lt_of_lt_of_le hp hb.size, Nat.lt_of_lt_of_le hq hb.size, hg.trans g⟩
theorem CmK.drew {w W : World} {p q : Nat} {a b : StM} (h : CmK w p q a b W) : CmK w p q a b W.drew := h.grew (Grew.refl _).drew
theorem CmK.alloc {w W : World} {p q : Nat} {a b : StM} (h : CmK w p q a b W) (o : Obj) : CmK w p q a b (W.alloc o) := h.grew ((Grew.refl _).alloc o)
theorem sl_lit_drew (w : World) (xs : Array Value) (t : TypeId) : Sl (w.alloc (.cells xs t)).drew (some ⟨w.heap.size, 0, none⟩) xs.toList := sl_lit w xs t
theorem or_lit (a b c d : Int) (t : TypeId) (W : World) : Calls Tryz.prog 167 #[.slice (some ⟨W.heap.size, 0, none⟩) 4 4] (W.alloc (.cells #[.int .i64 a, .int .i64 b, .int .i64 c, .int .i64 d] t)) fun e w' => e = .returned (.int .i64 (orL [a, b, c, d])) ∧ w' = W.alloc (.cells #[.int .i64 a, .int .i64 b, .int .i64 c, .int .i64 d] t) :=
 or_any (some ⟨W.heap.size, 0, none⟩) 4 [a, b, c, d] _ (sl_lit W #[.int .i64 a, .int .i64 b, .int .i64 c, .int .i64 d] t) (by simp)
theorem or_litd (a b c d : Int) (t : TypeId) (W : World) : Calls Tryz.prog 167 #[.slice (some ⟨W.heap.size, 0, none⟩) 4 4] (W.alloc (.cells #[.int .i64 a, .int .i64 b, .int .i64 c, .int .i64 d] t)).drew fun e w' => e = .returned (.int .i64 (orL [a, b, c, d])) ∧ w' = (W.alloc (.cells #[.int .i64 a, .int .i64 b, .int .i64 c, .int .i64 d] t)).drew :=
 or_any (some ⟨W.heap.size, 0, none⟩) 4 [a, b, c, d] _ (sl_lit_drew W #[.int .i64 a, .int .i64 b, .int .i64 c, .int .i64 d] t) (by simp)
set_option maxHeartbeats 4000000 in
theorem stcmp_any (a b : StM) (w : World) : Calls Tryz.prog 109 #[stV a, stV b] w fun e w' => e = .returned (.int .i64 (cmpSt a b)) ∧ Grew w w' := by
 have hcon := Lib.hid (fun x y W' => AnyG.cmp_Compare_int Tryz.laysCompare x y W')
 change Hid (∀ x y W', Calls Tryz.prog 168 _ _ _) at hcon
 have HE := Lib.hid (orL_cmp a b)
 have hor := Lib.hid or_lit
 have hord := Lib.hid or_litd
 have h0 : CmK w w.heap.size (w.heap.size + 1) a b ((w.alloc (.cells #[.int .i64 a.f, .int .i64 a.t, .int .i64 a.n, .int .i64 a.s] 111)).alloc (.cells #[.int .i64 b.f, .int .i64 b.t, .int .i64 b.n, .int .i64 b.s] 111)) := by
  have hb := heap_alloc_new (w.alloc (.cells #[.int .i64 a.f, .int .i64 a.t, .int .i64 a.n, .int .i64 a.s] 111)) (.cells #[.int .i64 b.f, .int .i64 b.t, .int .i64 b.n, .int .i64 b.s] 111)
  have ha := (Below.heap_alloc (w.alloc (.cells #[.int .i64 a.f, .int .i64 a.t, .int .i64 a.n, .int .i64 a.s] 111)) (.cells #[.int .i64 b.f, .int .i64 b.t, .int .i64 b.n, .int .i64 b.s] 111) w.heap.size (by rw [size1]; omega)).trans (heap_alloc_new w (.cells #[.int .i64 a.f, .int .i64 a.t, .int .i64 a.n, .int .i64 a.s] 111))
  rw [size1] at hb
  obtain ⟨a1, a2, a3, a4⟩ := cells4 ha
  obtain ⟨b1, b2, b3, b4⟩ := cells4 hb
  exact ⟨a1, a2, a3, a4, b1, b2, b3, b4, by rw [size1, size1]; omega, by rw [size1, size1]; omega, ((Grew.refl w).alloc _).alloc _⟩
 generalize Lib.compareInt = cI at hcon HE
 generalize cmpSt a b = r at *
 unfold stV
 obtain ⟨f1, t1, n1, s1⟩ := a
 obtain ⟨f2, t2, n2, s2⟩ := b
 dsimp only at *
 have h0' := Lib.hid h0
 clear h0
 go_enter Tryz.func109, Tryz.ntmps109
 go_wp2_with fail
 have h0 := h0'.out
 clear h0'
 generalize (w.alloc (.cells #[.int .i64 f1, .int .i64 t1, .int .i64 n1, .int .i64 s1] 111)).alloc (.cells #[.int .i64 f2, .int .i64 t2, .int .i64 n2, .int .i64 s2] 111) = W at *
 generalize hqq : w.heap.size + 1 = q at *
 generalize hpp : w.heap.size = p at *
 clear hqq hpp
 go_region_held3 (fun W => W.cell? ⟨p, 0, none⟩ = some (.int .i64 f1) ∧ W.cell? ⟨p, 1, none⟩ = some (.int .i64 t1) ∧ W.cell? ⟨p, 2, none⟩ = some (.int .i64 n1) ∧ W.cell? ⟨p, 3, none⟩ = some (.int .i64 s1) ∧
   W.cell? ⟨q, 0, none⟩ = some (.int .i64 f2) ∧ W.cell? ⟨q, 1, none⟩ = some (.int .i64 t2) ∧ W.cell? ⟨q, 2, none⟩ = some (.int .i64 n2) ∧ W.cell? ⟨q, 3, none⟩ = some (.int .i64 s2) ∧ (p < W.heap.size ∧ q < W.heap.size ∧ Grew w W))
  (first | exact CmK.drew h0 | exact CmK.alloc (a := ⟨f1, t1, n1, s1⟩) (b := ⟨f2, t2, n2, s2⟩) (by assumption) _ | assumption)
  (first | (go_at_call 168; refine (hcon.out _ _ _).mono ?_; rintro e w2 ⟨rfl, rfl⟩)
         | (go_at_call 167; (first | refine (hor.out _ _ _ _ _ _).mono ?_ | refine (hord.out _ _ _ _ _ _).mono ?_); rintro e w2 ⟨rfl, rfl⟩))
 go_wp2
 go_ret
 exact ⟨by rw [HE.out]; rfl, (show CmK w p q ⟨f1, t1, n1, s1⟩ ⟨f2, t2, n2, s2⟩ _ by assumption).2.2.2.2.2.2.2.2.2.2⟩
end Go.Proofs.YtmfpjapiijgdgaaGreat
namespace Go.Proofs.YtmfpjapiijgdgaaGreat
open Go.ChangeShapes Go.WideShapes Go.ChangeAt Go.RowKit
open Go.ChangeMaps (open_string shut_string)
set_option linter.unusedVariables false
set_option maxRecDepth 100000
theorem own : ownKnob Tryz.prog.godebug = none := by kernel_rfl
theorem laidOut : laidOutB Tryz.prog = true := by kernel_rfl
section
variable {H : Type} {enc : TypeId × Value → H}
def tyOk (P : Program) (t : TypeId) : Bool := P.readableRec t && decide (t < P.types.size)
theorem trodAll_keep {P : Program} (hP : laidOutB P = true) {W W' : World} (hb : Below W.heap.size W W') (ts : List TypeId) : ∀ {vs : List Value} {ds : List (DataW H)} {ps : List MemPlace}, ts.all (tyOk P) = true → (∀ p ∈ ps, p.block < W.heap.size) →
  DataW.TrodAll enc P W 0 (fun _ => true) true ts vs ds ps → DataW.TrodAll enc P W' 0 (fun b => decide (b < W.heap.size)) true ts vs ds ps := by
 induction ts with
 | nil =>
  intro vs ds ps _ _ h
  obtain ⟨rfl, rfl, rfl⟩ := trodAll_nil h
  exact trodAll_mk0
 | cons t ts ih =>
  intro vs ds ps ht hlt h
  obtain ⟨v, vs', d, ds', p, q, rfl, rfl, rfl, h1, h2⟩ := trodAll_cons h
  rw [List.all_cons, Bool.and_eq_true] at ht
  have ht1 := ht.1
  unfold tyOk at ht1
  rw [Bool.and_eq_true, decide_eq_true_eq] at ht1
  exact trodAll_cons_mk (Below.trod hP ht1.1 ht1.2 h1 hb (fun x hx => hlt x (List.mem_append_left _ hx))) (ih ht.2 (fun x hx => hlt x (List.mem_append_right _ hx)) h2)
theorem law_post {f : Func} {s : ChangeSpec} {W W' : World} {args : Array Value} {ds gs : List (DataW H)} {before : List MemPlace} (hv : s.vars = [])
  (hW : DataW.Whole enc Tryz.prog f.params.toList s.vars false W args.toList ds gs before) (hs : ∀ ds : List (DataW H), ds.length = f.params.toList.length → s.fn H ds = { results := [.lit (.bool true)], args := ds })
  (hl : ds.length = f.params.toList.length) (ht : f.params.toList.all (tyOk Tryz.prog) = true) (hr : f.resultTypes = #[4]) (hb : Below W.heap.size W W') :
  s.post enc Tryz.prog f false true false false W args (.bool true) W' := by
 obtain ⟨p, q, hA, hV, rfl, hfz, hnd⟩ := hW
 have hV0 := hV
 rw [hv] at hV
 obtain ⟨rfl, rfl⟩ := trodVars_none hV
 have hlt : ∀ x ∈ p ++ [], x.block < W.heap.size := DataW.Whole.lt ⟨p, [], hA, hV0, rfl, hfz, hnd⟩
 have e : s.fn H (ds ++ []) = { results := [.lit (.bool true)], args := ds } := by rw [List.append_nil]; exact hs ds hl
 refine ⟨ds, [], p ++ [], [], p, [], ⟨p, [], hA, hV0, rfl, hfz, hnd⟩, ?_, ?_, ?_, hb.frame _, fun h => by cases h⟩
 ·rw [e, hr]
  exact trodAll_cons_mk (shut_bool Tryz.underlying4 _) trodAll_mk0
 ·rw [e]
  exact trodAll_keep laidOut hb _ ht (fun x hx => hlt x (by simpa using hx)) hA
 ·rw [e, hv]
  rfl
end
end Go.Proofs.YtmfpjapiijgdgaaGreat
