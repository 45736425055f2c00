/- Texts of mine, one behind the other, of each what is wanted. -/
import Derived.Test.YtapacckmgmdnoaaGreatR00
import Derived.Test.YtapacckmgmdnoaaGreatRows
import Derived.Test.YtapacckmgmdnoaaGreatShelf
import Derived.Test.YtapacckmgmdnoaaGreatR03
import Derived.Test.YtapacckmgmdnoaaGreatR04
import Derived.Test.YtapacckmgmdnoaaGreatR07
import Derived.Test.YtapacckmgmdnoaaGreatR14
import Derived.Test.YtapacckmgmdnoaaGreatR18
import Derived.Test.YtapacckmgmdnoaaGreatR20
import Derived.Test.YtapacckmgmdnoaaGreatR26
import Derived.Test.YtapacckmgmdnoaaGreatR33
import Derived.Test.YtapacckmgmdnoaaGreatR42
namespace Go.Proofs.YtapacckmgmdnoaaGreat
open Go.ChangeShapes Go.WideShapes Go.ChangeAt Go.RowKit
open Go.ChangeMaps (open_string shut_string)
set_option linter.unusedVariables false
set_option maxRecDepth 100000
theorem own : ownKnob Tryz.prog.godebug = none := by kernel_rfl
theorem laidOut : laidOutB Tryz.prog = true := by kernel_rfl
section
variable {H : Type} {enc : TypeId × Value → H}
def tyOk (P : Program) (t : TypeId) : Bool := P.readableRec t && decide (t < P.types.size)
theorem trodAll_keep {P : Program} (hP : laidOutB P = true) {W W' : World} (hb : Below W.heap.size W W') (ts : List TypeId) : ∀ {vs : List Value} {ds : List (DataW H)} {ps : List MemPlace}, ts.all (tyOk P) = true → (∀ p ∈ ps, p.block < W.heap.size) →
  DataW.TrodAll enc P W 0 (fun _ => true) true ts vs ds ps → DataW.TrodAll enc P W' 0 (fun b => decide (b < W.heap.size)) true ts vs ds ps := by
 induction ts with
 | nil =>
  intro vs ds ps _ _ h
  obtain ⟨rfl, rfl, rfl⟩ := trodAll_nil h
  exact trodAll_mk0
 | cons t ts ih =>
  intro vs ds ps ht hlt h
  obtain ⟨v, vs', d, ds', p, q, rfl, rfl, rfl, h1, h2⟩ := trodAll_cons h
  rw [List.all_cons, Bool.and_eq_true] at ht
  have ht1 := ht.1
  unfold tyOk at ht1
  rw [Bool.and_eq_true, decide_eq_true_eq] at ht1
  exact trodAll_cons_mk (Below.trod hP ht1.1 ht1.2 h1 hb (fun x hx => hlt x (List.mem_append_left _ hx))) (ih ht.2 (fun x hx => hlt x (List.mem_append_right _ hx)) h2)
theorem law_post {f : Func} {s : ChangeSpec} {W W' : World} {args : Array Value} {ds gs : List (DataW H)} {before : List MemPlace} (hv : s.vars = [])
  (hW : DataW.Whole enc Tryz.prog f.params.toList s.vars false W args.toList ds gs before) (hs : ∀ ds : List (DataW H), ds.length = f.params.toList.length → s.fn H ds = { results := [.lit (.bool true)], args := ds })
  (hl : ds.length = f.params.toList.length) (ht : f.params.toList.all (tyOk Tryz.prog) = true) (hr : f.resultTypes = #[4]) (hb : Below W.heap.size W W') :
  s.post enc Tryz.prog f false true false false W args (.bool true) W' := by
 obtain ⟨p, q, hA, hV, rfl, hfz, hnd⟩ := hW
 have hV0 := hV
 rw [hv] at hV
 obtain ⟨rfl, rfl⟩ := trodVars_none hV
 have hlt : ∀ x ∈ p ++ [], x.block < W.heap.size := DataW.Whole.lt ⟨p, [], hA, hV0, rfl, hfz, hnd⟩
 have e : s.fn H (ds ++ []) = { results := [.lit (.bool true)], args := ds } := by rw [List.append_nil]; exact hs ds hl
 refine ⟨ds, [], p ++ [], [], p, [], ⟨p, [], hA, hV0, rfl, hfz, hnd⟩, ?_, ?_, ?_, hb.frame _, fun h => by cases h⟩
 ·rw [e, hr]
  exact trodAll_cons_mk (shut_bool Tryz.underlying4 _) trodAll_mk0
 ·rw [e]
  exact trodAll_keep laidOut hb _ ht (fun x hx => hlt x (by simpa using hx)) hA
 ·rw [e, hv]
  rfl
end
end Go.Proofs.YtapacckmgmdnoaaGreat
namespace Go.Proofs.YtapacckmgmdnoaaGreat
open Go.RowKit Go.Proofs
set_option linter.unusedVariables false
set_option maxRecDepth 100000
theorem h_news (a : Option Addr) (c : Nat) (l : List EvM) (V : World) (h : EvSl V a l) (hl : l.length ≤ 1000) : Calls Tryz.prog 21 #[.slice a l.length c] V (RowsTo V l) := by
 refine (evnews_any a c l V h (by omega)).mono ?_
 rintro r w' ⟨v, rfl, ho, hb⟩
 obtain ⟨b, q, rfl, h1, h2, h3, h4⟩ := own_ev2 ho
 exact ⟨b, q, rfl, h1, h2, h3, h4, hb⟩
theorem h_taken (x : SaL) {M : SaM} (hm : x.m = M) (a : Option Addr) (c : Nat) (l : List EvM) (V : World) (h : SaAt V x) (hr : RightS M) (hs : EvSl V a l) (hf : FitsV l) (hc : stCnt M + l.length ≤ 200) : Calls Tryz.prog 31 #[saV x, .slice a l.length c] V (RowsTo V (takenE M l)) := by
 subst hm
 exact ptaken_any x a c l V h hr hs hf hc
theorem fits_taken {M : SaM} {l : List EvM} (h : FitsV l) : FitsV (takenE M l) := fun e he => h e (takenE_mem l M e he)
structure ErB (W : World) (a : Option Addr) (E : List Int) (B : Nat) : Prop where
 row : ErSl W a E
 lt : ∀ k o, E ≠ [] → a = some ⟨k, o, none⟩ → k < B
 sz : B ≤ W.heap.size
theorem ErB.below {W W' : World} {a : Option Addr} {E : List Int} {B : Nat} (h : ErB W a E B) (q : Below W.heap.size W W') : ErB W' a E B := ⟨h.row.below q, h.lt, Nat.le_trans h.sz q.size⟩
theorem ErB.set {W : World} {a : Option Addr} {E : List Int} {B g i : Nat} (h : ErB W a E B) (hg : B ≤ g) (v : Value) : ErB (W.setCell ⟨g, i, none⟩ v) a E B :=
 ⟨fun k hk => by
  obtain ⟨b, off, e, hlt, hc⟩ := h.row k hk
  have hb := h.lt b off (fun e => by subst e; exact absurd hk (by simp [ers])) e
  exact ⟨b, off, e, by rw [size_set]; exact hlt, (cell_far (p := ⟨b, off + k, none⟩) (by show b ≠ g; omega)).trans hc⟩, h.lt, by rw [size_set]; exact h.sz⟩
theorem ErB.setS {W : World} {a : Option Addr} {E : List Int} {B g : Nat} (h : ErB W a E B) (hg : B ≤ g) (y : SaL) : ErB (setS W g y) a E B := by
 unfold Go.Proofs.YtapacckmgmdnoaaGreat.setS
 exact (((((h.set hg _).set hg _).set hg _).set hg _).set hg _).set hg _
theorem ErB.of {W : World} {a : Option Addr} {E : List Int} (h : ErSl W a E) : ErB W a E W.heap.size := by
 refine ⟨h, fun k o hE e => ?_, Nat.le_refl _⟩
 obtain ⟨b, off, e', hlt, -⟩ := h 0 (by rw [ers_len]; exact List.length_pos_iff.2 hE)
 rw [e] at e'
 cases e'
 exact hlt
theorem ErSl.far1 {V : World} {a : Option Addr} {E : List Int} {g i : Nat} (h : ErSl V a E) (hfar : ∀ k o, a = some ⟨k, o, none⟩ → g < k) (v : Value) : ErSl (V.setCell ⟨g, i, none⟩ v) a E := fun k hk => by
 obtain ⟨b, off, e, hlt, hc⟩ := h k hk
 have hb := hfar b off e
 exact ⟨b, off, e, by rw [size_set]; exact hlt, (cell_far (p := ⟨b, off + k, none⟩) (by show b ≠ g; omega)).trans hc⟩
theorem ErSl.setFar {V : World} {a : Option Addr} {E : List Int} {g : Nat} (h : ErSl V a E) (hfar : ∀ k o, a = some ⟨k, o, none⟩ → g < k) (y : SaL) : ErSl (Go.Proofs.YtapacckmgmdnoaaGreat.setS V g y) a E := by
 unfold Go.Proofs.YtapacckmgmdnoaaGreat.setS
 exact (((((h.far1 hfar _).far1 hfar _).far1 hfar _).far1 hfar _).far1 hfar _).far1 hfar _
def FoldsV2 (w : World) (M : SaM) (E : List Int) (r : Ending) (w' : World) : Prop := ∃ z b c, r = .returned (.tuple #[.agg #[.int .i64 z.now, .int .i64 z.hor, .slice z.oa z.op.length z.oc, .slice z.ua z.us.length z.uc, .slice z.sa z.su.length z.sc, .slice z.ta z.tb.length z.tc], .slice b E.length c]) ∧ SaAt w' z ∧ z.m = M ∧ ErSl w' b E ∧ E.length ≤ c ∧ c ≤ maxLen ∧ (∀ k o, b = some ⟨k, o, none⟩ → w.heap.size ≤ k) ∧ Below w.heap.size w w'
theorem h_fold2 (x : SaL) {M : SaM} (hm : x.m = M) (a : Option Addr) (c : Nat) (l : List EvM) (V : World) (h : SaAt V x) (hr : RightS M) (hs : EvSl V a l) (hf : FitsV l) (hc : stCnt M + l.length ≤ 200) : Calls Tryz.prog 22 #[saV x, .slice a l.length c] V (FoldsV2 V (foldE M l) (errsE M l)) := by
 subst hm
 refine (pfold_more x a c l V h hr hs hf hc).mono ?_
 rintro r w' ⟨y, b, q, rfl, h1, h2, h3, h4, h5, h6, h7⟩
 exact ⟨y, b, q, rfl, h1, h2, h3, h4, h5, h7, h6⟩
end Go.Proofs.YtapacckmgmdnoaaGreat
