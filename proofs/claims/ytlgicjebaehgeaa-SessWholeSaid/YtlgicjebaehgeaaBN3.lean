/- The program's sorting, over the library's contracts of Clone, SortFunc and Compact: the same row as the document's. -/
import Derived.Test.YtlgicjebaehgeaaBN1
import Derived.Test.YtlgicjebaehgeaaBN2
import Derived.Test.YtlgicjebaehgeaaShelf
import Derived.Shelf.Slices.Clone
import Derived.Shelf.Slices.CompactS
import Derived.Shelf.SlSortCmp.NoneTotal
import Derived.Sort.OwnSorted
import Derived.Sort.Grow
import Derived.Lib.OwnBridge
namespace Go.Proofs.Ytlgicjebaehgeaa
open Go.RowKit Go.Shelf Go.Sort
set_option linter.unusedVariables false
set_option maxRecDepth 100000
/-- what a row of texts is, sorted, each once, as lists of bytes -/
def sv (l : List ByteArray) : List (List UInt8) := sortL (l.map toL)

section plain
theorem fold_done (s : ByteArray) : ∀ (l : List ByteArray) (acc : List ByteArray), l.foldl (putStep s) (acc, true) = (acc ++ l, true)
  | [], acc => by simp
  | x :: r, acc => by
    have e : putStep s (acc, true) x = (acc ++ [x], true) := by unfold putStep; split <;> simp
    rw [List.foldl_cons, e, fold_done s r, List.append_assoc]; rfl
theorem fold_ins (s : ByteArray) : ∀ (l : List ByteArray) (acc : List ByteArray),
    (if (l.foldl (putStep s) (acc, false)).2 then (l.foldl (putStep s) (acc, false)).1 else (l.foldl (putStep s) (acc, false)).1 ++ [s]).map toL = acc.map toL ++ ins (toL s) (l.map toL)
  | [], acc => by simp [ins]
  | x :: r, acc => by
    rw [List.foldl_cons]
    by_cases h0 : Lib.compareBytes (toL s) (toL x) = 0
    · have e : putStep s (acc, false) x = (acc ++ [x], true) := by unfold putStep; rw [if_pos (by simpa [toL] using h0)]
      rw [e, fold_done s r]
      simp [ins, h0]
    · by_cases h1 : Lib.compareBytes (toL s) (toL x) < 0
      · have e : putStep s (acc, false) x = (acc ++ [s] ++ [x], true) := by unfold putStep; rw [if_neg (by simpa [toL] using h0), if_pos (by simpa [toL] using h1)]
        rw [e, fold_done s r]
        simp [ins, h0, h1]
      · have e : putStep s (acc, false) x = (acc ++ [x], false) := by unfold putStep; rw [if_neg (by simpa [toL] using h0), if_neg (by simpa [toL] using h1)]
        rw [e, fold_ins s r]
        simp [ins, h0, h1]
theorem put_ins (l : List ByteArray) (s : ByteArray) : (put l s).map toL = ins (toL s) (l.map toL) := by
  have h := fold_ins s l []
  unfold put putTo
  rw [List.take_length]
  exact h
theorem srt_sv (l : List ByteArray) : (srt l).map toL = sv l := by
  have h : ∀ (l acc : List ByteArray), (l.foldl put acc).map toL = (l.map toL).foldl (fun r s => ins s r) (acc.map toL) := by
    intro l
    induction l with
    | nil => intro acc; rfl
    | cons x r ih => intro acc; rw [List.foldl_cons, ih, put_ins]; rfl
  exact h l []
theorem strs_enc (l : List ByteArray) : strs l = (l.map toL).map encStr := (Lib.map_encStr l).symm
theorem strs_srt (l : List ByteArray) : strs (srt l) = (sv l).map encStr := by rw [strs_enc, srt_sv]
theorem srt_length (l : List ByteArray) : (srt l).length = (sv l).length := by rw [← srt_sv, List.length_map]

theorem swo : SWO (ltOf Lib.compareBytes) where
  irrefl x := by unfold ltOf; rw [cb_refl]; rfl
  trans x y z h1 h2 := by
    unfold ltOf at *
    rw [decide_eq_true_eq] at *
    exact cb_trans x y z h1 h2
  ntrans x y z h1 h2 := by
    unfold ltOf at *
    rw [decide_eq_false_iff_not] at *
    intro h
    have a := cb_neg x y
    have b := cb_neg y z
    rcases Int.lt_or_eq_of_le (show Lib.compareBytes y x ≤ 0 by omega) with c | c
    · exact h2 (cb_trans y x z c h)
    · have := cb_eq y x c
      subst this
      exact h2 h
theorem both (x y : List UInt8) (h1 : ltOf Lib.compareBytes x y = false) (h2 : ltOf Lib.compareBytes y x = false) : x = y := by
  unfold ltOf at *
  rw [decide_eq_false_iff_not] at *
  have a := cb_neg x y
  exact cb_eq x y (by omega)

def ms (l : List (List UInt8)) : List (List UInt8) := l.mergeSort fun x y => !(ltOf Lib.compareBytes) y x
theorem ms_len (l : List (List UInt8)) : (ms l).length = l.length := List.length_mergeSort l
theorem ms_compact (l : List (List UInt8)) : Lib.compact (ms l) = sortL l := by
  refine compact_sortL l (ms l) ?_ (fun x => by unfold ms; exact List.mem_mergeSort)
  have h := List.pairwise_mergeSort (le := fun x y => !(ltOf Lib.compareBytes) y x) (fun a b c h1 h2 => by
    simp only [Bool.not_eq_eq_eq_not] at *
    exact swo.ntrans c b a h2 h1) (fun a b => by
    cases h1 : ltOf Lib.compareBytes b a
    · simp
    · cases h2 : ltOf Lib.compareBytes a b
      · simp
      · have := swo.trans a b a h2 h1
        rw [swo.irrefl] at this
        cases this) l
  refine h.imp fun {x y} hxy => ?_
  simp only [Bool.not_eq_true'] at hxy
  unfold ltOf at hxy
  rw [decide_eq_false_iff_not] at hxy
  have := cb_neg x y
  omega
end plain

theorem cmpReads (blk off size : Nat) (w : World) : CmpReads Try.prog 69 #[] encStr Lib.compareBytes blk off size w := fun m os dk _ x y => by
  have h := cmp_any ⟨x.toArray⟩ ⟨y.toArray⟩ (sortWorld encStr w blk off m dk os)
  refine Calls.mono h ?_
  rintro e w' ⟨rfl, rfl⟩
  exact ⟨by simp, 0, rfl⟩

/-- what a sorted row leaves, in the words of a contract -/
def Gives (w : World) (zs : List (List UInt8)) (e : Ending) (w' : World) : Prop := ∃ v, e = .returned v ∧ w'.ownsRow w.heap.size 9 1 v zs.length (zs.map encStr) ∧ Below w.heap.size w w'

theorem gives_of {w w1 : World} {g cap n m q : Nat} {os : Array Obj} {zs : List (List UInt8)} (hown : w1.ownsRow w.heap.size 9 1 (.slice (some ⟨g, 0, none⟩) n cap) n (zs.map encStr)) (hb : Below w.heap.size w w1) (hg : w.heap.size ≤ g) (hn : zs.length = n) :
    Gives w (sortL zs) (.returned (.slice (some ⟨g, 0, none⟩) (sortL zs).length cap))
      (putRow encStr (Sort.ahead (sortWorld encStr w1 g 0 m (ms zs).toArray os) q) g 0 (sortL zs ++ List.replicate (n - (sortL zs).length) []).toArray) := by
  have hl := ms_len zs
  have hle := Lib.compact_length_le (ms zs)
  rw [ms_compact] at hle
  subst hn
  rcases hown.2 with ⟨h0, _⟩ | ⟨g', cap', cur, hv, hbase, hh, h1, h2, h3, _⟩
  · cases h0
  cases hv
  have hs := ownsRow_sorted (n := m) (os := os) (ts := ms zs) hl hbase hh h1 h2 h3
  have hc := Lib.ownsRow_putRow (q := q) (k := (sortL zs).length) (ys := sortL zs ++ List.replicate (zs.length - (sortL zs).length) []) hs (by simp; omega) (by omega)
  rw [List.take_left] at hc
  exact ⟨_, rfl, hc, Lib.below_putRow (hb.grown (grownBy_sorted _) hb.size (fun j hj => by cases hj; exact hbase)) hg⟩

set_option maxHeartbeats 2000000 in
set_option maxRecDepth 100000 in
theorem sorted_tail (n : Nat) (arg : Value) (zs : List (List UInt8)) (w : World) (hn : n ≤ 4611686018427387903)
    (hclone : Calls Try.prog 67 #[arg] w fun e w' => ∃ v', e = .returned v' ∧ w'.ownsRow w.heap.size 9 1 v' n (zs.map encStr) ∧ v' ≠ .slice none 0 0 ∧ Below w.heap.size w w') :
    Calls Try.prog 54 #[arg] w (Gives w (sortL zs)) := by
  have eg : ∀ args w, (callFunc 69 args).run Try.prog w = .ok (.enter 69 args) w := enters_of Try.func69 (by kernel_rfl) rfl
  have HK := Lib.hid hclone
  have HG := Lib.hid eg
  clear hclone eg
  go_enter Try.func54, Try.ntmps54
  go_wp2_with fail
  refine HK.out.mono ?_
  rintro e w1 ⟨v1, rfl, hown, hnn, hbel⟩
  obtain ⟨g, cap, rfl, hbg, hgl, hncap, hcm, hlen, hH⟩ := Lib.holds_of_ownsRow hown hnn
  have hsort : Calls Try.prog 68 #[.slice (some ⟨g, 0, none⟩) n cap, .func (.func 69) #[] #[]] w1 fun e w' => e = .returned (.tuple #[]) ∧ ∃ m os, w' = sortWorld encStr w1 g 0 m (ms zs).toArray os := by
    have h := Any.slices_SortFunc_total Try.laysSortNm encStr (fun _ => rfl) Lib.compareBytes swo 69 #[] g 0 cap zs.toArray w1 HG.out (cmpReads g 0 zs.toArray.size w1).lays hH hgl (by simp; omega) both
    rw [List.size_toArray, hlen] at h
    exact h
  have X := Lib.hid (And.intro hown (And.intro hbel (And.intro hbg (And.intro hgl (And.intro hncap (And.intro hlen hH))))))
  have HS := Lib.hid hsort
  clear hown hbel hH hnn hsort hlen
  go_wp2_with fail
  refine HS.out.mono ?_
  rintro e w2 ⟨rfl, m, os, rfl⟩
  have hl2 : (ms zs).length = n := by rw [ms_len]; exact X.out.2.2.2.2.2.1
  have hH2 : Holds encStr (sortWorld encStr w1 g 0 m (ms zs).toArray os) g 0 (ms zs).toArray :=
    holds_grow encStr _ os g 0 _ (by simpa [putRow, mapBlock, Sort.ahead] using X.out.2.2.2.1) (holds_putRow encStr _ g 0 _ _ (holds_ahead encStr w1 m g 0 _ X.out.2.2.2.2.2.2) (by simp [ms_len]))
  have hcomp : Calls Try.prog 70 #[.slice (some ⟨g, 0, none⟩) n cap] (sortWorld encStr w1 g 0 m (ms zs).toArray os) fun e w' => e = .returned (.slice (some ⟨g, 0, none⟩) (sortL zs).length cap) ∧ ∃ q, w' = putRow encStr (Sort.ahead (sortWorld encStr w1 g 0 m (ms zs).toArray os) q) g 0 (sortL zs ++ List.replicate (n - (sortL zs).length) []).toArray := by
    have h := Any.slices_Compact_string Try.laysCompact g 0 cap (ms zs) _ hH2 (by omega) (by omega)
    rw [hl2, ms_compact] at h
    exact h
  have HC := Lib.hid hcomp
  have hfin := fun q => gives_of (m := m) (q := q) (os := os) X.out.1 X.out.2.1 X.out.2.2.1 X.out.2.2.2.2.2.1
  have HF := Lib.hid hfin
  clear hcomp hH2 hl2 hfin
  generalize sortWorld encStr w1 g 0 m (ms zs).toArray os = w3 at *
  go_wp2_with fail
  refine HC.out.mono ?_
  rintro e w4 ⟨rfl, q, rfl⟩
  go_wp2
  go_ret
  exact HF.out q

theorem gives_same (w : World) : Gives w [] (.returned (.slice none 0 0)) w := ⟨_, rfl, World.ownsRow_nil _ _ _ _, Below.refl _ _⟩

set_option maxHeartbeats 1000000 in
theorem sorted_nil (c : Nat) (w : World) : Calls Try.prog 54 #[.slice none 0 c] w (Gives w []) := by
  have hk : ∀ W, Calls Try.prog 67 #[.slice none 0 c] W fun e w' => e = .returned (.slice none 0 0) ∧ w' = W := fun W => Any.slices_Clone_string_nil Try.laysClone 0 c W
  have hs : ∀ fv W, Calls Try.prog 68 #[.slice none 0 0, fv] W fun e w' => e = .returned (.tuple #[]) ∧ w' = W := fun fv W => AnyF.slices_SortFunc_none { Try.laysSortNm with } none 0 fv W
  have hc : ∀ W, Calls Try.prog 70 #[.slice none 0 0] W fun e w' => e = .returned (.slice none 0 0) ∧ w' = W := fun W => Any.slices_Compact_string_empty Try.laysCompact none 0 W
  have HK := Lib.hid hk
  have HS := Lib.hid hs
  have HC := Lib.hid hc
  clear hk hs hc
  go_enter Try.func54, Try.ntmps54
  go_wp2_with fail
  refine (HK.out _).mono ?_
  rintro e w1 ⟨rfl, rfl⟩
  go_wp2_with fail
  refine (HS.out _ _).mono ?_
  rintro e w2 ⟨rfl, rfl⟩
  go_wp2_with fail
  refine (HC.out _).mono ?_
  rintro e w3 ⟨rfl, rfl⟩
  go_wp2
  go_ret
  exact gives_same _

theorem sorted_any (a : Option Addr) (c : Nat) (l : List ByteArray) (w : World) (hr : Sl w a (strs l)) (hl : l.length ≤ 1048576) :
    Calls Try.prog 54 #[.slice a l.length c] w (Gives w (sv l)) := by
  match l with
  | [] =>
    match a with
    | none => exact sorted_nil c w
    | some ad =>
      exact sorted_tail 0 _ [] w (by omega) ((Any.slices_Clone_string_zero Try.laysClone ad c w).mono fun e w' ⟨v', he, ho, hn, hb⟩ => ⟨v', he, ho, hn, hb⟩)
  | x :: r =>
    obtain ⟨b, off, rfl, hbl, _⟩ := hr.str (k := 0) (by simp)
    have hcells : ∀ j, j < (x :: r).length → w.cell? ⟨b, off + j, none⟩ = some (.string ((x :: r).getD j ByteArray.empty)) := fun j hj => by
      obtain ⟨b', off', e, _, hc⟩ := hr.str hj
      cases e
      rw [hc]
      simp only [List.getD_eq_getElem?_getD, List.getElem?_eq_getElem hj, Option.getD_some]
    have hk := Any.slices_Clone_string Try.laysClone b off (x :: r).length c (x :: r) w (Nat.le_refl _) (by omega) hcells
    exact sorted_tail (x :: r).length _ ((x :: r).map toL) w (by omega) (hk.mono fun e w' ⟨v', he, ho, hn, hb⟩ => ⟨v', he, by rw [← strs_enc]; rw [List.take_length] at ho; exact ho, hn, hb⟩)
end Go.Proofs.Ytlgicjebaehgeaa
