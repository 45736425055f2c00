/- Contracts of layer 5: Files. -/
import Derived.Test.YtammmhbkfdmbfaaS13
import Derived.Test.YtammmhbkfdmbfaaShelf
import Derived.Sort.OwnSorted
namespace Go.Proofs.Ytammmhbkfdmbfaa
open Go.RowKit Go.Maps Go.Sort Go.Shelf
set_option linter.unusedVariables false

theorem sortsA (m : Nat) : AnyZ.SortsIn Try.prog Try.laysSorted_ren Fence.wide m :=
  ⟨fun blk off cap ss W hH hblk hsz => callsIn_wide.2 (AnyM.slices_Sort_string Try.laysSort blk off cap ss W hH hblk hsz),
   fun p cap W => callsIn_wide.2 (AnyM.slices_Sort_string_none Try.laysSort p cap W)⟩

/-- rising names, sorted, are themselves -/
theorem sort_rise {L : List FileM} (h : Rise L) {ss : List Nm} (hp : ss.Perm (L.map (·.name))) : ss.mergeSort leB = L.map (·.name) := by
  rw [mergeSort_of_perm hp]
  have hs : (L.map (·.name)).Pairwise (fun a b => leB a b = true) := by
    rw [List.pairwise_map]
    exact h.imp fun {a b} hab => by
      simp only [leB, decide_eq_true_eq]
      exact fun hba => nm_irrefl _ (nm_trans hab hba)
  exact List.mergeSort_of_pairwise hs

def nameV (L : List FileM) : List Value := L.map fun f => .string (tx f.name)
set_option maxHeartbeats 1000000 in
theorem files_any (w : World) (p : Nat) (S : Nat → Prop) (d : DiskM) (hok : Ok d) (hl : d.L.length ≤ 1000000) (h : DiskAt w p S d) :
    Calls Try.prog 30 #[pt p] w fun e w' => ∃ v, e = .returned v ∧ w'.ownsRow w.heap.size 9 1 v d.L.length (nameV d.L) ∧ Below w.heap.size w w' := by
  refine (callsIn_wide (n := 6)).1 ?_
  obtain ⟨b, F, hr, hp⟩ := h
  obtain ⟨es, hown, hperm⟩ := hr.fs
  have hbl := hown.lt
  have hkp : (strKeys (.map es : DataW Value)).Perm (d.L.map (·.name)) := by
    refine (Fs.keys (w := w) (b := b) hperm).trans ?_
    rw [List.map_map]
    have := hp.map (·.name)
    rw [List.map_map] at this
    exact this
  have hsz : Maps.size (.map es : DataW Value) = d.L.length := by
    rw [Maps.size_eq, hperm.length_eq, List.length_map, List.length_map, perm_len hp]
  have HS : Hid (∀ ss : List Nm, ss.Perm (strKeys (.map es : DataW Value)) → (ss.mergeSort (fun x y => decide (x ≤ y))).map encStr = nameV d.L ∧ ss.length = d.L.length) := fun ss hss => by
    have h1 := hss.trans hkp
    have e := sort_rise hok.rise h1
    refine ⟨?_, by simpa using h1.length_eq⟩
    show (ss.mergeSort leB).map encStr = _
    rw [e, List.map_map]
    rfl
  have hmax : Maps.size (.map es : DataW Value) ≤ maxLen := by rw [hsz]; unfold maxLen; omega
  have hbytes : Maps.size (.map es : DataW Value) * 16 ≤ 140737488355328 := by rw [hsz]; omega
  have hc := hr.cells.2.2.1
  have hseq : SeqGives Fence.wide 2 Try.prog 64 #[.pointer (some ⟨w.heap.size, 0, none⟩)] encStr (fun ss => ss.Perm (strKeys (.map es : DataW Value))) (Maps.size (.map es : DataW Value)) (w.alloc (.cells #[.map (some b)] 69)) :=
    AnyZ.keys_gives (ρ := Try.laysKeys_ren) { Try.laysKeys with } Fence.wide _ trivial rfl (by omega) w.heap.size b _ _ _ (by simp) (by simp) (by
      obtain ⟨es, clock, hb, Ft, hs, hD⟩ := hown
      exact ⟨es, clock, (Below.heap_alloc _ _ b hbl).trans hb, Ft, hs, hD⟩)
  have cK : ∀ mb W, CallsIn Fence.wide 5 Try.prog 49 #[.map mb] W fun e w' => e = .returned (.func (.func 64) #[] #[.pointer (some ⟨W.heap.size, 0, none⟩)]) ∧ w' = W.alloc (.cells #[.map mb] 69) := fun mb W => AnyZ.keys_in Try.laysKeys Fence.wide 5 trivial rfl mb W
  have cS := AnyZ.sorted_in Try.laysSorted Fence.wide 5 trivial trivial trivial trivial rfl (by omega) (sortsA _) (enters_of Try.func63 (by kernel_rfl) rfl) 64 #[.pointer (some ⟨w.heap.size, 0, none⟩)] trivial (enters_of Try.func64 (by kernel_rfl) rfl) _ _ hmax hbytes _ hseq
  change CallsIn _ _ Try.prog 48 _ _ _ at cS
  have hfK : Fence.wide.fn 49 := trivial
  have hfS : Fence.wide.fn 48 := trivial
  clear hr hkp hown hperm hseq hsz hmax hbytes
  refine callsIn_of_wp Try.func30 rfl trivial ?_ rfl
  simp only [Try.ntmps30, List.size_toArray, List.length_cons, List.length_nil, Nat.reduceAdd, Nat.reduceSub, Array.replicate_succ, Array.replicate_zero, List.push_toArray, List.append_toArray, List.nil_append, List.cons_append]
  gi_wp2_with (first
    | (gi_at_call 49; refine (cK _ _).mono ?_; rintro e w' ⟨rfl, rfl⟩)
    | (gi_at_call 48; refine cS.mono ?_; rintro e w' ⟨v, ss, rfl, hS, hrow, hnil, hb⟩))
  go_ret
  obtain ⟨e1, e2⟩ := HS.out ss hS
  refine ⟨v, rfl, ?_, ((Below.refl _ w).alloc (Nat.le_refl _) _).trans (hb.mono (by simp))⟩
  rw [← e1, ← e2]
  exact ownsRow_base_a hrow (by simp)
end Go.Proofs.Ytammmhbkfdmbfaa
