/- Texts of mine, one behind the other, of each what is wanted: DA3 Z13 BA13 BA14 BA15 BA18 DH0 BA2 DF0. -/
import Derived.Test.YtjhdhfokhkcamaaGreatProg
import Derived.WalkKit
import Derived.WalkLawsBesides
import Derived.Lib.Hide
import Derived.Lib.Bytealg
import Derived.Deep.QuietTactic
import Derived.BigQuiet
import Derived.Deep.Draws
import Derived.Below
import Derived.WalkSmall
import Derived.OwnWalk
import Derived.Maps.AppendAt
import Derived.Laws.AppendOwnNone
import Derived.Shelf.SlSortCmp.WholeK
import Derived.Shelf.SlSortCmp.NoneTotal
import Derived.KernelRfl
import Derived.BigRegion
import Derived.Deep.MidRow
import Derived.Deep.RegionHeld3
import Derived.Shelf.SlSortCmp.QuietGrown
import Derived.Shelf.SlSorted.Search
import Derived.Test.YtjhdhfokhkcamaaGreatRows
import Derived.ProofKit
import Derived.OpenShut
import Derived.ShutString
import Derived.SliceStrings
import Derived.Carry
import Derived.Deep.Slices
import Derived.ChangeSlices
import Derived.Laws.ResultCell
import Derived.WalkMore
import Derived.Lib.SlicesCompact
import Derived.Test.YtjhdhfokhkcamaaGreatShelf
import Derived.Shelf.Slices.Clone
import Derived.Shelf.Slices.CompactS
import Derived.Sort.OwnSorted
import Derived.Sort.Grow
import Derived.Lib.OwnBridge
import Derived.Deep.SlicePairs
import Derived.Lib.SmallJoins
import Derived.JoinedCond
import Derived.Test.YtjhdhfokhkcamaaGreatP01
import Derived.Test.YtjhdhfokhkcamaaGreatP02
import Derived.Test.YtjhdhfokhkcamaaGreatP09
import Derived.Test.YtjhdhfokhkcamaaGreatP11
import Derived.Test.YtjhdhfokhkcamaaGreatP12
import Derived.Test.YtjhdhfokhkcamaaGreatP14
import Derived.Test.YtjhdhfokhkcamaaGreatP15
import Derived.Test.YtjhdhfokhkcamaaGreatP21
import Derived.Test.YtjhdhfokhkcamaaGreatP23
import Derived.Test.YtjhdhfokhkcamaaGreatP24
import Derived.Test.YtjhdhfokhkcamaaGreatTK
namespace Go.Proofs.YtjhdhfokhkcamaaGreat
set_option linter.unusedVariables false
set_option maxRecDepth 100000
def addsS (l : List StM) (r : List StM) : List StM := l.foldl addS r
def staysS (s : SaM) (u : ByteArray) (w : Int) : List StM := addsS (staysO s.op u w) (ofU s.us u)
theorem addsS_len : ∀ (l r : List StM), (addsS l r).length ≤ r.length + l.length
  | [], r => by simp [addsS]
  | x :: l, r => by
    have h1 := addsS_len l (addS r x)
    have h2 := addS_len r x
    show (addsS l (addS r x)).length ≤ _
    rw [List.length_cons]
    omega
theorem addsS_next (l : List StM) (r : List StM) (j : Nat) (h : j < l.length) : addsS (l.take (j + 1)) r = addS (addsS (l.take j) r) l[j] := by
  unfold addsS
  rw [List.take_succ_eq_append_getElem h, List.foldl_append]
  rfl
theorem staysO_of {l m : List OpM} {u : ByteArray} {w : Int} (h : (rawO l u w).Perm (rawO m u w)) : staysO l u w = staysO m u w := by
  have h1 := stays_is l u w l.length (Nat.le_refl _)
  have h2 := stays_is m u w m.length (Nat.le_refl _)
  rw [List.take_of_length_le (Nat.le_refl _)] at h1 h2
  exact sorted_only h1.2 h2.2 ((h1.1.trans h).trans h2.1.symm)
theorem stU_other {v : ByteArray} {w : Int} {e : OpM} (h : e.u ≠ v) : stU v w e = false := by
  unfold stU
  rw [decide_eq_false h, Bool.false_and]
theorem raw_mid {A B : List OpM} {e : OpM} {v : ByteArray} {w : Int} (h : e.u ≠ v) : rawO (A ++ e :: B) v w = rawO (A ++ B) v w := by
  unfold rawO
  rw [List.filter_append, List.filter_append, List.filter_cons, stU_other h, if_neg Bool.false_ne_true]
theorem raw_without {l : List OpM} {u v : ByteArray} {w : Int} (h : v ≠ u) : rawO (l.filter (notU u)) v w = rawO l v w := by
  unfold rawO
  rw [List.filter_filter]
  congr 1
  refine List.filter_congr fun e _ => ?_
  by_cases h1 : e.u = v
  · have h2 : notU u e = true := decide_eq_true fun h3 => h (h1.symm.trans h3)
    rw [h2, Bool.and_true]
  · rw [stU_other h1, Bool.false_and]
theorem raw_gone {l : List OpM} {u : ByteArray} {w : Int} : rawO (l.filter (notU u)) u w = [] := by
  unfold rawO
  rw [List.filter_filter]
  have : l.filter (fun a => stU u w a && notU u a) = [] := by
    rw [List.filter_eq_nil_iff]
    intro e _
    by_cases h : e.u = u
    · have h2 : notU u e = false := decide_eq_false fun h3 => h3 h
      rw [h2, Bool.and_false]; exact Bool.false_ne_true
    · rw [stU_other h, Bool.false_and]; exact Bool.false_ne_true
  rw [this]
  rfl
theorem stays_gone {l : List OpM} {u : ByteArray} {w : Int} : staysO (l.filter (notU u)) u w = [] := by
  have h1 := (stays_is (l.filter (notU u)) u w _ (Nat.le_refl _)).1
  rw [List.take_of_length_le (Nat.le_refl _), raw_gone] at h1
  exact h1.eq_nil
def hasO (l : List OpM) (u : ByteArray) : Bool := l.any (isU u)
def hasU (l : List UsM) (u : ByteArray) : Bool := l.any (isKy UsM.u u)
def hasT (l : List TbM) (u : ByteArray) : Bool := l.any (isKy TbM.u u)
def prE (u : ByteArray) (e : EnM) : Bool := decide (e.w = u ∨ e.u = u)
def hasE (l : List EnM) (u : ByteArray) : Bool := l.any (prE u)
def stHas (s : SaM) (u : ByteArray) : Bool := hasT s.tb u || hasU s.us u || hasO s.op u || hasE s.su u
theorem hasO_gone (l : List OpM) (u : ByteArray) : hasO (l.filter (notU u)) u = false := by
  unfold hasO
  rw [List.any_eq_false]
  intro e he h
  exact (of_decide_eq_true (List.mem_filter.1 he).2 : ¬ e.u = u) (of_decide_eq_true h)
theorem hasU_gone {l : List UsM} (u : ByteArray) : hasU (putU l u []) u = false := by
  unfold hasU
  rw [List.any_eq_false]
  intro e he h
  rcases putU_mem.1 he with ⟨_, h1⟩ | ⟨_, h1⟩
  · exact h1 rfl
  · exact h1 (isKy_iff.1 h)
theorem hasE_gone (l : List EnM) (u : ByteArray) : hasE (withoutS l u) u = false := by
  unfold hasE
  rw [List.any_eq_false]
  intro e he h
  have h1 := (List.mem_filter.1 he).2
  rw [Bool.and_eq_true, decide_eq_true_iff, decide_eq_true_iff] at h1
  exact (of_decide_eq_true h : e.w = u ∨ e.u = u).elim h1.1 h1.2
theorem hasT_tomb (l : List TbM) (u : ByteArray) (a : Int) : hasT (tombU l u a) u = true := by
  unfold hasT
  rw [List.any_eq_true]
  exact ⟨⟨u, a⟩, tombU_mem.2 (.inl rfl), isKy_iff.2 rfl⟩
theorem tomb_one (l : List TbM) (u : ByteArray) (a : Int) : (tombU l u a).countP (isKy TbM.u u) = 1 := by
  unfold tombU insK
  have h : ∀ p : TbM → Bool, (∀ x, p x = true → isKy TbM.u u x = false) → (l.filter p).countP (isKy TbM.u u) = 0 := fun p hp => by
    rw [List.countP_eq_zero]
    intro x hx
    rw [hp x (List.mem_filter.1 hx).2]
    exact Bool.false_ne_true
  have h1 : isKy TbM.u u ⟨u, a⟩ = true := isKy_iff.2 rfl
  rw [List.countP_append, List.countP_append, h _ (fun x hx => decide_eq_false (cmpS_ne (belK_iff.1 hx))), h _ (fun x hx => decide_eq_false fun e => cmpS_ne (abvK_iff.1 hx) e.symm), List.countP_singleton, if_pos h1]
theorem erase_stays {s : SaM} (h : RiseK UsM.u s.us) {a st n w : Int} {u o : ByteArray} : staysS (goS s 7 a n st u o) u w = [] := by
  show addsS (staysO (s.op.filter (notU u)) u w) (ofU (putU s.us u []) u) = []
  rw [stays_gone, ofU_put h]
  rfl
theorem erase_other {s : SaM} (h : RiseK UsM.u s.us) {a st n w : Int} {u v o : ByteArray} (hv : v ≠ u) : staysS (goS s 7 a n st u o) v w = staysS s v w := by
  show addsS (staysO (s.op.filter (notU u)) v w) (ofU (putU s.us u []) v) = _
  rw [ofU_other h hv, staysO_of (List.Perm.of_eq (raw_without hv))]
  rfl
theorem open_other {l : List OpM} {e : OpM} {v : ByteArray} {w : Int} (h : e.u ≠ v) (hc : openC l e = 0) : staysO (openR l e) v w = staysO l v w := by
  refine staysO_of (List.Perm.of_eq ?_)
  unfold openR openS
  rw [if_pos hc, raw_mid h, List.take_append_drop]
theorem cut_other {l : List OpM} {k : Nat} (hk : k < l.length) {v : ByteArray} {w : Int} (h : l[k].u ≠ v) : rawO (cutAt l k) v w = rawO l v w := by
  unfold cutAt
  have h1 := raw_mid (A := l.take k) (B := l.drop (k + 1)) (w := w) h
  rw [← h1, ← List.drop_eq_getElem_cons hk, List.take_append_drop]
theorem chg_other {l : List OpM} {k : Nat} (hk : k < l.length) {v : ByteArray} {w s f : Int} (h : l[k].u ≠ v) : rawO (chgAt l k s f) v w = rawO l v w := by
  rw [chgAt_at hk, raw_mid (A := l.take k) (B := l.drop (k + 1)) (e := ⟨l[k].n, l[k].u, s, f⟩) (w := w) h]
  exact cut_other hk h
theorem go_other {s : SaM} (h : RightS s) {k a n st w : Int} {u v o : ByteArray} (he : errS s k a n st u o = 0) (hk : k ≤ 3) (hv : v ≠ u) :
    staysS (goS s k a n st u o) v w = staysS s v w ∧ (goS s k a n st u o).tb = s.tb ∧ (goS s k a n st u o).su = s.su := by
  obtain ⟨hr, ha, hc⟩ := errS_ok he
  obtain ⟨_, _, hr⟩ := hr
  have hu : u ≠ v := fun e => hv e.symm
  unfold errK at hc
  have hfc : ∀ n, findC s.op n u = 0 → staysO (chgR s.op n u st a) v w = staysO s.op v w ∧ staysO (cloR s.op n u) v w = staysO s.op v w := fun n hc => by
    rcases fc_three s.op n u with ⟨_, k, hk, hf, h1, h2, h3, h4⟩ | ⟨h1 | h1, _⟩
    · unfold chgR cloR
      rw [if_pos hc, if_pos hc, h4]
      have h5 : s.op[k].u ≠ v := by rw [h2]; exact hu
      exact ⟨staysO_of (List.Perm.of_eq (chg_other hk h5)), staysO_of (List.Perm.of_eq (cut_other hk h5))⟩
    · rw [hc] at h1; exact absurd h1 (by decide)
    · rw [hc] at h1; exact absurd h1 (by decide)
  rcases hr with ⟨h1 | h1, _⟩ | ⟨h1, _⟩ | ⟨h1 | h1, _⟩ | ⟨h1, _⟩ | ⟨h1, _⟩
  · subst h1
    refine ⟨?_, rfl, rfl⟩
    show addsS (staysO (openR s.op ⟨n, u, st, a⟩) v w) (ofU s.us v) = _
    rw [open_other hu hc]
    rfl
  · subst h1
    refine ⟨?_, rfl, rfl⟩
    show addsS (staysO (chgR s.op n u st a) v w) (ofU (addU s.us u (fndS s.op n u a)) v) = _
    rw [(hfc n hc).1, ofU_add_other h.ur hv]
    rfl
  · subst h1
    refine ⟨?_, rfl, rfl⟩
    show addsS (staysO (cloR s.op n u) v w) (ofU (addU s.us u (fndS s.op n u a)) v) = _
    rw [(hfc n hc).2, ofU_add_other h.ur hv]
    rfl
  all_goals omega
def cntU (l : List UsM) : Nat := (l.map fun x => x.l.length).sum
def stCnt (s : SaM) : Nat := s.op.length + s.su.length + s.tb.length + cntU s.us
theorem cntU_cons (x : UsM) (l : List UsM) : cntU (x :: l) = x.l.length + cntU l := by simp [cntU]
theorem cntU_append (a b : List UsM) : cntU (a ++ b) = cntU a + cntU b := by simp [cntU]
theorem cntU_take (l : List UsM) (j : Nat) (h : j < l.length) : cntU (l.take (j + 1)) = cntU (l.take j) + l[j].l.length := by
  rw [List.take_succ_eq_append_getElem h, cntU_append]
  simp [cntU]
theorem cntU_parts (u : ByteArray) : ∀ l : List UsM, cntU (l.filter (belK UsM.u u)) + cntU (l.filter (abvK UsM.u u)) + (ofU l u).length ≤ cntU l
  | [] => by simp [cntU, ofU]
  | x :: l => by
    have ih := cntU_parts u l
    rw [List.filter_cons, List.filter_cons, cntU_cons]
    by_cases h : x.u = u
    · have h1 : ¬ belK UsM.u u x = true := fun h1 => cmpS_ne (belK_iff.1 h1) h
      have h2 : ¬ abvK UsM.u u x = true := fun h1 => cmpS_ne (abvK_iff.1 h1) h.symm
      have h3 : ofU (x :: l) u = x.l := by
        unfold ofU
        rw [List.find?_cons_of_pos (isKy_iff.2 h)]
      rw [if_neg h1, if_neg h2, h3]
      omega
    · have h3 : ofU (x :: l) u = ofU l u := by
        unfold ofU
        rw [List.find?_cons_of_neg (fun h1 => h (isKy_iff.1 h1))]
      rw [h3]
      by_cases h1 : belK UsM.u u x = true
      · have h2 : ¬ abvK UsM.u u x = true := fun h2 => cmpS_asym (belK_iff.1 h1) (abvK_iff.1 h2)
        rw [if_pos h1, if_neg h2, cntU_cons]
        omega
      · rw [if_neg h1]
        split
        · rw [cntU_cons]; omega
        · omega
theorem cntU_put (l : List UsM) (u : ByteArray) (r : List StM) : cntU (putU l u r) + (ofU l u).length ≤ cntU l + r.length := by
  have h := cntU_parts u l
  have h1 : cntU (rowU u r) = r.length := by
    unfold rowU
    cases r with
    | nil => rfl
    | cons a r => simp [cntU]
  unfold putU insK
  rw [cntU_append, cntU_append, h1]
  omega
theorem cntU_add (l : List UsM) (u : ByteArray) (x : StM) : cntU (addU l u x) ≤ cntU l + 1 := by
  unfold addU
  split
  · have h1 := cntU_put l u (addS (ofU l u) x)
    have h2 := addS_len (ofU l u) x
    omega
  · omega
theorem cntU_reset (now : Int) : ∀ (l : List OpM) (us : List UsM), cntU (resetU l now us) ≤ cntU us + l.length
  | [], us => by simp [resetU]
  | e :: l, us => by
    have h1 := cntU_reset now l (addU us e.u (stayO e now))
    have h2 := cntU_add us e.u (stayO e now)
    show cntU (resetU l now (addU us e.u (stayO e now))) ≤ _
    rw [List.length_cons]
    omega
theorem cntU_prune (t : Int) : ∀ l : List UsM, cntU (pruneU l t) ≤ cntU l
  | [] => by simp [pruneU]
  | x :: l => by
    have ih := cntU_prune t l
    have h1 : (aftS x.l t).length ≤ x.l.length := List.length_filter_le _ _
    unfold pruneU at ih ⊢
    rw [List.map_cons, List.filter_cons, cntU_cons]
    split
    · rw [cntU_cons]
      have h2 : (⟨x.u, aftS x.l t⟩ : UsM).l.length = (aftS x.l t).length := rfl
      omega
    · omega
theorem cnt_reset (s : SaM) : stCnt (resetS s) ≤ stCnt s := by
  have h := cntU_reset s.now s.op s.us
  unfold stCnt resetS
  simp only [List.length_nil]
  omega
theorem cnt_prune (s : SaM) : stCnt (pruneS s) ≤ stCnt s := by
  have h := cntU_prune s.hor s.us
  have h1 : (aftE s.su s.hor).length ≤ s.su.length := List.length_filter_le _ _
  unfold stCnt pruneS
  simp only
  omega
theorem cnt_go (s : SaM) (k a n st : Int) (u o : ByteArray) : stCnt (goS s k a n st u o) ≤ stCnt s + 1 := by
  have h1 := openR_len s.op ⟨n, u, st, a⟩
  have h2 := chgR_len s.op n u st a
  have h3 := cloR_len s.op n u
  have h4 := cntU_add s.us u (fndS s.op n u a)
  have h5 := grant_len s.su (mkE u o a)
  have h6 := revoke_len s.su u o a
  have h7 : (s.op.filter (notU u)).length ≤ s.op.length := List.length_filter_le _ _
  have h8 : (withoutS s.su u).length ≤ s.su.length := List.length_filter_le _ _
  have h9 := cntU_put s.us u []
  have h10 : (tombU s.tb u a).length ≤ s.tb.length + 1 := insK_len
  simp only [List.length_nil] at h9
  unfold stCnt goS
  repeat' split
  all_goals (simp only; omega)
end Go.Proofs.YtjhdhfokhkcamaaGreat
namespace Go.Proofs.YtjhdhfokhkcamaaGreat
open Go.RowKit Go.Sort Go.Proofs
set_option linter.unusedVariables false
set_option maxRecDepth 100000
set_option maxRecDepth 100000
theorem ltT (x y : StM) : ltOf cmpSt x y = decide (ltSt x y) := by
  unfold ltOf
  by_cases h1 : ltSt x y
  · have : cmpSt x y < 0 := by unfold cmpSt; rw [if_pos h1]; decide
    simp [h1, this]
  · have : ¬ cmpSt x y < 0 := by
      unfold cmpSt
      rw [if_neg h1]
      by_cases h2 : ltSt y x
      · rw [if_pos h2]; decide
      · rw [if_neg h2]; decide
    simp [h1, this]
theorem swoT : SWO (ltOf cmpSt) where
  irrefl x := by rw [ltT]; simp [ltSt_irrefl]
  trans x y z h1 h2 := by rw [ltT] at *; simp at *; exact ltSt_trans h1 h2
  ntrans x y z h1 h2 := by rw [ltT] at *; simp at *; exact leSt_trans h2 h1
theorem flat_sts (l : List StM) (t : Nat) (h : t < l.length * 4) : (sts l)[t]? = some ((flatK encT 4 l.toArray)[t]!) := by
  rw [get_flatK encT 4 l.toArray t (by simpa using h)]
  have hk : t / 4 < l.length := by omega
  have hd : (t = t / 4 * 4 ∧ t % 4 = 0) ∨ (t = t / 4 * 4 + 1 ∧ t % 4 = 1) ∨ (t = t / 4 * 4 + 2 ∧ t % 4 = 2) ∨ (t = t / 4 * 4 + 3 ∧ t % 4 = 3) := by omega
  obtain ⟨g1, g2, g3, g4⟩ := sts_get l (t / 4) hk
  have he : l.toArray[t / 4]! = l[t / 4] := by simp [hk]
  rw [he]
  rcases hd with ⟨h1, h2⟩ | ⟨h1, h2⟩ | ⟨h1, h2⟩ | ⟨h1, h2⟩
  · rw [← h1] at g1
    rw [h2, g1]
    rfl
  · rw [← h1] at g2
    rw [h2, g2]
    rfl
  · rw [← h1] at g3
    rw [h2, g3]
    rfl
  · rw [← h1] at g4
    rw [h2, g4]
    rfl
theorem heap_sortedT {w : World} {g n : Nat} {os : Array Obj} {cur : Array Value} {e : TypeId} {fr : Nat × Nat} (d : Array StM) (hb : w.heap[g]? = some (.cells cur e fr)) :
    (sortWorldK encT 4 w g 0 n d os).heap[g]? = some (.cells (putCells id 0 (flatK encT 4 d) cur) e fr) := by
  have hg : g < w.heap.size := (Array.getElem?_eq_some_iff.1 hb).1
  unfold sortWorldK putRowK
  rw [heap_grow_old _ _ (by simpa using hg)]
  simp [putRow, mapBlock, Sort.ahead, Array.getElem?_modify, hb, onCells]
theorem grownBy_sortedT {w : World} {g n : Nat} {os : Array Obj} (d : Array StM) : w.grownBy (sortWorldK encT 4 w g 0 n d os) (some g) := by
  unfold sortWorldK putRowK
  refine ⟨rfl, rfl, rfl, by simp, fun k hk hne => ?_⟩
  rw [heap_grow_old _ _ (by simpa using hk)]
  have : g ≠ k := fun e => hne (by rw [e])
  simp [putRow, mapBlock, Sort.ahead, Array.getElem?_modify, this]
theorem take_putT (cur : Array Value) (m : List StM) (h : m.length * 4 ≤ cur.size) : (putCells id 0 (flatK encT 4 m.toArray) cur).toList.take (m.length * 4) = sts m := by
  apply List.ext_getElem?
  intro j
  by_cases hj : j < m.length * 4
  · rw [List.getElem?_take_of_lt hj, Array.getElem?_toList, flat_sts m j hj]
    simp [putCells, hj, show j < cur.size by omega]
  · rw [List.getElem?_take_eq_none (by omega), List.getElem?_eq_none (by rw [sts_len]; omega)]
set_option maxHeartbeats 2000000 in
theorem sort8_any (B : Nat) (v : Value) (l : List StM) (w : World) (hB : B ≤ w.heap.size) (ho : w.ownsRow B 86 4 v l.length (sts l)) (hl : l.length ≤ 1000000) :
    Calls Tryz.prog 149 #[v, .func (.func 150) #[] #[]] w fun e w' => e = .returned (.tuple #[]) ∧ ∃ m : List StM, m.Perm l ∧ m.Pairwise (fun a b => ¬ ltSt b a) ∧ w'.ownsRow B 86 4 v m.length (sts m) ∧ Below B w w' := by
  cases hll : l with
  | nil =>
    subst hll
    obtain ⟨a, c, rfl, hc, _, _, _⟩ := own_st ho
    refine (AnyF.slices_SortFunc_none Tryz.laysSortSt a c _ w).mono ?_
    rintro e w' ⟨rfl, rfl⟩
    exact ⟨rfl, [], List.Perm.refl _, List.Pairwise.nil, ho, Below.refl _ _⟩
  | cons x l' =>
    rw [← hll]
    rcases ho.2 with ⟨_, h0⟩ | ⟨g, cap, cur, rfl, hg, hb, hn, hcm, hsz, ht⟩
    · rw [hll] at h0; simp at h0
    have hH : HoldsK encT 4 w g 0 l.toArray := fun j hj => by
      have hj' : j < l.length * 4 := by simpa using hj
      rw [Nat.zero_add]
      exact ⟨by rw [ho.cellAt j hj', flat_sts l j hj']; rfl, ho.frozenAt j⟩
    have eg : ∀ args w, (callFunc 150 args).run Tryz.prog w = .ok (.enter 150 args) w := enters_of Tryz.func150 (by kernel_rfl) rfl
    have hcon := AnyQ.slices_SortFunc Tryz.laysSortSt 4 Tryz.isAgg86 Tryz.sizeOf86 encT (fun _ => rfl) (fun x v hv => by simp [encT] at hv; rcases hv with rfl | rfl | rfl | rfl <;> rfl) cmpSt swoT 150 #[] g 0 cap l.toArray w eg (fun _ _ _ _ x y => stcmp_any x y _) hH (Array.getElem?_eq_some_iff.1 hb).1 (by simp; omega)
    change Calls Tryz.prog 149 #[.slice (some ⟨g, 0, none⟩) l.length cap, _] _ _ at hcon
    refine hcon.mono ?_
    rintro e w' ⟨rfl, d', n, os, hp, hs, rfl⟩
    have hsize : d'.size = l.length := by simpa using hp.1
    have hml : d'.toList.length = l.length := by simpa using hsize
    have hpm : d'.toList.Perm l := by
      have h := hp.2.2
      simpa [Array.extract_eq_self_of_le, hsize] using h
    have hd : d'.toList.toArray = d' := by simp
    refine ⟨rfl, d'.toList, hpm, ?_, ?_, app_below (Below.refl _ _) hB ho (grownBy_sortedT d')⟩
    · rw [List.pairwise_iff_getElem]
      intro i j hi hj hij
      have h := hs i j (Nat.zero_le _) hij (by simpa [hsize] using hj)
      rw [ltT] at h
      simp at hi hj
      simp [hi, hj] at h
      simpa using h
    · rw [hml]
      refine ⟨by rw [sts_len, hml], .inr ⟨g, cap, _, rfl, hg, heap_sortedT d' hb, hn, hcm, by simp [putCells, hsz], ?_⟩⟩
      have := take_putT cur d'.toList (by rw [hml, hsz]; exact Nat.mul_le_mul_right _ hn)
      rw [hd, hml] at this
      exact this
end Go.Proofs.YtjhdhfokhkcamaaGreat
namespace Go.Proofs.YtjhdhfokhkcamaaGreat
open Go.RowKit Go.Sort Go.Proofs
set_option linter.unusedVariables false
set_option maxRecDepth 100000
set_option maxRecDepth 100000
theorem st_one (f t n s : Int) : ∀ u ∈ [Value.int .i64 f, .int .i64 t, .int .i64 n, .int .i64 s], u.oneCell' = true := by
  intro u hu
  simp only [List.mem_cons, List.mem_nil_iff, or_false] at hu
  rcases hu with rfl | rfl | rfl | rfl <;> rfl
set_option maxHeartbeats 4000000 in
theorem ostays_any (a : Option Addr) (c : Nat) (l : List OpM) (u : ByteArray) (t : Int) (w : World) (hr : OpSl w a l) (hl : l.length ≤ 1000) :
    Calls Tryz.prog 90 #[.slice a l.length c, .string u, .int .i64 t] w fun e w' => ∃ v, e = .returned v ∧ w'.ownsRow w.heap.size 86 4 v (staysO l u t).length (sts (staysO l u t)) ∧ Below w.heap.size w w' := by
  obtain ⟨i0, hi, hz0, hz1, hz2⟩ := info_parts infoStay
  have HR := Lib.hid hr
  have HST := Lib.hid (fun (x : OpM) W => stay_any x t W)
  have HNO := Lib.hid none_any
  have HSO := Lib.hid sort8_any
  have HFIN := Lib.hid (fun (m : List StM) (hp : m.Perm (rawO l u t)) (hs : m.Pairwise fun a b => ¬ ltSt b a) => stays_only hp hs)
  unfold opV stV stayO at HST
  clear hr
  generalize staysO l u t = G at *
  go_enter Tryz.func90, Tryz.ntmps90
  go_wp2
  go_loopw [7, 13] (fun v i wr => ∃ (j : Nat), j ≤ l.length ∧ i = .int .i64 j ∧ Hid (wr.ownsRow w.heap.size 86 4 v (rawO (l.take j) u t).length (sts (rawO (l.take j) u t))) ∧ Hid (Below w.heap.size w wr)) (fun _ i _ => l.length - (intOf i).toNat)
  case atStart => exact ⟨0, by omega, rfl, ⟨rfl, .inl ⟨rfl, rfl⟩⟩, Below.refl _ _⟩
  case round =>
    obtain ⟨j, hj, rfl, HO, HB⟩ := hrel
    by_cases hjl : j < l.length
    · obtain ⟨b, off, rfl, hbl, hc0, hc1, hc2, hc3⟩ := (HR.out.below HB.out).at_ hjl
      have HN := Lib.hid (rawO_next l u t j hjl)
      have hln : (rawO (l.take j) u t).length ≤ 1000 := by
        have h1 := rawO_len (l.take j) u t
        have h2 : (l.take j).length ≤ j := by simp; omega
        omega
      generalize rawO (l.take j) u t = M at *
      generalize l[j] = x at *
      have HX := Lib.hid (heap_alloc_new wr (.cells #[.int .i64 x.n, .string x.u, .int .i64 x.s, .int .i64 x.f] 112))
      have HSTX := 0; clear HSTX
      clear HSO HFIN
      by_cases hu : x.u = u
      · have q1 : (x.u.toList == u.toList) = true := by rw [hu]; exact txt_eq u
        have q2 : decide (x.u = u) = true := decide_eq_true hu
        by_cases hw : x.f < t
        · have HN2 : Hid (rawO (l.take (j + 1)) u t = M ++ [stayO x t]) := by
            have := HN.out
            rwa [if_pos (show stU u t x = true by unfold stU; rw [q2, decide_eq_true hw]; rfl)] at this
          have q3 : decide (t ≤ x.f) = false := decide_eq_false (by omega)
          have HNN : Hid (∀ W, Calls Tryz.prog 135 #[.agg #[.int .i64 x.f, .int .i64 t]] W fun e w' => e = .returned (.bool false) ∧ Below W.heap.size W w') := fun W => by
            have := HNO.out x.f t W
            rwa [q3] at this
          clear HN hu q2 hw q3 HNO
          go_wp2_with fail
          refine (HST.out x _).mono ?_
          rintro r w2 ⟨rfl, hB⟩
          have hb2 : Below wr.heap.size wr w2 := (below_one wr (.cells #[.int .i64 x.n, .string x.u, .int .i64 x.s, .int .i64 x.f] 112)).trans (hB.mono (by rw [size1]; omega))
          obtain ⟨d0, d1, d2, d3⟩ := cells4 ((hB.block _ (heap_lt HX.out)).trans HX.out)
          have hlt : wr.heap.size < w2.heap.size := by have := hB.size; rw [size1] at this; omega
          have HY := Lib.hid (heap_alloc_new w2 (.cells #[.int .i64 x.f, .int .i64 t, .int .i64 x.n, .int .i64 x.s] 86))
          obtain ⟨e0, e1, e2, e3⟩ := cells4 HY.out
          have hb3 := below_one w2 (.cells #[.int .i64 x.f, .int .i64 t, .int .i64 x.n, .int .i64 x.s] 86)
          have g1 : (w2.alloc (.cells #[.int .i64 x.f, .int .i64 t, .int .i64 x.n, .int .i64 x.s] 86)).cell? ⟨wr.heap.size, 1, none⟩ = some (.string x.u) := (hb3.cell (p := ⟨wr.heap.size, 1, none⟩) hlt).trans d1
          have HB3 : Hid (Below wr.heap.size wr (w2.alloc (.cells #[.int .i64 x.f, .int .i64 t, .int .i64 x.n, .int .i64 x.s] 86))) := hb2.trans (hb3.mono hb2.size)
          clear hB hb2 hb3 d0 d1 d2 d3 hc0 hc1 hc2 hc3
          go_wp2_with fail
          refine (HNN.out _).mono ?_
          rintro r w4 ⟨rfl, hB4⟩
          have hb4 : Below wr.heap.size wr w4 := HB3.out.trans (hB4.mono HB3.out.size)
          obtain ⟨m0, m1, m2, m3⟩ := cells4 ((hB4.block _ (heap_lt HY.out)).trans HY.out)
          have HO2 := Lib.hid (own_below HO.out (hb4.trans ((below_one w4 (.cells #[.int .i64 x.f, .int .i64 t, .int .i64 x.n, .int .i64 x.s] 86)).mono hb4.size)))
          have HB2 : Hid (Below w.heap.size w (w4.alloc (.cells #[.int .i64 x.f, .int .i64 t, .int .i64 x.n, .int .i64 x.s] 86))) := HB.out.trans ((hb4.trans ((below_one w4 _).mono hb4.size)).mono HB.out.size)
          have HS2 := Lib.hid HB2.out.size
          clear hB4 hb4 HX HY HB3 e0 e1 e2 e3 g1 hlt
          go_wp2_with (at_builtin; refine wpList_append_own _ rfl (.tmp 30) (.tmp 32) 60 rfl w.heap.size 86 i0 _ 4 32 Tryz.underlying60 hi hz0 hz1 hz2 rfl (by decide) _ _ _ rfl HO2.out ⟨w4.heap.size, 0, none⟩ 1 1 [.int .i64 x.f, .int .i64 t, .int .i64 x.n, .int .i64 x.s] rfl rfl (news_at _ _ _ _ rfl) (st_one _ _ _ _) (by unfold maxLen; omega) (by omega) HS2.out ?_; intro v' w5 hown' hgrow hiff)
          have HB5 := Lib.hid (app_below HB2.out HS2.out HO2.out hgrow)
          have HO5 := Lib.hid hown'
          clear hown' hgrow hiff HB2 HS2 HO2
          go_wp2
          go_roundw
          case rel => exact ⟨j + 1, by omega, by go_num, (by unfold Hid; rw [HN2.out, List.length_append, sts_snoc]; exact HO5.out), HB5⟩
          case measure => simp [intOf]; omega
        · have HN2 : Hid (rawO (l.take (j + 1)) u t = M) := by
            have := HN.out
            rwa [if_neg (show ¬ stU u t x = true by unfold stU; rw [decide_eq_false hw, Bool.and_false]; exact Bool.false_ne_true)] at this
          have q3 : decide (t ≤ x.f) = true := decide_eq_true (by omega)
          have HNN : Hid (∀ W, Calls Tryz.prog 135 #[.agg #[.int .i64 x.f, .int .i64 t]] W fun e w' => e = .returned (.bool true) ∧ Below W.heap.size W w') := fun W => by
            have := HNO.out x.f t W
            rwa [q3] at this
          clear HN hu q2 hw q3 HNO
          go_wp2_with fail
          refine (HST.out x _).mono ?_
          rintro r w2 ⟨rfl, hB⟩
          have hb2 : Below wr.heap.size wr w2 := (below_one wr (.cells #[.int .i64 x.n, .string x.u, .int .i64 x.s, .int .i64 x.f] 112)).trans (hB.mono (by rw [size1]; omega))
          obtain ⟨d0, d1, d2, d3⟩ := cells4 ((hB.block _ (heap_lt HX.out)).trans HX.out)
          have hlt : wr.heap.size < w2.heap.size := by have := hB.size; rw [size1] at this; omega
          have HY := Lib.hid (heap_alloc_new w2 (.cells #[.int .i64 x.f, .int .i64 t, .int .i64 x.n, .int .i64 x.s] 86))
          obtain ⟨e0, e1, e2, e3⟩ := cells4 HY.out
          have hb3 := below_one w2 (.cells #[.int .i64 x.f, .int .i64 t, .int .i64 x.n, .int .i64 x.s] 86)
          have g1 : (w2.alloc (.cells #[.int .i64 x.f, .int .i64 t, .int .i64 x.n, .int .i64 x.s] 86)).cell? ⟨wr.heap.size, 1, none⟩ = some (.string x.u) := (hb3.cell (p := ⟨wr.heap.size, 1, none⟩) hlt).trans d1
          have HB3 : Hid (Below wr.heap.size wr (w2.alloc (.cells #[.int .i64 x.f, .int .i64 t, .int .i64 x.n, .int .i64 x.s] 86))) := hb2.trans (hb3.mono hb2.size)
          clear hB hb2 hb3 d0 d1 d2 d3 hc0 hc1 hc2 hc3
          go_wp2_with fail
          refine (HNN.out _).mono ?_
          rintro r w4 ⟨rfl, hB4⟩
          have hb4 : Below wr.heap.size wr w4 := HB3.out.trans (hB4.mono HB3.out.size)
          have HO2 := Lib.hid (own_below HO.out hb4)
          have HB2 := Lib.hid (HB.out.trans (hb4.mono HB.out.size))
          clear hB4 hb4 HX HY HB3 e0 e1 e2 e3 g1 hlt
          go_wp2
          go_roundw
          case rel => exact ⟨j + 1, by omega, by go_num, (by unfold Hid; rw [HN2.out]; exact HO2.out), HB2⟩
          case measure => simp [intOf]; omega
      · have q1 := txt_ne hu
        have HN2 : Hid (rawO (l.take (j + 1)) u t = M) := by
          have := HN.out
          rwa [if_neg (show ¬ stU u t x = true by unfold stU; rw [decide_eq_false hu]; exact Bool.false_ne_true)] at this
        clear HN hu HNO
        go_wp2_with fail
        refine (HST.out x _).mono ?_
        rintro r w2 ⟨rfl, hB⟩
        have hb2 : Below wr.heap.size wr w2 := (below_one wr (.cells #[.int .i64 x.n, .string x.u, .int .i64 x.s, .int .i64 x.f] 112)).trans (hB.mono (by rw [size1]; omega))
        obtain ⟨d0, d1, d2, d3⟩ := cells4 ((hB.block _ (heap_lt HX.out)).trans HX.out)
        have hlt : wr.heap.size < w2.heap.size := by have := hB.size; rw [size1] at this; omega
        have HY := Lib.hid (heap_alloc_new w2 (.cells #[.int .i64 x.f, .int .i64 t, .int .i64 x.n, .int .i64 x.s] 86))
        obtain ⟨e0, e1, e2, e3⟩ := cells4 HY.out
        have hb3 := below_one w2 (.cells #[.int .i64 x.f, .int .i64 t, .int .i64 x.n, .int .i64 x.s] 86)
        have g1 : (w2.alloc (.cells #[.int .i64 x.f, .int .i64 t, .int .i64 x.n, .int .i64 x.s] 86)).cell? ⟨wr.heap.size, 1, none⟩ = some (.string x.u) := (hb3.cell (p := ⟨wr.heap.size, 1, none⟩) hlt).trans d1
        have HB3 : Hid (Below wr.heap.size wr (w2.alloc (.cells #[.int .i64 x.f, .int .i64 t, .int .i64 x.n, .int .i64 x.s] 86))) := hb2.trans (hb3.mono hb2.size)
        clear hB hb2 hb3 d0 d1 d2 d3 hc0 hc1 hc2 hc3
        have HO2 := Lib.hid (own_below HO.out HB3.out)
        have HB2 := Lib.hid (HB.out.trans (HB3.out.mono HB.out.size))
        clear HX HY HB3 e0 e1 e2 e3 hlt
        go_wp2
        go_roundw
        case rel => exact ⟨j + 1, by omega, by go_num, (by unfold Hid; rw [HN2.out]; exact HO2.out), HB2⟩
        case measure => simp [intOf]; omega
    · obtain rfl : j = l.length := by omega
      rw [List.take_of_length_le (Nat.le_refl _)] at HO
      have hrl := rawO_len l u t
      have HS := Lib.hid (HSO.out w.heap.size _ (rawO l u t) wr HB.out.size HO.out (by omega))
      clear HST HNO HSO
      go_wp2_with fail
      refine HS.out.mono ?_
      rintro e w5 ⟨rfl, m, hperm, hsort, ho5, hb5⟩
      have hm := HFIN.out m hperm hsort
      subst hm
      go_wp2
      go_ret
      exact ⟨_, rfl, ho5, HB.out.trans hb5⟩
set_option maxHeartbeats 4000000 in
theorem rstays_any (a : Option Addr) (c : Nat) (l : List OpM) (u : ByteArray) (t : Int) (w : World) (hr : OpSl w a l) (hl : l.length ≤ 1000) :
    Calls Tryz.prog 93 #[.slice a l.length c, .string u, .int .i64 t] w fun e w' => ∃ x q, e = .returned (.slice x (staysO l u t).length q) ∧ StSl w' x (staysO l u t) ∧ Below w.heap.size w w' := by
  have HR := Lib.hid hr
  have HST := Lib.hid (fun (x : OpM) W => rstay_any x t W)
  unfold opV stV stayO at HST
  clear hr
  go_enter Tryz.func93, Tryz.ntmps93
  go_wp2
  go_loopw [7, 8] (fun v i wr => ∃ (j : Nat) (x : Option Addr) (q : Nat), j ≤ l.length ∧ i = .int .i64 j ∧ v = .slice x (staysO (l.take j) u t).length q ∧ Hid (Wd x q (staysO (l.take j) u t).length) ∧ Hid (StSl wr x (staysO (l.take j) u t)) ∧ Hid (Below w.heap.size w wr)) (fun _ i _ => l.length - (intOf i).toNat)
  case atStart => exact ⟨0, none, 0, by omega, rfl, rfl, ⟨Nat.le_refl _, by unfold maxLen; omega, fun _ => rfl⟩, StSl.nil _ _, Below.refl _ _⟩
  case round =>
    obtain ⟨j, x0, q0, hj, rfl, rfl, HW, HS, HB⟩ := hrel
    by_cases hjl : j < l.length
    · obtain ⟨b, off, rfl, hbl, hc0, hc1, hc2, hc3⟩ := (HR.out.below HB.out).at_ hjl
      have HN := Lib.hid (staysO_next l u t j hjl)
      have HLN := Lib.hid (staysO_len l u t j)
      generalize staysO (l.take j) u t = M at *
      generalize l[j] = x at *
      by_cases hu : x.u = u
      · have q1 : (x.u.toList == u.toList) = true := by rw [hu]; exact txt_eq u
        have HN2 : Hid (staysO (l.take (j + 1)) u t = addS M (stayO x t)) := by
          have := HN.out
          rwa [if_pos hu] at this
        have HAD := Lib.hid (fun W (h : StSl W x0 M) => refAdd_more x0 q0 M (stayO x t) W h HW.out.nil (by have := HLN.out; omega) HW.out.le HW.out.max)
        unfold stV stayO at HAD
        unfold stayO at HN2
        dsimp only at HAD HN2
        generalize addS M ⟨x.f, t, x.n, x.s⟩ = M2 at *
        clear HN hu HLN HW
        go_wp2_with fail
        refine (HST.out x _).mono ?_
        rintro r w2 ⟨rfl, hB⟩
        have HB2 := Lib.hid (HB.out.trans (hB.mono HB.out.size))
        have HS2 := Lib.hid (HS.out.below hB)
        clear hB HST hc0 hc1 hc2 hc3
        go_wp2_with fail
        refine (HAD.out _ HS2.out).mono ?_
        rintro r w3 ⟨x1, q1', rfl, hs, hB, hw⟩
        have HB3 := Lib.hid (HB2.out.trans (hB.mono HB2.out.size))
        have HS3 := Lib.hid hs
        have HW3 := Lib.hid hw
        clear hs hw hB HAD
        go_wp2
        go_roundw
        case rel => exact ⟨j + 1, x1, q1', by omega, by go_num, by rw [HN2.out], (by unfold Hid; rw [HN2.out]; exact HW3.out), (by unfold Hid; rw [HN2.out]; exact HS3.out), HB3.out⟩
        case measure => simp [intOf]; omega
      · have q1 := txt_ne hu
        have HN2 : Hid (staysO (l.take (j + 1)) u t = M) := by
          have := HN.out
          rwa [if_neg hu] at this
        clear HN hu HLN HST
        go_wp2
        go_roundw
        case rel => exact ⟨j + 1, x0, q0, by omega, by go_num, by rw [HN2.out], (by unfold Hid; rw [HN2.out]; exact HW.out), (by unfold Hid; rw [HN2.out]; exact HS.out), HB.out⟩
        case measure => simp [intOf]; omega
    · obtain rfl : j = l.length := by omega
      rw [List.take_of_length_le (Nat.le_refl _)] at HS
      have HE : Hid (staysO (l.take l.length) u t = staysO l u t) := by unfold Hid; rw [List.take_of_length_le (Nat.le_refl _)]
      go_wp2
      go_ret
      exact ⟨x0, q0, (by rw [HE.out]; rfl), HS.out, HB.out⟩
end Go.Proofs.YtjhdhfokhkcamaaGreat
namespace Go.Proofs.YtjhdhfokhkcamaaGreat
open Go.RowKit Go.Sort Go.Proofs
set_option linter.unusedVariables false
set_option maxRecDepth 100000
set_option maxRecDepth 100000
theorem ofil_take (q : OpM → Bool) (l : List OpM) (j : Nat) (h : j < l.length) : (l.take (j + 1)).filter q = (l.take j).filter q ++ (if q l[j] = true then [l[j]] else []) := by
  rw [List.take_succ_eq_append_getElem h, List.filter_append, List.filter_cons, List.filter_nil]
theorem ofil_len (q : OpM → Bool) (l : List OpM) (j : Nat) : ((l.take j).filter q).length ≤ j := Nat.le_trans (List.length_filter_le _ _) (by simp; omega)
def SzO (l : List OpM) : Prop := ∀ e ∈ l, e.u.size ≤ maxLen
set_option maxHeartbeats 2000000 in
theorem owithout_any (a : Option Addr) (c : Nat) (l : List OpM) (u : ByteArray) (w : World) (hr : OpSl w a l) (hl : l.length ≤ 100000) :
    Calls Tryz.prog 169 #[.slice a l.length c, .string u] w fun e w' => ∃ v, e = .returned v ∧ w'.ownsRow w.heap.size 112 4 v (l.filter (notU u)).length (oes (l.filter (notU u))) ∧ Below w.heap.size w w' := by
  obtain ⟨i0, hi, hz0, hz1, hz2⟩ := info_parts infoOp
  have HR := Lib.hid hr
  clear hr
  go_enter Tryz.func169, Tryz.ntmps169
  go_wp2
  go_loopw [5, 10] (fun v i wr => ∃ (j : Nat), j ≤ l.length ∧ i = .int .i64 j ∧ Hid (wr.ownsRow w.heap.size 112 4 v ((l.take j).filter (notU u)).length (oes ((l.take j).filter (notU u)))) ∧ Hid (Below w.heap.size w wr)) (fun _ i _ => l.length - (intOf i).toNat)
  case atStart => exact ⟨0, by omega, rfl, ⟨rfl, .inl ⟨rfl, rfl⟩⟩, Below.refl _ _⟩
  case round =>
    obtain ⟨j, hj, rfl, HO, HB⟩ := hrel
    by_cases hjl : j < l.length
    · obtain ⟨b, off, rfl, hbl, hc0, hc1, hc2, hc3⟩ := (HR.out.below HB.out).at_ hjl
      have HT := Lib.hid (ofil_take (notU u) l j hjl)
      have HLN := Lib.hid (ofil_len (notU u) l j)
      generalize l[j] = x at *
      generalize (l.take j).filter (notU u) = m at *
      have HX := heap_alloc_new wr (.cells #[.int .i64 x.n, .string x.u, .int .i64 x.s, .int .i64 x.f] 112)
      obtain ⟨d0, d1, d2, d3⟩ := cells4 HX
      have hb1 := below_one wr (.cells #[.int .i64 x.n, .string x.u, .int .i64 x.s, .int .i64 x.f] 112)
      by_cases hu : x.u = u
      · have HC2 : Hid ((l.take (j + 1)).filter (notU u) = m) := by
          have := HT.out
          rwa [if_neg (by unfold notU; rw [decide_eq_false (fun h => h hu)]; exact Bool.false_ne_true), List.append_nil] at this
        have q1 : (x.u.toList != u.toList) = false := by rw [hu]; exact txt_ns u
        have q2 : (x.u.toList == u.toList) = true := by rw [hu]; exact txt_eq u
        have HO2 := Lib.hid (own_below HO.out hb1)
        have HB2 := Lib.hid (HB.out.trans (hb1.mono HB.out.size))
        clear HT HLN hu hb1
        go_wp2
        go_roundw
        case rel => exact ⟨j + 1, by omega, by go_num, (by unfold Hid; rw [HC2.out]; exact HO2.out), HB2.out⟩
        case measure => simp [intOf]; omega
      · have HC2 : Hid ((l.take (j + 1)).filter (notU u) = m ++ [x]) := by
          have := HT.out
          rwa [if_pos (show notU u x = true from decide_eq_true hu)] at this
        have q1 := txt_nt hu
        have q2 := txt_ne hu
        have hb2 : Below wr.heap.size wr ((wr.alloc (.cells #[.int .i64 x.n, .string x.u, .int .i64 x.s, .int .i64 x.f] 112)).alloc (.cells #[.int .i64 x.n, .string x.u, .int .i64 x.s, .int .i64 x.f] 112)) := hb1.trans ((below_one (wr.alloc (.cells #[.int .i64 x.n, .string x.u, .int .i64 x.s, .int .i64 x.f] 112)) (.cells #[.int .i64 x.n, .string x.u, .int .i64 x.s, .int .i64 x.f] 112)).mono hb1.size)
        have HO2 := Lib.hid (own_below HO.out hb2)
        have HB2 := Lib.hid (HB.out.trans (hb2.mono HB.out.size))
        have HS2 := Lib.hid HB2.out.size
        have hlm := HLN.out
        clear HT hu hb1 hb2
        go_wp2_with (at_builtin; refine wpList_append_own _ rfl (.tmp 18) (.tmp 20) 33 rfl w.heap.size 112 i0 _ 4 40 Tryz.underlying33 hi hz0 hz1 hz2 rfl (by decide) _ _ _ rfl HO2.out ⟨wr.heap.size + 1, 0, none⟩ 1 1 [.int .i64 x.n, .string x.u, .int .i64 x.s, .int .i64 x.f] rfl rfl (news_at _ _ _ _ (size1 _ _).symm) (four_o _ _ _ _) (by unfold maxLen; omega) (by omega) HS2.out ?_; intro v' w3 hown' hgrow hiff)
        have HB3 := Lib.hid (app_below HB2.out HS2.out HO2.out hgrow)
        have HO3 := Lib.hid hown'
        clear hown' hgrow hiff HB2 HS2 HO2
        go_wp2
        go_roundw
        case rel => exact ⟨j + 1, by omega, by go_num, (by unfold Hid; rw [HC2.out, List.length_append, oes_snoc]; exact HO3.out), HB3⟩
        case measure => simp [intOf]; omega
    · obtain rfl : j = l.length := by omega
      rw [List.take_of_length_le (Nat.le_refl _)] at HO
      go_wp2
      go_ret
      exact ⟨_, rfl, HO.out, HB.out⟩
set_option maxHeartbeats 2000000 in
theorem orwithout_any (a : Option Addr) (c : Nat) (l : List OpM) (u : ByteArray) (w : World) (hr : OpSl w a l) (hl : l.length ≤ 100000) :
    Calls Tryz.prog 50 #[.slice a l.length c, .string u] w fun e w' => ∃ v, e = .returned v ∧ w'.ownsRow w.heap.size 75 4 v (l.filter (notU u)).length (oes (l.filter (notU u))) ∧ Below w.heap.size w w' := by
  obtain ⟨i0, hi, hz0, hz1, hz2⟩ := info_parts infoOpR
  have HR := Lib.hid hr
  clear hr
  go_enter Tryz.func50, Tryz.ntmps50
  go_wp2
  go_loopw [5, 6] (fun v i wr => ∃ (j : Nat), j ≤ l.length ∧ i = .int .i64 j ∧ Hid (wr.ownsRow w.heap.size 75 4 v ((l.take j).filter (notU u)).length (oes ((l.take j).filter (notU u)))) ∧ Hid (Below w.heap.size w wr)) (fun _ i _ => l.length - (intOf i).toNat)
  case atStart => exact ⟨0, by omega, rfl, ⟨rfl, .inl ⟨rfl, rfl⟩⟩, Below.refl _ _⟩
  case round =>
    obtain ⟨j, hj, rfl, HO, HB⟩ := hrel
    by_cases hjl : j < l.length
    · obtain ⟨b, off, rfl, hbl, hc0, hc1, hc2, hc3⟩ := (HR.out.below HB.out).at_ hjl
      have HT := Lib.hid (ofil_take (notU u) l j hjl)
      have HLN := Lib.hid (ofil_len (notU u) l j)
      generalize l[j] = x at *
      generalize (l.take j).filter (notU u) = m at *
      have hb1 := Below.refl wr.heap.size wr
      by_cases hu : x.u = u
      · have HC2 : Hid ((l.take (j + 1)).filter (notU u) = m) := by
          have := HT.out
          rwa [if_neg (by unfold notU; rw [decide_eq_false (fun h => h hu)]; exact Bool.false_ne_true), List.append_nil] at this
        have q1 : (x.u.toList != u.toList) = false := by rw [hu]; exact txt_ns u
        have q2 : (x.u.toList == u.toList) = true := by rw [hu]; exact txt_eq u
        have HO2 := Lib.hid (own_below HO.out hb1)
        have HB2 := Lib.hid (HB.out.trans (hb1.mono HB.out.size))
        clear HT HLN hu hb1
        go_wp2
        go_roundw
        case rel => exact ⟨j + 1, by omega, by go_num, (by unfold Hid; rw [HC2.out]; exact HO2.out), HB2.out⟩
        case measure => simp [intOf]; omega
      · have HC2 : Hid ((l.take (j + 1)).filter (notU u) = m ++ [x]) := by
          have := HT.out
          rwa [if_pos (show notU u x = true from decide_eq_true hu)] at this
        have q1 := txt_nt hu
        have q2 := txt_ne hu
        have hb2 : Below wr.heap.size wr (wr.alloc (.cells #[.int .i64 x.n, .string x.u, .int .i64 x.s, .int .i64 x.f] 75)) := hb1.trans ((below_one wr (.cells #[.int .i64 x.n, .string x.u, .int .i64 x.s, .int .i64 x.f] 75)).mono hb1.size)
        have HO2 := Lib.hid (own_below HO.out hb2)
        have HB2 := Lib.hid (HB.out.trans (hb2.mono HB.out.size))
        have HS2 := Lib.hid HB2.out.size
        have hlm := HLN.out
        clear HT hu hb1 hb2
        go_wp2_with (at_builtin; refine wpList_append_own _ rfl (.tmp 20) (.tmp 25) 22 rfl w.heap.size 75 i0 _ 4 40 Tryz.underlying22 hi hz0 hz1 hz2 rfl (by decide) _ _ _ rfl HO2.out ⟨wr.heap.size, 0, none⟩ 1 1 [.int .i64 x.n, .string x.u, .int .i64 x.s, .int .i64 x.f] rfl rfl (news_at _ _ _ _ rfl) (four_o _ _ _ _) (by unfold maxLen; omega) (by omega) HS2.out ?_; intro v' w3 hown' hgrow hiff)
        have HB3 := Lib.hid (app_below HB2.out HS2.out HO2.out hgrow)
        have HO3 := Lib.hid hown'
        clear hown' hgrow hiff HB2 HS2 HO2
        go_wp2
        go_roundw
        case rel => exact ⟨j + 1, by omega, by go_num, (by unfold Hid; rw [HC2.out, List.length_append, oes_snoc]; exact HO3.out), HB3⟩
        case measure => simp [intOf]; omega
    · obtain rfl : j = l.length := by omega
      rw [List.take_of_length_le (Nat.le_refl _)] at HO
      go_wp2
      go_ret
      exact ⟨_, rfl, HO.out, HB.out⟩
end Go.Proofs.YtjhdhfokhkcamaaGreat
namespace Go.Proofs.YtjhdhfokhkcamaaGreat
open Go.RowKit Go.Sort Go.Proofs
set_option linter.unusedVariables false
set_option maxRecDepth 100000
set_option maxRecDepth 100000
theorem okO_iff (e : OpM) : decide (OkO e) = (((nameO e.u && (decide (1 ≤ e.n) && decide (e.n ≤ 999))) && (decide (1 ≤ e.s) && decide (e.s ≤ 4))) && (decide (0 ≤ e.f) && decide (e.f ≤ 1099511627775))) := by
  rw [Bool.eq_iff_iff, decide_eq_true_iff]
  simp only [Bool.and_eq_true, decide_eq_true_eq]
  unfold OkO
  constructor
  · rintro ⟨h1, h2, h3, h4, h5, h6, h7⟩
    exact ⟨⟨⟨h1, h2, h3⟩, h4, h5⟩, h6, h7⟩
  · rintro ⟨⟨⟨h1, h2, h3⟩, h4, h5⟩, h6, h7⟩
    exact ⟨h1, h2, h3, h4, h5, h6, h7⟩
set_option maxHeartbeats 4000000 in
theorem oright_any (e : OpM) (w : World) (hs : e.u.size ≤ maxLen) : Calls Tryz.prog 125 #[opV e] w fun r w' => r = .returned (.bool (decide (OkO e))) ∧ Below w.heap.size w w' := by
  rw [okO_iff]
  have HR : Hid (∀ W, Calls Tryz.prog 127 #[.string e.u] W fun r w' => r = .returned (.bool (nameO e.u)) ∧ W = w') := fun W => right_any e.u W hs
  have HW := Lib.hid within_any
  have HB := Lib.hid (below_one w (.cells #[.int .i64 e.n, .string e.u, .int .i64 e.s, .int .i64 e.f] 112))
  obtain ⟨d0, d1, d2, d3⟩ := cells4 (heap_alloc_new w (.cells #[.int .i64 e.n, .string e.u, .int .i64 e.s, .int .i64 e.f] 112))
  unfold opV
  clear hs
  generalize nameO e.u = b0 at *
  have HW1 : Hid (∀ W, Calls Tryz.prog 177 #[.int .i64 e.n, .int .i64 1, .int .i64 999] W fun r w' => r = .returned (.bool (decide (1 ≤ e.n) && decide (e.n ≤ 999))) ∧ w' = W) := fun W => HW.out _ _ _ W
  have HW2 : Hid (∀ W, Calls Tryz.prog 177 #[.int .i64 e.s, .int .i64 1, .int .i64 4] W fun r w' => r = .returned (.bool (decide (1 ≤ e.s) && decide (e.s ≤ 4))) ∧ w' = W) := fun W => HW.out _ _ _ W
  have HW3 : Hid (∀ W, Calls Tryz.prog 177 #[.int .i64 e.f, .int .i64 0, .int .i64 1099511627775] W fun r w' => r = .returned (.bool (decide (0 ≤ e.f) && decide (e.f ≤ 1099511627775))) ∧ w' = W) := fun W => HW.out _ _ _ W
  clear HW
  generalize (decide (1 ≤ e.n) && decide (e.n ≤ 999)) = b1 at *
  generalize (decide (1 ≤ e.s) && decide (e.s ≤ 4)) = b2 at *
  generalize (decide (0 ≤ e.f) && decide (e.f ≤ 1099511627775)) = b3 at *
  cases b0 with
  | false =>
    go_enter Tryz.func125, Tryz.ntmps125
    go_wp2_with fail
    refine (HR.out _).mono ?_
    rintro r w1 ⟨rfl, rfl⟩
    go_wp2
    go_ret
    exact ⟨by simp, HB.out⟩
  | true =>
    cases b1 with
    | false =>
      go_enter Tryz.func125, Tryz.ntmps125
      go_wp2_with fail
      refine (HR.out _).mono ?_
      rintro r w1 ⟨rfl, rfl⟩
      go_wp2_with fail
      refine (HW1.out _).mono ?_
      rintro r w1 ⟨rfl, rfl⟩
      go_wp2
      go_ret
      exact ⟨by simp, HB.out⟩
    | true =>
      cases b2 with
      | false =>
        go_enter Tryz.func125, Tryz.ntmps125
        go_wp2_with fail
        refine (HR.out _).mono ?_
        rintro r w1 ⟨rfl, rfl⟩
        go_wp2_with fail
        refine (HW1.out _).mono ?_
        rintro r w1 ⟨rfl, rfl⟩
        go_wp2_with fail
        refine (HW2.out _).mono ?_
        rintro r w1 ⟨rfl, rfl⟩
        go_wp2
        go_ret
        exact ⟨by simp, HB.out⟩
      | true =>
        go_enter Tryz.func125, Tryz.ntmps125
        go_wp2_with fail
        refine (HR.out _).mono ?_
        rintro r w1 ⟨rfl, rfl⟩
        go_wp2_with fail
        refine (HW1.out _).mono ?_
        rintro r w1 ⟨rfl, rfl⟩
        go_wp2_with fail
        refine (HW2.out _).mono ?_
        rintro r w1 ⟨rfl, rfl⟩
        go_wp2_with fail
        refine (HW3.out _).mono ?_
        rintro r w1 ⟨rfl, rfl⟩
        go_wp2
        go_ret
        exact ⟨by simp, HB.out⟩
def RiTo (l : List OpM) (j : Nat) : Prop := ∀ k (h : k < l.length), k < j → OkO l[k] ∧ (0 < k → (l[k - 1]'(by omega)).n < l[k].n)
theorem RiTo.zero (l : List OpM) : RiTo l 0 := fun k _ h => absurd h (by omega)
theorem RiTo.next {l : List OpM} {j : Nat} (h : RiTo l j) (hj : j < l.length) (h1 : OkO l[j]) (h2 : 0 < j → (l[j - 1]'(by omega)).n < l[j].n) : RiTo l (j + 1) := fun k hk hkj => by
  rcases Nat.lt_or_ge k j with h3 | h3
  · exact h k hk h3
  · obtain rfl : k = j := by omega
    exact ⟨h1, h2⟩
theorem rise_yes {l : List OpM} (h0 : l.length ≤ 16) (h : RiTo l l.length) : decide (RiseO l) = true := decide_eq_true ⟨h0, fun k hk => h k hk hk⟩
theorem rise_no1 {l : List OpM} {j : Nat} (hj : j < l.length) (h : ¬ OkO l[j]) : decide (RiseO l) = false := decide_eq_false fun hr => h (hr.2 j hj).1
theorem rise_no2 {l : List OpM} {j : Nat} (hj : j < l.length) (h0 : 0 < j) (h : ¬ (l[j - 1]'(by omega)).n < l[j].n) : decide (RiseO l) = false := decide_eq_false fun hr => h ((hr.2 j hj).2 h0)
theorem rise_no3 {l : List OpM} (h : 16 < l.length) : decide (RiseO l) = false := decide_eq_false fun hr => by have := hr.1; omega
set_option maxHeartbeats 8000000 in
theorem orising_any (a : Option Addr) (c : Nat) (l : List OpM) (w : World) (hr : OpSl w a l) (hsz : SzO l) (hl : l.length ≤ 1000000) :
    Calls Tryz.prog 59 #[.slice a l.length c] w fun e w' => e = .returned (.bool (decide (RiseO l))) ∧ Below w.heap.size w w' := by
  have HR := Lib.hid hr
  have HRT := Lib.hid (fun x (h : x ∈ l) W => oright_any x W (hsz x h))
  unfold opV at HRT
  clear hr hsz
  by_cases h16 : 16 < l.length
  · have d1 : decide ((16 : Int) < (l.length : Int)) = true := decide_eq_true (by omega)
    have d2 : decide ((l.length : Int) > (16 : Int)) = true := decide_eq_true (by omega)
    have HF := Lib.hid (rise_no3 h16)
    clear HRT HR
    go_enter Tryz.func59, Tryz.ntmps59
    go_wp2
    go_ret
    exact ⟨by rw [HF.out]; rfl, Below.refl _ _⟩
  · have d1 : decide ((16 : Int) < (l.length : Int)) = false := decide_eq_false (by omega)
    have d2 : decide ((l.length : Int) > (16 : Int)) = false := decide_eq_false (by omega)
    have HY := Lib.hid (fun h => rise_yes (l := l) (by omega) h)
    go_enter Tryz.func59, Tryz.ntmps59
    go_wp2
    clear d1 d2
    go_loopw [10] (fun i wr => ∃ (j : Nat), j ≤ l.length ∧ i = .int .i64 j ∧ Hid (RiTo l j) ∧ Hid (Below w.heap.size w wr)) (fun i _ => l.length - (intOf i).toNat)
    case atStart => exact ⟨0, by omega, rfl, RiTo.zero _, Below.refl _ _⟩
    case round =>
      obtain ⟨j, hj, rfl, HO, HB⟩ := hrel
      by_cases hjl : j < l.length
      · obtain ⟨b, off, rfl, hbl, hc0, hc1, hc2, hc3⟩ := (HR.out.below HB.out).at_ hjl
        have HK := Lib.hid (RsO.new (x := l[j]) (HR.out.below HB.out) HB.out 112)
        have HNX := Lib.hid (HO.out.next hjl)
        have HRX := Lib.hid (HRT.out l[j] (List.getElem_mem hjl))
        clear HRT HY
        by_cases h1 : OkO l[j]
        · rw [decide_eq_true h1] at HRX
          have HNX2 := Lib.hid (HNX.out h1)
          by_cases h0 : 0 < j
          · obtain ⟨k, hk⟩ : ∃ k, j = k + 1 := ⟨j - 1, by omega⟩
            have hkl : k < l.length := by omega
            have hpw : IntKind.i64.wrap ((j : Int) - 1) = (k : Int) := by rw [IntWalk.i64_in] <;> omega
            have hgt : decide ((0 : Int) < (j : Int)) = true := decide_eq_true (by omega)
            have HP0 : Hid (∀ W, RsO w wr.heap.size l[j] (some ⟨b, off, none⟩) l W → W.cell? ⟨wr.heap.size, 0, none⟩ = some (.int .i64 l[j].n) ∧ W.cell? ⟨wr.heap.size, 1, none⟩ = some (.string l[j].u) ∧ W.cell? ⟨wr.heap.size, 2, none⟩ = some (.int .i64 l[j].s) ∧ W.cell? ⟨wr.heap.size, 3, none⟩ = some (.int .i64 l[j].f) ∧ W.cell? ⟨b, off + k * 4, none⟩ = some (.int .i64 l[k].n)) := fun W h => by
              obtain ⟨p0, p1, p2, p3, p4, -⟩ := h.at_ hkl
              exact ⟨p0, p1, p2, p3, p4⟩
            have hkp : ∀ h, l[j - 1]'h = l[k] := fun h => by congr 1; omega
            have HNX3 : Hid (l[k].n < l[j].n → RiTo l (j + 1)) := fun h => HNX2.out (fun _ => by rw [hkp]; exact h)
            have HNP3 : Hid (¬ l[k].n < l[j].n → decide (RiseO l) = false) := fun h => rise_no2 hjl h0 (by rw [hkp]; exact h)
            clear HNX HNX2 hkp hk h1
            generalize l[k] = y at *
            generalize l[j] = x at *
            by_cases h3 : y.n < x.n
            · have HN := Lib.hid (HNX3.out h3)
              have d3 : decide (x.n ≤ y.n) = false := decide_eq_false (by omega)
              clear HNX3 HNP3 h3
              go_wp2_with fail
              generalize wr.alloc (.cells #[.int .i64 x.n, .string x.u, .int .i64 x.s, .int .i64 x.f] 112) = W at *
              generalize wr.heap.size = g at *
              refine wp_region_held_drew (S := (fun W => W.cell? ⟨g, 0, none⟩ = some (.int .i64 x.n) ∧ W.cell? ⟨g, 1, none⟩ = some (.string x.u) ∧ W.cell? ⟨g, 2, none⟩ = some (.int .i64 x.s) ∧ W.cell? ⟨g, 3, none⟩ = some (.int .i64 x.f) ∧ W.cell? ⟨b, off + k * 4, none⟩ = some (.int .i64 y.n))) (by kernel_rfl) ?_ (fun hHeld => ?_)
              · exact HP0.out _ (HK.out.below (Below.refl _ _).drew)
              refine tT 0 ⟨some 15, _, _, _, _, _⟩ rfl (h := ?_)
              refine wpAnyH_ready (rs := [1]) (by kernel_rfl) (by simp) ?_
              refine AllReadyH.cons (o := ⟨some 16, _, _, _, _, _⟩) rfl (fun K hK => ?_) AllReadyH.nil
              go_simp
              refine (HRX.out _).mono ?_
              rintro e w3 ⟨rfl, h3⟩
              have K3 := (HK.out.below (Below.refl _ _).drew).below h3
              go_wp2_with fail
              refine hK.out _ _ ?_ (fun hH1 => ?_)
              · exact HP0.out _ K3
              clear hK K
              (try simp only [Act.put, List.setIfInBounds_toArray, List.set_cons_zero, List.set_cons_succ])
              refine tT 2 ⟨some 17, _, _, _, _, _⟩ rfl (h := ?_)
              refine tT 3 ⟨some 18, _, _, _, _, _⟩ rfl (h := ?_)
              refine tT 4 ⟨some 19, _, _, _, _, _⟩ rfl (h := ?_)
              refine tT 5 ⟨some 20, _, _, _, _, _⟩ rfl (h := ?_)
              refine tT 6 ⟨some 21, _, _, _, _, _⟩ rfl (h := ?_)
              refine tT 7 ⟨some 22, _, _, _, _, _⟩ rfl (h := ?_)
              refine tT 8 ⟨some 23, _, _, _, _, _⟩ rfl (h := ?_)
              refine tT 9 ⟨some 24, _, _, _, _, _⟩ rfl (h := ?_)
              refine tT 10 ⟨some 25, _, _, _, _, _⟩ rfl (h := ?_)
              refine tT 11 ⟨some 26, _, _, _, _, _⟩ rfl (h := ?_)
              refine tT 12 ⟨some 27, _, _, _, _, _⟩ rfl (h := ?_)
              refine tT 13 ⟨some 28, _, _, _, _, _⟩ rfl (h := ?_)
              refine tT 14 ⟨some 29, _, _, _, _, _⟩ rfl (h := ?_)
              refine tT 15 ⟨some 30, _, _, _, _, _⟩ rfl (h := ?_)
              refine tT 16 ⟨some 31, _, _, _, _, _⟩ rfl (h := ?_)
              refine tT 17 ⟨some 32, _, _, _, _, _⟩ rfl (h := ?_)
              refine wpAnyH_done (by kernel_rfl) ?_ _
              all_goals
                go_wp2
                go_roundw
                case rel => exact ⟨j + 1, by omega, by go_num, HN, K3.frame⟩
                case measure => simp [intOf]; omega
            · have HF := Lib.hid (HNP3.out h3)
              have d3 : decide (x.n ≤ y.n) = true := decide_eq_true (by omega)
              clear HNX3 HNP3 h3
              go_wp2_with fail
              generalize wr.alloc (.cells #[.int .i64 x.n, .string x.u, .int .i64 x.s, .int .i64 x.f] 112) = W at *
              generalize wr.heap.size = g at *
              refine wp_region_held_drew (S := (fun W => W.cell? ⟨g, 0, none⟩ = some (.int .i64 x.n) ∧ W.cell? ⟨g, 1, none⟩ = some (.string x.u) ∧ W.cell? ⟨g, 2, none⟩ = some (.int .i64 x.s) ∧ W.cell? ⟨g, 3, none⟩ = some (.int .i64 x.f) ∧ W.cell? ⟨b, off + k * 4, none⟩ = some (.int .i64 y.n))) (by kernel_rfl) ?_ (fun hHeld => ?_)
              · exact HP0.out _ (HK.out.below (Below.refl _ _).drew)
              refine tT 0 ⟨some 15, _, _, _, _, _⟩ rfl (h := ?_)
              refine wpAnyH_ready (rs := [1]) (by kernel_rfl) (by simp) ?_
              refine AllReadyH.cons (o := ⟨some 16, _, _, _, _, _⟩) rfl (fun K hK => ?_) AllReadyH.nil
              go_simp
              refine (HRX.out _).mono ?_
              rintro e w3 ⟨rfl, h3⟩
              have K3 := (HK.out.below (Below.refl _ _).drew).below h3
              go_wp2_with fail
              refine hK.out _ _ ?_ (fun hH1 => ?_)
              · exact HP0.out _ K3
              clear hK K
              (try simp only [Act.put, List.setIfInBounds_toArray, List.set_cons_zero, List.set_cons_succ])
              refine tT 2 ⟨some 17, _, _, _, _, _⟩ rfl (h := ?_)
              refine tT 3 ⟨some 18, _, _, _, _, _⟩ rfl (h := ?_)
              refine tT 4 ⟨some 19, _, _, _, _, _⟩ rfl (h := ?_)
              refine tT 5 ⟨some 20, _, _, _, _, _⟩ rfl (h := ?_)
              refine tT 6 ⟨some 21, _, _, _, _, _⟩ rfl (h := ?_)
              refine tT 7 ⟨some 22, _, _, _, _, _⟩ rfl (h := ?_)
              refine tT 8 ⟨some 23, _, _, _, _, _⟩ rfl (h := ?_)
              refine tT 9 ⟨some 24, _, _, _, _, _⟩ rfl (h := ?_)
              refine tT 10 ⟨some 25, _, _, _, _, _⟩ rfl (h := ?_)
              refine tT 11 ⟨some 26, _, _, _, _, _⟩ rfl (h := ?_)
              refine tT 12 ⟨some 27, _, _, _, _, _⟩ rfl (h := ?_)
              refine tT 13 ⟨some 28, _, _, _, _, _⟩ rfl (h := ?_)
              refine tT 14 ⟨some 29, _, _, _, _, _⟩ rfl (h := ?_)
              refine tT 15 ⟨some 30, _, _, _, _, _⟩ rfl (h := ?_)
              refine tT 16 ⟨some 31, _, _, _, _, _⟩ rfl (h := ?_)
              refine tT 17 ⟨some 32, _, _, _, _, _⟩ rfl (h := ?_)
              refine wpAnyH_done (by kernel_rfl) ?_ _
              all_goals
                go_wp2
                go_ret
                exact ⟨by rw [HF.out]; rfl, K3.frame⟩
          · have HN := Lib.hid (HNX2.out (fun h => absurd h h0))
            have hgt : decide ((0 : Int) < (j : Int)) = false := decide_eq_false (by omega)
            clear HNX HNX2 h1
            generalize l[j] = x at *
            go_wp2_with fail
            generalize wr.alloc (.cells #[.int .i64 x.n, .string x.u, .int .i64 x.s, .int .i64 x.f] 112) = W at *
            generalize wr.heap.size = g at *
            refine wp_region_held_drew (S := (fun W => W.cell? ⟨g, 0, none⟩ = some (.int .i64 x.n) ∧ W.cell? ⟨g, 1, none⟩ = some (.string x.u) ∧ W.cell? ⟨g, 2, none⟩ = some (.int .i64 x.s) ∧ W.cell? ⟨g, 3, none⟩ = some (.int .i64 x.f))) (by kernel_rfl) ?_ (fun hHeld => ?_)
            · exact (HK.out.below (Below.refl _ _).drew).box
            refine tT 0 ⟨some 15, _, _, _, _, _⟩ rfl (h := ?_)
            refine wpAnyH_ready (rs := [1]) (by kernel_rfl) (by simp) ?_
            refine AllReadyH.cons (o := ⟨some 16, _, _, _, _, _⟩) rfl (fun K hK => ?_) AllReadyH.nil
            go_simp
            refine (HRX.out _).mono ?_
            rintro e w3 ⟨rfl, h3⟩
            have K3 := (HK.out.below (Below.refl _ _).drew).below h3
            go_wp2_with fail
            refine hK.out _ _ ?_ (fun hH1 => ?_)
            · exact K3.box
            clear hK K
            (try simp only [Act.put, List.setIfInBounds_toArray, List.set_cons_zero, List.set_cons_succ])
            refine tT 2 ⟨some 17, _, _, _, _, _⟩ rfl (h := ?_)
            refine tT 3 ⟨some 18, _, _, _, _, _⟩ rfl (h := ?_)
            refine tT 4 ⟨some 19, _, _, _, _, _⟩ rfl (h := ?_)
            refine tT 5 ⟨some 20, _, _, _, _, _⟩ rfl (h := ?_)
            refine tT 6 ⟨some 21, _, _, _, _, _⟩ rfl (h := ?_)
            refine tS 7 ⟨some 22, _, _, _, _, _⟩ rfl (h := ?_)
            refine tS 8 ⟨some 23, _, _, _, _, _⟩ rfl (h := ?_)
            refine tS 9 ⟨some 24, _, _, _, _, _⟩ rfl (h := ?_)
            refine tS 10 ⟨some 25, _, _, _, _, _⟩ rfl (h := ?_)
            refine tS 11 ⟨some 26, _, _, _, _, _⟩ rfl (h := ?_)
            refine tS 12 ⟨some 27, _, _, _, _, _⟩ rfl (h := ?_)
            refine tS 13 ⟨some 28, _, _, _, _, _⟩ rfl (h := ?_)
            refine tS 14 ⟨some 29, _, _, _, _, _⟩ rfl (h := ?_)
            refine tS 15 ⟨some 30, _, _, _, _, _⟩ rfl (h := ?_)
            refine tT 16 ⟨some 31, _, _, _, _, _⟩ rfl (h := ?_)
            refine tT 17 ⟨some 32, _, _, _, _, _⟩ rfl (h := ?_)
            refine wpAnyH_done (by kernel_rfl) ?_ _
            all_goals
              go_wp2
              go_roundw
              case rel => exact ⟨j + 1, by omega, by go_num, HN, K3.frame⟩
              case measure => simp [intOf]; omega
        · have HF := Lib.hid (rise_no1 hjl h1)
          rw [decide_eq_false h1] at HRX
          clear HNX h1
          generalize l[j] = x at *
          go_wp2_with fail
          generalize wr.alloc (.cells #[.int .i64 x.n, .string x.u, .int .i64 x.s, .int .i64 x.f] 112) = W at *
          generalize wr.heap.size = g at *
          refine wp_region_held_drew (S := (fun W => W.cell? ⟨g, 0, none⟩ = some (.int .i64 x.n) ∧ W.cell? ⟨g, 1, none⟩ = some (.string x.u) ∧ W.cell? ⟨g, 2, none⟩ = some (.int .i64 x.s) ∧ W.cell? ⟨g, 3, none⟩ = some (.int .i64 x.f))) (by kernel_rfl) ?_ (fun hHeld => ?_)
          · exact (HK.out.below (Below.refl _ _).drew).box
          refine tT 0 ⟨some 15, _, _, _, _, _⟩ rfl (h := ?_)
          refine wpAnyH_ready (rs := [1]) (by kernel_rfl) (by simp) ?_
          refine AllReadyH.cons (o := ⟨some 16, _, _, _, _, _⟩) rfl (fun K hK => ?_) AllReadyH.nil
          go_simp
          refine (HRX.out _).mono ?_
          rintro e w3 ⟨rfl, h3⟩
          have K3 := (HK.out.below (Below.refl _ _).drew).below h3
          go_wp2_with fail
          refine hK.out _ _ ?_ (fun hH1 => ?_)
          · exact K3.box
          clear hK K
          (try simp only [Act.put, List.setIfInBounds_toArray, List.set_cons_zero, List.set_cons_succ])
          refine tT 2 ⟨some 17, _, _, _, _, _⟩ rfl (h := ?_)
          refine tT 3 ⟨some 18, _, _, _, _, _⟩ rfl (h := ?_)
          refine tS 4 ⟨some 19, _, _, _, _, _⟩ rfl (h := ?_)
          refine tS 5 ⟨some 20, _, _, _, _, _⟩ rfl (h := ?_)
          refine tS 6 ⟨some 21, _, _, _, _, _⟩ rfl (h := ?_)
          refine tS 7 ⟨some 22, _, _, _, _, _⟩ rfl (h := ?_)
          refine tS 8 ⟨some 23, _, _, _, _, _⟩ rfl (h := ?_)
          refine tS 9 ⟨some 24, _, _, _, _, _⟩ rfl (h := ?_)
          refine tS 10 ⟨some 25, _, _, _, _, _⟩ rfl (h := ?_)
          refine tS 11 ⟨some 26, _, _, _, _, _⟩ rfl (h := ?_)
          refine tS 12 ⟨some 27, _, _, _, _, _⟩ rfl (h := ?_)
          refine tS 13 ⟨some 28, _, _, _, _, _⟩ rfl (h := ?_)
          refine tS 14 ⟨some 29, _, _, _, _, _⟩ rfl (h := ?_)
          refine tS 15 ⟨some 30, _, _, _, _, _⟩ rfl (h := ?_)
          refine tS 16 ⟨some 31, _, _, _, _, _⟩ rfl (h := ?_)
          refine tT 17 ⟨some 32, _, _, _, _, _⟩ rfl (h := ?_)
          refine wpAnyH_done (by kernel_rfl) ?_ _
          all_goals
            go_wp2
            go_ret
            exact ⟨by rw [HF.out]; rfl, K3.frame⟩
      · obtain rfl : j = l.length := by omega
        have HE := Lib.hid (HY.out HO.out)
        go_wp2
        go_ret
        exact ⟨by rw [HE.out]; rfl, HB.out⟩
set_option maxHeartbeats 8000000 in
theorem rrising_any (a : Option Addr) (c : Nat) (l : List OpM) (w : World) (hr : OpSl w a l) (hsz : SzO l) (hl : l.length ≤ 1000000) :
    Calls Tryz.prog 35 #[.slice a l.length c] w fun e w' => e = .returned (.bool (decide (RiseO l))) ∧ Below w.heap.size w w' := by
  have HR := Lib.hid hr
  have HRT : Hid (∀ x (h : x ∈ l) W, Calls Tryz.prog 37 #[.string x.u] W fun e w' => e = .returned (.bool (nameO x.u)) ∧ W = w') := fun x h W => refRight_any x.u W (hsz x h)
  clear hr hsz
  by_cases h16 : 16 < l.length
  · have d1 : decide ((16 : Int) < (l.length : Int)) = true := decide_eq_true (by omega)
    have d2 : decide ((l.length : Int) > (16 : Int)) = true := decide_eq_true (by omega)
    have HF := Lib.hid (rise_no3 h16)
    clear HRT HR
    go_enter Tryz.func35, Tryz.ntmps35
    go_wp2
    go_ret
    exact ⟨by rw [HF.out]; rfl, Below.refl _ _⟩
  · have d1 : decide ((16 : Int) < (l.length : Int)) = false := decide_eq_false (by omega)
    have d2 : decide ((l.length : Int) > (16 : Int)) = false := decide_eq_false (by omega)
    have HY := Lib.hid (fun h => rise_yes (l := l) (by omega) h)
    go_enter Tryz.func35, Tryz.ntmps35
    go_wp2
    clear d1 d2
    go_loopw [3] (fun i wr => ∃ (j : Nat), j ≤ l.length ∧ i = .int .i64 j ∧ Hid (RiTo l j) ∧ Hid (Below w.heap.size w wr)) (fun i _ => l.length - (intOf i).toNat)
    case atStart => exact ⟨0, by omega, rfl, RiTo.zero _, Below.refl _ _⟩
    case round =>
      obtain ⟨j, hj, rfl, HO, HB⟩ := hrel
      by_cases hjl : j < l.length
      · obtain ⟨b, off, rfl, hbl, hc0, hc1, hc2, hc3⟩ := (HR.out.below HB.out).at_ hjl
        have HK := Lib.hid (RsO.new (x := l[j]) (HR.out.below HB.out) HB.out 75)
        have HNX := Lib.hid (HO.out.next hjl)
        have HRX := Lib.hid (HRT.out l[j] (List.getElem_mem hjl))
        obtain ⟨e0, e1, e2, e3⟩ := HK.out.box
        clear HRT HY
        cases hn : nameO l[j].u with
        | false =>
          have HF := Lib.hid (rise_no1 hjl (fun h => by rw [h.1] at hn; cases hn))
          rw [hn] at HRX
          clear HNX hn
          generalize l[j] = x at *
          go_wp2_with fail
          refine (HRX.out _).mono ?_
          rintro e w3 ⟨rfl, rfl⟩
          go_wp2
          go_ret
          exact ⟨by rw [HF.out]; rfl, HK.out.frame⟩
        | true =>
          rw [hn] at HRX
          have HNO := Lib.hid (fun h => rise_no1 hjl h)
          have HYE : Hid (1 ≤ l[j].n → l[j].n ≤ 999 → 1 ≤ l[j].s → l[j].s ≤ 4 → 0 ≤ l[j].f → l[j].f ≤ 1099511627775 → OkO l[j]) := fun h1 h2 h3 h4 h5 h6 => ⟨hn, h1, h2, h3, h4, h5, h6⟩
          have HN2 := Lib.hid (fun h0 h => rise_no2 hjl h0 h)
          clear hn
          by_cases c0 : l[j].n < 1
          · have HF := Lib.hid (HNO.out (fun h => by have := h.2.1; omega))
            have g0 := decide_eq_true c0
            clear HNX HNO HYE HN2 c0
            generalize l[j] = x at *
            go_wp2_with fail
            refine (HRX.out _).mono ?_
            rintro e w3 ⟨rfl, rfl⟩
            go_wp2
            go_ret
            exact ⟨by rw [HF.out]; rfl, HK.out.frame⟩
          · have g0 := decide_eq_false c0
            by_cases c1 : 999 < l[j].n
            · have HF := Lib.hid (HNO.out (fun h => by have := h.2.2.1; omega))
              have g1 := decide_eq_true c1
              clear HNX HNO HYE HN2 c1
              generalize l[j] = x at *
              go_wp2_with fail
              refine (HRX.out _).mono ?_
              rintro e w3 ⟨rfl, rfl⟩
              go_wp2
              go_ret
              exact ⟨by rw [HF.out]; rfl, HK.out.frame⟩
            · have g1 := decide_eq_false c1
              by_cases c2 : l[j].s < 1
              · have HF := Lib.hid (HNO.out (fun h => by have := h.2.2.2.1; omega))
                have g2 := decide_eq_true c2
                clear HNX HNO HYE HN2 c2
                generalize l[j] = x at *
                go_wp2_with fail
                refine (HRX.out _).mono ?_
                rintro e w3 ⟨rfl, rfl⟩
                go_wp2
                go_ret
                exact ⟨by rw [HF.out]; rfl, HK.out.frame⟩
              · have g2 := decide_eq_false c2
                by_cases c3 : 4 < l[j].s
                · have HF := Lib.hid (HNO.out (fun h => by have := h.2.2.2.2.1; omega))
                  have g3 := decide_eq_true c3
                  clear HNX HNO HYE HN2 c3
                  generalize l[j] = x at *
                  go_wp2_with fail
                  refine (HRX.out _).mono ?_
                  rintro e w3 ⟨rfl, rfl⟩
                  go_wp2
                  go_ret
                  exact ⟨by rw [HF.out]; rfl, HK.out.frame⟩
                · have g3 := decide_eq_false c3
                  by_cases c4 : l[j].f < 0
                  · have HF := Lib.hid (HNO.out (fun h => by have := h.2.2.2.2.2.1; omega))
                    have g4 := decide_eq_true c4
                    clear HNX HNO HYE HN2 c4
                    generalize l[j] = x at *
                    go_wp2_with fail
                    refine (HRX.out _).mono ?_
                    rintro e w3 ⟨rfl, rfl⟩
                    go_wp2
                    go_ret
                    exact ⟨by rw [HF.out]; rfl, HK.out.frame⟩
                  · have g4 := decide_eq_false c4
                    by_cases c5 : 1099511627776 ≤ l[j].f
                    · have HF := Lib.hid (HNO.out (fun h => by have := h.2.2.2.2.2.2; omega))
                      have g5 := decide_eq_true c5
                      clear HNX HNO HYE HN2 c5
                      generalize l[j] = x at *
                      go_wp2_with fail
                      refine (HRX.out _).mono ?_
                      rintro e w3 ⟨rfl, rfl⟩
                      go_wp2
                      go_ret
                      exact ⟨by rw [HF.out]; rfl, HK.out.frame⟩
                    · have g5 := decide_eq_false c5
                      have HNX2 := Lib.hid (HNX.out (HYE.out (by omega) (by omega) (by omega) (by omega) (by omega) (by omega)))
                      clear HNX HNO HYE c0 c1 c2 c3 c4 c5
                      by_cases h0 : 0 < j
                      · obtain ⟨k, hk⟩ : ∃ k, j = k + 1 := ⟨j - 1, by omega⟩
                        have hkl : k < l.length := by omega
                        have hpw : IntKind.i64.wrap ((j : Int) - 1) = (k : Int) := by rw [IntWalk.i64_in] <;> omega
                        have hgt : decide ((0 : Int) < (j : Int)) = true := decide_eq_true (by omega)
                        obtain ⟨-, -, -, -, p4, -, -, -⟩ := HK.out.at_ hkl
                        have hkp : ∀ h, l[j - 1]'h = l[k] := fun h => by congr 1; omega
                        have HNX3 : Hid (l[k].n < l[j].n → RiTo l (j + 1)) := fun h => HNX2.out (fun _ => by rw [hkp]; exact h)
                        have HNP3 : Hid (¬ l[k].n < l[j].n → decide (RiseO l) = false) := fun h => HN2.out h0 (by rw [hkp]; exact h)
                        clear HNX2 HN2 hkp hk
                        generalize l[k] = y at *
                        generalize l[j] = x at *
                        by_cases h3 : y.n < x.n
                        · have HN := Lib.hid (HNX3.out h3)
                          have d3 : decide (x.n ≤ y.n) = false := decide_eq_false (by omega)
                          clear HNX3 HNP3 h3
                          go_wp2_with fail
                          refine (HRX.out _).mono ?_
                          rintro e w3 ⟨rfl, rfl⟩
                          go_wp2
                          go_quiet (fail)
                          go_wp2
                          go_roundw
                          case rel => exact ⟨j + 1, by omega, by go_num, HN, HK.out.frame.trans (Drew.below ⟨_, rfl⟩ _)⟩
                          case measure => simp [intOf]; omega
                        · have HF := Lib.hid (HNP3.out h3)
                          have d3 : decide (x.n ≤ y.n) = true := decide_eq_true (by omega)
                          clear HNX3 HNP3 h3
                          go_wp2_with fail
                          refine (HRX.out _).mono ?_
                          rintro e w3 ⟨rfl, rfl⟩
                          go_wp2
                          go_quiet (fail)
                          go_wp2
                          go_ret
                          exact ⟨by rw [HF.out]; rfl, HK.out.frame.trans (Drew.below ⟨_, rfl⟩ _)⟩
                      · have HN := Lib.hid (HNX2.out (fun h => absurd h h0))
                        have hgt : decide ((0 : Int) < (j : Int)) = false := decide_eq_false (by omega)
                        clear HNX2 HN2
                        generalize l[j] = x at *
                        go_wp2_with fail
                        refine (HRX.out _).mono ?_
                        rintro e w3 ⟨rfl, rfl⟩
                        go_wp2
                        go_quiet (fail)
                        go_wp2
                        go_roundw
                        case rel => exact ⟨j + 1, by omega, by go_num, HN, HK.out.frame.trans (Drew.below ⟨_, rfl⟩ _)⟩
                        case measure => simp [intOf]; omega
      · obtain rfl : j = l.length := by omega
        have HE := Lib.hid (HY.out HO.out)
        go_wp2
        go_ret
        exact ⟨by rw [HE.out]; rfl, HB.out⟩
end Go.Proofs.YtjhdhfokhkcamaaGreat
namespace Go.Proofs.YtjhdhfokhkcamaaGreat
open Go.RowKit
set_option linter.unusedVariables false
set_option maxRecDepth 100000
set_option maxRecDepth 100000
theorem o_news (a : Option Addr) (c : Nat) (l : List OpM) (W : World) (h : OpSl W a l) (hl : l.length ≤ 1000) : Calls Tryz.prog 40 #[.slice a l.length c] W fun e w' => ∃ x q, e = .returned (.slice x l.length q) ∧ l.length ≤ q ∧ q ≤ maxLen ∧ (x = none → q = 0) ∧ OpSl w' x l ∧ Below W.heap.size W w' := by
  refine (onews_any a c l W h (by omega)).mono ?_
  rintro e w' ⟨v, rfl, ho, hb⟩
  obtain ⟨x, q, rfl, h1, h2, h3, h4⟩ := own_op ho
  exact ⟨x, q, rfl, h1, h2, h4, h3, hb⟩
theorem o_olds (a : Option Addr) (c : Nat) (l : List OpM) (W : World) (h : OpSl W a l) (hl : l.length ≤ 1000) : Calls Tryz.prog 56 #[.slice a l.length c] W fun e w' => ∃ x q, e = .returned (.slice x l.length q) ∧ l.length ≤ q ∧ q ≤ maxLen ∧ (x = none → q = 0) ∧ OpSl w' x l ∧ Below W.heap.size W w' := by
  refine (oolds_any a c l W h (by omega)).mono ?_
  rintro e w' ⟨v, rfl, ho, hb⟩
  obtain ⟨x, q, rfl, h1, h2, h3, h4⟩ := own_op ho
  exact ⟨x, q, rfl, h1, h2, h4, h3, hb⟩
theorem o_without (a : Option Addr) (c : Nat) (l : List OpM) (s : ByteArray) (W : World) (h : OpSl W a l) (hl : l.length ≤ 1000) : Calls Tryz.prog 169 #[.slice a l.length c, .string s] W fun e w' => ∃ x q, e = .returned (.slice x (l.filter (notU s)).length q) ∧ (l.filter (notU s)).length ≤ q ∧ q ≤ maxLen ∧ (x = none → q = 0) ∧ OpSl w' x (l.filter (notU s)) ∧ Below W.heap.size W w' := by
  refine (owithout_any a c l s W h (by omega)).mono ?_
  rintro e w' ⟨v, rfl, ho, hb⟩
  obtain ⟨x, q, rfl, h1, h2, h3, h4⟩ := own_op ho
  exact ⟨x, q, rfl, h1, h2, h4, h3, hb⟩
theorem o_rwithout (a : Option Addr) (c : Nat) (l : List OpM) (s : ByteArray) (W : World) (h : OpSl W a l) (hl : l.length ≤ 1000) : Calls Tryz.prog 50 #[.slice a l.length c, .string s] W fun e w' => ∃ x q, e = .returned (.slice x (l.filter (notU s)).length q) ∧ (l.filter (notU s)).length ≤ q ∧ q ≤ maxLen ∧ (x = none → q = 0) ∧ OpSl w' x (l.filter (notU s)) ∧ Below W.heap.size W w' := by
  refine (orwithout_any a c l s W h (by omega)).mono ?_
  rintro e w' ⟨v, rfl, ho, hb⟩
  obtain ⟨x, q, rfl, h1, h2, h3, h4⟩ := own_op ho
  exact ⟨x, q, rfl, h1, h2, h4, h3, hb⟩
theorem o_open (a : Option Addr) (c : Nat) (l : List OpM) (e0 : OpM) (W : World) (h : OpSl W a l) (hn : a = none → c = 0) (hl : l.length ≤ 500) (hc : l.length ≤ c) (hcm : c ≤ maxLen) : Calls Tryz.prog 110 #[.slice a l.length c, .agg #[.int .i64 e0.n, .string e0.u, .int .i64 e0.s, .int .i64 e0.f]] W fun e w' => ∃ x q, e = .returned (.tuple #[.slice x (openR l e0).length q, .int .i64 (openC l e0)]) ∧ (openR l e0).length ≤ q ∧ q ≤ maxLen ∧ (x = none → q = 0) ∧ OpSl w' x (openR l e0) ∧ Below W.heap.size W w' := by
  refine (open_any a c l e0 W h hn hl hc hcm).mono ?_
  rintro e w' ⟨v, rfl, x, q, rfl, h1, h2, h3, h4, h5⟩
  exact ⟨x, q, rfl, h1, h2, h3, h4, h5⟩
theorem o_change (a : Option Addr) (c : Nat) (l : List OpM) (n : Int) (u : ByteArray) (s t : Int) (W : World) (h : OpSl W a l) (hl : l.length ≤ 500) (hc : l.length ≤ c) (hcm : c ≤ maxLen) : Calls Tryz.prog 111 #[.slice a l.length c, .int .i64 n, .string u, .int .i64 s, .int .i64 t] W fun e w' => ∃ x q, e = .returned (.tuple #[.slice x (chgR l n u s t).length q, .agg #[.int .i64 (fndS l n u t).f, .int .i64 (fndS l n u t).t, .int .i64 (fndS l n u t).n, .int .i64 (fndS l n u t).s], .int .i64 (findC l n u)]) ∧ (chgR l n u s t).length ≤ q ∧ q ≤ maxLen ∧ (x = none → q = 0) ∧ OpSl w' x (chgR l n u s t) ∧ Below W.heap.size W w' := by
  refine (change_any a c l n u s t W h hl hc hcm).mono ?_
  rintro e w' ⟨v, rfl, x, q, rfl, h1, h2, h3, h4, h5⟩
  exact ⟨x, q, rfl, h1, h2, h3, h4, h5⟩
theorem o_close (a : Option Addr) (c : Nat) (l : List OpM) (n : Int) (u : ByteArray) (t : Int) (W : World) (h : OpSl W a l) (hl : l.length ≤ 500) (hc : l.length ≤ c) (hcm : c ≤ maxLen) : Calls Tryz.prog 140 #[.slice a l.length c, .int .i64 n, .string u, .int .i64 t] W fun e w' => ∃ x q, e = .returned (.tuple #[.slice x (cloR l n u).length q, .agg #[.int .i64 (fndS l n u t).f, .int .i64 (fndS l n u t).t, .int .i64 (fndS l n u t).n, .int .i64 (fndS l n u t).s], .int .i64 (findC l n u)]) ∧ (cloR l n u).length ≤ q ∧ q ≤ maxLen ∧ (x = none → q = 0) ∧ OpSl w' x (cloR l n u) ∧ Below W.heap.size W w' := by
  refine (close_any a c l n u t W h hl hc hcm).mono ?_
  rintro e w' ⟨v, rfl, x, q, rfl, h1, h2, h3, h4, h5⟩
  exact ⟨x, q, rfl, h1, h2, h3, h4, h5⟩
theorem o_stays (a : Option Addr) (c : Nat) (l : List OpM) (u : ByteArray) (t : Int) (W : World) (h : OpSl W a l) (hl : l.length ≤ 1000) : Calls Tryz.prog 90 #[.slice a l.length c, .string u, .int .i64 t] W fun e w' => ∃ x q, e = .returned (.slice x (staysO l u t).length q) ∧ (staysO l u t).length ≤ q ∧ q ≤ maxLen ∧ (x = none → q = 0) ∧ StSl w' x (staysO l u t) ∧ Below W.heap.size W w' := by
  refine (ostays_any a c l u t W h hl).mono ?_
  rintro e w' ⟨v, rfl, ho, hb⟩
  obtain ⟨x, q, rfl, h1, h2, h3, h4⟩ := own_st ho
  exact ⟨x, q, rfl, h1, h2, h4, h3, hb⟩
theorem o_rising (a : Option Addr) (c : Nat) (l : List OpM) (W : World) (h : OpSl W a l) (hs : SzO l) (hl : l.length ≤ 1000) : Calls Tryz.prog 59 #[.slice a l.length c] W fun e w' => e = .returned (.bool (decide (RiseO l))) ∧ Below W.heap.size W w' := orising_any a c l W h hs (by omega)
theorem o_rrising (a : Option Addr) (c : Nat) (l : List OpM) (W : World) (h : OpSl W a l) (hs : SzO l) (hl : l.length ≤ 1000) : Calls Tryz.prog 35 #[.slice a l.length c] W fun e w' => e = .returned (.bool (decide (RiseO l))) ∧ Below W.heap.size W w' := rrising_any a c l W h hs (by omega)
theorem o_same (a b : Option Addr) (c q : Nat) (l m : List OpM) (W : World) (ha : OpSl W a l) (hb : OpSl W b m) (hl : l.length ≤ 1000) (hm : m.length ≤ 1000) : Calls Tryz.prog 81 #[.slice a l.length c, .slice b m.length q] W fun e w' => e = .returned (.bool (decide (l = m))) ∧ Below W.heap.size W w' :=
  osame_any a b c q l m W ha hb (by unfold maxLen; omega) (by unfold maxLen; omega)
theorem o_rsame (a b : Option Addr) (c q : Nat) (l m : List OpM) (W : World) (ha : OpSl W a l) (hb : OpSl W b m) (hl : l.length ≤ 1000) (hm : m.length ≤ 1000) : Calls Tryz.prog 54 #[.slice a l.length c, .slice b m.length q] W fun e w' => e = .returned (.bool (decide (l = m))) ∧ Below W.heap.size W w' :=
  orefSame_any a b c q l m W ha hb (by unfold maxLen; omega) (by unfold maxLen; omega)
end Go.Proofs.YtjhdhfokhkcamaaGreat
namespace Go.Proofs.YtjhdhfokhkcamaaGreat
set_option linter.unusedVariables false
def an11 : ByteArray := ⟨#[97, 110, 110]⟩
def no11 : ByteArray := ⟨#[]⟩
def sA1 : SaM := ⟨3, 0, [⟨1, an11, 1, 3⟩], [], [], []⟩
def sA2 : SaM := ⟨7, 0, [⟨1, an11, 2, 7⟩], [⟨an11, [⟨3, 7, 1, 1⟩]⟩], [], []⟩
def sA3 : SaM := ⟨9, 0, [], [], [], [⟨an11, 9⟩]⟩
def sA4 : SaM := ⟨7, 0, [], [⟨an11, [⟨3, 7, 1, 1⟩]⟩], [], []⟩
theorem an_name : nameB an11 = true := by decide
theorem no_name : nameB no11 = false := by decide
theorem rv1 : RightV 1 3 1 1 an11 no11 := ⟨by decide, by decide, .inl ⟨.inl rfl, by decide, by decide, an_name, rfl, by decide, by decide⟩⟩
theorem rv2 : RightV 2 7 1 2 an11 no11 := ⟨by decide, by decide, .inl ⟨.inr rfl, by decide, by decide, an_name, rfl, by decide, by decide⟩⟩
theorem rv7 (a : Int) (h : 0 ≤ a) (k : a < 1099511627776) : RightV 7 a 0 0 an11 no11 := ⟨h, k, .inr (.inr (.inr (.inr ⟨rfl, an_name, rfl, rfl, rfl⟩)))⟩
theorem rv8 : ¬ RightV 7 8 0 0 no11 no11 := by
  rintro ⟨_, _, h⟩
  rcases h with ⟨h, _⟩ | ⟨h, _⟩ | ⟨h, _⟩ | ⟨h, _⟩ | ⟨_, h, _⟩
  · omega
  · omega
  · omega
  · omega
  · rw [no_name] at h; cases h
theorem aE1 : errS saZ 1 3 1 1 an11 no11 = 0 := by unfold errS; rw [if_pos rv1, if_neg (by decide)]; rfl
theorem aT1 : tellS saZ 1 3 1 1 an11 no11 = sA1 := by unfold tellS; rw [aE1, if_pos rfl]; rfl
theorem aF : findC [⟨1, an11, 1, 3⟩] 1 an11 = 0 ∧ findE [⟨1, an11, 1, 3⟩] 1 an11 = ⟨1, an11, 1, 3⟩ ∧ findP [⟨1, an11, 1, 3⟩] 1 an11 = 0 := fc_hit (l := [⟨1, an11, 1, 3⟩]) (n := 1) (k := 0) ⟨by decide, fun i hi h => absurd h (by omega), fun _ => rfl⟩ (by decide) rfl
theorem aE2 : errS sA1 2 7 1 2 an11 no11 = 0 := by unfold errS; rw [if_pos rv2, if_neg (by decide)]; exact aF.1
theorem aC2 : chgR [⟨1, an11, 1, 3⟩] 1 an11 2 7 = [⟨1, an11, 2, 7⟩] := by unfold chgR; rw [if_pos aF.1, aF.2.2, chgAt_at (by decide)]; rfl
theorem aS2 : fndS [⟨1, an11, 1, 3⟩] 1 an11 7 = ⟨3, 7, 1, 1⟩ := by unfold fndS; rw [if_pos aF.1, aF.2.1]; rfl
theorem aG2 : goS sA1 2 7 1 2 an11 no11 = { sA1 with now := 7, op := chgR [⟨1, an11, 1, 3⟩] 1 an11 2 7, us := addU [] an11 (fndS [⟨1, an11, 1, 3⟩] 1 an11 7) } := rfl
theorem aT2 : tellS sA1 2 7 1 2 an11 no11 = sA2 := by
  unfold tellS
  rw [aE2, if_pos rfl, aG2, aC2, aS2]
  rfl
theorem aE3 : errS sA2 7 6 0 0 an11 no11 = 111 := by unfold errS; rw [if_pos (rv7 6 (by decide) (by decide)), if_pos (by decide)]
theorem aE4 : errS sA2 7 8 0 0 no11 no11 = 110 := by unfold errS; rw [if_neg rv8]
theorem aE5 : errS sA2 7 9 0 0 an11 no11 = 0 := by unfold errS; rw [if_pos (rv7 9 (by decide) (by decide)), if_neg (by decide)]; rfl
theorem aT5 : tellS sA2 7 9 0 0 an11 no11 = sA3 := by
  unfold tellS
  rw [aE5, if_pos rfl]
  show SaM.mk 9 0 ([⟨1, an11, 2, 7⟩].filter (notU an11)) (putU [⟨an11, [⟨3, 7, 1, 1⟩]⟩] an11 []) (withoutS [] an11) (tombU [] an11 9) = sA3
  have h1 : [(⟨1, an11, 2, 7⟩ : OpM)].filter (notU an11) = [] := List.filter_eq_nil_iff.2 fun x hx h => by rw [List.mem_singleton.1 hx] at h; exact (of_decide_eq_true h) rfl
  have h2 : putU [⟨an11, [⟨3, 7, 1, 1⟩]⟩] an11 [] = [] := by
    refine List.eq_nil_iff_forall_not_mem.2 fun x hx => ?_
    rcases putU_mem.1 hx with ⟨_, h⟩ | ⟨h, k⟩
    · exact h rfl
    · rw [List.mem_singleton.1 h] at k; exact k rfl
  rw [h1, h2]
  rfl
theorem aRS : resetS sA2 = sA4 := by
  show SaM.mk 7 0 [] (addU [⟨an11, [⟨3, 7, 1, 1⟩]⟩] an11 ⟨7, 7, 1, 2⟩) [] [] = sA4
  have : addU [⟨an11, [⟨3, 7, 1, 1⟩]⟩] an11 ⟨7, 7, 1, 2⟩ = [⟨an11, [⟨3, 7, 1, 1⟩]⟩] := by unfold addU; rw [if_neg (by decide)]
  rw [this]
  rfl
theorem aR1 : RightS sA1 := by have := right_go RightS.zero aE1; have h2 := aT1; unfold tellS at h2; rw [aE1, if_pos rfl] at h2; rw [h2] at this; exact this
theorem aR2 : RightS sA2 := by have := right_go aR1 aE2; have h2 := aT2; unfold tellS at h2; rw [aE2, if_pos rfl] at h2; rw [h2] at this; exact this
theorem aR3 : RightS sA3 := by have := right_go aR2 aE5; have h2 := aT5; unfold tellS at h2; rw [aE5, if_pos rfl] at h2; rw [h2] at this; exact this
theorem aR4 : RightS sA4 := by have := right_reset aR2; rw [aRS] at this; exact this
theorem aOF : ofU [⟨an11, [⟨3, 7, 1, 1⟩]⟩] an11 = [⟨3, 7, 1, 1⟩] := by
  have h := ofU_mem (l := [⟨an11, [⟨3, 7, 1, 1⟩]⟩]) aR2.ur (x := ⟨an11, [⟨3, 7, 1, 1⟩]⟩) (List.mem_singleton.2 rfl)
  exact h
theorem aST : staysS sA2 an11 9 = [⟨3, 7, 1, 1⟩, ⟨7, 9, 1, 2⟩] := by
  have h1 : staysO [⟨1, an11, 2, 7⟩] an11 9 = [⟨7, 9, 1, 2⟩] := by
    show (if an11 = an11 then addS [] ⟨7, 9, 1, 2⟩ else []) = _
    rw [if_pos rfl]
    rfl
  show addsS (staysO [⟨1, an11, 2, 7⟩] an11 9) (ofU [⟨an11, [⟨3, 7, 1, 1⟩]⟩] an11) = _
  rw [h1, aOF]
  rfl
theorem aHS : stHas sA3 an11 = true := by
  have : hasT [⟨an11, 9⟩] an11 = true := by unfold hasT isKy; simp
  unfold stHas
  rw [show sA3.tb = [⟨an11, 9⟩] from rfl, this]
  rfl
theorem aPR : pruneS sA4 = sA4 := rfl
theorem aNE : ¬ sA4 = sA3 := fun h => by
  have := congrArg SaM.now h
  exact absurd this (by decide)
theorem aRR : resetS sA4 = sA4 := rfl
end Go.Proofs.YtjhdhfokhkcamaaGreat
namespace Go.Proofs.YtjhdhfokhkcamaaGreat
open Go.ChangeShapes Go.WideShapes Go.ChangeAt Go.RowKit
set_option linter.unusedVariables false
set_option maxRecDepth 100000
set_option maxRecDepth 100000
theorem opFields : ∃ f0 f1 f2 f3 : Field, Tryz.prog.underlying 75 = some (.struct #[f0, f1, f2, f3]) ∧ f0.offset = 0 ∧ f1.offset = 1 ∧ f2.offset = 2 ∧ f3.offset = 3 ∧ f0.type = 3 ∧ f1.type = 9 ∧ f2.type = 3 ∧ f3.type = 3 := ⟨_, _, _, _, Tryz.underlying75, rfl, rfl, rfl, rfl, rfl, rfl, rfl, rfl⟩
theorem read_sess {H : Type} {enc : TypeId × Value → H} {W : World} {n : Nat} {cs : List Value} {x : DataW H × List MemPlace}
    (h : DataW.trod enc Tryz.prog W 0 (fun _ => true) true n 22 cs = some x) :
    ∃ (a : Option Addr) (c : Nat) (l : List OpM), cs = [.slice a l.length c] ∧ OpSl W a l ∧ SzO l ∧ l.length ≤ c ∧ c ≤ maxLen ∧ (a = none → c = 0) := by
  obtain ⟨f0, f1, f2, f3, he, o0, o1, o2, o3, t0, t1, t2, t3⟩ := opFields
  have ci : Tryz.prog.cellsOf 3 = 1 := by kernel_rfl
  have cs' : Tryz.prog.cellsOf 9 = 1 := by kernel_rfl
  rcases open_quads Tryz.underlying22 he (by kernel_rfl) o0 o1 o2 o3 (by rw [t0]; exact ci) (by rw [t1]; exact cs') (by rw [t2]; exact ci) (by rw [t3]; exact ci) h with ⟨rfl, _⟩ | ⟨a, len, cap, rfl, hl, hm, hx⟩
  · exact ⟨none, 0, [], rfl, OpSl.nil _ _, (fun s hs => by cases hs), by simp, by decide, fun _ => rfl⟩
  · have each : ∀ i, i < len → ∃ x : OpM, W.cell? (a.add (i * 4)) = some (.int .i64 x.n) ∧ W.cell? (a.add (i * 4 + 1)) = some (.string x.u) ∧ W.cell? (a.add (i * 4 + 2)) = some (.int .i64 x.s) ∧ W.cell? (a.add (i * 4 + 3)) = some (.int .i64 x.f) ∧ x.u.size ≤ maxLen := fun i hi => by
      obtain ⟨v0, v1, v2, v3, y0, y1, y2, y3, n, k0, k1, k2, k3, g0, g1, g2, g3⟩ := hx i hi
      rw [t0] at g0
      rw [t1] at g1
      rw [t2] at g2
      rw [t3] at g3
      obtain ⟨z0, e0, _, w0⟩ := DataW.trod_int Tryz.underlying3 g0
      obtain ⟨z1, e1, _, w1⟩ := DataW.trod_string Tryz.underlying9 g1
      obtain ⟨z2, e2, _, w2⟩ := DataW.trod_int Tryz.underlying3 g2
      obtain ⟨z3, e3, _, w3⟩ := DataW.trod_int Tryz.underlying3 g3
      simp at e0 e1 e2 e3
      exact ⟨⟨z0, z1, z2, z3⟩, by rw [k0, e0], by rw [k1, e1], by rw [k2, e2], by rw [k3, e3], w1⟩
    have some_x : ∃ f : Nat → OpM, ∀ i, i < len → W.cell? (a.add (i * 4)) = some (.int .i64 (f i).n) ∧ W.cell? (a.add (i * 4 + 1)) = some (.string (f i).u) ∧ W.cell? (a.add (i * 4 + 2)) = some (.int .i64 (f i).s) ∧ W.cell? (a.add (i * 4 + 3)) = some (.int .i64 (f i).f) ∧ (f i).u.size ≤ maxLen := by
      refine ⟨fun i => if h : i < len then (each i h).choose else opZ, fun i hi => ?_⟩
      simp only [hi, ↓reduceDIte]
      exact (each i hi).choose_spec
    obtain ⟨f, hf2⟩ := some_x
    have hlen : ((List.range len).map f).length = len := by simp
    refine ⟨some a, cap, (List.range len).map f, by rw [hlen], fun k hk => ?_, fun x hxm => ?_, by omega, hm, fun h => by cases h⟩
    · rw [hlen] at hk
      obtain ⟨b, off, spot⟩ := a
      have h0 := (hf2 0 (by omega)).1
      have hspot : spot = none := by simpa [Addr.add] using World.cell?_spot h0
      subst hspot
      obtain ⟨g0, g1, g2, g3, _⟩ := hf2 k (by omega)
      rw [Go.WideShapes.add_plain] at g0 g1 g2 g3
      simp only [List.getElem_map, List.getElem_range]
      exact ⟨b, off, rfl, World.block_lt_of_cell? W ⟨b, off + k * 4, none⟩ g0, g0, g1, g2, g3⟩
    · obtain ⟨i, hi, rfl⟩ := List.mem_map.1 hxm
      exact (hf2 i (by have := List.mem_range.1 hi; omega)).2.2.2.2
end Go.Proofs.YtjhdhfokhkcamaaGreat
namespace Go.Proofs.YtjhdhfokhkcamaaGreat
open Go.ChangeShapes Go.WideShapes Go.ChangeAt Go.RowKit
set_option linter.unusedVariables false
set_option maxRecDepth 100000
theorem sliceLen_le {H : Type} (d : DataW H) : Go.Joins.sliceLen d ≤ Rows.uptoBulk d := by
  have h1 : ∀ l : List (DataW H), l.length ≤ Rows.uptoBulkAll l := by
    intro l
    induction l with
    | nil => simp
    | cons x l ih =>
      have h2 : 1 ≤ Rows.uptoBulk x := by
        cases x with
        | lit l => cases l <;> simp [Rows.uptoBulk]
        | nil => simp [Rows.uptoBulk]
        | ptr d => simp [Rows.uptoBulk]
        | slice elems spare => simp [Rows.uptoBulk]
        | agg parts => simp [Rows.uptoBulk]
        | iface t d => simp [Rows.uptoBulk]
        | map entries => simp [Rows.uptoBulk]
        | held h => simp [Rows.uptoBulk]
      simp only [Rows.uptoBulkAll, List.length_cons]
      omega
  cases d with
  | slice elems spare =>
    have h2 := h1 elems
    have h3 := h1 spare
    simp only [Go.Joins.sliceLen, Rows.uptoBulk]
    omega
  | lit l => simp [Go.Joins.sliceLen]
  | nil => simp [Go.Joins.sliceLen]
  | ptr d => simp [Go.Joins.sliceLen]
  | agg parts => simp [Go.Joins.sliceLen]
  | iface t d => simp [Go.Joins.sliceLen]
  | map entries => simp [Go.Joins.sliceLen]
  | held h => simp [Go.Joins.sliceLen]
theorem tbFields : ∃ f0 f1 : Field, Tryz.prog.underlying 69 = some (.struct #[f0, f1]) ∧ f0.offset = 0 ∧ f1.offset = 1 ∧ f0.type = 9 ∧ f1.type = 3 := ⟨_, _, Tryz.underlying69, rfl, rfl, rfl, rfl⟩
theorem usFields : ∃ f0 f1 : Field, Tryz.prog.underlying 77 = some (.struct #[f0, f1]) ∧ f0.offset = 0 ∧ f1.offset = 1 ∧ f0.type = 9 ∧ f1.type = 58 := ⟨_, _, Tryz.underlying77, rfl, rfl, rfl, rfl⟩
theorem saFields : ∃ f0 f1 f2 f3 f4 f5 : Field, Tryz.prog.underlying 27 = some (.struct #[f0, f1, f2, f3, f4, f5]) ∧ f0.offset = 0 ∧ f1.offset = 1 ∧ f2.offset = 2 ∧ f3.offset = 3 ∧ f4.offset = 4 ∧ f5.offset = 5 ∧ f0.type = 3 ∧ f1.type = 3 ∧ f2.type = 22 ∧ f3.type = 23 ∧ f4.type = 24 ∧ f5.type = 25 := ⟨_, _, _, _, _, _, Tryz.underlying27, rfl, rfl, rfl, rfl, rfl, rfl, rfl, rfl, rfl, rfl, rfl, rfl⟩
theorem read_tombs {H : Type} {enc : TypeId × Value → H} {W : World} {n : Nat} {cs : List Value} {x : DataW H × List MemPlace}
    (h : DataW.trod enc Tryz.prog W 0 (fun _ => true) true n 25 cs = some x) :
    ∃ (a : Option Addr) (c : Nat) (l : List TbM), cs = [.slice a l.length c] ∧ TbSl W a l ∧ (∀ e ∈ l, e.u.size ≤ maxLen) ∧ Cp a l.length c := by
  obtain ⟨f0, f1, he, o0, o1, t0, t1⟩ := tbFields
  have ci : Tryz.prog.cellsOf 3 = 1 := by kernel_rfl
  have cs' : Tryz.prog.cellsOf 9 = 1 := by kernel_rfl
  rcases Go.Deep.open_slice_pairs Tryz.underlying25 he (by kernel_rfl) o0 o1 (by rw [t0]; exact cs') (by rw [t1]; exact ci) h with ⟨rfl, _⟩ | ⟨a, len, cap, m, n', V0, V1, D0, D1, P0, P1, rfl, _, hl, hm, hmm, _, hx⟩
  · exact ⟨none, 0, [], rfl, TbSl.nil _ _, (fun s hs => by cases hs), Cp.none⟩
  · have hlm : len ≤ m := by rw [hmm]; split <;> omega
    have each : ∀ i, i < len → ∃ x : TbM, W.cell? (a.add (i * 2)) = some (.string x.u) ∧ W.cell? (a.add (i * 2 + 1)) = some (.int .i64 x.a) ∧ x.u.size ≤ maxLen := fun i hi => by
      obtain ⟨k0, k1, g0, g1⟩ := hx i (by omega)
      rw [t0] at g0
      rw [t1] at g1
      obtain ⟨z0, e0, _, w0⟩ := DataW.trod_string Tryz.underlying9 g0
      obtain ⟨z1, e1, _, w1⟩ := DataW.trod_int Tryz.underlying3 g1
      simp at e0 e1
      exact ⟨⟨z0, z1⟩, by rw [k0, e0], by rw [k1, e1], w0⟩
    have some_x : ∃ f : Nat → TbM, ∀ i, i < len → W.cell? (a.add (i * 2)) = some (.string (f i).u) ∧ W.cell? (a.add (i * 2 + 1)) = some (.int .i64 (f i).a) ∧ (f i).u.size ≤ maxLen := by
      refine ⟨fun i => if h : i < len then (each i h).choose else default, fun i hi => ?_⟩
      simp only [hi, ↓reduceDIte]
      exact (each i hi).choose_spec
    obtain ⟨f, hf2⟩ := some_x
    have hlen : ((List.range len).map f).length = len := by simp
    refine ⟨some a, cap, (List.range len).map f, by rw [hlen], fun k hk => ?_, fun x hxm => ?_, ⟨by rw [hlen]; omega, hm, fun h => by cases h⟩⟩
    · rw [List.length_map, hlen] at hk
      obtain ⟨b, off, spot⟩ := a
      have h0 := (hf2 0 (by omega)).1
      have hspot : spot = none := by simpa [Addr.add] using World.cell?_spot h0
      subst hspot
      obtain ⟨g0, g1, _⟩ := hf2 k (by omega)
      rw [Go.WideShapes.add_plain] at g0 g1
      simp only [List.getElem_map, List.getElem_range]
      exact ⟨b, off, rfl, World.block_lt_of_cell? W ⟨b, off + k * 2, none⟩ g0, g0, g1⟩
    · obtain ⟨i, hi, rfl⟩ := List.mem_map.1 hxm
      exact (hf2 i (by have := List.mem_range.1 hi; omega)).2.2
theorem bulk_pairs {H : Type} (F : Nat → List StM) (D0 D1 : Nat → DataW H) (len : Nat) (h : ∀ i, i < len → (F i).length ≤ Rows.uptoBulk (D1 i)) :
    ((List.range len).map fun i => (F i).length).sum + len ≤ Rows.uptoBulkAll ((List.range len).map fun i => DataW.agg [D0 i, D1 i]) := by
  induction len with
  | zero => simp
  | succ n ih =>
    have happ : ∀ l r : List (DataW H), Rows.uptoBulkAll (l ++ r) = Rows.uptoBulkAll l + Rows.uptoBulkAll r := by
      intro l r
      induction l with
      | nil => simp [Rows.uptoBulkAll]
      | cons x l ih => simp only [List.cons_append, Rows.uptoBulkAll, ih]; omega
    have h1 := ih (fun i hi => h i (by omega))
    have h2 := h n (by omega)
    rw [List.range_succ, List.map_append, List.map_append, List.sum_append, happ]
    simp only [List.map_cons, List.map_nil, List.sum_cons, List.sum_nil, Rows.uptoBulkAll, Rows.uptoBulk]
    omega
theorem read_users {H : Type} {enc : TypeId × Value → H} {W : World} {n : Nat} {cs : List Value} {x : DataW H × List MemPlace}
    (h : DataW.trod enc Tryz.prog W 0 (fun _ => true) true n 23 cs = some x) :
    ∃ (a : Option Addr) (c : Nat) (D : List UsL), cs = [.slice a D.length c] ∧ UsSl W a D ∧ (∀ e ∈ umS D, e.u.size ≤ maxLen) ∧ Cp a D.length c ∧ cntU (umS D) + D.length ≤ Rows.uptoBulk x.1 := by
  obtain ⟨f0, f1, he, o0, o1, t0, t1⟩ := usFields
  have ci : Tryz.prog.cellsOf 58 = 1 := by kernel_rfl
  have cs' : Tryz.prog.cellsOf 9 = 1 := by kernel_rfl
  rcases Go.Deep.open_slice_pairs Tryz.underlying23 he (by kernel_rfl) o0 o1 (by rw [t0]; exact cs') (by rw [t1]; exact ci) h with ⟨rfl, hx⟩ | ⟨a, len, cap, m, n', V0, V1, D0, D1, P0, P1, rfl, _, hl, hm, hmm, hd, hx⟩
  · exact ⟨none, 0, [], rfl, UsSl.nil _ _, (fun s hs => by cases hs), Cp.none, by simp [umS, cntU]⟩
  · have hlm : len ≤ m := by rw [hmm]; split <;> omega
    have each : ∀ i, i < len → ∃ x : UsL, W.cell? (a.add (i * 2)) = some (.string x.u) ∧ W.cell? (a.add (i * 2 + 1)) = some (.slice x.a x.l.length x.c) ∧ UsAt W x ∧ x.u.size ≤ maxLen ∧ x.l.length ≤ Rows.uptoBulk (D1 i) := fun i hi => by
      obtain ⟨k0, k1, g0, g1⟩ := hx i (by omega)
      rw [t0] at g0
      rw [t1] at g1
      obtain ⟨z0, e0, _, w0⟩ := DataW.trod_string Tryz.underlying9 g0
      obtain ⟨b, q, l, e1, r1, r2, r3, r4, r5⟩ := read_stays g1
      have e2 := List.singleton_inj.1 e1
      have hb : Go.Joins.sliceLen (D1 i) = l.length := by
        rw [e2] at g1
        exact Go.Joins.sliceLen_trod Tryz.underlying58 g1
      have hb2 := sliceLen_le (D1 i)
      simp at e0
      exact ⟨⟨z0, b, l, q⟩, by rw [k0, e0], by rw [k1, e2], ⟨r1, r3, r4, r5⟩, w0, by rw [← hb]; exact hb2⟩
    have some_x : ∃ f : Nat → UsL, ∀ i, i < len → W.cell? (a.add (i * 2)) = some (.string (f i).u) ∧ W.cell? (a.add (i * 2 + 1)) = some (.slice (f i).a (f i).l.length (f i).c) ∧ UsAt W (f i) ∧ (f i).u.size ≤ maxLen ∧ (f i).l.length ≤ Rows.uptoBulk (D1 i) := by
      refine ⟨fun i => if h : i < len then (each i h).choose else default, fun i hi => ?_⟩
      simp only [hi, ↓reduceDIte]
      exact (each i hi).choose_spec
    obtain ⟨f, hf2⟩ := some_x
    have hlen : ((List.range len).map f).length = len := by simp
    refine ⟨some a, cap, (List.range len).map f, by rw [hlen], ⟨fun k hk => ?_, fun x hxm => ?_⟩, fun x hxm => ?_, ⟨by rw [hlen]; omega, hm, fun h => by cases h⟩, ?_⟩
    · rw [List.length_map, hlen] at hk
      obtain ⟨b, off, spot⟩ := a
      have h0 := (hf2 0 (by omega)).1
      have hspot : spot = none := by simpa [Addr.add] using World.cell?_spot h0
      subst hspot
      obtain ⟨g0, g1, _⟩ := hf2 k (by omega)
      rw [Go.WideShapes.add_plain] at g0 g1
      simp only [List.getElem_map, List.getElem_range]
      exact ⟨b, off, rfl, World.block_lt_of_cell? W ⟨b, off + k * 2, none⟩ g0, g0, g1⟩
    · obtain ⟨i, hi, rfl⟩ := List.mem_map.1 hxm
      exact (hf2 i (List.mem_range.1 hi)).2.2.1
    · obtain ⟨y, hy, rfl⟩ := List.mem_map.1 hxm
      obtain ⟨i, hi, rfl⟩ := List.mem_map.1 hy
      exact (hf2 i (List.mem_range.1 hi)).2.2.2.1
    · have hbk := bulk_pairs (fun i => (f i).l) D0 D1 len (fun i hi => (hf2 i hi).2.2.2.2)
      have e1 : cntU (umS ((List.range len).map f)) = ((List.range len).map fun i => (f i).l.length).sum := by
        unfold cntU umS
        rw [List.map_map, List.map_map]
        rfl
      rw [e1, hlen, hd]
      simp only [Rows.uptoBulk]
      omega
theorem open_state {H : Type} {enc : TypeId × Value → H} {W : World} {base : Nat} {v : Value} {d : DataW H} {p : List MemPlace}
    (hok : Value.okWide Tryz.prog W .any base 27 v) (h : DataW.Trod enc Tryz.prog W 0 (fun _ => true) true 27 v d p) :
    ∃ x : SaL, v = saV x ∧ SaAt W x ∧ SzS x.m ∧ stCnt x.m + x.us.length ≤ Rows.uptoBulk d := by
  obtain ⟨f0, f1, f2, f3, f4, f5, he, o0, o1, o2, o3, o4, o5, t0, t1, t2, t3, t4, t5⟩ := saFields
  have ci : Tryz.prog.cellsOf 3 = 1 := by kernel_rfl
  have k2 : Tryz.prog.cellsOf 22 = 1 := by kernel_rfl
  have k3 : Tryz.prog.cellsOf 23 = 1 := by kernel_rfl
  have k4 : Tryz.prog.cellsOf 24 = 1 := by kernel_rfl
  have k5 : Tryz.prog.cellsOf 25 = 1 := by kernel_rfl
  obtain ⟨cs, rfl, hsz⟩ := okWide_struct he hok
  obtain ⟨c0, c1, c2, c3, c4, c5, rfl⟩ := array6 (hsz.trans (by kernel_rfl))
  obtain ⟨fuel, hf⟩ := h
  obtain ⟨y0, y1, y2, y3, y4, y5, n, hx, g0, g1, g2, g3, g4, g5⟩ := trod_six (x := (d, p)) he o0 o1 o2 o3 o4 o5 (by rw [t0]; exact ci) (by rw [t1]; exact ci) (by rw [t2]; exact k2) (by rw [t3]; exact k3) (by rw [t4]; exact k4) (by rw [t5]; exact k5) (by simpa [Value.cells] using hf)
  rw [t0] at g0
  rw [t1] at g1
  rw [t2] at g2
  rw [t3] at g3
  rw [t4] at g4
  rw [t5] at g5
  obtain ⟨z0, e0, _, w0⟩ := DataW.trod_int Tryz.underlying3 g0
  obtain ⟨z1, e1, _, w1⟩ := DataW.trod_int Tryz.underlying3 g1
  obtain ⟨a2, q2, l2, e2, r2, s2, m2, n2, p2⟩ := read_sess g2
  obtain ⟨a3, q3, l3, e3, r3, s3, m3, b3⟩ := read_users g3
  obtain ⟨a4, q4, l4, e4, r4, s4, m4, n4, p4⟩ := read_entries g4
  obtain ⟨a5, q5, l5, e5, r5, s5, m5⟩ := read_tombs g5
  simp at e0 e1
  obtain rfl := List.singleton_inj.1 e2
  obtain rfl := List.singleton_inj.1 e3
  obtain rfl := List.singleton_inj.1 e4
  obtain rfl := List.singleton_inj.1 e5
  subst e0 e1
  have b2 : l2.length ≤ Rows.uptoBulk y2.1 := by rw [← Go.Joins.sliceLen_trod (d := y2.1) (ps := y2.2) Tryz.underlying22 g2]; exact sliceLen_le _
  have b4 : l4.length ≤ Rows.uptoBulk y4.1 := by rw [← Go.Joins.sliceLen_trod (d := y4.1) (ps := y4.2) Tryz.underlying24 g4]; exact sliceLen_le _
  have b5 : l5.length ≤ Rows.uptoBulk y5.1 := by rw [← Go.Joins.sliceLen_trod (d := y5.1) (ps := y5.2) Tryz.underlying25 g5]; exact sliceLen_le _
  refine ⟨⟨z0, z1, a2, l2, q2, a3, l3, q3, a4, l4, q4, a5, l5, q5⟩, rfl, ⟨r2, r3, r4, r5, ⟨m2, n2, p2⟩, m3, ⟨m4, n4, p4⟩, m5⟩, ⟨s2, s3, fun e he => ⟨(s4 e he).1, (s4 e he).2.1⟩, s5⟩, ?_⟩
  have hx' : d = .agg [y0.1, y1.1, y2.1, y3.1, y4.1, y5.1] := hx
  rw [hx']
  simp only [Rows.uptoBulk, Rows.uptoBulkAll, stCnt, SaL.m]
  omega
theorem open_two {H : Type} {enc : TypeId × Value → H} {W : World} {base : Nat} {v : Value} {d : DataW H} {p : List MemPlace}
    (hok : Value.okWide Tryz.prog W .any base 67 v) (h : DataW.Trod enc Tryz.prog W 0 (fun _ => true) true 67 v d p) :
    ∃ (a b : ByteArray), v = .agg #[.string a, .string b] ∧ a.size ≤ maxLen ∧ b.size ≤ maxLen := by
  obtain ⟨cs, rfl, hsz⟩ := okWide_arr Tryz.underlying67 hok
  obtain ⟨fuel, hf⟩ := h
  obtain ⟨xs, k, _, _, hl, hx, hi⟩ := DataW.trod_array Tryz.underlying67 hf
  have c2 : Tryz.prog.cellsOf 67 = 2 := by kernel_rfl
  have ce : Tryz.prog.cellsOf 9 = 1 := by kernel_rfl
  obtain ⟨v0, v1, rfl⟩ := Go.Joins.array2 (hsz.trans c2)
  rw [ce] at hi
  have h0 := hi 0 (by decide)
  have h1 := hi 1 (by decide)
  match xs, hx with
  | [y0, y1], _ =>
    obtain ⟨z0, e0, _, w0⟩ := DataW.trod_string (cs := [v0]) Tryz.underlying9 (by simpa [Value.cells] using h0)
    obtain ⟨z1, e1, _, w1⟩ := DataW.trod_string (cs := [v1]) Tryz.underlying9 (by simpa [Value.cells] using h1)
    simp at e0 e1
    subst e0 e1
    exact ⟨z0, z1, rfl, w0, w1⟩
end Go.Proofs.YtjhdhfokhkcamaaGreat
