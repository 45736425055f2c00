/- Contracts of layer 4: several parts, one behind the other; how long the body is to be. -/
import Derived.Test.YtollhemkjnkalaaGreatDoorH3
import Derived.Laws.EntriesVeiled
import Derived.Laws.DeepStrings4
namespace Go.Proofs.YtollhemkjnkalaaGreatDoor
open Go.RowKit
set_option linter.unusedVariables false
set_option maxRecDepth 100000

/-- a part: how many bytes, the number of the function, and what it tells -/
structure Part where
  n : Nat
  f : Nat
  p : UInt8 → Bool
  tells : Tells f p
  enters : Enters f
  small : n ≤ 10000
def Part.pair (x : Part) : Nat × (UInt8 → Bool) := (x.n, x.p)
/-- the parts lie in block g, one behind the other -/
def PartsAt (W : World) (g : Nat) (ps : List Part) : Prop := g < W.heap.size ∧ ∀ k (h : k < ps.length), W.cell? ⟨g, k * 2, none⟩ = some (.int .i64 ps[k].n) ∧ W.cell? ⟨g, k * 2 + 1, none⟩ = some (.func (.func ps[k].f) #[] #[])
theorem PartsAt.below {W W' : World} {g : Nat} {ps : List Part} (h : PartsAt W g ps) (hb : Below W.heap.size W W') : PartsAt W' g ps :=
  ⟨Nat.lt_of_lt_of_le h.1 hb.size, fun k hk => ⟨(hb.cell (p := ⟨g, k * 2, none⟩) h.1).trans (h.2 k hk).1, (hb.cell (p := ⟨g, k * 2 + 1, none⟩) h.1).trans (h.2 k hk).2⟩⟩

theorem readPs_at (ps : List Part) (j : Nat) (h : j < ps.length) (t : List UInt8) : readPs ((ps.drop j).map Part.pair) t = if readC ps[j].n ps[j].p t ≠ 0 then readC ps[j].n ps[j].p t else readPs ((ps.drop (j + 1)).map Part.pair) (t.drop ps[j].n) := by
  rw [List.drop_eq_getElem_cons h]
  rfl
theorem readC_short (n : Nat) (p : UInt8 → Bool) (t : List UInt8) (h : readC n p t = 0) : n ≤ t.length := by
  unfold readC at h
  split at h
  · split at h
    · cases h
    · omega
  · cases h

theorem toL_extract (s : ByteArray) (a b : Nat) : toL (s.extract a b) = ((toL s).take b).drop a := by
  unfold toL
  rw [ByteArray.data_extract, Array.toList_extract, List.extract_eq_take_drop, List.drop_take]
theorem slice_two (s : ByteArray) (a b : Nat) (h1 : a ≤ b) (h2 : b ≤ s.size) (W : World) : (Instr.slice 9 (.string s) (some (.int .i64 (a : Int))) (some (.int .i64 (b : Int))) none).run Tryz.prog W = .ok (.string (s.extract a b)) W := by
  rw [run_slice_string_if W 9 s .i64 .i64 a b Tryz.underlying9, if_pos (by omega), if_pos (by omega)]
  simp
theorem slice_int (s : ByteArray) (a b : Int) (x y : Nat) (ha : a = x) (hb : b = y) (h1 : x ≤ y) (h2 : y ≤ s.size) (W : World) : (Instr.slice 9 (.string s) (some (.int .i64 a)) (some (.int .i64 b)) none).run Tryz.prog W = .ok (.string (s.extract x y)) W := by
  subst ha hb; exact slice_two s x y h1 h2 W
theorem take_size (s : ByteArray) : (toL s).take s.size = toL s := List.take_of_length_le (by rw [toL_length]; exact Nat.le_refl _)

set_option maxHeartbeats 1000000 in
theorem readParts_any (ps : List Part) (g c : Nat) (s : ByteArray) (hs : s.size ≤ 1000000000000000000) (w : World) (hl : ps.length ≤ 1000) (hps : PartsAt w g ps) :
    Calls Tryz.prog 50 #[.string s, .slice (some ⟨g, 0, none⟩) ps.length c] w fun e w' => e = .returned (.int .i64 (readPs (ps.map Part.pair) (toL s) : Int)) ∧ Below w.heap.size w w' := by
  have HPS := Lib.hid hps
  clear hps
  go_enter Tryz.func50, Tryz.ntmps50
  go_wp2
  go_loopw [0, 10] (fun v i wr => ∃ (j : Nat) (t : ByteArray), j ≤ ps.length ∧ i = .int .i64 j ∧ v = .string t ∧ t.size ≤ s.size ∧ Hid (readPs (ps.map Part.pair) (toL s) = readPs ((ps.drop j).map Part.pair) (toL t)) ∧ Hid (Below w.heap.size w wr)) (fun _ i _ => ps.length - (intOf i).toNat)
  case atStart => exact ⟨0, s, by omega, rfl, rfl, Nat.le_refl _, rfl, Below.refl _ _⟩
  case round =>
    obtain ⟨j, t, hj, rfl, rfl, hts, HR, HB⟩ := hrel
    by_cases hjl : j < ps.length
    · have HP2 := HPS.out.below HB.out
      have hc0 := (HP2.2 j hjl).1
      have hc1 := (HP2.2 j hjl).2
      have hg := HP2.1
      clear HP2
      have HE := Lib.hid (HR.out.trans (readPs_at ps j hjl (toL t)))
      have HC := Lib.hid (fun W => read_any ps[j].n ps[j].f ps[j].p ps[j].tells ps[j].enters t (by omega) ps[j].small W)
      have HSH := Lib.hid (readC_short ps[j].n ps[j].p (toL t))
      have hsm := ps[j].small
      unfold partV at HC
      generalize ps[j].n = n at *
      generalize ps[j].f = f at *
      generalize ps[j].p = p at *
      have HBA : Hid (Below w.heap.size w (wr.alloc (.cells #[.int .i64 n, .func (.func f) #[] #[]] 89))) := HB.out.alloc HB.out.size _
      have hd0 := cell_new wr #[.int .i64 n, .func (.func f) #[] #[]] 89 0 wr.heap.size (.int .i64 n) rfl rfl
      have hd1 := cell_new wr #[.int .i64 n, .func (.func f) #[] #[]] 89 1 wr.heap.size (.func (.func f) #[] #[]) rfl rfl
      have hlt : wr.heap.size < (wr.alloc (.cells #[.int .i64 n, .func (.func f) #[] #[]] 89)).heap.size := by rw [size1]; omega
      have HD0 := Lib.hid hd0
      have HLT := Lib.hid hlt
      clear hd0 hd1 hlt
      go_wp2_with fail
      refine (HC.out _).mono ?_
      rintro e w1 ⟨rfl, hB1⟩
      have hd2 := (hB1.cell (p := ⟨wr.heap.size, 0, none⟩) HLT.out).trans HD0.out
      have HBB : Hid (Below w.heap.size w w1) := HBA.out.trans (hB1.mono HBA.out.size)
      clear hB1 HBA HD0 HLT HC hc0 hc1 hg
      by_cases hz : readC n p (toL t) = 0
      · have hnt := HSH.out hz
        rw [toL_length] at hnt
        rw [hz]
        have HE2 : Hid (readPs (ps.map Part.pair) (toL s) = readPs ((ps.drop (j + 1)).map Part.pair) ((toL t).drop n)) := by
          unfold Hid
          rw [HE.out, if_neg (by simp [hz])]
        clear hz HE HR HSH
        go_wp2
        go_roundw
        case rel => exact ⟨j + 1, _, by omega, by go_num, rfl, by rw [ByteArray.size_extract]; omega, by unfold Hid; rw [HE2.out, toL_extract, take_size], HBB⟩
        case measure => simp [intOf]; omega
      · have HE2 : Hid (readPs (ps.map Part.pair) (toL s) = readC n p (toL t)) := by
          unfold Hid
          rw [HE.out, if_pos hz]
        generalize readC n p (toL t) = e at *
        have hne : ((e : Int) == 0) = false := beq_eq_false_iff_ne.2 (by omega)
        go_wp2
        go_ret
        exact ⟨by rw [HE2.out]; rfl, HBB.out⟩
    · obtain rfl : j = ps.length := by omega
      have HE2 : Hid (readPs (ps.map Part.pair) (toL s) = 0) := by
        unfold Hid
        rw [HR.out, List.drop_eq_nil_of_le (Nat.le_refl _)]; rfl
      go_wp2
      go_ret
      exact ⟨by rw [HE2.out]; rfl, HB.out⟩

/-! ### how long the body is to be -/
def pMark : Part := ⟨1, 69, isMarkB, isMark_any, isMark_enters, by decide⟩
def pKind : Part := ⟨1, 38, isKindB, isKind_any, isKind_enters, by decide⟩
def pDigs (n : Nat) (h : n ≤ 10000) : Part := ⟨n, 51, isDigB, isDigit_any, isDigit_enters, h⟩
def pBody (n : Nat) (h : n ≤ 10000) : Part := ⟨n, 39, inBodyB, inBody_any, inBody_enters, h⟩
theorem parts3_at (W : World) (a b c d e f : Value) (t : TypeId) (p q r : Part) (ha : a = .int .i64 p.n) (hb : b = .func (.func p.f) #[] #[]) (hc : c = .int .i64 q.n) (hd : d = .func (.func q.f) #[] #[]) (he : e = .int .i64 r.n) (hf : f = .func (.func r.f) #[] #[]) :
    PartsAt (W.alloc (.cells #[a, b, c, d, e, f] t)) W.heap.size [p, q, r] := by
  subst ha hb hc hd he hf
  refine ⟨by rw [size1]; omega, fun k hk => ?_⟩
  match k, hk with
  | 0, _ => exact ⟨cell_new W _ t 0 _ _ rfl rfl, cell_new W _ t 1 _ _ rfl rfl⟩
  | 1, _ => exact ⟨cell_new W _ t 2 _ _ rfl rfl, cell_new W _ t 3 _ _ rfl rfl⟩
  | 2, _ => exact ⟨cell_new W _ t 4 _ _ rfl rfl, cell_new W _ t 5 _ _ rfl rfl⟩
theorem parts2_at (W : World) (a b c d : Value) (t : TypeId) (p q : Part) (ha : a = .int .i64 p.n) (hb : b = .func (.func p.f) #[] #[]) (hc : c = .int .i64 q.n) (hd : d = .func (.func q.f) #[] #[]) :
    PartsAt (W.alloc (.cells #[a, b, c, d] t)) W.heap.size [p, q] := by
  subst ha hb hc hd
  refine ⟨by rw [size1]; omega, fun k hk => ?_⟩
  match k, hk with
  | 0, _ => exact ⟨cell_new W _ t 0 _ _ rfl rfl, cell_new W _ t 1 _ _ rfl rfl⟩
  | 1, _ => exact ⟨cell_new W _ t 2 _ _ rfl rfl, cell_new W _ t 3 _ _ rfl rfl⟩

/-- what bodyLong tells -/
def bodyE (s : List UInt8) : Nat := if G 0 0 6 s ≠ 0 then G 0 0 6 s else if 2000 < longOf s then 44 else 0
def bodyN (s : List UInt8) : Nat := if bodyE s = 0 then longOf s else 0
theorem G_cases (long i n : Nat) (s : List UInt8) : G long i n s = 44 ∨ (G long i n s = 43 ∧ s.length < n) ∨ (G long i n s = 0 ∧ n ≤ s.length) := by
  unfold G
  split
  · split
    · exact .inr (.inl ⟨rfl, ‹_›⟩)
    · exact .inr (.inr ⟨rfl, by omega⟩)
  · exact .inl rfl
theorem longI_slice (s : ByteArray) : (unhexL (toL (s.extract 2 6))).getD 0 = (longOf (toL s) : Int) := by
  rw [← longI_eq, toL_extract]
  unfold longI
  rw [List.drop_take]

set_option maxHeartbeats 1000000 in
theorem bodyLong_any (s : ByteArray) (hs : s.size ≤ 1000000000000000000) (w : World) :
    Calls Tryz.prog 49 #[.string s] w fun e w' => e = .returned (.tuple #[.int .i64 (bodyN (toL s) : Int), .int .i64 (bodyE (toL s) : Int)]) ∧ Below w.heap.size w w' := by
  have HC := Lib.hid (fun W => readParts_any [pMark, pKind, pDigs 4 (by decide)] W.heap.size 3 s hs (W.alloc (.cells #[.int .i64 1, .func (.func 69) #[] #[], .int .i64 1, .func (.func 38) #[] #[], .int .i64 4, .func (.func 51) #[] #[]] 89)) (by decide) (parts3_at W _ _ _ _ _ _ _ pMark pKind (pDigs 4 (by decide)) rfl rfl rfl rfl rfl rfl))
  have HX : Hid (readPs ([pMark, pKind, pDigs 4 (by decide)].map Part.pair) (toL s) = G 0 0 6 (toL s)) := read_head (toL s)
  rw [HX.out] at HC
  clear HX
  have HU := Lib.hid (fun W => unhex_any (s.extract 2 6) W (by rw [ByteArray.size_extract]; unfold maxLen; omega))
  have HL := Lib.hid (longI_slice s)
  have HEN : Hid (bodyE (toL s) = if G 0 0 6 (toL s) ≠ 0 then G 0 0 6 (toL s) else if 2000 < longOf (toL s) then 44 else 0) := rfl
  have HNN : Hid (bodyN (toL s) = if bodyE (toL s) = 0 then longOf (toL s) else 0) := rfl
  have hG := G_cases 0 0 6 (toL s)
  rw [toL_length] at hG
  have HB := Lib.hid ((Below.refl w.heap.size w).alloc (Nat.le_refl _) (.cells #[.int .i64 1, .func (.func 69) #[] #[], .int .i64 1, .func (.func 38) #[] #[], .int .i64 4, .func (.func 51) #[] #[]] 89))
  unfold optV at HU
  have hlo : 0 ≤ (longOf (toL s) : Int) ∧ True := ⟨by omega, trivial⟩
  change Hid (∀ W, Calls Tryz.prog 70 #[.string (s.extract 2 6)] W fun e w' => e = .returned (.tuple #[.int .i64 ((unhexL (toL (s.extract 2 6))).getD 0), .bool (unhexL (toL (s.extract 2 6))).isSome]) ∧ Drew W w') at HU
  rw [HL.out] at HU
  generalize (unhexL (toL (s.extract 2 6))).isSome = b at *
  generalize bodyN (toL s) = N at *
  generalize bodyE (toL s) = E at *
  generalize G 0 0 6 (toL s) = z at *
  generalize longOf (toL s) = n at *
  clear HL hlo
  go_enter Tryz.func49, Tryz.ntmps49
  go_wp2_with fail
  refine (HC.out _).mono ?_
  rintro e w1 ⟨rfl, hB1⟩
  have HB1 : Hid (Below w.heap.size w w1) := HB.out.trans (hB1.mono HB.out.size)
  clear hB1 HB HC
  by_cases hz : z = 0
  · obtain ⟨_, h6⟩ : z = 0 ∧ 6 ≤ s.size := by omega
    subst hz
    clear hG
    by_cases hn : 2000 < n
    · have HE : Hid (E = 44) := by unfold Hid; rw [HEN.out, if_neg (by simp), if_pos hn]
      have HN : Hid (N = 0) := by unfold Hid; rw [HNN.out, HE.out, if_neg (by decide)]
      go_wp2_with fail
      refine (HU.out _).mono ?_
      rintro e w2 ⟨rfl, hD⟩
      go_wp2
      go_ret2
      exact ⟨by rw [HE.out, HN.out]; rfl, HB1.out.trans (hD.below _)⟩
    · have HE : Hid (E = 0) := by unfold Hid; rw [HEN.out, if_neg (by simp), if_neg hn]
      have HN : Hid (N = n) := by unfold Hid; rw [HNN.out, HE.out, if_pos rfl]
      go_wp2_with fail
      refine (HU.out _).mono ?_
      rintro e w2 ⟨rfl, hD⟩
      go_wp2
      go_ret2
      exact ⟨by rw [HE.out, HN.out]; rfl, HB1.out.trans (hD.below _)⟩
  · have HE : Hid (E = z) := by unfold Hid; rw [HEN.out, if_pos hz]
    have HN : Hid (N = 0) := by unfold Hid; rw [HNN.out, HE.out, if_neg hz]
    have hne : ((z : Int) == 0) = false := beq_eq_false_iff_ne.2 (by omega)
    clear hG
    go_wp2
    go_ret2
    exact ⟨by rw [HE.out, HN.out]; rfl, HB1.out⟩
end Go.Proofs.YtollhemkjnkalaaGreatDoor
