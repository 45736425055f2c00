/- DiskSyncs: what was synced is there behind a crash, of a file that was renamed, too: for every two texts and number. No condition. -/
import Derived.Test.YtammmhbkfdmbfaaU4
import Derived.Test.YtammmhbkfdmbfaaU5
namespace Go.Proofs.Ytammmhbkfdmbfaa.diskSyncs
open Go.ChangeShapes Go.WideShapes Go.ChangeAt Go.RowKit
open Go.ChangeMaps (open_string shut_string)
set_option linter.unusedVariables false

def one (n x y : Nm) (o : Int) : DiskM := ⟨[⟨n, x, y⟩], 1000, -1, o, 0, false⟩
theorem one_app (x y S : Nm) (o : Int) (ho : 0 ≤ o ∧ o ≤ 100) (h : x.length + y.length + S.length ≤ 1000) : doM (one [97] x y o) ⟨1, [97], S, 0⟩ = (one [97] x (y ++ S) (o + 1), 0) := by
  have hw : whyM (one [97] x y o) ⟨1, [97], S, 0⟩ = 0 := by
    have hu : usedL (one [97] x y o).L = x.length + y.length := by simp [usedL, one, FileM.bytes]
    have hh : hasL (one [97] x y o).L [97] = true := by simp [hasL, one]
    unfold whyM
    rw [hu, hh]
    rw [if_neg (by simp), if_neg (by simp), if_neg (by simp [one]; omega), if_neg (by simp)]
  unfold doM
  rw [if_neg (by simp [one]), hw, if_neg (by simp), if_neg (by simp [one])]
  simp [DiskM.next, one, doesL, getL, putL, wo, ins, IntWalk.i64_in (o + 1) (by omega)]
theorem one_sync (x y : Nm) (o : Int) (ho : 0 ≤ o ∧ o ≤ 100) : doM (one [97] x y o) ⟨2, [97], [], 0⟩ = (one [97] (x ++ y) [] (o + 1), 0) := by
  have hw : whyM (one [97] x y o) ⟨2, [97], [], 0⟩ = 0 := by
    have hh : hasL (one [97] x y o).L [97] = true := by simp [hasL, one]
    unfold whyM
    rw [hh]
    rw [if_neg (by simp), if_neg (by simp), if_neg (by simp), if_neg (by simp)]
  unfold doM
  rw [if_neg (by simp [one]), hw, if_neg (by simp), if_neg (by simp [one])]
  simp [DiskM.next, one, doesL, getL, putL, wo, ins, IntWalk.i64_in (o + 1) (by omega)]
theorem one_ren (x y : Nm) (o : Int) (ho : 0 ≤ o ∧ o ≤ 100) : doM (one [97] x y o) ⟨3, [97], [98], 0⟩ = (one [98] x y (o + 1), 0) := by
  have hw : whyM (one [97] x y o) ⟨3, [97], [98], 0⟩ = 0 := by
    have hh : hasL (one [97] x y o).L [97] = true := by simp [hasL, one]
    unfold whyM
    rw [hh]
    rw [if_neg (by simp), if_neg (by simp), if_neg (by simp), if_neg (by decide)]
  unfold doM
  rw [if_neg (by simp [one]), hw, if_neg (by simp), if_neg (by simp [one])]
  simp [DiskM.next, one, doesL, getL, putL, wo, ins, IntWalk.i64_in (o + 1) (by omega)]
theorem one_crash (x y : Nm) (o k : Int) : textL (crashM (one [98] x y o) [k]).L [98] = x ++ y.take (kept k y.length) ∧ hasL (crashM (one [98] x y o) [k]).L [98] = true ∧ hasL (crashM (one [98] x y o) [k]).L [97] = false ∧ (crashM (one [98] x y o) [k]).L.length = 1 ∧ (crashM (one [98] x y o) [k]).down = false := by
  unfold crashM one
  by_cases h : y = []
  · subst h
    simp [crashL, textL, getL, hasL, FileM.bytes]
  · simp [crashL, h, textL, getL, hasL, FileM.bytes, settleF]
theorem slice_to (s : ByteArray) (c : Nat) (h : c ≤ s.size) (W : World) : (Instr.slice 9 (.string s) none (some (.int .i64 (c : Int))) none).run Try.prog W = .ok (.string (s.extract 0 c)) W := by
  rw [run_slice_string_to_if W 9 s .i64 c Try.underlying9, if_pos (by omega)]
  simp
theorem size_no (n : Nm) (L : List FileM) (h : hasL L n = false) : sizeN L n = 0 := by unfold sizeN; rw [getL_none.2 h]

set_option maxRecDepth 100000 in
set_option maxHeartbeats 4000000 in
theorem walk (w : World) (s : ByteArray) (hs : s.size ≤ 140737488351232) (t : ByteArray) (ht : t.size ≤ 140737488351232) (k : Int) (hk : (Lit.int .i64 k).wf = true) :
    Calls Try.prog 10 #[.string s, .string t, .int .i64 k] w fun e w' => e = .returned (.bool true) ∧ Below w.heap.size w w' := by
  have HAL := Lib.hid alive_any
  by_cases h1 : 200 < s.size
  · go_enter Try.func10, Try.ntmps10
    go_wp2_with fail
    refine (HAL.out _).mono ?_
    rintro e w2 ⟨rfl, hB2⟩
    go_wp2
    go_ret
    exact ⟨rfl, hB2⟩
  by_cases h2 : 200 < t.size
  · go_enter Try.func10, Try.ntmps10
    go_wp2_with fail
    refine (HAL.out _).mono ?_
    rintro e w2 ⟨rfl, hB2⟩
    go_wp2
    go_ret
    exact ⟨rfl, hB2⟩
  have zs : (toL s).length = s.size := toL_length s
  have zt : (toL t).length = t.size := toL_length t
  have HC0 : Hid (∀ (p : Nat) (W : World), Liv (NewK w) w W p (newM 1000) → Calls Try.prog 33 #[pt p, .string ⟨#[97]⟩] W fun e w' => e = .returned (.int .i64 0) ∧ Liv (NewK w) w w' p (one [97] [] [] 1)) := fun p W h => by
    have := liv_create ⟨#[97]⟩ (by decide) ⟨0, [97], [], 0⟩ rfl rfl h (by decide +kernel)
    exact this
  have HC1 : Hid (∀ (p : Nat) (W : World), Liv (NewK w) w W p (one [97] [] [] 1) → Calls Try.prog 38 #[pt p, .string ⟨#[97]⟩, .string s] W fun e w' => e = .returned (.int .i64 0) ∧ Liv (NewK w) w w' p (one [97] [] (toL s) 2)) := fun p W h => by
    have := liv_append ⟨#[97]⟩ s (by decide) (by unfold maxLen; omega) ⟨1, [97], toL s, 0⟩ rfl rfl rfl h (by decide +kernel)
    rw [one_app [] [] (toL s) 1 (by omega) (by simp; omega)] at this
    exact this
  have HC2 : Hid (∀ (p : Nat) (W : World), Liv (NewK w) w W p (one [97] [] (toL s) 2) → Calls Try.prog 39 #[pt p, .string ⟨#[97]⟩] W fun e w' => e = .returned (.int .i64 0) ∧ Liv (NewK w) w w' p (one [97] (toL s) [] 3)) := fun p W h => by
    have := liv_sync ⟨#[97]⟩ (by decide) ⟨2, [97], [], 0⟩ rfl rfl h (by simp [one])
    rw [one_sync [] (toL s) 2 (by omega)] at this
    exact this
  have HC3 : Hid (∀ (p : Nat) (W : World), Liv (NewK w) w W p (one [97] (toL s) [] 3) → Calls Try.prog 38 #[pt p, .string ⟨#[97]⟩, .string t] W fun e w' => e = .returned (.int .i64 0) ∧ Liv (NewK w) w w' p (one [97] (toL s) (toL t) 4)) := fun p W h => by
    have := liv_append ⟨#[97]⟩ t (by decide) (by unfold maxLen; omega) ⟨1, [97], toL t, 0⟩ rfl rfl rfl h (by simp [one])
    rw [one_app (toL s) [] (toL t) 3 (by omega) (by simp; omega)] at this
    exact this
  have HC4 : Hid (∀ (p : Nat) (W : World), Liv (NewK w) w W p (one [97] (toL s) (toL t) 4) → Calls Try.prog 40 #[pt p, .string ⟨#[97]⟩, .string ⟨#[98]⟩] W fun e w' => e = .returned (.int .i64 0) ∧ Liv (NewK w) w w' p (one [98] (toL s) (toL t) 5)) := fun p W h => by
    have := liv_rename ⟨#[97]⟩ ⟨#[98]⟩ (by decide) (by decide) ⟨3, [97], [98], 0⟩ rfl rfl rfl h (by simp [one])
    rw [one_ren (toL s) (toL t) 4 (by omega)] at this
    exact this
  obtain ⟨q1, q2, q3, q4, q5⟩ := one_crash (toL s) (toL t) 5 k
  have HC5 : Hid (∀ (p : Nat) (W : World), Liv (NewK w) w W p (one [98] (toL s) (toL t) 5) → ∀ (g n : Nat) (ty : TypeId), g = W.heap.size → n = 1 → Calls Try.prog 28 #[pt p, .slice (some ⟨g, 0, none⟩) n n] (W.alloc (.cells #[.int .i64 k] ty)) fun e w' => e = .returned (.tuple #[]) ∧ Liv (NewK w) w w' p (crashM (one [98] (toL s) (toL t) 5) [k])) := fun p W h g n ty hg hn =>
    liv_crash_lit [k] h (by simp [one]) (by simp only [List.length_cons, List.length_nil]; decide) #[.int .i64 k] rfl ty g n hg hn
  have HC6 : Hid (∀ (p : Nat) (W : World), Liv (NewK w) w W p (crashM (one [98] (toL s) (toL t) 5) [k]) → Calls Try.prog 31 #[pt p, .string ⟨#[98]⟩] W fun e w' => e = .returned (.tuple #[.string (tx (toL s ++ (toL t).take (kept k t.size))), .bool true]) ∧ ∃ r, Liv (NewK w) w w' p { crashM (one [98] (toL s) (toL t) 5) [k] with reads := r }) := fun p W h => by
    have := bytes_any [98] (by decide) q5 h
    rw [q1, q2, zt] at this
    exact this
  have HC7 : Hid (∀ (p : Nat) (r : Int) (W : World), Liv (NewK w) w W p { crashM (one [98] (toL s) (toL t) 5) [k] with reads := r } → Calls Try.prog 22 #[pt p, .string ⟨#[97]⟩] W fun e w' => e = .returned (.tuple #[.int .i64 0, .bool false]) ∧ Liv (NewK w) w w' p { crashM (one [98] (toL s) (toL t) 5) [k] with reads := r }) := fun p r W h => by
    have := liv_size ⟨#[97]⟩ (by decide) h
    rw [show toL ⟨#[97]⟩ = [97] from rfl] at this
    simp only at this
    rw [q3, size_no _ _ q3] at this
    exact this
  have hmn : min (max k 0) (t.size : Int) = (kept k t.size : Int) := kept_eq k t.size
  have hkl : kept k t.size ≤ t.size := by unfold kept; omega
  have hsl := slice_to t (kept k t.size) hkl
  have hcat : tx (toL s ++ (toL t).take (kept k t.size)) = s ++ t.extract 0 (kept k t.size) := by
    apply toL_inj
    rw [toL_tx]
    simp [toL]
  have hez : (t.extract 0 (kept k t.size)).size ≤ 200 := by simp; omega
  rw [hcat] at HC6
  generalize t.extract 0 (kept k t.size) = E at *
  generalize kept k t.size = g at *
  have HSZ := Lib.hid zs
  clear zs zt q1 q2 q3 q4 q5 hcat HSZ hk hs ht
  go_enter Try.func10, Try.ntmps10
  go_wp2_with fail
  refine (liv_new 1000 _).mono ?_
  rintro e w1 ⟨p, rfl, h⟩
  have H1 := Lib.hid h
  clear h
  go_wp2_with fail
  refine (HC0.out _ _ H1.out).mono ?_
  rintro e w2 ⟨rfl, h⟩
  have H2 := Lib.hid h
  clear h
  go_wp2_with fail
  refine (HC1.out _ _ H2.out).mono ?_
  rintro e w3 ⟨rfl, h⟩
  have H3 := Lib.hid h
  clear h
  go_wp2_with fail
  refine (HC2.out _ _ H3.out).mono ?_
  rintro e w4 ⟨rfl, h⟩
  have H4 := Lib.hid h
  clear h
  go_wp2_with fail
  refine (HC3.out _ _ H4.out).mono ?_
  rintro e w5 ⟨rfl, h⟩
  have H5 := Lib.hid h
  clear h
  go_wp2_with fail
  refine (HC4.out _ _ H5.out).mono ?_
  rintro e w6 ⟨rfl, h⟩
  have H6 := Lib.hid h
  clear h
  go_wp2_with fail
  refine (HC5.out _ _ H6.out _ _ _ rfl rfl).mono ?_
  rintro e w7 ⟨rfl, h⟩
  have H7 := Lib.hid h
  clear h
  go_wp2_with fail
  refine (HC6.out _ _ H7.out).mono ?_
  rintro e w8 ⟨rfl, r, h⟩
  have H8 := Lib.hid h
  clear h
  go_wp2_with fail
  refine (HC7.out _ _ _ H8.out).mono ?_
  rintro e w9 ⟨rfl, h⟩
  have H9 := Lib.hid h
  clear h
  go_wp2_with fail
  refine (HAL.out _).mono ?_
  rintro e w10 ⟨rfl, h⟩
  have HBB := Lib.hid ((H9.out.below h).frame (B := w.heap.size) (Nat.le_refl _) (fun i hi hk => by unfold NewK at hk; omega))
  clear h
  go_wp2
  go_ret
  exact ⟨rfl, HBB.out⟩

set_option maxRecDepth 100000 in
theorem lifted (os : Os) (started : os.Started) (H : Type) (enc : TypeId × Value → H) :
    ReturnsInHanded {} Try.checked os 10 .any (Rows.diskSyncsSpec.pre6 enc Try.prog Try.f10 Rows.diskSyncsRow.domain false) (Rows.diskSyncsSpec.post enc Try.prog Try.f10 false true false false) := by
  refine returnsInHanded_of_change_sized (C := Try.checked) own started (by kernel_rfl) Try.func10
    (ChangeSpec.witness6 (enc := enc) (C := Try.checked) false ⟨#[], #[.string ByteArray.empty, .string ByteArray.empty, .int .i64 0], []⟩ 8 (by kernel_rfl) (by kernel_rfl) (by kernel_rfl) (by kernel_rfl)) ?_
  intro W base args ds gs before hval0 hW hcnd hsz0 _
  have hval : ∀ (j : Nat) t v, Try.f10.params[j]? = some t → args[j]? = some v → Value.okWide Try.prog W .any base t v := hval0
  have hW' := hW
  have hlt := hW.lt
  obtain ⟨p, q, hA0, hV, rfl, hfz, hnd⟩ := hW
  have hA : DataW.TrodAll enc Try.prog W 0 (fun _ => true) true Try.f10.params.toList args.toList ds p := hA0
  rw [Try.params10] at hA hval
  obtain ⟨v0, vs0, d0, ds0, p0, q0, hargs, rfl, rfl, h0, r0⟩ := trodAll_cons hA
  obtain ⟨v1, vs1, d1, ds1, p1, q1, rfl, rfl, rfl, h1, r1⟩ := trodAll_cons r0
  obtain ⟨v2, vs2, d2, ds2, p2, q2, rfl, rfl, rfl, h2, r2⟩ := trodAll_cons r1
  obtain ⟨rfl, rfl, rfl⟩ := trodAll_nil r2
  obtain rfl : args = #[v0, v1, v2] := by cases args; simp_all
  obtain ⟨rfl, rfl⟩ := trodVars_none hV
  obtain ⟨a0, rfl, e0, -, w0⟩ := open_string Try.underlying9 (hval 0 9 v0 rfl rfl) h0
  have z0 : a0.size ≤ 140737488351232 := sized_string hsz0 (j := 0) (t := 9) (by kernel_rfl) (by rw [e0]; rfl)
  obtain ⟨a1, rfl, e1, -, w1⟩ := open_string Try.underlying9 (hval 1 9 v1 rfl rfl) h1
  have z1 : a1.size ≤ 140737488351232 := sized_string hsz0 (j := 1) (t := 9) (by kernel_rfl) (by rw [e1]; rfl)
  obtain ⟨a2, rfl, -, -, w2⟩ := open_int Try.underlying3 (hval 2 3 v2 rfl rfl) h2
  refine (walk W a0 z0 a1 z1 a2 w2).mono fun e W' ⟨he, hb⟩ => ?_
  subst he
  exact ⟨_, rfl, law_post rfl hW' (fun ds h => by match ds, h with | [_, _, _], _ => rfl) (by kernel_rfl) (by kernel_rfl) (by kernel_rfl) hb⟩

theorem over : Rows.diskSyncsRow.holds Try.pinned (OpenSpec.ofChange Rows.diskSyncsSpec) :=
  OpenClaim.holds_of_wide 10 Try.f10 rfl rfl rfl rfl rfl rfl rfl ⟨rfl, rfl, rfl, rfl, rfl⟩ rfl rfl rfl rfl rfl (by kernel_rfl) Try.func10 (by kernel_rfl)
    (of_decide_eq_true (by kernel_rfl)) (by unfold Func.isWrapper; first | (rw [if_pos (by decide +kernel)]; kernel_rfl) | (rw [if_neg (by decide +kernel)]; exact ⟨rfl, rfl⟩))
    (fun os started H enc _ => lifted os started H enc)

theorem proved : Rows.DiskSyncsSaid := over
end Go.Proofs.Ytammmhbkfdmbfaa.diskSyncs
