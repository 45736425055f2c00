/- DiskSums: the bytes that are used are those of all files together; all files have right names, which rise: for every limit, row of ops and row of numbers. No condition. -/
import Derived.Test.YtammmhbkfdmbfaaU8
namespace Go.Proofs.Ytammmhbkfdmbfaa.diskSums
open Go.ChangeShapes Go.WideShapes Go.ChangeAt Go.RowKit
open Go.ChangeMaps (open_string shut_string)
set_option linter.unusedVariables false

def nameAt (L : List FileM) : Nat → Nm | 0 => [] | k + 1 => match L[k]? with | some f => f.name | none => []
theorem name_last {d : DiskM} (h : Ok d) {k : Nat} (hk : k < d.L.length) : Op.bytesLess d.L[k].name (nameAt d.L k) = false ∧ (d.L[k].name == nameAt d.L k) = false := by
  rw [bytesLess_lt]
  have hr := h.names _ (List.getElem_mem hk)
  cases k with
  | zero =>
    have hne : d.L[0].name ≠ [] := fun e => by rw [e] at hr; simp [rightN] at hr
    exact ⟨by simp [nameAt], by simpa [nameAt] using hne⟩
  | succ k =>
    have hlt : d.L[k].name < d.L[k + 1].name := List.pairwise_iff_getElem.1 h.rise k (k + 1) (by omega) hk (by omega)
    have e : nameAt d.L (k + 1) = d.L[k].name := by simp only [nameAt]; rw [List.getElem?_eq_getElem (by omega)]
    rw [e]
    refine ⟨decide_eq_false fun hx => nm_irrefl _ (nm_trans hlt hx), ?_⟩
    have := nm_ne hlt
    simp
    exact fun hx => this hx.symm
theorem name_next {L : List FileM} {k : Nat} (hk : k < L.length) : nameAt L (k + 1) = L[k].name := by simp only [nameAt]; rw [List.getElem?_eq_getElem hk]
set_option maxRecDepth 100000 in
set_option maxHeartbeats 4000000 in
theorem walk (w : World) (n : Int) (hn : (Lit.int .i64 n).wf = true) (a : Option Addr) (c : Nat) (l : List OpM) (hs : OpSl w a l) (hf : FitO l) (hm : l.length ≤ maxLen) (ka : Option Addr) (kc : Nat) (keep : List Int) (hks : Sl w ka (intV keep)) (hkl : keep.length ≤ kc) (hkm : kc ≤ maxLen) :
    Calls Try.prog 9 #[.int .i64 n, .slice a l.length c, .slice ka keep.length kc] w fun e w' => e = .returned (.bool true) ∧ Below w.heap.size w w' := by
  have HAL := Lib.hid alive_any
  have HFEW := Lib.hid (few_any a c l w hs hm hf)
  have hkk : keep.length ≤ 9223372036854775807 := by unfold maxLen at hkm; omega
  have HFB : Hid (fewB l = true → l.length ≤ 60) := fun h => by
    unfold fewB at h; rw [Bool.and_eq_true, decide_eq_true_eq, decide_eq_true_eq] at h; exact h.2
  have HMD : Hid (∀ W, fewB l = true → Below w.heap.size w W → Calls Try.prog 19 #[.int .i64 n, .slice a l.length c, .slice ka keep.length kc] W fun r w' => ∃ p a' c', r = .returned (.tuple #[.pointer (some ⟨p, 0, none⟩), refV a' c' (runM (newM n) l keep)]) ∧ Duo (fun _ => False) W w' p (runM (newM n) l keep) (runM (newM n) l keep) a') :=
    fun W h hb => made_any W n a c l (hs.below hb) hf (HFB.out h) ka kc keep (Sl.below hks hb) hkl hkm
  have HOK := Lib.hid (runM_ok n l hf keep)
  have HLN : Hid (fewB l = true → (runM (newM n) l keep).L.length ≤ 60) := fun h => Nat.le_trans (runM_len n l keep) (HFB.out h)
  clear hs hf hks hkl hkm hm HFB hn
  generalize runM (newM n) l keep = E at *
  generalize fewB l = FB at *
  generalize l.length = N at *
  generalize keep.length = M at *
  go_enter Try.func9, Try.ntmps9
  go_wp2_with fail
  refine (HFEW.out).mono ?_
  rintro e w1 ⟨rfl, hB1⟩
  have HB1 := Lib.hid hB1
  clear hB1 HFEW
  cases FB
  · go_wp2_with fail
    refine (HAL.out _).mono ?_
    rintro e w2 ⟨rfl, hB2⟩
    go_wp2
    go_ret
    exact ⟨rfl, HB1.out.trans (hB2.mono HB1.out.size)⟩
  by_cases h60 : 60 < M
  · go_wp2_with fail
    refine (HAL.out _).mono ?_
    rintro e w2 ⟨rfl, hB2⟩
    go_wp2
    go_ret
    exact ⟨rfl, HB1.out.trans (hB2.mono HB1.out.size)⟩
  have hlen := HLN.out rfl
  go_wp2_with fail
  refine (HMD.out _ trivial HB1.out).mono ?_
  rintro e w2 ⟨p, a2, c2, rfl, hD⟩
  have HL := Lib.hid (fun ob => (hD.liv).alloc ob)
  have HBW := Lib.hid (fun ob => HB1.out.trans ((hD.below.alloc hD.below.size ob).mono HB1.out.size))
  clear hD HMD HLN
  unfold refV
  go_wp2_with fail
  have HL2 := Lib.hid (HL.out (.cells #[.slice a2 E.L.length c2, .int .i64 E.limit, .int .i64 E.fuse, .int .i64 E.ops, .int .i64 E.reads, .bool E.down] 30))
  have HB2 := Lib.hid (HBW.out (.cells #[.slice a2 E.L.length c2, .int .i64 E.limit, .int .i64 E.fuse, .int .i64 E.ops, .int .i64 E.reads, .bool E.down] 30))
  clear HL HBW
  generalize (w2.alloc (.cells #[.slice a2 E.L.length c2, .int .i64 E.limit, .int .i64 E.fuse, .int .i64 E.ops, .int .i64 E.reads, .bool E.down] 30)) = W at *
  refine (liv_files HL2.out (by omega)).mono ?_
  rintro e w3 ⟨v, rfl, hown, hB3⟩
  obtain ⟨na, nc, rfl, _, _, hsl, _, _⟩ := own_slice hown
  have HNS := Lib.hid hsl
  have HL3 := Lib.hid (HL2.out.below hB3)
  have HB3 := Lib.hid (HB2.out.trans (hB3.mono HB2.out.size))
  have HU : Hid (usedL E.L ≤ 1073741824) := by have h1 := HOK.out.room; have h2 := HOK.out.most; unfold Hid; omega
  have HALL : Hid (usedL (E.L.take E.L.length) = usedL E.L) := by unfold Hid; rw [List.take_length]
  clear hown hB3 hsl HL2 HB2
  obtain ⟨Q, hQ⟩ : ∃ Q, Q = E.L.length := ⟨_, rfl⟩
  have HQ := Lib.hid hQ
  rw [← hQ] at HALL hlen ⊢
  clear hQ
  go_wp2
  go_loopw [9, 10, 36] (fun s t i wr => ∃ (k u : Nat) (T : ByteArray), k ≤ Q ∧ i = .int .i64 k ∧ s = .int .i64 (u : Int) ∧ t = .string T ∧ Hid (u = usedL (E.L.take k)) ∧ Hid (T = tx (nameAt E.L k)) ∧ Hid (Below w3.heap.size w3 wr)) (fun _ _ i _ => Q - (intOf i).toNat)
  case atStart => exact ⟨0, 0, ⟨#[]⟩, by omega, rfl, rfl, rfl, rfl, rfl, Below.refl _ _⟩
  case round =>
    obtain ⟨k, u, T, hk, rfl, rfl, rfl, HUK, HT, HB⟩ := hrel
    by_cases hlt : k < Q
    · have hkl : k < E.L.length := by have := HQ.out; omega
      obtain ⟨b, off, rfl, hbl, hc0⟩ := name_at hkl (Sl.below HNS.out HB.out)
      obtain ⟨t1, t2, t3, _⟩ := HOK.out.told hkl
      have hnm := HOK.out.names _ (List.getElem_mem hkl)
      have hnz : (tx E.L[k].name).size ≤ maxLen := by rw [tx_size]; have := right_len hnm; unfold maxLen; omega
      have HSZ := Lib.hid (liv_sizeB (tx E.L[k].name) hnz (HL3.out.below HB.out))
      have HLO := Lib.hid (fun W (hb : Below w3.heap.size w3 W) => liv_looseB (tx E.L[k].name) hnz (HL3.out.below hb))
      have HRT := Lib.hid (fun W => right_any (tx E.L[k].name) W hnz)
      rw [toL_tx] at HSZ HLO HRT
      rw [t1, t2] at HSZ
      rw [t3] at HLO
      rw [hnm] at HRT
      obtain ⟨n1, n2⟩ := name_last HOK.out hkl
      have m1 : Op.bytesLess (tx E.L[k].name).toList T.toList = false := by rw [HT.out, toList_tx, toList_tx]; exact n1
      have m2 : ((tx E.L[k].name).toList == T.toList) = false := by rw [HT.out, toList_tx, toList_tx]; exact n2
      have HTN : Hid (tx E.L[k].name = tx (nameAt E.L (k + 1))) := by unfold Hid; rw [name_next hkl]
      have HUN := used_succ hkl
      have hul := used_take E.L (k + 1)
      have hfl : E.L[k].bytes.length = E.L[k].safe.length + E.L[k].loose.length := by simp [FileM.bytes]
      have hus := HUK.out
      have hub := HU.out
      have hs1 : IntKind.i64.wrap ((u : Int) + (E.L[k].bytes.length : Int)) = ((u + E.L[k].bytes.length : Nat) : Int) := by rw [IntWalk.i64_in _ (by omega)]; omega
      have hll : ¬ ((E.L[k].loose.length : Int) < 0) := by omega
      have hlg : ¬ ((E.L[k].bytes.length : Int) < (E.L[k].loose.length : Int)) := by omega
      have HUN2 : Hid (u + E.L[k].bytes.length = usedL (E.L.take (k + 1))) := by unfold Hid; omega
      clear t1 t2 t3 hnm hnz n1 n2 HUN hul hfl hus hub HT HUK
      generalize tx E.L[k].name = nm at *
      generalize E.L[k].bytes.length = bl at *
      generalize E.L[k].loose.length = ll at *
      go_wp2_with fail
      refine (HSZ.out).mono ?_
      rintro e w4 ⟨rfl, h4⟩
      have HB4 : Hid (Below w3.heap.size w3 w4) := HB.out.trans (h4.mono HB.out.size)
      clear h4
      go_wp2_with fail
      refine (HRT.out _).mono ?_
      rintro e w5 ⟨rfl, rfl⟩
      go_wp2_with fail
      refine (HLO.out _ HB4.out).mono ?_
      rintro e w6 ⟨rfl, h6⟩
      have HB6 : Hid (Below w3.heap.size w3 w6) := HB4.out.trans (h6.mono HB4.out.size)
      clear h6
      go_wp2_with fail
      refine (HLO.out _ HB6.out).mono ?_
      rintro e w7 ⟨rfl, h7⟩
      have HB7 : Hid (Below w3.heap.size w3 w7) := HB6.out.trans (h7.mono HB6.out.size)
      clear h7
      go_wp2
      go_roundw
      case rel => exact ⟨k + 1, u + bl, nm, by omega, by go_num, rfl, rfl, HUN2.out, HTN.out, HB7.out⟩
      case measure => simp [intOf]; omega
    · obtain rfl : k = Q := by omega
      have hu : (u : Int) = (usedL E.L : Int) := by have h1 := HUK.out; have h2 := HALL.out; omega
      go_wp2_with fail
      refine (HAL.out _).mono ?_
      rintro e w4 ⟨rfl, h4⟩
      have HL4 := Lib.hid ((HL3.out.below HB.out).below h4)
      have HB4 := Lib.hid (HB3.out.trans ((HB.out.trans (h4.mono HB.out.size)).mono HB3.out.size))
      have HUS := Lib.hid (liv_used HL4.out)
      rw [← hu] at HUS
      clear h4 hu
      go_wp2_with fail
      refine (HUS.out).mono ?_
      rintro e w5 ⟨rfl, rfl⟩
      go_wp2
      go_ret
      exact ⟨rfl, HB4.out⟩

set_option maxRecDepth 100000 in
theorem lifted (os : Os) (started : os.Started) (H : Type) (enc : TypeId × Value → H) :
    ReturnsInHanded {} Try.checked os 9 .any (Rows.diskSumsSpec.pre6 enc Try.prog Try.f9 Rows.diskSumsRow.domain false) (Rows.diskSumsSpec.post enc Try.prog Try.f9 false true false false) := by
  refine returnsInHanded_of_change_sized (C := Try.checked) own started (by kernel_rfl) Try.func9
    (ChangeSpec.witness6 (enc := enc) (C := Try.checked) false ⟨#[], #[.int .i64 0, .slice none 0 0, .slice none 0 0], []⟩ 8 (by kernel_rfl) (by kernel_rfl) (by kernel_rfl) (by kernel_rfl)) ?_
  intro W base args ds gs before hval0 hW hcnd hsz0 _
  have hval : ∀ (j : Nat) t v, Try.f9.params[j]? = some t → args[j]? = some v → Value.okWide Try.prog W .any base t v := hval0
  have hW' := hW
  have hlt := hW.lt
  obtain ⟨p, q, hA0, hV, rfl, hfz, hnd⟩ := hW
  have hA : DataW.TrodAll enc Try.prog W 0 (fun _ => true) true Try.f9.params.toList args.toList ds p := hA0
  rw [Try.params9] at hA hval
  obtain ⟨v0, vs0, d0, ds0, p0, q0, hargs, rfl, rfl, h0, r0⟩ := trodAll_cons hA
  obtain ⟨v1, vs1, d1, ds1, p1, q1, rfl, rfl, rfl, h1, r1⟩ := trodAll_cons r0
  obtain ⟨v2, vs2, d2, ds2, p2, q2, rfl, rfl, rfl, h2, r2⟩ := trodAll_cons r1
  obtain ⟨rfl, rfl, rfl⟩ := trodAll_nil r2
  obtain rfl : args = #[v0, v1, v2] := by cases args; simp_all
  obtain ⟨rfl, rfl⟩ := trodVars_none hV
  obtain ⟨a0, rfl, -, -, w0⟩ := open_int Try.underlying3 (hval 0 3 v0 rfl rfl) h0
  obtain ⟨a1, c1, l1, rfl, s1, f1, m1⟩ := open_ops (hval 1 22 v1 rfl rfl) h1 (fun n hn => of_decide_eq_true (List.all_eq_true.1 hsz0 n (DataW.weights_mem_each (j := 1) (t := 22) (by kernel_rfl) rfl n hn)))
  obtain ⟨a2, c2, l2, rfl, s2, m2, n2⟩ := open_nums (hval 2 23 v2 rfl rfl) h2
  refine (walk W a0 w0 a1 c1 l1 s1 f1 m1 a2 c2 l2 s2 m2 n2).mono fun e W' ⟨he, hb⟩ => ?_
  subst he
  exact ⟨_, rfl, law_post rfl hW' (fun ds h => by match ds, h with | [_, _, _], _ => rfl) (by kernel_rfl) (by kernel_rfl) (by kernel_rfl) hb⟩

theorem over : Rows.diskSumsRow.holds Try.pinned (OpenSpec.ofChange Rows.diskSumsSpec) :=
  OpenClaim.holds_of_wide 9 Try.f9 rfl rfl rfl rfl rfl rfl rfl ⟨rfl, rfl, rfl, rfl, rfl⟩ rfl rfl rfl rfl rfl (by kernel_rfl) Try.func9 (by kernel_rfl)
    (of_decide_eq_true (by kernel_rfl)) (by unfold Func.isWrapper; first | (rw [if_pos (by decide +kernel)]; kernel_rfl) | (rw [if_neg (by decide +kernel)]; exact ⟨rfl, rfl⟩))
    (fun os started H enc _ => lifted os started H enc)

theorem proved : Rows.DiskSumsSaid := over
end Go.Proofs.Ytammmhbkfdmbfaa.diskSums
