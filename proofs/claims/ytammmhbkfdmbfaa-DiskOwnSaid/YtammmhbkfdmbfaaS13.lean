/- Contracts of layer 5: Read. -/
import Derived.Test.YtammmhbkfdmbfaaS12
import Derived.Lib.SlBytesRow
namespace Go.Proofs.Ytammmhbkfdmbfaa
open Go.RowKit
set_option linter.unusedVariables false

theorem conv_empty (a : Option Addr) (c : Nat) (W : World) : (convert 75 9 (.slice a 0 c)).run Try.prog W = .ok (.string (tx [])) W := by
  rw [run_convert_bytes_string W 75 9 5 a 0 c Try.underlying75 Try.underlying5 Try.underlying9]
  cases a with
  | none => rfl
  | some ad => rw [run_bytesToString W ad 0 c [] (by simp [loadCells, loadCellsFrom])]; rfl
theorem tx_get (l : Nm) (i : Nat) (h : i < (tx l).size) : (tx l)[i] = l[i]'(by rw [tx_size] at h; exact h) := by
  have e : (tx l)[i] = (tx l).data[i]'h := rfl
  rw [e]; simp [tx]
/-- a part of a row of bytes, as a text -/
theorem conv_part (W : World) (a : Option Addr) (l : Nm) (c j m : Nat) (hsl : Sl W a (bv l)) (hjm : j ≤ m) (hml : m ≤ l.length) (hlc : l.length ≤ c) :
    (convert 75 9 (sliced a j m c 1)).run Try.prog W = .ok (.string (tx ((l.drop j).take (m - j)))) W := by
  unfold sliced
  by_cases hz : m = j
  · subst hz
    rw [Nat.sub_self, List.take_zero]
    exact conv_empty _ _ W
  · obtain ⟨b, off, rfl, _, _⟩ := hsl j (by rw [bv_len]; omega)
    rw [if_neg (by omega)]
    have hs : (tx ((l.drop j).take (m - j))).size = m - j := by rw [tx_size, List.length_take, List.length_drop]; omega
    have h := Lib.run_convert_whole (P := Try.prog) W 75 5 9 Try.underlying75 Try.underlying5 Try.underlying9 b (off + j) (tx ((l.drop j).take (m - j))) (fun i hi => by
      rw [hs] at hi
      obtain ⟨b', off', e, _, hc⟩ := hsl (j + i) (by rw [bv_len]; omega)
      cases e
      rw [Nat.add_assoc, hc]
      rw [tx_get]
      simp [bv]) (c - j)
    rw [hs] at h
    simp only [Option.map_some, Nat.mul_one]
    rw [Go.WideShapes.add_plain]
    exact h
theorem sizeB (W : World) : (sizeOf (Try.prog.elem 75)).run Try.prog W = .ok 1 W := by kernel_rfl
theorem slice_part (a : Option Addr) (n c j m : Nat) (hjm : j ≤ m) (hmc : m ≤ c) (W : World) :
    (Instr.slice 75 (.slice a n c) (some (.int .i64 (j : Int))) (some (.int .i64 (m : Int))) none).run Try.prog W = .ok (sliced a j m c 1) W := by
  have := run_slice_lh (P := Try.prog) W 75 a n c (by kernel_rfl) .i64 .i64 (j : Int) (m : Int) (by omega) (by omega) (by omega)
  rw [this, sizeB]
  show Result.ok (sliced a ((j : Int)).toNat ((m : Int)).toNat c 1) W = _
  rw [Int.toNat_natCast, Int.toNat_natCast]

theorem Row.sl {w : World} {f : FileM} {a : Option Addr} {c : Nat} (h : Row w (f, .slice a f.bytes.length c)) : Sl w a (bv f.bytes) := by
  obtain ⟨a', c', e, _, _, h, _⟩ := h.shape
  cases e
  exact h
set_option maxRecDepth 100000 in
set_option maxHeartbeats 2000000 in
theorem read_any (s : ByteArray) (hs : s.size ≤ maxLen) (x : Int) (w : World) (p : Nat) (S : Nat → Prop) (d : DiskM) (hok : Ok d) (h : DiskAt w p S d) :
    Calls Try.prog 20 #[pt p, .string s, .int .i64 x] w fun e w' => e = .returned (.tuple #[.string (tx (readT d (toL s) x)), .int .i64 (readE d (toL s) x)]) ∧ DiskAt w' p (Grow S w w') (readD d (toL s) x) ∧ Kept S w w' := by
  have HD := Lib.hid h
  have hl0 := h.lt
  obtain ⟨b, F, hr, hp⟩ := h
  have hc2 := hr.cells.2.2.1
  have hc4 : w.cell? ⟨p, 4, none⟩ = some (.int .i64 d.reads) := hr.cells.2.2.2.2.1
  have hc6 : w.cell? ⟨p, 6, none⟩ = some (.bool d.down) := hr.cells.2.2.2.2.2.2
  have hf4 := hr.free 4
  have hlk := hr.fs.look_ok hs
  have hbp := hr.lt p hr.sp
  have HSP := Lib.hid hr.sp
  have HB : ∀ o : Obj, Hid (Below w.heap.size w (w.alloc o)) := fun o => (Below.refl _ w).alloc (Nat.le_refl _) o
  have HE0 : Hid (readE d (toL s) x ≠ 0 → readT d (toL s) x = [] ∧ readD d (toL s) x = d) := fun h => ⟨by rw [readT, if_pos h], by rw [readD, if_pos h]⟩
  by_cases hdn : d.down = true
  · have HE : Hid (readE d (toL s) x = 50) := by unfold Hid readE; rw [if_pos hdn]
    obtain ⟨et, ed⟩ := HE0.out (by rw [HE.out]; decide)
    rw [et, ed, HE.out]
    rw [hdn] at hc6
    rcases hr.find hp (toL s) with ⟨h1, h2⟩ | ⟨f, a, c, h1, _, _, h2, h3, h4, _⟩
    all_goals
      rw [h2] at hlk
      simp only [Option.getD_none, Option.isSome_none, Option.getD_some, Option.isSome_some, cv] at hlk
      clear h1 h2 hr HE0 HE et ed
      go_enter Try.func20, Try.ntmps20
      go_wp2
      go_ret2
      exact ⟨rfl, (HD.out.below (HB _).out).grow (HB _).out.size, Kept.of_below (HB _).out S⟩
  have hdn' : d.down = false := by simpa using hdn
  rw [hdn'] at hc6
  rcases hr.find hp (toL s) with ⟨h1, h2⟩ | ⟨f, a, c, h1, hmem, _, h2, h3, h4, hsl, hnil⟩
  · have HE : Hid (readE d (toL s) x = 51) := by unfold Hid readE; rw [if_neg hdn, h1]
    obtain ⟨et, ed⟩ := HE0.out (by rw [HE.out]; decide)
    rw [et, ed, HE.out]
    rw [h2] at hlk
    simp only [Option.getD_none, Option.isSome_none, cv] at hlk
    clear h1 h2 hr HE0 HE et ed
    go_enter Try.func20, Try.ntmps20
    go_wp2
    go_ret2
    exact ⟨rfl, (HD.out.below (HB _).out).grow (HB _).out.size, Kept.of_below (HB _).out S⟩
  rw [h2] at hlk
  simp only [Option.getD_some, Option.isSome_some, cv] at hlk
  have hRE : readE d (toL s) x = if x < 0 ∨ (f.bytes.length : Int) < x then 1 else 0 := by unfold readE; rw [if_neg hdn, h1]
  by_cases hx0 : x < 0
  · have HE : Hid (readE d (toL s) x = 1) := by unfold Hid; rw [hRE, if_pos (.inl hx0)]
    obtain ⟨et, ed⟩ := HE0.out (by rw [HE.out]; decide)
    rw [et, ed, HE.out]
    clear h1 h2 hr HE0 HE et ed hRE
    generalize f.bytes.length = n at *
    generalize f.safe.length = k at *
    go_enter Try.func20, Try.ntmps20
    go_wp2
    go_ret2
    exact ⟨rfl, (HD.out.below (HB _).out).grow (HB _).out.size, Kept.of_below (HB _).out S⟩
  by_cases hx1 : (f.bytes.length : Int) < x
  · have HE : Hid (readE d (toL s) x = 1) := by unfold Hid; rw [hRE, if_pos (.inr hx1)]
    obtain ⟨et, ed⟩ := HE0.out (by rw [HE.out]; decide)
    rw [et, ed, HE.out]
    clear h1 h2 hr HE0 HE et ed hRE
    generalize f.bytes.length = n at *
    generalize f.safe.length = k at *
    go_enter Try.func20, Try.ntmps20
    go_wp2
    go_ret2
    exact ⟨rfl, (HD.out.below (HB _).out).grow (HB _).out.size, Kept.of_below (HB _).out S⟩
  have HE : readE d (toL s) x = 0 := by rw [hRE, if_neg (by omega)]
  have ET : readT d (toL s) x = (f.bytes.drop x.toNat).take 64 := by rw [readT, if_neg (by rw [HE]; decide), h1]
  have ED : readD d (toL s) x = { d with reads := IntKind.i64.wrap (d.reads + 1) } := by rw [readD, if_neg (by rw [HE]; decide)]
  rw [HE, ET, ED]
  obtain ⟨j, rfl⟩ : ∃ j : Nat, x = j := ⟨x.toNat, by omega⟩
  rw [Int.toNat_natCast]
  have hbl := ok_len hok (getL_some h1).1
  unfold maxLen at h4
  have hw : IntKind.i64.wrap ((j : Int) + 64) = j + 64 := IntWalk.i64_in _ (by omega)
  have HSL := Lib.hid hsl
  have HRR := Lib.hid hr
  have HLC := Lib.hid h3
  generalize hre : IntKind.i64.wrap (d.reads + 1) = rd at *
  have hBS : ∀ o : Obj, Kept S w ((w.setCell ⟨p, 4, none⟩ (.int .i64 rd)).alloc o) := fun o => ((Kept.refl S w).setCell (.inl hr.sp) 4 _).alloc o
  have HBS := Lib.hid hBS
  have HRS : Hid (∀ o : Obj, DiskRaw ((w.setCell ⟨p, 4, none⟩ (.int .i64 rd)).alloc o) p b S { d.meta_ with reads := rd } F) := fun o => (hr.setReads rd).below ((Below.refl _ _).alloc (Nat.le_refl _) o)
  have HDS : Hid (∀ o : Obj, DiskAt ((w.setCell ⟨p, 4, none⟩ (.int .i64 rd)).alloc o) p (Grow S w ((w.setCell ⟨p, 4, none⟩ (.int .i64 rd)).alloc o)) { d with reads := rd }) := fun o =>
    DiskAt.grow ⟨b, F, HRS.out o, hp⟩ (hBS o).size
  have HSS : Hid (∀ o : Obj, Sl ((w.setCell ⟨p, 4, none⟩ (.int .i64 rd)).alloc o) a (bv f.bytes)) := fun o => ((HRS.out o).own _ hmem).1.sl
  clear hBS hsl hr HRS hp h1 h2 hRE HE0 HE ET ED HD HRR hmem
  generalize ({ d with reads := rd } : DiskM) = d2 at HDS ⊢
  by_cases hm : j + 64 < f.bytes.length
  · have hcv := fun o => conv_part _ a f.bytes c j (j + 64) (HSS.out o) (by omega) (by omega) h3
    unfold sliced at hcv
    rw [show j + 64 - j = 64 by omega, if_neg (by omega), Nat.mul_one] at hcv
    have hmin : min ((j : Int) + 64) (f.bytes.length : Int) = (j : Int) + 64 := by omega
    generalize hT : tx ((f.bytes.drop j).take 64) = T at *
    generalize f.bytes.length = n at *
    generalize hkk : f.safe.length = k at *
    have hcv1 := hcv (.cells #[.slice a n c, .int .i64 (k : Int)] 77)
    clear hcv HSS hT hkk
    go_enter Try.func20, Try.ntmps20
    go_wp2
    go_ret2
    exact ⟨rfl, HDS.out _, HBS.out _⟩
  · have hmin : min ((j : Int) + 64) (f.bytes.length : Int) = (f.bytes.length : Int) := by omega
    by_cases hjn : j = f.bytes.length
    · have hT : (f.bytes.drop j).take 64 = [] := by rw [List.drop_eq_nil_of_le (by omega)]; rfl
      rw [hT]
      have hcv := fun a c W => conv_empty a c W
      subst hjn
      clear HSS hT
      generalize f.bytes.length = n at *
      generalize hkk : f.safe.length = k at *
      clear hkk
      go_enter Try.func20, Try.ntmps20
      go_wp2
      all_goals
        go_ret2
        exact ⟨rfl, HDS.out _, HBS.out _⟩
    · have hcv := fun o => conv_part _ a f.bytes c j f.bytes.length (HSS.out o) (by omega) (by omega) h3
      unfold sliced at hcv
      rw [if_neg (by omega), Nat.mul_one] at hcv
      have hT2 : (f.bytes.drop j).take (f.bytes.length - j) = (f.bytes.drop j).take 64 := by
        rw [List.take_of_length_le (by rw [List.length_drop]; omega), List.take_of_length_le (by rw [List.length_drop]; omega)]
      rw [hT2] at hcv
      generalize hT : tx ((f.bytes.drop j).take 64) = T at *
      generalize f.bytes.length = n at *
      generalize hkk : f.safe.length = k at *
      have hcv1 := hcv (.cells #[.slice a n c, .int .i64 (k : Int)] 77)
      clear hcv HSS hT hkk hT2
      go_enter Try.func20, Try.ntmps20
      go_wp2
      all_goals
        go_ret2
        exact ⟨rfl, HDS.out _, HBS.out _⟩
end Go.Proofs.Ytammmhbkfdmbfaa
