/- Layer 6: Read, contract: any text. -/
import Derived.Test.YtollhemkjnkalaaGreatDoorK3
import Derived.Test.YtollhemkjnkalaaGreatDoorK6
namespace Go.Proofs.YtollhemkjnkalaaGreatDoor
open Go.RowKit Go.Shelf
set_option linter.unusedVariables false
set_option maxRecDepth 100000

theorem infoEvent : (Tryz.prog.info? 40).map (fun i => (i.zero, i.size, i.bytes)) = some (some (.agg #[.int .i64 0, .int .i64 0, .string ⟨#[]⟩, .string ⟨#[]⟩, .int .i64 0, .int .i64 0]), 6, 64) := by kernel_rfl
/-- an event in a block of its own -/
def evO (e : EvM) : Obj := .cells #[.int .i64 e.kind, .int .i64 e.at_, .string e.user, .string e.other, .int .i64 e.n, .int .i64 e.status] 40
theorem nextL_small {s : List UInt8} {k : UInt8} {b : List UInt8} (h : nextL s = .ok k b) : b.length ≤ 2000 ∧ 14 + b.length ≤ s.length := ⟨(packE_zero (nextL_inv h).1).2.1, (nextL_inv h).2.2⟩

set_option maxHeartbeats 4000000 in
theorem eread_any (s : ByteArray) (hs : s.size ≤ 1000000) (w : World) (hp : Pow10 w) (hm : MaxIs w) :
    Calls Tryz.prog 11 #[.string s] w fun r w' => ∃ (v : Value) (l : List EvM) (n : Nat), r = .returned (.tuple #[v, .int .i64 (n : Int)]) ∧ EvReads (toL s) l n ∧ w'.ownsRow w.heap.size 40 6 v l.length (evs l) ∧ l.length * 14 ≤ n ∧ n ≤ s.size ∧ Below w.heap.size w w' := by
  obtain ⟨i0, hi, hz0, hz1, hz2⟩ := info_parts infoEvent
  have HN := Lib.hid (fun t (ht : t.size ≤ 1000000000000000000) W => next_any t ht W)
  have HOF := Lib.hid (fun k (b : ByteArray) hb W (h : Below w.heap.size w W) => of_any k b hb W (hp.below h) (hm.below h))
  clear hp hm
  go_enter Tryz.func11, Tryz.ntmps11
  go_wp2
  go_loopw [4, 5] (fun v i wr => ∃ (a : Nat) (l : List EvM), a ≤ s.size ∧ l.length * 14 ≤ a ∧ i = .int .i64 a ∧ Hid (EvGo (toL s) l a) ∧ Hid (wr.ownsRow w.heap.size 40 6 v l.length (evs l)) ∧ Hid (Below w.heap.size w wr)) (fun _ i _ => s.size - (intOf i).toNat)
  case atStart => exact ⟨0, [], by omega, by simp, rfl, EvGo.start _, ⟨rfl, .inl ⟨rfl, rfl⟩⟩, Below.refl _ _⟩
  case round =>
    obtain ⟨a, l, ha, hla, rfl, HR, HO, HB⟩ := hrel
    have HC := Lib.hid (fun W => HN.out (s.extract a s.size) (by rw [extract_size]; omega) W)
    rw [toL_from] at HC
    have hsl := slice_from s a ha
    generalize s.extract a s.size = T at *
    unfold NR.val frV at HC
    go_wp2_with fail
    refine (HC.out _).mono ?_
    rintro e w1 ⟨rfl, hB1⟩
    have HO1 := Lib.hid (own_below HO.out hB1)
    have HB1 : Hid (Below w.heap.size w w1) := HB.out.trans (hB1.mono HB.out.size)
    clear hB1 HB HO HC hsl
    rcases hx : nextL ((toL s).drop a) with E | ⟨k, b⟩
    · have hE : E ≠ 0 := by
        rcases nextL_cases ((toL s).drop a) with ⟨e, he, h2⟩ | ⟨_, _, _, h2⟩
        · rw [hx] at h2; injection h2 with h3; omega
        · rw [hx] at h2; cases h2
      have hne : ((E : Int) == 0) = false := beq_eq_false_iff_ne.2 (by omega)
      have HD := Lib.hid (HR.out.err hx)
      have HBA : Hid (Below w.heap.size w (w1.alloc (.cells #[.int .u8 0, .string ⟨#[]⟩] 42))) := HB1.out.alloc HB1.out.size _
      have HOA := Lib.hid (own_below HO1.out ((Below.refl w1.heap.size w1).alloc (Nat.le_refl _) (.cells #[.int .u8 0, .string ⟨#[]⟩] 42)))
      simp only [NR.kind, NR.body, NR.long, NR.code]
      clear hx HR
      go_wp2
      go_ret2
      exact ⟨_, l, a, rfl, HD.out, HOA.out, hla, ha, HBA.out⟩
    · obtain ⟨hb1, hb2⟩ := nextL_small hx
      rw [List.length_drop, toL_length] at hb2
      simp only [NR.kind, NR.body, NR.long, NR.code]
      have HG := Lib.hid (fun hf => HR.out.no hx hf)
      have HR2 := Lib.hid (fun hf => HR.out.next hx hf)
      clear hx HR
      have hkb : 0 ≤ (k.toNat : Int) ∧ (k.toNat : Int) ≤ 255 := ⟨by omega, by have := k.toNat_lt; omega⟩
      have HBA : Hid (Below w.heap.size w (w1.alloc (.cells #[.int .u8 (k.toNat : Int), .string (tx b)] 42))) := HB1.out.alloc HB1.out.size _
      have HOA := Lib.hid (own_below HO1.out ((Below.refl w1.heap.size w1).alloc (Nat.le_refl _) (.cells #[.int .u8 (k.toNat : Int), .string (tx b)] 42)))
      have HCO := Lib.hid (HOF.out k (tx b) (by rw [tx_size]; omega) _ HBA.out)
      unfold frW evV at HCO
      go_wp2_with fail
      refine (HCO.out).mono ?_
      rintro e w2 ⟨rfl, hB2⟩
      have HO2 := Lib.hid (own_below HOA.out hB2)
      have HB2 : Hid (Below w.heap.size w w2) := HBA.out.trans (hB2.mono HBA.out.size)
      clear hB2 HO1 HB1 HOA HBA HCO
      generalize hx : ofE k (tx b) = x at *
      cases hf : isF k (tx b) with
      | false =>
        have HD := Lib.hid (HG.out hf)
        have HO3 := Lib.hid (own_below HO2.out ((Below.refl w2.heap.size w2).alloc (Nat.le_refl _) (evO x)))
        have HB3 : Hid (Below w.heap.size w (w2.alloc (evO x))) := HB2.out.alloc HB2.out.size _
        unfold evO at HO3 HB3
        clear HR2 HG hf
        go_wp2
        go_ret2
        exact ⟨_, l, a, rfl, HD.out, HO3.out, hla, ha, HB3.out⟩
      | true =>
        have HRR := Lib.hid (HR2.out hf)
        have HO3 := Lib.hid (own_below HO2.out (below_two w2 (evO x) (evO x)))
        have HB3 : Hid (Below w.heap.size w ((w2.alloc (evO x)).alloc (evO x))) := HB2.out.trans ((below_two _ _ _).mono HB2.out.size)
        have HS3 := Lib.hid HB3.out.size
        unfold evO at HO3 HB3 HS3
        clear HR2 HG hf
        go_wp2_with (at_builtin; refine wpList_append_own _ rfl (.tmp 32) (.tmp 34) 25 rfl w.heap.size 40 i0 _ 6 64 Tryz.underlying25 hi hz0 hz1 hz2 rfl (by decide) _ _ _ rfl HO3.out ⟨w2.heap.size + 1, 0, none⟩ 1 1 [.int .i64 x.kind, .int .i64 x.at_, .string x.user, .string x.other, .int .i64 x.n, .int .i64 x.status] rfl rfl (news_at _ _ _ _ (size1 _ _).symm) (six_cells x) (by unfold maxLen; omega) (by omega) HS3.out ?_; intro v' w4 hown' hgrow hiff)
        have HB4 := Lib.hid (app_below HB3.out HS3.out HO3.out hgrow)
        have HO4 := Lib.hid hown'
        clear hown' hgrow hiff HB3 HS3 HO3
        go_wp2
        go_roundw
        case rel => exact ⟨a + (14 + b.length), l ++ [x], by omega, by rw [List.length_append]; simp; omega, by go_num, HRR, (by unfold Hid; rw [List.length_append, evs_snoc]; exact HO4.out), HB4⟩
        case measure => simp [intOf]; omega
end Go.Proofs.YtollhemkjnkalaaGreatDoor
