/- Layer 6: the words of an event. -/
import Derived.Test.YtollhemkjnkalaaGreatDoorJ4
import Derived.Test.YtollhemkjnkalaaGreatDoorD10
import Derived.Lib.LaidTab
import Derived.Stop.LaidErr
import Derived.Shelf.Unicode.PredsPay
namespace Go.Proofs.YtollhemkjnkalaaGreatDoor
open Go.RowKit Go.Shelf
set_option linter.unusedVariables false
set_option maxRecDepth 100000

def Pow10 (w : World) : Prop := Lib.TabIs Tryz.prog w "internal/strconv.uint64pow10" .u64 Lib.pow10Tab
theorem Pow10.below {w w' : World} (h : Pow10 w) (hb : Below w.heap.size w w') : Pow10 w' := TabIs_below (g := Tryz.laysItoa_ren.g 17) (by kernel_rfl) h hb
/-- the words of an event whose fields these are -/
def wordsS (s : ShM) (e : EvM) : List ByteArray := [tx (decOf e.at_)] ++ (if s.user then [e.user] else []) ++ (if s.other then [e.other] else []) ++ (if 0 < s.n1 then [tx (decOf e.n)] else []) ++ (if 0 < s.s1 then [tx (decOf e.status)] else [])
def wordsE (e : EvM) : List ByteArray := wordsS (shK e.kind) e
def I64 (n : Int) : Prop := -9223372036854775808 ≤ n ∧ n ≤ 9223372036854775807
structure EInts (e : EvM) : Prop where
  at_ : I64 e.at_
  n : I64 e.n
  status : I64 e.status
/-- what the words are told as -/
def GivesWords (w : World) (L : List ByteArray) (r : Ending) (w' : World) : Prop := ∃ a c, r = .returned (.slice a L.length c) ∧ L.length ≤ c ∧ Sl w' a (strs L) ∧ Below w.heap.size w w'
set_option maxHeartbeats 4000000 in
theorem words_1 (e : EvM) (hsh : shK e.kind = ⟨true, false, 1, 999, 1, 4⟩) (hi : EInts e) (w : World) (hp : Pow10 w) : Calls Tryz.prog 30 #[evV e] w (GivesWords w (wordsS ⟨true, false, 1, 999, 1, 4⟩ e)) := by
  obtain ⟨i0, hi0, hz0, hz1, hz2⟩ := info_parts Tryz.infoStr
  have HSH := Lib.hid (fun W => shapeOf_any e.kind W)
  rw [hsh] at HSH
  have HDA := Lib.hid (fun W (h : Pow10 W) => dec_any e.at_ hi.at_.1 hi.at_.2 W h)
  have HDN := Lib.hid (fun W (h : Pow10 W) => dec_any e.n hi.n.1 hi.n.2 W h)
  have HDS := Lib.hid (fun W (h : Pow10 W) => dec_any e.status hi.status.1 hi.status.2 W h)
  have HP := Lib.hid (fun W (h : Below w.heap.size w W) => hp.below h)
  have HWS : Hid (wordsS ⟨true, false, 1, 999, 1, 4⟩ e = [tx (decOf e.at_)] ++ [e.user] ++ [] ++ [tx (decOf e.n)] ++ [tx (decOf e.status)]) := by simp [Hid, wordsS]
  have HE : Hid (∀ W, Below (w.alloc (.cells #[.int .i64 e.kind, .int .i64 e.at_, .string e.user, .string e.other, .int .i64 e.n, .int .i64 e.status] 40)).heap.size (w.alloc (.cells #[.int .i64 e.kind, .int .i64 e.at_, .string e.user, .string e.other, .int .i64 e.n, .int .i64 e.status] 40)) W → W.heap[w.heap.size]? = some (.cells #[.int .i64 e.kind, .int .i64 e.at_, .string e.user, .string e.other, .int .i64 e.n, .int .i64 e.status] 40 (0, 0)) ∧ Below w.heap.size w W) := fun W hb => ⟨(hb.block _ (by rw [size1]; omega)).trans (heap_alloc_new w _), ((Below.refl _ _).alloc (Nat.le_refl _) _).trans (hb.mono (by rw [size1]; omega))⟩
  unfold evV shV at *
  clear hi hp hsh
  generalize wordsS ⟨true, false, 1, 999, 1, 4⟩ e = WS at *
  generalize tx (decOf e.at_) = ta at *
  generalize tx (decOf e.n) = tn at *
  generalize tx (decOf e.status) = ts at *
  go_enter Tryz.func30, Tryz.ntmps30
  go_wp2_with fail
  refine (HSH.out _).mono ?_
  rintro r w1 ⟨rfl, h1⟩
  have HE1 := Lib.hid (HE.out _ h1)
  have hsz : w.heap.size < w1.heap.size := (Array.getElem?_eq_some_iff.1 HE1.out.1).1
  have HXB := Lib.hid (fun o => heap_alloc_new w1 o)
  have HEB := Lib.hid (fun o => (Below.heap_alloc w1 o _ hsz).trans HE1.out.1)
  have HBW := Lib.hid (fun o => HE1.out.2.alloc HE1.out.2.size o)
  clear h1
  have hx0 := HXB.out (.cells #[.bool true, .bool false, .int .i64 1, .int .i64 999, .int .i64 1, .int .i64 4] 81)
  have he0 := HEB.out (.cells #[.bool true, .bool false, .int .i64 1, .int .i64 999, .int .i64 1, .int .i64 4] 81)
  have hb0 := HBW.out (.cells #[.bool true, .bool false, .int .i64 1, .int .i64 999, .int .i64 1, .int .i64 4] 81)
  have hX : w1.heap.size < (w1.alloc (.cells #[.bool true, .bool false, .int .i64 1, .int .i64 999, .int .i64 1, .int .i64 4] 81)).heap.size := by rw [size1]; omega
  have HSS : Hid (∀ W, Below (w1.alloc (.cells #[.bool true, .bool false, .int .i64 1, .int .i64 999, .int .i64 1, .int .i64 4] 81)).heap.size (w1.alloc (.cells #[.bool true, .bool false, .int .i64 1, .int .i64 999, .int .i64 1, .int .i64 4] 81)) W → W.cell? ⟨w.heap.size, 0, none⟩ = some (.int .i64 e.kind) ∧ W.cell? ⟨w.heap.size, 1, none⟩ = some (.int .i64 e.at_) ∧ W.cell? ⟨w.heap.size, 2, none⟩ = some (.string e.user) ∧ W.cell? ⟨w.heap.size, 3, none⟩ = some (.string e.other) ∧ W.cell? ⟨w.heap.size, 4, none⟩ = some (.int .i64 e.n) ∧ W.cell? ⟨w.heap.size, 5, none⟩ = some (.int .i64 e.status) ∧ W.cell? ⟨w1.heap.size, 0, none⟩ = some (.bool true) ∧ W.cell? ⟨w1.heap.size, 1, none⟩ = some (.bool false) ∧ W.cell? ⟨w1.heap.size, 2, none⟩ = some (.int .i64 1) ∧ W.cell? ⟨w1.heap.size, 3, none⟩ = some (.int .i64 999) ∧ W.cell? ⟨w1.heap.size, 4, none⟩ = some (.int .i64 1) ∧ W.cell? ⟨w1.heap.size, 5, none⟩ = some (.int .i64 4)) := fun W hb => by
    obtain ⟨q0, q1, q2, q3, q4, q5⟩ := (cells6 ((hb.block w.heap.size (by omega)).trans he0)).1
    exact ⟨q0, q1, q2, q3, q4, q5, (cells6 ((hb.block w1.heap.size hX).trans hx0)).1⟩
  have HBB : Hid (∀ W, Below (w1.alloc (.cells #[.bool true, .bool false, .int .i64 1, .int .i64 999, .int .i64 1, .int .i64 4] 81)).heap.size (w1.alloc (.cells #[.bool true, .bool false, .int .i64 1, .int .i64 999, .int .i64 1, .int .i64 4] 81)) W → Below w.heap.size w W) := fun W hb => hb0.trans (hb.mono hb0.size)
  have HB0 : Hid (Below (w1.alloc (.cells #[.bool true, .bool false, .int .i64 1, .int .i64 999, .int .i64 1, .int .i64 4] 81)).heap.size (w1.alloc (.cells #[.bool true, .bool false, .int .i64 1, .int .i64 999, .int .i64 1, .int .i64 4] 81)) (w1.alloc (.cells #[.bool true, .bool false, .int .i64 1, .int .i64 999, .int .i64 1, .int .i64 4] 81))) := Below.refl _ _
  have HXZ : Hid (∀ W, Below (w1.alloc (.cells #[.bool true, .bool false, .int .i64 1, .int .i64 999, .int .i64 1, .int .i64 4] 81)).heap.size (w1.alloc (.cells #[.bool true, .bool false, .int .i64 1, .int .i64 999, .int .i64 1, .int .i64 4] 81)) W → w1.heap.size < W.heap.size ∧ w.heap.size < W.heap.size) := fun W hb => by have := hb.size; omega
  clear HXB HEB HBW HE1 HE HSH hx0 he0 hb0 hX hsz
  obtain ⟨c0, c1, c2, c3, c4, c5, d0, d1, d2, d3, d4, d5⟩ := HSS.out _ HB0.out
  go_wp2_with fail
  clear c0 c1 c2 c3 c4 c5 d0 d1 d2 d3 d4 d5
  generalize w1.heap.size = X at *
  generalize (w1.alloc (.cells #[.bool true, .bool false, .int .i64 1, .int .i64 999, .int .i64 1, .int .i64 4] 81)) = W0 at *
  refine (HDA.out _ (HP.out _ (HBB.out _ HB0.out))).mono ?_
  rintro r w2 ⟨rfl, k2⟩
  have HB2 : Hid (Below W0.heap.size W0 w2) := k2
  obtain ⟨c0, c1, c2, c3, c4, c5, d0, d1, d2, d3, d4, d5⟩ := HSS.out _ HB2.out
  obtain ⟨hx, hez⟩ := HXZ.out _ HB2.out
  have HB3 := Lib.hid (HB2.out.alloc HB2.out.size (.cells #[.string ta] 9))
  have HO3 := Lib.hid (World.ownsRow_lit (base := W0.heap.size) (e := 9) (size := 1) w2 #[.string ta] 1 HB2.out.size (by unfold maxLen; omega) rfl)
  clear k2
  have HOA3 := Lib.hid (fun o => HO3.out.alloc o)
  have HBA3 := Lib.hid (fun o => HB3.out.alloc HB3.out.size o)
  go_wp2_with (at_builtin; refine wpList_append_own _ rfl (.tmp 18) (.tmp 21) 73 rfl W0.heap.size 9 i0 (.string ⟨#[]⟩) 1 16 Tryz.underlying73 hi0 hz0 hz1 hz2 rfl (by decide) _ 1 _ rfl (HOA3.out _) ⟨_, 0, none⟩ 1 1 [.string e.user] rfl rfl (news_at _ _ _ _ (by first | rfl | exact (size1 _ _).symm | (simp; done))) (by intro u hu; simp at hu; subst hu; rfl) (by unfold maxLen; omega) (by omega) (HBA3.out _).size ?_; intro v4 w4 hown hgrow _; have HB4 := Lib.hid (app_below (HBA3.out _) (HBA3.out _).size (HOA3.out _) hgrow); have HO4 := Lib.hid hown; clear hown hgrow; obtain ⟨hx, hez⟩ := HXZ.out _ HB4.out; obtain ⟨c0, c1, c2, c3, c4, c5, d0, d1, d2, d3, d4, d5⟩ := HSS.out _ HB4.out)
  go_wp2_with fail
  refine (some_any _ _ _).mono ?_
  rintro r w5 ⟨rfl, k5⟩
  have HB5 := Lib.hid (HB4.out.trans (k5.mono HB4.out.size))
  have HO5 := Lib.hid (own_below HO4.out k5)
  clear k5
  obtain ⟨hx, hez⟩ := HXZ.out _ HB5.out
  obtain ⟨c0, c1, c2, c3, c4, c5, d0, d1, d2, d3, d4, d5⟩ := HSS.out _ HB5.out
  go_wp2_with fail
  refine (HDN.out _ (HP.out _ (HBB.out _ HB5.out))).mono ?_
  rintro r w6 ⟨rfl, k6⟩
  have HB6 := Lib.hid (HB5.out.trans (k6.mono HB5.out.size))
  have HO6 := Lib.hid (own_below HO5.out k6)
  clear k6
  obtain ⟨hx, hez⟩ := HXZ.out _ HB6.out
  obtain ⟨c0, c1, c2, c3, c4, c5, d0, d1, d2, d3, d4, d5⟩ := HSS.out _ HB6.out
  have HOA6 := Lib.hid (fun o => HO6.out.alloc o)
  have HBA6 := Lib.hid (fun o => HB6.out.alloc HB6.out.size o)
  go_wp2_with (at_builtin; refine wpList_append_own _ rfl (.tmp 33) (.tmp 37) 73 rfl W0.heap.size 9 i0 (.string ⟨#[]⟩) 1 16 Tryz.underlying73 hi0 hz0 hz1 hz2 rfl (by decide) _ 2 _ rfl (HOA6.out _) ⟨_, 0, none⟩ 1 1 [.string tn] rfl rfl (news_at _ _ _ _ (by first | rfl | exact (size1 _ _).symm | (simp; done))) (by intro u hu; simp at hu; subst hu; rfl) (by unfold maxLen; omega) (by omega) (HBA6.out _).size ?_; intro v7 w7 hown hgrow _; have HB7 := Lib.hid (app_below (HBA6.out _) (HBA6.out _).size (HOA6.out _) hgrow); have HO7 := Lib.hid hown; clear hown hgrow; obtain ⟨hx, hez⟩ := HXZ.out _ HB7.out; obtain ⟨c0, c1, c2, c3, c4, c5, d0, d1, d2, d3, d4, d5⟩ := HSS.out _ HB7.out)
  go_wp2_with fail
  refine (some_any _ _ _).mono ?_
  rintro r w8 ⟨rfl, k8⟩
  have HB8 := Lib.hid (HB7.out.trans (k8.mono HB7.out.size))
  have HO8 := Lib.hid (own_below HO7.out k8)
  clear k8
  obtain ⟨hx, hez⟩ := HXZ.out _ HB8.out
  obtain ⟨c0, c1, c2, c3, c4, c5, d0, d1, d2, d3, d4, d5⟩ := HSS.out _ HB8.out
  go_wp2_with fail
  refine (HDS.out _ (HP.out _ (HBB.out _ HB8.out))).mono ?_
  rintro r w9 ⟨rfl, k9⟩
  have HB9 := Lib.hid (HB8.out.trans (k9.mono HB8.out.size))
  have HO9 := Lib.hid (own_below HO8.out k9)
  clear k9
  obtain ⟨hx, hez⟩ := HXZ.out _ HB9.out
  obtain ⟨c0, c1, c2, c3, c4, c5, d0, d1, d2, d3, d4, d5⟩ := HSS.out _ HB9.out
  have HOA9 := Lib.hid (fun o => HO9.out.alloc o)
  have HBA9 := Lib.hid (fun o => HB9.out.alloc HB9.out.size o)
  go_wp2_with (at_builtin; refine wpList_append_own _ rfl (.tmp 42) (.tmp 46) 73 rfl W0.heap.size 9 i0 (.string ⟨#[]⟩) 1 16 Tryz.underlying73 hi0 hz0 hz1 hz2 rfl (by decide) _ 3 _ rfl (HOA9.out _) ⟨_, 0, none⟩ 1 1 [.string ts] rfl rfl (news_at _ _ _ _ (by first | rfl | exact (size1 _ _).symm | (simp; done))) (by intro u hu; simp at hu; subst hu; rfl) (by unfold maxLen; omega) (by omega) (HBA9.out _).size ?_; intro v10 w10 hown hgrow _; have HB10 := Lib.hid (app_below (HBA9.out _) (HBA9.out _).size (HOA9.out _) hgrow); have HO10 := Lib.hid hown; clear hown hgrow; obtain ⟨hx, hez⟩ := HXZ.out _ HB10.out; obtain ⟨c0, c1, c2, c3, c4, c5, d0, d1, d2, d3, d4, d5⟩ := HSS.out _ HB10.out)
  obtain ⟨a, c, hv, q1, _, q2, _, _⟩ := own_slice HO10.out
  have HQ := Lib.hid q2
  clear q2
  try subst hv
  go_wp2
  go_ret
  refine ⟨a, c, ?_, ?_, ?_, HBB.out _ HB10.out⟩
  · rw [HWS.out]; first | rfl | (rw [← hv]; rfl) | (simpa using hv)
  · rw [HWS.out]; exact q1
  · rw [HWS.out]; exact HQ.out
set_option maxHeartbeats 4000000 in
theorem words_3 (e : EvM) (hsh : shK e.kind = ⟨true, false, 1, 999, 0, 0⟩) (hi : EInts e) (w : World) (hp : Pow10 w) : Calls Tryz.prog 30 #[evV e] w (GivesWords w (wordsS ⟨true, false, 1, 999, 0, 0⟩ e)) := by
  obtain ⟨i0, hi0, hz0, hz1, hz2⟩ := info_parts Tryz.infoStr
  have HSH := Lib.hid (fun W => shapeOf_any e.kind W)
  rw [hsh] at HSH
  have HDA := Lib.hid (fun W (h : Pow10 W) => dec_any e.at_ hi.at_.1 hi.at_.2 W h)
  have HDN := Lib.hid (fun W (h : Pow10 W) => dec_any e.n hi.n.1 hi.n.2 W h)
  have HDS := Lib.hid (fun W (h : Pow10 W) => dec_any e.status hi.status.1 hi.status.2 W h)
  have HP := Lib.hid (fun W (h : Below w.heap.size w W) => hp.below h)
  have HWS : Hid (wordsS ⟨true, false, 1, 999, 0, 0⟩ e = [tx (decOf e.at_)] ++ [e.user] ++ [] ++ [tx (decOf e.n)] ++ []) := by simp [Hid, wordsS]
  have HE : Hid (∀ W, Below (w.alloc (.cells #[.int .i64 e.kind, .int .i64 e.at_, .string e.user, .string e.other, .int .i64 e.n, .int .i64 e.status] 40)).heap.size (w.alloc (.cells #[.int .i64 e.kind, .int .i64 e.at_, .string e.user, .string e.other, .int .i64 e.n, .int .i64 e.status] 40)) W → W.heap[w.heap.size]? = some (.cells #[.int .i64 e.kind, .int .i64 e.at_, .string e.user, .string e.other, .int .i64 e.n, .int .i64 e.status] 40 (0, 0)) ∧ Below w.heap.size w W) := fun W hb => ⟨(hb.block _ (by rw [size1]; omega)).trans (heap_alloc_new w _), ((Below.refl _ _).alloc (Nat.le_refl _) _).trans (hb.mono (by rw [size1]; omega))⟩
  unfold evV shV at *
  clear hi hp hsh
  generalize wordsS ⟨true, false, 1, 999, 0, 0⟩ e = WS at *
  generalize tx (decOf e.at_) = ta at *
  generalize tx (decOf e.n) = tn at *
  generalize tx (decOf e.status) = ts at *
  go_enter Tryz.func30, Tryz.ntmps30
  go_wp2_with fail
  refine (HSH.out _).mono ?_
  rintro r w1 ⟨rfl, h1⟩
  have HE1 := Lib.hid (HE.out _ h1)
  have hsz : w.heap.size < w1.heap.size := (Array.getElem?_eq_some_iff.1 HE1.out.1).1
  have HXB := Lib.hid (fun o => heap_alloc_new w1 o)
  have HEB := Lib.hid (fun o => (Below.heap_alloc w1 o _ hsz).trans HE1.out.1)
  have HBW := Lib.hid (fun o => HE1.out.2.alloc HE1.out.2.size o)
  clear h1
  have hx0 := HXB.out (.cells #[.bool true, .bool false, .int .i64 1, .int .i64 999, .int .i64 0, .int .i64 0] 81)
  have he0 := HEB.out (.cells #[.bool true, .bool false, .int .i64 1, .int .i64 999, .int .i64 0, .int .i64 0] 81)
  have hb0 := HBW.out (.cells #[.bool true, .bool false, .int .i64 1, .int .i64 999, .int .i64 0, .int .i64 0] 81)
  have hX : w1.heap.size < (w1.alloc (.cells #[.bool true, .bool false, .int .i64 1, .int .i64 999, .int .i64 0, .int .i64 0] 81)).heap.size := by rw [size1]; omega
  have HSS : Hid (∀ W, Below (w1.alloc (.cells #[.bool true, .bool false, .int .i64 1, .int .i64 999, .int .i64 0, .int .i64 0] 81)).heap.size (w1.alloc (.cells #[.bool true, .bool false, .int .i64 1, .int .i64 999, .int .i64 0, .int .i64 0] 81)) W → W.cell? ⟨w.heap.size, 0, none⟩ = some (.int .i64 e.kind) ∧ W.cell? ⟨w.heap.size, 1, none⟩ = some (.int .i64 e.at_) ∧ W.cell? ⟨w.heap.size, 2, none⟩ = some (.string e.user) ∧ W.cell? ⟨w.heap.size, 3, none⟩ = some (.string e.other) ∧ W.cell? ⟨w.heap.size, 4, none⟩ = some (.int .i64 e.n) ∧ W.cell? ⟨w.heap.size, 5, none⟩ = some (.int .i64 e.status) ∧ W.cell? ⟨w1.heap.size, 0, none⟩ = some (.bool true) ∧ W.cell? ⟨w1.heap.size, 1, none⟩ = some (.bool false) ∧ W.cell? ⟨w1.heap.size, 2, none⟩ = some (.int .i64 1) ∧ W.cell? ⟨w1.heap.size, 3, none⟩ = some (.int .i64 999) ∧ W.cell? ⟨w1.heap.size, 4, none⟩ = some (.int .i64 0) ∧ W.cell? ⟨w1.heap.size, 5, none⟩ = some (.int .i64 0)) := fun W hb => by
    obtain ⟨q0, q1, q2, q3, q4, q5⟩ := (cells6 ((hb.block w.heap.size (by omega)).trans he0)).1
    exact ⟨q0, q1, q2, q3, q4, q5, (cells6 ((hb.block w1.heap.size hX).trans hx0)).1⟩
  have HBB : Hid (∀ W, Below (w1.alloc (.cells #[.bool true, .bool false, .int .i64 1, .int .i64 999, .int .i64 0, .int .i64 0] 81)).heap.size (w1.alloc (.cells #[.bool true, .bool false, .int .i64 1, .int .i64 999, .int .i64 0, .int .i64 0] 81)) W → Below w.heap.size w W) := fun W hb => hb0.trans (hb.mono hb0.size)
  have HB0 : Hid (Below (w1.alloc (.cells #[.bool true, .bool false, .int .i64 1, .int .i64 999, .int .i64 0, .int .i64 0] 81)).heap.size (w1.alloc (.cells #[.bool true, .bool false, .int .i64 1, .int .i64 999, .int .i64 0, .int .i64 0] 81)) (w1.alloc (.cells #[.bool true, .bool false, .int .i64 1, .int .i64 999, .int .i64 0, .int .i64 0] 81))) := Below.refl _ _
  have HXZ : Hid (∀ W, Below (w1.alloc (.cells #[.bool true, .bool false, .int .i64 1, .int .i64 999, .int .i64 0, .int .i64 0] 81)).heap.size (w1.alloc (.cells #[.bool true, .bool false, .int .i64 1, .int .i64 999, .int .i64 0, .int .i64 0] 81)) W → w1.heap.size < W.heap.size ∧ w.heap.size < W.heap.size) := fun W hb => by have := hb.size; omega
  clear HXB HEB HBW HE1 HE HSH hx0 he0 hb0 hX hsz
  obtain ⟨c0, c1, c2, c3, c4, c5, d0, d1, d2, d3, d4, d5⟩ := HSS.out _ HB0.out
  go_wp2_with fail
  clear c0 c1 c2 c3 c4 c5 d0 d1 d2 d3 d4 d5
  generalize w1.heap.size = X at *
  generalize (w1.alloc (.cells #[.bool true, .bool false, .int .i64 1, .int .i64 999, .int .i64 0, .int .i64 0] 81)) = W0 at *
  refine (HDA.out _ (HP.out _ (HBB.out _ HB0.out))).mono ?_
  rintro r w2 ⟨rfl, k2⟩
  have HB2 : Hid (Below W0.heap.size W0 w2) := k2
  obtain ⟨c0, c1, c2, c3, c4, c5, d0, d1, d2, d3, d4, d5⟩ := HSS.out _ HB2.out
  obtain ⟨hx, hez⟩ := HXZ.out _ HB2.out
  have HB3 := Lib.hid (HB2.out.alloc HB2.out.size (.cells #[.string ta] 9))
  have HO3 := Lib.hid (World.ownsRow_lit (base := W0.heap.size) (e := 9) (size := 1) w2 #[.string ta] 1 HB2.out.size (by unfold maxLen; omega) rfl)
  clear k2
  have HOA3 := Lib.hid (fun o => HO3.out.alloc o)
  have HBA3 := Lib.hid (fun o => HB3.out.alloc HB3.out.size o)
  go_wp2_with (at_builtin; refine wpList_append_own _ rfl (.tmp 18) (.tmp 21) 73 rfl W0.heap.size 9 i0 (.string ⟨#[]⟩) 1 16 Tryz.underlying73 hi0 hz0 hz1 hz2 rfl (by decide) _ 1 _ rfl (HOA3.out _) ⟨_, 0, none⟩ 1 1 [.string e.user] rfl rfl (news_at _ _ _ _ (by first | rfl | exact (size1 _ _).symm | (simp; done))) (by intro u hu; simp at hu; subst hu; rfl) (by unfold maxLen; omega) (by omega) (HBA3.out _).size ?_; intro v4 w4 hown hgrow _; have HB4 := Lib.hid (app_below (HBA3.out _) (HBA3.out _).size (HOA3.out _) hgrow); have HO4 := Lib.hid hown; clear hown hgrow; obtain ⟨hx, hez⟩ := HXZ.out _ HB4.out; obtain ⟨c0, c1, c2, c3, c4, c5, d0, d1, d2, d3, d4, d5⟩ := HSS.out _ HB4.out)
  go_wp2_with fail
  refine (some_any _ _ _).mono ?_
  rintro r w5 ⟨rfl, k5⟩
  have HB5 := Lib.hid (HB4.out.trans (k5.mono HB4.out.size))
  have HO5 := Lib.hid (own_below HO4.out k5)
  clear k5
  obtain ⟨hx, hez⟩ := HXZ.out _ HB5.out
  obtain ⟨c0, c1, c2, c3, c4, c5, d0, d1, d2, d3, d4, d5⟩ := HSS.out _ HB5.out
  go_wp2_with fail
  refine (HDN.out _ (HP.out _ (HBB.out _ HB5.out))).mono ?_
  rintro r w6 ⟨rfl, k6⟩
  have HB6 := Lib.hid (HB5.out.trans (k6.mono HB5.out.size))
  have HO6 := Lib.hid (own_below HO5.out k6)
  clear k6
  obtain ⟨hx, hez⟩ := HXZ.out _ HB6.out
  obtain ⟨c0, c1, c2, c3, c4, c5, d0, d1, d2, d3, d4, d5⟩ := HSS.out _ HB6.out
  have HOA6 := Lib.hid (fun o => HO6.out.alloc o)
  have HBA6 := Lib.hid (fun o => HB6.out.alloc HB6.out.size o)
  go_wp2_with (at_builtin; refine wpList_append_own _ rfl (.tmp 33) (.tmp 37) 73 rfl W0.heap.size 9 i0 (.string ⟨#[]⟩) 1 16 Tryz.underlying73 hi0 hz0 hz1 hz2 rfl (by decide) _ 2 _ rfl (HOA6.out _) ⟨_, 0, none⟩ 1 1 [.string tn] rfl rfl (news_at _ _ _ _ (by first | rfl | exact (size1 _ _).symm | (simp; done))) (by intro u hu; simp at hu; subst hu; rfl) (by unfold maxLen; omega) (by omega) (HBA6.out _).size ?_; intro v7 w7 hown hgrow _; have HB7 := Lib.hid (app_below (HBA6.out _) (HBA6.out _).size (HOA6.out _) hgrow); have HO7 := Lib.hid hown; clear hown hgrow; obtain ⟨hx, hez⟩ := HXZ.out _ HB7.out; obtain ⟨c0, c1, c2, c3, c4, c5, d0, d1, d2, d3, d4, d5⟩ := HSS.out _ HB7.out)
  go_wp2_with fail
  refine (some_any _ _ _).mono ?_
  rintro r w8 ⟨rfl, k8⟩
  have HB8 := Lib.hid (HB7.out.trans (k8.mono HB7.out.size))
  have HO8 := Lib.hid (own_below HO7.out k8)
  clear k8
  obtain ⟨hx, hez⟩ := HXZ.out _ HB8.out
  obtain ⟨c0, c1, c2, c3, c4, c5, d0, d1, d2, d3, d4, d5⟩ := HSS.out _ HB8.out
  obtain ⟨a, c, hv, q1, _, q2, _, _⟩ := own_slice HO8.out
  have HQ := Lib.hid q2
  clear q2
  try subst hv
  go_wp2
  go_ret
  refine ⟨a, c, ?_, ?_, ?_, HBB.out _ HB8.out⟩
  · rw [HWS.out]; first | rfl | (rw [← hv]; rfl) | (simpa using hv)
  · rw [HWS.out]; exact q1
  · rw [HWS.out]; exact HQ.out
set_option maxHeartbeats 4000000 in
theorem words_7 (e : EvM) (hsh : shK e.kind = ⟨true, false, 0, 0, 0, 0⟩) (hi : EInts e) (w : World) (hp : Pow10 w) : Calls Tryz.prog 30 #[evV e] w (GivesWords w (wordsS ⟨true, false, 0, 0, 0, 0⟩ e)) := by
  obtain ⟨i0, hi0, hz0, hz1, hz2⟩ := info_parts Tryz.infoStr
  have HSH := Lib.hid (fun W => shapeOf_any e.kind W)
  rw [hsh] at HSH
  have HDA := Lib.hid (fun W (h : Pow10 W) => dec_any e.at_ hi.at_.1 hi.at_.2 W h)
  have HDN := Lib.hid (fun W (h : Pow10 W) => dec_any e.n hi.n.1 hi.n.2 W h)
  have HDS := Lib.hid (fun W (h : Pow10 W) => dec_any e.status hi.status.1 hi.status.2 W h)
  have HP := Lib.hid (fun W (h : Below w.heap.size w W) => hp.below h)
  have HWS : Hid (wordsS ⟨true, false, 0, 0, 0, 0⟩ e = [tx (decOf e.at_)] ++ [e.user] ++ [] ++ [] ++ []) := by simp [Hid, wordsS]
  have HE : Hid (∀ W, Below (w.alloc (.cells #[.int .i64 e.kind, .int .i64 e.at_, .string e.user, .string e.other, .int .i64 e.n, .int .i64 e.status] 40)).heap.size (w.alloc (.cells #[.int .i64 e.kind, .int .i64 e.at_, .string e.user, .string e.other, .int .i64 e.n, .int .i64 e.status] 40)) W → W.heap[w.heap.size]? = some (.cells #[.int .i64 e.kind, .int .i64 e.at_, .string e.user, .string e.other, .int .i64 e.n, .int .i64 e.status] 40 (0, 0)) ∧ Below w.heap.size w W) := fun W hb => ⟨(hb.block _ (by rw [size1]; omega)).trans (heap_alloc_new w _), ((Below.refl _ _).alloc (Nat.le_refl _) _).trans (hb.mono (by rw [size1]; omega))⟩
  unfold evV shV at *
  clear hi hp hsh
  generalize wordsS ⟨true, false, 0, 0, 0, 0⟩ e = WS at *
  generalize tx (decOf e.at_) = ta at *
  generalize tx (decOf e.n) = tn at *
  generalize tx (decOf e.status) = ts at *
  go_enter Tryz.func30, Tryz.ntmps30
  go_wp2_with fail
  refine (HSH.out _).mono ?_
  rintro r w1 ⟨rfl, h1⟩
  have HE1 := Lib.hid (HE.out _ h1)
  have hsz : w.heap.size < w1.heap.size := (Array.getElem?_eq_some_iff.1 HE1.out.1).1
  have HXB := Lib.hid (fun o => heap_alloc_new w1 o)
  have HEB := Lib.hid (fun o => (Below.heap_alloc w1 o _ hsz).trans HE1.out.1)
  have HBW := Lib.hid (fun o => HE1.out.2.alloc HE1.out.2.size o)
  clear h1
  have hx0 := HXB.out (.cells #[.bool true, .bool false, .int .i64 0, .int .i64 0, .int .i64 0, .int .i64 0] 81)
  have he0 := HEB.out (.cells #[.bool true, .bool false, .int .i64 0, .int .i64 0, .int .i64 0, .int .i64 0] 81)
  have hb0 := HBW.out (.cells #[.bool true, .bool false, .int .i64 0, .int .i64 0, .int .i64 0, .int .i64 0] 81)
  have hX : w1.heap.size < (w1.alloc (.cells #[.bool true, .bool false, .int .i64 0, .int .i64 0, .int .i64 0, .int .i64 0] 81)).heap.size := by rw [size1]; omega
  have HSS : Hid (∀ W, Below (w1.alloc (.cells #[.bool true, .bool false, .int .i64 0, .int .i64 0, .int .i64 0, .int .i64 0] 81)).heap.size (w1.alloc (.cells #[.bool true, .bool false, .int .i64 0, .int .i64 0, .int .i64 0, .int .i64 0] 81)) W → W.cell? ⟨w.heap.size, 0, none⟩ = some (.int .i64 e.kind) ∧ W.cell? ⟨w.heap.size, 1, none⟩ = some (.int .i64 e.at_) ∧ W.cell? ⟨w.heap.size, 2, none⟩ = some (.string e.user) ∧ W.cell? ⟨w.heap.size, 3, none⟩ = some (.string e.other) ∧ W.cell? ⟨w.heap.size, 4, none⟩ = some (.int .i64 e.n) ∧ W.cell? ⟨w.heap.size, 5, none⟩ = some (.int .i64 e.status) ∧ W.cell? ⟨w1.heap.size, 0, none⟩ = some (.bool true) ∧ W.cell? ⟨w1.heap.size, 1, none⟩ = some (.bool false) ∧ W.cell? ⟨w1.heap.size, 2, none⟩ = some (.int .i64 0) ∧ W.cell? ⟨w1.heap.size, 3, none⟩ = some (.int .i64 0) ∧ W.cell? ⟨w1.heap.size, 4, none⟩ = some (.int .i64 0) ∧ W.cell? ⟨w1.heap.size, 5, none⟩ = some (.int .i64 0)) := fun W hb => by
    obtain ⟨q0, q1, q2, q3, q4, q5⟩ := (cells6 ((hb.block w.heap.size (by omega)).trans he0)).1
    exact ⟨q0, q1, q2, q3, q4, q5, (cells6 ((hb.block w1.heap.size hX).trans hx0)).1⟩
  have HBB : Hid (∀ W, Below (w1.alloc (.cells #[.bool true, .bool false, .int .i64 0, .int .i64 0, .int .i64 0, .int .i64 0] 81)).heap.size (w1.alloc (.cells #[.bool true, .bool false, .int .i64 0, .int .i64 0, .int .i64 0, .int .i64 0] 81)) W → Below w.heap.size w W) := fun W hb => hb0.trans (hb.mono hb0.size)
  have HB0 : Hid (Below (w1.alloc (.cells #[.bool true, .bool false, .int .i64 0, .int .i64 0, .int .i64 0, .int .i64 0] 81)).heap.size (w1.alloc (.cells #[.bool true, .bool false, .int .i64 0, .int .i64 0, .int .i64 0, .int .i64 0] 81)) (w1.alloc (.cells #[.bool true, .bool false, .int .i64 0, .int .i64 0, .int .i64 0, .int .i64 0] 81))) := Below.refl _ _
  have HXZ : Hid (∀ W, Below (w1.alloc (.cells #[.bool true, .bool false, .int .i64 0, .int .i64 0, .int .i64 0, .int .i64 0] 81)).heap.size (w1.alloc (.cells #[.bool true, .bool false, .int .i64 0, .int .i64 0, .int .i64 0, .int .i64 0] 81)) W → w1.heap.size < W.heap.size ∧ w.heap.size < W.heap.size) := fun W hb => by have := hb.size; omega
  clear HXB HEB HBW HE1 HE HSH hx0 he0 hb0 hX hsz
  obtain ⟨c0, c1, c2, c3, c4, c5, d0, d1, d2, d3, d4, d5⟩ := HSS.out _ HB0.out
  go_wp2_with fail
  clear c0 c1 c2 c3 c4 c5 d0 d1 d2 d3 d4 d5
  generalize w1.heap.size = X at *
  generalize (w1.alloc (.cells #[.bool true, .bool false, .int .i64 0, .int .i64 0, .int .i64 0, .int .i64 0] 81)) = W0 at *
  refine (HDA.out _ (HP.out _ (HBB.out _ HB0.out))).mono ?_
  rintro r w2 ⟨rfl, k2⟩
  have HB2 : Hid (Below W0.heap.size W0 w2) := k2
  obtain ⟨c0, c1, c2, c3, c4, c5, d0, d1, d2, d3, d4, d5⟩ := HSS.out _ HB2.out
  obtain ⟨hx, hez⟩ := HXZ.out _ HB2.out
  have HB3 := Lib.hid (HB2.out.alloc HB2.out.size (.cells #[.string ta] 9))
  have HO3 := Lib.hid (World.ownsRow_lit (base := W0.heap.size) (e := 9) (size := 1) w2 #[.string ta] 1 HB2.out.size (by unfold maxLen; omega) rfl)
  clear k2
  have HOA3 := Lib.hid (fun o => HO3.out.alloc o)
  have HBA3 := Lib.hid (fun o => HB3.out.alloc HB3.out.size o)
  go_wp2_with (at_builtin; refine wpList_append_own _ rfl (.tmp 18) (.tmp 21) 73 rfl W0.heap.size 9 i0 (.string ⟨#[]⟩) 1 16 Tryz.underlying73 hi0 hz0 hz1 hz2 rfl (by decide) _ 1 _ rfl (HOA3.out _) ⟨_, 0, none⟩ 1 1 [.string e.user] rfl rfl (news_at _ _ _ _ (by first | rfl | exact (size1 _ _).symm | (simp; done))) (by intro u hu; simp at hu; subst hu; rfl) (by unfold maxLen; omega) (by omega) (HBA3.out _).size ?_; intro v4 w4 hown hgrow _; have HB4 := Lib.hid (app_below (HBA3.out _) (HBA3.out _).size (HOA3.out _) hgrow); have HO4 := Lib.hid hown; clear hown hgrow; obtain ⟨hx, hez⟩ := HXZ.out _ HB4.out; obtain ⟨c0, c1, c2, c3, c4, c5, d0, d1, d2, d3, d4, d5⟩ := HSS.out _ HB4.out)
  go_wp2_with fail
  refine (some_any _ _ _).mono ?_
  rintro r w5 ⟨rfl, k5⟩
  have HB5 := Lib.hid (HB4.out.trans (k5.mono HB4.out.size))
  have HO5 := Lib.hid (own_below HO4.out k5)
  clear k5
  obtain ⟨hx, hez⟩ := HXZ.out _ HB5.out
  obtain ⟨c0, c1, c2, c3, c4, c5, d0, d1, d2, d3, d4, d5⟩ := HSS.out _ HB5.out
  go_wp2_with fail
  refine (some_any _ _ _).mono ?_
  rintro r w6 ⟨rfl, k6⟩
  have HB6 := Lib.hid (HB5.out.trans (k6.mono HB5.out.size))
  have HO6 := Lib.hid (own_below HO5.out k6)
  clear k6
  obtain ⟨hx, hez⟩ := HXZ.out _ HB6.out
  obtain ⟨c0, c1, c2, c3, c4, c5, d0, d1, d2, d3, d4, d5⟩ := HSS.out _ HB6.out
  obtain ⟨a, c, hv, q1, _, q2, _, _⟩ := own_slice HO6.out
  have HQ := Lib.hid q2
  clear q2
  try subst hv
  go_wp2
  go_ret
  refine ⟨a, c, ?_, ?_, ?_, HBB.out _ HB6.out⟩
  · rw [HWS.out]; first | rfl | (rw [← hv]; rfl) | (simpa using hv)
  · rw [HWS.out]; exact q1
  · rw [HWS.out]; exact HQ.out
set_option maxHeartbeats 4000000 in
theorem words_4 (e : EvM) (hsh : shK e.kind = ⟨true, true, 0, 0, 0, 0⟩) (hi : EInts e) (w : World) (hp : Pow10 w) : Calls Tryz.prog 30 #[evV e] w (GivesWords w (wordsS ⟨true, true, 0, 0, 0, 0⟩ e)) := by
  obtain ⟨i0, hi0, hz0, hz1, hz2⟩ := info_parts Tryz.infoStr
  have HSH := Lib.hid (fun W => shapeOf_any e.kind W)
  rw [hsh] at HSH
  have HDA := Lib.hid (fun W (h : Pow10 W) => dec_any e.at_ hi.at_.1 hi.at_.2 W h)
  have HDN := Lib.hid (fun W (h : Pow10 W) => dec_any e.n hi.n.1 hi.n.2 W h)
  have HDS := Lib.hid (fun W (h : Pow10 W) => dec_any e.status hi.status.1 hi.status.2 W h)
  have HP := Lib.hid (fun W (h : Below w.heap.size w W) => hp.below h)
  have HWS : Hid (wordsS ⟨true, true, 0, 0, 0, 0⟩ e = [tx (decOf e.at_)] ++ [e.user] ++ [e.other] ++ [] ++ []) := by simp [Hid, wordsS]
  have HE : Hid (∀ W, Below (w.alloc (.cells #[.int .i64 e.kind, .int .i64 e.at_, .string e.user, .string e.other, .int .i64 e.n, .int .i64 e.status] 40)).heap.size (w.alloc (.cells #[.int .i64 e.kind, .int .i64 e.at_, .string e.user, .string e.other, .int .i64 e.n, .int .i64 e.status] 40)) W → W.heap[w.heap.size]? = some (.cells #[.int .i64 e.kind, .int .i64 e.at_, .string e.user, .string e.other, .int .i64 e.n, .int .i64 e.status] 40 (0, 0)) ∧ Below w.heap.size w W) := fun W hb => ⟨(hb.block _ (by rw [size1]; omega)).trans (heap_alloc_new w _), ((Below.refl _ _).alloc (Nat.le_refl _) _).trans (hb.mono (by rw [size1]; omega))⟩
  unfold evV shV at *
  clear hi hp hsh
  generalize wordsS ⟨true, true, 0, 0, 0, 0⟩ e = WS at *
  generalize tx (decOf e.at_) = ta at *
  generalize tx (decOf e.n) = tn at *
  generalize tx (decOf e.status) = ts at *
  go_enter Tryz.func30, Tryz.ntmps30
  go_wp2_with fail
  refine (HSH.out _).mono ?_
  rintro r w1 ⟨rfl, h1⟩
  have HE1 := Lib.hid (HE.out _ h1)
  have hsz : w.heap.size < w1.heap.size := (Array.getElem?_eq_some_iff.1 HE1.out.1).1
  have HXB := Lib.hid (fun o => heap_alloc_new w1 o)
  have HEB := Lib.hid (fun o => (Below.heap_alloc w1 o _ hsz).trans HE1.out.1)
  have HBW := Lib.hid (fun o => HE1.out.2.alloc HE1.out.2.size o)
  clear h1
  have hx0 := HXB.out (.cells #[.bool true, .bool true, .int .i64 0, .int .i64 0, .int .i64 0, .int .i64 0] 81)
  have he0 := HEB.out (.cells #[.bool true, .bool true, .int .i64 0, .int .i64 0, .int .i64 0, .int .i64 0] 81)
  have hb0 := HBW.out (.cells #[.bool true, .bool true, .int .i64 0, .int .i64 0, .int .i64 0, .int .i64 0] 81)
  have hX : w1.heap.size < (w1.alloc (.cells #[.bool true, .bool true, .int .i64 0, .int .i64 0, .int .i64 0, .int .i64 0] 81)).heap.size := by rw [size1]; omega
  have HSS : Hid (∀ W, Below (w1.alloc (.cells #[.bool true, .bool true, .int .i64 0, .int .i64 0, .int .i64 0, .int .i64 0] 81)).heap.size (w1.alloc (.cells #[.bool true, .bool true, .int .i64 0, .int .i64 0, .int .i64 0, .int .i64 0] 81)) W → W.cell? ⟨w.heap.size, 0, none⟩ = some (.int .i64 e.kind) ∧ W.cell? ⟨w.heap.size, 1, none⟩ = some (.int .i64 e.at_) ∧ W.cell? ⟨w.heap.size, 2, none⟩ = some (.string e.user) ∧ W.cell? ⟨w.heap.size, 3, none⟩ = some (.string e.other) ∧ W.cell? ⟨w.heap.size, 4, none⟩ = some (.int .i64 e.n) ∧ W.cell? ⟨w.heap.size, 5, none⟩ = some (.int .i64 e.status) ∧ W.cell? ⟨w1.heap.size, 0, none⟩ = some (.bool true) ∧ W.cell? ⟨w1.heap.size, 1, none⟩ = some (.bool true) ∧ W.cell? ⟨w1.heap.size, 2, none⟩ = some (.int .i64 0) ∧ W.cell? ⟨w1.heap.size, 3, none⟩ = some (.int .i64 0) ∧ W.cell? ⟨w1.heap.size, 4, none⟩ = some (.int .i64 0) ∧ W.cell? ⟨w1.heap.size, 5, none⟩ = some (.int .i64 0)) := fun W hb => by
    obtain ⟨q0, q1, q2, q3, q4, q5⟩ := (cells6 ((hb.block w.heap.size (by omega)).trans he0)).1
    exact ⟨q0, q1, q2, q3, q4, q5, (cells6 ((hb.block w1.heap.size hX).trans hx0)).1⟩
  have HBB : Hid (∀ W, Below (w1.alloc (.cells #[.bool true, .bool true, .int .i64 0, .int .i64 0, .int .i64 0, .int .i64 0] 81)).heap.size (w1.alloc (.cells #[.bool true, .bool true, .int .i64 0, .int .i64 0, .int .i64 0, .int .i64 0] 81)) W → Below w.heap.size w W) := fun W hb => hb0.trans (hb.mono hb0.size)
  have HB0 : Hid (Below (w1.alloc (.cells #[.bool true, .bool true, .int .i64 0, .int .i64 0, .int .i64 0, .int .i64 0] 81)).heap.size (w1.alloc (.cells #[.bool true, .bool true, .int .i64 0, .int .i64 0, .int .i64 0, .int .i64 0] 81)) (w1.alloc (.cells #[.bool true, .bool true, .int .i64 0, .int .i64 0, .int .i64 0, .int .i64 0] 81))) := Below.refl _ _
  have HXZ : Hid (∀ W, Below (w1.alloc (.cells #[.bool true, .bool true, .int .i64 0, .int .i64 0, .int .i64 0, .int .i64 0] 81)).heap.size (w1.alloc (.cells #[.bool true, .bool true, .int .i64 0, .int .i64 0, .int .i64 0, .int .i64 0] 81)) W → w1.heap.size < W.heap.size ∧ w.heap.size < W.heap.size) := fun W hb => by have := hb.size; omega
  clear HXB HEB HBW HE1 HE HSH hx0 he0 hb0 hX hsz
  obtain ⟨c0, c1, c2, c3, c4, c5, d0, d1, d2, d3, d4, d5⟩ := HSS.out _ HB0.out
  go_wp2_with fail
  clear c0 c1 c2 c3 c4 c5 d0 d1 d2 d3 d4 d5
  generalize w1.heap.size = X at *
  generalize (w1.alloc (.cells #[.bool true, .bool true, .int .i64 0, .int .i64 0, .int .i64 0, .int .i64 0] 81)) = W0 at *
  refine (HDA.out _ (HP.out _ (HBB.out _ HB0.out))).mono ?_
  rintro r w2 ⟨rfl, k2⟩
  have HB2 : Hid (Below W0.heap.size W0 w2) := k2
  obtain ⟨c0, c1, c2, c3, c4, c5, d0, d1, d2, d3, d4, d5⟩ := HSS.out _ HB2.out
  obtain ⟨hx, hez⟩ := HXZ.out _ HB2.out
  have HB3 := Lib.hid (HB2.out.alloc HB2.out.size (.cells #[.string ta] 9))
  have HO3 := Lib.hid (World.ownsRow_lit (base := W0.heap.size) (e := 9) (size := 1) w2 #[.string ta] 1 HB2.out.size (by unfold maxLen; omega) rfl)
  clear k2
  have HOA3 := Lib.hid (fun o => HO3.out.alloc o)
  have HBA3 := Lib.hid (fun o => HB3.out.alloc HB3.out.size o)
  go_wp2_with (first | (at_builtin; refine wpList_append_own _ rfl (.tmp 18) (.tmp 21) 73 rfl W0.heap.size 9 i0 (.string ⟨#[]⟩) 1 16 Tryz.underlying73 hi0 hz0 hz1 hz2 rfl (by decide) _ 1 _ rfl (HOA3.out _) ⟨_, 0, none⟩ 1 1 [.string e.user] rfl rfl (news_at _ _ _ _ (by first | rfl | exact (size1 _ _).symm | (simp; done))) (by intro u hu; simp at hu; subst hu; rfl) (by unfold maxLen; omega) (by omega) (HBA3.out _).size ?_; intro v4 w4 hown hgrow _; have HB4 := Lib.hid (app_below (HBA3.out _) (HBA3.out _).size (HOA3.out _) hgrow); have HO4 := Lib.hid hown; clear hown hgrow; obtain ⟨hx, hez⟩ := HXZ.out _ HB4.out; obtain ⟨c0, c1, c2, c3, c4, c5, d0, d1, d2, d3, d4, d5⟩ := HSS.out _ HB4.out; have HOA4 := Lib.hid (fun o => HO4.out.alloc o); have HBA4 := Lib.hid (fun o => HB4.out.alloc HB4.out.size o)) | (at_builtin; refine wpList_append_own _ rfl (.tmp 25) (.tmp 28) 73 rfl W0.heap.size 9 i0 (.string ⟨#[]⟩) 1 16 Tryz.underlying73 hi0 hz0 hz1 hz2 rfl (by decide) _ 2 _ rfl (HOA4.out _) ⟨_, 0, none⟩ 1 1 [.string e.other] rfl rfl (news_at _ _ _ _ (by first | rfl | exact (size1 _ _).symm | (simp; done))) (by intro u hu; simp at hu; subst hu; rfl) (by unfold maxLen; omega) (by omega) (HBA4.out _).size ?_; intro v5 w5 hown hgrow _; have HB5 := Lib.hid (app_below (HBA4.out _) (HBA4.out _).size (HOA4.out _) hgrow); have HO5 := Lib.hid hown; clear hown hgrow; obtain ⟨hx, hez⟩ := HXZ.out _ HB5.out; obtain ⟨c0, c1, c2, c3, c4, c5, d0, d1, d2, d3, d4, d5⟩ := HSS.out _ HB5.out))
  go_wp2_with fail
  refine (some_any _ _ _).mono ?_
  rintro r w6 ⟨rfl, k6⟩
  have HB6 := Lib.hid (HB5.out.trans (k6.mono HB5.out.size))
  have HO6 := Lib.hid (own_below HO5.out k6)
  clear k6
  obtain ⟨hx, hez⟩ := HXZ.out _ HB6.out
  obtain ⟨c0, c1, c2, c3, c4, c5, d0, d1, d2, d3, d4, d5⟩ := HSS.out _ HB6.out
  go_wp2_with fail
  refine (some_any _ _ _).mono ?_
  rintro r w7 ⟨rfl, k7⟩
  have HB7 := Lib.hid (HB6.out.trans (k7.mono HB6.out.size))
  have HO7 := Lib.hid (own_below HO6.out k7)
  clear k7
  obtain ⟨hx, hez⟩ := HXZ.out _ HB7.out
  obtain ⟨c0, c1, c2, c3, c4, c5, d0, d1, d2, d3, d4, d5⟩ := HSS.out _ HB7.out
  obtain ⟨a, c, hv, q1, _, q2, _, _⟩ := own_slice HO7.out
  have HQ := Lib.hid q2
  clear q2
  try subst hv
  go_wp2
  go_ret
  refine ⟨a, c, ?_, ?_, ?_, HBB.out _ HB7.out⟩
  · rw [HWS.out]; first | rfl | (rw [← hv]; rfl) | (simpa using hv)
  · rw [HWS.out]; exact q1
  · rw [HWS.out]; exact HQ.out
set_option maxHeartbeats 4000000 in
theorem words_6 (e : EvM) (hsh : shK e.kind = ⟨false, false, 0, 1099511627775, 0, 0⟩) (hi : EInts e) (w : World) (hp : Pow10 w) : Calls Tryz.prog 30 #[evV e] w (GivesWords w (wordsS ⟨false, false, 0, 1099511627775, 0, 0⟩ e)) := by
  obtain ⟨i0, hi0, hz0, hz1, hz2⟩ := info_parts Tryz.infoStr
  have HSH := Lib.hid (fun W => shapeOf_any e.kind W)
  rw [hsh] at HSH
  have HDA := Lib.hid (fun W (h : Pow10 W) => dec_any e.at_ hi.at_.1 hi.at_.2 W h)
  have HDN := Lib.hid (fun W (h : Pow10 W) => dec_any e.n hi.n.1 hi.n.2 W h)
  have HDS := Lib.hid (fun W (h : Pow10 W) => dec_any e.status hi.status.1 hi.status.2 W h)
  have HP := Lib.hid (fun W (h : Below w.heap.size w W) => hp.below h)
  have HWS : Hid (wordsS ⟨false, false, 0, 1099511627775, 0, 0⟩ e = [tx (decOf e.at_)] ++ [] ++ [] ++ [tx (decOf e.n)] ++ []) := by simp [Hid, wordsS]
  have HE : Hid (∀ W, Below (w.alloc (.cells #[.int .i64 e.kind, .int .i64 e.at_, .string e.user, .string e.other, .int .i64 e.n, .int .i64 e.status] 40)).heap.size (w.alloc (.cells #[.int .i64 e.kind, .int .i64 e.at_, .string e.user, .string e.other, .int .i64 e.n, .int .i64 e.status] 40)) W → W.heap[w.heap.size]? = some (.cells #[.int .i64 e.kind, .int .i64 e.at_, .string e.user, .string e.other, .int .i64 e.n, .int .i64 e.status] 40 (0, 0)) ∧ Below w.heap.size w W) := fun W hb => ⟨(hb.block _ (by rw [size1]; omega)).trans (heap_alloc_new w _), ((Below.refl _ _).alloc (Nat.le_refl _) _).trans (hb.mono (by rw [size1]; omega))⟩
  unfold evV shV at *
  clear hi hp hsh
  generalize wordsS ⟨false, false, 0, 1099511627775, 0, 0⟩ e = WS at *
  generalize tx (decOf e.at_) = ta at *
  generalize tx (decOf e.n) = tn at *
  generalize tx (decOf e.status) = ts at *
  go_enter Tryz.func30, Tryz.ntmps30
  go_wp2_with fail
  refine (HSH.out _).mono ?_
  rintro r w1 ⟨rfl, h1⟩
  have HE1 := Lib.hid (HE.out _ h1)
  have hsz : w.heap.size < w1.heap.size := (Array.getElem?_eq_some_iff.1 HE1.out.1).1
  have HXB := Lib.hid (fun o => heap_alloc_new w1 o)
  have HEB := Lib.hid (fun o => (Below.heap_alloc w1 o _ hsz).trans HE1.out.1)
  have HBW := Lib.hid (fun o => HE1.out.2.alloc HE1.out.2.size o)
  clear h1
  have hx0 := HXB.out (.cells #[.bool false, .bool false, .int .i64 0, .int .i64 1099511627775, .int .i64 0, .int .i64 0] 81)
  have he0 := HEB.out (.cells #[.bool false, .bool false, .int .i64 0, .int .i64 1099511627775, .int .i64 0, .int .i64 0] 81)
  have hb0 := HBW.out (.cells #[.bool false, .bool false, .int .i64 0, .int .i64 1099511627775, .int .i64 0, .int .i64 0] 81)
  have hX : w1.heap.size < (w1.alloc (.cells #[.bool false, .bool false, .int .i64 0, .int .i64 1099511627775, .int .i64 0, .int .i64 0] 81)).heap.size := by rw [size1]; omega
  have HSS : Hid (∀ W, Below (w1.alloc (.cells #[.bool false, .bool false, .int .i64 0, .int .i64 1099511627775, .int .i64 0, .int .i64 0] 81)).heap.size (w1.alloc (.cells #[.bool false, .bool false, .int .i64 0, .int .i64 1099511627775, .int .i64 0, .int .i64 0] 81)) W → W.cell? ⟨w.heap.size, 0, none⟩ = some (.int .i64 e.kind) ∧ W.cell? ⟨w.heap.size, 1, none⟩ = some (.int .i64 e.at_) ∧ W.cell? ⟨w.heap.size, 2, none⟩ = some (.string e.user) ∧ W.cell? ⟨w.heap.size, 3, none⟩ = some (.string e.other) ∧ W.cell? ⟨w.heap.size, 4, none⟩ = some (.int .i64 e.n) ∧ W.cell? ⟨w.heap.size, 5, none⟩ = some (.int .i64 e.status) ∧ W.cell? ⟨w1.heap.size, 0, none⟩ = some (.bool false) ∧ W.cell? ⟨w1.heap.size, 1, none⟩ = some (.bool false) ∧ W.cell? ⟨w1.heap.size, 2, none⟩ = some (.int .i64 0) ∧ W.cell? ⟨w1.heap.size, 3, none⟩ = some (.int .i64 1099511627775) ∧ W.cell? ⟨w1.heap.size, 4, none⟩ = some (.int .i64 0) ∧ W.cell? ⟨w1.heap.size, 5, none⟩ = some (.int .i64 0)) := fun W hb => by
    obtain ⟨q0, q1, q2, q3, q4, q5⟩ := (cells6 ((hb.block w.heap.size (by omega)).trans he0)).1
    exact ⟨q0, q1, q2, q3, q4, q5, (cells6 ((hb.block w1.heap.size hX).trans hx0)).1⟩
  have HBB : Hid (∀ W, Below (w1.alloc (.cells #[.bool false, .bool false, .int .i64 0, .int .i64 1099511627775, .int .i64 0, .int .i64 0] 81)).heap.size (w1.alloc (.cells #[.bool false, .bool false, .int .i64 0, .int .i64 1099511627775, .int .i64 0, .int .i64 0] 81)) W → Below w.heap.size w W) := fun W hb => hb0.trans (hb.mono hb0.size)
  have HB0 : Hid (Below (w1.alloc (.cells #[.bool false, .bool false, .int .i64 0, .int .i64 1099511627775, .int .i64 0, .int .i64 0] 81)).heap.size (w1.alloc (.cells #[.bool false, .bool false, .int .i64 0, .int .i64 1099511627775, .int .i64 0, .int .i64 0] 81)) (w1.alloc (.cells #[.bool false, .bool false, .int .i64 0, .int .i64 1099511627775, .int .i64 0, .int .i64 0] 81))) := Below.refl _ _
  have HXZ : Hid (∀ W, Below (w1.alloc (.cells #[.bool false, .bool false, .int .i64 0, .int .i64 1099511627775, .int .i64 0, .int .i64 0] 81)).heap.size (w1.alloc (.cells #[.bool false, .bool false, .int .i64 0, .int .i64 1099511627775, .int .i64 0, .int .i64 0] 81)) W → w1.heap.size < W.heap.size ∧ w.heap.size < W.heap.size) := fun W hb => by have := hb.size; omega
  clear HXB HEB HBW HE1 HE HSH hx0 he0 hb0 hX hsz
  obtain ⟨c0, c1, c2, c3, c4, c5, d0, d1, d2, d3, d4, d5⟩ := HSS.out _ HB0.out
  go_wp2_with fail
  clear c0 c1 c2 c3 c4 c5 d0 d1 d2 d3 d4 d5
  generalize w1.heap.size = X at *
  generalize (w1.alloc (.cells #[.bool false, .bool false, .int .i64 0, .int .i64 1099511627775, .int .i64 0, .int .i64 0] 81)) = W0 at *
  refine (HDA.out _ (HP.out _ (HBB.out _ HB0.out))).mono ?_
  rintro r w2 ⟨rfl, k2⟩
  have HB2 : Hid (Below W0.heap.size W0 w2) := k2
  obtain ⟨c0, c1, c2, c3, c4, c5, d0, d1, d2, d3, d4, d5⟩ := HSS.out _ HB2.out
  obtain ⟨hx, hez⟩ := HXZ.out _ HB2.out
  have HB3 := Lib.hid (HB2.out.alloc HB2.out.size (.cells #[.string ta] 9))
  have HO3 := Lib.hid (World.ownsRow_lit (base := W0.heap.size) (e := 9) (size := 1) w2 #[.string ta] 1 HB2.out.size (by unfold maxLen; omega) rfl)
  clear k2
  go_wp2_with fail
  refine (some_any _ _ _).mono ?_
  rintro r w4 ⟨rfl, k4⟩
  have HB4 := Lib.hid (HB3.out.trans (k4.mono HB3.out.size))
  have HO4 := Lib.hid (own_below HO3.out k4)
  clear k4
  obtain ⟨hx, hez⟩ := HXZ.out _ HB4.out
  obtain ⟨c0, c1, c2, c3, c4, c5, d0, d1, d2, d3, d4, d5⟩ := HSS.out _ HB4.out
  go_wp2_with fail
  refine (HDN.out _ (HP.out _ (HBB.out _ HB4.out))).mono ?_
  rintro r w5 ⟨rfl, k5⟩
  have HB5 := Lib.hid (HB4.out.trans (k5.mono HB4.out.size))
  have HO5 := Lib.hid (own_below HO4.out k5)
  clear k5
  obtain ⟨hx, hez⟩ := HXZ.out _ HB5.out
  obtain ⟨c0, c1, c2, c3, c4, c5, d0, d1, d2, d3, d4, d5⟩ := HSS.out _ HB5.out
  have HOA5 := Lib.hid (fun o => HO5.out.alloc o)
  have HBA5 := Lib.hid (fun o => HB5.out.alloc HB5.out.size o)
  go_wp2_with (at_builtin; refine wpList_append_own _ rfl (.tmp 33) (.tmp 37) 73 rfl W0.heap.size 9 i0 (.string ⟨#[]⟩) 1 16 Tryz.underlying73 hi0 hz0 hz1 hz2 rfl (by decide) _ 1 _ rfl (HOA5.out _) ⟨_, 0, none⟩ 1 1 [.string tn] rfl rfl (news_at _ _ _ _ (by first | rfl | exact (size1 _ _).symm | (simp; done))) (by intro u hu; simp at hu; subst hu; rfl) (by unfold maxLen; omega) (by omega) (HBA5.out _).size ?_; intro v6 w6 hown hgrow _; have HB6 := Lib.hid (app_below (HBA5.out _) (HBA5.out _).size (HOA5.out _) hgrow); have HO6 := Lib.hid hown; clear hown hgrow; obtain ⟨hx, hez⟩ := HXZ.out _ HB6.out; obtain ⟨c0, c1, c2, c3, c4, c5, d0, d1, d2, d3, d4, d5⟩ := HSS.out _ HB6.out)
  go_wp2_with fail
  refine (some_any _ _ _).mono ?_
  rintro r w7 ⟨rfl, k7⟩
  have HB7 := Lib.hid (HB6.out.trans (k7.mono HB6.out.size))
  have HO7 := Lib.hid (own_below HO6.out k7)
  clear k7
  obtain ⟨hx, hez⟩ := HXZ.out _ HB7.out
  obtain ⟨c0, c1, c2, c3, c4, c5, d0, d1, d2, d3, d4, d5⟩ := HSS.out _ HB7.out
  obtain ⟨a, c, hv, q1, _, q2, _, _⟩ := own_slice HO7.out
  have HQ := Lib.hid q2
  clear q2
  try subst hv
  go_wp2
  go_ret
  refine ⟨a, c, ?_, ?_, ?_, HBB.out _ HB7.out⟩
  · rw [HWS.out]; first | rfl | (rw [← hv]; rfl) | (simpa using hv)
  · rw [HWS.out]; exact q1
  · rw [HWS.out]; exact HQ.out
theorem ewords_any (e : EvM) (hk : isK e.kind = true) (hi : EInts e) (w : World) (hp : Pow10 w) : Calls Tryz.prog 30 #[evV e] w (GivesWords w (wordsE e)) := by
  unfold wordsE
  have hcase : e.kind = 1 ∨ e.kind = 2 ∨ e.kind = 3 ∨ e.kind = 7 ∨ e.kind = 4 ∨ e.kind = 5 ∨ e.kind = 6 := by
    unfold isK at hk
    simp at hk
    omega
  rcases hcase with h | h | h | h | h | h | h
  · have hs : shK e.kind = ⟨true, false, 1, 999, 1, 4⟩ := by rw [h]; rfl
    rw [hs]; exact words_1 e hs hi w hp
  · have hs : shK e.kind = ⟨true, false, 1, 999, 1, 4⟩ := by rw [h]; rfl
    rw [hs]; exact words_1 e hs hi w hp
  · have hs : shK e.kind = ⟨true, false, 1, 999, 0, 0⟩ := by rw [h]; rfl
    rw [hs]; exact words_3 e hs hi w hp
  · have hs : shK e.kind = ⟨true, false, 0, 0, 0, 0⟩ := by rw [h]; rfl
    rw [hs]; exact words_7 e hs hi w hp
  · have hs : shK e.kind = ⟨true, true, 0, 0, 0, 0⟩ := by rw [h]; rfl
    rw [hs]; exact words_4 e hs hi w hp
  · have hs : shK e.kind = ⟨true, true, 0, 0, 0, 0⟩ := by rw [h]; rfl
    rw [hs]; exact words_4 e hs hi w hp
  · have hs : shK e.kind = ⟨false, false, 0, 1099511627775, 0, 0⟩ := by rw [h]; rfl
    rw [hs]; exact words_6 e hs hi w hp
end Go.Proofs.YtollhemkjnkalaaGreatDoor
