/- Texts of mine, one behind the other, of each what is wanted. -/
import Derived.Test.YtmfpjapiijgdgaaGreatQ00
import Derived.Test.YtmfpjapiijgdgaaGreatQ01
import Derived.Test.YtmfpjapiijgdgaaGreatQ04
import Derived.Test.YtmfpjapiijgdgaaGreatQ16
import Derived.Test.YtmfpjapiijgdgaaGreatQ27
namespace Go.Proofs.YtmfpjapiijgdgaaGreat
open Go.RowKit
set_option linter.unusedVariables false
set_option maxRecDepth 100000
set_option maxRecDepth 100000
theorem noT_eq (s : ByteArray) : noT s = s.toList.isEmpty := by
 unfold noT
 rw [show (⟨#[]⟩ : ByteArray) = tx [] from rfl, toList_tx]
 cases s.toList <;> rfl
def sessB (e : EvM) : Bool := inB 1 999 e.n && (isN e.user && noT e.other)
set_option maxHeartbeats 2000000 in
theorem session_any (e : EvM) (he : EFits e) (w : World) : Calls Tryz.prog 203 #[evV e] w fun r w' => r = .returned (.bool (sessB e)) ∧ Below w.heap.size w w' := by
 have HN := Lib.hid (fun W => refRightN_any e.user W he.1)
 have HBB := Lib.hid (fun o => (Below.refl w.heap.size w).alloc (Nat.le_refl _) o)
 have HR : Hid (sessB e = (inB 1 999 e.n && (isN e.user && noT e.other))) := rfl
 unfold noT inB at HR
 unfold evV
 generalize sessB e = R at *
 generalize isN e.user = b at *
 clear he
 by_cases h1 : 1 ≤ e.n
 ·by_cases h2 : e.n ≤ 999
  ·cases b
   ·go_enter Tryz.func203, Tryz.ntmps203
    go_wp2_with fail
    refine (HN.out _).mono ?_
    rintro r w1 ⟨rfl, rfl⟩
    go_wp2
    go_ret
    exact ⟨retB (by rw [HR.out]; simp), HBB.out _⟩
   ·go_enter Tryz.func203, Tryz.ntmps203
    go_wp2_with fail
    refine (HN.out _).mono ?_
    rintro r w1 ⟨rfl, rfl⟩
    go_wp2
    go_ret
    exact ⟨retB (by rw [HR.out]; simp [h1, h2]), HBB.out _⟩
  ·go_enter Tryz.func203, Tryz.ntmps203
   go_wp2
   go_ret
   exact ⟨retB (by rw [HR.out]; simp; omega), HBB.out _⟩
 ·go_enter Tryz.func203, Tryz.ntmps203
  go_wp2
  go_ret
  exact ⟨retB (by rw [HR.out]; simp; omega), HBB.out _⟩
set_option maxHeartbeats 8000000 in
theorem evrefRight_any (e : EvM) (he : EFits e) (w : World) : Calls Tryz.prog 144 #[evV e] w fun r w' => r = .returned (.bool (rightE e)) ∧ Below w.heap.size w w' := by
 have HN := Lib.hid (fun W => refRightN_any e.user W he.1)
 have HO := Lib.hid (fun W => refRightN_any e.other W he.2)
 have HSE := Lib.hid (fun W => session_any e he W)
 have HBB := Lib.hid (fun o => (Below.refl w.heap.size w).alloc (Nat.le_refl _) o)
 have HR : Hid (rightE e = (isK e.kind && (inB 0 1099511627775 e.at_ && (rText e.user (shK e.kind).user && (rText e.other (shK e.kind).other && (inB (shK e.kind).n0 (shK e.kind).n1 e.n && inB (shK e.kind).s0 (shK e.kind).s1 e.status)))))) := rfl
 have HS : Hid (sessB e = (inB 1 999 e.n && (isN e.user && noT e.other))) := rfl
 have HCB : Hid (∀ W, Below (w.alloc (.cells #[.int .i64 e.kind, .int .i64 e.at_, .string e.user, .string e.other, .int .i64 e.n, .int .i64 e.status] 47)).heap.size (w.alloc (.cells #[.int .i64 e.kind, .int .i64 e.at_, .string e.user, .string e.other, .int .i64 e.n, .int .i64 e.status] 47)) W → W.heap[w.heap.size]? = some (.cells #[.int .i64 e.kind, .int .i64 e.at_, .string e.user, .string e.other, .int .i64 e.n, .int .i64 e.status] 47 (0, 0)) ∧ Below w.heap.size w W) := fun W hb => ⟨(hb.block _ (by rw [size1]; omega)).trans (heap_alloc_new w _), ((Below.refl _ _).alloc (Nat.le_refl _) _).trans (hb.mono (by rw [size1]; omega))⟩
 clear he
 unfold evV at *
 generalize rightE e = R at *
 by_cases ha0 : e.at_ < 0
 ·go_enter Tryz.func144, Tryz.ntmps144
  go_wp2
  go_ret
  exact ⟨retB (by rw [HR.out]; unfold inB; simp; omega), HBB.out _⟩
 by_cases ha1 : 1099511627776 ≤ e.at_
 ·go_enter Tryz.func144, Tryz.ntmps144
  go_wp2
  go_ret
  exact ⟨retB (by rw [HR.out]; unfold inB; simp; omega), HBB.out _⟩
 have hat : inB 0 1099511627775 e.at_ = true := by unfold inB; simp; omega
 rw [hat] at HR
 clear hat
 obtain ⟨kind, at_, user, other, n, status⟩ := e
 dsimp only at *
 have hcase : kind = 1 ∨ kind = 2 ∨ kind = 3 ∨ kind = 4 ∨ kind = 5 ∨ kind = 6 ∨ kind = 7 ∨ (kind < 1 ∨ 7 < kind) := by omega
 rcases hcase with rfl | rfl | rfl | rfl | rfl | rfl | rfl | hk
 ·have HR2 : Hid (R = (sessB ⟨1, at_, user, other, n, status⟩ && inB 1 4 status)) := by
   unfold Hid
   rw [HR.out, HS.out]
   simp only [shK, isK, rText, inB]
   cases isN user <;> cases noT other <;> simp <;> (try omega) <;> (try (rw [Bool.eq_iff_iff]; simp; omega))
  clear HR HS
  generalize sessB ⟨1, at_, user, other, n, status⟩ = b at *
  cases b
  ·go_enter Tryz.func144, Tryz.ntmps144
   go_wp2_with fail
   refine (HSE.out _).mono ?_
   rintro r w1 ⟨rfl, h1⟩
   have HB1 := Lib.hid (HCB.out _ h1)
   clear h1
   go_wp2
   go_ret
   exact ⟨retB (by rw [HR2.out]; simp), HB1.out.2⟩
  ·go_enter Tryz.func144, Tryz.ntmps144
   go_wp2_with fail
   refine (HSE.out _).mono ?_
   rintro r w1 ⟨rfl, h1⟩
   have HB1 := Lib.hid (HCB.out _ h1)
   obtain ⟨x0, x1, x2, x3, x4, x5⟩ := (cells6 HB1.out.1).1
   clear h1
   by_cases h3 : 1 ≤ status
   ·go_wp2
    go_ret
    exact ⟨retB (by rw [HR2.out]; unfold inB; simp [h3]), HB1.out.2⟩
   ·go_wp2
    go_ret
    exact ⟨retB (by rw [HR2.out]; unfold inB; simp; omega), HB1.out.2⟩
 ·have HR2 : Hid (R = (sessB ⟨2, at_, user, other, n, status⟩ && inB 1 4 status)) := by
   unfold Hid
   rw [HR.out, HS.out]
   simp only [shK, isK, rText, inB]
   cases isN user <;> cases noT other <;> simp <;> (try omega) <;> (try (rw [Bool.eq_iff_iff]; simp; omega))
  clear HR HS
  generalize sessB ⟨2, at_, user, other, n, status⟩ = b at *
  cases b
  ·go_enter Tryz.func144, Tryz.ntmps144
   go_wp2_with fail
   refine (HSE.out _).mono ?_
   rintro r w1 ⟨rfl, h1⟩
   have HB1 := Lib.hid (HCB.out _ h1)
   clear h1
   go_wp2
   go_ret
   exact ⟨retB (by rw [HR2.out]; simp), HB1.out.2⟩
  ·go_enter Tryz.func144, Tryz.ntmps144
   go_wp2_with fail
   refine (HSE.out _).mono ?_
   rintro r w1 ⟨rfl, h1⟩
   have HB1 := Lib.hid (HCB.out _ h1)
   obtain ⟨x0, x1, x2, x3, x4, x5⟩ := (cells6 HB1.out.1).1
   clear h1
   by_cases h3 : 1 ≤ status
   ·go_wp2
    go_ret
    exact ⟨retB (by rw [HR2.out]; unfold inB; simp [h3]), HB1.out.2⟩
   ·go_wp2
    go_ret
    exact ⟨retB (by rw [HR2.out]; unfold inB; simp; omega), HB1.out.2⟩
 ·have HR2 : Hid (R = (sessB ⟨3, at_, user, other, n, status⟩ && (status == 0))) := by
   unfold Hid
   rw [HR.out, HS.out]
   simp only [shK, isK, rText, inB]
   cases isN user <;> cases noT other <;> simp <;> (try omega) <;> (try (rw [Bool.eq_iff_iff]; simp; omega))
  clear HR HS
  generalize sessB ⟨3, at_, user, other, n, status⟩ = b at *
  cases b
  ·go_enter Tryz.func144, Tryz.ntmps144
   go_wp2_with fail
   refine (HSE.out _).mono ?_
   rintro r w1 ⟨rfl, h1⟩
   have HB1 := Lib.hid (HCB.out _ h1)
   clear h1
   go_wp2
   go_ret
   exact ⟨retB (by rw [HR2.out]; simp), HB1.out.2⟩
  ·go_enter Tryz.func144, Tryz.ntmps144
   go_wp2_with fail
   refine (HSE.out _).mono ?_
   rintro r w1 ⟨rfl, h1⟩
   have HB1 := Lib.hid (HCB.out _ h1)
   obtain ⟨x0, x1, x2, x3, x4, x5⟩ := (cells6 HB1.out.1).1
   clear h1
   go_wp2
   go_ret
   exact ⟨retB (by rw [HR2.out]; simp), HB1.out.2⟩
 ·have HR2 : Hid (R = (isN user && (isN other && ((n == 0) && (status == 0))))) := by
   unfold Hid
   rw [HR.out]
   simp only [shK, isK, rText, inB]
   cases isN user <;> cases isN other <;> simp <;> (try omega) <;> (try (rw [Bool.eq_iff_iff]; simp; omega))
  clear HR HS HSE
  generalize isN user = bu at *
  generalize isN other = bo at *
  cases bu
  ·go_enter Tryz.func144, Tryz.ntmps144
   go_wp2_with fail
   refine (HN.out _).mono ?_
   rintro r w1 ⟨rfl, rfl⟩
   go_wp2
   go_ret
   exact ⟨retB (by rw [HR2.out]; simp), HBB.out _⟩
  cases bo
  ·go_enter Tryz.func144, Tryz.ntmps144
   go_wp2_with fail
   refine (HN.out _).mono ?_
   rintro r w1 ⟨rfl, rfl⟩
   go_wp2_with fail
   refine (HO.out _).mono ?_
   rintro r w1 ⟨rfl, rfl⟩
   go_wp2
   go_ret
   exact ⟨retB (by rw [HR2.out]; simp), HBB.out _⟩
  by_cases h0 : n = 0
  ·subst h0
   go_enter Tryz.func144, Tryz.ntmps144
   go_wp2_with fail
   refine (HN.out _).mono ?_
   rintro r w1 ⟨rfl, rfl⟩
   go_wp2_with fail
   refine (HO.out _).mono ?_
   rintro r w1 ⟨rfl, rfl⟩
   go_wp2
   go_ret
   exact ⟨retB (by rw [HR2.out]; simp), HBB.out _⟩
  ·have h0b : (n == 0) = false := by simpa using h0
   go_enter Tryz.func144, Tryz.ntmps144
   go_wp2_with fail
   refine (HN.out _).mono ?_
   rintro r w1 ⟨rfl, rfl⟩
   go_wp2_with fail
   refine (HO.out _).mono ?_
   rintro r w1 ⟨rfl, rfl⟩
   go_wp2
   go_ret
   exact ⟨retB (by rw [HR2.out, h0b]; simp), HBB.out _⟩
 ·have HR2 : Hid (R = (isN user && (isN other && ((n == 0) && (status == 0))))) := by
   unfold Hid
   rw [HR.out]
   simp only [shK, isK, rText, inB]
   cases isN user <;> cases isN other <;> simp <;> (try omega) <;> (try (rw [Bool.eq_iff_iff]; simp; omega))
  clear HR HS HSE
  generalize isN user = bu at *
  generalize isN other = bo at *
  cases bu
  ·go_enter Tryz.func144, Tryz.ntmps144
   go_wp2_with fail
   refine (HN.out _).mono ?_
   rintro r w1 ⟨rfl, rfl⟩
   go_wp2
   go_ret
   exact ⟨retB (by rw [HR2.out]; simp), HBB.out _⟩
  cases bo
  ·go_enter Tryz.func144, Tryz.ntmps144
   go_wp2_with fail
   refine (HN.out _).mono ?_
   rintro r w1 ⟨rfl, rfl⟩
   go_wp2_with fail
   refine (HO.out _).mono ?_
   rintro r w1 ⟨rfl, rfl⟩
   go_wp2
   go_ret
   exact ⟨retB (by rw [HR2.out]; simp), HBB.out _⟩
  by_cases h0 : n = 0
  ·subst h0
   go_enter Tryz.func144, Tryz.ntmps144
   go_wp2_with fail
   refine (HN.out _).mono ?_
   rintro r w1 ⟨rfl, rfl⟩
   go_wp2_with fail
   refine (HO.out _).mono ?_
   rintro r w1 ⟨rfl, rfl⟩
   go_wp2
   go_ret
   exact ⟨retB (by rw [HR2.out]; simp), HBB.out _⟩
  ·have h0b : (n == 0) = false := by simpa using h0
   go_enter Tryz.func144, Tryz.ntmps144
   go_wp2_with fail
   refine (HN.out _).mono ?_
   rintro r w1 ⟨rfl, rfl⟩
   go_wp2_with fail
   refine (HO.out _).mono ?_
   rintro r w1 ⟨rfl, rfl⟩
   go_wp2
   go_ret
   exact ⟨retB (by rw [HR2.out, h0b]; simp), HBB.out _⟩
 ·have HR2 : Hid (R = (user.toList.isEmpty && (other.toList.isEmpty && ((status == 0) && (decide (0 ≤ n) && decide (n < 1099511627776)))))) := by
   unfold Hid
   rw [HR.out]
   simp only [shK, isK, rText, inB, noT_eq]
   cases user.toList.isEmpty <;> cases other.toList.isEmpty <;> simp <;> (try omega) <;> (try (rw [Bool.eq_iff_iff]; simp; omega))
  clear HR HS HSE HN HO
  cases hu : user.toList.isEmpty
  ·go_enter Tryz.func144, Tryz.ntmps144
   go_wp2
   go_ret
   exact ⟨retB (by rw [HR2.out, hu]; simp), HBB.out _⟩
  cases ho : other.toList.isEmpty
  ·go_enter Tryz.func144, Tryz.ntmps144
   go_wp2
   go_ret
   exact ⟨retB (by rw [HR2.out, hu, ho]; simp), HBB.out _⟩
  by_cases h0 : status = 0
  ·subst h0
   by_cases h1 : 0 ≤ n
   ·go_enter Tryz.func144, Tryz.ntmps144
    go_wp2
    go_ret
    exact ⟨retB (by rw [HR2.out, hu, ho]; simp [h1]), HBB.out _⟩
   ·go_enter Tryz.func144, Tryz.ntmps144
    go_wp2
    go_ret
    exact ⟨retB (by rw [HR2.out, hu, ho]; simp; omega), HBB.out _⟩
  ·have h0b : (status == 0) = false := by simpa using h0
   go_enter Tryz.func144, Tryz.ntmps144
   go_wp2
   go_ret
   exact ⟨retB (by rw [HR2.out, hu, ho, h0b]; simp), HBB.out _⟩
 ·have HR2 : Hid (R = (isN user && (other.toList.isEmpty && ((n == 0) && (status == 0))))) := by
   unfold Hid
   rw [HR.out]
   simp only [shK, isK, rText, inB, noT_eq]
   cases isN user <;> cases other.toList.isEmpty <;> simp <;> (try omega) <;> (try (rw [Bool.eq_iff_iff]; simp; omega))
  clear HR HS HSE HO
  generalize isN user = bu at *
  cases bu
  ·go_enter Tryz.func144, Tryz.ntmps144
   go_wp2_with fail
   refine (HN.out _).mono ?_
   rintro r w1 ⟨rfl, rfl⟩
   go_wp2
   go_ret
   exact ⟨retB (by rw [HR2.out]; simp), HBB.out _⟩
  cases ho : other.toList.isEmpty
  ·go_enter Tryz.func144, Tryz.ntmps144
   go_wp2_with fail
   refine (HN.out _).mono ?_
   rintro r w1 ⟨rfl, rfl⟩
   go_wp2
   go_ret
   exact ⟨retB (by rw [HR2.out, ho]; simp), HBB.out _⟩
  by_cases h0 : n = 0
  ·subst h0
   go_enter Tryz.func144, Tryz.ntmps144
   go_wp2_with fail
   refine (HN.out _).mono ?_
   rintro r w1 ⟨rfl, rfl⟩
   go_wp2
   go_ret
   exact ⟨retB (by rw [HR2.out, ho]; simp), HBB.out _⟩
  ·have h0b : (n == 0) = false := by simpa using h0
   go_enter Tryz.func144, Tryz.ntmps144
   go_wp2_with fail
   refine (HN.out _).mono ?_
   rintro r w1 ⟨rfl, rfl⟩
   go_wp2
   go_ret
   exact ⟨retB (by rw [HR2.out, ho, h0b]; simp), HBB.out _⟩
 ·have hik : isK kind = false := by unfold isK; rcases hk with hk | hk <;> simp <;> omega
  rw [hik] at HR
  have k1 : (kind == 1) = false := by simp; omega
  have k2 : (kind == 2) = false := by simp; omega
  have k3 : (kind == 3) = false := by simp; omega
  have k4 : (kind == 4) = false := by simp; omega
  have k5 : (kind == 5) = false := by simp; omega
  have k6 : (kind == 6) = false := by simp; omega
  have k7 : (kind == 7) = false := by simp; omega
  go_enter Tryz.func144, Tryz.ntmps144
  go_wp2
  go_ret
  exact ⟨retB (by rw [HR.out]; simp), HBB.out _⟩
end Go.Proofs.YtmfpjapiijgdgaaGreat
