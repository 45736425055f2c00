/- SessTells: a user's stays up to a time, all users, the entries of others, which entries rise, and which are the same, are what the document says; for all rows, users and times. No condition. -/
import Derived.Test.YtlgicjebaehgeaaBA19
import Derived.Test.YtlgicjebaehgeaaBA2
namespace Go.Proofs.Ytlgicjebaehgeaa.sessTells
open Go.ChangeShapes Go.WideShapes Go.ChangeAt Go.RowKit
open Go.ChangeMaps (open_string shut_string)
set_option linter.unusedVariables false
set_option maxRecDepth 100000

set_option maxHeartbeats 8000000 in
theorem walk (w : World) (a : Option Addr) (c : Nat) (l : List OpM) (hs : OpSl w a l) (hf : SzO l) (hc : l.length ≤ c) (hcm : c ≤ maxLen) (hn : a = none → c = 0) (b : Option Addr) (q : Nat) (m : List OpM) (hs' : OpSl w b m) (hf' : SzO m) (hc' : m.length ≤ q) (hcm' : q ≤ maxLen) (hn' : b = none → q = 0) (u : ByteArray) (hu : u.size ≤ maxLen) (t : Int) (ht : (Lit.int .i64 t).wf = true) :
    Calls Try.prog 6 #[.agg #[.slice a l.length c, .slice b m.length q], .string u, .int .i64 t] w fun e w' => e = .returned (.bool true) ∧ Below w.heap.size w w' := by
  have HAL := Lib.hid alive_any
  have hb0 := below_one w (.cells #[.slice a l.length c, .slice b m.length q] 59)
  have F : Hid (Fr w (w.alloc (.cells #[.slice a l.length c, .slice b m.length q] 59))) := hb0
  have A := Lib.hid (hs.below hb0)
  have B := Lib.hid (hs'.below hb0)
  have hbx := heap_alloc_new w (.cells #[.slice a l.length c, .slice b m.length q] 59)
  have x0 : (w.alloc (.cells #[.slice a l.length c, .slice b m.length q] 59)).cell? ⟨w.heap.size, 0, none⟩ = some (.slice a l.length c) := cell_of_row _ _ 0 _ _ (0, 0) hbx
  have x1 : (w.alloc (.cells #[.slice a l.length c, .slice b m.length q] 59)).cell? ⟨w.heap.size, 1, none⟩ = some (.slice b m.length q) := cell_of_row _ _ 1 _ _ (0, 0) hbx
  by_cases h1 : 60 < l.length
  · have hd1 : decide ((60 : Int) < (l.length : Int)) = true := decide_eq_true (by omega)
    clear hs hf hc hcm hn hs' hf' hc' hcm' hn' hu ht hb0 A B hbx
    go_enter Try.func6, Try.ntmps6
    go_wp2
    go_quiet (fail)
    have hd := Drew.below (w := w.alloc (.cells #[.slice a l.length c, .slice b m.length q] 59)) (w' := (w.alloc (.cells #[.slice a l.length c, .slice b m.length q] 59)).drewN nq) ⟨nq, rfl⟩ (w.alloc (.cells #[.slice a l.length c, .slice b m.length q] 59)).heap.size
    replace F := Lib.hid (F.out.below hd)
    go_wp2_with fail
    refine (HAL.out _).mono ?_
    rintro e w1 ⟨rfl, hB⟩
    go_wp2
    go_ret
    exact ⟨rfl, F.out.below hB⟩
  have hd1 : decide ((60 : Int) < (l.length : Int)) = false := decide_eq_false (by omega)
  by_cases h2 : 60 < m.length
  · have hd2 : decide ((60 : Int) < (m.length : Int)) = true := decide_eq_true (by omega)
    clear hs hf hc hcm hn hs' hf' hc' hcm' hn' hu ht hb0 A B hbx
    go_enter Try.func6, Try.ntmps6
    go_wp2
    go_quiet (fail)
    have hd := Drew.below (w := w.alloc (.cells #[.slice a l.length c, .slice b m.length q] 59)) (w' := (w.alloc (.cells #[.slice a l.length c, .slice b m.length q] 59)).drewN nq) ⟨nq, rfl⟩ (w.alloc (.cells #[.slice a l.length c, .slice b m.length q] 59)).heap.size
    replace F := Lib.hid (F.out.below hd)
    go_wp2_with fail
    refine (HAL.out _).mono ?_
    rintro e w1 ⟨rfl, hB⟩
    go_wp2
    go_ret
    exact ⟨rfl, F.out.below hB⟩
  have hd2 : decide ((60 : Int) < (m.length : Int)) = false := decide_eq_false (by omega)
  have hsl : (staysO l u t).length ≤ 60 := by
    have h := staysO_len l u t l.length
    rw [List.take_of_length_le (Nat.le_refl _)] at h
    omega
  have hul : (srt (usO l)).length ≤ 60 := by have h := srt_len (usO l); rw [usO_len] at h; omega
  have hwl : (l.filter (notU u)).length ≤ 60 := by have h := List.length_filter_le (notU u) l; omega
  have HN := Lib.hid (fun W (h : OpSl W a l) => o_news a c l W h (by omega))
  have HN2 := Lib.hid (fun W (h : OpSl W b m) => o_news b q m W h (by omega))
  have HST := Lib.hid (fun x r W (h : OpSl W x l) => o_stays x r l u t W h (by omega))
  have HRS := Lib.hid (fun W (h : OpSl W a l) => o_rstays a c l u t W h (by omega))
  have HSO := Lib.hid (fun x r W (h : StSl W x (staysO l u t)) => o_solds x r (staysO l u t) W h (by omega))
  have HSS := Lib.hid (fun x y r s W (h : StSl W x (staysO l u t)) (k : StSl W y (staysO l u t)) => o_ssame x y r s (staysO l u t) W h k (by omega))
  have HUS := Lib.hid (fun x r W (h : OpSl W x l) => o_users x r l W h (by omega))
  have HRU := Lib.hid (fun W (h : OpSl W a l) => o_rusers a c l W h hf (by omega))
  have HTS := Lib.hid (fun x y r s W (h : Sl W x (strs (srt (usO l)))) (k : Sl W y (strs (srt (usO l)))) => o_tsame x y r s (srt (usO l)) W h k (by omega))
  have HWI := Lib.hid (fun x r W (h : OpSl W x l) => o_without x r l u W h (by omega))
  have HRW := Lib.hid (fun W (h : OpSl W a l) => o_rwithout a c l u W h (by omega))
  have HOW := Lib.hid (fun x r W (h : OpSl W x (l.filter (notU u))) => o_olds x r (l.filter (notU u)) W h (by omega))
  have HSW := Lib.hid (fun x y r s W (h : OpSl W x (l.filter (notU u))) (k : OpSl W y (l.filter (notU u))) => o_rsame1 x y r s (l.filter (notU u)) W h k (by omega))
  have HR1 := Lib.hid (fun x r W (h : OpSl W x l) => o_rising x r l W h hf (by omega))
  have HR2 := Lib.hid (fun W (h : OpSl W a l) => o_rrising a c l W h hf (by omega))
  have HS1 := Lib.hid (fun x y r s W (h : OpSl W x l) (k : OpSl W y m) => o_same x y r s l m W h k (by omega) (by omega))
  have HS2 := Lib.hid (fun W (h : OpSl W a l) (k : OpSl W b m) => o_rsame a b c q l m W h k (by omega) (by omega))
  have hbb : ∀ z : Bool, (z == z) = true := fun z => beq_self_eq_true z
  generalize decide (RiseO l) = r1 at *
  generalize decide (l = m) = r2 at *
  generalize staysO l u t = sl at *
  generalize srt (usO l) = ul at *
  generalize l.filter (notU u) = wl at *
  have he1 := hbb r1
  have he2 := hbb r2
  clear hs hf hc hcm hn hs' hf' hc' hcm' hn' hu ht hb0 hbx h1 h2 hbb hsl hul hwl
  go_enter Try.func6, Try.ntmps6
  go_wp2
  go_quiet (fail)
  have hd := Drew.below (w := w.alloc (.cells #[.slice a l.length c, .slice b m.length q] 59)) (w' := (w.alloc (.cells #[.slice a l.length c, .slice b m.length q] 59)).drewN nq) ⟨nq, rfl⟩ (w.alloc (.cells #[.slice a l.length c, .slice b m.length q] 59)).heap.size
  replace F := Lib.hid (F.out.below hd)
  replace A := Lib.hid (A.out.below hd)
  replace B := Lib.hid (B.out.below hd)
  clear hd x0 x1
  go_wp2_with fail
  refine (HN.out _ A.out).mono ?_
  rintro e w1 ⟨y1, p1, rfl, k1, m1, -, z1, h1⟩
  have Z1 := Lib.hid z1
  replace F := Lib.hid (F.out.below h1)
  replace A := Lib.hid (A.out.below h1)
  replace B := Lib.hid (B.out.below h1)
  clear z1 h1
  go_wp2_with fail
  refine (HAL.out _).mono ?_
  rintro e w2 ⟨rfl, h1⟩
  replace F := Lib.hid (F.out.below h1)
  replace A := Lib.hid (A.out.below h1)
  replace B := Lib.hid (B.out.below h1)
  replace Z1 := Lib.hid (Z1.out.below h1)
  clear h1
  go_wp2_with fail
  refine (HST.out y1 p1 _ Z1.out).mono ?_
  rintro e w3 ⟨y2, p2, rfl, -, -, -, z1, h1⟩
  have Z2 := Lib.hid z1
  replace F := Lib.hid (F.out.below h1)
  replace A := Lib.hid (A.out.below h1)
  replace B := Lib.hid (B.out.below h1)
  replace Z1 := Lib.hid (Z1.out.below h1)
  clear z1 h1
  go_wp2_with fail
  refine (HSO.out y2 p2 _ Z2.out).mono ?_
  rintro e w4 ⟨y3, p3, rfl, -, -, -, z1, h1⟩
  have Z3 := Lib.hid z1
  replace F := Lib.hid (F.out.below h1)
  replace A := Lib.hid (A.out.below h1)
  replace B := Lib.hid (B.out.below h1)
  replace Z1 := Lib.hid (Z1.out.below h1)
  clear z1 h1 Z2
  go_wp2_with fail
  refine (HRS.out _ A.out).mono ?_
  rintro e w5 ⟨y4, p4, rfl, z1, h1⟩
  have Z4 := Lib.hid z1
  replace F := Lib.hid (F.out.below h1)
  replace A := Lib.hid (A.out.below h1)
  replace B := Lib.hid (B.out.below h1)
  replace Z1 := Lib.hid (Z1.out.below h1)
  replace Z3 := Lib.hid (Z3.out.below h1)
  clear z1 h1
  go_wp2_with fail
  refine (HSS.out y3 y4 p3 p4 _ Z3.out Z4.out).mono ?_
  rintro e w6 ⟨rfl, h1⟩
  replace F := Lib.hid (F.out.below h1)
  replace A := Lib.hid (A.out.below h1)
  replace B := Lib.hid (B.out.below h1)
  replace Z1 := Lib.hid (Z1.out.below h1)
  clear h1 Z3 Z4
  go_wp2_with fail
  refine (HUS.out y1 p1 _ Z1.out).mono ?_
  rintro e w7 ⟨y5, p5, rfl, z1, h1⟩
  have Z5 := Lib.hid z1
  replace F := Lib.hid (F.out.below h1)
  replace A := Lib.hid (A.out.below h1)
  replace B := Lib.hid (B.out.below h1)
  replace Z1 := Lib.hid (Z1.out.below h1)
  clear z1 h1
  go_wp2_with fail
  refine (HRU.out _ A.out).mono ?_
  rintro e w8 ⟨y6, p6, rfl, z1, h1⟩
  have Z6 := Lib.hid z1
  replace F := Lib.hid (F.out.below h1)
  replace A := Lib.hid (A.out.below h1)
  replace B := Lib.hid (B.out.below h1)
  replace Z1 := Lib.hid (Z1.out.below h1)
  replace Z5 := Lib.hid (Z5.out.below h1)
  clear z1 h1
  go_wp2_with fail
  refine (HTS.out y5 y6 p5 p6 _ Z5.out Z6.out).mono ?_
  rintro e w9 ⟨rfl, h1⟩
  replace F := Lib.hid (F.out.below h1)
  replace A := Lib.hid (A.out.below h1)
  replace B := Lib.hid (B.out.below h1)
  replace Z1 := Lib.hid (Z1.out.below h1)
  clear h1 Z5 Z6
  go_wp2_with fail
  refine (HWI.out y1 p1 _ Z1.out).mono ?_
  rintro e w10 ⟨y7, p7, rfl, -, -, -, z1, h1⟩
  have Z7 := Lib.hid z1
  replace F := Lib.hid (F.out.below h1)
  replace A := Lib.hid (A.out.below h1)
  replace B := Lib.hid (B.out.below h1)
  replace Z1 := Lib.hid (Z1.out.below h1)
  clear z1 h1
  go_wp2_with fail
  refine (HOW.out y7 p7 _ Z7.out).mono ?_
  rintro e w11 ⟨y8, p8, rfl, -, -, -, z1, h1⟩
  have Z8 := Lib.hid z1
  replace F := Lib.hid (F.out.below h1)
  replace A := Lib.hid (A.out.below h1)
  replace B := Lib.hid (B.out.below h1)
  replace Z1 := Lib.hid (Z1.out.below h1)
  clear z1 h1 Z7
  go_wp2_with fail
  refine (HRW.out _ A.out).mono ?_
  rintro e w12 ⟨y9, p9, rfl, -, -, -, z1, h1⟩
  have Z9 := Lib.hid z1
  replace F := Lib.hid (F.out.below h1)
  replace A := Lib.hid (A.out.below h1)
  replace B := Lib.hid (B.out.below h1)
  replace Z1 := Lib.hid (Z1.out.below h1)
  replace Z8 := Lib.hid (Z8.out.below h1)
  clear z1 h1
  go_wp2_with fail
  refine (HSW.out y8 y9 p8 p9 _ Z8.out Z9.out).mono ?_
  rintro e w13 ⟨rfl, h1⟩
  replace F := Lib.hid (F.out.below h1)
  replace A := Lib.hid (A.out.below h1)
  replace B := Lib.hid (B.out.below h1)
  replace Z1 := Lib.hid (Z1.out.below h1)
  clear h1 Z8 Z9
  go_wp2_with fail
  refine (HR1.out y1 p1 _ Z1.out).mono ?_
  rintro e w14 ⟨rfl, h1⟩
  replace F := Lib.hid (F.out.below h1)
  replace A := Lib.hid (A.out.below h1)
  replace B := Lib.hid (B.out.below h1)
  replace Z1 := Lib.hid (Z1.out.below h1)
  clear h1
  go_wp2_with fail
  refine (HR2.out _ A.out).mono ?_
  rintro e w15 ⟨rfl, h1⟩
  replace F := Lib.hid (F.out.below h1)
  replace A := Lib.hid (A.out.below h1)
  replace B := Lib.hid (B.out.below h1)
  replace Z1 := Lib.hid (Z1.out.below h1)
  clear h1
  go_wp2_with fail
  refine (HN2.out _ B.out).mono ?_
  rintro e w16 ⟨y10, p10, rfl, -, -, -, z1, h1⟩
  have Z10 := Lib.hid z1
  replace F := Lib.hid (F.out.below h1)
  replace A := Lib.hid (A.out.below h1)
  replace B := Lib.hid (B.out.below h1)
  replace Z1 := Lib.hid (Z1.out.below h1)
  clear z1 h1
  go_wp2_with fail
  refine (HS1.out y1 y10 p1 p10 _ Z1.out Z10.out).mono ?_
  rintro e w17 ⟨rfl, h1⟩
  replace F := Lib.hid (F.out.below h1)
  replace A := Lib.hid (A.out.below h1)
  replace B := Lib.hid (B.out.below h1)
  replace Z1 := Lib.hid (Z1.out.below h1)
  clear h1 Z10
  go_wp2_with fail
  refine (HS2.out _ A.out B.out).mono ?_
  rintro e w18 ⟨rfl, h1⟩
  replace F := Lib.hid (F.out.below h1)
  replace A := Lib.hid (A.out.below h1)
  replace B := Lib.hid (B.out.below h1)
  replace Z1 := Lib.hid (Z1.out.below h1)
  clear h1
  go_wp2
  go_ret
  exact ⟨rfl, F.out⟩

set_option maxRecDepth 100000 in
theorem lifted (os : Os) (started : os.Started) (H : Type) (enc : TypeId × Value → H) :
    ReturnsInHanded {} Try.checked os 6 .any (Rows.sessTellsSpec.pre6 enc Try.prog Try.f6 Rows.sessTellsRow.domain false) (Rows.sessTellsSpec.post enc Try.prog Try.f6 false true false false) := by
  refine returnsInHanded_of_change (C := Try.checked) own started (by kernel_rfl) Try.func6
    (ChangeSpec.witness6 (enc := enc) (C := Try.checked) false ⟨#[], #[.agg #[.slice none 0 0, .slice none 0 0], .string ByteArray.empty, .int .i64 0], []⟩ 8 (by kernel_rfl) (by kernel_rfl) (by kernel_rfl) (by kernel_rfl)) ?_
  intro W base args ds gs before hval0 hW hcnd _
  have hval : ∀ (j : Nat) t v, Try.f6.params[j]? = some t → args[j]? = some v → Value.okWide Try.prog W .any base t v := hval0
  have hW' := hW
  have hlt := hW.lt
  obtain ⟨p, q, hA0, hV, rfl, hfz, hnd⟩ := hW
  have hA : DataW.TrodAll enc Try.prog W 0 (fun _ => true) true Try.f6.params.toList args.toList ds p := hA0
  rw [Try.params6] at hA hval
  obtain ⟨v0, vs0, d0, ds0, p0, q0, hargs, rfl, rfl, h0, r0⟩ := trodAll_cons hA
  obtain ⟨v1, vs1, d1, ds1, p1, q1, rfl, rfl, rfl, h1, r1⟩ := trodAll_cons r0
  obtain ⟨v2, vs2, d2, ds2, p2, q2, rfl, rfl, rfl, h2, r2⟩ := trodAll_cons r1
  obtain ⟨rfl, rfl, rfl⟩ := trodAll_nil r2
  obtain rfl : args = #[v0, v1, v2] := by cases args; simp_all
  obtain ⟨a0, b0, c0, q0, l0, k0, rfl, ⟨s0, f0, m0, n0, o0⟩, ⟨s0', f0', m0', n0', o0'⟩⟩ := open_sess2 (hval 0 59 v0 rfl rfl) h0
  obtain ⟨a1, rfl, -, -, w1⟩ := open_string Try.underlying9 (hval 1 9 v1 rfl rfl) h1
  obtain ⟨a2, rfl, -, -, w2⟩ := open_int Try.underlying3 (hval 2 3 v2 rfl rfl) h2
  refine (walk W a0 c0 l0 s0 f0 m0 n0 o0 b0 q0 k0 s0' f0' m0' n0' o0' a1 w1 a2 w2).mono fun e W' ⟨he, hb⟩ => ?_
  subst he
  exact ⟨_, rfl, law_post rfl hW' (fun ds h => by match ds, h with | [_, _, _], _ => rfl) (by kernel_rfl) (by kernel_rfl) (by kernel_rfl) hb⟩

theorem over : Rows.sessTellsRow.holds Try.pinned (OpenSpec.ofChange Rows.sessTellsSpec) :=
  OpenClaim.holds_of_wide 6 Try.f6 rfl rfl rfl rfl rfl rfl rfl ⟨rfl, rfl, rfl, rfl, rfl⟩ rfl rfl rfl rfl rfl (by kernel_rfl) Try.func6 (by kernel_rfl)
    (of_decide_eq_true (by kernel_rfl)) (by unfold Func.isWrapper; first | (rw [if_pos (by decide +kernel)]; kernel_rfl) | (rw [if_neg (by decide +kernel)]; exact ⟨rfl, rfl⟩))
    (fun os started H enc _ => lifted os started H enc)

theorem proved : Rows.SessTellsSaid := over
end Go.Proofs.Ytlgicjebaehgeaa.sessTells
