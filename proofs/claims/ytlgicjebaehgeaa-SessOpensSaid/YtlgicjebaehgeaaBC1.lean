/- SessOpens: what opening a session makes of any entries, or why it is refused, is what the document says, and what was given stays as it was; for all rows and entries. No condition. -/
import Derived.Test.YtlgicjebaehgeaaBA19
import Derived.Test.YtlgicjebaehgeaaBA2
namespace Go.Proofs.Ytlgicjebaehgeaa.sessOpens
open Go.ChangeShapes Go.WideShapes Go.ChangeAt Go.RowKit
open Go.ChangeMaps (open_string shut_string)
set_option linter.unusedVariables false
set_option maxRecDepth 100000

theorem sz_open {l : List OpM} {e : OpM} (h : SzO l) (k : e.u.size ≤ maxLen) : SzO (openR l e) := fun x hx => by
  unfold openR at hx
  split at hx
  · unfold openS at hx
    rcases List.mem_append.1 hx with h1 | h1
    · exact h x (List.mem_of_mem_take h1)
    · rcases List.mem_cons.1 h1 with rfl | h1
      · exact k
      · exact h x (List.mem_of_mem_drop h1)
  · cases hx
set_option maxHeartbeats 8000000 in
theorem walk (w : World) (a : Option Addr) (c : Nat) (l : List OpM) (hs : OpSl w a l) (hf : SzO l) (hc : l.length ≤ c) (hcm : c ≤ maxLen) (hn : a = none → c = 0) (p : OpM) (hp : p.u.size ≤ maxLen) :
    Calls Try.prog 3 #[.slice a l.length c, .agg #[.int .i64 p.n, .string p.u, .int .i64 p.s, .int .i64 p.f]] w fun e w' => e = .returned (.bool true) ∧ Below w.heap.size w w' := by
  have HAL := Lib.hid alive_any
  have hb0 := below_one w (.cells #[.int .i64 p.n, .string p.u, .int .i64 p.s, .int .i64 p.f] 24)
  have F : Hid (Fr w (w.alloc (.cells #[.int .i64 p.n, .string p.u, .int .i64 p.s, .int .i64 p.f] 24))) := hb0
  have A := Lib.hid (hs.below hb0)
  have E := Lib.hid (Bk.new w (.int .i64 p.n) (.string p.u) (.int .i64 p.s) (.int .i64 p.f) 24)
  by_cases h1 : 60 < l.length
  · have hd1 : decide ((60 : Int) < (l.length : Int)) = true := decide_eq_true (by omega)
    clear hs hf hc hcm hn hp hb0 A E
    go_enter Try.func3, Try.ntmps3
    go_wp2_with fail
    refine (HAL.out _).mono ?_
    rintro e w1 ⟨rfl, hB⟩
    go_wp2
    go_ret
    exact ⟨rfl, F.out.below hB⟩
  have hd1 : decide ((60 : Int) < (l.length : Int)) = false := decide_eq_false (by omega)
  have HN := Lib.hid (fun W (h : OpSl W a l) => o_news a c l W h (by omega))
  have HO := Lib.hid (fun x q W (h : OpSl W x l) h1 h2 h3 => o_open x q l p W h h1 (by omega) h2 h3)
  have HRO := Lib.hid (fun W (h : OpSl W a l) => o_ropen a c l p W h hn (by omega) hc hcm)
  have HL1 := Lib.hid (fun x q W (h : OpSl W x (openR l p)) => o_olds x q (openR l p) W h (by have := openR_len l p; omega))
  have HS1 := Lib.hid (fun x y q r W (h : OpSl W x (openR l p)) (k : OpSl W y (openR l p)) => o_rsame1 x y q r (openR l p) W h k (by have := openR_len l p; omega))
  have HL2 := Lib.hid (fun x q W (h : OpSl W x l) => o_olds x q l W h (by omega))
  have HS2 := Lib.hid (fun x q W (h : OpSl W x l) (k : OpSl W a l) => o_rsame1 x a q c l W h k (by omega))
  have HR1 := Lib.hid (fun W (h : OpSl W a l) => o_rrising a c l W h hf (by omega))
  have HR2 := Lib.hid (fun g W (h : OpSl W (some ⟨g, 0, none⟩) [p]) => o_rrising (some ⟨g, 0, none⟩) 1 [p] W h (fun x hx => by rw [List.mem_singleton.1 hx]; exact hp) (by simp))
  have HR3 := Lib.hid (fun x q W (h : OpSl W x (openR l p)) => o_rising x q (openR l p) W h (sz_open hf hp) (by have := openR_len l p; omega))
  have HRI := Lib.hid (fun hC hl hp => open_rise (l := l) (e := p) hC hl hp)
  have hbb : (openC l p == openC l p) = true := beq_self_eq_true _
  clear hs hf hc hcm hn hp hb0 h1
  by_cases hC : openC l p = 0
  · have d0 : (openC l p != 0) = false := by rw [hC]; rfl
    by_cases hl : RiseO l
    · rw [decide_eq_true hl] at HR1
      by_cases hq : RiseO [p]
      · rw [decide_eq_true hq] at HR2
        rw [decide_eq_true (HRI.out hC hl hq)] at HR3
        clear hC hl hq HRI
        generalize openC l p = C at *
        go_enter Try.func3, Try.ntmps3
        obtain ⟨⟨c0, c1, c2, c3⟩, -⟩ := E.out
        go_wp2_with fail
        refine (HN.out _ A.out).mono ?_
        rintro e w1 ⟨x1, q1, rfl, k1, m1, n1, z1, h1⟩
        have Z1 := Lib.hid z1
        replace F := Lib.hid (F.out.below h1)
        replace A := Lib.hid (A.out.below h1)
        replace E := Lib.hid (E.out.below h1)
        clear z1 h1
        clear c0 c1 c2 c3
        obtain ⟨⟨c0, c1, c2, c3⟩, -⟩ := E.out
        go_wp2_with fail
        refine (HO.out x1 q1 _ Z1.out n1 k1 m1).mono ?_
        rintro e w2 ⟨x2, q2, rfl, -, -, -, z1, h1⟩
        have Z2 := Lib.hid z1
        replace F := Lib.hid (F.out.below h1)
        replace A := Lib.hid (A.out.below h1)
        replace E := Lib.hid (E.out.below h1)
        replace Z1 := Lib.hid (Z1.out.below h1)
        clear z1 h1
        clear c0 c1 c2 c3
        obtain ⟨⟨c0, c1, c2, c3⟩, -⟩ := E.out
        go_wp2_with fail
        refine (HRO.out _ A.out).mono ?_
        rintro e w3 ⟨x3, q3, rfl, -, -, -, z1, h1⟩
        have Z3 := Lib.hid z1
        replace F := Lib.hid (F.out.below h1)
        replace A := Lib.hid (A.out.below h1)
        replace E := Lib.hid (E.out.below h1)
        replace Z1 := Lib.hid (Z1.out.below h1)
        replace Z2 := Lib.hid (Z2.out.below h1)
        clear z1 h1
        clear c0 c1 c2 c3
        obtain ⟨⟨c0, c1, c2, c3⟩, -⟩ := E.out
        go_wp2_with fail
        refine (HAL.out _).mono ?_
        rintro e w4 ⟨rfl, h1⟩
        replace F := Lib.hid (F.out.below h1)
        replace A := Lib.hid (A.out.below h1)
        replace E := Lib.hid (E.out.below h1)
        replace Z1 := Lib.hid (Z1.out.below h1)
        replace Z2 := Lib.hid (Z2.out.below h1)
        replace Z3 := Lib.hid (Z3.out.below h1)
        clear h1
        clear c0 c1 c2 c3
        obtain ⟨⟨c0, c1, c2, c3⟩, -⟩ := E.out
        go_wp2_with fail
        refine (HL1.out x2 q2 _ Z2.out).mono ?_
        rintro e w5 ⟨x4, q4, rfl, -, -, -, z1, h1⟩
        have Z4 := Lib.hid z1
        replace F := Lib.hid (F.out.below h1)
        replace A := Lib.hid (A.out.below h1)
        replace E := Lib.hid (E.out.below h1)
        replace Z1 := Lib.hid (Z1.out.below h1)
        replace Z2 := Lib.hid (Z2.out.below h1)
        replace Z3 := Lib.hid (Z3.out.below h1)
        clear z1 h1
        clear c0 c1 c2 c3
        obtain ⟨⟨c0, c1, c2, c3⟩, -⟩ := E.out
        go_wp2_with fail
        refine (HS1.out x4 x3 q4 q3 _ Z4.out Z3.out).mono ?_
        rintro e w6 ⟨rfl, h1⟩
        replace F := Lib.hid (F.out.below h1)
        replace A := Lib.hid (A.out.below h1)
        replace E := Lib.hid (E.out.below h1)
        replace Z1 := Lib.hid (Z1.out.below h1)
        replace Z2 := Lib.hid (Z2.out.below h1)
        clear h1 Z3 Z4
        clear c0 c1 c2 c3
        obtain ⟨⟨c0, c1, c2, c3⟩, -⟩ := E.out
        go_wp2_with fail
        refine (HL2.out x1 q1 _ Z1.out).mono ?_
        rintro e w7 ⟨x5, q5, rfl, -, -, -, z1, h1⟩
        have Z5 := Lib.hid z1
        replace F := Lib.hid (F.out.below h1)
        replace A := Lib.hid (A.out.below h1)
        replace E := Lib.hid (E.out.below h1)
        replace Z1 := Lib.hid (Z1.out.below h1)
        replace Z2 := Lib.hid (Z2.out.below h1)
        clear z1 h1
        clear c0 c1 c2 c3
        obtain ⟨⟨c0, c1, c2, c3⟩, -⟩ := E.out
        go_wp2_with fail
        refine (HS2.out x5 q5 _ Z5.out A.out).mono ?_
        rintro e w8 ⟨rfl, h1⟩
        replace F := Lib.hid (F.out.below h1)
        replace A := Lib.hid (A.out.below h1)
        replace E := Lib.hid (E.out.below h1)
        replace Z1 := Lib.hid (Z1.out.below h1)
        replace Z2 := Lib.hid (Z2.out.below h1)
        clear h1 Z5
        clear c0 c1 c2 c3
        obtain ⟨⟨c0, c1, c2, c3⟩, -⟩ := E.out
        go_wp2_with fail
        refine (HR1.out _ A.out).mono ?_
        rintro e w9 ⟨rfl, h1⟩
        replace F := Lib.hid (F.out.below h1)
        replace A := Lib.hid (A.out.below h1)
        replace E := Lib.hid (E.out.below h1)
        replace Z1 := Lib.hid (Z1.out.below h1)
        replace Z2 := Lib.hid (Z2.out.below h1)
        clear h1
        clear c0 c1 c2 c3
        obtain ⟨⟨c0, c1, c2, c3⟩, -⟩ := E.out
        have hrow := cells_op w9 [p] #[.int .i64 p.n, .string p.u, .int .i64 p.s, .int .i64 p.f] 24 w9.heap.size rfl rfl
        have hbr := below_one w9 (.cells #[.int .i64 p.n, .string p.u, .int .i64 p.s, .int .i64 p.f] 24)
        have hb2 : Hid (∀ W, Below (w9.alloc (.cells #[.int .i64 p.n, .string p.u, .int .i64 p.s, .int .i64 p.f] 24)).heap.size (w9.alloc (.cells #[.int .i64 p.n, .string p.u, .int .i64 p.s, .int .i64 p.f] 24)) W → Below w9.heap.size w9 W) := fun W h => hbr.trans (h.mono hbr.size)
        have HROW := Lib.hid hrow
        clear hrow hbr
        go_wp2_with fail
        refine (HR2.out _ _ HROW.out).mono ?_
        rintro e w10 ⟨rfl, h1⟩
        replace h1 := hb2.out _ h1
        replace F := Lib.hid (F.out.below h1)
        replace Z2 := Lib.hid (Z2.out.below h1)
        clear h1 hb2 HROW c0 c1 c2 c3 E A Z1
        go_wp2_with fail
        refine (HR3.out x2 q2 _ Z2.out).mono ?_
        rintro e w11 ⟨rfl, h1⟩
        replace F := Lib.hid (F.out.below h1)
        replace Z2 := Lib.hid (Z2.out.below h1)
        clear h1
        go_wp2
        go_ret
        exact ⟨rfl, F.out⟩
      · rw [decide_eq_false hq] at HR2
        clear hC hl hq HRI HR3
        generalize openC l p = C at *
        go_enter Try.func3, Try.ntmps3
        obtain ⟨⟨c0, c1, c2, c3⟩, -⟩ := E.out
        go_wp2_with fail
        refine (HN.out _ A.out).mono ?_
        rintro e w1 ⟨x1, q1, rfl, k1, m1, n1, z1, h1⟩
        have Z1 := Lib.hid z1
        replace F := Lib.hid (F.out.below h1)
        replace A := Lib.hid (A.out.below h1)
        replace E := Lib.hid (E.out.below h1)
        clear z1 h1
        clear c0 c1 c2 c3
        obtain ⟨⟨c0, c1, c2, c3⟩, -⟩ := E.out
        go_wp2_with fail
        refine (HO.out x1 q1 _ Z1.out n1 k1 m1).mono ?_
        rintro e w2 ⟨x2, q2, rfl, -, -, -, z1, h1⟩
        have Z2 := Lib.hid z1
        replace F := Lib.hid (F.out.below h1)
        replace A := Lib.hid (A.out.below h1)
        replace E := Lib.hid (E.out.below h1)
        replace Z1 := Lib.hid (Z1.out.below h1)
        clear z1 h1
        clear c0 c1 c2 c3
        obtain ⟨⟨c0, c1, c2, c3⟩, -⟩ := E.out
        go_wp2_with fail
        refine (HRO.out _ A.out).mono ?_
        rintro e w3 ⟨x3, q3, rfl, -, -, -, z1, h1⟩
        have Z3 := Lib.hid z1
        replace F := Lib.hid (F.out.below h1)
        replace A := Lib.hid (A.out.below h1)
        replace E := Lib.hid (E.out.below h1)
        replace Z1 := Lib.hid (Z1.out.below h1)
        replace Z2 := Lib.hid (Z2.out.below h1)
        clear z1 h1
        clear c0 c1 c2 c3
        obtain ⟨⟨c0, c1, c2, c3⟩, -⟩ := E.out
        go_wp2_with fail
        refine (HAL.out _).mono ?_
        rintro e w4 ⟨rfl, h1⟩
        replace F := Lib.hid (F.out.below h1)
        replace A := Lib.hid (A.out.below h1)
        replace E := Lib.hid (E.out.below h1)
        replace Z1 := Lib.hid (Z1.out.below h1)
        replace Z2 := Lib.hid (Z2.out.below h1)
        replace Z3 := Lib.hid (Z3.out.below h1)
        clear h1
        clear c0 c1 c2 c3
        obtain ⟨⟨c0, c1, c2, c3⟩, -⟩ := E.out
        go_wp2_with fail
        refine (HL1.out x2 q2 _ Z2.out).mono ?_
        rintro e w5 ⟨x4, q4, rfl, -, -, -, z1, h1⟩
        have Z4 := Lib.hid z1
        replace F := Lib.hid (F.out.below h1)
        replace A := Lib.hid (A.out.below h1)
        replace E := Lib.hid (E.out.below h1)
        replace Z1 := Lib.hid (Z1.out.below h1)
        replace Z2 := Lib.hid (Z2.out.below h1)
        replace Z3 := Lib.hid (Z3.out.below h1)
        clear z1 h1
        clear c0 c1 c2 c3
        obtain ⟨⟨c0, c1, c2, c3⟩, -⟩ := E.out
        go_wp2_with fail
        refine (HS1.out x4 x3 q4 q3 _ Z4.out Z3.out).mono ?_
        rintro e w6 ⟨rfl, h1⟩
        replace F := Lib.hid (F.out.below h1)
        replace A := Lib.hid (A.out.below h1)
        replace E := Lib.hid (E.out.below h1)
        replace Z1 := Lib.hid (Z1.out.below h1)
        replace Z2 := Lib.hid (Z2.out.below h1)
        clear h1 Z3 Z4
        clear c0 c1 c2 c3
        obtain ⟨⟨c0, c1, c2, c3⟩, -⟩ := E.out
        go_wp2_with fail
        refine (HL2.out x1 q1 _ Z1.out).mono ?_
        rintro e w7 ⟨x5, q5, rfl, -, -, -, z1, h1⟩
        have Z5 := Lib.hid z1
        replace F := Lib.hid (F.out.below h1)
        replace A := Lib.hid (A.out.below h1)
        replace E := Lib.hid (E.out.below h1)
        replace Z1 := Lib.hid (Z1.out.below h1)
        replace Z2 := Lib.hid (Z2.out.below h1)
        clear z1 h1
        clear c0 c1 c2 c3
        obtain ⟨⟨c0, c1, c2, c3⟩, -⟩ := E.out
        go_wp2_with fail
        refine (HS2.out x5 q5 _ Z5.out A.out).mono ?_
        rintro e w8 ⟨rfl, h1⟩
        replace F := Lib.hid (F.out.below h1)
        replace A := Lib.hid (A.out.below h1)
        replace E := Lib.hid (E.out.below h1)
        replace Z1 := Lib.hid (Z1.out.below h1)
        replace Z2 := Lib.hid (Z2.out.below h1)
        clear h1 Z5
        clear c0 c1 c2 c3
        obtain ⟨⟨c0, c1, c2, c3⟩, -⟩ := E.out
        go_wp2_with fail
        refine (HR1.out _ A.out).mono ?_
        rintro e w9 ⟨rfl, h1⟩
        replace F := Lib.hid (F.out.below h1)
        replace A := Lib.hid (A.out.below h1)
        replace E := Lib.hid (E.out.below h1)
        replace Z1 := Lib.hid (Z1.out.below h1)
        replace Z2 := Lib.hid (Z2.out.below h1)
        clear h1
        clear c0 c1 c2 c3
        obtain ⟨⟨c0, c1, c2, c3⟩, -⟩ := E.out
        have hrow := cells_op w9 [p] #[.int .i64 p.n, .string p.u, .int .i64 p.s, .int .i64 p.f] 24 w9.heap.size rfl rfl
        have hbr := below_one w9 (.cells #[.int .i64 p.n, .string p.u, .int .i64 p.s, .int .i64 p.f] 24)
        have hb2 : Hid (∀ W, Below (w9.alloc (.cells #[.int .i64 p.n, .string p.u, .int .i64 p.s, .int .i64 p.f] 24)).heap.size (w9.alloc (.cells #[.int .i64 p.n, .string p.u, .int .i64 p.s, .int .i64 p.f] 24)) W → Below w9.heap.size w9 W) := fun W h => hbr.trans (h.mono hbr.size)
        have HROW := Lib.hid hrow
        clear hrow hbr
        go_wp2_with fail
        refine (HR2.out _ _ HROW.out).mono ?_
        rintro e w10 ⟨rfl, h1⟩
        replace h1 := hb2.out _ h1
        replace F := Lib.hid (F.out.below h1)
        clear h1 hb2 HROW
        go_wp2
        go_ret
        exact ⟨rfl, F.out⟩
    · rw [decide_eq_false hl] at HR1
      clear hC hl HRI HR3 HR2
      generalize openC l p = C at *
      go_enter Try.func3, Try.ntmps3
      obtain ⟨⟨c0, c1, c2, c3⟩, -⟩ := E.out
      go_wp2_with fail
      refine (HN.out _ A.out).mono ?_
      rintro e w1 ⟨x1, q1, rfl, k1, m1, n1, z1, h1⟩
      have Z1 := Lib.hid z1
      replace F := Lib.hid (F.out.below h1)
      replace A := Lib.hid (A.out.below h1)
      replace E := Lib.hid (E.out.below h1)
      clear z1 h1
      clear c0 c1 c2 c3
      obtain ⟨⟨c0, c1, c2, c3⟩, -⟩ := E.out
      go_wp2_with fail
      refine (HO.out x1 q1 _ Z1.out n1 k1 m1).mono ?_
      rintro e w2 ⟨x2, q2, rfl, -, -, -, z1, h1⟩
      have Z2 := Lib.hid z1
      replace F := Lib.hid (F.out.below h1)
      replace A := Lib.hid (A.out.below h1)
      replace E := Lib.hid (E.out.below h1)
      replace Z1 := Lib.hid (Z1.out.below h1)
      clear z1 h1
      clear c0 c1 c2 c3
      obtain ⟨⟨c0, c1, c2, c3⟩, -⟩ := E.out
      go_wp2_with fail
      refine (HRO.out _ A.out).mono ?_
      rintro e w3 ⟨x3, q3, rfl, -, -, -, z1, h1⟩
      have Z3 := Lib.hid z1
      replace F := Lib.hid (F.out.below h1)
      replace A := Lib.hid (A.out.below h1)
      replace E := Lib.hid (E.out.below h1)
      replace Z1 := Lib.hid (Z1.out.below h1)
      replace Z2 := Lib.hid (Z2.out.below h1)
      clear z1 h1
      clear c0 c1 c2 c3
      obtain ⟨⟨c0, c1, c2, c3⟩, -⟩ := E.out
      go_wp2_with fail
      refine (HAL.out _).mono ?_
      rintro e w4 ⟨rfl, h1⟩
      replace F := Lib.hid (F.out.below h1)
      replace A := Lib.hid (A.out.below h1)
      replace E := Lib.hid (E.out.below h1)
      replace Z1 := Lib.hid (Z1.out.below h1)
      replace Z2 := Lib.hid (Z2.out.below h1)
      replace Z3 := Lib.hid (Z3.out.below h1)
      clear h1
      clear c0 c1 c2 c3
      obtain ⟨⟨c0, c1, c2, c3⟩, -⟩ := E.out
      go_wp2_with fail
      refine (HL1.out x2 q2 _ Z2.out).mono ?_
      rintro e w5 ⟨x4, q4, rfl, -, -, -, z1, h1⟩
      have Z4 := Lib.hid z1
      replace F := Lib.hid (F.out.below h1)
      replace A := Lib.hid (A.out.below h1)
      replace E := Lib.hid (E.out.below h1)
      replace Z1 := Lib.hid (Z1.out.below h1)
      replace Z2 := Lib.hid (Z2.out.below h1)
      replace Z3 := Lib.hid (Z3.out.below h1)
      clear z1 h1
      clear c0 c1 c2 c3
      obtain ⟨⟨c0, c1, c2, c3⟩, -⟩ := E.out
      go_wp2_with fail
      refine (HS1.out x4 x3 q4 q3 _ Z4.out Z3.out).mono ?_
      rintro e w6 ⟨rfl, h1⟩
      replace F := Lib.hid (F.out.below h1)
      replace A := Lib.hid (A.out.below h1)
      replace E := Lib.hid (E.out.below h1)
      replace Z1 := Lib.hid (Z1.out.below h1)
      replace Z2 := Lib.hid (Z2.out.below h1)
      clear h1 Z3 Z4
      clear c0 c1 c2 c3
      obtain ⟨⟨c0, c1, c2, c3⟩, -⟩ := E.out
      go_wp2_with fail
      refine (HL2.out x1 q1 _ Z1.out).mono ?_
      rintro e w7 ⟨x5, q5, rfl, -, -, -, z1, h1⟩
      have Z5 := Lib.hid z1
      replace F := Lib.hid (F.out.below h1)
      replace A := Lib.hid (A.out.below h1)
      replace E := Lib.hid (E.out.below h1)
      replace Z1 := Lib.hid (Z1.out.below h1)
      replace Z2 := Lib.hid (Z2.out.below h1)
      clear z1 h1
      clear c0 c1 c2 c3
      obtain ⟨⟨c0, c1, c2, c3⟩, -⟩ := E.out
      go_wp2_with fail
      refine (HS2.out x5 q5 _ Z5.out A.out).mono ?_
      rintro e w8 ⟨rfl, h1⟩
      replace F := Lib.hid (F.out.below h1)
      replace A := Lib.hid (A.out.below h1)
      replace E := Lib.hid (E.out.below h1)
      replace Z1 := Lib.hid (Z1.out.below h1)
      replace Z2 := Lib.hid (Z2.out.below h1)
      clear h1 Z5
      clear c0 c1 c2 c3
      obtain ⟨⟨c0, c1, c2, c3⟩, -⟩ := E.out
      go_wp2_with fail
      refine (HR1.out _ A.out).mono ?_
      rintro e w9 ⟨rfl, h1⟩
      replace F := Lib.hid (F.out.below h1)
      replace A := Lib.hid (A.out.below h1)
      replace E := Lib.hid (E.out.below h1)
      replace Z1 := Lib.hid (Z1.out.below h1)
      replace Z2 := Lib.hid (Z2.out.below h1)
      clear h1
      clear c0 c1 c2 c3
      obtain ⟨⟨c0, c1, c2, c3⟩, -⟩ := E.out
      go_wp2
      go_ret
      exact ⟨rfl, F.out⟩
  · have d0 : (openC l p != 0) = true := by simp [hC]
    clear hC HRI HR3 HR2 HR1
    generalize openC l p = C at *
    go_enter Try.func3, Try.ntmps3
    obtain ⟨⟨c0, c1, c2, c3⟩, -⟩ := E.out
    go_wp2_with fail
    refine (HN.out _ A.out).mono ?_
    rintro e w1 ⟨x1, q1, rfl, k1, m1, n1, z1, h1⟩
    have Z1 := Lib.hid z1
    replace F := Lib.hid (F.out.below h1)
    replace A := Lib.hid (A.out.below h1)
    replace E := Lib.hid (E.out.below h1)
    clear z1 h1
    clear c0 c1 c2 c3
    obtain ⟨⟨c0, c1, c2, c3⟩, -⟩ := E.out
    go_wp2_with fail
    refine (HO.out x1 q1 _ Z1.out n1 k1 m1).mono ?_
    rintro e w2 ⟨x2, q2, rfl, -, -, -, z1, h1⟩
    have Z2 := Lib.hid z1
    replace F := Lib.hid (F.out.below h1)
    replace A := Lib.hid (A.out.below h1)
    replace E := Lib.hid (E.out.below h1)
    replace Z1 := Lib.hid (Z1.out.below h1)
    clear z1 h1
    clear c0 c1 c2 c3
    obtain ⟨⟨c0, c1, c2, c3⟩, -⟩ := E.out
    go_wp2_with fail
    refine (HRO.out _ A.out).mono ?_
    rintro e w3 ⟨x3, q3, rfl, -, -, -, z1, h1⟩
    have Z3 := Lib.hid z1
    replace F := Lib.hid (F.out.below h1)
    replace A := Lib.hid (A.out.below h1)
    replace E := Lib.hid (E.out.below h1)
    replace Z1 := Lib.hid (Z1.out.below h1)
    replace Z2 := Lib.hid (Z2.out.below h1)
    clear z1 h1
    clear c0 c1 c2 c3
    obtain ⟨⟨c0, c1, c2, c3⟩, -⟩ := E.out
    go_wp2_with fail
    refine (HAL.out _).mono ?_
    rintro e w4 ⟨rfl, h1⟩
    replace F := Lib.hid (F.out.below h1)
    replace A := Lib.hid (A.out.below h1)
    replace E := Lib.hid (E.out.below h1)
    replace Z1 := Lib.hid (Z1.out.below h1)
    replace Z2 := Lib.hid (Z2.out.below h1)
    replace Z3 := Lib.hid (Z3.out.below h1)
    clear h1
    clear c0 c1 c2 c3
    obtain ⟨⟨c0, c1, c2, c3⟩, -⟩ := E.out
    go_wp2_with fail
    refine (HL1.out x2 q2 _ Z2.out).mono ?_
    rintro e w5 ⟨x4, q4, rfl, -, -, -, z1, h1⟩
    have Z4 := Lib.hid z1
    replace F := Lib.hid (F.out.below h1)
    replace A := Lib.hid (A.out.below h1)
    replace E := Lib.hid (E.out.below h1)
    replace Z1 := Lib.hid (Z1.out.below h1)
    replace Z2 := Lib.hid (Z2.out.below h1)
    replace Z3 := Lib.hid (Z3.out.below h1)
    clear z1 h1
    clear c0 c1 c2 c3
    obtain ⟨⟨c0, c1, c2, c3⟩, -⟩ := E.out
    go_wp2_with fail
    refine (HS1.out x4 x3 q4 q3 _ Z4.out Z3.out).mono ?_
    rintro e w6 ⟨rfl, h1⟩
    replace F := Lib.hid (F.out.below h1)
    replace A := Lib.hid (A.out.below h1)
    replace E := Lib.hid (E.out.below h1)
    replace Z1 := Lib.hid (Z1.out.below h1)
    replace Z2 := Lib.hid (Z2.out.below h1)
    clear h1 Z3 Z4
    clear c0 c1 c2 c3
    obtain ⟨⟨c0, c1, c2, c3⟩, -⟩ := E.out
    go_wp2_with fail
    refine (HL2.out x1 q1 _ Z1.out).mono ?_
    rintro e w7 ⟨x5, q5, rfl, -, -, -, z1, h1⟩
    have Z5 := Lib.hid z1
    replace F := Lib.hid (F.out.below h1)
    replace A := Lib.hid (A.out.below h1)
    replace E := Lib.hid (E.out.below h1)
    replace Z1 := Lib.hid (Z1.out.below h1)
    replace Z2 := Lib.hid (Z2.out.below h1)
    clear z1 h1
    clear c0 c1 c2 c3
    obtain ⟨⟨c0, c1, c2, c3⟩, -⟩ := E.out
    go_wp2_with fail
    refine (HS2.out x5 q5 _ Z5.out A.out).mono ?_
    rintro e w8 ⟨rfl, h1⟩
    replace F := Lib.hid (F.out.below h1)
    replace A := Lib.hid (A.out.below h1)
    replace E := Lib.hid (E.out.below h1)
    replace Z1 := Lib.hid (Z1.out.below h1)
    replace Z2 := Lib.hid (Z2.out.below h1)
    clear h1 Z5
    clear c0 c1 c2 c3
    obtain ⟨⟨c0, c1, c2, c3⟩, -⟩ := E.out
    go_wp2
    go_ret
    exact ⟨rfl, F.out⟩

set_option maxRecDepth 100000 in
theorem lifted (os : Os) (started : os.Started) (H : Type) (enc : TypeId × Value → H) :
    ReturnsInHanded {} Try.checked os 3 .any (Rows.sessOpensSpec.pre6 enc Try.prog Try.f3 Rows.sessOpensRow.domain false) (Rows.sessOpensSpec.post enc Try.prog Try.f3 false true false false) := by
  refine returnsInHanded_of_change (C := Try.checked) own started (by kernel_rfl) Try.func3
    (ChangeSpec.witness6 (enc := enc) (C := Try.checked) false ⟨#[], #[.slice none 0 0, .agg #[.int .i64 0, .string ByteArray.empty, .int .i64 0, .int .i64 0]], []⟩ 8 (by kernel_rfl) (by kernel_rfl) (by kernel_rfl) (by kernel_rfl)) ?_
  intro W base args ds gs before hval0 hW hcnd _
  have hval : ∀ (j : Nat) t v, Try.f3.params[j]? = some t → args[j]? = some v → Value.okWide Try.prog W .any base t v := hval0
  have hW' := hW
  have hlt := hW.lt
  obtain ⟨p, q, hA0, hV, rfl, hfz, hnd⟩ := hW
  have hA : DataW.TrodAll enc Try.prog W 0 (fun _ => true) true Try.f3.params.toList args.toList ds p := hA0
  rw [Try.params3] at hA hval
  obtain ⟨v0, vs0, d0, ds0, p0, q0, hargs, rfl, rfl, h0, r0⟩ := trodAll_cons hA
  obtain ⟨v1, vs1, d1, ds1, p1, q1, rfl, rfl, rfl, h1, r1⟩ := trodAll_cons r0
  obtain ⟨rfl, rfl, rfl⟩ := trodAll_nil r1
  obtain rfl : args = #[v0, v1] := by cases args; simp_all
  obtain ⟨a0, c0, l0, rfl, s0, f0, m0, n0, o0⟩ := open_sess (hval 0 22 v0 rfl rfl) h0
  obtain ⟨l1, rfl, f1⟩ := open_sess1 (hval 1 24 v1 rfl rfl) h1
  refine (walk W a0 c0 l0 s0 f0 m0 n0 o0 l1 f1).mono fun e W' ⟨he, hb⟩ => ?_
  subst he
  exact ⟨_, rfl, law_post rfl hW' (fun ds h => by match ds, h with | [_, _], _ => rfl) (by kernel_rfl) (by kernel_rfl) (by kernel_rfl) hb⟩

theorem over : Rows.sessOpensRow.holds Try.pinned (OpenSpec.ofChange Rows.sessOpensSpec) :=
  OpenClaim.holds_of_wide 3 Try.f3 rfl rfl rfl rfl rfl rfl rfl ⟨rfl, rfl, rfl, rfl, rfl⟩ rfl rfl rfl rfl rfl (by kernel_rfl) Try.func3 (by kernel_rfl)
    (of_decide_eq_true (by kernel_rfl)) (by unfold Func.isWrapper; first | (rw [if_pos (by decide +kernel)]; kernel_rfl) | (rw [if_neg (by decide +kernel)]; exact ⟨rfl, rfl⟩))
    (fun os started H enc _ => lifted os started H enc)

theorem proved : Rows.SessOpensSaid := over
end Go.Proofs.Ytlgicjebaehgeaa.sessOpens
