/- Layer 7: the spans that have some time, by From: contract. -/
import Derived.Test.YthaancmobpamhaaW10
import Derived.Test.YthaancmobpamhaaW9
import Derived.ArgAppend
namespace Go.Proofs.Ythaancmobpamhaa
open Go.RowKit Go.Sort Go.Proofs
set_option linter.unusedVariables false
set_option maxRecDepth 100000
set_option maxRecDepth 100000

def hasS (s : SpM) : Bool := decide (s.f < s.t)
/-- the row under way: still the caller's, cut to nothing, or one's own -/
def RiseV (a : Option Addr) (B : Nat) (W : World) (v : Value) (d : List SpM) : Prop := (d = [] ∧ v = .slice a 0 0) ∨ W.ownsRow B 56 2 v d.length (sps d)
theorem RiseV.below {a : Option Addr} {B : Nat} {W W' : World} {v : Value} {d : List SpM} (h : RiseV a B W v d) (hb : Below W.heap.size W W') : RiseV a B W' v d := by
  rcases h with h | h
  · exact .inl h
  · exact .inr (own_below h hb)
theorem wpList_append_rise {P : Program} (w0 w : World) {ops : Array Oper} {rest : List Oper} {o : Oper} {a : Act} {Q : Exit → Act → World → Prop} (hgd : o.guard = none) (s x : Operand) (t : TypeId)
    (ho : o.op = .call { callee := .builtin .append, args := #[s, x], argTypes := #[t, t] })
    (base : Nat) (i : TypeInfo) (z : Value) (ht : P.underlying t = some (.slice 56)) (hi : P.info? 56 = some i) (hz : i.zero = some z)
    (hsize : i.size = 2) (hby : i.bytes = 16) (hzs : z.cells.size = 2)
    (v : Value) (al : Option Addr) (d : List SpM) (hs : a.eval s = v) (hv : RiseV al base w v d)
    (ad : Addr) (y : SpM) (hx : a.eval x = .slice (some ad) 1 1) (hnews : ∀ j u, [Value.int .i64 y.f, .int .i64 y.t][j]? = some u → w.cell? (ad.add j) = some u)
    (hlen : d.length + 1 ≤ 1000000) (hbase : base ≤ w.heap.size) (hB : Below base w0 w)
    (h : ∀ v' w', RiseV al base w' v' (d ++ [y]) → Below base w0 w' → wpList P ops Q rest (a.put o.dst v') w') : wpList P ops Q (o :: rest) a w := by
  rcases hv with ⟨rfl, rfl⟩ | hv
  · refine wpList_append_grows w hgd s x t ho 56 i z 2 16 ht hi hz hsize hby hzs (by decide) al 0 0 [] hs (fun _ => ⟨rfl, rfl⟩) rfl (fun _ _ j u hu => by simp at hu) ad 1 1 [.int .i64 y.f, .int .i64 y.t] hx rfl hnews (two_one _ _) (by decide) (by unfold maxLen; omega) (by omega) fun v' w' h1 h2 => h v' w' (.inr ?_) ?_
    · have := own_low h1 hbase
      simpa [sps] using this
    · exact hB.trans ((Below.refl _ _).grown h2 hbase (fun j hj => by cases hj))
  · refine wpList_append_own w hgd s x t ho base 56 i z 2 16 ht hi hz hsize hby hzs (by decide) v d.length (sps d) hs hv ad 1 1 [.int .i64 y.f, .int .i64 y.t] hx rfl hnews (two_one _ _) (by unfold maxLen; omega) (by omega) hbase fun v' w' h1 h2 _ => h v' w' (.inr ?_) (app_below hB hbase hv h2)
    rw [sps_snoc, List.length_append]
    exact h1

theorem sort_rise (a : Option Addr) (B : Nat) (v : Value) (l : List SpM) (w : World) (hB : B ≤ w.heap.size) (ho : RiseV a B w v l) (hl : l.length ≤ 1000000) :
    Calls Try.prog 69 #[v, .func (.func 70) #[] #[]] w fun e w' => e = .returned (.tuple #[]) ∧ ∃ m : List SpM, m.Perm l ∧ m.Pairwise (fun a b => a.f ≤ b.f) ∧ RiseV a B w' v m ∧ Below B w w' := by
  rcases ho with ⟨rfl, rfl⟩ | ho
  · refine (AnyF.slices_SortFunc_none Try.laysSortFunc a 0 _ w).mono ?_
    rintro e w' ⟨rfl, rfl⟩
    exact ⟨rfl, [], List.Perm.refl _, List.Pairwise.nil, .inl ⟨rfl, rfl⟩, Below.refl _ _⟩
  · refine (sort_any B v l w hB ho hl).mono ?_
    rintro e w' ⟨rfl, m, h1, h2, h3, h4⟩
    exact ⟨rfl, m, h1, h2, .inr h3, h4⟩
theorem RiseV.shape {a : Option Addr} {B : Nat} {W : World} {v : Value} {d : List SpM} (h : RiseV a B W v d) : ∃ x q, v = .slice x d.length q ∧ d.length ≤ q ∧ SpSl W x d := by
  rcases h with ⟨rfl, rfl⟩ | h
  · exact ⟨a, 0, rfl, Nat.le_refl _, SpSl.nil _ _⟩
  · exact own_sp h

set_option maxHeartbeats 4000000 in
theorem rising_any (a : Option Addr) (c : Nat) (l : List SpM) (w : World) (hr : SpSl w a l) (hl : l.length ≤ 100000) (hc : l.length ≤ c) (hcm : c ≤ maxLen) :
    Calls Try.prog 61 #[.slice a l.length c] w fun e w' => ∃ (x : Option Addr) (q : Nat) (m : List SpM), e = .returned (.slice x m.length q) ∧ m.Perm (l.filter hasS) ∧ m.Pairwise (fun s o => s.f ≤ o.f) ∧ SpSl w' x m ∧ Below w.heap.size w w' := by
  obtain ⟨i0, hi, hz0, hz1, hz2⟩ := info_parts infoSpan
  have HR := Lib.hid hr
  have HNO := Lib.hid none_any
  unfold maxLen at hcm
  clear hr
  go_enter Try.func61, Try.ntmps61
  go_wp2
  go_loopw [3, 10] (fun v i wr => ∃ (j : Nat) (d : List SpM), j ≤ l.length ∧ i = .int .i64 j ∧ d.length ≤ j ∧ Hid (d = (l.take j).filter hasS) ∧ Hid (RiseV a w.heap.size wr v d) ∧ Hid (Below w.heap.size w wr)) (fun _ i _ => l.length - (intOf i).toNat)
  case atStart => exact ⟨0, [], by omega, rfl, by simp, rfl, .inl ⟨rfl, rfl⟩, Below.refl _ _⟩
  case round =>
    obtain ⟨j, d, hj, rfl, hdl, HD, HV, HB⟩ := hrel
    by_cases hjl : j < l.length
    · obtain ⟨b, off, rfl, hbl, hc0, hc1⟩ := (HR.out.below HB.out).at_ hjl
      have HT : Hid ((l.take (j + 1)).filter hasS = d ++ if hasS l[j] then [l[j]] else []) := by
        unfold Hid
        rw [List.take_succ_eq_append_getElem hjl, List.filter_append, ← HD.out]
        congr 1
        by_cases h : hasS l[j] = true <;> simp [h]
      generalize l[j] = x at *
      have hA := (Below.refl wr.heap.size wr).alloc (Nat.le_refl _) (.cells #[.int .i64 x.f, .int .i64 x.t] 56)
      have HA := Lib.hid hA
      have HBX : Hid ((wr.alloc (.cells #[.int .i64 x.f, .int .i64 x.t] 56)).heap[wr.heap.size]? = some (.cells #[.int .i64 x.f, .int .i64 x.t] 56 (0, 0))) := heap_alloc_new _ _
      have HN := Lib.hid (HNO.out x.f x.t (wr.alloc (.cells #[.int .i64 x.f, .int .i64 x.t] 56)))
      clear hA
      by_cases ht : x.t ≤ x.f
      · have hd : decide (x.t ≤ x.f) = true := decide_eq_true ht
        have hh : hasS x = false := decide_eq_false (by omega)
        rw [hd] at HN
        rw [hh] at HT
        clear hd hh ht
        go_wp2_with fail
        refine HN.out.mono ?_
        rintro r w3 ⟨rfl, h3⟩
        have HB3 := Lib.hid (HB.out.trans ((HA.out.trans (h3.mono (by rw [size1]; omega))).mono HB.out.size))
        have HV3 := Lib.hid (HV.out.below (HA.out.trans (h3.mono (by rw [size1]; omega))))
        clear h3 HN
        go_wp2
        go_roundw
        case rel => exact ⟨j + 1, d, by omega, by go_num, by omega, (by unfold Hid; rw [HT.out]; simp), HV3, HB3⟩
        case measure => simp [intOf]; omega
      · have hd : decide (x.t ≤ x.f) = false := decide_eq_false ht
        have hh : hasS x = true := decide_eq_true (by omega)
        rw [hd] at HN
        rw [hh] at HT
        clear hd hh ht
        go_wp2_with fail
        refine HN.out.mono ?_
        rintro r w3 ⟨rfl, h3⟩
        have hx3 : w3.heap[wr.heap.size]? = some (.cells #[.int .i64 x.f, .int .i64 x.t] 56 (0, 0)) := (h3.block _ (by rw [size1]; omega)).trans HBX.out
        have hf3 := HA.out.trans (h3.mono (by rw [size1]; omega))
        have hf4 := hf3.alloc hf3.size (.cells #[.int .i64 x.f, .int .i64 x.t] 56)
        have HV4 := Lib.hid (HV.out.below hf4)
        have HB4 := Lib.hid (HB.out.trans (hf4.mono HB.out.size))
        have HS4 := Lib.hid HB4.out.size
        obtain ⟨g0, g1⟩ := cells2 hx3
        clear h3 HN hx3 hf3 hf4
        go_wp2_with (at_builtin; refine wpList_append_rise w _ rfl (.tmp 17) (.tmp 19) 42 rfl w.heap.size i0 _ Try.underlying42 hi hz0 hz1 hz2 rfl _ _ d rfl HV4.out ⟨w3.heap.size, 0, none⟩ x rfl (news_at _ _ _ _ rfl) (by omega) HS4.out HB4.out ?_; intro v5 w5 hv5 hb5)
        have HV5 := Lib.hid hv5
        have HB5 := Lib.hid hb5
        clear hv5 hb5
        go_wp2
        go_roundw
        case rel => exact ⟨j + 1, d ++ [x], by omega, by go_num, by rw [List.length_append]; simp; omega, (by unfold Hid; rw [HT.out]; simp), HV5, HB5⟩
        case measure => simp [intOf]; omega
    · obtain rfl : j = l.length := by omega
      rw [List.take_of_length_le (Nat.le_refl _)] at HD
      have HS := Lib.hid (sort_rise a w.heap.size u3 d wr HB.out.size HV.out (by omega))
      go_wp2_with fail
      refine HS.out.mono ?_
      rintro e w5 ⟨rfl, m, hp, hs, hv, hb⟩
      have HB5 := Lib.hid (HB.out.trans hb)
      obtain ⟨x, q, rfl, _, hsp⟩ := hv.shape
      have HP := Lib.hid hp
      have HSS := Lib.hid hs
      have HSP := Lib.hid hsp
      clear hp hs hv hb hsp HS
      go_wp2
      go_ret
      exact ⟨x, q, m, rfl, by rw [← HD.out]; exact HP.out, HSS.out, HSP.out, HB5.out⟩
end Go.Proofs.Ythaancmobpamhaa
