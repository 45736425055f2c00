/- Texts of mine, one behind the other, of each what is wanted. -/
import Derived.Test.YtapacckmgmdnoaaGreatU00
import Derived.Test.YtapacckmgmdnoaaGreatShelf
import Derived.Test.YtapacckmgmdnoaaGreatU01
import Derived.Test.YtapacckmgmdnoaaGreatU07
import Derived.Test.YtapacckmgmdnoaaGreatU11
import Derived.Test.YtapacckmgmdnoaaGreatU21
namespace Go.Proofs.YtapacckmgmdnoaaGreat
open Go.RowKit Go.Sort Go.Proofs
set_option linter.unusedVariables false
set_option maxRecDepth 100000
set_option maxRecDepth 100000
def hasS (s : SpM) : Bool := decide (s.f < s.t)
def RiseV (a : Option Addr) (B : Nat) (W : World) (v : Value) (d : List SpM) : Prop := (d = [] ∧ v = .slice a 0 0) ∨ W.ownsRow B 90 2 v d.length (sps d)
theorem RiseV.below {a : Option Addr} {B : Nat} {W W' : World} {v : Value} {d : List SpM} (h : RiseV a B W v d) (hb : Below W.heap.size W W') : RiseV a B W' v d := by
 rcases h with h | h
 ·exact .inl h
 ·exact .inr (own_below h hb)
theorem wpList_append_rise {P : Program} (w0 w : World) {ops : Array Oper} {rest : List Oper} {o : Oper} {a : Act} {Q : Exit → Act → World → Prop} (hgd : o.guard = none) (s x : Operand) (t : TypeId)
  (ho : o.op = .call { callee := .builtin .append, args := #[s, x], argTypes := #[t, t] })
  (base : Nat) (i : TypeInfo) (z : Value) (ht : P.underlying t = some (.slice 90)) (hi : P.info? 90 = some i) (hz : i.zero = some z)
  (hsize : i.size = 2) (hby : i.bytes = 16) (hzs : z.cells.size = 2)
  (v : Value) (al : Option Addr) (d : List SpM) (hs : a.eval s = v) (hv : RiseV al base w v d)
  (ad : Addr) (y : SpM) (hx : a.eval x = .slice (some ad) 1 1) (hnews : ∀ j u, [Value.int .i64 y.f, .int .i64 y.t][j]? = some u → w.cell? (ad.add j) = some u)
  (hlen : d.length + 1 ≤ 1000000) (hbase : base ≤ w.heap.size) (hB : Below base w0 w)
  (h : ∀ v' w', RiseV al base w' v' (d ++ [y]) → Below base w0 w' → wpList P ops Q rest (a.put o.dst v') w') : wpList P ops Q (o :: rest) a w := by
 rcases hv with ⟨rfl, rfl⟩ | hv
 ·refine wpList_append_grows w hgd s x t ho 90 i z 2 16 ht hi hz hsize hby hzs (by decide) al 0 0 [] hs (fun _ => ⟨rfl, rfl⟩) rfl (fun _ _ j u hu => by simp at hu) ad 1 1 [.int .i64 y.f, .int .i64 y.t] hx rfl hnews (two_one _ _) (by decide) (by unfold maxLen; omega) (by omega) fun v' w' h1 h2 => h v' w' (.inr ?_) ?_
  ·have := own_low h1 hbase
   simpa [sps] using this
  ·exact hB.trans ((Below.refl _ _).grown h2 hbase (fun j hj => by cases hj))
 ·refine wpList_append_own w hgd s x t ho base 90 i z 2 16 ht hi hz hsize hby hzs (by decide) v d.length (sps d) hs hv ad 1 1 [.int .i64 y.f, .int .i64 y.t] hx rfl hnews (two_one _ _) (by unfold maxLen; omega) (by omega) hbase fun v' w' h1 h2 _ => h v' w' (.inr ?_) (app_below hB hbase hv h2)
  rw [sps_snoc, List.length_append]
  exact h1
theorem sort_rise (a : Option Addr) (B : Nat) (v : Value) (l : List SpM) (w : World) (hB : B ≤ w.heap.size) (ho : RiseV a B w v l) (hl : l.length ≤ 1000000) :
  Calls Tryz.prog 209 #[v, .func (.func 210) #[] #[]] w fun e w' => e = .returned (.tuple #[]) ∧ ∃ m : List SpM, m.Perm l ∧ m.Pairwise (fun a b => a.f ≤ b.f) ∧ RiseV a B w' v m ∧ Below B w w' := by
 rcases ho with ⟨rfl, rfl⟩ | ho
 ·refine (AnyF.slices_SortFunc_none Tryz.laysSortFunc a 0 _ w).mono ?_
  rintro e w' ⟨rfl, rfl⟩
  exact ⟨rfl, [], List.Perm.refl _, List.Pairwise.nil, .inl ⟨rfl, rfl⟩, Below.refl _ _⟩
 ·refine (sort_any B v l w hB ho hl).mono ?_
  rintro e w' ⟨rfl, m, h1, h2, h3, h4⟩
  exact ⟨rfl, m, h1, h2, .inr h3, h4⟩
theorem RiseV.shape {a : Option Addr} {B : Nat} {W : World} {v : Value} {d : List SpM} (h : RiseV a B W v d) : ∃ x q, v = .slice x d.length q ∧ d.length ≤ q ∧ SpSl W x d := by
 rcases h with ⟨rfl, rfl⟩ | h
 ·exact ⟨a, 0, rfl, Nat.le_refl _, SpSl.nil _ _⟩
 ·exact own_sp h
set_option maxHeartbeats 4000000 in
theorem rising_any (a : Option Addr) (c : Nat) (l : List SpM) (w : World) (hr : SpSl w a l) (hl : l.length ≤ 100000) (hc : l.length ≤ c) (hcm : c ≤ maxLen) :
  Calls Tryz.prog 158 #[.slice a l.length c] w fun e w' => ∃ (x : Option Addr) (q : Nat) (m : List SpM), e = .returned (.slice x m.length q) ∧ m.Perm (l.filter hasS) ∧ m.Pairwise (fun s o => s.f ≤ o.f) ∧ SpSl w' x m ∧ Below w.heap.size w w' := by
 obtain ⟨i0, hi, hz0, hz1, hz2⟩ := info_parts infoSpan
 have HR := Lib.hid hr
 have HNO := Lib.hid none_any
 unfold maxLen at hcm
 clear hr
 go_enter Tryz.func158, Tryz.ntmps158
 go_wp2
 go_loopw [3, 10] (fun v i wr => ∃ (j : Nat) (d : List SpM), j ≤ l.length ∧ i = .int .i64 j ∧ d.length ≤ j ∧ Hid (d = (l.take j).filter hasS) ∧ Hid (RiseV a w.heap.size wr v d) ∧ Hid (Below w.heap.size w wr)) (fun _ i _ => l.length - (intOf i).toNat)
 case atStart => exact ⟨0, [], by omega, rfl, by simp, rfl, .inl ⟨rfl, rfl⟩, Below.refl _ _⟩
 case round =>
  obtain ⟨j, d, hj, rfl, hdl, HD, HV, HB⟩ := hrel
  by_cases hjl : j < l.length
  ·obtain ⟨b, off, rfl, hbl, hc0, hc1⟩ := (HR.out.below HB.out).at_ hjl
   have HT : Hid ((l.take (j + 1)).filter hasS = d ++ if hasS l[j] then [l[j]] else []) := by
    unfold Hid
    rw [List.take_succ_eq_append_getElem hjl, List.filter_append, ← HD.out]
    congr 1
    by_cases h : hasS l[j] = true <;> simp [h]
   generalize l[j] = x at *
   have hA := (Below.refl wr.heap.size wr).alloc (Nat.le_refl _) (.cells #[.int .i64 x.f, .int .i64 x.t] 90)
   have HA := Lib.hid hA
   have HBX : Hid ((wr.alloc (.cells #[.int .i64 x.f, .int .i64 x.t] 90)).heap[wr.heap.size]? = some (.cells #[.int .i64 x.f, .int .i64 x.t] 90 (0, 0))) := heap_alloc_new _ _
   have HN := Lib.hid (HNO.out x.f x.t (wr.alloc (.cells #[.int .i64 x.f, .int .i64 x.t] 90)))
   clear hA
   by_cases ht : x.t ≤ x.f
   ·have hd : decide (x.t ≤ x.f) = true := decide_eq_true ht
    have hh : hasS x = false := decide_eq_false (by omega)
    rw [hd] at HN
    rw [hh] at HT
    clear hd hh ht
    go_wp2_with fail
    refine HN.out.mono ?_
    rintro r w3 ⟨rfl, h3⟩
    have HB3 := Lib.hid (HB.out.trans ((HA.out.trans (h3.mono (by rw [size1]; omega))).mono HB.out.size))
    have HV3 := Lib.hid (HV.out.below (HA.out.trans (h3.mono (by rw [size1]; omega))))
    clear h3 HN
    go_wp2
    go_roundw
    case rel => exact ⟨j + 1, d, by omega, by go_num, by omega, (by unfold Hid; rw [HT.out]; simp), HV3, HB3⟩
    case measure => simp [intOf]; omega
   ·have hd : decide (x.t ≤ x.f) = false := decide_eq_false ht
    have hh : hasS x = true := decide_eq_true (by omega)
    rw [hd] at HN
    rw [hh] at HT
    clear hd hh ht
    go_wp2_with fail
    refine HN.out.mono ?_
    rintro r w3 ⟨rfl, h3⟩
    have hx3 : w3.heap[wr.heap.size]? = some (.cells #[.int .i64 x.f, .int .i64 x.t] 90 (0, 0)) := (h3.block _ (by rw [size1]; omega)).trans HBX.out
    have hf3 := HA.out.trans (h3.mono (by rw [size1]; omega))
    have hf4 := hf3.alloc hf3.size (.cells #[.int .i64 x.f, .int .i64 x.t] 90)
    have HV4 := Lib.hid (HV.out.below hf4)
    have HB4 := Lib.hid (HB.out.trans (hf4.mono HB.out.size))
    have HS4 := Lib.hid HB4.out.size
    obtain ⟨g0, g1⟩ := cells2 hx3
    clear h3 HN hx3 hf3 hf4
    go_wp2_with (at_builtin; refine wpList_append_rise w _ rfl (.tmp 17) (.tmp 19) 76 rfl w.heap.size i0 _ Tryz.underlying76 hi hz0 hz1 hz2 rfl _ _ d rfl HV4.out ⟨w3.heap.size, 0, none⟩ x rfl (news_at _ _ _ _ rfl) (by omega) HS4.out HB4.out ?_; intro v5 w5 hv5 hb5)
    have HV5 := Lib.hid hv5
    have HB5 := Lib.hid hb5
    clear hv5 hb5
    go_wp2
    go_roundw
    case rel => exact ⟨j + 1, d ++ [x], by omega, by go_num, by rw [List.length_append]; simp; omega, (by unfold Hid; rw [HT.out]; simp), HV5, HB5⟩
    case measure => simp [intOf]; omega
  ·obtain rfl : j = l.length := by omega
   rw [List.take_of_length_le (Nat.le_refl _)] at HD
   have HS := Lib.hid (sort_rise a w.heap.size u3 d wr HB.out.size HV.out (by omega))
   go_wp2_with fail
   refine HS.out.mono ?_
   rintro e w5 ⟨rfl, m, hp, hs, hv, hb⟩
   have HB5 := Lib.hid (HB.out.trans hb)
   obtain ⟨x, q, rfl, _, hsp⟩ := hv.shape
   have HP := Lib.hid hp
   have HSS := Lib.hid hs
   have HSP := Lib.hid hsp
   clear hp hs hv hb hsp HS
   go_wp2
   go_ret
   exact ⟨x, q, m, rfl, by rw [← HD.out]; exact HP.out, HSS.out, HSP.out, HB5.out⟩
theorem own_last {w : World} {B e n N cap g : Nat} {fr : List SpM} {u : SpM} (h : w.ownsRow B e 2 (.slice (some ⟨g, 0, none⟩) N cap) N (sps (fr ++ [u]))) (hn : n = fr.length) (hN : N = n + 1) :
  w.cell? ⟨g, n * 2, none⟩ = some (.int .i64 u.f) ∧ w.cell? ⟨g, n * 2 + 1, none⟩ = some (.int .i64 u.t) ∧ w.frozen? ⟨g, n * 2 + 1, none⟩ = false := by
 subst hN
 have hl : (fr ++ [u]).length = n + 1 := by rw [hn]; simp
 obtain ⟨g1, g2⟩ := sps_get (fr ++ [u]) n (by omega)
 have hx : (fr ++ [u])[n]'(by omega) = u := by subst hn; simp
 rw [hx] at g1 g2
 exact ⟨by rw [h.cellAt _ (by omega)]; exact g1, by rw [h.cellAt _ (by omega)]; exact g2, h.frozenAt _⟩
theorem sps_set (fr : List SpM) (u : SpM) (n : Nat) (hn : n = fr.length) (x : Int) : (sps (fr ++ [u])).set (n * 2 + 1) (.int .i64 x) = sps (fr ++ [(⟨u.f, x⟩ : SpM)]) := by
 rw [sps_snoc, sps_snoc, List.set_append_right _ _ (by rw [sps_len]; omega), sps_len]
 have : n * 2 + 1 - fr.length * 2 = 1 := by omega
 rw [this]
 rfl
theorem own_end {w : World} {B e n N cap g : Nat} {fr : List SpM} {u : SpM} (h : w.ownsRow B e 2 (.slice (some ⟨g, 0, none⟩) N cap) N (sps (fr ++ [u]))) (hn : n = fr.length) (hN : N = n + 1) (hB : B ≤ g) (x : Int) :
  (w.setCell ⟨g, n * 2 + 1, none⟩ (.int .i64 x)).ownsRow B e 2 (.slice (some ⟨g, 0, none⟩) N cap) (fr ++ [(⟨u.f, x⟩ : SpM)]).length (sps (fr ++ [(⟨u.f, x⟩ : SpM)])) := by
 subst hN
 have hl2 : (fr ++ [(⟨u.f, x⟩ : SpM)]).length = n + 1 := by rw [hn]; simp
 have := (h.stored (n * 2 + 1) (.int .i64 x)).1
 rw [sps_set fr u n hn x] at this
 rw [hl2]
 exact this
theorem mergeS_le (r : List SpM) (s : SpM) : (mergeS r s).length ≤ r.length + 1 := by
 rcases List.eq_nil_or_concat r with rfl | ⟨fr, u, hfu⟩
 ·rw [mergeS_nil]; simp
 ·rw [hfu, List.concat_eq_append, mergeS_snoc]
  split <;> simp
theorem merged_perm {m l r : List SpM} (hp : m.Perm (l.filter hasS)) (h : Merged m r) : IsSet (HasL l) r :=
 h.set.congr fun x => ⟨fun ⟨s, hs, h1⟩ => ⟨s, (List.mem_filter.1 (hp.mem_iff.1 hs)).1, h1⟩, fun ⟨s, hs, h1⟩ => ⟨s, hp.mem_iff.2 (List.mem_filter.2 ⟨hs, decide_eq_true (by omega)⟩), h1⟩⟩
set_option maxHeartbeats 4000000 in
theorem norm_any (a : Option Addr) (c : Nat) (l : List SpM) (w : World) (hr : SpSl w a l) (hl : l.length ≤ 100000) (hc : l.length ≤ c) (hcm : c ≤ maxLen) :
  Calls Tryz.prog 95 #[.slice a l.length c] w fun e w' => ∃ (v : Value) (r : List SpM), e = .returned v ∧ IsSet (HasL l) r ∧ r.length ≤ l.length ∧ w'.ownsRow w.heap.size 90 2 v r.length (sps r) ∧ Below w.heap.size w w' := by
 obtain ⟨i0, hi, hz0, hz1, hz2⟩ := info_parts infoSpan
 have HRI := Lib.hid (rising_any a c l w hr hl hc hcm)
 clear hr hc hcm
 go_enter Tryz.func95, Tryz.ntmps95
 go_wp2_with fail
 refine HRI.out.mono ?_
 rintro e w1 ⟨x, q, m, rfl, hp, hs, hsp, hB1⟩
 have hml : m.length ≤ l.length := by rw [hp.length_eq]; exact List.length_filter_le _ _
 have HP := Lib.hid hp
 have HS := Lib.hid hs
 have HSP := Lib.hid hsp
 have HB1 := Lib.hid hB1
 have HT : Hid (∀ s ∈ m, s.f < s.t) := fun s hs => of_decide_eq_true (List.mem_filter.1 (hp.mem_iff.1 hs)).2
 clear hp hs hsp hB1 HRI
 go_wp2
 go_loopw [3, 10] (fun v i wr => ∃ (j : Nat) (r : List SpM), j ≤ m.length ∧ i = .int .i64 j ∧ r.length ≤ j ∧ Hid (Merged (m.take j) r) ∧ Hid (wr.ownsRow w1.heap.size 90 2 v r.length (sps r)) ∧ Hid (Below w1.heap.size w1 wr)) (fun _ i _ => m.length - (intOf i).toNat)
 case atStart => exact ⟨0, [], by omega, rfl, by simp, Merged.nil, ⟨rfl, .inl ⟨rfl, rfl⟩⟩, Below.refl _ _⟩
 case round =>
  obtain ⟨j, r, hj, rfl, hrj, HM, HO, HB⟩ := hrel
  by_cases hjl : j < m.length
  ·obtain ⟨b, off, rfl, hbl, hc0, hc1⟩ := (HSP.out.below HB.out).at_ hjl
   have HM2 : Hid (Merged (m.take (j + 1)) (mergeS r m[j])) := by
    unfold Hid
    rw [List.take_succ_eq_append_getElem hjl]
    refine HM.out.step (HT.out _ (List.getElem_mem hjl)) fun u hu => ?_
    obtain ⟨k, hk, rfl⟩ := List.getElem_of_mem hu
    rw [List.getElem_take]
    exact (List.pairwise_iff_getElem.1 HS.out) k j _ hjl (by simp at hk; omega)
   generalize m[j] = s at *
   have hle := mergeS_le r s
   have HA := Lib.hid ((Below.refl wr.heap.size wr).alloc (Nat.le_refl _) (.cells #[.int .i64 s.f, .int .i64 s.t] 90))
   have HBX : Hid ((wr.alloc (.cells #[.int .i64 s.f, .int .i64 s.t] 90)).heap[wr.heap.size]? = some (.cells #[.int .i64 s.f, .int .i64 s.t] 90 (0, 0))) := heap_alloc_new _ _
   have HAN : ∀ q, Hid (Below wr.heap.size wr (((wr.alloc (.cells #[.int .i64 s.f, .int .i64 s.t] 90)).drewN q).alloc (.cells #[.int .i64 s.f, .int .i64 s.t] 90))) := fun q => (HA.out.trans (Drew.below ⟨q, rfl⟩ _)).alloc (by show _ ≤ (wr.alloc _).heap.size; rw [size1]; omega) _
   have HON := fun q => Lib.hid (own_below HO.out (HAN q).out)
   have HBN := fun q => Lib.hid (HB.out.trans ((HAN q).out.mono HB.out.size))
   have HSN := fun q => Lib.hid (HBN q).out.size
   rcases List.eq_nil_or_concat r with hr0 | ⟨fr, u, hfu⟩
   ·subst hr0
    rw [mergeS_nil] at HM2
    obtain ⟨av, cv, rfl, _, _⟩ := own_sp HO.out
    simp only [List.length_nil] at *
    go_wp2
    go_quiet (fail)
    go_wp2_with (at_builtin; refine wpList_append_own _ rfl (.tmp 41) (.tmp 43) 76 rfl w1.heap.size 90 i0 _ 2 16 Tryz.underlying76 hi hz0 hz1 hz2 rfl (by decide) _ _ _ rfl (HON _).out ⟨wr.heap.size + 1, 0, none⟩ 1 1 [.int .i64 s.f, .int .i64 s.t] rfl rfl (news_at _ _ _ _ (by show _ = (wr.alloc _).heap.size; rw [size1])) (two_one _ _) (by unfold maxLen; omega) (by omega) (HSN _).out ?_; intro v' w2 hown' hgrow hiff)
    have HB3 := Lib.hid (app_below (HBN _).out (HSN _).out (HON _).out hgrow)
    have HO3 : Hid (w2.ownsRow w1.heap.size 90 2 v' [s].length (sps [s])) := hown'
    clear hown' hgrow hiff
    go_wp2
    go_roundw
    case rel => exact ⟨j + 1, [s], by omega, by go_num, by simp, HM2, HO3, HB3⟩
    case measure => simp [intOf]; omega
   ·obtain rfl : r = fr ++ [u] := by rw [hfu, List.concat_eq_append]
    clear hfu
    rw [mergeS_snoc] at HM2 hle
    obtain ⟨n, hn⟩ : ∃ n, n = fr.length := ⟨_, rfl⟩
    obtain ⟨N, hN⟩ : ∃ N, N = (fr ++ [u]).length := ⟨_, rfl⟩
    have hNn : N = n + 1 := by rw [hN, hn]; simp
    obtain ⟨ga, cap, rfl, hcN, hsp⟩ := own_sp HO.out
    obtain ⟨g, rfl, hcm⟩ : ∃ g, ga = some ⟨g, 0, none⟩ ∧ cap ≤ 9223372036854775807 := by
     rcases HO.out.2 with ⟨h0, _⟩ | ⟨g, cap', _, h0, _, _, _, h1, _⟩
     ·injection h0 with e1 e2 e3
      simp at e2
     ·injection h0 with e1 e2 e3
      exact ⟨g, e1, by rw [e3]; exact h1⟩
    have hgB : w1.heap.size ≤ g := (HO.out.lt g rfl).1
    rw [← hN] at HO hrj hle hcN HON
    rw [← hN]
    have HNL := Lib.hid hn
    have HNN := Lib.hid hN
    have HN1 := Lib.hid hNn
    have hwr : IntKind.i64.wrap ((N : Int) - 1) = (n : Int) := by rw [IntWalk.i64_in] <;> omega
    have hb1 : (n : Int) < (N : Int) := by omega
    have hb2 : (0 : Int) ≤ (n : Int) := Int.natCast_nonneg _
    have HHB := Lib.hid hgB
    have HOD := fun q => Lib.hid (own_below HO.out (HA.out.trans (Drew.below ⟨q, rfl⟩ wr.heap.size)))
    have HBD := fun q => Lib.hid (HB.out.trans ((HA.out.trans (Drew.below ⟨q, rfl⟩ wr.heap.size)).mono HB.out.size))
    obtain ⟨c0, c1, c2⟩ := own_last (own_below HO.out HA.out) hn hNn
    have hjN : N ≤ j := hrj
    have hN0 : 0 < N := by omega
    clear hN hn hNn hsp hgB
    by_cases hsu : s.f ≤ u.t
    ·rw [if_pos hsu] at HM2 hle
     have hd0 : decide (s.f ≤ u.t) = true := decide_eq_true hsu
     have hd1 : decide ((0 : Int) ≤ (n : Int)) = true := decide_eq_true hb2
     obtain ⟨mx, hmx⟩ : ∃ mx, mx = max u.t s.t := ⟨_, rfl⟩
     rw [← hmx] at HM2 hle
     have p1 := (cells2 (W := (wr.alloc (.cells #[.int .i64 s.f, .int .i64 s.t] 90))) HBX.out).2
     rcases Int.lt_or_le u.t s.t with hm | hm
     ·have e1 : max u.t s.t = s.t := by omega
      rw [e1] at hmx
      subst hmx
      go_wp2
      go_quiet (fail)
      go_wp2_with fail
      go_region
      have HO5 := Lib.hid (own_end (HOD nq).out.drew HNL.out HN1.out HHB.out s.t)
      have HB5 := Lib.hid ((HBD nq).out.drew.setCell (p := ⟨g, n * 2 + 1, none⟩) HHB.out (.int .i64 s.t))
      clear HOD HBD HON HBN HSN
      go_wp2
      go_roundw
      case rel => exact ⟨j + 1, fr ++ [(⟨u.f, s.t⟩ : SpM)], by omega, by go_num, by omega, HM2, HO5, HB5⟩
      case measure => simp [intOf]; omega
     ·have e1 : max u.t s.t = u.t := by omega
      rw [e1] at hmx
      subst hmx
      go_wp2
      go_quiet (fail)
      go_wp2_with fail
      go_region
      have HO5 := Lib.hid (own_end (HOD nq).out.drew HNL.out HN1.out HHB.out u.t)
      have HB5 := Lib.hid ((HBD nq).out.drew.setCell (p := ⟨g, n * 2 + 1, none⟩) HHB.out (.int .i64 u.t))
      clear HOD HBD HON HBN HSN
      go_wp2
      go_roundw
      case rel => exact ⟨j + 1, fr ++ [(⟨u.f, u.t⟩ : SpM)], by omega, by go_num, by omega, HM2, HO5, HB5⟩
      case measure => simp [intOf]; omega
    ·rw [if_neg hsu] at HM2 hle
     have hd0 : decide (s.f ≤ u.t) = false := decide_eq_false hsu
     have hd1 : decide ((0 : Int) ≤ (n : Int)) = true := decide_eq_true hb2
     clear HOD HBD
     go_wp2
     go_quiet (fail)
     go_wp2_with (at_builtin; refine wpList_append_own _ rfl (.tmp 41) (.tmp 43) 76 rfl w1.heap.size 90 i0 _ 2 16 Tryz.underlying76 hi hz0 hz1 hz2 rfl (by decide) _ _ _ rfl (HON _).out ⟨wr.heap.size + 1, 0, none⟩ 1 1 [.int .i64 s.f, .int .i64 s.t] rfl rfl (news_at _ _ _ _ (by show _ = (wr.alloc _).heap.size; rw [size1])) (two_one _ _) (by unfold maxLen; omega) (by omega) (HSN _).out ?_; intro v' w2 hown' hgrow hiff)
     have HB3 := Lib.hid (app_below (HBN _).out (HSN _).out (HON _).out hgrow)
     have HO3 : Hid (w2.ownsRow w1.heap.size 90 2 v' (fr ++ [u] ++ [s]).length (sps (fr ++ [u] ++ [s]))) := by
      unfold Hid
      rw [sps_snoc, List.length_append, ← HNN.out]
      exact hown'
     clear hown' hgrow hiff
     go_wp2
     go_roundw
     case rel => exact ⟨j + 1, fr ++ [u] ++ [s], by omega, by go_num, by omega, HM2, HO3, HB3⟩
     case measure => simp [intOf]; omega
  ·obtain rfl : j = m.length := by omega
   rw [List.take_of_length_le (Nat.le_refl _)] at HM
   have HD := Lib.hid (merged_perm HP.out HM.out)
   go_wp2
   go_ret
   first | exact ⟨_, r, rfl, HD.out, by omega, own_low HO.out HB1.out.size, HB1.out.trans (HB.out.mono HB1.out.size)⟩ | exact ⟨_, rfl, r, HD.out, by omega, own_low HO.out HB1.out.size, HB1.out.trans (HB.out.mono HB1.out.size)⟩
end Go.Proofs.YtapacckmgmdnoaaGreat
namespace Go.Proofs.YtapacckmgmdnoaaGreat
open Go.RowKit
set_option linter.unusedVariables false
set_option maxRecDepth 100000
set_option maxRecDepth 100000
def evs (l : List EvM) : List Value := l.flatMap evc
theorem evc_len (e : EvM) : (evc e).length = 6 := rfl
theorem evs_cons (e : EvM) (l : List EvM) : evs (e :: l) = evc e ++ evs l := by simp [evs]
theorem evs_get (l : List EvM) : ∀ (k i : Nat) (h : k < l.length) (hi : i < 6), (evs l)[k * 6 + i]? = (evc l[k])[i]? := by
 induction l with
 | nil => intro k i h; exact absurd h (by simp)
 | cons x l ih =>
  intro k i h hi
  rw [evs_cons]
  cases k with
  | zero => rw [List.getElem?_append_left (by rw [evc_len]; omega)]; simp
  | succ k =>
   rw [List.getElem?_append_right (by rw [evc_len]; omega), evc_len, show (k + 1) * 6 + i - 6 = k * 6 + i by omega]
   exact ih k i (by simpa using h) hi
def EvSl (w : World) (a : Option Addr) (l : List EvM) : Prop := ∀ k (h : k < l.length), ∃ b off, a = some ⟨b, off, none⟩ ∧ b < w.heap.size ∧ ∀ i, i < 6 → w.cell? ⟨b, off + k * 6 + i, none⟩ = (evc l[k])[i]?
theorem EvSl.below {w w' : World} {a : Option Addr} {l : List EvM} (h : EvSl w a l) (hb : Below w.heap.size w w') : EvSl w' a l := fun k hk => by
 obtain ⟨b, off, e, hlt, h0⟩ := h k hk
 exact ⟨b, off, e, Nat.lt_of_lt_of_le hlt hb.size, fun i hi => (hb.cell (p := ⟨b, off + k * 6 + i, none⟩) hlt).trans (h0 i hi)⟩
theorem EvSl.at_ {w : World} {a : Option Addr} {l : List EvM} (h : EvSl w a l) {k : Nat} (hk : k < l.length) : ∃ b off, a = some ⟨b, off, none⟩ ∧ b < w.heap.size ∧
  w.cell? ⟨b, off + k * 6, none⟩ = some (.int .i64 l[k].kind) ∧ w.cell? ⟨b, off + k * 6 + 1, none⟩ = some (.int .i64 l[k].at_) ∧ w.cell? ⟨b, off + k * 6 + 2, none⟩ = some (.string l[k].user) ∧
  w.cell? ⟨b, off + k * 6 + 3, none⟩ = some (.string l[k].other) ∧ w.cell? ⟨b, off + k * 6 + 4, none⟩ = some (.int .i64 l[k].n) ∧ w.cell? ⟨b, off + k * 6 + 5, none⟩ = some (.int .i64 l[k].status) := by
 obtain ⟨b, off, e, hlt, h0⟩ := h k hk
 exact ⟨b, off, e, hlt, h0 0 (by decide), h0 1 (by decide), h0 2 (by decide), h0 3 (by decide), h0 4 (by decide), h0 5 (by decide)⟩
def FitsV (l : List EvM) : Prop := ∀ e ∈ l, EFits e
end Go.Proofs.YtapacckmgmdnoaaGreat
