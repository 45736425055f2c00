/- Texts of mine, one behind the other, of each what is wanted. -/
import Derived.Test.YtjhdhfokhkcamaaGreatS00
import Derived.Test.YtjhdhfokhkcamaaGreatShelf
import Derived.Test.YtjhdhfokhkcamaaGreatS01
import Derived.Test.YtjhdhfokhkcamaaGreatS02
import Derived.Test.YtjhdhfokhkcamaaGreatS03
import Derived.Test.YtjhdhfokhkcamaaGreatS04
import Derived.Test.YtjhdhfokhkcamaaGreatS06
import Derived.Test.YtjhdhfokhkcamaaGreatS07
import Derived.Test.YtjhdhfokhkcamaaGreatS08
import Derived.Test.YtjhdhfokhkcamaaGreatS14
import Derived.Test.YtjhdhfokhkcamaaGreatS15
import Derived.Test.YtjhdhfokhkcamaaGreatS17
import Derived.Test.YtjhdhfokhkcamaaGreatS22
import Derived.Test.YtjhdhfokhkcamaaGreatS23
import Derived.Test.YtjhdhfokhkcamaaGreatS26
namespace Go.Proofs.YtjhdhfokhkcamaaGreat
open Go.RowKit
set_option linter.unusedVariables false
set_option maxRecDepth 100000
set_option maxRecDepth 100000
section
variable {w W W' : World} {g : Nat} {a b c d : Value} {t : TypeId}
theorem Zb.alloc (h : Zb w g a b c d t W) (o : Obj) : Zb w g a b c d t (W.alloc o) := h.below (below_one _ _)
end
theorem infoOpR4 : (Tryz.prog.info? 75).map (·.size) = some 4 := by kernel_rfl
section
variable {w W : World} {g : Nat} {a b c d : Value} {t : TypeId}
theorem Zb.loadR (h : Zb w g a b c d t W) (x y z v : Value) : (loadVar 75 ⟨g, 0, none⟩).run Tryz.prog (setO W g x y z v) = .ok (.agg #[x, y, z, v]) (setO W g x y z v) :=
 run_loadVar_mid (P := Tryz.prog) (W.setCells g 0 [x, y, z, v]) g 0 75 [x, y, z, v] _ (World.rangeAt_setCells_same _ _ _ _ h.there) Tryz.underlying75 rfl infoOpR4
theorem Zb.loadT (h : Zb w g a b c d t W) (x y z v : Value) : (loadVar 135 ⟨g, 0, none⟩).run Tryz.prog (setO W g x y z v) = .ok (.agg #[x, y, z, v]) (setO W g x y z v) :=
 run_loadVar_mid (P := Tryz.prog) (W.setCells g 0 [x, y, z, v]) g 0 135 [x, y, z, v] _ (World.rangeAt_setCells_same _ _ _ _ h.there) Tryz.underlying135 rfl infoStayR4
end
set_option maxHeartbeats 2000000 in
theorem rat_any (a : Option Addr) (c : Nat) (l : List OpM) (n : Int) (w : World) (hr : OpSl w a l) (hl : l.length ≤ 1000000) :
  Calls Tryz.prog 174 #[.slice a l.length c, .int .i64 n] w fun e w' => e = .returned (.int .i64 (idxO (hasN n) l)) ∧ Below w.heap.size w w' := by
 have HR := Lib.hid hr
 clear hr
 go_enter Tryz.func174, Tryz.ntmps174
 go_wp2
 go_loopw [5] (fun i wr => ∃ (j : Nat), j ≤ l.length ∧ i = .int .i64 j ∧ Hid (LoTo (hasN n) l j) ∧ Hid (Below w.heap.size w wr)) (fun i _ => l.length - (intOf i).toNat)
 case atStart => exact ⟨0, by omega, rfl, LoTo.zero _ _, Below.refl _ _⟩
 case round =>
  obtain ⟨j, hj, rfl, HO, HB⟩ := hrel
  by_cases hjl : j < l.length
  ·obtain ⟨b, off, rfl, hbl, hc0, hc1, hc2, hc3⟩ := (HR.out.below HB.out).at_ hjl
   have HNX := Lib.hid (HO.out.next hjl)
   have HHT := Lib.hid (HO.out.hit hjl)
   generalize l[j] = x at *
   obtain ⟨xn, xu, xs, xf⟩ := x
   dsimp only at *
   by_cases h1 : xn = n
   ·subst h1
    have d1 : (xn == xn) = true := beq_self_eq_true _
    have HN := Lib.hid (idxO_hit (HHT.out (decide_eq_true rfl)) hjl)
    clear HNX HHT HO
    go_wp2
    go_ret
    exact ⟨by rw [HN.out]; rfl, HB.out⟩
   ·have d1 : (xn == n) = false := beq_eq_false_iff_ne.2 h1
    have HN := Lib.hid (HNX.out (decide_eq_false h1))
    clear HNX HHT HO
    go_wp2
    go_roundw
    case rel => exact ⟨j + 1, by omega, by go_num, HN, HB.out⟩
    case measure => simp [intOf]; omega
  ·obtain rfl : j = l.length := by omega
   have HE := Lib.hid (idxO_miss HO.out.miss)
   go_wp2
   go_ret
   exact ⟨by rw [HE.out]; rfl, HB.out⟩
set_option maxHeartbeats 2000000 in
theorem rFind_any (a : Option Addr) (c : Nat) (l : List OpM) (n : Int) (u : ByteArray) (w : World) (hr : OpSl w a l) (hl : l.length ≤ 1000000) :
  Calls Tryz.prog 175 #[.slice a l.length c, .int .i64 n, .string u] w fun e w' => e = .returned (.tuple #[opV (findE l n u), .int .i64 (findC l n u)]) ∧ Below w.heap.size w w' := by
 have HF := Lib.hid (fun W (h : OpSl W a l) => rat_any a c l n W h hl)
 have HZ := Lib.hid (Zb.new w (.int .i64 0) (.string ⟨#[]⟩) (.int .i64 0) (.int .i64 0) 75)
 have HR := Lib.hid hr
 clear hr
 unfold opV
 have HI := fst_idx (hasN n) l
 generalize l.findIdx (hasN n) = k at HI
 by_cases hk : k < l.length
 ·have hix := idxO_hit HI hk
  rw [hix] at HF
  have d0 : decide ((k : Int) < 0) = false := decide_eq_false (by omega)
  by_cases hu : l[k].u = u
  ·obtain ⟨hc, he, _⟩ := fc_hit HI hk hu
   rw [hc, he]
   have d1 : (l[k].u.toList != u.toList) = false := by rw [hu]; exact txt_ns u
   have d1' : (l[k].u.toList == u.toList) = true := by rw [hu]; exact txt_eq u
   go_enter Tryz.func175, Tryz.ntmps175
   go_wp2_with fail
   refine (HF.out _ (HR.out.below HZ.out.frame)).mono ?_
   rintro e w1 ⟨rfl, hB⟩
   have K1 := HZ.out.below hB
   obtain ⟨b, off, rfl, hbl, hc0, hc1, hc2, hc3⟩ := (HR.out.below K1.frame).at_ hk
   have HL := Lib.hid (K1.loadR (.int .i64 l[k].n) (.string l[k].u) (.int .i64 l[k].s) (.int .i64 l[k].f))
   have HS := Lib.hid (K1.set (.int .i64 l[k].n) (.string l[k].u) (.int .i64 l[k].s) (.int .i64 l[k].f))
   obtain ⟨z0, z1, z2, z3⟩ := K1.cells
   obtain ⟨f0, f1, f2, f3⟩ := K1.free
   have hgl := K1.lt
   unfold setO at HL HS
   clear HF hB K1 hc he HI hix hu
   go_wp2
   refine bodyPost_ret (v := .tuple #[.agg #[.int .i64 l[k].n, .string l[k].u, .int .i64 l[k].s, .int .i64 l[k].f], .int .i64 0]) ?_ rfl ⟨rfl, HS.out⟩
   rw [results_cell_tmp rfl]
   simp [asAddr, Result.andThen, HL.out]
  ·obtain ⟨hc, he, _⟩ := fc_user HI hk hu
   rw [hc, he]
   unfold opZ
   dsimp only
   have d1 := txt_nt hu
   have d1' := txt_ne hu
   go_enter Tryz.func175, Tryz.ntmps175
   go_wp2_with fail
   refine (HF.out _ (HR.out.below HZ.out.frame)).mono ?_
   rintro e w1 ⟨rfl, hB⟩
   have K1 := HZ.out.below hB
   obtain ⟨b, off, rfl, hbl, hc0, hc1, hc2, hc3⟩ := (HR.out.below K1.frame).at_ hk
   have HL := Lib.hid (K1.loadR (.int .i64 0) (.string ⟨#[]⟩) (.int .i64 0) (.int .i64 0))
   have HS := Lib.hid (K1.set (.int .i64 0) (.string ⟨#[]⟩) (.int .i64 0) (.int .i64 0))
   obtain ⟨z0, z1, z2, z3⟩ := K1.cells
   obtain ⟨f0, f1, f2, f3⟩ := K1.free
   have hgl := K1.lt
   unfold setO at HL HS
   clear HF hB K1 hc he HI hix hu
   go_wp2
   refine bodyPost_ret (v := .tuple #[.agg #[.int .i64 0, .string ⟨#[]⟩, .int .i64 0, .int .i64 0], .int .i64 102]) ?_ rfl ⟨rfl, HS.out⟩
   rw [results_cell_tmp rfl]
   simp [asAddr, Result.andThen, HL.out]
 ·obtain rfl : k = l.length := by have := HI.le; omega
  rw [idxO_miss HI] at HF
  obtain ⟨hc, he, _⟩ := fc_miss HI u
  rw [hc, he]
  unfold opZ
  dsimp only
  go_enter Tryz.func175, Tryz.ntmps175
  go_wp2_with fail
  refine (HF.out _ (HR.out.below HZ.out.frame)).mono ?_
  rintro e w1 ⟨rfl, hB⟩
  have K1 := HZ.out.below hB
  have HL := Lib.hid (K1.loadR (.int .i64 0) (.string ⟨#[]⟩) (.int .i64 0) (.int .i64 0))
  have HS := Lib.hid (K1.set (.int .i64 0) (.string ⟨#[]⟩) (.int .i64 0) (.int .i64 0))
  obtain ⟨z0, z1, z2, z3⟩ := K1.cells
  obtain ⟨f0, f1, f2, f3⟩ := K1.free
  have hgl := K1.lt
  unfold setO at HL HS
  clear HF hB K1 hc he HI
  go_wp2
  refine bodyPost_ret (v := .tuple #[.agg #[.int .i64 0, .string ⟨#[]⟩, .int .i64 0, .int .i64 0], .int .i64 101]) ?_ rfl ⟨rfl, HS.out⟩
  rw [results_cell_tmp rfl]
  simp [asAddr, Result.andThen, HL.out]
set_option maxHeartbeats 1000000 in
theorem rstay_any (e : OpM) (t : Int) (w : World) : Calls Tryz.prog 152 #[opV e, .int .i64 t] w fun r w' => r = .returned (stV (stayO e t)) ∧ Below w.heap.size w w' := by
 unfold opV stV stayO
 obtain ⟨n, u, s, f⟩ := e
 dsimp only
 have HL : Hid (∀ o1 : Obj, (loadVar 135 ⟨w.heap.size + 1, 0, none⟩).run Tryz.prog ((w.alloc o1).alloc (.cells #[.int .i64 f, .int .i64 t, .int .i64 n, .int .i64 s] 135)) = .ok (.agg #[.int .i64 f, .int .i64 t, .int .i64 n, .int .i64 s]) ((w.alloc o1).alloc (.cells #[.int .i64 f, .int .i64 t, .int .i64 n, .int .i64 s] 135))) := fun o1 => by
  have := heap_alloc_new (w.alloc o1) (.cells #[.int .i64 f, .int .i64 t, .int .i64 n, .int .i64 s] 135)
  rw [size1] at this
  exact loadStR this
 have HG := Lib.hid (fun o p => below_two w o p)
 go_enter Tryz.func152, Tryz.ntmps152
 go_wp2
 refine bodyPost_ret (v := .agg #[.int .i64 f, .int .i64 t, .int .i64 n, .int .i64 s]) ?_ rfl ?_
 ·rw [results_cell1 rfl]
  simp [asAddr, Result.andThen, HL.out]
 ·exact ⟨rfl, HG.out _ _⟩
end Go.Proofs.YtjhdhfokhkcamaaGreat
namespace Go.Proofs.YtjhdhfokhkcamaaGreat
open Go.RowKit Go.Proofs
set_option linter.unusedVariables false
set_option maxRecDepth 100000
set_option maxRecDepth 100000
theorem eown_empty8 (w : World) (e : TypeId) (k B : Nat) (hB : B ≤ w.heap.size) : (w.alloc (.cells #[] e)).ownsRow B e k (.slice (some ⟨w.heap.size, 0, none⟩) 0 0) 0 [] :=
 ⟨by simp, .inr ⟨w.heap.size, 0, #[], rfl, hB, heap_alloc_new w _, Nat.le_refl _, by unfold maxLen; omega, by simp, by simp⟩⟩
end Go.Proofs.YtjhdhfokhkcamaaGreat
namespace Go.Proofs.YtjhdhfokhkcamaaGreat
open Go.RowKit Go.Sort Go.Proofs
set_option linter.unusedVariables false
set_option maxRecDepth 100000
set_option maxRecDepth 100000
set_option maxHeartbeats 2000000 in
theorem orwithout_any (a : Option Addr) (c : Nat) (l : List OpM) (u : ByteArray) (w : World) (hr : OpSl w a l) (hl : l.length ≤ 100000) :
  Calls Tryz.prog 50 #[.slice a l.length c, .string u] w fun e w' => ∃ v, e = .returned v ∧ w'.ownsRow w.heap.size 75 4 v (l.filter (notU u)).length (oes (l.filter (notU u))) ∧ Below w.heap.size w w' := by
 obtain ⟨i0, hi, hz0, hz1, hz2⟩ := info_parts infoOpR
 have HR := Lib.hid hr
 clear hr
 go_enter Tryz.func50, Tryz.ntmps50
 go_wp2
 go_loopw [5, 6] (fun v i wr => ∃ (j : Nat), j ≤ l.length ∧ i = .int .i64 j ∧ Hid (wr.ownsRow w.heap.size 75 4 v ((l.take j).filter (notU u)).length (oes ((l.take j).filter (notU u)))) ∧ Hid (Below w.heap.size w wr)) (fun _ i _ => l.length - (intOf i).toNat)
 case atStart => exact ⟨0, by omega, rfl, ⟨rfl, .inl ⟨rfl, rfl⟩⟩, Below.refl _ _⟩
 case round =>
  obtain ⟨j, hj, rfl, HO, HB⟩ := hrel
  by_cases hjl : j < l.length
  ·obtain ⟨b, off, rfl, hbl, hc0, hc1, hc2, hc3⟩ := (HR.out.below HB.out).at_ hjl
   have HT := Lib.hid (ofil_take (notU u) l j hjl)
   have HLN := Lib.hid (ofil_len (notU u) l j)
   generalize l[j] = x at *
   generalize (l.take j).filter (notU u) = m at *
   have hb1 := Below.refl wr.heap.size wr
   by_cases hu : x.u = u
   ·have HC2 : Hid ((l.take (j + 1)).filter (notU u) = m) := by
     have := HT.out
     rwa [if_neg (by unfold notU; rw [decide_eq_false (fun h => h hu)]; exact Bool.false_ne_true), List.append_nil] at this
    have q1 : (x.u.toList != u.toList) = false := by rw [hu]; exact txt_ns u
    have q2 : (x.u.toList == u.toList) = true := by rw [hu]; exact txt_eq u
    have HO2 := Lib.hid (own_below HO.out hb1)
    have HB2 := Lib.hid (HB.out.trans (hb1.mono HB.out.size))
    clear HT HLN hu hb1
    go_wp2
    go_roundw
    case rel => exact ⟨j + 1, by omega, by go_num, (by unfold Hid; rw [HC2.out]; exact HO2.out), HB2.out⟩
    case measure => simp [intOf]; omega
   ·have HC2 : Hid ((l.take (j + 1)).filter (notU u) = m ++ [x]) := by
     have := HT.out
     rwa [if_pos (show notU u x = true from decide_eq_true hu)] at this
    have q1 := txt_nt hu
    have q2 := txt_ne hu
    have hb2 : Below wr.heap.size wr (wr.alloc (.cells #[.int .i64 x.n, .string x.u, .int .i64 x.s, .int .i64 x.f] 75)) := hb1.trans ((below_one wr (.cells #[.int .i64 x.n, .string x.u, .int .i64 x.s, .int .i64 x.f] 75)).mono hb1.size)
    have HO2 := Lib.hid (own_below HO.out hb2)
    have HB2 := Lib.hid (HB.out.trans (hb2.mono HB.out.size))
    have HS2 := Lib.hid HB2.out.size
    have hlm := HLN.out
    clear HT hu hb1 hb2
    go_wp2_with (at_builtin; refine wpList_append_own _ rfl (.tmp 20) (.tmp 25) 22 rfl w.heap.size 75 i0 _ 4 40 Tryz.underlying22 hi hz0 hz1 hz2 rfl (by decide) _ _ _ rfl HO2.out ⟨wr.heap.size, 0, none⟩ 1 1 [.int .i64 x.n, .string x.u, .int .i64 x.s, .int .i64 x.f] rfl rfl (news_at _ _ _ _ rfl) (four_o _ _ _ _) (by unfold maxLen; omega) (by omega) HS2.out ?_; intro v' w3 hown' hgrow hiff)
    have HB3 := Lib.hid (app_below HB2.out HS2.out HO2.out hgrow)
    have HO3 := Lib.hid hown'
    clear hown' hgrow hiff HB2 HS2 HO2
    go_wp2
    go_roundw
    case rel => exact ⟨j + 1, by omega, by go_num, (by unfold Hid; rw [HC2.out, List.length_append, oes_snoc]; exact HO3.out), HB3⟩
    case measure => simp [intOf]; omega
  ·obtain rfl : j = l.length := by omega
   rw [List.take_of_length_le (Nat.le_refl _)] at HO
   go_wp2
   go_ret
   exact ⟨_, rfl, HO.out, HB.out⟩
end Go.Proofs.YtjhdhfokhkcamaaGreat
namespace Go.Proofs.YtjhdhfokhkcamaaGreat
open Go.RowKit Go.Proofs
set_option linter.unusedVariables false
set_option maxRecDepth 100000
set_option maxRecDepth 100000
theorem oes_set4 (l : List OpM) (k : Nat) (h : k < l.length) (n : Int) (u : ByteArray) (s f : Int) (hn : l[k].n = n) (hu : l[k].u = u) : ((((oes l).set (k * 4) (.int .i64 n)).set (k * 4 + 1) (.string u)).set (k * 4 + 2) (.int .i64 s)).set (k * 4 + 3) (.int .i64 f) = oes (chgAt l k s f) := by
 have hk : (oes (l.take k)).length = k * 4 := by rw [oes_len, List.length_take]; omega
 subst hn hu
 rw [chgAt_at h, oes_split l k h, oes_append, oes_cons]
 rw [List.set_append_right _ _ (by omega), List.set_append_right _ _ (by omega), List.set_append_right _ _ (by omega), List.set_append_right _ _ (by omega), hk]
 have e0 : k * 4 - k * 4 = 0 := by omega
 have e3 : k * 4 + 1 - k * 4 = 1 := by omega
 have e1 : k * 4 + 2 - k * 4 = 2 := by omega
 have e2 : k * 4 + 3 - k * 4 = 3 := by omega
 rw [e0, e1, e2, e3]
 rfl
theorem wpList_append_op2 {P : Program} (w : World) {ops : Array Oper} {rest : List Oper} {o : Oper} {a : Act} {Q : Exit → Act → World → Prop} (hgd : o.guard = none) (s x : Operand) (t : TypeId)
  (ho : o.op = .call { callee := .builtin .append, args := #[s, x], argTypes := #[t, t] })
  (base : Nat) (e : TypeId) (i : TypeInfo) (z : Value) (ht : P.underlying t = some (.slice e)) (hi : P.info? e = some i) (hz : i.zero = some z)
  (hsize : i.size = 4) (hby : i.bytes = 40) (hzs : z.cells.size = 4)
  (v : Value) (l : List OpM) (hs : a.eval s = v) (hown : w.ownsRow base e 4 v l.length (oes l))
  (A : Option Addr) (c : Nat) (m : List OpM) (n : Nat) (hn : n = m.length) (hx : a.eval x = .slice A n c) (hsl : OpSl w A m) (hnil : A = none → c = 0)
  (hlen : l.length + m.length ≤ 1000000) (hbase : base ≤ w.heap.size)
  (h : ∀ v' w', w'.ownsRow base e 4 v' (l ++ m).length (oes (l ++ m)) → Below base w w' → wpList P ops Q rest (a.put o.dst v') w') : wpList P ops Q (o :: rest) a w := by
 subst hn
 exact wpList_append_op w hgd s x t ho base e i z ht hi hz hsize hby hzs v l hs hown A c m hx hsl hnil hlen hbase h
theorem oown_snoc {w : World} {B : Nat} {e : TypeId} {v : Value} {m : List OpM} {x : OpM} (h : w.ownsRow B e 4 v (m.length + 1) (oes m ++ [.int .i64 x.n, .string x.u, .int .i64 x.s, .int .i64 x.f])) : w.ownsRow B e 4 v (m ++ [x]).length (oes (m ++ [x])) := by
 rw [List.length_append, oes_snoc]
 exact h
set_option maxHeartbeats 8000000 in
theorem ropen_any (a : Option Addr) (c : Nat) (l : List OpM) (e : OpM) (w : World) (hr : OpSl w a l) (hn : a = none → c = 0) (hl : l.length ≤ 500) (hc : l.length ≤ c) (hcm : c ≤ maxLen) :
  Calls Tryz.prog 121 #[.slice a l.length c, opV e] w fun r w' => ∃ v, r = .returned (.tuple #[v, .int .i64 (openC l e)]) ∧ GotO w w' (openR l e) v := by
 obtain ⟨i0, hi, hz0, hz1, hz2⟩ := info_parts infoOpR
 have HIF := Lib.hid (fun W (h : OpSl W a l) => rat_any a c l e.n W h (by omega))
 have HNil := Lib.hid hn
 have HK0 := Lib.hid (RsO.new (x := e) hr (Below.refl _ _) 75)
 have HSB : Hid (∀ W, RsO w w.heap.size e a l W → W.cell? ⟨w.heap.size, 0, none⟩ = some (.int .i64 e.n) ∧ W.cell? ⟨w.heap.size, 1, none⟩ = some (.string e.u) ∧ W.cell? ⟨w.heap.size, 2, none⟩ = some (.int .i64 e.s) ∧ W.cell? ⟨w.heap.size, 3, none⟩ = some (.int .i64 e.f)) := fun W h => h.box
 have HGA := Lib.hid (fun k (h : IsFst (abvN e.n) l k) => open_at h)
 have hDA := idxO_any (hasN e.n) l
 have hOC : openC l e = if l.any (hasN e.n) = true then 100 else if 16 ≤ l.length then 103 else 0 := rfl
 have hOR : openR l e = if openC l e = 0 then openS l e else [] := rfl
 unfold opV
 unfold maxLen at hcm
 generalize idxO (hasN e.n) l = ix at *
 cases hi2 : l.any (hasN e.n) with
 | true =>
  rw [hi2] at hDA
  rw [hi2, if_pos rfl] at hOC
  rw [hOC, if_neg (by decide)] at hOR
  rw [hOC, hOR]
  clear hr hn hi2 hOC hOR HGA
  go_enter Tryz.func121, Tryz.ntmps121
  obtain ⟨y0, y1, y2, y3⟩ := HSB.out _ HK0.out
  go_wp2_with fail
  refine (HIF.out _ HK0.out.row).mono ?_
  rintro r w1 ⟨rfl, hB⟩
  have K1 := HK0.out.below hB
  clear HIF hB y0 y1 y2 y3
  go_wp2
  go_ret2
  exact ⟨_, rfl, GotO.nil K1.frame⟩
 | false =>
  rw [hi2] at hDA
  rw [hi2, if_neg Bool.false_ne_true] at hOC
  by_cases h16 : 16 ≤ l.length
  ·rw [if_pos h16] at hOC
   rw [hOC, if_neg (by decide)] at hOR
   rw [hOC, hOR]
   have d1 : decide ((16 : Int) ≤ (l.length : Int)) = true := decide_eq_true (by omega)
   have d2 : decide ((l.length : Int) ≥ (16 : Int)) = true := decide_eq_true (by omega)
   clear hr hn hi2 hOC hOR HGA
   go_enter Tryz.func121, Tryz.ntmps121
   obtain ⟨y0, y1, y2, y3⟩ := HSB.out _ HK0.out
   go_wp2_with fail
   refine (HIF.out _ HK0.out.row).mono ?_
   rintro r w1 ⟨rfl, hB⟩
   have K1 := HK0.out.below hB
   clear HIF hB y0 y1 y2 y3
   go_wp2
   go_ret2
   exact ⟨_, rfl, GotO.nil K1.frame⟩
  ·rw [if_neg h16] at hOC
   rw [hOC, if_pos rfl] at hOR
   rw [hOC, hOR]
   have d1 : decide ((16 : Int) ≤ (l.length : Int)) = false := decide_eq_false (by omega)
   have d2 : decide ((l.length : Int) ≥ (16 : Int)) = false := decide_eq_false (by omega)
   generalize hG : openS l e = G at *
   clear hr hn hi2 hOC hOR h16 hG
   go_enter Tryz.func121, Tryz.ntmps121
   obtain ⟨y0, y1, y2, y3⟩ := HSB.out _ HK0.out
   go_wp2_with fail
   refine (HIF.out _ HK0.out.row).mono ?_
   rintro r w1 ⟨rfl, hB⟩
   have K1 := HK0.out.below hB
   clear HIF hB y0 y1 y2 y3
   have HK1 := Lib.hid K1
   clear HK0 K1
   generalize w.heap.size = g at *
   go_wp2
   clear d1 d2 hDA
   go_loopw [6] (fun i wr => ∃ (j : Nat), j ≤ l.length ∧ i = .int .i64 j ∧ Hid (LoTo (abvN e.n) l j) ∧ Hid (RsO w g e a l wr)) (fun i _ => l.length - (intOf i).toNat)
   case atStart => exact ⟨0, by omega, rfl, LoTo.zero _ _, HK1.out⟩
   case round =>
    clear HK1
    obtain ⟨j, hj, rfl, HO, HK⟩ := hrel
    by_cases hjl : j < l.length
    ·obtain ⟨b, off, rfl, -, hc0, hc1, hc2, hc3⟩ := HK.out.row.at_ hjl
     obtain ⟨x0, x1, x2, x3⟩ := HSB.out _ HK.out
     have HNX := Lib.hid (HO.out.next hjl)
     have HHT := Lib.hid (HO.out.hit hjl)
     have dj : decide ((j : Int) < (l.length : Int)) = true := decide_eq_true (by omega)
     generalize l[j] = x at *
     by_cases h3 : e.n < x.n
     ·have HP := Lib.hid (HHT.out (decide_eq_true h3))
      have d4 : decide (x.n ≤ e.n) = false := decide_eq_false (by omega)
      clear HNX HHT HO h3 HNil
      go_wp2
      go_quiet (fail)
      have K3 := HK.out.below (Drew.below (w' := wr.drewN nq) ⟨nq, rfl⟩ _)
      generalize wr.drewN nq = K3W at *
      clear hc0 hc1 hc2 hc3 x0 x1 x2 x3 dj d4 HK
      have hcj : ¬ c = j := by omega
      have hcj2 : j < c := by omega
      have hpc : j ≤ c := by omega
      have hz1' : (0 : Int) ≤ (j : Int) := by omega
      have hz2' : (j : Int) ≤ (l.length : Int) := by omega
      have hz3' : (j : Int) ≤ (c : Int) := by omega
      have hz4' : (l.length : Int) ≤ (c : Int) := by omega
      obtain ⟨m1, e1⟩ : ∃ m, m = l.take j := ⟨_, rfl⟩
      obtain ⟨m2, e2⟩ : ∃ m, m = l.drop j := ⟨_, rfl⟩
      have HL1 : Hid (j = m1.length) := by unfold Hid; rw [e1, List.length_take]; omega
      have HL2 : Hid (l.length - j = m2.length) := by unfold Hid; rw [e2, List.length_drop]
      have hk1 : (some ⟨b, off, none⟩ : Option Addr) = none → c = 0 := fun h => (by cases h)
      have hk2 : (some ⟨b, off + j * 4, none⟩ : Option Addr) = none → c - j = 0 := fun h => (by cases h)
      have HS1 : Hid (∀ W, Below K3W.heap.size K3W W → OpSl W (some ⟨b, off, none⟩) m1) := fun W h => by rw [e1]; exact (K3.row.below h).take j
      have HS2 : Hid (∀ W, Below K3W.heap.size K3W W → OpSl W (some ⟨b, off + j * 4, none⟩) m2) := fun W h => by rw [e2]; exact (K3.row.below h).drop j
      have HGG : Hid (m1 ++ [e] ++ m2 = G) := by unfold Hid; rw [e1, e2, HGA.out j HP.out, List.append_assoc]; rfl
      clear e1 e2
      clear HGA HP
      have hb1 : m1.length ≤ 500 := by have := HL1.out; omega
      have hb2 : m2.length ≤ 500 := by have := HL2.out; omega
      have HE0 := Lib.hid (own_emptyO K3W 75 4 K3W.heap.size (Nat.le_refl _))
      have HEB := Lib.hid (below_one K3W (.cells #[] 75))
      have HM1 := Lib.hid (HS1.out _ HEB.out)
      have HMS := Lib.hid HEB.out.size
      go_wp2_with (first | (at_builtin; refine wpList_append_op2 _ rfl (.tmp 32) (.tmp 35) 22 rfl K3W.heap.size 75 i0 _ Tryz.underlying22 hi hz0 hz1 hz2 rfl _ [] rfl HE0.out (some ⟨b, off, none⟩) c m1 j HL1.out rfl HM1.out hk1 (by simp; omega) HMS.out ?_; intro v1 w4 ho1 hB1; have HO1 := Lib.hid ho1; have HB1 := Lib.hid (HEB.out.trans hB1); have HO1A : Hid ((w4.alloc (.cells #[.int .i64 e.n, .string e.u, .int .i64 e.s, .int .i64 e.f] 75)).ownsRow K3W.heap.size 75 4 v1 m1.length (oes m1)) := own_below HO1.out (below_one w4 (.cells #[.int .i64 e.n, .string e.u, .int .i64 e.s, .int .i64 e.f] 75)); have HB1A := Lib.hid (HB1.out.trans ((below_one w4 (.cells #[.int .i64 e.n, .string e.u, .int .i64 e.s, .int .i64 e.f] 75)).mono HB1.out.size)); have HS1A := Lib.hid HB1A.out.size; clear ho1 hB1; obtain ⟨d0, d1, d2, d3⟩ := HSB.out _ (K3.below HB1.out)) | (at_builtin; refine wpList_append_own _ rfl (.tmp 37) (.tmp 39) 22 rfl K3W.heap.size 75 i0 _ 4 40 Tryz.underlying22 hi hz0 hz1 hz2 rfl (by decide) _ _ _ rfl HO1A.out ⟨w4.heap.size, 0, none⟩ 1 1 [.int .i64 e.n, .string e.u, .int .i64 e.s, .int .i64 e.f] rfl rfl (news_at _ _ _ _ rfl) (four_o _ _ _ _) (by unfold maxLen; omega) (by omega) HS1A.out ?_; intro v2 w5 ho2 hgrow hiff; have HB2 := Lib.hid (app_below HB1A.out HS1A.out HO1A.out hgrow); have HO2 : Hid (w5.ownsRow K3W.heap.size 75 4 v2 (m1 ++ [e]).length (oes (m1 ++ [e]))) := oown_snoc ho2; clear ho2 hgrow hiff; have HM2 := Lib.hid (HS2.out _ HB2.out); have HMS2 := Lib.hid HB2.out.size) | (at_builtin; refine wpList_append_op2 _ rfl (.tmp 41) (.tmp 44) 22 rfl K3W.heap.size 75 i0 _ Tryz.underlying22 hi hz0 hz1 hz2 rfl _ (m1 ++ [e]) rfl HO2.out (some ⟨b, off + j * 4, none⟩) (c - j) m2 (l.length - j) HL2.out rfl HM2.out hk2 (by simp; omega) HMS2.out ?_; intro v3 w6 ho3 hB3; have HO3 := Lib.hid ho3; have HB3 := Lib.hid (HB2.out.trans hB3); clear ho3 hB3))
      rw [HGG.out] at HO3
      go_ret2
      first | exact ⟨v3, rfl, GotO.of HO3.out (K3.frame.trans (HB3.out.mono K3.frame.size))⟩ | exact ⟨v3, by trivial, GotO.of HO3.out (K3.frame.trans (HB3.out.mono K3.frame.size))⟩
     ·have HN := Lib.hid (HNX.out (decide_eq_false h3))
      have d4 : decide (x.n ≤ e.n) = true := decide_eq_true (by omega)
      clear HNX HHT HO h3 HNil HGA
      go_wp2
      go_quiet (fail)
      go_wp2
      go_roundw
      case rel => exact ⟨j + 1, by omega, by go_num, HN, HK.out.below (Drew.below ⟨_, rfl⟩ _)⟩
      case measure => simp [intOf]; omega
    ·have hje : j = l.length := by omega
     have HP : Hid (IsFst (abvN e.n) l j) := by rw [hje] at HO ⊢; exact HO.out.miss
     have dj : decide ((j : Int) < (l.length : Int)) = false := decide_eq_false (by omega)
     clear HO
     go_wp2
     go_quiet (fail)
     have K3 := HK.out.below (Drew.below (w' := wr.drewN nq) ⟨nq, rfl⟩ _)
     generalize wr.drewN nq = K3W at *
     clear dj HK
     cases a with
     | none =>
      have hc0 := HNil.out rfl
      have hl0 := K3.row.snil
      subst hc0 hl0
      obtain rfl : j = 0 := by simpa using hje
      obtain ⟨m1, e1⟩ : ∃ m : List OpM, m = [] := ⟨_, rfl⟩
      obtain ⟨m2, e2⟩ : ∃ m : List OpM, m = [] := ⟨_, rfl⟩
      have HL1 : Hid (0 = m1.length) := by unfold Hid; rw [e1]; rfl
      have HL2 : Hid (0 = m2.length) := by unfold Hid; rw [e2]; rfl
      have hk1 : (none : Option Addr) = none → 0 = 0 := fun _ => rfl
      have hk2 : (none : Option Addr) = none → 0 = 0 := fun _ => rfl
      have HS1 : Hid (∀ W, Below K3W.heap.size K3W W → OpSl W (none : Option Addr) m1) := fun W h => by rw [e1]; exact OpSl.nil _ _
      have HS2 : Hid (∀ W, Below K3W.heap.size K3W W → OpSl W (none : Option Addr) m2) := fun W h => by rw [e2]; exact OpSl.nil _ _
      have HGG : Hid (m1 ++ [e] ++ m2 = G) := by unfold Hid; rw [e1, e2, HGA.out 0 HP.out]; rfl
      clear e1 e2
      clear HGA HP HNil hje
      have hb1 : m1.length ≤ 500 := by have := HL1.out; omega
      have hb2 : m2.length ≤ 500 := by have := HL2.out; omega
      have HE0 := Lib.hid (own_emptyO K3W 75 4 K3W.heap.size (Nat.le_refl _))
      have HEB := Lib.hid (below_one K3W (.cells #[] 75))
      have HM1 := Lib.hid (HS1.out _ HEB.out)
      have HMS := Lib.hid HEB.out.size
      go_wp2_with (first | (at_builtin; refine wpList_append_op2 _ rfl (.tmp 32) (.tmp 35) 22 rfl K3W.heap.size 75 i0 _ Tryz.underlying22 hi hz0 hz1 hz2 rfl _ [] rfl HE0.out none 0 m1 0 HL1.out rfl HM1.out hk1 (by simp; omega) HMS.out ?_; intro v1 w4 ho1 hB1; have HO1 := Lib.hid ho1; have HB1 := Lib.hid (HEB.out.trans hB1); have HO1A : Hid ((w4.alloc (.cells #[.int .i64 e.n, .string e.u, .int .i64 e.s, .int .i64 e.f] 75)).ownsRow K3W.heap.size 75 4 v1 m1.length (oes m1)) := own_below HO1.out (below_one w4 (.cells #[.int .i64 e.n, .string e.u, .int .i64 e.s, .int .i64 e.f] 75)); have HB1A := Lib.hid (HB1.out.trans ((below_one w4 (.cells #[.int .i64 e.n, .string e.u, .int .i64 e.s, .int .i64 e.f] 75)).mono HB1.out.size)); have HS1A := Lib.hid HB1A.out.size; clear ho1 hB1; obtain ⟨d0, d1, d2, d3⟩ := HSB.out _ (K3.below HB1.out)) | (at_builtin; refine wpList_append_own _ rfl (.tmp 37) (.tmp 39) 22 rfl K3W.heap.size 75 i0 _ 4 40 Tryz.underlying22 hi hz0 hz1 hz2 rfl (by decide) _ _ _ rfl HO1A.out ⟨w4.heap.size, 0, none⟩ 1 1 [.int .i64 e.n, .string e.u, .int .i64 e.s, .int .i64 e.f] rfl rfl (news_at _ _ _ _ rfl) (four_o _ _ _ _) (by unfold maxLen; omega) (by omega) HS1A.out ?_; intro v2 w5 ho2 hgrow hiff; have HB2 := Lib.hid (app_below HB1A.out HS1A.out HO1A.out hgrow); have HO2 : Hid (w5.ownsRow K3W.heap.size 75 4 v2 (m1 ++ [e]).length (oes (m1 ++ [e]))) := oown_snoc ho2; clear ho2 hgrow hiff; have HM2 := Lib.hid (HS2.out _ HB2.out); have HMS2 := Lib.hid HB2.out.size) | (at_builtin; refine wpList_append_op2 _ rfl (.tmp 41) (.tmp 44) 22 rfl K3W.heap.size 75 i0 _ Tryz.underlying22 hi hz0 hz1 hz2 rfl _ (m1 ++ [e]) rfl HO2.out none 0 m2 0 HL2.out rfl HM2.out hk2 (by simp; omega) HMS2.out ?_; intro v3 w6 ho3 hB3; have HO3 := Lib.hid ho3; have HB3 := Lib.hid (HB2.out.trans hB3); clear ho3 hB3))
      rw [HGG.out] at HO3
      go_ret2
      first | exact ⟨v3, rfl, GotO.of HO3.out (K3.frame.trans (HB3.out.mono K3.frame.size))⟩ | exact ⟨v3, by trivial, GotO.of HO3.out (K3.frame.trans (HB3.out.mono K3.frame.size))⟩
     | some ad =>
      by_cases hlz : 0 < l.length
      ·obtain ⟨b, off, e0, -, -, -, -, -⟩ := K3.row.at_ hlz
       cases e0
       by_cases hcj : c = j
       ·subst hje
        subst hcj
        have hz2' : (l.length : Int) ≤ (l.length : Int) := Int.le_refl _
        have hz1' : (0 : Int) ≤ (l.length : Int) := by omega
        obtain ⟨m1, e1⟩ : ∃ m, m = l := ⟨_, rfl⟩
        obtain ⟨m2, e2⟩ : ∃ m : List OpM, m = [] := ⟨_, rfl⟩
        have HL1 : Hid (l.length = m1.length) := by unfold Hid; rw [e1]
        have HL2 : Hid (0 = m2.length) := by unfold Hid; rw [e2]; rfl
        have hk1 : (some ⟨b, off, none⟩ : Option Addr) = none → l.length = 0 := fun h => (by cases h)
        have hk2 : (some ⟨b, off, none⟩ : Option Addr) = none → 0 = 0 := fun h => (by cases h)
        have HS1 : Hid (∀ W, Below K3W.heap.size K3W W → OpSl W (some ⟨b, off, none⟩) m1) := fun W h => by rw [e1]; exact K3.row.below h
        have HS2 : Hid (∀ W, Below K3W.heap.size K3W W → OpSl W (some ⟨b, off, none⟩) m2) := fun W h => by rw [e2]; exact OpSl.nil _ _
        have HGG : Hid (m1 ++ [e] ++ m2 = G) := by unfold Hid; rw [e1, e2, HGA.out l.length HP.out, List.take_of_length_le (Nat.le_refl _), List.drop_of_length_le (Nat.le_refl _), List.append_nil]
        clear e1 e2 HGA HP HNil
        have hb1 : m1.length ≤ 500 := by have := HL1.out; omega
        have hb2 : m2.length ≤ 500 := by have := HL2.out; omega
        have HE0 := Lib.hid (own_emptyO K3W 75 4 K3W.heap.size (Nat.le_refl _))
        have HEB := Lib.hid (below_one K3W (.cells #[] 75))
        have HM1 := Lib.hid (HS1.out _ HEB.out)
        have HMS := Lib.hid HEB.out.size
        go_wp2_with (first | (at_builtin; refine wpList_append_op2 _ rfl (.tmp 32) (.tmp 35) 22 rfl K3W.heap.size 75 i0 _ Tryz.underlying22 hi hz0 hz1 hz2 rfl _ [] rfl HE0.out (some ⟨b, off, none⟩) l.length m1 l.length HL1.out rfl HM1.out hk1 (by simp; omega) HMS.out ?_; intro v1 w4 ho1 hB1; have HO1 := Lib.hid ho1; have HB1 := Lib.hid (HEB.out.trans hB1); have HO1A : Hid ((w4.alloc (.cells #[.int .i64 e.n, .string e.u, .int .i64 e.s, .int .i64 e.f] 75)).ownsRow K3W.heap.size 75 4 v1 m1.length (oes m1)) := own_below HO1.out (below_one w4 (.cells #[.int .i64 e.n, .string e.u, .int .i64 e.s, .int .i64 e.f] 75)); have HB1A := Lib.hid (HB1.out.trans ((below_one w4 (.cells #[.int .i64 e.n, .string e.u, .int .i64 e.s, .int .i64 e.f] 75)).mono HB1.out.size)); have HS1A := Lib.hid HB1A.out.size; clear ho1 hB1; obtain ⟨d0, d1, d2, d3⟩ := HSB.out _ (K3.below HB1.out)) | (at_builtin; refine wpList_append_own _ rfl (.tmp 37) (.tmp 39) 22 rfl K3W.heap.size 75 i0 _ 4 40 Tryz.underlying22 hi hz0 hz1 hz2 rfl (by decide) _ _ _ rfl HO1A.out ⟨w4.heap.size, 0, none⟩ 1 1 [.int .i64 e.n, .string e.u, .int .i64 e.s, .int .i64 e.f] rfl rfl (news_at _ _ _ _ rfl) (four_o _ _ _ _) (by unfold maxLen; omega) (by omega) HS1A.out ?_; intro v2 w5 ho2 hgrow hiff; have HB2 := Lib.hid (app_below HB1A.out HS1A.out HO1A.out hgrow); have HO2 : Hid (w5.ownsRow K3W.heap.size 75 4 v2 (m1 ++ [e]).length (oes (m1 ++ [e]))) := oown_snoc ho2; clear ho2 hgrow hiff; have HM2 := Lib.hid (HS2.out _ HB2.out); have HMS2 := Lib.hid HB2.out.size) | (at_builtin; refine wpList_append_op2 _ rfl (.tmp 41) (.tmp 44) 22 rfl K3W.heap.size 75 i0 _ Tryz.underlying22 hi hz0 hz1 hz2 rfl _ (m1 ++ [e]) rfl HO2.out (some ⟨b, off, none⟩) 0 m2 0 HL2.out rfl HM2.out hk2 (by simp; omega) HMS2.out ?_; intro v3 w6 ho3 hB3; have HO3 := Lib.hid ho3; have HB3 := Lib.hid (HB2.out.trans hB3); clear ho3 hB3))
        rw [HGG.out] at HO3
        go_ret2
        first | exact ⟨v3, rfl, GotO.of HO3.out (K3.frame.trans (HB3.out.mono K3.frame.size))⟩ | exact ⟨v3, by trivial, GotO.of HO3.out (K3.frame.trans (HB3.out.mono K3.frame.size))⟩
       ·have hcj2 : j < c := by omega
        have hpc : j ≤ c := by omega
        have hz1' : (0 : Int) ≤ (j : Int) := by omega
        have hz2' : (j : Int) ≤ (l.length : Int) := by omega
        have hz3' : (j : Int) ≤ (c : Int) := by omega
        have hz4' : (l.length : Int) ≤ (c : Int) := by omega
        obtain ⟨m1, e1⟩ : ∃ m, m = l.take j := ⟨_, rfl⟩
        obtain ⟨m2, e2⟩ : ∃ m, m = l.drop j := ⟨_, rfl⟩
        have HL1 : Hid (j = m1.length) := by unfold Hid; rw [e1, List.length_take]; omega
        have HL2 : Hid (l.length - j = m2.length) := by unfold Hid; rw [e2, List.length_drop]
        have hk1 : (some ⟨b, off, none⟩ : Option Addr) = none → c = 0 := fun h => (by cases h)
        have hk2 : (some ⟨b, off + j * 4, none⟩ : Option Addr) = none → c - j = 0 := fun h => (by cases h)
        have HS1 : Hid (∀ W, Below K3W.heap.size K3W W → OpSl W (some ⟨b, off, none⟩) m1) := fun W h => by rw [e1]; exact (K3.row.below h).take j
        have HS2 : Hid (∀ W, Below K3W.heap.size K3W W → OpSl W (some ⟨b, off + j * 4, none⟩) m2) := fun W h => by rw [e2]; exact (K3.row.below h).drop j
        have HGG : Hid (m1 ++ [e] ++ m2 = G) := by unfold Hid; rw [e1, e2, HGA.out j HP.out, List.append_assoc]; rfl
        clear e1 e2
        clear HGA HP HNil hje
        have hb1 : m1.length ≤ 500 := by have := HL1.out; omega
        have hb2 : m2.length ≤ 500 := by have := HL2.out; omega
        have HE0 := Lib.hid (own_emptyO K3W 75 4 K3W.heap.size (Nat.le_refl _))
        have HEB := Lib.hid (below_one K3W (.cells #[] 75))
        have HM1 := Lib.hid (HS1.out _ HEB.out)
        have HMS := Lib.hid HEB.out.size
        go_wp2_with (first | (at_builtin; refine wpList_append_op2 _ rfl (.tmp 32) (.tmp 35) 22 rfl K3W.heap.size 75 i0 _ Tryz.underlying22 hi hz0 hz1 hz2 rfl _ [] rfl HE0.out (some ⟨b, off, none⟩) c m1 j HL1.out rfl HM1.out hk1 (by simp; omega) HMS.out ?_; intro v1 w4 ho1 hB1; have HO1 := Lib.hid ho1; have HB1 := Lib.hid (HEB.out.trans hB1); have HO1A : Hid ((w4.alloc (.cells #[.int .i64 e.n, .string e.u, .int .i64 e.s, .int .i64 e.f] 75)).ownsRow K3W.heap.size 75 4 v1 m1.length (oes m1)) := own_below HO1.out (below_one w4 (.cells #[.int .i64 e.n, .string e.u, .int .i64 e.s, .int .i64 e.f] 75)); have HB1A := Lib.hid (HB1.out.trans ((below_one w4 (.cells #[.int .i64 e.n, .string e.u, .int .i64 e.s, .int .i64 e.f] 75)).mono HB1.out.size)); have HS1A := Lib.hid HB1A.out.size; clear ho1 hB1; obtain ⟨d0, d1, d2, d3⟩ := HSB.out _ (K3.below HB1.out)) | (at_builtin; refine wpList_append_own _ rfl (.tmp 37) (.tmp 39) 22 rfl K3W.heap.size 75 i0 _ 4 40 Tryz.underlying22 hi hz0 hz1 hz2 rfl (by decide) _ _ _ rfl HO1A.out ⟨w4.heap.size, 0, none⟩ 1 1 [.int .i64 e.n, .string e.u, .int .i64 e.s, .int .i64 e.f] rfl rfl (news_at _ _ _ _ rfl) (four_o _ _ _ _) (by unfold maxLen; omega) (by omega) HS1A.out ?_; intro v2 w5 ho2 hgrow hiff; have HB2 := Lib.hid (app_below HB1A.out HS1A.out HO1A.out hgrow); have HO2 : Hid (w5.ownsRow K3W.heap.size 75 4 v2 (m1 ++ [e]).length (oes (m1 ++ [e]))) := oown_snoc ho2; clear ho2 hgrow hiff; have HM2 := Lib.hid (HS2.out _ HB2.out); have HMS2 := Lib.hid HB2.out.size) | (at_builtin; refine wpList_append_op2 _ rfl (.tmp 41) (.tmp 44) 22 rfl K3W.heap.size 75 i0 _ Tryz.underlying22 hi hz0 hz1 hz2 rfl _ (m1 ++ [e]) rfl HO2.out (some ⟨b, off + j * 4, none⟩) (c - j) m2 (l.length - j) HL2.out rfl HM2.out hk2 (by simp; omega) HMS2.out ?_; intro v3 w6 ho3 hB3; have HO3 := Lib.hid ho3; have HB3 := Lib.hid (HB2.out.trans hB3); clear ho3 hB3))
        rw [HGG.out] at HO3
        go_ret2
        first | exact ⟨v3, rfl, GotO.of HO3.out (K3.frame.trans (HB3.out.mono K3.frame.size))⟩ | exact ⟨v3, by trivial, GotO.of HO3.out (K3.frame.trans (HB3.out.mono K3.frame.size))⟩
      ·have hl0 : l = [] := List.eq_nil_of_length_eq_zero (by omega)
       subst hl0
       obtain rfl : j = 0 := by simpa using hje
       have hz : (0 : Int) ≤ (c : Int) := by omega
       by_cases hcp : c = 0
       ·subst hcp
        obtain ⟨m1, e1⟩ : ∃ m : List OpM, m = [] := ⟨_, rfl⟩
        obtain ⟨m2, e2⟩ : ∃ m : List OpM, m = [] := ⟨_, rfl⟩
        have HL1 : Hid (0 = m1.length) := by unfold Hid; rw [e1]; rfl
        have HL2 : Hid (0 = m2.length) := by unfold Hid; rw [e2]; rfl
        have hk1 : (some ad) = none → 0 = 0 := fun h => (by cases h)
        have hk2 : (some ad) = none → 0 = 0 := fun h => (by cases h)
        have HS1 : Hid (∀ W, Below K3W.heap.size K3W W → OpSl W (some ad) m1) := fun W h => by rw [e1]; exact OpSl.nil _ _
        have HS2 : Hid (∀ W, Below K3W.heap.size K3W W → OpSl W (some ad) m2) := fun W h => by rw [e2]; exact OpSl.nil _ _
        have HGG : Hid (m1 ++ [e] ++ m2 = G) := by unfold Hid; rw [e1, e2, HGA.out 0 HP.out]; rfl
        clear e1 e2
        clear HGA HP HNil hje
        have hb1 : m1.length ≤ 500 := by have := HL1.out; omega
        have hb2 : m2.length ≤ 500 := by have := HL2.out; omega
        have HE0 := Lib.hid (own_emptyO K3W 75 4 K3W.heap.size (Nat.le_refl _))
        have HEB := Lib.hid (below_one K3W (.cells #[] 75))
        have HM1 := Lib.hid (HS1.out _ HEB.out)
        have HMS := Lib.hid HEB.out.size
        go_wp2_with (first | (at_builtin; refine wpList_append_op2 _ rfl (.tmp 32) (.tmp 35) 22 rfl K3W.heap.size 75 i0 _ Tryz.underlying22 hi hz0 hz1 hz2 rfl _ [] rfl HE0.out (some ad) 0 m1 0 HL1.out rfl HM1.out hk1 (by simp; omega) HMS.out ?_; intro v1 w4 ho1 hB1; have HO1 := Lib.hid ho1; have HB1 := Lib.hid (HEB.out.trans hB1); have HO1A : Hid ((w4.alloc (.cells #[.int .i64 e.n, .string e.u, .int .i64 e.s, .int .i64 e.f] 75)).ownsRow K3W.heap.size 75 4 v1 m1.length (oes m1)) := own_below HO1.out (below_one w4 (.cells #[.int .i64 e.n, .string e.u, .int .i64 e.s, .int .i64 e.f] 75)); have HB1A := Lib.hid (HB1.out.trans ((below_one w4 (.cells #[.int .i64 e.n, .string e.u, .int .i64 e.s, .int .i64 e.f] 75)).mono HB1.out.size)); have HS1A := Lib.hid HB1A.out.size; clear ho1 hB1; obtain ⟨d0, d1, d2, d3⟩ := HSB.out _ (K3.below HB1.out)) | (at_builtin; refine wpList_append_own _ rfl (.tmp 37) (.tmp 39) 22 rfl K3W.heap.size 75 i0 _ 4 40 Tryz.underlying22 hi hz0 hz1 hz2 rfl (by decide) _ _ _ rfl HO1A.out ⟨w4.heap.size, 0, none⟩ 1 1 [.int .i64 e.n, .string e.u, .int .i64 e.s, .int .i64 e.f] rfl rfl (news_at _ _ _ _ rfl) (four_o _ _ _ _) (by unfold maxLen; omega) (by omega) HS1A.out ?_; intro v2 w5 ho2 hgrow hiff; have HB2 := Lib.hid (app_below HB1A.out HS1A.out HO1A.out hgrow); have HO2 : Hid (w5.ownsRow K3W.heap.size 75 4 v2 (m1 ++ [e]).length (oes (m1 ++ [e]))) := oown_snoc ho2; clear ho2 hgrow hiff; have HM2 := Lib.hid (HS2.out _ HB2.out); have HMS2 := Lib.hid HB2.out.size) | (at_builtin; refine wpList_append_op2 _ rfl (.tmp 41) (.tmp 44) 22 rfl K3W.heap.size 75 i0 _ Tryz.underlying22 hi hz0 hz1 hz2 rfl _ (m1 ++ [e]) rfl HO2.out (some ad) 0 m2 0 HL2.out rfl HM2.out hk2 (by simp; omega) HMS2.out ?_; intro v3 w6 ho3 hB3; have HO3 := Lib.hid ho3; have HB3 := Lib.hid (HB2.out.trans hB3); clear ho3 hB3))
        rw [HGG.out] at HO3
        go_ret2
        first | exact ⟨v3, rfl, GotO.of HO3.out (K3.frame.trans (HB3.out.mono K3.frame.size))⟩ | exact ⟨v3, by trivial, GotO.of HO3.out (K3.frame.trans (HB3.out.mono K3.frame.size))⟩
       ·have hcp2 : 0 < c := by omega
        obtain ⟨m1, e1⟩ : ∃ m : List OpM, m = [] := ⟨_, rfl⟩
        obtain ⟨m2, e2⟩ : ∃ m : List OpM, m = [] := ⟨_, rfl⟩
        have HL1 : Hid (0 = m1.length) := by unfold Hid; rw [e1]; rfl
        have HL2 : Hid (0 = m2.length) := by unfold Hid; rw [e2]; rfl
        have hk1 : (some ad) = none → c = 0 := fun h => (by cases h)
        have hk2 : (some ad) = none → c = 0 := fun h => (by cases h)
        have HS1 : Hid (∀ W, Below K3W.heap.size K3W W → OpSl W (some ad) m1) := fun W h => by rw [e1]; exact OpSl.nil _ _
        have HS2 : Hid (∀ W, Below K3W.heap.size K3W W → OpSl W (some ad) m2) := fun W h => by rw [e2]; exact OpSl.nil _ _
        have HGG : Hid (m1 ++ [e] ++ m2 = G) := by unfold Hid; rw [e1, e2, HGA.out 0 HP.out]; rfl
        clear e1 e2
        clear HGA HP HNil hje
        have hb1 : m1.length ≤ 500 := by have := HL1.out; omega
        have hb2 : m2.length ≤ 500 := by have := HL2.out; omega
        have HE0 := Lib.hid (own_emptyO K3W 75 4 K3W.heap.size (Nat.le_refl _))
        have HEB := Lib.hid (below_one K3W (.cells #[] 75))
        have HM1 := Lib.hid (HS1.out _ HEB.out)
        have HMS := Lib.hid HEB.out.size
        go_wp2_with (first | (at_builtin; refine wpList_append_op2 _ rfl (.tmp 32) (.tmp 35) 22 rfl K3W.heap.size 75 i0 _ Tryz.underlying22 hi hz0 hz1 hz2 rfl _ [] rfl HE0.out (some ad) c m1 0 HL1.out rfl HM1.out hk1 (by simp; omega) HMS.out ?_; intro v1 w4 ho1 hB1; have HO1 := Lib.hid ho1; have HB1 := Lib.hid (HEB.out.trans hB1); have HO1A : Hid ((w4.alloc (.cells #[.int .i64 e.n, .string e.u, .int .i64 e.s, .int .i64 e.f] 75)).ownsRow K3W.heap.size 75 4 v1 m1.length (oes m1)) := own_below HO1.out (below_one w4 (.cells #[.int .i64 e.n, .string e.u, .int .i64 e.s, .int .i64 e.f] 75)); have HB1A := Lib.hid (HB1.out.trans ((below_one w4 (.cells #[.int .i64 e.n, .string e.u, .int .i64 e.s, .int .i64 e.f] 75)).mono HB1.out.size)); have HS1A := Lib.hid HB1A.out.size; clear ho1 hB1; obtain ⟨d0, d1, d2, d3⟩ := HSB.out _ (K3.below HB1.out)) | (at_builtin; refine wpList_append_own _ rfl (.tmp 37) (.tmp 39) 22 rfl K3W.heap.size 75 i0 _ 4 40 Tryz.underlying22 hi hz0 hz1 hz2 rfl (by decide) _ _ _ rfl HO1A.out ⟨w4.heap.size, 0, none⟩ 1 1 [.int .i64 e.n, .string e.u, .int .i64 e.s, .int .i64 e.f] rfl rfl (news_at _ _ _ _ rfl) (four_o _ _ _ _) (by unfold maxLen; omega) (by omega) HS1A.out ?_; intro v2 w5 ho2 hgrow hiff; have HB2 := Lib.hid (app_below HB1A.out HS1A.out HO1A.out hgrow); have HO2 : Hid (w5.ownsRow K3W.heap.size 75 4 v2 (m1 ++ [e]).length (oes (m1 ++ [e]))) := oown_snoc ho2; clear ho2 hgrow hiff; have HM2 := Lib.hid (HS2.out _ HB2.out); have HMS2 := Lib.hid HB2.out.size) | (at_builtin; refine wpList_append_op2 _ rfl (.tmp 41) (.tmp 44) 22 rfl K3W.heap.size 75 i0 _ Tryz.underlying22 hi hz0 hz1 hz2 rfl _ (m1 ++ [e]) rfl HO2.out (some ad) c m2 0 HL2.out rfl HM2.out hk2 (by simp; omega) HMS2.out ?_; intro v3 w6 ho3 hB3; have HO3 := Lib.hid ho3; have HB3 := Lib.hid (HB2.out.trans hB3); clear ho3 hB3))
        rw [HGG.out] at HO3
        go_ret2
        first | exact ⟨v3, rfl, GotO.of HO3.out (K3.frame.trans (HB3.out.mono K3.frame.size))⟩ | exact ⟨v3, by trivial, GotO.of HO3.out (K3.frame.trans (HB3.out.mono K3.frame.size))⟩
end Go.Proofs.YtjhdhfokhkcamaaGreat
namespace Go.Proofs.YtjhdhfokhkcamaaGreat
open Go.RowKit
set_option linter.unusedVariables false
set_option maxRecDepth 100000
set_option maxRecDepth 100000
set_option maxHeartbeats 2000000 in
theorem rwithout_any (a : Option Addr) (c : Nat) (l : List EnM) (s : ByteArray) (w : World) (hr : EnSl w a l) (hl : l.length ≤ 100000) :
  Calls Tryz.prog 51 #[.slice a l.length c, (.string s)] w fun e w' => ∃ v, e = .returned v ∧ w'.ownsRow w.heap.size 82 4 v (l.filter (wiE s)).length (ens (l.filter (wiE s))) ∧ Below w.heap.size w w' := by
 obtain ⟨i0, hi, hz0, hz1, hz2⟩ := info_parts infoEnR
 have HR := Lib.hid hr
 clear hr
 go_enter Tryz.func51, Tryz.ntmps51
 go_wp2
 go_loopw [5, 6] (fun v i wr => ∃ (j : Nat), j ≤ l.length ∧ i = .int .i64 j ∧ Hid (wr.ownsRow w.heap.size 82 4 v ((l.take j).filter (wiE s)).length (ens ((l.take j).filter (wiE s)))) ∧ Hid (Below w.heap.size w wr)) (fun _ i _ => l.length - (intOf i).toNat)
 case atStart => exact ⟨0, by omega, rfl, ⟨rfl, .inl ⟨rfl, rfl⟩⟩, Below.refl _ _⟩
 case round =>
  obtain ⟨j, hj, rfl, HO, HB⟩ := hrel
  by_cases hjl : j < l.length
  ·obtain ⟨b, off, rfl, hbl, hc0, hc1, hc2, hc3⟩ := (HR.out.below HB.out).at_ hjl
   have HT := Lib.hid (fil_take (wiE s) l j hjl)
   have HLN := Lib.hid (fil_len (wiE s) l j)
   generalize l[j] = x at *
   generalize (l.take j).filter (wiE s) = m at *
   have HTT : Hid (wiE s x = true → (l.take (j + 1)).filter (wiE s) = m ++ [x]) := fun hq => by have := HT.out; rwa [if_pos hq] at this
   have HTF : Hid (wiE s x = false → (l.take (j + 1)).filter (wiE s) = m) := fun hq => by have := HT.out; rwa [if_neg (by rw [hq]; exact Bool.false_ne_true), List.append_nil] at this
   clear HT
   by_cases h1 : x.w = s
   ·have HC2 := Lib.hid (HTF.out (by unfold wiE; rw [decide_eq_false (fun h => h h1)]; rfl))
    have e1 : (x.w.toList == s.toList) = true := by rw [h1]; exact str_eq s
    clear HTT HTF h1
    go_wp2
    go_roundw
    case rel => exact ⟨j + 1, by omega, by go_num, (by unfold Hid; rw [HC2.out]; exact HO.out), HB⟩
    case measure => simp [intOf]; omega
   ·have e1 := str_ne h1
    by_cases h2 : x.u = s
    ·have HC2 := Lib.hid (HTF.out (by unfold wiE; rw [decide_eq_false (show ¬ x.u ≠ s from fun h => h h2)]; exact Bool.and_false _))
     have e2 : (x.u.toList == s.toList) = true := by rw [h2]; exact str_eq s
     clear HTT HTF h1 h2
     go_wp2
     go_roundw
     case rel => exact ⟨j + 1, by omega, by go_num, (by unfold Hid; rw [HC2.out]; exact HO.out), HB⟩
     case measure => simp [intOf]; omega
    ·have HC2 := Lib.hid (HTT.out (by unfold wiE; rw [decide_eq_true h1, decide_eq_true h2]; rfl))
     have e2 := str_ne h2
     clear HTT HTF h1 h2
     have HO2 := Lib.hid (own_below HO.out (ebelow_one wr (.cells #[.string x.w, .string x.u, .int .i64 x.f, .int .i64 x.t] 82)))
     have HB2 : Hid (Below w.heap.size w (wr.alloc (.cells #[.string x.w, .string x.u, .int .i64 x.f, .int .i64 x.t] 82))) := HB.out.trans ((ebelow_one wr _).mono HB.out.size)
     have HS2 := Lib.hid HB2.out.size
     have hlm := HLN.out
     go_wp2_with (at_builtin; refine wpList_append_own _ rfl (.tmp 29) (.tmp 34) 24 rfl w.heap.size 82 i0 _ 4 48 Tryz.underlying24 hi hz0 hz1 hz2 rfl (by decide) _ _ _ rfl HO2.out ⟨wr.heap.size, 0, none⟩ 1 1 [.string x.w, .string x.u, .int .i64 x.f, .int .i64 x.t] rfl rfl (news_at _ _ _ _ rfl) (four_e _ _ _ _) (by unfold maxLen; omega) (by omega) HS2.out ?_; intro v' w3 hown' hgrow hiff)
     have HB3 := Lib.hid (app_below HB2.out HS2.out HO2.out hgrow)
     have HO3 := Lib.hid hown'
     clear hown' hgrow hiff HB2 HS2 HO2
     go_wp2
     go_roundw
     case rel => exact ⟨j + 1, by omega, by go_num, (by unfold Hid; rw [HC2.out, List.length_append, ens_snoc]; exact HO3.out), HB3⟩
     case measure => simp [intOf]; omega
  ·obtain rfl : j = l.length := by omega
   rw [List.take_of_length_le (Nat.le_refl _)] at HO
   go_wp2
   go_ret
   exact ⟨_, rfl, HO.out, HB.out⟩
end Go.Proofs.YtjhdhfokhkcamaaGreat
