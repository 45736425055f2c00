/- Texts of mine, one behind the other, of each what is wanted. -/
import Derived.Test.YtapacckmgmdnoaaGreatU00
import Derived.Test.YtapacckmgmdnoaaGreatShelf
import Derived.Test.YtapacckmgmdnoaaGreatRows
import Derived.Test.YtapacckmgmdnoaaGreatU01
import Derived.Test.YtapacckmgmdnoaaGreatU02
import Derived.Test.YtapacckmgmdnoaaGreatU05
import Derived.Test.YtapacckmgmdnoaaGreatU07
import Derived.Test.YtapacckmgmdnoaaGreatU08
import Derived.Test.YtapacckmgmdnoaaGreatU09
import Derived.Test.YtapacckmgmdnoaaGreatU11
import Derived.Test.YtapacckmgmdnoaaGreatU15
import Derived.Test.YtapacckmgmdnoaaGreatU16
import Derived.Test.YtapacckmgmdnoaaGreatU23
import Derived.Test.YtapacckmgmdnoaaGreatU28
import Derived.Test.YtapacckmgmdnoaaGreatU30
import Derived.Test.YtapacckmgmdnoaaGreatU32
import Derived.Test.YtapacckmgmdnoaaGreatU34
import Derived.Test.YtapacckmgmdnoaaGreatU35
import Derived.Test.YtapacckmgmdnoaaGreatU36
import Derived.Test.YtapacckmgmdnoaaGreatU37
import Derived.Test.YtapacckmgmdnoaaGreatU38
import Derived.Test.YtapacckmgmdnoaaGreatU40
import Derived.Test.YtapacckmgmdnoaaGreatU41
import Derived.Test.YtapacckmgmdnoaaGreatU42
namespace Go.Proofs.YtapacckmgmdnoaaGreat
open Go.RowKit
set_option linter.unusedVariables false
set_option maxRecDepth 100000
set_option maxRecDepth 100000
set_option maxHeartbeats 2000000 in
theorem refHas_any (a : Option Addr) (c : Nat) (l : List SpM) (x : Int) (w : World) (hr : SpSl w a l) (hl : l.length ≤ maxLen) :
  Calls Tryz.prog 105 #[.slice a l.length c, .int .i64 x] w fun e w' => e = .returned (.bool (hasB l x)) ∧ w' = w := by
 have HR := Lib.hid hr
 unfold maxLen at hl
 clear hr
 go_enter Tryz.func105, Tryz.ntmps105
 go_wp2
 go_loopw [5] (fun i wr => ∃ (j : Nat), j ≤ l.length ∧ i = .int .i64 j ∧ Hid (hasB (l.take j) x = false) ∧ wr = w) (fun i _ => l.length - (intOf i).toNat)
 case atStart => exact ⟨0, by omega, rfl, rfl, rfl⟩
 case round =>
  obtain ⟨j, hj, rfl, HF, rfl⟩ := hrel
  by_cases hjl : j < l.length
  ·obtain ⟨b, off, rfl, hbl, hc0, hc1⟩ := HR.out.at_ hjl
   have HY := Lib.hid (fun h1 h2 => hasB_yes (x := x) hjl h1 h2)
   have HN := Lib.hid (fun h => hasB_next hjl HF.out h)
   generalize l[j] = s at *
   by_cases h1 : s.f ≤ x
   ·by_cases h2 : x < s.t
    ·have HE := Lib.hid (HY.out h1 h2)
     clear HY HN HF
     go_wp2
     go_ret
     exact ⟨by rw [HE.out]; rfl, rfl⟩
    ·have HE := Lib.hid (HN.out (fun h => h2 h.2))
     clear HY HN HF
     go_wp2
     go_roundw
     case rel => exact ⟨j + 1, by omega, by go_num, HE, trivial⟩
     case measure => simp [intOf]; omega
   ·have HE := Lib.hid (HN.out (fun h => h1 h.1))
    clear HY HN HF
    go_wp2
    go_roundw
    case rel => exact ⟨j + 1, by omega, by go_num, HE, trivial⟩
    case measure => simp [intOf]; omega
  ·obtain rfl : j = l.length := by omega
   rw [List.take_of_length_le (Nat.le_refl _)] at HF
   go_wp2
   go_ret
   exact ⟨by rw [HF.out]; rfl, rfl⟩
structure CellP (P : Int → Prop) (e : List Int) : Prop where
 rise : Rise e
 cell : ∀ k (h : k + 1 < e.length) x, e[k] ≤ x → x < e[k + 1] → (P x ↔ P e[k])
 first : ∀ x, P x → ∃ h : 0 < e.length, e[0] ≤ x
 last : ∀ x, P x → ∀ k (h : k + 1 = e.length), x < e[k]
def GlW (P : Int → Prop) (e : List Int) (k : Nat) (r : List SpM) : Prop := (r = [] ∧ e = []) ∨ ∃ h : k < e.length, GlueI P e[k] r
theorem CellP.start {P : Int → Prop} {e : List Int} (h : CellP P e) : GlW P e 0 [] := by
 rcases Nat.eq_zero_or_pos e.length with h0 | h0
 ·exact .inl ⟨rfl, List.eq_nil_of_length_eq_zero h0⟩
 ·exact .inr ⟨h0, GlueI.start fun x hx => (h.first x hx).2⟩
theorem CellP.lt {P : Int → Prop} {e : List Int} (h : CellP P e) {k : Nat} (hk : k + 1 < e.length) : e[k] < e[k + 1] := (List.pairwise_iff_getElem.1 h.rise) k (k + 1) (by omega) hk (by omega)
theorem CellP.step {P : Int → Prop} {e : List Int} (h : CellP P e) {k : Nat} {r : List SpM} (g : GlW P e k r) (hk : k + 1 < e.length) (hp : P e[k]) : GlW P e (k + 1) (glueS r ⟨e[k], e[k + 1]⟩) := by
 rcases g with ⟨_, rfl⟩ | ⟨h0, g⟩
 ·simp at hk
 ·exact .inr ⟨hk, g.step (h.lt hk) fun x h1 h2 => (h.cell k hk x h1 h2).2 hp⟩
theorem CellP.skip {P : Int → Prop} {e : List Int} (h : CellP P e) {k : Nat} {r : List SpM} (g : GlW P e k r) (hk : k + 1 < e.length) (hp : ¬ P e[k]) : GlW P e (k + 1) r := by
 rcases g with ⟨_, rfl⟩ | ⟨h0, g⟩
 ·simp at hk
 ·exact .inr ⟨hk, g.skip (h.lt hk) fun x h1 h2 hx => hp ((h.cell k hk x h1 h2).1 hx)⟩
theorem CellP.done {P : Int → Prop} {e : List Int} (h : CellP P e) {k : Nat} {r : List SpM} (g : GlW P e k r) (hk : ¬ k + 1 < e.length) : IsSet P r := by
 rcases g with ⟨rfl, rfl⟩ | ⟨h0, g⟩
 ·exact ⟨NormL.nil, fun x => ⟨fun hx => absurd hx HasL.nil, fun hx => by obtain ⟨h0, _⟩ := h.first x hx; simp at h0⟩⟩
 ·exact g.done fun x hx => h.last x hx k (by omega)
theorem cell_one {l : List SpM} {e : List Int} (h : IsEnds l e) : CellP (HasL l) e :=
 ⟨h.1, fun k hk x h1 h2 => h.cell (fun _ hs => hs) hk h1 h2, fun x hx => h.first (fun _ hs => hs) hx, fun x hx k hk => h.last (fun _ hs => hs) hx hk⟩
theorem cell_both {a b : List SpM} {e : List Int} (h : IsEnds (a ++ b) e) : CellP (fun x => HasL a x ∧ HasL b x) e :=
 have ha : ∀ s ∈ a, s ∈ a ++ b := fun s hs => List.mem_append_left _ hs
 have hb : ∀ s ∈ b, s ∈ a ++ b := fun s hs => List.mem_append_right _ hs
 ⟨h.1, fun k hk x h1 h2 => and_congr (h.cell ha hk h1 h2) (h.cell hb hk h1 h2), fun x hx => h.first ha hx.1, fun x hx k hk => h.last ha hx.1 hk⟩
theorem glueS_le (r : List SpM) (s : SpM) : (glueS r s).length ≤ r.length + 1 := by
 rcases List.eq_nil_or_concat r with rfl | ⟨fr, u, hfu⟩
 ·rw [glueS_nil]; simp
 ·rw [hfu, List.concat_eq_append, glueS_snoc]
  split <;> simp
theorem ints_two {w : World} {a : Option Addr} {e : List Int} (h : Sl w a (ints e)) {k : Nat} (hk : k + 1 < e.length) : ∃ b off, a = some ⟨b, off, none⟩ ∧ ∀ W, Below w.heap.size w W → W.cell? ⟨b, off + k, none⟩ = some (.int .i64 e[k]) ∧ W.cell? ⟨b, off + (k + 1), none⟩ = some (.int .i64 e[k + 1]) := by
 obtain ⟨b, off, rfl, _, _⟩ := ints_at h hk
 refine ⟨b, off, rfl, fun W hW => ?_⟩
 obtain ⟨_, _, e1, _, h1⟩ := ints_at (h.below hW) (k := k) (by omega)
 obtain ⟨_, _, e2, _, h2⟩ := ints_at (h.below hW) hk
 cases e1
 cases e2
 exact ⟨h1, h2⟩
set_option maxHeartbeats 4000000 in
theorem refNorm_any (a : Option Addr) (c : Nat) (l : List SpM) (w : World) (hr : SpSl w a l) (hl : l.length ≤ 100000) :
  Calls Tryz.prog 96 #[.slice a l.length c] w fun e w' => ∃ (v : Value) (r : List SpM), e = .returned v ∧ IsSet (HasL l) r ∧ r.length ≤ 2 * l.length ∧ w'.ownsRow w.heap.size 106 2 v r.length (sps r) ∧ Below w.heap.size w w' := by
 have HR := Lib.hid hr
 have HE := Lib.hid (ends_any a c l w hr hl)
 have HH := Lib.hid refHas_any
 have HG := Lib.hid glue_any
 have hlm : l.length ≤ maxLen := by unfold maxLen; omega
 clear hr
 go_enter Tryz.func96, Tryz.ntmps96
 go_wp2_with fail
 refine HE.out.mono ?_
 rintro r w1 ⟨v, e, rfl, hen, hel, hown, hB1⟩
 clear HE
 have HP := Lib.hid (cell_one hen)
 have HB1 := Lib.hid hB1
 obtain ⟨ea, ec, rfl, _, hecm, hsl, _, _⟩ := own_slice hown
 have HSL := Lib.hid hsl
 clear hen hown hB1 hsl
 go_wp2
 go_loopw [4, 5] (fun v i wr => ∃ (k : Nat) (r : List SpM), i = .int .i64 k ∧ k ≤ e.length ∧ r.length ≤ k ∧ Hid (GlW (HasL l) e k r) ∧ Hid (wr.ownsRow w1.heap.size 106 2 v r.length (sps r)) ∧ Hid (Below w1.heap.size w1 wr)) (fun _ i _ => e.length - (intOf i).toNat)
 case atStart => exact ⟨0, [], rfl, by omega, by simp, HP.out.start, ⟨rfl, .inl ⟨rfl, rfl⟩⟩, Below.refl _ _⟩
 case round =>
  obtain ⟨k, r, rfl, hke, hrk, HI, HO, HB⟩ := hrel
  by_cases hk : k + 1 < e.length
  ·obtain ⟨b, off, rfl, hc⟩ := ints_two HSL.out hk
   have HSC := Lib.hid (fun W (hW : Below w1.heap.size wr W) => hc W (HB.out.trans hW))
   obtain ⟨c0, c1⟩ := hc wr HB.out
   have HST := Lib.hid (fun hp => HP.out.step HI.out hk hp)
   have HSK := Lib.hid (fun hp => HP.out.skip HI.out hk hp)
   have HRW := Lib.hid (HR.out.below (HB1.out.trans (HB.out.mono HB1.out.size)))
   have HHW := Lib.hid (HH.out a c l e[k] wr HRW.out hlm)
   have HBI := Lib.hid (hasB_iff l e[k])
   clear hc HI
   generalize e[k] = x at *
   generalize e[k + 1] = y at *
   by_cases hb : hasB l x = true
   ·rw [hb] at HHW
    have HN := Lib.hid (HST.out (HBI.out.1 hb))
    clear HST HSK HBI hb
    go_wp2_with fail
    refine HHW.out.mono ?_
    rintro r1 w2 ⟨rfl, hw2⟩
    obtain rfl : wr = w2 := hw2.symm
    clear hw2
    go_wp2_with fail
    have hX : Below w1.heap.size wr wr.drew := (Below.refl _ _).drew
    have hwk : IntKind.i64.wrap ((k : Int) + 1) = (k : Int) + 1 := by rw [IntWalk.i64_in] <;> omega
    have hk0 : (0 : Int) ≤ (k : Int) := Int.natCast_nonneg _
    have hk1 : (k : Int) < (e.length : Int) := by omega
    have hk2 : (k : Int) + 1 < (e.length : Int) := by omega
    have hk3 : (0 : Int) ≤ (k : Int) + 1 := by omega
    have hk4 : ((k : Int) + 1).toNat = k + 1 := by omega
    have HGW : Hid (Calls Tryz.prog 160 #[_, .agg #[.int .i64 x, .int .i64 y]] wr.drew _) := HG.out w1.heap.size _ r ⟨x, y⟩ wr.drew HB.out.size HO.out.drew (by omega)
    go_region_held3 (fun W => W.cell? ⟨b, off + k, none⟩ = some (.int .i64 x) ∧ W.cell? ⟨b, off + (k + 1), none⟩ = some (.int .i64 y))
     (first | with_reducible exact HSC.out _ hX | with_reducible exact HSC.out _ hY | assumption)
     ((go_at_call 160; refine HGW.out.mono ?_; rintro r3 w3 ⟨v3, rfl, hown3, hB3⟩; have hY := hX.trans hB3))
    clear hwk hk0 hk1 hk2 hk3 hk4 hX HSC HGW HHW
    go_wp2
    go_roundw
    case rel => exact ⟨k + 1, glueS r ⟨x, y⟩, by go_num, by omega, Nat.le_trans (glueS_le _ _) (by omega), HN, hown3, HB.out.trans hY⟩
    case measure => simp [intOf]; omega
   ·have hb : hasB l x = false := by simpa using hb
    rw [hb] at HHW
    have HN := Lib.hid (HSK.out (fun h => by rw [HBI.out.2 h] at hb; cases hb))
    clear HST HSK HBI hb
    go_wp2_with fail
    refine HHW.out.mono ?_
    rintro r1 w2 ⟨rfl, hw2⟩
    obtain rfl : wr = w2 := hw2.symm
    clear hw2 HSC HHW
    go_wp2
    go_roundw
    case rel => exact ⟨k + 1, r, by go_num, by omega, by omega, HN, HO, HB⟩
    case measure => simp [intOf]; omega
  ·have HD := Lib.hid (HP.out.done HI.out hk)
   go_wp2
   go_ret
   first | exact ⟨_, r, rfl, HD.out, by omega, own_low HO.out HB1.out.size, HB1.out.trans (HB.out.mono HB1.out.size)⟩ | exact ⟨_, rfl, r, HD.out, by omega, own_low HO.out HB1.out.size, HB1.out.trans (HB.out.mono HB1.out.size)⟩
end Go.Proofs.YtapacckmgmdnoaaGreat
namespace Go.Proofs.YtapacckmgmdnoaaGreat
open Go.RowKit Go.Proofs
set_option linter.unusedVariables false
set_option maxRecDepth 100000
set_option maxRecDepth 100000
theorem step_append_own {P : Program} {ops : Array Oper} {o : Oper} {a : Act} {w : World} {K : Act → World → Prop} {Q : Exit → Act → World → Prop} {E : Prop}
  (hg : o.guard = none) (s x : Operand) (t : TypeId) (hop : o.op = Op.call { callee := Callee.builtin Builtin.append, args := #[s, x], argTypes := #[t, t] })
  (base : Nat) (e : TypeId) (i : TypeInfo) (z : Value) (size bytes : Nat) (ht : P.underlying t = some (.slice e)) (hi : P.info? e = some i) (hz : i.zero = some z)
  (hsize : i.size = size) (hby : i.bytes = bytes) (hzs : z.cells.size = size) (hsz : 0 < size)
  (v : Value) (n : Nat) (xs : List Value) (hs : a.eval s = v) (hown : w.ownsRow base e size v n xs)
  (ad : Addr) (m c : Nat) (news : List Value) (hx : a.eval x = .slice (some ad) m c) (hl : news.length = m * size) (hnews : ∀ j u, news[j]? = some u → w.cell? (ad.add j) = some u) (h1 : ∀ u ∈ news, u.oneCell' = true)
  (h63 : n + m ≤ maxLen) (hbytes : (n + m) * bytes ≤ 140737488355328) (hbase : base ≤ w.heap.size)
  (hK : ∀ v' w', w'.ownsRow base e size v' (n + m) (xs ++ news) → w.grownBy w' v.ownBlock → K (a.put o.dst v') w') :
  if Region.wanted o (yielded ops a.tmps) = true then Oper.wp P o a w K Q else E := by
 have hw : Region.wanted o (yielded ops a.tmps) = true := by simp [Region.wanted, hg]
 rw [if_pos hw]
 obtain ⟨v', w', hrun, ho, hg, -, -⟩ := run_append_own_at (P := P) (w := w) base t o.type e i z size bytes ht hi hz hsize hby hzs hsz v n xs hown ad m c news hl hnews h1 h63 hbytes hbase
 unfold Oper.wp
 simp [execOp, hop, resolve, invoke, builtin, hs, hx, hrun, Result.andThen]
 exact hK v' w' ho hg
set_option maxHeartbeats 4000000 in
theorem refPeriods_any (a : Option Addr) (c : Nat) (l : List EnM) (p u : ByteArray) (w : World) (hr : EnSl w a l) (hl : l.length ≤ 1000) :
  Calls Tryz.prog 106 #[.slice a l.length c, pr p u] w fun e w' => ∃ v r, e = .returned v ∧ IsSet (HasL (perS l p u)) r ∧ r.length ≤ 2 * l.length ∧ w'.ownsRow w.heap.size 106 2 v r.length (sps r) ∧ Below w.heap.size w w' := by
 obtain ⟨i0, hi, hz0, hz1, hz2⟩ := info_parts infoSpanR
 have HK0 := Lib.hid (PK.new hr p u 97)
 have HNM := Lib.hid (fun x q W (h : SpSl W x (perS l p u)) => refNorm_any x q (perS l p u) W h (by have := per_len l p u; omega))
 have HPL := Lib.hid (per_len l p u)
 have HC := Lib.hid (fun e W => of_any e p u W)
 unfold enV pr at HC
 unfold pr
 clear hr
 go_enter Tryz.func106, Tryz.ntmps106
 go_wp2
 generalize w.alloc (.cells #[.string p, .string u] 97) = W0 at *
 generalize w.heap.size = g at *
 go_loopw [5, 6] (fun v i wr => ∃ (j : Nat), j ≤ l.length ∧ i = .int .i64 j ∧ Hid (wr.ownsRow W0.heap.size 106 2 v (perS (l.take j) p u).length (sps (perS (l.take j) p u))) ∧ Hid (Below W0.heap.size W0 wr)) (fun _ i _ => l.length - (intOf i).toNat)
 case atStart => exact ⟨0, by omega, rfl, ⟨rfl, .inl ⟨rfl, rfl⟩⟩, Below.refl _ _⟩
 case round =>
  obtain ⟨j, hj, rfl, HO, HB⟩ := hrel
  have HKW := Lib.hid (HK0.out.below HB.out)
  by_cases hjl : j < l.length
  ·obtain ⟨b, off, rfl, -, -, -, -, -⟩ := HKW.out.row.at_ hjl
   have HT := Lib.hid (per_take l p u j hjl)
   have HLN := Lib.hid (per_tlen l p u j)
   have HSC := Lib.hid (fun W (h : PK w g p u (some ⟨b, off, none⟩) l W) => h.cells hjl)
   generalize l[j] = x at *
   generalize perS (l.take j) p u = m at *
   have K1 := HKW.out.below (Below.refl _ _).drew
   have HCC := Lib.hid (HC.out x)
   clear HC
   cases hb : ofE p u x with
   | true =>
    have HC2 : Hid (perS (l.take (j + 1)) p u = m ++ [x.sp]) := by have := HT.out; rwa [if_pos hb] at this
    rw [hb] at HCC
    clear HT hb
    go_wp2_with fail
    go_region_held3 (fun W => W.cell? ⟨g, 0, none⟩ = some (.string p) ∧ W.cell? ⟨g, 1, none⟩ = some (.string u) ∧ W.cell? ⟨b, off + j * 4, none⟩ = some (.string x.w) ∧ W.cell? ⟨b, off + j * 4 + 1, none⟩ = some (.string x.u) ∧ W.cell? ⟨b, off + j * 4 + 2, none⟩ = some (.int .i64 x.f) ∧ W.cell? ⟨b, off + j * 4 + 3, none⟩ = some (.int .i64 x.t))
     (first | exact HSC.out _ K2 | exact HSC.out _ K1)
     (first | (go_at_call 166; refine (HCC.out _).mono ?_; rintro e w2 ⟨rfl, h2⟩; have K2 := K1.below h2))
    have hbW : Below wr.heap.size wr w2 := (Below.refl _ _).drew.trans h2
    have hbX : Below wr.heap.size wr (w2.alloc (.cells #[.int .i64 x.f, .int .i64 x.t] 106)).drew := (hbW.trans ((ebelow_one w2 _).mono hbW.size)).drew
    have HO2 := Lib.hid (own_below HO.out hbX)
    have HB2 := Lib.hid (HB.out.trans (hbX.mono HB.out.size))
    have HS2 := Lib.hid HB2.out.size
    have HNW : Hid (∀ j u, [Value.int .i64 x.f, .int .i64 x.t][j]? = some u → (w2.alloc (.cells #[.int .i64 x.f, .int .i64 x.t] 106)).drew.cell? ((⟨w2.heap.size, 0, none⟩ : Addr).add j) = some u) := fun j u h => news_at w2 #[.int .i64 x.f, .int .i64 x.t] 106 _ rfl j u h
    have HS6 : Hid (∀ W, Below W0.heap.size W0 W → W.cell? ⟨b, off + j * 4 + 2, none⟩ = some (.int .i64 x.f) ∧ W.cell? ⟨b, off + j * 4 + 3, none⟩ = some (.int .i64 x.t)) := fun W h => (HSC.out W (HK0.out.below h)).2.2.2.2
    have HBD := Lib.hid (HB.out.trans (hbW.drew.mono HB.out.size))
    have HBE := Lib.hid (HB.out.trans ((hbW.trans ((ebelow_one w2 (.cells #[.int .i64 x.f, .int .i64 x.t] 106)).mono hbW.size)).mono HB.out.size))
    have hlm := HLN.out
    clear hbW hbX h2 K1 K2 HCC HSC HO HB
    go_wp2_with fail
    go_region_held3 (fun W => W.cell? ⟨b, off + j * 4 + 2, none⟩ = some (.int .i64 x.f) ∧ W.cell? ⟨b, off + j * 4 + 3, none⟩ = some (.int .i64 x.t))
     (first | with_reducible exact HS6.out _ HBD.out | with_reducible exact HS6.out _ HB2.out | with_reducible exact HS6.out _ HBE.out | with_reducible exact HS6.out _ HB3.out | assumption)
     (first | (refine step_append_own rfl (.tmp 19) (.tmp 31) 74 rfl W0.heap.size 106 i0 _ 2 16 Tryz.underlying74 hi hz0 hz1 hz2 rfl (by decide) _ _ _ rfl HO2.out ⟨w2.heap.size, 0, none⟩ 1 1 [.int .i64 x.f, .int .i64 x.t] rfl rfl HNW.out (two_one _ _) (by unfold maxLen; omega) (by omega) HS2.out ?_; intro v' w4 hown' hgrow; have HB3 := Lib.hid (app_below HB2.out HS2.out HO2.out hgrow); have HO3 := Lib.hid hown'; clear hown' hgrow))
    go_wp2
    go_roundw
    case rel => exact ⟨j + 1, by omega, by go_num, (by unfold Hid; rw [HC2.out, List.length_append, sps_snoc]; exact HO3.out), HB3⟩
    case measure => simp [intOf]; omega
   | false =>
    have HC2 : Hid (perS (l.take (j + 1)) p u = m) := by have := HT.out; rwa [if_neg (by rw [hb]; exact Bool.false_ne_true), List.append_nil] at this
    rw [hb] at HCC
    clear HT hb
    go_wp2_with fail
    go_region_held3 (fun W => W.cell? ⟨g, 0, none⟩ = some (.string p) ∧ W.cell? ⟨g, 1, none⟩ = some (.string u) ∧ W.cell? ⟨b, off + j * 4, none⟩ = some (.string x.w) ∧ W.cell? ⟨b, off + j * 4 + 1, none⟩ = some (.string x.u) ∧ W.cell? ⟨b, off + j * 4 + 2, none⟩ = some (.int .i64 x.f) ∧ W.cell? ⟨b, off + j * 4 + 3, none⟩ = some (.int .i64 x.t))
     (first | exact HSC.out _ K2 | exact HSC.out _ K1)
     (first | (go_at_call 166; refine (HCC.out _).mono ?_; rintro e w2 ⟨rfl, h2⟩; have K2 := K1.below h2))
    have hbW : Below wr.heap.size wr w2 := (Below.refl _ _).drew.trans h2
    have HOD := Lib.hid (own_below HO.out hbW)
    have HBD := Lib.hid (HB.out.trans (hbW.mono HB.out.size))
    clear hbW h2 K1 K2 HCC HSC HO HB
    go_wp2
    go_roundw
    case rel => exact ⟨j + 1, by omega, by go_num, (by unfold Hid; rw [HC2.out]; exact HOD.out), HBD⟩
    case measure => simp [intOf]; omega
  ·obtain rfl : j = l.length := by omega
   rw [List.take_of_length_le (Nat.le_refl _)] at HO
   obtain ⟨x, q, rfl, h1, h2, h3, -⟩ := own_spm HO.out
   have HC := Lib.hid (HNM.out x q _ h3)
   have HF := Lib.hid (HKW.out.frame)
   clear h1 h2 h3 HNM HO
   go_wp2_with fail
   refine HC.out.mono ?_
   rintro e w2 ⟨v, r, rfl, hs, hrl, ho, hB⟩
   go_wp2
   go_ret
   exact ⟨v, r, rfl, hs, Nat.le_trans hrl (Nat.mul_le_mul_left 2 HPL.out), own_low ho HF.out.size, HF.out.trans (hB.mono HF.out.size)⟩
set_option maxHeartbeats 8000000 in
theorem right_any11 (x : SaL) (w : World) (h : SaAt w x) (hz : SzS x.m) (ho : x.op.length ≤ 1000) (hu : x.us.length ≤ 1000) (hs : x.su.length ≤ 1000) (ht : x.tb.length ≤ 1000) (hst : ∀ y ∈ x.us, y.l.length ≤ 1000) :
  Calls Tryz.prog 58 #[saV x] w fun e w' => e = .returned (.bool (rightB x.m)) ∧ Below w.heap.size w w' := by
 have S := Lib.hid (SB.new (Below.refl w.heap.size w) h 39)
 obtain ⟨c0, c1, c2, c3, c4, c5⟩ := S.out.cells
 have HW := Lib.hid (fun V => within4_any (v4 x.now x.hor 0 0) (v4 0 0 0 0) (v4 1099511627775 1099511627775 0 0) V)
 rw [arr_v4, arr_v4, arr_v4] at HW
 have HO := Lib.hid (fun V h => o_rising x.oa x.oc x.op V h hz.op ho)
 have HA1 := Lib.hid (fun V (h : SB w w.heap.size 39 x V) => all_op x.oa x.oc x.op 115 w.heap.size (fromB x.m) (fun V => SB w w.heap.size 39 x V) V h.at_.op h (by omega) (call_known Tryz.func115 rfl) (fun W W' h q => h.below q) (fun y hy V h => c_right1 y x w w.heap.size V h))
 have HU := Lib.hid (fun V h => rising_us x.ua x.uc x.us V h (fun y hy => hz.us _ (List.mem_map_of_mem hy)) (by omega))
 have HA2 := Lib.hid (fun V (h : SB w w.heap.size 39 x V) => all_us x.ua x.uc x.us 119 w.heap.size (fun y => staysB x.m y.l) (fun V => SB w w.heap.size 39 x V) V h.at_.us h (by omega) (call_known Tryz.func119 rfl) (fun W W' h q => h.below q) (fun y hy V ha h => c_right2 y x w w.heap.size V h ha (by omega) (by have := hst y hy; omega)))
 have HS := Lib.hid (fun V h => e_rising x.sa x.sc x.su V h hz.su hs)
 have HA3 := Lib.hid (fun V (h : SB w w.heap.size 39 x V) => all_en x.sa x.sc x.su 123 w.heap.size (timesB x.m) (fun V => SB w w.heap.size 39 x V) V h.at_.su h (by omega) (call_known Tryz.func123 rfl) (fun W W' h q => h.below q) (fun y hy V h => c_right3 y x w w.heap.size V h))
 have HT := Lib.hid (fun V h => rising_tb x.ta x.tc x.tb V h (fun y hy => hz.tb _ hy) (by omega))
 have HA4 := Lib.hid (fun V (h : SB w w.heap.size 39 x V) => all_tb x.ta x.tc x.tb 128 w.heap.size (tombB x.m) (fun V => SB w w.heap.size 39 x V) V h.at_.tb h (by omega) (call_known Tryz.func128 rfl) (fun W W' h q => h.below q) (fun y hy V h => c_right4 y x w w.heap.size V h))
 have hE : (wiB (v4 x.now x.hor 0 0) (v4 0 0 0 0) (v4 1099511627775 1099511627775 0 0) && (decide (RiseO x.op) && (x.op.all (fromB x.m) && (decide (riseNB UsL.u x.us) && (x.us.all (fun y => staysB x.m y.l) && (decide (RiseE x.su) && (x.su.all (timesB x.m) && (decide (riseNB TbM.u x.tb) && x.tb.all (tombB x.m))))))))) = rightB x.m := by
  have e1 : decide (riseNB UsL.u x.us) = decide (riseNB UsM.u (umS x.us)) := by
   have : riseNB UsL.u x.us ↔ riseNB UsM.u (umS x.us) := by
    rw [riseN_iff, riseN_iff]
    unfold umS RiseK
    rw [List.pairwise_map]
    constructor
    ·rintro ⟨k1, k2⟩
     exact ⟨fun y hy => by obtain ⟨z, hz, rfl⟩ := List.mem_map.1 hy; exact k1 z hz, k2⟩
    ·rintro ⟨k1, k2⟩
     exact ⟨fun y hy => k1 _ (List.mem_map_of_mem hy), k2⟩
   by_cases hq : riseNB UsL.u x.us
   ·rw [decide_eq_true hq, decide_eq_true (this.1 hq)]
   ·rw [decide_eq_false hq, decide_eq_false (fun h => hq (this.2 h))]
  have e2 : x.us.all (fun y => staysB x.m y.l) = (umS x.us).all (fun y => staysB x.m y.l) := by
   unfold umS
   rw [List.all_map]
   rfl
  rw [e1, e2]
  rfl
 have HE := Lib.hid hE
 unfold saV saC at *
 clear h hz ho hu hs ht hst hE
 generalize wiB (v4 x.now x.hor 0 0) (v4 0 0 0 0) (v4 1099511627775 1099511627775 0 0) = b1 at *
 generalize decide (RiseO x.op) = b2 at *
 generalize x.op.all (fromB x.m) = b3 at *
 generalize decide (riseNB UsL.u x.us) = b4 at *
 generalize x.us.all (fun y => staysB x.m y.l) = b5 at *
 generalize decide (RiseE x.su) = b6 at *
 generalize x.su.all (timesB x.m) = b7 at *
 generalize decide (riseNB TbM.u x.tb) = b8 at *
 generalize x.tb.all (tombB x.m) = b9 at *
 generalize rightB x.m = R at *
 cases b1 with
 | false =>
  replace HE : Hid (false = R) := HE.out
  go_enter Tryz.func58, Tryz.ntmps58
  go_wp2_with fail
  refine (HW.out _).mono ?_
  rintro e w1 ⟨rfl, h1⟩
  replace S := Lib.hid (S.out.below h1)
  clear h1 c0 c1 c2 c3 c4 c5
  obtain ⟨c0, c1, c2, c3, c4, c5⟩ := S.out.cells
  go_wp2
  go_ret
  exact ⟨retB HE.out, S.out.frame⟩
 | true =>
  rw [Bool.true_and] at HE
  cases b2 with
  | false =>
   replace HE : Hid (false = R) := HE.out
   go_enter Tryz.func58, Tryz.ntmps58
   go_wp2_with fail
   refine (HW.out _).mono ?_
   rintro e w1 ⟨rfl, h1⟩
   replace S := Lib.hid (S.out.below h1)
   clear h1 c0 c1 c2 c3 c4 c5
   obtain ⟨c0, c1, c2, c3, c4, c5⟩ := S.out.cells
   go_wp2_with fail
   refine (HO.out _ S.out.at_.op).mono ?_
   rintro e w2 ⟨rfl, h1⟩
   replace S := Lib.hid (S.out.below h1)
   clear h1 c0 c1 c2 c3 c4 c5
   obtain ⟨c0, c1, c2, c3, c4, c5⟩ := S.out.cells
   go_wp2
   go_ret
   exact ⟨retB HE.out, S.out.frame⟩
  | true =>
   rw [Bool.true_and] at HE
   cases b3 with
   | false =>
    replace HE : Hid (false = R) := HE.out
    go_enter Tryz.func58, Tryz.ntmps58
    go_wp2_with fail
    refine (HW.out _).mono ?_
    rintro e w1 ⟨rfl, h1⟩
    replace S := Lib.hid (S.out.below h1)
    clear h1 c0 c1 c2 c3 c4 c5
    obtain ⟨c0, c1, c2, c3, c4, c5⟩ := S.out.cells
    go_wp2_with fail
    refine (HO.out _ S.out.at_.op).mono ?_
    rintro e w2 ⟨rfl, h1⟩
    replace S := Lib.hid (S.out.below h1)
    clear h1 c0 c1 c2 c3 c4 c5
    obtain ⟨c0, c1, c2, c3, c4, c5⟩ := S.out.cells
    go_wp2_with fail
    refine (HA1.out _ S.out).mono ?_
    rintro e w3 ⟨rfl, h1⟩
    replace S := Lib.hid (S.out.below h1)
    clear h1 c0 c1 c2 c3 c4 c5
    obtain ⟨c0, c1, c2, c3, c4, c5⟩ := S.out.cells
    go_wp2
    go_ret
    exact ⟨retB HE.out, S.out.frame⟩
   | true =>
    rw [Bool.true_and] at HE
    cases b4 with
    | false =>
     replace HE : Hid (false = R) := HE.out
     go_enter Tryz.func58, Tryz.ntmps58
     go_wp2_with fail
     refine (HW.out _).mono ?_
     rintro e w1 ⟨rfl, h1⟩
     replace S := Lib.hid (S.out.below h1)
     clear h1 c0 c1 c2 c3 c4 c5
     obtain ⟨c0, c1, c2, c3, c4, c5⟩ := S.out.cells
     go_wp2_with fail
     refine (HO.out _ S.out.at_.op).mono ?_
     rintro e w2 ⟨rfl, h1⟩
     replace S := Lib.hid (S.out.below h1)
     clear h1 c0 c1 c2 c3 c4 c5
     obtain ⟨c0, c1, c2, c3, c4, c5⟩ := S.out.cells
     go_wp2_with fail
     refine (HA1.out _ S.out).mono ?_
     rintro e w3 ⟨rfl, h1⟩
     replace S := Lib.hid (S.out.below h1)
     clear h1 c0 c1 c2 c3 c4 c5
     obtain ⟨c0, c1, c2, c3, c4, c5⟩ := S.out.cells
     go_wp2_with fail
     refine (HU.out _ S.out.at_.us).mono ?_
     rintro e w4 ⟨rfl, h1⟩
     replace S := Lib.hid (S.out.below h1)
     clear h1 c0 c1 c2 c3 c4 c5
     obtain ⟨c0, c1, c2, c3, c4, c5⟩ := S.out.cells
     go_wp2
     go_ret
     exact ⟨retB HE.out, S.out.frame⟩
    | true =>
     rw [Bool.true_and] at HE
     cases b5 with
     | false =>
      replace HE : Hid (false = R) := HE.out
      go_enter Tryz.func58, Tryz.ntmps58
      go_wp2_with fail
      refine (HW.out _).mono ?_
      rintro e w1 ⟨rfl, h1⟩
      replace S := Lib.hid (S.out.below h1)
      clear h1 c0 c1 c2 c3 c4 c5
      obtain ⟨c0, c1, c2, c3, c4, c5⟩ := S.out.cells
      go_wp2_with fail
      refine (HO.out _ S.out.at_.op).mono ?_
      rintro e w2 ⟨rfl, h1⟩
      replace S := Lib.hid (S.out.below h1)
      clear h1 c0 c1 c2 c3 c4 c5
      obtain ⟨c0, c1, c2, c3, c4, c5⟩ := S.out.cells
      go_wp2_with fail
      refine (HA1.out _ S.out).mono ?_
      rintro e w3 ⟨rfl, h1⟩
      replace S := Lib.hid (S.out.below h1)
      clear h1 c0 c1 c2 c3 c4 c5
      obtain ⟨c0, c1, c2, c3, c4, c5⟩ := S.out.cells
      go_wp2_with fail
      refine (HU.out _ S.out.at_.us).mono ?_
      rintro e w4 ⟨rfl, h1⟩
      replace S := Lib.hid (S.out.below h1)
      clear h1 c0 c1 c2 c3 c4 c5
      obtain ⟨c0, c1, c2, c3, c4, c5⟩ := S.out.cells
      go_wp2_with fail
      refine (HA2.out _ S.out).mono ?_
      rintro e w5 ⟨rfl, h1⟩
      replace S := Lib.hid (S.out.below h1)
      clear h1 c0 c1 c2 c3 c4 c5
      obtain ⟨c0, c1, c2, c3, c4, c5⟩ := S.out.cells
      go_wp2
      go_ret
      exact ⟨retB HE.out, S.out.frame⟩
     | true =>
      rw [Bool.true_and] at HE
      cases b6 with
      | false =>
       replace HE : Hid (false = R) := HE.out
       go_enter Tryz.func58, Tryz.ntmps58
       go_wp2_with fail
       refine (HW.out _).mono ?_
       rintro e w1 ⟨rfl, h1⟩
       replace S := Lib.hid (S.out.below h1)
       clear h1 c0 c1 c2 c3 c4 c5
       obtain ⟨c0, c1, c2, c3, c4, c5⟩ := S.out.cells
       go_wp2_with fail
       refine (HO.out _ S.out.at_.op).mono ?_
       rintro e w2 ⟨rfl, h1⟩
       replace S := Lib.hid (S.out.below h1)
       clear h1 c0 c1 c2 c3 c4 c5
       obtain ⟨c0, c1, c2, c3, c4, c5⟩ := S.out.cells
       go_wp2_with fail
       refine (HA1.out _ S.out).mono ?_
       rintro e w3 ⟨rfl, h1⟩
       replace S := Lib.hid (S.out.below h1)
       clear h1 c0 c1 c2 c3 c4 c5
       obtain ⟨c0, c1, c2, c3, c4, c5⟩ := S.out.cells
       go_wp2_with fail
       refine (HU.out _ S.out.at_.us).mono ?_
       rintro e w4 ⟨rfl, h1⟩
       replace S := Lib.hid (S.out.below h1)
       clear h1 c0 c1 c2 c3 c4 c5
       obtain ⟨c0, c1, c2, c3, c4, c5⟩ := S.out.cells
       go_wp2_with fail
       refine (HA2.out _ S.out).mono ?_
       rintro e w5 ⟨rfl, h1⟩
       replace S := Lib.hid (S.out.below h1)
       clear h1 c0 c1 c2 c3 c4 c5
       obtain ⟨c0, c1, c2, c3, c4, c5⟩ := S.out.cells
       go_wp2_with fail
       refine (HS.out _ S.out.at_.su).mono ?_
       rintro e w6 ⟨rfl, h1⟩
       replace S := Lib.hid (S.out.below h1)
       clear h1 c0 c1 c2 c3 c4 c5
       obtain ⟨c0, c1, c2, c3, c4, c5⟩ := S.out.cells
       go_wp2
       go_ret
       exact ⟨retB HE.out, S.out.frame⟩
      | true =>
       rw [Bool.true_and] at HE
       cases b7 with
       | false =>
        replace HE : Hid (false = R) := HE.out
        go_enter Tryz.func58, Tryz.ntmps58
        go_wp2_with fail
        refine (HW.out _).mono ?_
        rintro e w1 ⟨rfl, h1⟩
        replace S := Lib.hid (S.out.below h1)
        clear h1 c0 c1 c2 c3 c4 c5
        obtain ⟨c0, c1, c2, c3, c4, c5⟩ := S.out.cells
        go_wp2_with fail
        refine (HO.out _ S.out.at_.op).mono ?_
        rintro e w2 ⟨rfl, h1⟩
        replace S := Lib.hid (S.out.below h1)
        clear h1 c0 c1 c2 c3 c4 c5
        obtain ⟨c0, c1, c2, c3, c4, c5⟩ := S.out.cells
        go_wp2_with fail
        refine (HA1.out _ S.out).mono ?_
        rintro e w3 ⟨rfl, h1⟩
        replace S := Lib.hid (S.out.below h1)
        clear h1 c0 c1 c2 c3 c4 c5
        obtain ⟨c0, c1, c2, c3, c4, c5⟩ := S.out.cells
        go_wp2_with fail
        refine (HU.out _ S.out.at_.us).mono ?_
        rintro e w4 ⟨rfl, h1⟩
        replace S := Lib.hid (S.out.below h1)
        clear h1 c0 c1 c2 c3 c4 c5
        obtain ⟨c0, c1, c2, c3, c4, c5⟩ := S.out.cells
        go_wp2_with fail
        refine (HA2.out _ S.out).mono ?_
        rintro e w5 ⟨rfl, h1⟩
        replace S := Lib.hid (S.out.below h1)
        clear h1 c0 c1 c2 c3 c4 c5
        obtain ⟨c0, c1, c2, c3, c4, c5⟩ := S.out.cells
        go_wp2_with fail
        refine (HS.out _ S.out.at_.su).mono ?_
        rintro e w6 ⟨rfl, h1⟩
        replace S := Lib.hid (S.out.below h1)
        clear h1 c0 c1 c2 c3 c4 c5
        obtain ⟨c0, c1, c2, c3, c4, c5⟩ := S.out.cells
        go_wp2_with fail
        refine (HA3.out _ S.out).mono ?_
        rintro e w7 ⟨rfl, h1⟩
        replace S := Lib.hid (S.out.below h1)
        clear h1 c0 c1 c2 c3 c4 c5
        obtain ⟨c0, c1, c2, c3, c4, c5⟩ := S.out.cells
        go_wp2
        go_ret
        exact ⟨retB HE.out, S.out.frame⟩
       | true =>
        rw [Bool.true_and] at HE
        cases b8 with
        | false =>
         replace HE : Hid (false = R) := HE.out
         go_enter Tryz.func58, Tryz.ntmps58
         go_wp2_with fail
         refine (HW.out _).mono ?_
         rintro e w1 ⟨rfl, h1⟩
         replace S := Lib.hid (S.out.below h1)
         clear h1 c0 c1 c2 c3 c4 c5
         obtain ⟨c0, c1, c2, c3, c4, c5⟩ := S.out.cells
         go_wp2_with fail
         refine (HO.out _ S.out.at_.op).mono ?_
         rintro e w2 ⟨rfl, h1⟩
         replace S := Lib.hid (S.out.below h1)
         clear h1 c0 c1 c2 c3 c4 c5
         obtain ⟨c0, c1, c2, c3, c4, c5⟩ := S.out.cells
         go_wp2_with fail
         refine (HA1.out _ S.out).mono ?_
         rintro e w3 ⟨rfl, h1⟩
         replace S := Lib.hid (S.out.below h1)
         clear h1 c0 c1 c2 c3 c4 c5
         obtain ⟨c0, c1, c2, c3, c4, c5⟩ := S.out.cells
         go_wp2_with fail
         refine (HU.out _ S.out.at_.us).mono ?_
         rintro e w4 ⟨rfl, h1⟩
         replace S := Lib.hid (S.out.below h1)
         clear h1 c0 c1 c2 c3 c4 c5
         obtain ⟨c0, c1, c2, c3, c4, c5⟩ := S.out.cells
         go_wp2_with fail
         refine (HA2.out _ S.out).mono ?_
         rintro e w5 ⟨rfl, h1⟩
         replace S := Lib.hid (S.out.below h1)
         clear h1 c0 c1 c2 c3 c4 c5
         obtain ⟨c0, c1, c2, c3, c4, c5⟩ := S.out.cells
         go_wp2_with fail
         refine (HS.out _ S.out.at_.su).mono ?_
         rintro e w6 ⟨rfl, h1⟩
         replace S := Lib.hid (S.out.below h1)
         clear h1 c0 c1 c2 c3 c4 c5
         obtain ⟨c0, c1, c2, c3, c4, c5⟩ := S.out.cells
         go_wp2_with fail
         refine (HA3.out _ S.out).mono ?_
         rintro e w7 ⟨rfl, h1⟩
         replace S := Lib.hid (S.out.below h1)
         clear h1 c0 c1 c2 c3 c4 c5
         obtain ⟨c0, c1, c2, c3, c4, c5⟩ := S.out.cells
         go_wp2_with fail
         refine (HT.out _ S.out.at_.tb).mono ?_
         rintro e w8 ⟨rfl, h1⟩
         replace S := Lib.hid (S.out.below h1)
         clear h1 c0 c1 c2 c3 c4 c5
         obtain ⟨c0, c1, c2, c3, c4, c5⟩ := S.out.cells
         go_wp2
         go_ret
         exact ⟨retB HE.out, S.out.frame⟩
        | true =>
         rw [Bool.true_and] at HE
         cases b9 with
         | false =>
          replace HE : Hid (false = R) := HE.out
          go_enter Tryz.func58, Tryz.ntmps58
          go_wp2_with fail
          refine (HW.out _).mono ?_
          rintro e w1 ⟨rfl, h1⟩
          replace S := Lib.hid (S.out.below h1)
          clear h1 c0 c1 c2 c3 c4 c5
          obtain ⟨c0, c1, c2, c3, c4, c5⟩ := S.out.cells
          go_wp2_with fail
          refine (HO.out _ S.out.at_.op).mono ?_
          rintro e w2 ⟨rfl, h1⟩
          replace S := Lib.hid (S.out.below h1)
          clear h1 c0 c1 c2 c3 c4 c5
          obtain ⟨c0, c1, c2, c3, c4, c5⟩ := S.out.cells
          go_wp2_with fail
          refine (HA1.out _ S.out).mono ?_
          rintro e w3 ⟨rfl, h1⟩
          replace S := Lib.hid (S.out.below h1)
          clear h1 c0 c1 c2 c3 c4 c5
          obtain ⟨c0, c1, c2, c3, c4, c5⟩ := S.out.cells
          go_wp2_with fail
          refine (HU.out _ S.out.at_.us).mono ?_
          rintro e w4 ⟨rfl, h1⟩
          replace S := Lib.hid (S.out.below h1)
          clear h1 c0 c1 c2 c3 c4 c5
          obtain ⟨c0, c1, c2, c3, c4, c5⟩ := S.out.cells
          go_wp2_with fail
          refine (HA2.out _ S.out).mono ?_
          rintro e w5 ⟨rfl, h1⟩
          replace S := Lib.hid (S.out.below h1)
          clear h1 c0 c1 c2 c3 c4 c5
          obtain ⟨c0, c1, c2, c3, c4, c5⟩ := S.out.cells
          go_wp2_with fail
          refine (HS.out _ S.out.at_.su).mono ?_
          rintro e w6 ⟨rfl, h1⟩
          replace S := Lib.hid (S.out.below h1)
          clear h1 c0 c1 c2 c3 c4 c5
          obtain ⟨c0, c1, c2, c3, c4, c5⟩ := S.out.cells
          go_wp2_with fail
          refine (HA3.out _ S.out).mono ?_
          rintro e w7 ⟨rfl, h1⟩
          replace S := Lib.hid (S.out.below h1)
          clear h1 c0 c1 c2 c3 c4 c5
          obtain ⟨c0, c1, c2, c3, c4, c5⟩ := S.out.cells
          go_wp2_with fail
          refine (HT.out _ S.out.at_.tb).mono ?_
          rintro e w8 ⟨rfl, h1⟩
          replace S := Lib.hid (S.out.below h1)
          clear h1 c0 c1 c2 c3 c4 c5
          obtain ⟨c0, c1, c2, c3, c4, c5⟩ := S.out.cells
          go_wp2_with fail
          refine (HA4.out _ S.out).mono ?_
          rintro e w9 ⟨rfl, h1⟩
          replace S := Lib.hid (S.out.below h1)
          clear h1 c0 c1 c2 c3 c4 c5
          obtain ⟨c0, c1, c2, c3, c4, c5⟩ := S.out.cells
          go_wp2
          go_ret
          exact ⟨retB HE.out, S.out.frame⟩
         | true =>
          go_enter Tryz.func58, Tryz.ntmps58
          go_wp2_with fail
          refine (HW.out _).mono ?_
          rintro e w1 ⟨rfl, h1⟩
          replace S := Lib.hid (S.out.below h1)
          clear h1 c0 c1 c2 c3 c4 c5
          obtain ⟨c0, c1, c2, c3, c4, c5⟩ := S.out.cells
          go_wp2_with fail
          refine (HO.out _ S.out.at_.op).mono ?_
          rintro e w2 ⟨rfl, h1⟩
          replace S := Lib.hid (S.out.below h1)
          clear h1 c0 c1 c2 c3 c4 c5
          obtain ⟨c0, c1, c2, c3, c4, c5⟩ := S.out.cells
          go_wp2_with fail
          refine (HA1.out _ S.out).mono ?_
          rintro e w3 ⟨rfl, h1⟩
          replace S := Lib.hid (S.out.below h1)
          clear h1 c0 c1 c2 c3 c4 c5
          obtain ⟨c0, c1, c2, c3, c4, c5⟩ := S.out.cells
          go_wp2_with fail
          refine (HU.out _ S.out.at_.us).mono ?_
          rintro e w4 ⟨rfl, h1⟩
          replace S := Lib.hid (S.out.below h1)
          clear h1 c0 c1 c2 c3 c4 c5
          obtain ⟨c0, c1, c2, c3, c4, c5⟩ := S.out.cells
          go_wp2_with fail
          refine (HA2.out _ S.out).mono ?_
          rintro e w5 ⟨rfl, h1⟩
          replace S := Lib.hid (S.out.below h1)
          clear h1 c0 c1 c2 c3 c4 c5
          obtain ⟨c0, c1, c2, c3, c4, c5⟩ := S.out.cells
          go_wp2_with fail
          refine (HS.out _ S.out.at_.su).mono ?_
          rintro e w6 ⟨rfl, h1⟩
          replace S := Lib.hid (S.out.below h1)
          clear h1 c0 c1 c2 c3 c4 c5
          obtain ⟨c0, c1, c2, c3, c4, c5⟩ := S.out.cells
          go_wp2_with fail
          refine (HA3.out _ S.out).mono ?_
          rintro e w7 ⟨rfl, h1⟩
          replace S := Lib.hid (S.out.below h1)
          clear h1 c0 c1 c2 c3 c4 c5
          obtain ⟨c0, c1, c2, c3, c4, c5⟩ := S.out.cells
          go_wp2_with fail
          refine (HT.out _ S.out.at_.tb).mono ?_
          rintro e w8 ⟨rfl, h1⟩
          replace S := Lib.hid (S.out.below h1)
          clear h1 c0 c1 c2 c3 c4 c5
          obtain ⟨c0, c1, c2, c3, c4, c5⟩ := S.out.cells
          go_wp2_with fail
          refine (HA4.out _ S.out).mono ?_
          rintro e w9 ⟨rfl, h1⟩
          replace S := Lib.hid (S.out.below h1)
          clear h1 c0 c1 c2 c3 c4 c5
          obtain ⟨c0, c1, c2, c3, c4, c5⟩ := S.out.cells
          go_wp2
          go_ret
          exact ⟨retB HE.out, S.out.frame⟩
end Go.Proofs.YtapacckmgmdnoaaGreat
namespace Go.Proofs.YtapacckmgmdnoaaGreat
open Go.ChangeShapes Go.WideShapes Go.ChangeAt Go.RowKit
set_option linter.unusedVariables false
set_option maxRecDepth 100000
set_option maxRecDepth 100000
section
variable {H : Type} {enc : TypeId × Value → H} {P : Program} {w : World} {base : Nat} {spare : Nat → Bool} {held : Bool}
end
theorem read_stay {H : Type} {enc : TypeId × Value → H} {W : World} {n : Nat} {cs : List Value} {x : DataW H × List MemPlace}
  (hl : cs.length = 4) (h : DataW.trod enc Tryz.prog W 0 (fun _ => true) true n 104 cs = some x) :
  ∃ s : StM, cs = [.int .i64 s.f, .int .i64 s.t, .int .i64 s.n, .int .i64 s.s] ∧ I64 s.f ∧ I64 s.t := by
 obtain ⟨f0, f1, f2, f3, he, o0, o1, o2, o3, t0, t1, t2, t3⟩ := stFields
 have ci : Tryz.prog.cellsOf 3 = 1 := by kernel_rfl
 obtain ⟨xs, k, hk, hxy, _, hxl, hf⟩ := DataW.trod_struct he h
 match xs, hxl, cs, hl with
 | [y0, y1, y2, y3], _, [v0, v1, v2, v3], _ =>
  have g0 := hf 0 f0 rfl
  have g1 := hf 1 f1 rfl
  have g2 := hf 2 f2 rfl
  have g3 := hf 3 f3 rfl
  simp [o0, o1, o2, o3, t0, t1, t2, t3, ci] at g0 g1 g2 g3
  obtain ⟨z0, e0, _, w0⟩ := DataW.trod_int Tryz.underlying3 g0
  obtain ⟨z1, e1, _, w1⟩ := DataW.trod_int Tryz.underlying3 g1
  obtain ⟨z2, e2, _, w2⟩ := DataW.trod_int Tryz.underlying3 g2
  obtain ⟨z3, e3, _, w3⟩ := DataW.trod_int Tryz.underlying3 g3
  simp at e0 e1 e2 e3
  subst e0 e1 e2 e3
  exact ⟨⟨z0, z1, z2, z3⟩, rfl, wf64 w0, wf64 w1⟩
theorem open_stay {H : Type} {enc : TypeId × Value → H} {W : World} {base : Nat} {v : Value} {d : DataW H} {p : List MemPlace}
  (hok : Value.okWide Tryz.prog W .any base 104 v) (h : DataW.Trod enc Tryz.prog W 0 (fun _ => true) true 104 v d p) :
  ∃ s : StM, v = stV s ∧ I64 s.f ∧ I64 s.t := by
 obtain ⟨cs, rfl, hsz⟩ := okWide_struct Tryz.underlying104 hok
 obtain ⟨fuel, hf⟩ := h
 obtain ⟨s, e, h1, h2⟩ := read_stay (cs := cs.toList) (by rw [Array.length_toList, hsz]; kernel_rfl) hf
 exact ⟨s, congrArg Value.agg (Array.toList_inj.1 e), h1, h2⟩
end Go.Proofs.YtapacckmgmdnoaaGreat
namespace Go.Proofs.YtapacckmgmdnoaaGreat
open Go.RowKit Go.Proofs
set_option linter.unusedVariables false
set_option maxRecDepth 100000
set_option maxRecDepth 100000
section
variable {M : SaM} (x y : SaL) (V : World) (h : SaAt V x) (k : SaAt V y) (hm : x.m = M) (km : y.m = M)
include h hm
theorem g_rightB (hz : SzS M) (hf : Few M 900) : Calls Tryz.prog 58 #[saV x] V fun r w' => r = .returned (.bool (rightB M)) ∧ Below V.heap.size V w' := by
 subst hm
 exact right_any11 x V h hz (Nat.le_trans hf.op (by decide)) (Nat.le_trans (few_us hf) (by decide)) (Nat.le_trans hf.su (by decide)) (Nat.le_trans hf.tb (by decide)) (fun z hz => Nat.le_trans (umS_st hf.st z hz) (by decide))
include k km
end
end Go.Proofs.YtapacckmgmdnoaaGreat
namespace Go.Proofs.YtapacckmgmdnoaaGreat
open Go.RowKit Go.Proofs
set_option linter.unusedVariables false
set_option maxRecDepth 100000
def LastT (s : SaM) (p u : ByteArray) (n k : Int) (b : Bool) : Prop := ∃ m, GTold s (everM p u n) m ∧ k = (lastS m).1 ∧ b = (lastS m).2
theorem LastT.only {s : SaM} {p u : ByteArray} {n k k' : Int} {b b' : Bool} (h : LastT s p u n k b) (h' : LastT s p u n k' b') : k = k' ∧ b = b' := by
 obtain ⟨m, h1, rfl, rfl⟩ := h
 obtain ⟨m', h2, rfl, rfl⟩ := h'
 obtain rfl := h1.only h2
 exact ⟨rfl, rfl⟩
structure Alike13 (s : SaM) (q : AskM) (t : SaM) : Prop where
 told : ∀ m, GTold t q m → GTold s q m
 ever : ∀ m, GTold t (everM q.w q.u q.n) m → GTold s (everM q.w q.u q.n) m
 why : whyV t q.w q.u q.n = whyV s q.w q.u q.n
 few : Few t 200
theorem Alike13.self {s : SaM} (q : AskM) (h : Few s 200) : Alike13 s q s := ⟨fun _ h => h, fun _ h => h, rfl, h⟩
theorem Alike13.last {s t : SaM} {q : AskM} (h : Alike13 s q t) {k : Int} {b : Bool} (hk : LastT t q.w q.u q.n k b) : LastT s q.w q.u q.n k b := by
 obtain ⟨m, h1, e1, e2⟩ := hk
 exact ⟨m, h.ever m h1, e1, e2⟩
end Go.Proofs.YtapacckmgmdnoaaGreat
