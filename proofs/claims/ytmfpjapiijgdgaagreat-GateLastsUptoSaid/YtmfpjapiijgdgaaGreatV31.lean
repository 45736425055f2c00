/- Texts of mine, one behind the other, of each what is wanted. -/
import Derived.Test.YtmfpjapiijgdgaaGreatV00
import Derived.Test.YtmfpjapiijgdgaaGreatShelf
import Derived.Test.YtmfpjapiijgdgaaGreatV01
import Derived.Test.YtmfpjapiijgdgaaGreatV03
import Derived.Test.YtmfpjapiijgdgaaGreatV05
import Derived.Test.YtmfpjapiijgdgaaGreatV07
import Derived.Test.YtmfpjapiijgdgaaGreatV09
import Derived.Test.YtmfpjapiijgdgaaGreatV18
import Derived.Test.YtmfpjapiijgdgaaGreatV30
import Derived.Test.YtmfpjapiijgdgaaGreatTQ
namespace Go.Proofs.YtmfpjapiijgdgaaGreat
set_option linter.unusedVariables false
set_option maxRecDepth 100000
theorem ltSt_le {a b c : StM} (h : ltSt a b) (k : ¬ ltSt c b) : ltSt a c := by unfold ltSt at *; omega
end Go.Proofs.YtmfpjapiijgdgaaGreat
namespace Go.Proofs.YtmfpjapiijgdgaaGreat
set_option linter.unusedVariables false
theorem gate_doc {s : SaM} {w u : ByteArray} {f t : Int} {q r : List SpM} (h1 : IsSet (fun x => HasL (perS s.su w u) x ∧ HasL [⟨f, t⟩] x) q) (h2 : IsSet (fun x => HasL q x ∧ HasL [⟨s.hor, 1099511627776⟩] x) r) : IsSet (gateP s w u f t) r :=
 h2.congr fun x => by
  rw [h1.2, has_one]
  show ((HasL (perS s.su w u) x ∧ HasL [⟨f, t⟩] x) ∧ s.hor ≤ x ∧ x < 1099511627776) ↔ _
  rw [has_one]
  unfold gateP
  dsimp only
  constructor
  ·rintro ⟨⟨k1, k2⟩, k3⟩; exact ⟨k1, k2, k3⟩
  ·rintro ⟨k1, k2, k3⟩; exact ⟨⟨k1, k2⟩, k3⟩
end Go.Proofs.YtmfpjapiijgdgaaGreat
namespace Go.Proofs.YtmfpjapiijgdgaaGreat
open Go.RowKit
set_option linter.unusedVariables false
set_option maxRecDepth 100000
set_option maxRecDepth 100000
theorem cell_both {a b : List SpM} {e : List Int} (h : IsEnds (a ++ b) e) : CellP (fun x => HasL a x ∧ HasL b x) e :=
 have ha : ∀ s ∈ a, s ∈ a ++ b := fun s hs => List.mem_append_left _ hs
 have hb : ∀ s ∈ b, s ∈ a ++ b := fun s hs => List.mem_append_right _ hs
 ⟨h.1, fun k hk x h1 h2 => and_congr (h.cell ha hk h1 h2) (h.cell hb hk h1 h2), fun x hx => h.first ha hx.1, fun x hx k hk => h.last ha hx.1 hk⟩
theorem addr_add (b off j : Nat) : (⟨b, off, none⟩ : Addr).add j = ⟨b, off + j, none⟩ := by
 unfold Addr.add
 split
 ·rename_i h; subst h; rfl
 ·rfl
theorem SpSl.cells {w : World} {a : Option Addr} {l : List SpM} (h : SpSl w a l) : ∀ ad, a = some ad → ∀ j u, (sps l)[j]? = some u → w.cell? (ad.add j) = some u := fun ad ha j u hu => by
 have hj : j < l.length * 2 := by rw [← sps_len]; exact (List.getElem?_eq_some_iff.1 hu).1
 have hk : j / 2 < l.length := by omega
 obtain ⟨b, off, e, _, h1, h2⟩ := h (j / 2) hk
 rw [ha] at e
 cases e
 obtain ⟨g1, g2⟩ := sps_get l (j / 2) hk
 rw [addr_add]
 have hd : j = j / 2 * 2 ∨ j = j / 2 * 2 + 1 := by omega
 generalize j / 2 = k at *
 rcases hd with rfl | rfl
 ·rw [g1] at hu
  cases hu
  exact h1
 ·rw [g2] at hu
  cases hu
  exact h2
theorem sps_one (l : List SpM) : ∀ u ∈ sps l, u.oneCell' = true := fun u hu => by
 unfold sps at hu
 obtain ⟨y, _, hy⟩ := List.mem_flatMap.1 hu
 exact two_one _ _ u hy
theorem wpList_append_sp {P : Program} (w : World) {ops : Array Oper} {rest : List Oper} {o : Oper} {a : Act} {Q : Exit → Act → World → Prop} (hgd : o.guard = none) (s x : Operand) (t : TypeId)
  (ho : o.op = .call { callee := .builtin .append, args := #[s, x], argTypes := #[t, t] })
  (base : Nat) (e : TypeId) (i : TypeInfo) (z : Value) (ht : P.underlying t = some (.slice e)) (hi : P.info? e = some i) (hz : i.zero = some z)
  (hsize : i.size = 2) (hby : i.bytes = 16) (hzs : z.cells.size = 2)
  (v : Value) (l : List SpM) (hs : a.eval s = v) (hown : w.ownsRow base e 2 v l.length (sps l))
  (A : Option Addr) (c : Nat) (m : List SpM) (hx : a.eval x = .slice A m.length c) (hsl : SpSl w A m) (hnil : A = none → c = 0)
  (hlen : l.length + m.length ≤ 1000000) (hbase : base ≤ w.heap.size)
  (h : ∀ v' w', w'.ownsRow base e 2 v' (l ++ m).length (sps (l ++ m)) → Below base w w' → wpList P ops Q rest (a.put o.dst v') w') : wpList P ops Q (o :: rest) a w := by
 rw [List.length_append, sps_append] at h
 cases A with
 | none =>
  have hc := hnil rfl
  subst hc
  have hm0 : m = [] := by
   cases m with
   | nil => rfl
   | cons y m => obtain ⟨_, _, e, _⟩ := hsl 0 (by simp); cases e
  subst hm0
  exact wpList_append_own_none hgd s x t ho base e i 2 ht hi v l.length (sps l) hs hown hx (h v w (by simpa [sps] using hown) (Below.refl _ _))
 | some ad =>
  exact wpList_append_own w hgd s x t ho base e i z 2 16 ht hi hz hsize hby hzs (by decide) v l.length (sps l) hs hown ad m.length c (sps m) hx (sps_len m) (hsl.cells ad rfl) (sps_one m) (by unfold maxLen; omega) (by omega) hbase (fun v' w' h2 h3 _ => h v' w' h2 (app_below (Below.refl _ _) hbase hown h3))
set_option maxHeartbeats 4000000 in
theorem refMeet_any (xa : Option Addr) (ca : Nat) (xb : Option Addr) (cb : Nat) (A B : List SpM) (w : World) (ha : SpSl w xa A) (hb : SpSl w xb B) (na : xa = none → ca = 0) (nb : xb = none → cb = 0) (hl : A.length + B.length ≤ 100000) :
  Calls Tryz.prog 107 #[.slice xa A.length ca, .slice xb B.length cb] w fun e w' => ∃ (v : Value) (r : List SpM), e = .returned v ∧ IsSet (fun x => HasL A x ∧ HasL B x) r ∧ r.length ≤ 2 * (A.length + B.length) ∧ w'.ownsRow w.heap.size 106 2 v r.length (sps r) ∧ Below w.heap.size w w' := by
 obtain ⟨i0, hi, hz0, hz1, hz2⟩ := info_parts infoSpanR
 have HA := Lib.hid ha
 have HB := Lib.hid hb
 have HEN := Lib.hid ends_any
 have HH := Lib.hid refHas_any
 have HG := Lib.hid glue_any
 have hlA : A.length ≤ maxLen := by unfold maxLen; omega
 have hlB : B.length ≤ maxLen := by unfold maxLen; omega
 have HE1 := (Below.refl w.heap.size w).alloc (Nat.le_refl _) (.cells #[] 106)
 have HO1 : Hid ((w.alloc (.cells #[] 106)).ownsRow w.heap.size 106 2 (.slice (some ⟨w.heap.size, 0, none⟩) 0 0) ([] : List SpM).length (sps [])) := World.ownsRow_lit w #[] 0 (Nat.le_refl _) (by unfold maxLen; omega) rfl
 have HB1 := Lib.hid HE1
 have HA1 := Lib.hid (ha.below HE1)
 clear ha hb HE1
 obtain ⟨L, hL⟩ : ∃ L, L = A ++ B := ⟨_, rfl⟩
 have hLl : L.length = A.length + B.length := by rw [hL, List.length_append]
 have HLL := Lib.hid hL
 have HLN := Lib.hid hLl
 clear hL hLl
 go_enter Tryz.func107, Tryz.ntmps107
 go_wp2_with (first | (at_builtin; (refine wpList_append_sp _ rfl (.tmp 8) (.tmp 9) 74 rfl w.heap.size 106 i0 _ Tryz.underlying74 hi hz0 hz1 hz2 rfl _ [] rfl HO1.out xa ca A rfl HA1.out na (by simp; omega) HB1.out.size ?_; intro v2 w2 hown2 hB2; rw [List.nil_append] at hown2; have hBB2 := HB1.out.trans hB2)) | (at_builtin; (refine wpList_append_sp _ rfl (.tmp 10) (.tmp 11) 74 rfl w.heap.size 106 i0 _ Tryz.underlying74 hi hz0 hz1 hz2 rfl v2 A rfl hown2 xb cb B rfl (HB.out.below hBB2) nb (by omega) hBB2.size ?_; intro v3 w3 hown3 hB3; have hBB3 := hBB2.trans hB3; rw [← HLL.out] at hown3; obtain ⟨x3, c3, rfl, _, hs3⟩ := own_sp hown3)) | fail)
 refine (HEN.out x3 c3 L w3 hs3 (by have := HLN.out; omega)).mono ?_
 rintro r w1 ⟨v, e, rfl, hen, hel, hown, hB1⟩
 rw [HLN.out] at hel
 rw [HLL.out] at hen
 have HP := Lib.hid (cell_both hen)
 have HW1 := Lib.hid (hBB3.trans (hB1.mono hBB3.size))
 obtain ⟨ea, ec, rfl, _, hecm, hsl, _, _⟩ := own_slice hown
 have HSL := Lib.hid hsl
 clear hen hown hB1 hsl hown3 hown2 hB2 hB3 hBB2 hBB3 hs3 HO1 HA1 HB1 HEN
 go_wp2
 go_loopw [6, 7] (fun v i wr => ∃ (k : Nat) (r : List SpM), i = .int .i64 k ∧ k ≤ e.length ∧ r.length ≤ k ∧ Hid (GlW (fun x => HasL A x ∧ HasL B x) e k r) ∧ Hid (wr.ownsRow w1.heap.size 106 2 v r.length (sps r)) ∧ Hid (Below w1.heap.size w1 wr)) (fun _ i _ => e.length - (intOf i).toNat)
 case atStart => exact ⟨0, [], rfl, by omega, by simp, HP.out.start, ⟨rfl, .inl ⟨rfl, rfl⟩⟩, Below.refl _ _⟩
 case round =>
  obtain ⟨k, r, rfl, hke, hrk, HI, HO, HBW⟩ := hrel
  by_cases hk : k + 1 < e.length
  ·obtain ⟨b, off, rfl, hc⟩ := ints_two HSL.out hk
   have HSC := Lib.hid (fun W (hW : Below w1.heap.size wr W) => hc W (HBW.out.trans hW))
   obtain ⟨c0, c1⟩ := hc wr HBW.out
   have HST := Lib.hid (fun hp => HP.out.step HI.out hk hp)
   have HSK := Lib.hid (fun hp => HP.out.skip HI.out hk hp)
   have hW0 := HW1.out.trans (HBW.out.mono HW1.out.size)
   have HHA := Lib.hid (HH.out xa ca A e[k] wr (HA.out.below hW0) hlA)
   have HHB := Lib.hid (HH.out xb cb B e[k] wr (HB.out.below hW0) hlB)
   have HBA := Lib.hid (hasB_iff A e[k])
   have HBB := Lib.hid (hasB_iff B e[k])
   clear hc HI hW0
   generalize e[k] = x at *
   generalize e[k + 1] = y at *
   by_cases pa : hasB A x = true
   ·rw [pa] at HHA
    by_cases pb : hasB B x = true
    ·rw [pb] at HHB
     have HN := Lib.hid (HST.out ⟨HBA.out.1 pa, HBB.out.1 pb⟩)
     clear HST HSK HBA HBB pa pb
     go_wp2_with fail
     refine HHA.out.mono ?_
     rintro r1 w2 ⟨rfl, hw2⟩
     obtain rfl : wr = w2 := hw2.symm
     clear hw2
     go_wp2_with fail
     refine HHB.out.mono ?_
     rintro r1 w2 ⟨rfl, hw2⟩
     obtain rfl : wr = w2 := hw2.symm
     clear hw2
     go_wp2_with fail
     have hX : Below w1.heap.size wr wr.drew := (Below.refl _ _).drew
     have hwk : IntKind.i64.wrap ((k : Int) + 1) = (k : Int) + 1 := by rw [IntWalk.i64_in] <;> omega
     have hk0 : (0 : Int) ≤ (k : Int) := Int.natCast_nonneg _
     have hk1 : (k : Int) < (e.length : Int) := by omega
     have hk2 : (k : Int) + 1 < (e.length : Int) := by omega
     have hk3 : (0 : Int) ≤ (k : Int) + 1 := by omega
     have hk4 : ((k : Int) + 1).toNat = k + 1 := by omega
     have HGW : Hid (Calls Tryz.prog 160 #[_, .agg #[.int .i64 x, .int .i64 y]] wr.drew _) := HG.out w1.heap.size _ r ⟨x, y⟩ wr.drew HBW.out.size HO.out.drew (by omega)
     go_region_held3 (fun W => W.cell? ⟨b, off + k, none⟩ = some (.int .i64 x) ∧ W.cell? ⟨b, off + (k + 1), none⟩ = some (.int .i64 y))
      (first | with_reducible exact HSC.out _ hX | with_reducible exact HSC.out _ hY | assumption)
      ((go_at_call 160; refine HGW.out.mono ?_; rintro r3 w3 ⟨v3, rfl, hown3, hB3⟩; have hY := hX.trans hB3))
     clear hwk hk0 hk1 hk2 hk3 hk4 hX HSC HGW HHA HHB
     go_wp2
     go_roundw
     case rel => exact ⟨k + 1, glueS r ⟨x, y⟩, by go_num, by omega, Nat.le_trans (glueS_le _ _) (by omega), HN, hown3, HBW.out.trans hY⟩
     case measure => simp [intOf]; omega
    ·have pb : hasB B x = false := by cases h : hasB B x <;> simp_all
     rw [pb] at HHB
     have HN := Lib.hid (HSK.out (fun h => by rw [HBB.out.2 h.2] at pb; cases pb))
     clear HST HSK HBA HBB pa pb
     go_wp2_with fail
     refine HHA.out.mono ?_
     rintro r1 w2 ⟨rfl, hw2⟩
     obtain rfl : wr = w2 := hw2.symm
     clear hw2
     go_wp2_with fail
     refine HHB.out.mono ?_
     rintro r1 w2 ⟨rfl, hw2⟩
     obtain rfl : wr = w2 := hw2.symm
     clear hw2 HSC HHA HHB
     go_wp2
     go_roundw
     case rel => exact ⟨k + 1, r, by go_num, by omega, by omega, HN, HO, HBW⟩
     case measure => simp [intOf]; omega
   ·have pa : hasB A x = false := by simpa using pa
    rw [pa] at HHA
    have HN := Lib.hid (HSK.out (fun h => by rw [HBA.out.2 h.1] at pa; cases pa))
    clear HST HSK HBA HBB pa
    go_wp2_with fail
    refine HHA.out.mono ?_
    rintro r1 w2 ⟨rfl, hw2⟩
    obtain rfl : wr = w2 := hw2.symm
    clear hw2 HSC HHA HHB
    go_wp2
    go_roundw
    case rel => exact ⟨k + 1, r, by go_num, by omega, by omega, HN, HO, HBW⟩
    case measure => simp [intOf]; omega
  ·have HD := Lib.hid (HP.out.done HI.out hk)
   go_wp2
   go_ret
   first | exact ⟨_, r, rfl, HD.out, by omega, own_low HO.out HW1.out.size, HW1.out.trans (HBW.out.mono HW1.out.size)⟩ | exact ⟨_, rfl, r, HD.out, by omega, own_low HO.out HW1.out.size, HW1.out.trans (HBW.out.mono HW1.out.size)⟩
end Go.Proofs.YtmfpjapiijgdgaaGreat
namespace Go.Proofs.YtmfpjapiijgdgaaGreat
open Go.RowKit Go.Sort Go.Proofs
set_option linter.unusedVariables false
set_option maxRecDepth 100000
set_option maxRecDepth 100000
theorem sorted_own {w' : World} {B B' : Nat} {v : Value} {M : List StM} {x : StM} {q : Nat} (h : putS M x = M.take q ++ x :: M.drop q) (ho : w'.ownsRow B 104 4 v ((([] ++ M.take q) ++ [x]) ++ M.drop q).length (sts ((([] ++ M.take q) ++ [x]) ++ M.drop q))) (hb : B' ≤ B) :
  w'.ownsRow B' 104 4 v (putS M x).length (sts (putS M x)) := by
 rw [List.nil_append, List.append_assoc, List.singleton_append, ← h] at ho
 exact own_low ho hb
theorem own_shape8 {w : World} {B e k n : Nat} {v : Value} {xs : List Value} (h : w.ownsRow B e k v n xs) : ∃ a c, v = .slice a n c ∧ ((a = none ∧ c = 0 ∧ n = 0) ∨ ∃ b off, a = some ⟨b, off, none⟩) ∧ n ≤ c ∧ c ≤ maxLen := by
 rcases h.2 with ⟨rfl, hn⟩ | ⟨g, cap, cur, rfl, hg, hh, hn, hc, hsz, ht⟩
 ·subst hn
  exact ⟨none, 0, rfl, .inl ⟨rfl, rfl, rfl⟩, Nat.le_refl _, by unfold maxLen; omega⟩
 ·exact ⟨_, cap, rfl, .inr ⟨_, _, rfl⟩, hn, hc⟩
theorem own_stsl {w : World} {B e c : Nat} {a : Option Addr} {l : List StM} (h : w.ownsRow B e 4 (.slice a l.length c) l.length (sts l)) : StSl w a l := by
 obtain ⟨a', c', e1, _, _, h1, _⟩ := own_st h
 injection e1 with e1 _ _
 rw [e1]; exact h1
theorem place_is {M : List StM} {x : StM} {q : Nat} (hs : SortedS M) (hq : q ≤ M.length) (hlo : ∀ i (h : i < M.length), i < q → ¬ ltSt x M[i]) (hup : ∀ h : q < M.length, ltSt x M[q]) : IsPos M x q := by
 refine ⟨hq, fun j hj hqj => ?_, fun h h1 => hlo _ h1 (by omega)⟩
 have h1 := hup (by omega)
 rcases Nat.eq_or_lt_of_le hqj with h2 | h2
 ·subst h2; exact h1
 ·exact ltSt_le h1 (List.pairwise_iff_getElem.1 hs q j (by omega) hj h2)
theorem put_take {l M : List StM} {j : Nat} (hj : j < l.length) (h : M.Perm (l.take j)) : (putS M l[j]).Perm (l.take (j + 1)) := by
 rw [List.take_succ_eq_append_getElem hj]
 exact (putS_perm _ _).trans ((h.cons _).trans (List.perm_append_singleton _ _).symm)
set_option maxHeartbeats 4000000 in
theorem sorted_any (a : Option Addr) (c : Nat) (l : List StM) (w : World) (hr : StSl w a l) (hl : l.length ≤ 400000) :
  Calls Tryz.prog 165 #[.slice a l.length c] w fun e w' => ∃ v m, e = .returned v ∧ m.Perm l ∧ SortedS m ∧ w'.ownsRow w.heap.size 104 4 v m.length (sts m) ∧ Below w.heap.size w w' := by
 obtain ⟨i0, hi, hz0, hz1, hz2⟩ := info_parts infoStayR
 have HCM := Lib.hid (fun x y W => (ahead_any x y W).mono fun e w' (h : _ ∧ Grew W w') => And.intro h.1 (h.2.below (Nat.le_refl _)))
 unfold stV at HCM
 have HR := Lib.hid hr
 clear hr
 go_enter Tryz.func165, Tryz.ntmps165
 go_wp2
 go_loopw [3, 4] (fun v i wr => ∃ (j : Nat) (M : List StM), j ≤ l.length ∧ i = .int .i64 j ∧ Hid (M.Perm (l.take j)) ∧ Hid (SortedS M) ∧ Hid (M = [] → v = .slice none 0 0) ∧ Hid (wr.ownsRow w.heap.size 104 4 v M.length (sts M)) ∧ Hid (Below w.heap.size w wr)) (fun _ i _ => l.length - (intOf i).toNat)
 case atStart => exact ⟨0, [], by omega, rfl, List.Perm.refl _, List.Pairwise.nil, fun _ => rfl, ⟨rfl, .inl ⟨rfl, rfl⟩⟩, Below.refl _ _⟩
 case round =>
  obtain ⟨j, M, hj, rfl, HP, HS, HN, HO, HF⟩ := hrel
  by_cases hjl : j < l.length
  ·obtain ⟨lb, lo, rfl, hlb0, -, -, -, -⟩ := (HR.out.below HF.out).at_ hjl
   have hlb : lb < w.heap.size := by
    obtain ⟨_, _, e, h, _⟩ := HR.out.at_ hjl
    cases e; exact h
   have HLX0 : Hid (∀ W, Below w.heap.size w W → W.cell? ⟨lb, lo + j * 4, none⟩ = some (.int .i64 l[j].f) ∧ W.cell? ⟨lb, lo + j * 4 + 1, none⟩ = some (.int .i64 l[j].t) ∧ W.cell? ⟨lb, lo + j * 4 + 2, none⟩ = some (.int .i64 l[j].n) ∧ W.cell? ⟨lb, lo + j * 4 + 3, none⟩ = some (.int .i64 l[j].s)) := fun W h => by
    obtain ⟨_, _, e, _, h0, h1, h2, h3⟩ := (HR.out.below h).at_ hjl
    cases e
    exact ⟨h0, h1, h2, h3⟩
   have HPM0 := Lib.hid (put_take hjl HP.out)
   have hML : M.length ≤ 400000 := by rw [HP.out.length_eq]; simp; omega
   have HXL : Hid (∀ W, Below wr.heap.size wr W → lb < W.heap.size) := fun W h => Nat.lt_of_lt_of_le hlb (Nat.le_trans HF.out.size h.size)
   clear hlb0
   obtain ⟨x, hx⟩ : ∃ x, x = l[j] := ⟨_, rfl⟩
   have HLX : Hid (∀ W, Below w.heap.size w W → W.cell? ⟨lb, lo + j * 4, none⟩ = some (.int .i64 x.f) ∧ W.cell? ⟨lb, lo + j * 4 + 1, none⟩ = some (.int .i64 x.t) ∧ W.cell? ⟨lb, lo + j * 4 + 2, none⟩ = some (.int .i64 x.n) ∧ W.cell? ⟨lb, lo + j * 4 + 3, none⟩ = some (.int .i64 x.s)) := by rw [hx]; exact HLX0.out
   have HPM : Hid ((putS M x).Perm (l.take (j + 1))) := by rw [hx]; exact HPM0.out
   have HSO := Lib.hid (putS_sorted (s := x) HS.out)
   have HNN : Hid (∀ v, putS M x = [] → v = Value.slice none 0 0) := fun v h => by have := putS_len M x; rw [h] at this; simp at this
   have HPL := Lib.hid (fun q h1 h2 h3 => place_is (x := x) (q := q) HS.out h1 h2 h3)
   clear HLX0 HPM0 hx HP HS
   obtain ⟨a2, c2, rfl, hsh, hMc, hcm⟩ := own_shape8 HO.out
   have HM := Lib.hid (own_stsl HO.out)
   unfold maxLen at hcm
   generalize wr = w0 at *
   go_wp2
   go_loopw [5] (fun i wr => ∃ (q : Nat), q ≤ M.length ∧ i = .int .i64 q ∧ Hid (∀ i (h : i < M.length), i < q → ¬ ltSt x M[i]) ∧ Hid (Below w0.heap.size w0 wr)) (fun i _ => M.length - (intOf i).toNat)
   case atStart => exact ⟨0, Nat.zero_le _, rfl, fun i h h1 => absurd h1 (by omega), Below.refl _ _⟩
   case round =>
    obtain ⟨q, hq, rfl, HLO, HX⟩ := hrel
    by_cases hqM : q < M.length
    ·obtain ⟨b, off, rfl⟩ : ∃ b off, a2 = some ⟨b, off, none⟩ := hsh.resolve_left (by omega)
     have HXY0 : Hid (∀ W, Below w0.heap.size w0 W → W.cell? ⟨lb, lo + j * 4, none⟩ = some (.int .i64 x.f) ∧ W.cell? ⟨lb, lo + j * 4 + 1, none⟩ = some (.int .i64 x.t) ∧ W.cell? ⟨lb, lo + j * 4 + 2, none⟩ = some (.int .i64 x.n) ∧ W.cell? ⟨lb, lo + j * 4 + 3, none⟩ = some (.int .i64 x.s) ∧ W.cell? ⟨b, off + q * 4, none⟩ = some (.int .i64 M[q].f) ∧ W.cell? ⟨b, off + q * 4 + 1, none⟩ = some (.int .i64 M[q].t) ∧ W.cell? ⟨b, off + q * 4 + 2, none⟩ = some (.int .i64 M[q].n) ∧ W.cell? ⟨b, off + q * 4 + 3, none⟩ = some (.int .i64 M[q].s)) := fun W h => by
      obtain ⟨_, _, e, _, h0, h1, h2, h3⟩ := (HM.out.below h).at_ hqM
      cases e
      obtain ⟨k0, k1, k2, k3⟩ := HLX.out W (HF.out.trans (h.mono HF.out.size))
      exact ⟨k0, k1, k2, k3, h0, h1, h2, h3⟩
     obtain ⟨y, hy⟩ : ∃ y, y = M[q] := ⟨_, rfl⟩
     have HXY : Hid (∀ W, Below w0.heap.size w0 W → W.cell? ⟨lb, lo + j * 4, none⟩ = some (.int .i64 x.f) ∧ W.cell? ⟨lb, lo + j * 4 + 1, none⟩ = some (.int .i64 x.t) ∧ W.cell? ⟨lb, lo + j * 4 + 2, none⟩ = some (.int .i64 x.n) ∧ W.cell? ⟨lb, lo + j * 4 + 3, none⟩ = some (.int .i64 x.s) ∧ W.cell? ⟨b, off + q * 4, none⟩ = some (.int .i64 y.f) ∧ W.cell? ⟨b, off + q * 4 + 1, none⟩ = some (.int .i64 y.t) ∧ W.cell? ⟨b, off + q * 4 + 2, none⟩ = some (.int .i64 y.n) ∧ W.cell? ⟨b, off + q * 4 + 3, none⟩ = some (.int .i64 y.s)) := by rw [hy]; exact HXY0.out
     have HC0 := Lib.hid (HCM.out x y)
     have K1 : Below w0.heap.size w0 wr.drew := HX.out.trans ((Below.refl _ _).drew.mono HX.out.size)
     have hlt : decide ((q : Int) < (M.length : Int)) = true := decide_eq_true (by omega)
     clear HXY0 HCM
     by_cases h3 : ltSt x y
     ·have HPos : Hid (IsPos M x q) := HPL.out q hq HLO.out (fun _ => by rw [← hy]; exact h3)
      have HCX : Hid (∀ W, Calls Tryz.prog 157 #[.agg #[.int .i64 x.f, .int .i64 x.t, .int .i64 x.n, .int .i64 x.s], .agg #[.int .i64 y.f, .int .i64 y.t, .int .i64 y.n, .int .i64 y.s]] W fun e w' => e = .returned (.bool true) ∧ Below W.heap.size W w') := fun W => by
       have := HC0.out W
       rwa [decide_eq_true h3] at this
      clear HC0 h3 HLO HPL hy
      go_wp2_with fail
      go_region_held3 (fun W => W.cell? ⟨lb, lo + j * 4, none⟩ = some (.int .i64 x.f) ∧ W.cell? ⟨lb, lo + j * 4 + 1, none⟩ = some (.int .i64 x.t) ∧ W.cell? ⟨lb, lo + j * 4 + 2, none⟩ = some (.int .i64 x.n) ∧ W.cell? ⟨lb, lo + j * 4 + 3, none⟩ = some (.int .i64 x.s) ∧ W.cell? ⟨b, off + q * 4, none⟩ = some (.int .i64 y.f) ∧ W.cell? ⟨b, off + q * 4 + 1, none⟩ = some (.int .i64 y.t) ∧ W.cell? ⟨b, off + q * 4 + 2, none⟩ = some (.int .i64 y.n) ∧ W.cell? ⟨b, off + q * 4 + 3, none⟩ = some (.int .i64 y.s))
       (first | exact HXY.out _ K1 | exact HXY.out _ K3)
       (first | (go_at_call 157; refine (HCX.out _).mono ?_; rintro e w3 ⟨rfl, h3⟩; have K3 := K1.trans (h3.mono K1.size)))
      replace HX := Lib.hid K3
      generalize w3 = w5 at *
      clear K1 K3 HXY HCX
      have hpc : q ≤ c2 := by omega
      have hz1' : (0 : Int) ≤ (q : Int) := by omega
      have hz2' : (q : Int) ≤ (M.length : Int) := by omega
      have hz3' : (q : Int) ≤ (c2 : Int) := by omega
      have hz4' : (M.length : Int) ≤ (c2 : Int) := by omega
      have hck : ¬ c2 = q := by omega
      have HA : Hid (putS M x = M.take q ++ x :: M.drop q) := putS_at HPos.out
      have HMX := Lib.hid (HM.out.below HX.out)
      have O1 := Lib.hid (own_empty8 w5 104 4 w5.heap.size (Nat.le_refl _))
      have B1 := Lib.hid (below_one w5 (.cells #[] 104))
      have S1 := Lib.hid ((HMX.out.take q).below B1.out)
      go_wp2_with (at_builtin; first
       | (refine wpList_append_st _ rfl (.tmp 31) (.tmp 34) 67 rfl w5.heap.size 104 i0 _ Tryz.underlying67 hi hz0 hz1 hz2 rfl _ [] rfl O1.out (some ⟨b, off, none⟩) c2 (M.take q) (by rw [List.length_take, Nat.min_eq_left hq]; rfl) S1.out (fun h => by cases h) (by simp; omega) B1.out.size ?_; intro v2 w2 hown2 hB2; have BB := Lib.hid (B1.out.trans hB2); have OO := Lib.hid hown2; have hxx := HLX.out _ (HF.out.trans ((HX.out.trans (BB.out.mono HX.out.size)).mono HF.out.size)); obtain ⟨g0, g1, g2, g3⟩ := hxx; clear hown2 hB2)
       | (refine wpList_append_st _ rfl (.tmp 36) (.tmp 41) 67 rfl w5.heap.size 104 i0 _ Tryz.underlying67 hi hz0 hz1 hz2 rfl _ _ rfl (own_below OO.out (below_one w2 (.cells #[.int .i64 x.f, .int .i64 x.t, .int .i64 x.n, .int .i64 x.s] 104))) (some ⟨w2.heap.size, 0, none⟩) 1 [x] rfl (cells_st w2 [x] #[.int .i64 x.f, .int .i64 x.t, .int .i64 x.n, .int .i64 x.s] 104 _ rfl rfl) (fun h => by cases h) (by simp; omega) (BB.out.trans ((below_one w2 (.cells #[.int .i64 x.f, .int .i64 x.t, .int .i64 x.n, .int .i64 x.s] 104)).mono BB.out.size)).size ?_; intro v3 w3 hown3 hB3; have B3 := Lib.hid ((BB.out.trans ((below_one w2 (.cells #[.int .i64 x.f, .int .i64 x.t, .int .i64 x.n, .int .i64 x.s] 104)).mono BB.out.size)).trans hB3); have O3 := Lib.hid hown3; clear hown3 hB3 g0 g1 g2 g3)
       | (refine wpList_append_st _ rfl (.tmp 43) (.tmp 46) 67 rfl w5.heap.size 104 i0 _ Tryz.underlying67 hi hz0 hz1 hz2 rfl _ _ rfl O3.out (some ⟨b, off + q * 4, none⟩) (c2 - q) (M.drop q) (by rw [List.length_drop]; rfl) ((HMX.out.drop q).below B3.out) (fun h => by cases h) (by simp; omega) B3.out.size ?_; intro v4 w4 hown4 hB4; have B4 := Lib.hid (B3.out.trans hB4); have O4 := Lib.hid hown4; clear hown4 hB4))
      go_wp2
      go_roundw
      case rel => exact ⟨j + 1, putS M x, by omega, by go_num, HPM.out, HSO.out, HNN.out _, sorted_own HA.out O4.out (Nat.le_trans HF.out.size HX.out.size), HF.out.trans ((HX.out.trans (B4.out.mono HX.out.size)).mono HF.out.size)⟩
      case measure => simp [intOf]; omega
     ·have HLO2 : Hid (∀ i (h : i < M.length), i < q + 1 → ¬ ltSt x M[i]) := fun i h h1 => by
       rcases Nat.lt_or_ge i q with h2 | h2
       ·exact HLO.out i h h2
       ·obtain rfl : i = q := by omega
        rw [← hy]; exact h3
      have HCX : Hid (∀ W, Calls Tryz.prog 157 #[.agg #[.int .i64 x.f, .int .i64 x.t, .int .i64 x.n, .int .i64 x.s], .agg #[.int .i64 y.f, .int .i64 y.t, .int .i64 y.n, .int .i64 y.s]] W fun e w' => e = .returned (.bool false) ∧ Below W.heap.size W w') := fun W => by
       have := HC0.out W
       rwa [decide_eq_false h3] at this
      clear HC0 h3 HLO HPL hy
      go_wp2_with fail
      go_region_held3 (fun W => W.cell? ⟨lb, lo + j * 4, none⟩ = some (.int .i64 x.f) ∧ W.cell? ⟨lb, lo + j * 4 + 1, none⟩ = some (.int .i64 x.t) ∧ W.cell? ⟨lb, lo + j * 4 + 2, none⟩ = some (.int .i64 x.n) ∧ W.cell? ⟨lb, lo + j * 4 + 3, none⟩ = some (.int .i64 x.s) ∧ W.cell? ⟨b, off + q * 4, none⟩ = some (.int .i64 y.f) ∧ W.cell? ⟨b, off + q * 4 + 1, none⟩ = some (.int .i64 y.t) ∧ W.cell? ⟨b, off + q * 4 + 2, none⟩ = some (.int .i64 y.n) ∧ W.cell? ⟨b, off + q * 4 + 3, none⟩ = some (.int .i64 y.s))
       (first | exact HXY.out _ K1 | exact HXY.out _ K3)
       (first | (go_at_call 157; refine (HCX.out _).mono ?_; rintro e w3 ⟨rfl, h3⟩; have K3 := K1.trans (h3.mono K1.size)))
      go_wp2
      go_roundw
      case rel => exact ⟨q + 1, by omega, by go_num, HLO2, K3⟩
      case measure => simp [intOf]; omega
    ·obtain rfl : q = M.length := by omega
     have HPos : Hid (IsPos M x M.length) := HPL.out _ hq HLO.out (fun h => absurd h (by omega))
     have hlt : decide ((M.length : Int) < (M.length : Int)) = false := decide_eq_false (by omega)
     clear HPL HLO hqM HCM
     go_wp2_with fail
     refine wp_region_held_drew (S := (fun W => True)) (by kernel_rfl) ?_ (fun hHeld => ?_)
     ·exact trivial
     refine tV 0 13 ?_
     refine tV 1 14 ?_
     refine tV 2 15 ?_
     refine tV 3 16 ?_
     refine tV 4 17 ?_
     refine tU 5 18 ?_
     refine tU 6 19 ?_
     refine tU 7 20 ?_
     refine tU 8 21 ?_
     refine tU 9 22 ?_
     refine tU 10 23 ?_
     refine tU 11 24 ?_
     refine tU 12 25 ?_
     refine tU 13 26 ?_
     refine tU 14 27 ?_
     refine tV 15 28 ?_
     refine wpAnyH_done (by kernel_rfl) ?_ _
     replace HX : Hid (Below w0.heap.size w0 wr.drew) := HX.out.trans ((Below.refl _ _).drew.mono HX.out.size)
     generalize wr.drew = w5 at *
     cases M with
     | nil =>
      have hv := HN.out rfl
      injection hv with ha hb hc
      subst ha hc
      clear HM hsh hMc hcm
      have HA : Hid (putS [] x = ([] : List StM).take 0 ++ x :: ([] : List StM).drop 0) := putS_at HPos.out
      have O1 := Lib.hid (own_empty8 w5 104 4 w5.heap.size (Nat.le_refl _))
      have B1 := Lib.hid (below_one w5 (.cells #[] 104))
      have O2 := Lib.hid (own_below O1.out (below_one _ (.cells #[.int .i64 x.f, .int .i64 x.t, .int .i64 x.n, .int .i64 x.s] 104)))
      have B2 := Lib.hid (B1.out.trans ((below_one _ (.cells #[.int .i64 x.f, .int .i64 x.t, .int .i64 x.n, .int .i64 x.s] 104)).mono B1.out.size))
      have S2 := Lib.hid (cells_st (w5.alloc (.cells #[] 104)) [x] #[.int .i64 x.f, .int .i64 x.t, .int .i64 x.n, .int .i64 x.s] 104 (w5.heap.size + 1) (size1 _ _).symm rfl)
      obtain ⟨g0, g1, g2, g3⟩ := HLX.out _ (HF.out.trans (HX.out.mono HF.out.size))
      have hgl : lb < w5.heap.size := Nat.lt_of_lt_of_le hlb (Nat.le_trans HF.out.size HX.out.size)
      clear O1
      go_wp2_with (at_builtin; first
       | (refine wpList_append_st _ rfl (.tmp 36) (.tmp 41) 67 rfl w5.heap.size 104 i0 _ Tryz.underlying67 hi hz0 hz1 hz2 rfl _ [] rfl O2.out (some ⟨w5.heap.size + 1, 0, none⟩) 1 [x] rfl S2.out (fun h => by cases h) (by simp) B2.out.size ?_; intro v3 w3 hown3 hB3; have B3 := Lib.hid (B2.out.trans hB3); have O3 := Lib.hid hown3; clear hown3 hB3 g0 g1 g2 g3 hgl)
       | (refine wpList_append_st _ rfl (.tmp 43) (.tmp 46) 67 rfl w5.heap.size 104 i0 _ Tryz.underlying67 hi hz0 hz1 hz2 rfl _ _ rfl O3.out none 0 [] rfl (StSl.nil _ _) (fun _ => rfl) (by simp) B3.out.size ?_; intro v4 w4 hown4 hB4; have B4 := Lib.hid (B3.out.trans hB4); have O4 := Lib.hid hown4; clear hown4 hB4))
      go_wp2
      go_roundw
      case rel => exact ⟨j + 1, putS [] x, by omega, by go_num, HPM.out, HSO.out, HNN.out _, sorted_own (M := []) (q := 0) HA.out O4.out (Nat.le_trans HF.out.size HX.out.size), HF.out.trans ((HX.out.trans (B4.out.mono HX.out.size)).mono HF.out.size)⟩
      case measure => simp [intOf]; omega
     | cons m0 M0 =>
      obtain ⟨b, off, rfl⟩ : ∃ b off, a2 = some ⟨b, off, none⟩ := hsh.resolve_left (by simp)
      generalize hMM : m0 :: M0 = M at *
      clear hMM hsh
      by_cases hck : c2 = M.length
      ·subst hck
       have HA : Hid (putS M x = M.take M.length ++ x :: M.drop M.length) := putS_at HPos.out
       have HMX := Lib.hid (HM.out.below HX.out)
       have O1 := Lib.hid (own_empty8 w5 104 4 w5.heap.size (Nat.le_refl _))
       have B1 := Lib.hid (below_one w5 (.cells #[] 104))
       have S1 := Lib.hid ((HMX.out.take M.length).below B1.out)
       go_wp2_with (at_builtin; first
        | (refine wpList_append_st _ rfl (.tmp 31) (.tmp 34) 67 rfl w5.heap.size 104 i0 _ Tryz.underlying67 hi hz0 hz1 hz2 rfl _ [] rfl O1.out (some ⟨b, off, none⟩) M.length (M.take M.length) (by rw [List.length_take, Nat.min_self]; rfl) S1.out (fun h => by cases h) (by simp; omega) B1.out.size ?_; intro v2 w2 hown2 hB2; have BB := Lib.hid (B1.out.trans hB2); have OO := Lib.hid hown2; have hxx := HLX.out _ (HF.out.trans ((HX.out.trans (BB.out.mono HX.out.size)).mono HF.out.size)); obtain ⟨g0, g1, g2, g3⟩ := hxx; clear hown2 hB2)
        | (refine wpList_append_st _ rfl (.tmp 36) (.tmp 41) 67 rfl w5.heap.size 104 i0 _ Tryz.underlying67 hi hz0 hz1 hz2 rfl _ _ rfl (own_below OO.out (below_one w2 (.cells #[.int .i64 x.f, .int .i64 x.t, .int .i64 x.n, .int .i64 x.s] 104))) (some ⟨w2.heap.size, 0, none⟩) 1 [x] rfl (cells_st w2 [x] #[.int .i64 x.f, .int .i64 x.t, .int .i64 x.n, .int .i64 x.s] 104 _ rfl rfl) (fun h => by cases h) (by simp; omega) (BB.out.trans ((below_one w2 (.cells #[.int .i64 x.f, .int .i64 x.t, .int .i64 x.n, .int .i64 x.s] 104)).mono BB.out.size)).size ?_; intro v3 w3 hown3 hB3; have B3 := Lib.hid ((BB.out.trans ((below_one w2 (.cells #[.int .i64 x.f, .int .i64 x.t, .int .i64 x.n, .int .i64 x.s] 104)).mono BB.out.size)).trans hB3); have O3 := Lib.hid hown3; clear hown3 hB3 g0 g1 g2 g3)
        | (refine wpList_append_st _ rfl (.tmp 43) (.tmp 46) 67 rfl w5.heap.size 104 i0 _ Tryz.underlying67 hi hz0 hz1 hz2 rfl _ _ rfl O3.out (some ⟨b, off, none⟩) 0 (M.drop M.length) (by rw [List.drop_eq_nil_of_le (Nat.le_refl _)]; rfl) ((show StSl w5 (some ⟨b, off, none⟩) (M.drop M.length) by rw [List.drop_eq_nil_of_le (Nat.le_refl _)]; exact StSl.nil _ _).below B3.out) (fun h => by cases h) (by simp; omega) B3.out.size ?_; intro v4 w4 hown4 hB4; have B4 := Lib.hid (B3.out.trans hB4); have O4 := Lib.hid hown4; clear hown4 hB4))
       go_wp2
       go_roundw
       case rel => exact ⟨j + 1, putS M x, by omega, by go_num, HPM.out, HSO.out, HNN.out _, sorted_own HA.out O4.out (Nat.le_trans HF.out.size HX.out.size), HF.out.trans ((HX.out.trans (B4.out.mono HX.out.size)).mono HF.out.size)⟩
       case measure => simp [intOf]; omega
      ·have hpc : M.length ≤ c2 := by omega
       have hz4' : (M.length : Int) ≤ (c2 : Int) := by omega
       have HA : Hid (putS M x = M.take M.length ++ x :: M.drop M.length) := putS_at HPos.out
       have HMX := Lib.hid (HM.out.below HX.out)
       have O1 := Lib.hid (own_empty8 w5 104 4 w5.heap.size (Nat.le_refl _))
       have B1 := Lib.hid (below_one w5 (.cells #[] 104))
       have S1 := Lib.hid ((HMX.out.take M.length).below B1.out)
       go_wp2_with (at_builtin; first
        | (refine wpList_append_st _ rfl (.tmp 31) (.tmp 34) 67 rfl w5.heap.size 104 i0 _ Tryz.underlying67 hi hz0 hz1 hz2 rfl _ [] rfl O1.out (some ⟨b, off, none⟩) c2 (M.take M.length) (by rw [List.length_take, Nat.min_self]; rfl) S1.out (fun h => by cases h) (by simp; omega) B1.out.size ?_; intro v2 w2 hown2 hB2; have BB := Lib.hid (B1.out.trans hB2); have OO := Lib.hid hown2; have hxx := HLX.out _ (HF.out.trans ((HX.out.trans (BB.out.mono HX.out.size)).mono HF.out.size)); obtain ⟨g0, g1, g2, g3⟩ := hxx; clear hown2 hB2)
        | (refine wpList_append_st _ rfl (.tmp 36) (.tmp 41) 67 rfl w5.heap.size 104 i0 _ Tryz.underlying67 hi hz0 hz1 hz2 rfl _ _ rfl (own_below OO.out (below_one w2 (.cells #[.int .i64 x.f, .int .i64 x.t, .int .i64 x.n, .int .i64 x.s] 104))) (some ⟨w2.heap.size, 0, none⟩) 1 [x] rfl (cells_st w2 [x] #[.int .i64 x.f, .int .i64 x.t, .int .i64 x.n, .int .i64 x.s] 104 _ rfl rfl) (fun h => by cases h) (by simp; omega) (BB.out.trans ((below_one w2 (.cells #[.int .i64 x.f, .int .i64 x.t, .int .i64 x.n, .int .i64 x.s] 104)).mono BB.out.size)).size ?_; intro v3 w3 hown3 hB3; have B3 := Lib.hid ((BB.out.trans ((below_one w2 (.cells #[.int .i64 x.f, .int .i64 x.t, .int .i64 x.n, .int .i64 x.s] 104)).mono BB.out.size)).trans hB3); have O3 := Lib.hid hown3; clear hown3 hB3 g0 g1 g2 g3)
        | (refine wpList_append_st _ rfl (.tmp 43) (.tmp 46) 67 rfl w5.heap.size 104 i0 _ Tryz.underlying67 hi hz0 hz1 hz2 rfl _ _ rfl O3.out (some ⟨b, off + M.length * 4, none⟩) (c2 - M.length) (M.drop M.length) (by rw [List.drop_eq_nil_of_le (Nat.le_refl _)]; rfl) ((HMX.out.drop M.length).below B3.out) (fun h => by cases h) (by simp; omega) B3.out.size ?_; intro v4 w4 hown4 hB4; have B4 := Lib.hid (B3.out.trans hB4); have O4 := Lib.hid hown4; clear hown4 hB4))
       go_wp2
       go_roundw
       case rel => exact ⟨j + 1, putS M x, by omega, by go_num, HPM.out, HSO.out, HNN.out _, sorted_own HA.out O4.out (Nat.le_trans HF.out.size HX.out.size), HF.out.trans ((HX.out.trans (B4.out.mono HX.out.size)).mono HF.out.size)⟩
       case measure => simp [intOf]; omega
  ·obtain rfl : j = l.length := by omega
   have hp := HP.out
   rw [List.take_of_length_le (Nat.le_refl _)] at hp
   have HP2 := Lib.hid hp
   clear hp HP
   go_wp2
   go_ret
   exact ⟨_, M, rfl, HP2.out, HS.out, HO.out, HF.out⟩
end Go.Proofs.YtmfpjapiijgdgaaGreat
