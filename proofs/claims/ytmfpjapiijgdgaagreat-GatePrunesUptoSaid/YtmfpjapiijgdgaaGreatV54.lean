/- Texts of mine, one behind the other, of each what is wanted. -/
import Derived.Test.YtmfpjapiijgdgaaGreatV00
import Derived.Test.YtmfpjapiijgdgaaGreatShelf
import Derived.Test.YtmfpjapiijgdgaaGreatRows
import Derived.Test.YtmfpjapiijgdgaaGreatV01
import Derived.Test.YtmfpjapiijgdgaaGreatV02
import Derived.Test.YtmfpjapiijgdgaaGreatV03
import Derived.Test.YtmfpjapiijgdgaaGreatV05
import Derived.Test.YtmfpjapiijgdgaaGreatV06
import Derived.Test.YtmfpjapiijgdgaaGreatV07
import Derived.Test.YtmfpjapiijgdgaaGreatV10
import Derived.Test.YtmfpjapiijgdgaaGreatV11
import Derived.Test.YtmfpjapiijgdgaaGreatV15
import Derived.Test.YtmfpjapiijgdgaaGreatV20
import Derived.Test.YtmfpjapiijgdgaaGreatV24
import Derived.Test.YtmfpjapiijgdgaaGreatV25
import Derived.Test.YtmfpjapiijgdgaaGreatV26
import Derived.Test.YtmfpjapiijgdgaaGreatV27
import Derived.Test.YtmfpjapiijgdgaaGreatV28
import Derived.Test.YtmfpjapiijgdgaaGreatV35
import Derived.Test.YtmfpjapiijgdgaaGreatV41
import Derived.Test.YtmfpjapiijgdgaaGreatV51
import Derived.Test.YtmfpjapiijgdgaaGreatV52
namespace Go.Proofs.YtmfpjapiijgdgaaGreat
set_option linter.unusedVariables false
set_option maxRecDepth 100000
theorem raw_perm {l m : List StM} (h : l.Perm m) (r : List SpM) : (rawS l r).Perm (rawS m r) := h.flatMap_right _
def aftS (l : List StM) (t : Int) : List StM := l.filter fun s => decide (t < s.t)
def aftE (l : List EnM) (t : Int) : List EnM := l.filter fun e => decide (t < e.t)
theorem ofU_nil {l : List UsM} {u : ByteArray} (h : ∀ x ∈ l, x.u ≠ u) : ofU l u = [] := by
 unfold ofU
 have : l.find? (isKy UsM.u u) = none := List.find?_eq_none.2 fun x hx hk => h x hx (isKy_iff.1 hk)
 rw [this]
def pruneU (l : List UsM) (t : Int) : List UsM := (l.map fun x => (⟨x.u, aftS x.l t⟩ : UsM)).filter fun x => !x.l.isEmpty
def pruneS (s : SaM) : SaM := { s with us := pruneU s.us s.hor, su := aftE s.su s.hor }
theorem pruneU_mem {l : List UsM} {t : Int} {x : UsM} : x ∈ pruneU l t ↔ (∃ y ∈ l, x = ⟨y.u, aftS y.l t⟩) ∧ x.l ≠ [] := by
 unfold pruneU
 rw [List.mem_filter, List.mem_map]
 have h : (!x.l.isEmpty) = true ↔ x.l ≠ [] := by
  cases x.l <;> simp
 rw [h]
 exact ⟨fun h => ⟨h.1.elim fun y hy => ⟨y, hy.1, hy.2.symm⟩, h.2⟩, fun h => ⟨h.1.elim fun y hy => ⟨y, hy.1, hy.2.symm⟩, h.2⟩⟩
theorem pruneU_rise {l : List UsM} {t : Int} (h : RiseK UsM.u l) : RiseK UsM.u (pruneU l t) := by
 unfold pruneU RiseK
 refine List.Pairwise.filter _ ?_
 rw [List.pairwise_map]
 exact h
theorem aft_rise {l : List StM} {t : Int} (h : RiseS l) : RiseS (aftS l t) := by
 obtain ⟨h1, h2⟩ := rise_iff.1 h
 exact rise_iff.2 ⟨fun s hs => h1 s (List.mem_filter.1 hs).1, h2.filter _⟩
theorem pruneU_ok {now : Int} {op : List OpM} {us : List UsM} {t : Int} (h : ∀ x ∈ us, OkU now op x) : ∀ x ∈ pruneU us t, OkU now op x := fun x hx => by
 obtain ⟨⟨y, hy, rfl⟩, h1⟩ := pruneU_mem.1 hx
 have h2 := h y hy
 exact ⟨h2.1, h1, aft_rise h2.2.2.1, fun s hs => h2.2.2.2 s (List.mem_filter.1 hs).1⟩
theorem right_prune {s : SaM} (h : RightS s) : RightS (pruneS s) :=
 ⟨h.now, h.hor, h.op, h.frm, pruneU_ok h.us, pruneU_rise h.ur, h.su.filter _, h.tb, h.tr⟩
theorem ofU_prune {l : List UsM} {t : Int} (h : RiseK UsM.u l) (u : ByteArray) : ofU (pruneU l t) u = aftS (ofU l u) t := by
 by_cases hu : ∃ x ∈ l, x.u = u
 ·obtain ⟨x, hx, rfl⟩ := hu
  rw [ofU_mem h hx]
  by_cases h1 : aftS x.l t = []
  ·rw [h1]
   refine ofU_nil fun y hy hyu => ?_
   obtain ⟨⟨z, hz, rfl⟩, h2⟩ := pruneU_mem.1 hy
   have := riseK_one h hz hx hyu
   subst this
   exact h2 h1
  ·exact ofU_mem (x := ⟨x.u, aftS x.l t⟩) (pruneU_rise h) (pruneU_mem.2 ⟨⟨x, hx, rfl⟩, h1⟩)
 ·rw [ofU_nil (l := l) fun x hx e => hu ⟨x, hx, e⟩]
  refine (ofU_nil fun y hy hyu => ?_).trans (by rfl)
  obtain ⟨⟨z, hz, rfl⟩, _⟩ := pruneU_mem.1 hy
  exact hu ⟨z, hz, hyu⟩
theorem cntU_prune (t : Int) : ∀ l : List UsM, cntU (pruneU l t) ≤ cntU l
 | [] => by simp [pruneU]
 | x :: l => by
  have ih := cntU_prune t l
  have h1 : (aftS x.l t).length ≤ x.l.length := List.length_filter_le _ _
  unfold pruneU at ih ⊢
  rw [List.map_cons, List.filter_cons, cntU_cons]
  split
  ·rw [cntU_cons]
   have h2 : (⟨x.u, aftS x.l t⟩ : UsM).l.length = (aftS x.l t).length := rfl
   omega
  ·omega
theorem cnt_prune (s : SaM) : stCnt (pruneS s) ≤ stCnt s := by
 have h := cntU_prune s.hor s.us
 have h1 : (aftE s.su s.hor).length ≤ s.su.length := List.length_filter_le _ _
 unfold stCnt pruneS
 simp only
 omega
end Go.Proofs.YtmfpjapiijgdgaaGreat
namespace Go.Proofs.YtmfpjapiijgdgaaGreat
set_option linter.unusedVariables false
theorem cut_perm {l m a : List StM} {P : Int → Prop} (h : l.Perm m) (ha : IsCut l P a) : IsCut m P a := by
 obtain ⟨r, h1, h2, h3⟩ := ha
 exact ⟨r, h1, h2.trans (raw_perm h r), h3⟩
theorem raw_append (a b : List StM) (r : List SpM) : rawS (a ++ b) r = rawS a r ++ rawS b r := List.flatMap_append
theorem pieces_out {P : Int → Prop} {r : List SpM} (hr : IsSet P r) {x : StM} (h : ∀ t, x.f ≤ t → t < x.t → ¬ P t) : piecesS x r = [] := by
 unfold piecesS
 rw [List.map_eq_nil_iff, List.eq_nil_iff_forall_not_mem]
 intro m hm
 obtain ⟨n, _, _, hlt⟩ := rowOf_mem hm
 have h1 := (rowOf_has x.sp m.f (r := r)).1 ⟨m, hm, Int.le_refl _, hlt⟩
 exact h m.f h1.1.1 h1.1.2 ((hr.2 _).1 h1.2)
theorem raw_filter {P : Int → Prop} {r : List SpM} (hr : IsSet P r) (p : StM → Bool) : ∀ l : List StM, (∀ x ∈ l, p x = false → ∀ t, x.f ≤ t → t < x.t → ¬ P t) → rawS (l.filter p) r = rawS l r
 | [], _ => rfl
 | x :: l, h => by
  have ih := raw_filter hr p l fun y hy => h y (List.mem_cons_of_mem _ hy)
  have e1 : rawS (x :: l) r = piecesS x r ++ rawS l r := List.flatMap_cons
  rw [e1, List.filter_cons]
  cases hp : p x with
  | true => rw [if_pos rfl]; exact (List.flatMap_cons).trans (by rw [show (l.filter p).flatMap (fun x => piecesS x r) = rawS (l.filter p) r from rfl, ih])
  | false => rw [if_neg (by decide), ih, pieces_out hr (h x (List.mem_cons_self ..) hp)]; rfl
theorem per_aft {l : List EnM} {w u : ByteArray} {h x : Int} (hx : h ≤ x) : HasL (perS (aftE l h) w u) x ↔ HasL (perS l w u) x := by
 rw [per_has, per_has]
 constructor
 ·rintro ⟨e, he, k⟩
  exact ⟨e, (List.mem_filter.1 he).1, k⟩
 ·rintro ⟨e, he, k1, k2, k3⟩
  exact ⟨e, List.mem_filter.2 ⟨he, decide_eq_true (by omega)⟩, k1, k2, k3⟩
theorem gate_prune (s : SaM) (w u : ByteArray) (f t x : Int) : gateP (pruneS s) w u f t x ↔ gateP s w u f t x := by
 unfold gateP
 constructor
 ·rintro ⟨k1, k2, k3, k4⟩; exact ⟨(per_aft k3).1 k1, k2, k3, k4⟩
 ·rintro ⟨k1, k2, k3, k4⟩; exact ⟨(per_aft k3).2 k1, k2, k3, k4⟩
theorem range_prune {s : SaM} (h : RiseK UsM.u s.us) {w u : ByteArray} {f t now : Int} {a : List StM} (ha : IsRange (pruneS s) w u f t now a) : IsRange s w u f t now a := by
 have h1 : IsCut (staysS (pruneS s) u now) (gateP s w u f t) a := IsCut.congr ha (gate_prune s w u f t)
 obtain ⟨r, k1, k2, k3⟩ := cut_perm (stays_perm (pruneS s) u now) h1
 refine cut_perm (stays_perm s u now).symm ⟨r, k1, k2.trans (List.Perm.of_eq ?_), k3⟩
 rw [raw_append, raw_append]
 have e1 : (pruneS s).op = s.op := rfl
 have e2 : ofU (pruneS s).us u = aftS (ofU s.us u) s.hor := ofU_prune h u
 rw [e1, e2]
 congr 1
 unfold aftS
 refine raw_filter k1 _ _ fun x hx hp y hy hyt hP => ?_
 have := of_decide_eq_false hp
 have := hP.2.2.1
 omega
end Go.Proofs.YtmfpjapiijgdgaaGreat
namespace Go.Proofs.YtmfpjapiijgdgaaGreat
open Go.RowKit
set_option linter.unusedVariables false
set_option maxRecDepth 100000
set_option maxRecDepth 100000
theorem ssame_any (a b : Option Addr) (ca cb : Nat) (l m : List StM) (w : World) (ha : StSl w a l) (hb : StSl w b m) (hla : l.length ≤ maxLen) (hlb : m.length ≤ maxLen) :
  Calls Tryz.prog 59 #[.slice a l.length ca, .slice b m.length cb] w fun e w' => e = .returned (.bool (decide (l = m))) ∧ Below w.heap.size w w' := by
 have HC := Lib.hid (sequal_any a b ca cb l m w ha hb hla hlb)
 unfold maxLen at hla hlb
 clear ha hb
 go_enter Tryz.func59, Tryz.ntmps59
 go_wp2_with fail
 refine HC.out.mono ?_
 rintro e w2 ⟨rfl, h2⟩
 go_wp2
 go_ret
 exact ⟨rfl, h2⟩
def afE (t : Int) (e : EnM) : Bool := decide (t < e.t)
set_option maxHeartbeats 1000000 in
theorem afc_any (e : EnM) (t : Int) (g : Nat) (W : World) (h : CapAt W g (.int .i64 t)) :
  Calls Tryz.prog 187 #[enV e, .pointer (some ⟨g, 0, none⟩)] W fun r w' => r = .returned (.bool (afE t e)) ∧ Below W.heap.size W w' := by
 have hb := ebelow_one W (.cells #[.string e.w, .string e.u, .int .i64 e.f, .int .i64 e.t] 165)
 obtain ⟨c0, hg⟩ := h.below hb
 have HB := Lib.hid hb
 unfold enV
 clear hb hg h
 go_enter Tryz.func187, Tryz.ntmps187
 go_wp2
 go_ret
 exact ⟨rfl, HB.out⟩
set_option maxHeartbeats 2000000 in
theorem thosea_any (a : Option Addr) (c : Nat) (l : List EnM) (s : Int) (g : Nat) (w : World) (hr : EnSl w a l) (h : CapAt w g (.int .i64 s)) (hl : l.length ≤ 100000) :
  Calls Tryz.prog 186 #[.slice a l.length c, .func (.func 187) #[] #[.pointer (some ⟨g, 0, none⟩)]] w fun e w' => ∃ v, e = .returned v ∧ w'.ownsRow w.heap.size 165 4 v (l.filter (afE s)).length (ens (l.filter (afE s))) ∧ Below w.heap.size w w' := by
 obtain ⟨i0, hi, hz0, hz1, hz2⟩ := info_parts infoEn
 have HR := Lib.hid hr
 have HP := Lib.hid h
 have HC := Lib.hid (fun e V k => afc_any e s g V k)
 unfold enV at HC
 clear hr h
 go_enter Tryz.func186, Tryz.ntmps186
 go_wp2
 go_loopw [5, 10] (fun v i wr => ∃ (j : Nat), j ≤ l.length ∧ i = .int .i64 j ∧ Hid (wr.ownsRow w.heap.size 165 4 v ((l.take j).filter (afE s)).length (ens ((l.take j).filter (afE s)))) ∧ Hid (Below w.heap.size w wr)) (fun _ i _ => l.length - (intOf i).toNat)
 case atStart => exact ⟨0, by omega, rfl, ⟨rfl, .inl ⟨rfl, rfl⟩⟩, Below.refl _ _⟩
 case round =>
  obtain ⟨j, hj, rfl, HO, HB⟩ := hrel
  by_cases hjl : j < l.length
  ·obtain ⟨b, off, rfl, hbl, hc0, hc1, hc2, hc3⟩ := (HR.out.below HB.out).at_ hjl
   have HT := Lib.hid (fil_take (afE s) l j hjl)
   have HLN := Lib.hid (fil_len (afE s) l j)
   generalize l[j] = x at *
   generalize (l.take j).filter (afE s) = m at *
   have hb0 := ebelow_one wr (.cells #[.string x.w, .string x.u, .int .i64 x.f, .int .i64 x.t] 165)
   have HX := Lib.hid (heap_alloc_new wr (.cells #[.string x.w, .string x.u, .int .i64 x.f, .int .i64 x.t] 165))
   have HPW := Lib.hid ((HP.out.below HB.out).below hb0)
   have HB0 := Lib.hid hb0
   have HCC := Lib.hid (HC.out x _ HPW.out)
   have HZ := Lib.hid (size1 wr (.cells #[.string x.w, .string x.u, .int .i64 x.f, .int .i64 x.t] 165))
   clear hb0 HC HPW
   cases hq : (afE s) x with
   | true =>
    have HC2 : Hid ((l.take (j + 1)).filter (afE s) = m ++ [x]) := by have := HT.out; rwa [if_pos hq] at this
    rw [hq] at HCC
    clear HT hq
    go_wp2_with fail
    refine HCC.out.mono ?_
    rintro r w2 ⟨rfl, hB⟩
    have hb2 : Below wr.heap.size wr w2 := HB0.out.trans (hB.mono (by rw [HZ.out]; omega))
    obtain ⟨d0, d1, d2, d3⟩ := ecells4 ((hB.block _ (heap_lt HX.out)).trans HX.out)
    have HO2 := Lib.hid (own_below HO.out (hb2.trans ((ebelow_one w2 (.cells #[.string x.w, .string x.u, .int .i64 x.f, .int .i64 x.t] 165)).mono hb2.size)))
    have HB2 : Hid (Below w.heap.size w (w2.alloc (.cells #[.string x.w, .string x.u, .int .i64 x.f, .int .i64 x.t] 165))) := HB.out.trans ((hb2.trans ((ebelow_one w2 _).mono hb2.size)).mono HB.out.size)
    have HS2 := Lib.hid HB2.out.size
    have hlm := HLN.out
    clear hB hb2 hc0 hc1 hc2 hc3 HX HZ HB0 HCC
    go_wp2_with (at_builtin; refine wpList_append_own _ rfl (.tmp 17) (.tmp 19) 36 rfl w.heap.size 165 i0 _ 4 48 Tryz.underlying36 hi hz0 hz1 hz2 rfl (by decide) _ _ _ rfl HO2.out ⟨w2.heap.size, 0, none⟩ 1 1 [.string x.w, .string x.u, .int .i64 x.f, .int .i64 x.t] rfl rfl (news_at _ _ _ _ rfl) (four_e _ _ _ _) (by unfold maxLen; omega) (by omega) HS2.out ?_; intro v' w3 hown' hgrow hiff)
    have HB3 := Lib.hid (app_below HB2.out HS2.out HO2.out hgrow)
    have HO3 := Lib.hid hown'
    clear hown' hgrow hiff HB2 HS2 HO2
    go_wp2
    go_roundw
    case rel => exact ⟨j + 1, by omega, by go_num, (by unfold Hid; rw [HC2.out, List.length_append, ens_snoc]; exact HO3.out), HB3⟩
    case measure => simp [intOf]; omega
   | false =>
    have HC2 : Hid ((l.take (j + 1)).filter (afE s) = m) := by have := HT.out; rwa [if_neg (by rw [hq]; exact Bool.false_ne_true), List.append_nil] at this
    rw [hq] at HCC
    clear HT hq
    go_wp2_with fail
    refine HCC.out.mono ?_
    rintro r w2 ⟨rfl, hB⟩
    have hb2 : Below wr.heap.size wr w2 := HB0.out.trans (hB.mono (by rw [HZ.out]; omega))
    have HO2 := Lib.hid (own_below HO.out hb2)
    have HB2 : Hid (Below w.heap.size w w2) := HB.out.trans (hb2.mono HB.out.size)
    clear hB hb2 hc0 hc1 hc2 hc3 HX HZ HB0 HCC
    go_wp2
    go_roundw
    case rel => exact ⟨j + 1, by omega, by go_num, (by unfold Hid; rw [HC2.out]; exact HO2.out), HB2⟩
    case measure => simp [intOf]; omega
  ·obtain rfl : j = l.length := by omega
   rw [List.take_of_length_le (Nat.le_refl _)] at HO
   go_wp2
   go_ret
   exact ⟨_, rfl, HO.out, HB.out⟩
set_option maxHeartbeats 1000000 in
theorem eafter_any (a : Option Addr) (c : Nat) (l : List EnM) (s : Int) (w : World) (hr : EnSl w a l) (hl : l.length ≤ 100000) :
  Calls Tryz.prog 131 #[.slice a l.length c, (.int .i64 s)] w fun e w' => ∃ v, e = .returned v ∧ w'.ownsRow w.heap.size 165 4 v (l.filter (afE s)).length (ens (l.filter (afE s))) ∧ Below w.heap.size w w' := by
 have hb := ebelow_one w (.cells #[.int .i64 s] 3)
 have HC := Lib.hid (thosea_any a c l s w.heap.size (w.alloc (.cells #[.int .i64 s] 3)) (hr.below hb) (CapAt.new _ _ _) hl)
 have HB := Lib.hid hb
 clear hr hb
 go_enter Tryz.func131, Tryz.ntmps131
 go_wp2_with fail
 refine HC.out.mono ?_
 rintro r w2 ⟨v, rfl, ho, hB⟩
 go_wp2
 go_ret
 exact ⟨v, rfl, own_low ho HB.out.size, HB.out.trans (hB.mono HB.out.size)⟩
theorem e_after (a : Option Addr) (c : Nat) (l : List EnM) (s : Int) (W : World) (h : EnSl W a l) (hl : l.length ≤ 1000) : Calls Tryz.prog 131 #[.slice a l.length c, .int .i64 s] W fun e w' => ∃ x q, e = .returned (.slice x (l.filter (afE s)).length q) ∧ (l.filter (afE s)).length ≤ q ∧ q ≤ maxLen ∧ (x = none → q = 0) ∧ EnSl w' x (l.filter (afE s)) ∧ Below W.heap.size W w' := by
 refine (eafter_any a c l s W h (by omega)).mono ?_
 rintro e w' ⟨v, rfl, ho, hb⟩
 obtain ⟨x, q, rfl, h1, h2, h3, h4⟩ := own_en ho
 exact ⟨x, q, rfl, h1, h2, h4, h3, hb⟩
theorem aft_take (l : List StM) (t : Int) (j : Nat) (h : j < l.length) : aftS (l.take (j + 1)) t = aftS (l.take j) t ++ (if t < l[j].t then [l[j]] else []) := by
 unfold aftS
 rw [List.take_succ_eq_append_getElem h, List.filter_append, List.filter_cons, List.filter_nil]
 by_cases h1 : t < l[j].t <;> simp [h1]
theorem aft_len (l : List StM) (t : Int) (j : Nat) : (aftS (l.take j) t).length ≤ j := by
 unfold aftS
 exact Nat.le_trans (List.length_filter_le _ _) (by simp; omega)
set_option maxHeartbeats 2000000 in
theorem after_any (a : Option Addr) (c : Nat) (l : List StM) (t : Int) (w : World) (hr : StSl w a l) (hl : l.length ≤ 1000000) :
  Calls Tryz.prog 130 #[.slice a l.length c, .int .i64 t] w fun e w' => ∃ (v : Value), e = .returned v ∧ w'.ownsRow w.heap.size 111 4 v (aftS l t).length (sts (aftS l t)) ∧ Below w.heap.size w w' := by
 obtain ⟨i0, hi, hz0, hz1, hz2⟩ := info_parts infoStay
 have HR := Lib.hid hr
 clear hr
 go_enter Tryz.func130, Tryz.ntmps130
 go_wp2
 go_loopw [5, 10] (fun v i wr => ∃ (j : Nat), j ≤ l.length ∧ i = .int .i64 j ∧ Hid (wr.ownsRow w.heap.size 111 4 v (aftS (l.take j) t).length (sts (aftS (l.take j) t))) ∧ Hid (Below w.heap.size w wr)) (fun _ i _ => l.length - (intOf i).toNat)
 case atStart => exact ⟨0, by omega, rfl, ⟨rfl, .inl ⟨rfl, rfl⟩⟩, Below.refl _ _⟩
 case round =>
  obtain ⟨j, hj, rfl, HO, HB⟩ := hrel
  by_cases hjl : j < l.length
  ·obtain ⟨b, off, rfl, hbl, hc0, hc1, hc2, hc3⟩ := (HR.out.below HB.out).at_ hjl
   have HC := Lib.hid (aft_take l t j hjl)
   have HLN : Hid ((aftS (l.take j) t).length ≤ j) := aft_len l t j
   generalize l[j] = x at *
   generalize aftS (l.take j) t = m at *
   by_cases h : t < x.t
   ·have hd := decide_eq_true h
    have HC2 : Hid (aftS (l.take (j + 1)) t = m ++ [x]) := by have := HC.out; rwa [if_pos h] at this
    have HO2 := Lib.hid (own_below HO.out (below_two wr (.cells #[.int .i64 x.f, .int .i64 x.t, .int .i64 x.n, .int .i64 x.s] 111) (.cells #[.int .i64 x.f, .int .i64 x.t, .int .i64 x.n, .int .i64 x.s] 111)))
    have HB2 : Hid (Below w.heap.size w ((wr.alloc (.cells #[.int .i64 x.f, .int .i64 x.t, .int .i64 x.n, .int .i64 x.s] 111)).alloc (.cells #[.int .i64 x.f, .int .i64 x.t, .int .i64 x.n, .int .i64 x.s] 111))) := HB.out.trans ((below_two wr (.cells #[.int .i64 x.f, .int .i64 x.t, .int .i64 x.n, .int .i64 x.s] 111) (.cells #[.int .i64 x.f, .int .i64 x.t, .int .i64 x.n, .int .i64 x.s] 111)).mono HB.out.size)
    have HS2 := Lib.hid HB2.out.size
    have hlm := HLN.out
    go_wp2_with (at_builtin; refine wpList_append_own _ rfl (.tmp 19) (.tmp 21) 69 rfl w.heap.size 111 i0 _ 4 32 Tryz.underlying69 hi hz0 hz1 hz2 rfl (by decide) _ _ _ rfl HO2.out ⟨wr.heap.size + 1, 0, none⟩ 1 1 [.int .i64 x.f, .int .i64 x.t, .int .i64 x.n, .int .i64 x.s] rfl rfl (news_at _ _ _ _ (size1 _ _).symm) (four_one _ _ _ _) (by unfold maxLen; omega) (by omega) HS2.out ?_; intro v' w3 hown' hgrow hiff)
    have HB3 := Lib.hid (app_below HB2.out HS2.out HO2.out hgrow)
    have HO3 := Lib.hid hown'
    clear hown' hgrow hiff HB2 HS2 HO2
    go_wp2
    go_roundw
    case rel => exact ⟨j + 1, by omega, by go_num, (by unfold Hid; rw [HC2.out, List.length_append, sts_snoc]; exact HO3.out), HB3⟩
    case measure => simp [intOf]; omega
   ·have hd := decide_eq_false h
    have HC2 : Hid (aftS (l.take (j + 1)) t = m) := by have := HC.out; rwa [if_neg h, List.append_nil] at this
    go_wp2
    go_roundw
    case rel => exact ⟨j + 1, by omega, by go_num, (by unfold Hid; rw [HC2.out]; exact (own_below HO.out (below_one wr (.cells #[.int .i64 x.f, .int .i64 x.t, .int .i64 x.n, .int .i64 x.s] 111)))), (HB.out.trans ((below_one wr (.cells #[.int .i64 x.f, .int .i64 x.t, .int .i64 x.n, .int .i64 x.s] 111)).mono HB.out.size))⟩
    case measure => simp [intOf]; omega
  ·obtain rfl : j = l.length := by omega
   rw [List.take_of_length_le (Nat.le_refl _)] at HO
   go_wp2
   go_ret
   exact ⟨_, rfl, HO.out, HB.out⟩
end Go.Proofs.YtmfpjapiijgdgaaGreat
namespace Go.Proofs.YtmfpjapiijgdgaaGreat
open Go.RowKit Go.Proofs
set_option linter.unusedVariables false
set_option maxRecDepth 100000
set_option maxRecDepth 100000
theorem own_from {w : World} {B B' : Nat} {e : TypeId} {k n : Nat} {v : Value} {xs : List Value} (h : w.ownsRow B e k v n xs) (hb : B' ≤ B) : w.ownsRow B' e k v n xs :=
 ⟨h.1, h.2.imp id fun ⟨g, cap, cur, h1, h2, h3⟩ => ⟨g, cap, cur, h1, Nat.le_trans hb h2, h3⟩⟩
theorem s_after11 (a : Option Addr) (c : Nat) (l : List StM) (t : Int) (u : ByteArray) (W : World) (h : StSl W a l) (hl : l.length ≤ 1000) : Calls Tryz.prog 130 #[.slice a l.length c, .int .i64 t] W fun e w' => ∃ x q, e = .returned (.slice x (aftS l t).length q) ∧ OwnSt w' W.heap.size ⟨u, x, aftS l t, q⟩ ∧ Below W.heap.size W w' := by
 refine Calls.mono (after_any a c l t W h ?_) ?_
 ·omega
 rintro e w' ⟨v, rfl, ho, hb⟩
 obtain ⟨x, q, rfl, h1, h2, h3, h4⟩ := own_st ho
 exact ⟨x, q, rfl, ho, hb⟩
theorem stay_user : 108 ≠ 111 := by decide
theorem pruneU_next (l : List UsM) (t : Int) (j : Nat) (h : j < l.length) : pruneU (l.take (j + 1)) t = pruneU (l.take j) t ++ (if (aftS l[j].l t).isEmpty = true then [] else [⟨l[j].u, aftS l[j].l t⟩]) := by
 unfold pruneU
 rw [List.take_succ_eq_append_getElem h, List.map_append, List.filter_append]
 congr 1
 rw [List.map_cons, List.map_nil, List.filter_cons]
 cases (aftS l[j].l t).isEmpty <;> rfl
set_option maxHeartbeats 8000000 in
theorem prune_any11 (x : SaL) (w : World) (h : SaAt w x) (hr : RightS x.m) (hc : stCnt x.m ≤ 220) :
  Calls Tryz.prog 61 #[saV x] w (Is w (pruneS x.m)) := by
 obtain ⟨HK, HZ⟩ := two_SB h 39 39
 obtain ⟨i0, hi, hz0, hz1, hz2⟩ := info_parts infoUs
 have hf := few_of hr hc
 have HS := Lib.hid HK
 have HZZ := Lib.hid HZ
 have HCP := Lib.hid (fun V (y : SaL) (hm : y.m = pruneS x.m) (hy : SaAt V y) => copied_any y V hy (hm ▸ few_of (right_prune hr) (n := 10000) (by have := cnt_prune x.m; omega)))
 obtain ⟨c0, c1, c2, c3, c4, c5⟩ := HK.cells
 obtain ⟨now, hor, oa, op, oc, ua, us, uc, sa, su, sc, ta, tb, tc⟩ := x
 have hun : us.length ≤ 220 := by have := hf.us; unfold SaL.m at this; simp only at this; rwa [umS_len] at this
 have hst : ∀ y ∈ us, y.l.length ≤ 220 := umS_st hf.st
 have HSA := Lib.hid (fun V (h : EnSl V sa su) => e_after sa sc su hor V h (Nat.le_trans hf.su (by decide)))
 have HAF := Lib.hid (fun V (y : UsL) (hy : y ∈ us) (h : StSl V y.a y.l) => s_after11 y.a y.c y.l hor y.u V h (by have := hst y hy; omega))
 have HPN := Lib.hid (fun j (hj : j < (umS us).length) => pruneU_next (umS us) hor j hj)
 have HML := Lib.hid (umS_len us)
 have HSZ : Hid (((w.alloc (.cells (saC ⟨now, hor, oa, op, oc, ua, us, uc, sa, su, sc, ta, tb, tc⟩) 39)).alloc (.cells (saC saO) 39)).heap.size = w.heap.size + 2) := by unfold Hid; rw [size1, size1]
 unfold saV saC at *
 dsimp only at *
 clear h hr hc HK HZ hf hst
 go_enter Tryz.func61, Tryz.ntmps61
 go_wp2
 obtain ⟨T, hT⟩ : ∃ T, T = ((w.alloc (.cells #[.int .i64 now, .int .i64 hor, .slice oa op.length oc, .slice ua us.length uc, .slice sa su.length sc, .slice ta tb.length tc] 39)).alloc (.cells #[.int .i64 0, .int .i64 0, .slice none 0 0, .slice none 0 0, .slice none 0 0, .slice none 0 0] 39)) := ⟨_, rfl⟩
 rw [← hT]
 have HS1 : Hid (SB w w.heap.size 39 ⟨now, hor, oa, op, oc, ua, us, uc, sa, su, sc, ta, tb, tc⟩ T) := by rw [hT]; exact HS.out
 have HZ1 : Hid (SB w (w.heap.size + 1) 39 saO T) := by rw [hT]; exact HZZ.out
 have hsz : T.heap.size = w.heap.size + 2 := by rw [hT]; exact HSZ.out
 have HSZ1 := Lib.hid hsz
 clear HS HZZ HSZ hT c0 c1 c2 c3 c4 c5 hsz
 go_loopw [3, 10] (fun v iv wr => ∃ (j : Nat) (D : List UsL), j ≤ us.length ∧ iv = .int .i64 j ∧ D.length ≤ j ∧ Hid (wr.ownsRow T.heap.size 108 2 v D.length (usv D)) ∧ Hid (∀ y ∈ D, OwnSt wr T.heap.size y) ∧ Hid (umS D = pruneU ((umS us).take j) hor) ∧ Hid (Below T.heap.size T wr)) (fun _ iv _ => us.length - (intOf iv).toNat)
 case atStart => exact ⟨0, [], by omega, rfl, Nat.le_refl _, ⟨rfl, .inl ⟨rfl, rfl⟩⟩, (fun y hy => by cases hy), rfl, Below.refl _ _⟩
 case round =>
  obtain ⟨j, D, hj, rfl, hD, HO, HD, HM, HB⟩ := hrel
  by_cases hjl : j < us.length
  ·have hS := HS1.out.below HB.out
   obtain ⟨b, off, rfl, hbl, r0, r1, hat⟩ := hS.at_.us.get hjl
   have hb1 := below_one wr (.cells #[.string us[j].u, .slice us[j].a us[j].l.length us[j].c] 108)
   obtain ⟨-, d1, -, -, -, -⟩ := hS.cells
   have hgl := hS.lt
   have HPJ : Hid (pruneU ((umS us).take (j + 1)) hor = pruneU ((umS us).take j) hor ++ (if (aftS us[j].l hor).isEmpty = true then [] else [⟨us[j].u, aftS us[j].l hor⟩])) := by
    have := HPN.out j (by rw [HML.out]; exact hjl)
    rw [show (umS us)[j]'(by rw [HML.out]; exact hjl) = (us[j]).m by simp [umS]] at this
    exact this
   have HCA := Lib.hid (HAF.out _ us[j] (List.getElem_mem hjl) (hat.st.below hb1))
   have HO1 := Lib.hid (own_below HO.out hb1)
   have HD1 : Hid (∀ y ∈ D, OwnSt (wr.alloc (.cells #[.string us[j].u, .slice us[j].a us[j].l.length us[j].c] 108)) T.heap.size y) := fun y hy => own_below (HD.out y hy) hb1
   have HB1 := Lib.hid (HB.out.trans (hb1.mono HB.out.size))
   have HBK := Lib.hid (heap_alloc_new wr (.cells #[.string us[j].u, .slice us[j].a us[j].l.length us[j].c] 108))
   have hzl : wr.heap.size < (wr.alloc (.cells #[.string us[j].u, .slice us[j].a us[j].l.length us[j].c] 108)).heap.size := by rw [size1]; omega
   have HZL := Lib.hid hzl
   clear hb1 HO HD HB HAF HPN hat hS hzl
   generalize us[j] = y at *
   go_wp2_with fail
   refine HCA.out.mono ?_
   rintro e w1 ⟨x1, q1, rfl, l1, h1⟩
   have hu : w1.cell? ⟨wr.heap.size, 0, none⟩ = some (.string y.u) := (pcell2 ((h1.block _ HZL.out).trans HBK.out)).1
   have hul := Nat.lt_of_lt_of_le HZL.out h1.size
   have HO2 := Lib.hid (own_below HO1.out h1)
   have HD2 : Hid (∀ y ∈ D, OwnSt w1 T.heap.size y) := fun y hy => own_below (HD1.out y hy) h1
   have HB2 := Lib.hid (HB1.out.trans (h1.mono HB1.out.size))
   have HL1 := Lib.hid (own_from l1 HB1.out.size)
   clear HO1 HD1 HB1 HBK HCA r0 r1 d1 hgl l1 h1 HZL
   by_cases hemp : (aftS y.l hor).length = 0
   ·have HN : Hid (umS D = pruneU ((umS us).take (j + 1)) hor) := by
     unfold Hid
     rw [HPJ.out, if_pos (by rw [List.isEmpty_iff]; exact List.eq_nil_of_length_eq_zero hemp), List.append_nil]
     exact HM.out
    clear HPJ HM
    go_wp2
    go_roundw
    case rel => exact ⟨j + 1, D, by omega, by go_num, by omega, HO2.out, HD2.out, HN.out, HB2.out⟩
    case measure => simp [intOf]; omega
   ·have HN : Hid (umS (D ++ [(⟨y.u, x1, aftS y.l hor, q1⟩ : UsL)]) = pruneU ((umS us).take (j + 1)) hor) := by
     unfold Hid
     rw [HPJ.out, if_neg (by rw [List.isEmpty_iff]; intro e; rw [e] at hemp; exact hemp rfl), ← HM.out]
     unfold umS
     rw [List.map_append]
     rfl
    have hb2 := below_one w1 (.cells #[.string y.u, .slice x1 (aftS y.l hor).length q1] 108)
    have HO3 := Lib.hid (own_below HO2.out hb2)
    have HB3 := Lib.hid (HB2.out.trans (hb2.mono HB2.out.size))
    have HS3 := Lib.hid HB3.out.size
    have HD3 : Hid (∀ z ∈ D ++ [(⟨y.u, x1, aftS y.l hor, q1⟩ : UsL)], OwnSt (w1.alloc (.cells #[.string y.u, .slice x1 (aftS y.l hor).length q1] 108)) T.heap.size z) := fun z hz => by
     rcases List.mem_append.1 hz with h | h
     ·exact own_below (HD2.out z h) hb2
     ·rw [List.mem_singleton.1 h]; exact own_below HL1.out hb2
    have hlen : (D ++ [(⟨y.u, x1, aftS y.l hor, q1⟩ : UsL)]).length ≤ j + 1 := by rw [List.length_append, List.length_singleton]; omega
    have hpos : 0 < (aftS y.l hor).length := by omega
    clear HPJ HM hb2
    go_wp2_with (at_builtin; refine wpList_append_own _ rfl (.tmp 22) (.tmp 27) 35 rfl T.heap.size 108 i0 _ 2 40 Tryz.underlying35 hi hz0 hz1 hz2 rfl (by decide) _ _ _ rfl HO3.out ⟨w1.heap.size, 0, none⟩ 1 1 [.string y.u, .slice x1 (aftS y.l hor).length q1] rfl rfl (news_at _ _ _ _ rfl) (by intro u hu; simp at hu; rcases hu with rfl | rfl <;> rfl) (by unfold maxLen; omega) (by omega) HS3.out ?_; intro v' w2 hown' hgrow hiff)
    have HB4 := Lib.hid (app_below HB3.out HS3.out HO3.out hgrow)
    have HO4 : Hid (w2.ownsRow T.heap.size 108 2 v' (D ++ [(⟨y.u, x1, aftS y.l hor, q1⟩ : UsL)]).length (usv (D ++ [(⟨y.u, x1, aftS y.l hor, q1⟩ : UsL)]))) := by unfold Hid; rw [usv_snoc, List.length_append]; exact hown'
    have HD4 : Hid (∀ z ∈ D ++ [(⟨y.u, x1, aftS y.l hor, q1⟩ : UsL)], OwnSt w2 T.heap.size z) := fun z hz => own_grown HO3.out (HD3.out z hz) stay_user hgrow
    clear hown' hgrow hiff HO2 HD2 HB2 HO3 HD3 HB3 HS3 HL1 hu hul
    go_wp2
    go_roundw
    case rel => exact ⟨j + 1, D ++ [(⟨y.u, x1, aftS y.l hor, q1⟩ : UsL)], by omega, by go_num, hlen, HO4.out, HD4.out, HN.out, HB4.out⟩
    case measure => simp [intOf]; omega
  ·obtain rfl : j = us.length := by omega
   have hS := HS1.out.below HB.out
   have hZ := HZ1.out.below HB.out
   rw [List.take_of_length_le (by rw [HML.out]; exact Nat.le_refl _)] at HM
   obtain ⟨xu, qu, rfl, hlu, hmu, hru, hnu⟩ := own_us (D := D) HO.out
   have hUS : UsSl wr xu D := ⟨hru, fun y hy => (HD.out y hy).at_⟩
   have HU := Lib.hid (And.intro hUS (Cp.mk hlu hmu hnu))
   have HK1 := Lib.hid hS
   have HZ2 := Lib.hid hZ
   obtain ⟨c0, c1, c2, c3, c4, c5⟩ := hS.cells
   dsimp only at *
   clear hS hZ hUS HO HD HB HAF HPN hru HS1 HZ1 HSZ1 HML
   go_wp2_with fail
   refine (HSA.out _ HK1.out.at_.su).mono ?_
   rintro e w1 ⟨x3, q3, rfl, i3, j3, k3, l3, h3⟩
   have A1 := HK1.out.below h3
   have B1 := HZ2.out.below h3
   have A2 := A1.setUs rfl (HU.out.1.below h3) HU.out.2
   have A3 := A2.setSu rfl (l3.setB A1.blk 3 (.slice xu D.length qu)) ⟨i3, j3, k3⟩
   have B2 := B1.far A1 (by omega) 3 (.slice xu D.length qu)
   have B3 := B2.far A2 (by omega) 4 (.slice x3 (su.filter (afE hor)).length q3)
   have hym : (⟨now, hor, oa, op, oc, xu, D, qu, x3, su.filter (afE hor), q3, ta, tb, tc⟩ : SaL).m = pruneS (⟨now, hor, oa, op, oc, ua, us, uc, sa, su, sc, ta, tb, tc⟩ : SaL).m := by
    unfold SaL.m pruneS
    simp only
    rw [HM.out]
    rfl
   have HCY := Lib.hid (fun V (hy : SaAt V _) => HCP.out V _ hym hy)
   have HYM := Lib.hid hym
   have HA := Lib.hid A3
   have HBB := Lib.hid B3
   clear c0 c1 c2 c3 c4 c5
   obtain ⟨c0, c1, c2, c3, c4, c5⟩ := A1.cells
   obtain ⟨f0, f1, f2, f3, f4, f5⟩ := A1.free
   have hgl := A1.lt
   obtain ⟨d0, d1, d2, d3, d4, d5⟩ := A3.cells
   dsimp only at *
   clear A1 B1 A2 A3 B2 B3 HSA HK1 HZ2 HU i3 j3 k3 l3 h3 HCP HM hym
   go_wp2_with fail
   refine (HCY.out _ HA.out.at_).mono ?_
   rintro e1 w2 ⟨y2, rfl, l1, m1, h1⟩
   have B1 := HBB.out.below h1
   have hfin := SB.finV l1 B1
   clear c0 c1 c2 c3 c4 c5 f0 f1 f2 f3 f4 f5 hgl d0 d1 d2 d3 d4 d5
   obtain ⟨c0, c1, c2, c3, c4, c5⟩ := B1.cells
   obtain ⟨f0, f1, f2, f3, f4, f5⟩ := B1.free
   have hzl := B1.lt
   have HL := Lib.hid hfin.1
   have HFN := Lib.hid (And.intro hfin.2.1 (And.intro (m1.trans HYM.out) hfin.2.2))
   obtain ⟨now2, hor2, oa2, op2, oc2, ua2, us2, uc2, sa2, su2, sc2, ta2, tb2, tc2⟩ := y2
   unfold setS saV saC at HL
   (try unfold saV at *)
   (try unfold saC at *)
   unfold saO at c0 c1 c2 c3 c4 c5
   dsimp only at *
   clear HA HBB B1 hfin l1 m1 h1 HCY HYM
   go_wp2
   refine bodyPost_ret (v := saV ⟨now2, hor2, oa2, op2, oc2, ua2, us2, uc2, sa2, su2, sc2, ta2, tb2, tc2⟩) ?_ rfl ⟨_, rfl, HFN.out⟩
   rw [results_cell1 rfl]
   unfold saV saC
   simp [asAddr, Result.andThen, HL.out]
section
variable {M : SaM} (x y : SaL) (V : World) (h : SaAt V x) (k : SaAt V y) (hm : x.m = M) (km : y.m = M)
include h hm
theorem g_prune (hr : RightS M) (hc : stCnt M ≤ 220) : Calls Tryz.prog 61 #[saV x] V (Is V (pruneS M)) := by subst hm; exact prune_any11 x V h hr hc
include k km
end
end Go.Proofs.YtmfpjapiijgdgaaGreat
namespace Go.Proofs.YtmfpjapiijgdgaaGreat
open Go.RowKit Go.Proofs
set_option linter.unusedVariables false
set_option maxRecDepth 100000
structure S6 (w : World) (x : SaL) (q : AskM) (g : Nat) (y : SaL) (k : Nat) (z : SaL) (W : World) : Prop where
 a : S5 w x q g y W
 b : S5 w x q k z W
theorem S6.below {w W W' : World} {x : SaL} {q : AskM} {g k : Nat} {y z : SaL} (h : S6 w x q g y k z W) (b : Below W.heap.size W W') : S6 w x q g y k z W' := ⟨h.a.below b, h.b.below b⟩
theorem S6.drew {w W : World} {x : SaL} {q : AskM} {g k : Nat} {y z : SaL} (h : S6 w x q g y k z W) : S6 w x q g y k z W.drew := h.below (Below.refl _ _).drew
structure Alike13 (s : SaM) (q : AskM) (t : SaM) : Prop where
 told : ∀ m, GTold t q m → GTold s q m
 ever : ∀ m, GTold t (everM q.w q.u q.n) m → GTold s (everM q.w q.u q.n) m
 why : whyV t q.w q.u q.n = whyV s q.w q.u q.n
 few : Few t 200
theorem Alike13.self {s : SaM} (q : AskM) (h : Few s 200) : Alike13 s q s := ⟨fun _ h => h, fun _ h => h, rfl, h⟩
theorem told_prune {s : SaM} (hr : RightS s) (q : AskM) (m : List StM) (h : GTold (pruneS s) q m) : GTold s q m :=
 ⟨fun hw => range_prune hr.ur (h.1 hw), fun hw => h.2 hw⟩
theorem Alike13.prune {s : SaM} (q : AskM) (hr : RightS s) (hc : stCnt s ≤ 200) : Alike13 s q (pruneS s) :=
 ⟨told_prune hr q, told_prune hr _, rfl, few_of (right_prune hr) (Nat.le_trans (cnt_prune s) hc)⟩
theorem Alike13.last {s t : SaM} {q : AskM} (h : Alike13 s q t) {k : Int} {b : Bool} (hk : LastT t q.w q.u q.n k b) : LastT s q.w q.u q.n k b := by
 obtain ⟨m, h1, e1, e2⟩ := hk
 exact ⟨m, h.ever m h1, e1, e2⟩
end Go.Proofs.YtmfpjapiijgdgaaGreat
