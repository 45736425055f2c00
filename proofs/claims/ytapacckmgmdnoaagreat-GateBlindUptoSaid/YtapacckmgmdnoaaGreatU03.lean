/- Texts of mine, one behind the other, of each what is wanted. -/
import Derived.Test.YtapacckmgmdnoaaGreatU00
import Derived.Test.YtapacckmgmdnoaaGreatU01
import Derived.Test.YtapacckmgmdnoaaGreatU02
namespace Go.Proofs.YtapacckmgmdnoaaGreat
set_option linter.unusedVariables false
set_option maxRecDepth 100000
theorem cut_perm {l m a : List StM} {P : Int → Prop} (h : l.Perm m) (ha : IsCut l P a) : IsCut m P a := by
 obtain ⟨r, h1, h2, h3⟩ := ha
 exact ⟨r, h1, h2.trans (raw_perm h r), h3⟩
theorem raw_append (a b : List StM) (r : List SpM) : rawS (a ++ b) r = rawS a r ++ rawS b r := List.flatMap_append
theorem pieces_out {P : Int → Prop} {r : List SpM} (hr : IsSet P r) {x : StM} (h : ∀ t, x.f ≤ t → t < x.t → ¬ P t) : piecesS x r = [] := by
 unfold piecesS
 rw [List.map_eq_nil_iff, List.eq_nil_iff_forall_not_mem]
 intro m hm
 obtain ⟨n, _, _, hlt⟩ := rowOf_mem hm
 have h1 := (rowOf_has x.sp m.f (r := r)).1 ⟨m, hm, Int.le_refl _, hlt⟩
 exact h m.f h1.1.1 h1.1.2 ((hr.2 _).1 h1.2)
end Go.Proofs.YtapacckmgmdnoaaGreat
