/- Texts of mine, one behind the other, of each what is wanted. -/
import Derived.Test.YtapacckmgmdnoaaGreatR00
import Derived.Test.YtapacckmgmdnoaaGreatShelf
import Derived.Test.YtapacckmgmdnoaaGreatRows
import Derived.Test.YtapacckmgmdnoaaGreatR01
import Derived.Test.YtapacckmgmdnoaaGreatR03
import Derived.Test.YtapacckmgmdnoaaGreatR04
import Derived.Test.YtapacckmgmdnoaaGreatR18
import Derived.Test.YtapacckmgmdnoaaGreatR22
import Derived.Test.YtapacckmgmdnoaaGreatR23
namespace Go.Proofs.YtapacckmgmdnoaaGreat
open Go.RowKit Go.Proofs
set_option linter.unusedVariables false
set_option maxRecDepth 100000
set_option maxRecDepth 100000
theorem umS_snoc (E : List UsL) (y : UsL) : umS (E ++ [y]) = umS E ++ [y.m] := by unfold umS; rw [List.map_append]; rfl
theorem rcmp11 (a b : ByteArray) (w : World) (ha : a.size ≤ maxLen) (hb : b.size ≤ maxLen) :
  Calls Tryz.prog 69 #[.string a, .string b] w fun e w' => e = .returned (.int .i64 (cmpS a b)) ∧ Below w.heap.size w w' :=
 (refCmp_any a b w ha hb).mono fun e w' ⟨h1, h2⟩ => ⟨h1, Drew.below h2 _⟩
theorem tbv_snoc (D : List TbM) (y : TbM) : tbv (D ++ [y]) = tbv D ++ [.string y.u, .int .i64 y.a] := by
 unfold tbv
 rw [List.map_append]
 exact pps_snoc _ _
theorem few_us {x : SaL} {n : Nat} (hf : Few x.m n) : x.us.length ≤ n := by have := hf.us; unfold SaL.m at this; simp only at this; rwa [umS_len] at this
end Go.Proofs.YtapacckmgmdnoaaGreat
