/- Texts of mine, one behind the other, of each what is wanted. -/
import Derived.Test.YtmfpjapiijgdgaaGreatQ00
import Derived.Test.YtmfpjapiijgdgaaGreatQ01
import Derived.Test.YtmfpjapiijgdgaaGreatQ04
import Derived.Test.YtmfpjapiijgdgaaGreatQ06
namespace Go.Proofs.YtmfpjapiijgdgaaGreat
set_option linter.unusedVariables false
def AllT (s : SaM) (l : List EvM) : Prop := ∀ x ∈ errsE s l, x = 0
theorem taken_again : ∀ (l : List EvM) (s : SaM), foldE s (takenE s l) = foldE s l ∧ AllT s (takenE s l) ∧ takenE s (takenE s l) = takenE s l
 | [], _ => ⟨rfl, (fun x hx => by cases hx), rfl⟩
 | e :: l, s => by
  by_cases h : errE s e = 0
  ·obtain ⟨h1, h2, h3⟩ := taken_again l (goE s e)
   have e1 : takenE s (e :: l) = e :: takenE (goE s e) l := if_pos h
   rw [e1]
   refine ⟨by rw [foldE_cons, foldE_cons, nxE_ok h, h1], fun x hx => ?_, ?_⟩
   ·have hx' : x ∈ errE s e :: errsE (nxE s e) (takenE (goE s e) l) := hx
    rw [nxE_ok h] at hx'
    rcases List.mem_cons.1 hx' with rfl | hx'
    ·exact h
    ·exact h2 x hx'
   ·show (if errE s e = 0 then e :: takenE (goE s e) (takenE (goE s e) l) else _) = _
    rw [if_pos h, h3]
  ·obtain ⟨h1, h2, h3⟩ := taken_again l s
   have e1 : takenE s (e :: l) = takenE s l := if_neg h
   rw [e1]
   exact ⟨by rw [h1, foldE_cons, nxE_no h], h2, h3⟩
theorem AllT.cons {s : SaM} {e : EvM} {l : List EvM} (h : AllT s (e :: l)) : errE s e = 0 ∧ AllT (goE s e) l := by
 have h1 : errE s e = 0 := h _ (List.mem_cons_self ..)
 refine ⟨h1, fun x hx => h x ?_⟩
 show x ∈ errE s e :: errsE (nxE s e) l
 rw [nxE_ok h1]
 exact List.mem_cons_of_mem _ hx
end Go.Proofs.YtmfpjapiijgdgaaGreat
