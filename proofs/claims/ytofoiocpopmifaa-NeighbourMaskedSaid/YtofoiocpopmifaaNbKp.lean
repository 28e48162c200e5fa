/-
  The example of the law, as the definitions say it.
-/
import Derived.Test.YtofoiocpopmifaaNbEq
import Derived.Test.YtofoiocpopmifaaNbMx
import Derived.Test.YtofoiocpopmifaaNbBu
set_option linter.unusedSimpArgs false
set_option linter.unusedVariables false
namespace Go.Proofs.Ytofoiocpopmifaa
open Go.RowKit

theorem choAt_ext {L L' : List Cho} (h : L.length = L'.length) (ha : ∀ i, i < L.length → choAt L i = choAt L' i) : L = L' := by
  apply List.ext_getElem h
  intro i h1 h2
  have := ha i h1
  rwa [choAt_eq h1, choAt_eq h2] at this
theorem Chosen.unique {l ws : List Nat} {L L' : List Cho} (h : Chosen l ws L) (h' : Chosen l ws L') : L = L' :=
  choAt_ext (by rw [h.1, h'.1]) fun i hi => by
    have := (h.2 i (by rw [← h.1]; exact hi)).unique (h'.2 i (by rw [← h.1]; exact hi))
    exact Prod.ext this.1 this.2

def kl : List Nat := [0, 3, 7]
theorem kl_words : Words kl := by unfold Words kl; decide
theorem kl5 : Near kl 5 2 1 := by unfold Near NP kl; decide +kernel
theorem kl1 : Near kl 1 0 1 := by unfold Near NP kl; decide +kernel
theorem ka_words : Words [0, 15] := by unfold Words; decide
theorem kb_words : Words [1, 7] := by unfold Words; decide
theorem kab : Chosen [1, 7] [0, 15] [(0, 1), (1, 1)] := by unfold Chosen Near NP; decide +kernel
theorem kba : Chosen [0, 15] [1, 7] [(0, 1), (1, 1)] := by unfold Chosen Near NP; decide +kernel
theorem kmat : matF [0, 15] [1, 7] 1 1 [(0, 1), (1, 1)] [(0, 1), (1, 1)] 2 = [(0, 0, 1), (1, 1, 1)] := by decide +kernel
theorem kret {l : List Mat} (h : RetM [0, 15] [1, 7] 1 1 l) : l = [(0, 0, 1), (1, 1, 1)] := by
  rcases h with ⟨h | h, _⟩ | ⟨_, _, Lc, Lb, h1, h2, rfl⟩
  · simp at h
  · simp at h
  · rw [h1.unique kab, h2.unique kba]
    exact kmat
theorem kdst : dst 6 1 = 3 := by decide +kernel

end Go.Proofs.Ytofoiocpopmifaa
