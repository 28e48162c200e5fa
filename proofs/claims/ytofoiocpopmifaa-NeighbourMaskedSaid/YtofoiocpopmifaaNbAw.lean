/-
  Arguments that are slices of words: without an address there is no room.
-/
import Derived.Test.YtofoiocpopmifaaNbArg
import Derived.WalkKit
import Derived.ProofKit
import Derived.OpenShut
import Derived.Carry
import Derived.Lib.SmallJoins
import Derived.Deep.DeepHandedRow
import Derived.Deep.Slices
set_option linter.unusedSimpArgs false
set_option linter.unusedVariables false
set_option linter.constructorNameAsVariable false
set_option maxRecDepth 20000
namespace Go.Proofs.Ytofoiocpopmifaa
open Go.ChangeShapes Go.WideShapes Go.ChangeAt Go.RowKit Go.Deep

section
variable {H : Type} {enc : TypeId × Value → H} {W : World} {r : Reach} {b0 : Nat} {v : Value} {d : DataW H} {p : List MemPlace}

theorem cells_wordsN {m : Nat} {cs : List Value} {x : DataW H × List MemPlace} (t1 : DataW.trod enc Try.prog W 0 (fun _ => true) true m 22 cs = some x) :
    ∃ A n c l, cs = [.slice A n c] ∧ WS W A n c l ∧ (A = none → c = 0) := by
  rcases open_ints Try.underlying22 Try.underlying23 cellsU t1 with ⟨hc, hx⟩ | ⟨a, n, c, zs, hc, _, hl, hm, hz, hx, hcell, hwf⟩
  · exact ⟨none, 0, 0, [], hc, ⟨SR.nil W 1, by intro x hx; cases hx⟩, fun _ => rfl⟩
  · simp only [if_true] at hz
    obtain ⟨bb, off, spot⟩ := a
    have hbd : ∀ z ∈ zs, 0 ≤ z ∧ z ≤ 18446744073709551615 := fun z hz => bounds_u64 (hwf z hz)
    refine ⟨some ⟨bb, off, spot⟩, n, c, (zs.take n).map Int.toNat, hc, ⟨⟨by rw [ucells_length]; simp [List.length_take]; omega, hl, by unfold maxLen at hm; omega, fun h0 => ?_⟩, ?_⟩, fun h => by cases h⟩
    · have hspot : spot = none := by simpa [Addr.add] using World.cell?_spot (hcell 0 (by omega))
      subst hspot
      have hc0 := hcell 0 (by omega)
      refine ⟨bb, off, rfl, ?_, fun j u hj => ?_⟩
      · have := World.block_lt_of_cell? W _ hc0
        simpa [Addr.add] using this
      · have hj' : j < n := by
          have := (List.getElem?_eq_some_iff.1 hj).1
          rw [ucells_length, List.length_map, List.length_take] at this
          omega
        have hci := hcell j (by omega)
        have hadd : ((⟨bb, off, none⟩ : Addr).add j) = ⟨bb, off + j, none⟩ := by
          unfold Addr.add
          by_cases h0 : j = 0 <;> simp [h0]
        rw [hadd] at hci
        rw [hci, ← hj, ucells_at (by rw [List.length_map, List.length_take]; omega), nw_eq (by rw [List.length_map, List.length_take]; omega)]
        have hzj : j < zs.length := by omega
        have := hbd zs[j] (List.getElem_mem hzj)
        simp only [List.getElem_map, List.getElem_take]
        rw [Int.toNat_of_nonneg this.1]
        simp [List.getElem?_eq_getElem hzj]
    · intro x hx
      obtain ⟨z, hz', rfl⟩ := List.mem_map.1 hx
      have := hbd z (List.mem_of_mem_take hz')
      omega

/-- An argument of type []uint64. -/
theorem arg_wordsN (hv : Value.okWide Try.prog W r b0 22 v) (h : DataW.Trod enc Try.prog W 0 (fun _ => true) true 22 v d p) :
    ∃ A n c l, v = .slice A n c ∧ WS W A n c l ∧ (A = none → c = 0) := by
  obtain ⟨fuel, hf⟩ := h
  obtain ⟨A, n, c, l, he, hs⟩ := cells_wordsN hf
  refine ⟨A, n, c, l, ?_, hs⟩
  have hk := hv
  unfold Value.okWide at hk
  rw [Try.underlying22] at hk
  simp only [Cell.okWide, Try.underlying22, Cell.ok] at hk
  cases v <;> simp_all [Value.cells]

end

end Go.Proofs.Ytofoiocpopmifaa
