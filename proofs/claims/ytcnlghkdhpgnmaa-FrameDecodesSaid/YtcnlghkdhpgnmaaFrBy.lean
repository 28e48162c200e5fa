/-
  Arguments that are slices of bytes.
-/
import Derived.Test.YtcnlghkdhpgnmaaFrArg
import Derived.Test.YtcnlghkdhpgnmaaFrMt
set_option linter.unusedSimpArgs false
set_option linter.unusedVariables false
set_option linter.constructorNameAsVariable false
set_option maxRecDepth 20000
namespace Go.Proofs.Ytcnlghkdhpgnmaa
open Go.ChangeShapes Go.WideShapes Go.ChangeAt Go.RowKit Go.Deep

theorem cells1B : Try.prog.cellsOf 5 = 1 := by kernel_rfl

section
variable {H : Type} {enc : TypeId × Value → H} {W : World} {r : Reach} {b0 : Nat} {v : Value} {d : DataW H} {p : List MemPlace}

theorem cells_bytes {m : Nat} {cs : List Value} {x : DataW H × List MemPlace} (t1 : DataW.trod enc Try.prog W 0 (fun _ => true) true m 53 cs = some x) :
    ∃ A n c l, cs = [.slice A n c] ∧ Sb W A n c l ∧ Byt l ∧ (A = none → c = 0) := by
  rcases open_ints Try.underlying53 Try.underlying5 cells1B t1 with ⟨hc, hx⟩ | ⟨a, n, c, zs, hc, _, hl, hm, hz, hx, hcell, hwf⟩
  · exact ⟨none, 0, 0, [], hc, ⟨rfl, Nat.le_refl _, by omega, fun h => by omega⟩, (by intro x hx; cases hx), fun _ => rfl⟩
  · simp only [if_true] at hz
    refine ⟨some a, n, c, zs.take n, hc, ⟨by simp [List.length_take]; omega, hl, by unfold maxLen at hm; omega, fun h0 => ?_⟩, (by intro x hx; exact bounds_u8 (hwf x (List.mem_of_mem_take hx))), fun e => by cases e⟩
    obtain ⟨bb, off, spot⟩ := a
    have hspot : spot = none := by simpa [Addr.add] using World.cell?_spot (hcell 0 (by omega))
    subst hspot
    refine ⟨bb, off, rfl, fun i hi => ?_⟩
    have hci := hcell i (by omega)
    rw [nth_take hi]
    have hadd : ((⟨bb, off, none⟩ : Addr).add i) = ⟨bb, off + i, none⟩ := by
      unfold Addr.add
      by_cases h0 : i = 0 <;> simp [h0]
    rw [hadd] at hci
    exact hci

/-- An argument of type []byte. -/
theorem arg_bytes (hv : Value.okWide Try.prog W r b0 53 v) (h : DataW.Trod enc Try.prog W 0 (fun _ => true) true 53 v d p) :
    ∃ A n c l, v = .slice A n c ∧ Tl W W (.slice A n c) l ∧ Byt l := by
  obtain ⟨fuel, hf⟩ := h
  obtain ⟨A, n, c, l, he, hs, hb, hA⟩ := cells_bytes hf
  refine ⟨A, n, c, l, ?_, ⟨A, n, c, rfl, hs, hA, fun h0 b off e => ?_⟩, hb⟩
  · have hk := hv
    unfold Value.okWide at hk
    rw [Try.underlying53] at hk
    simp only [Cell.okWide, Try.underlying53, Cell.ok] at hk
    cases v <;> simp_all [Value.cells]
  · obtain ⟨b', off', e', hlt, _⟩ := hs.at_ h0
    rw [e] at e'
    cases e'
    exact hlt
end

end Go.Proofs.Ytcnlghkdhpgnmaa
