/-
  Arguments that are slices of bytes.
-/
import Derived.Test.YtnnaojaadjafbaaFrArg
import Derived.Test.YtnnaojaadjafbaaCoM
set_option linter.unusedSimpArgs false
set_option linter.unusedVariables false
set_option linter.constructorNameAsVariable false
set_option maxRecDepth 20000
namespace Go.Proofs.Ytnnaojaadjafbaa
open Go.ChangeShapes Go.WideShapes Go.ChangeAt Go.RowKit Go.Deep

/-- A slice value reads as a list of bytes. -/
def Sb (w : World) (A : Option Addr) (n c : Nat) (l : List Int) : Prop :=
  (n = l.length ∧ n ≤ c ∧ c ≤ 9223372036854775807 ∧
    (0 < n → ∃ b off, A = some ⟨b, off, none⟩ ∧ ∀ i, i < n → w.cell? ⟨b, off + i, none⟩ = some (.int .u8 (nth l i)))) ∧ ∀ x ∈ l, 0 ≤ x ∧ x ≤ 255
theorem Sb.at_ {w : World} {A : Option Addr} {n c : Nat} {l : List Int} (h : Sb w A n c l) (h0 : 0 < n) : ∃ b off, A = some ⟨b, off, none⟩ ∧ b < w.heap.size ∧ ∀ i, i < n → w.cell? ⟨b, off + i, none⟩ = some (.int .u8 (nth l i)) := by
  obtain ⟨b, off, e, hc⟩ := h.1.2.2.2 h0
  exact ⟨b, off, e, World.block_lt_of_cell? w _ (hc 0 h0), hc⟩

theorem cells1B : Try.prog.cellsOf 5 = 1 := by kernel_rfl

section
variable {H : Type} {enc : TypeId × Value → H} {W : World} {r : Reach} {b0 : Nat} {v : Value} {d : DataW H} {p : List MemPlace}

theorem cells_bytes {m : Nat} {cs : List Value} {x : DataW H × List MemPlace} (t1 : DataW.trod enc Try.prog W 0 (fun _ => true) true m 51 cs = some x) :
    ∃ A n c l, cs = [.slice A n c] ∧ Sb W A n c l := by
  rcases open_ints Try.underlying51 Try.underlying5 cells1B t1 with ⟨hc, hx⟩ | ⟨a, n, c, zs, hc, _, hl, hm, hz, hx, hcell, hwf⟩
  · exact ⟨none, 0, 0, [], hc, ⟨rfl, Nat.le_refl _, by omega, fun h => by omega⟩, (by intro x hx; cases hx)⟩
  · simp only [if_true] at hz
    refine ⟨some a, n, c, zs.take n, hc, ⟨by simp [List.length_take]; omega, hl, by unfold maxLen at hm; omega, fun h0 => ?_⟩, (by intro x hx; exact bounds_u8 (hwf x (List.mem_of_mem_take hx)))⟩
    obtain ⟨bb, off, spot⟩ := a
    have hspot : spot = none := by simpa [Addr.add] using World.cell?_spot (hcell 0 (by omega))
    subst hspot
    refine ⟨bb, off, rfl, fun i hi => ?_⟩
    have hci := hcell i (by omega)
    rw [nth_take hi]
    have hadd : ((⟨bb, off, none⟩ : Addr).add i) = ⟨bb, off + i, none⟩ := by
      unfold Addr.add
      by_cases h0 : i = 0 <;> simp [h0]
    rw [hadd] at hci
    exact hci

/-- An argument of type []byte. -/
theorem arg_bytes8 (hv : Value.okWide Try.prog W r b0 51 v) (h : DataW.Trod enc Try.prog W 0 (fun _ => true) true 51 v d p) :
    ∃ A n c l, v = .slice A n c ∧ Sb W A n c l := by
  obtain ⟨fuel, hf⟩ := h
  obtain ⟨A, n, c, l, he, hs⟩ := cells_bytes hf
  refine ⟨A, n, c, l, ?_, hs⟩
  have hk := hv
  unfold Value.okWide at hk
  rw [Try.underlying51] at hk
  simp only [Cell.okWide, Try.underlying51, Cell.ok] at hk
  cases v <;> simp_all [Value.cells]
end

end Go.Proofs.Ytnnaojaadjafbaa
