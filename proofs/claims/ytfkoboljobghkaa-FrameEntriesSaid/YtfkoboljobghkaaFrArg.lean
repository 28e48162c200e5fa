/-
  Arguments that are rasters, arrays and slices of ints.
-/
import Derived.Test.YtfkoboljobghkaaRaMem
import Derived.WalkKit
import Derived.ProofKit
import Derived.OpenShut
import Derived.Carry
import Derived.Lib.SmallJoins
import Derived.Deep.DeepHandedRow
import Derived.Deep.Slices
set_option linter.unusedSimpArgs false
set_option linter.unusedVariables false
set_option linter.constructorNameAsVariable false
set_option maxRecDepth 20000
namespace Go.Proofs.Ytfkoboljobghkaa
open Go.ChangeShapes Go.WideShapes Go.ChangeAt Go.RowKit Go.Deep

theorem own : ownKnob Try.prog.godebug = none := by kernel_rfl
theorem laidOut : laidOutB Try.prog = true := by kernel_rfl
theorem cellsRas : Try.prog.cellsOf 25 = 4 := by kernel_rfl
theorem cellsI : Try.prog.cellsOf 3 = 1 := by kernel_rfl
theorem oneRas : ∃ f0 f1 f2 f3, Try.prog.underlying 25 = some (.struct #[f0, f1, f2, f3]) ∧ oneCellFields Try.prog #[f0, f1, f2, f3] = true ∧ f0.type = 3 ∧ f1.type = 3 ∧ f2.type = 3 ∧ f3.type = 23 :=
  ⟨_, _, _, _, Try.underlying25, by kernel_rfl, rfl, rfl, rfl, rfl⟩

section
variable {H : Type} {enc : TypeId × Value → H} {W : World} {r : Reach} {b0 : Nat} {v : Value} {d : DataW H} {p : List MemPlace}

/-- A slice of ints as the reader reads it. -/
theorem cells_ints {m : Nat} {cs : List Value} {x : DataW H × List MemPlace} (t1 : DataW.trod enc Try.prog W 0 (fun _ => true) true m 23 cs = some x) :
    ∃ A n c l, cs = [.slice A n c] ∧ Sl W A n c l ∧ (A = none → c = 0) := by
  rcases open_ints Try.underlying23 Try.underlying3 cellsI t1 with ⟨hc, hx⟩ | ⟨a, n, c, zs, hc, _, hl, hm, hz, hx, hcell, hwf⟩
  · exact ⟨none, 0, 0, [], hc, Sl.nil W, fun _ => rfl⟩
  · simp only [if_true] at hz
    refine ⟨some a, n, c, zs.take n, hc, ⟨by simp [List.length_take]; omega, hl, by unfold maxLen at hm; omega, fun h0 => ?_⟩, fun e => by cases e⟩
    obtain ⟨bb, off, spot⟩ := a
    have hspot : spot = none := by simpa [Addr.add] using World.cell?_spot (hcell 0 (by omega))
    subst hspot
    refine ⟨bb, off, rfl, fun i hi => ?_⟩
    have hci := hcell i (by omega)
    rw [nth_take hi]
    have hadd : ((⟨bb, off, none⟩ : Addr).add i) = ⟨bb, off + i, none⟩ := by
      unfold Addr.add
      by_cases h0 : i = 0 <;> simp [h0]
    rw [hadd] at hci
    exact hci

/-- An argument of type []int. -/
theorem arg_ints (hv : Value.okWide Try.prog W r b0 23 v) (h : DataW.Trod enc Try.prog W 0 (fun _ => true) true 23 v d p) :
    ∃ A n c l, v = .slice A n c ∧ Sl W A n c l ∧ (A = none → c = 0) := by
  obtain ⟨fuel, hf⟩ := h
  obtain ⟨A, n, c, l, he, hs, hA⟩ := cells_ints hf
  refine ⟨A, n, c, l, ?_, hs, hA⟩
  have hk := hv
  unfold Value.okWide at hk
  rw [Try.underlying23] at hk
  simp only [Cell.okWide, Try.underlying23, Cell.ok] at hk
  cases v <;> simp_all [Value.cells]

set_option maxRecDepth 100000 in
/-- An argument of type Raster. -/
theorem arg_ras (hv : Value.okWide Try.prog W r b0 25 v) (h : DataW.Trod enc Try.prog W 0 (fun _ => true) true 25 v d p) :
    ∃ W1 H1 M1 A n c P, v = .agg #[.int .i64 W1, .int .i64 H1, .int .i64 M1, .slice A n c] ∧ Sl W A n c P ∧ (A = none → c = 0) := by
  obtain ⟨f0, f1, f2, f3, hu, hone, h0, h1, h2, h3⟩ := oneRas
  obtain ⟨v0, v1, v2, v3, y0, y1, y2, y3, m, rfl, rfl, rfl, t0, t1, t2, t3⟩ := Joins.open_agg4 hu hone cellsRas hv h
  rw [h0] at t0
  rw [h1] at t1
  rw [h2] at t2
  rw [h3] at t3
  obtain ⟨z0, e0, -⟩ := DataW.trod_int Try.underlying3 t0
  obtain ⟨z1, e1, -⟩ := DataW.trod_int Try.underlying3 t1
  obtain ⟨z2, e2, -⟩ := DataW.trod_int Try.underlying3 t2
  simp only [List.cons.injEq, and_true] at e0 e1 e2
  subst e0 e1 e2
  obtain ⟨A, n, c, l, e3, hs, hA⟩ := cells_ints t3
  simp only [List.cons.injEq, and_true] at e3
  subst e3
  exact ⟨z0, z1, z2, A, n, c, l, rfl, hs, hA⟩

end

end Go.Proofs.Ytfkoboljobghkaa
