/-
  Arguments that are arrays of two ints.
-/
import Derived.Test.YtcnlghkdhpgnmaaFrArg
set_option linter.unusedSimpArgs false
set_option linter.unusedVariables false
set_option linter.constructorNameAsVariable false
set_option maxRecDepth 20000
namespace Go.Proofs.Ytcnlghkdhpgnmaa
open Go.ChangeShapes Go.WideShapes Go.ChangeAt Go.RowKit Go.Deep

section
variable {H : Type} {enc : TypeId × Value → H} {W : World} {r : Reach} {b0 : Nat} {v : Value} {d : DataW H} {p : List MemPlace}

/-- An argument that is an array of ints. -/
theorem arg_arr {n : Nat} {t : TypeId} (ht : Try.prog.underlying t = some (.array n 3)) (hC : Try.prog.cellsOf t = n) (hv : Value.okWide Try.prog W r b0 t v) (h : DataW.Trod enc Try.prog W 0 (fun _ => true) true t v d p) :
    ∃ cs : Array Value, v = .agg cs ∧ cs.size = n ∧ ∀ i, i < n → ∃ z, cs[i]? = some (.int .i64 z) ∧ -9223372036854775808 ≤ z ∧ z ≤ 9223372036854775807 := by
  unfold Value.okWide at hv
  rw [ht] at hv
  obtain ⟨cs, rfl, hsz, -⟩ := hv
  rw [hC] at hsz
  refine ⟨cs, rfl, hsz, fun i hi => ?_⟩
  obtain ⟨fuel, hf⟩ := h
  obtain ⟨xs, m, -, -, hlen, hxl, hel⟩ := DataW.trod_array ht hf
  have h1 := hel i hi
  rw [cellsI, Nat.mul_one, List.getElem?_eq_getElem (by omega)] at h1
  obtain ⟨z, e, -, hwf⟩ := DataW.trod_int Try.underlying3 h1
  refine ⟨z, ?_, bounds_i64 hwf⟩
  have hi' : i < (Value.agg cs).cells.toList.length := by rw [hlen, hC]; exact hi
  rw [List.drop_eq_getElem_cons hi', List.take_succ_cons, List.take_zero] at e
  simp only [List.cons.injEq, and_true] at e
  rw [← e]
  simp [Value.cells]
theorem arg_arr2 (hv : Value.okWide Try.prog W r b0 41 v) (h : DataW.Trod enc Try.prog W 0 (fun _ => true) true 41 v d p) :
    ∃ a b, v = .agg #[.int .i64 a, .int .i64 b] ∧ (-9223372036854775808 ≤ a ∧ a ≤ 9223372036854775807) ∧ (-9223372036854775808 ≤ b ∧ b ≤ 9223372036854775807) := by
  obtain ⟨⟨l⟩, rfl, hsz, hel⟩ := arg_arr Try.underlying41 (by kernel_rfl) hv h
  obtain ⟨a, ha, ba⟩ := hel 0 (by omega)
  obtain ⟨b, hb, bb⟩ := hel 1 (by omega)
  match l, hsz, ha, hb with
  | [x, y], _, ha, hb =>
    simp at ha hb
    exact ⟨a, b, by rw [ha, hb], ba, bb⟩
end

end Go.Proofs.Ytcnlghkdhpgnmaa
