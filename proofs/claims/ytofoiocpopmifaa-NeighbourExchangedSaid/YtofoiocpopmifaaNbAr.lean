/-
  Arguments that are arrays of four bytes.
-/
import Derived.Test.YtofoiocpopmifaaNbArg
set_option linter.unusedSimpArgs false
set_option linter.unusedVariables false
set_option linter.constructorNameAsVariable false
set_option maxRecDepth 20000
namespace Go.Proofs.Ytofoiocpopmifaa
open Go.ChangeShapes Go.WideShapes Go.ChangeAt Go.RowKit Go.Deep

theorem cells1B : Try.prog.cellsOf 5 = 1 := by kernel_rfl
section
variable {H : Type} {enc : TypeId × Value → H} {W : World} {r : Reach} {b0 : Nat} {v : Value} {d : DataW H} {p : List MemPlace}
theorem arg_arr_u8 {n : Nat} {t : TypeId} (ht : Try.prog.underlying t = some (.array n 5)) (hC : Try.prog.cellsOf t = n) (hv : Value.okWide Try.prog W r b0 t v) (h : DataW.Trod enc Try.prog W 0 (fun _ => true) true t v d p) :
    ∃ cs : Array Value, v = .agg cs ∧ cs.size = n ∧ ∀ i, i < n → ∃ z, cs[i]? = some (.int .u8 z) ∧ 0 ≤ z ∧ z ≤ 255 := by
  unfold Value.okWide at hv
  rw [ht] at hv
  obtain ⟨cs, rfl, hsz, -⟩ := hv
  rw [hC] at hsz
  refine ⟨cs, rfl, hsz, fun i hi => ?_⟩
  obtain ⟨fuel, hf⟩ := h
  obtain ⟨xs, m, -, -, hlen, hxl, hel⟩ := DataW.trod_array ht hf
  have h1 := hel i hi
  rw [cells1B, Nat.mul_one, List.getElem?_eq_getElem (by omega)] at h1
  obtain ⟨z, e, -, hwf⟩ := DataW.trod_int Try.underlying5 h1
  refine ⟨z, ?_, bounds_u8 hwf⟩
  have hi' : i < (Value.agg cs).cells.toList.length := by rw [hlen, hC]; exact hi
  rw [List.drop_eq_getElem_cons hi', List.take_succ_cons, List.take_zero] at e
  simp only [List.cons.injEq, and_true] at e
  rw [← e]
  simp [Value.cells]
theorem arg_arr4b (hv : Value.okWide Try.prog W r b0 56 v) (h : DataW.Trod enc Try.prog W 0 (fun _ => true) true 56 v d p) :
    ∃ a b c e, v = .agg #[.int .u8 a, .int .u8 b, .int .u8 c, .int .u8 e] ∧ (0 ≤ a ∧ a ≤ 255) ∧ (0 ≤ b ∧ b ≤ 255) ∧ (0 ≤ c ∧ c ≤ 255) ∧ (0 ≤ e ∧ e ≤ 255) := by
  obtain ⟨⟨l⟩, rfl, hsz, hel⟩ := arg_arr_u8 Try.underlying56 (by kernel_rfl) hv h
  obtain ⟨a, ha, ba⟩ := hel 0 (by omega)
  obtain ⟨b, hb, bb⟩ := hel 1 (by omega)
  obtain ⟨c, hc, bc⟩ := hel 2 (by omega)
  obtain ⟨e, he, be⟩ := hel 3 (by omega)
  match l, hsz, ha, hb, hc, he with
  | [x, y, z, u], _, ha, hb, hc, he =>
    simp at ha hb hc he
    exact ⟨a, b, c, e, by rw [ha, hb, hc, he], ba, bb, bc, be⟩
end

end Go.Proofs.Ytofoiocpopmifaa
