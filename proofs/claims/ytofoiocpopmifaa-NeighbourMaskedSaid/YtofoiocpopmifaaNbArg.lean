/-
  Arguments that are slices of words, arrays of two ints.
-/
import Derived.Test.YtofoiocpopmifaaNbMem
import Derived.WalkKit
import Derived.ProofKit
import Derived.OpenShut
import Derived.Carry
import Derived.Lib.SmallJoins
import Derived.Deep.DeepHandedRow
import Derived.Deep.Slices
set_option linter.unusedSimpArgs false
set_option linter.unusedVariables false
set_option linter.constructorNameAsVariable false
set_option maxRecDepth 20000
namespace Go.Proofs.Ytofoiocpopmifaa
open Go.ChangeShapes Go.WideShapes Go.ChangeAt Go.RowKit Go.Deep

theorem own : ownKnob Try.prog.godebug = none := by kernel_rfl
theorem laidOut : laidOutB Try.prog = true := by kernel_rfl
theorem cellsI : Try.prog.cellsOf 3 = 1 := by kernel_rfl
theorem cellsU : Try.prog.cellsOf 23 = 1 := by kernel_rfl

section
variable {H : Type} {enc : TypeId × Value → H} {W : World} {r : Reach} {b0 : Nat} {v : Value} {d : DataW H} {p : List MemPlace}

theorem cells_words {m : Nat} {cs : List Value} {x : DataW H × List MemPlace} (t1 : DataW.trod enc Try.prog W 0 (fun _ => true) true m 22 cs = some x) :
    ∃ A n c l, cs = [.slice A n c] ∧ WS W A n c l := by
  rcases open_ints Try.underlying22 Try.underlying23 cellsU t1 with ⟨hc, hx⟩ | ⟨a, n, c, zs, hc, _, hl, hm, hz, hx, hcell, hwf⟩
  · exact ⟨none, 0, 0, [], hc, SR.nil W 1, by intro x hx; cases hx⟩
  · simp only [if_true] at hz
    obtain ⟨bb, off, spot⟩ := a
    have hbd : ∀ z ∈ zs, 0 ≤ z ∧ z ≤ 18446744073709551615 := fun z hz => bounds_u64 (hwf z hz)
    refine ⟨some ⟨bb, off, spot⟩, n, c, (zs.take n).map Int.toNat, hc, ⟨by rw [ucells_length]; simp [List.length_take]; omega, hl, by unfold maxLen at hm; omega, fun h0 => ?_⟩, ?_⟩
    · have hspot : spot = none := by simpa [Addr.add] using World.cell?_spot (hcell 0 (by omega))
      subst hspot
      have hc0 := hcell 0 (by omega)
      refine ⟨bb, off, rfl, ?_, fun j u hj => ?_⟩
      · have := World.block_lt_of_cell? W _ hc0
        simpa [Addr.add] using this
      · have hj' : j < n := by
          have := (List.getElem?_eq_some_iff.1 hj).1
          rw [ucells_length, List.length_map, List.length_take] at this
          omega
        have hci := hcell j (by omega)
        have hadd : ((⟨bb, off, none⟩ : Addr).add j) = ⟨bb, off + j, none⟩ := by
          unfold Addr.add
          by_cases h0 : j = 0 <;> simp [h0]
        rw [hadd] at hci
        rw [hci, ← hj, ucells_at (by rw [List.length_map, List.length_take]; omega), nw_eq (by rw [List.length_map, List.length_take]; omega)]
        have hzj : j < zs.length := by omega
        have := hbd zs[j] (List.getElem_mem hzj)
        simp only [List.getElem_map, List.getElem_take]
        rw [Int.toNat_of_nonneg this.1]
        simp [List.getElem?_eq_getElem hzj]
    · intro x hx
      obtain ⟨z, hz', rfl⟩ := List.mem_map.1 hx
      have := hbd z (List.mem_of_mem_take hz')
      omega

/-- An argument of type []uint64. -/
theorem arg_words (hv : Value.okWide Try.prog W r b0 22 v) (h : DataW.Trod enc Try.prog W 0 (fun _ => true) true 22 v d p) :
    ∃ A n c l, v = .slice A n c ∧ WS W A n c l := by
  obtain ⟨fuel, hf⟩ := h
  obtain ⟨A, n, c, l, he, hs⟩ := cells_words hf
  refine ⟨A, n, c, l, ?_, hs⟩
  have hk := hv
  unfold Value.okWide at hk
  rw [Try.underlying22] at hk
  simp only [Cell.okWide, Try.underlying22, Cell.ok] at hk
  cases v <;> simp_all [Value.cells]

theorem arg_arr {n : Nat} {t : TypeId} (ht : Try.prog.underlying t = some (.array n 3)) (hC : Try.prog.cellsOf t = n) (hv : Value.okWide Try.prog W r b0 t v) (h : DataW.Trod enc Try.prog W 0 (fun _ => true) true t v d p) :
    ∃ cs : Array Value, v = .agg cs ∧ cs.size = n ∧ ∀ i, i < n → ∃ z, cs[i]? = some (.int .i64 z) ∧ -9223372036854775808 ≤ z ∧ z ≤ 9223372036854775807 := by
  unfold Value.okWide at hv
  rw [ht] at hv
  obtain ⟨cs, rfl, hsz, -⟩ := hv
  rw [hC] at hsz
  refine ⟨cs, rfl, hsz, fun i hi => ?_⟩
  obtain ⟨fuel, hf⟩ := h
  obtain ⟨xs, m, -, -, hlen, hxl, hel⟩ := DataW.trod_array ht hf
  have h1 := hel i hi
  rw [cellsI, Nat.mul_one, List.getElem?_eq_getElem (by omega)] at h1
  obtain ⟨z, e, -, hwf⟩ := DataW.trod_int Try.underlying3 h1
  refine ⟨z, ?_, bounds_i64 hwf⟩
  have hi' : i < (Value.agg cs).cells.toList.length := by rw [hlen, hC]; exact hi
  rw [List.drop_eq_getElem_cons hi', List.take_succ_cons, List.take_zero] at e
  simp only [List.cons.injEq, and_true] at e
  rw [← e]
  simp [Value.cells]
theorem arg_arr2 (hv : Value.okWide Try.prog W r b0 47 v) (h : DataW.Trod enc Try.prog W 0 (fun _ => true) true 47 v d p) :
    ∃ a b, v = .agg #[.int .i64 a, .int .i64 b] ∧ (-9223372036854775808 ≤ a ∧ a ≤ 9223372036854775807) ∧ (-9223372036854775808 ≤ b ∧ b ≤ 9223372036854775807) := by
  obtain ⟨⟨l⟩, rfl, hsz, hel⟩ := arg_arr Try.underlying47 (by kernel_rfl) hv h
  obtain ⟨a, ha, ba⟩ := hel 0 (by omega)
  obtain ⟨b, hb, bb⟩ := hel 1 (by omega)
  match l, hsz, ha, hb with
  | [x, y], _, ha, hb =>
    simp at ha hb
    exact ⟨a, b, by rw [ha, hb], ba, bb⟩
end

end Go.Proofs.Ytofoiocpopmifaa
