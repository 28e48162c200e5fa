/-
  Arguments that are rasters, arrays and slices of ints.
-/
import Derived.Test.YtehnemdifkjhcaaRaMem
import Derived.WalkKit
import Derived.ProofKit
import Derived.OpenShut
import Derived.Carry
import Derived.Lib.SmallJoins
import Derived.Deep.DeepHandedRow
import Derived.Deep.Slices
set_option linter.unusedSimpArgs false
set_option linter.unusedVariables false
namespace Go.Proofs.Ytehnemdifkjhcaa
open Go.ChangeShapes Go.WideShapes Go.ChangeAt Go.RowKit Go.Deep

theorem own : ownKnob Try.prog.godebug = none := by kernel_rfl
theorem laidOut : laidOutB Try.prog = true := by kernel_rfl
theorem cellsRas : Try.prog.cellsOf 24 = 4 := by kernel_rfl
theorem cellsI : Try.prog.cellsOf 3 = 1 := by kernel_rfl
theorem oneRas : ∃ f0 f1 f2 f3, Try.prog.underlying 24 = some (.struct #[f0, f1, f2, f3]) ∧ oneCellFields Try.prog #[f0, f1, f2, f3] = true ∧ f0.type = 3 ∧ f1.type = 3 ∧ f2.type = 3 ∧ f3.type = 22 :=
  ⟨_, _, _, _, Try.underlying24, by kernel_rfl, rfl, rfl, rfl, rfl⟩

section
variable {H : Type} {enc : TypeId × Value → H} {W : World} {r : Reach} {b0 : Nat} {v : Value} {d : DataW H} {p : List MemPlace}

/-- A slice of ints as the reader reads it. -/
theorem cells_ints {m : Nat} {cs : List Value} {x : DataW H × List MemPlace} (t1 : DataW.trod enc Try.prog W 0 (fun _ => true) true m 22 cs = some x) :
    ∃ A n c l, cs = [.slice A n c] ∧ Sl W A n c l ∧ (A = none → c = 0) := by
  rcases open_ints Try.underlying22 Try.underlying3 cellsI t1 with ⟨hc, hx⟩ | ⟨a, n, c, zs, hc, _, hl, hm, hz, hx, hcell, hwf⟩
  · exact ⟨none, 0, 0, [], hc, Sl.nil W, fun _ => rfl⟩
  · simp only [if_true] at hz
    refine ⟨some a, n, c, zs.take n, hc, ⟨by simp [List.length_take]; omega, hl, by unfold maxLen at hm; omega, fun h0 => ?_⟩, fun e => by cases e⟩
    obtain ⟨bb, off, spot⟩ := a
    have hspot : spot = none := by simpa [Addr.add] using World.cell?_spot (hcell 0 (by omega))
    subst hspot
    refine ⟨bb, off, rfl, fun i hi => ?_⟩
    have hci := hcell i (by omega)
    rw [nth_take hi]
    have hadd : ((⟨bb, off, none⟩ : Addr).add i) = ⟨bb, off + i, none⟩ := by
      unfold Addr.add
      by_cases h0 : i = 0 <;> simp [h0]
    rw [hadd] at hci
    exact hci

/-- An argument of type []int. -/
theorem arg_ints (hv : Value.okWide Try.prog W r b0 22 v) (h : DataW.Trod enc Try.prog W 0 (fun _ => true) true 22 v d p) :
    ∃ A n c l, v = .slice A n c ∧ Sl W A n c l ∧ (A = none → c = 0) := by
  obtain ⟨fuel, hf⟩ := h
  obtain ⟨A, n, c, l, he, hs, hA⟩ := cells_ints hf
  refine ⟨A, n, c, l, ?_, hs, hA⟩
  have hk := hv
  unfold Value.okWide at hk
  rw [Try.underlying22] at hk
  simp only [Cell.okWide, Try.underlying22, Cell.ok] at hk
  cases v <;> simp_all [Value.cells]

set_option maxRecDepth 100000 in
/-- An argument of type Raster. -/
theorem arg_ras (hv : Value.okWide Try.prog W r b0 24 v) (h : DataW.Trod enc Try.prog W 0 (fun _ => true) true 24 v d p) :
    ∃ W1 H1 M1 A n c P, v = .agg #[.int .i64 W1, .int .i64 H1, .int .i64 M1, .slice A n c] ∧ Sl W A n c P ∧ (A = none → c = 0) := by
  obtain ⟨f0, f1, f2, f3, hu, hone, h0, h1, h2, h3⟩ := oneRas
  obtain ⟨v0, v1, v2, v3, y0, y1, y2, y3, m, rfl, rfl, rfl, t0, t1, t2, t3⟩ := Joins.open_agg4 hu hone cellsRas hv h
  rw [h0] at t0
  rw [h1] at t1
  rw [h2] at t2
  rw [h3] at t3
  obtain ⟨z0, e0, -⟩ := DataW.trod_int Try.underlying3 t0
  obtain ⟨z1, e1, -⟩ := DataW.trod_int Try.underlying3 t1
  obtain ⟨z2, e2, -⟩ := DataW.trod_int Try.underlying3 t2
  simp only [List.cons.injEq, and_true] at e0 e1 e2
  subst e0 e1 e2
  obtain ⟨A, n, c, l, e3, hs, hA⟩ := cells_ints t3
  simp only [List.cons.injEq, and_true] at e3
  subst e3
  exact ⟨z0, z1, z2, A, n, c, l, rfl, hs, hA⟩

/-- An argument that is an array of ints. -/
theorem arg_arr {n : Nat} {t : TypeId} (ht : Try.prog.underlying t = some (.array n 3)) (hC : Try.prog.cellsOf t = n) (hv : Value.okWide Try.prog W r b0 t v) (h : DataW.Trod enc Try.prog W 0 (fun _ => true) true t v d p) :
    ∃ cs : Array Value, v = .agg cs ∧ cs.size = n ∧ ∀ i, i < n → ∃ z, cs[i]? = some (.int .i64 z) ∧ -9223372036854775808 ≤ z ∧ z ≤ 9223372036854775807 := by
  unfold Value.okWide at hv
  rw [ht] at hv
  obtain ⟨cs, rfl, hsz, -⟩ := hv
  rw [hC] at hsz
  refine ⟨cs, rfl, hsz, fun i hi => ?_⟩
  obtain ⟨fuel, hf⟩ := h
  obtain ⟨xs, m, -, -, hlen, hxl, hel⟩ := DataW.trod_array ht hf
  have h1 := hel i hi
  rw [cellsI, Nat.mul_one, List.getElem?_eq_getElem (by omega)] at h1
  obtain ⟨z, e, -, hwf⟩ := DataW.trod_int Try.underlying3 h1
  refine ⟨z, ?_, bounds_i64 hwf⟩
  have hi' : i < (Value.agg cs).cells.toList.length := by rw [hlen, hC]; exact hi
  rw [List.drop_eq_getElem_cons hi', List.take_succ_cons, List.take_zero] at e
  simp only [List.cons.injEq, and_true] at e
  rw [← e]
  simp [Value.cells]
theorem arg_arr2 (hv : Value.okWide Try.prog W r b0 37 v) (h : DataW.Trod enc Try.prog W 0 (fun _ => true) true 37 v d p) :
    ∃ a b, v = .agg #[.int .i64 a, .int .i64 b] ∧ (-9223372036854775808 ≤ a ∧ a ≤ 9223372036854775807) ∧ (-9223372036854775808 ≤ b ∧ b ≤ 9223372036854775807) := by
  obtain ⟨⟨l⟩, rfl, hsz, hel⟩ := arg_arr Try.underlying37 (by kernel_rfl) hv h
  obtain ⟨a, ha, ba⟩ := hel 0 (by omega)
  obtain ⟨b, hb, bb⟩ := hel 1 (by omega)
  match l, hsz, ha, hb with
  | [x, y], _, ha, hb =>
    simp at ha hb
    exact ⟨a, b, by rw [ha, hb], ba, bb⟩
theorem arg_arr3 (hv : Value.okWide Try.prog W r b0 25 v) (h : DataW.Trod enc Try.prog W 0 (fun _ => true) true 25 v d p) :
    ∃ a b c, v = .agg #[.int .i64 a, .int .i64 b, .int .i64 c] ∧ (-9223372036854775808 ≤ a ∧ a ≤ 9223372036854775807) ∧ (-9223372036854775808 ≤ b ∧ b ≤ 9223372036854775807) ∧ (-9223372036854775808 ≤ c ∧ c ≤ 9223372036854775807) := by
  obtain ⟨⟨l⟩, rfl, hsz, hel⟩ := arg_arr Try.underlying25 (by kernel_rfl) hv h
  obtain ⟨a, ha, ba⟩ := hel 0 (by omega)
  obtain ⟨b, hb, bb⟩ := hel 1 (by omega)
  obtain ⟨c, hc, bc⟩ := hel 2 (by omega)
  match l, hsz, ha, hb, hc with
  | [x, y, z], _, ha, hb, hc =>
    simp at ha hb hc
    exact ⟨a, b, c, by rw [ha, hb, hc], ba, bb, bc⟩
theorem arg_arr4 (hv : Value.okWide Try.prog W r b0 45 v) (h : DataW.Trod enc Try.prog W 0 (fun _ => true) true 45 v d p) :
    ∃ a b c e, v = .agg #[.int .i64 a, .int .i64 b, .int .i64 c, .int .i64 e] ∧ (-9223372036854775808 ≤ a ∧ a ≤ 9223372036854775807) ∧ (-9223372036854775808 ≤ b ∧ b ≤ 9223372036854775807) ∧ (-9223372036854775808 ≤ c ∧ c ≤ 9223372036854775807) ∧ (-9223372036854775808 ≤ e ∧ e ≤ 9223372036854775807) := by
  obtain ⟨⟨l⟩, rfl, hsz, hel⟩ := arg_arr Try.underlying45 (by kernel_rfl) hv h
  obtain ⟨a, ha, ba⟩ := hel 0 (by omega)
  obtain ⟨b, hb, bb⟩ := hel 1 (by omega)
  obtain ⟨c, hc, bc⟩ := hel 2 (by omega)
  obtain ⟨e, he, be⟩ := hel 3 (by omega)
  match l, hsz, ha, hb, hc, he with
  | [x, y, z, u], _, ha, hb, hc, he =>
    simp at ha hb hc he
    exact ⟨a, b, c, e, by rw [ha, hb, hc, he], ba, bb, bc, be⟩
end

end Go.Proofs.Ytehnemdifkjhcaa
