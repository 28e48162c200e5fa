/-
  Arguments that are rasters, arrays and slices of ints, bytes and tests.
-/
import Derived.Test.YtonpnjjfidpoiaaDsPat
import Derived.WalkKit
import Derived.ProofKit
import Derived.OpenShut
import Derived.Carry
import Derived.Lib.SmallJoins
import Derived.Deep.DeepHandedRow
import Derived.Deep.Slices
import Derived.Deep.SlicePairs
import Derived.Deep.Strs
import Derived.Laws.IdiomArrays
set_option linter.unusedSimpArgs false
set_option linter.unusedVariables false
set_option linter.constructorNameAsVariable false
set_option maxRecDepth 20000
namespace Go.Proofs.Ytonpnjjfidpoiaa
open Go.ChangeShapes Go.WideShapes Go.ChangeAt Go.RowKit Go.Deep

theorem own : ownKnob Try.prog.godebug = none := by kernel_rfl
theorem laidOut : laidOutB Try.prog = true := by kernel_rfl
theorem cellsRas : Try.prog.cellsOf 37 = 4 := by kernel_rfl
theorem cellsI : Try.prog.cellsOf 3 = 1 := by kernel_rfl
theorem oneRas : ∃ f0 f1 f2 f3, Try.prog.underlying 37 = some (.struct #[f0, f1, f2, f3]) ∧ oneCellFields Try.prog #[f0, f1, f2, f3] = true ∧ f0.type = 3 ∧ f1.type = 3 ∧ f2.type = 3 ∧ f3.type = 35 :=
  ⟨_, _, _, _, Try.underlying37, by kernel_rfl, rfl, rfl, rfl, rfl⟩

section
variable {H : Type} {enc : TypeId × Value → H} {W : World} {r : Reach} {b0 : Nat} {v : Value} {d : DataW H} {p : List MemPlace}

/-- A slice of ints as the reader reads it. -/
theorem cells_ints {m : Nat} {cs : List Value} {x : DataW H × List MemPlace} (t1 : DataW.trod enc Try.prog W 0 (fun _ => true) true m 35 cs = some x) :
    ∃ A n c l, cs = [.slice A n c] ∧ Sl W A n c l ∧ (A = none → c = 0) := by
  rcases open_ints Try.underlying35 Try.underlying3 cellsI t1 with ⟨hc, hx⟩ | ⟨a, n, c, zs, hc, _, hl, hm, hz, hx, hcell, hwf⟩
  · exact ⟨none, 0, 0, [], hc, Sl.nil W, fun _ => rfl⟩
  · simp only [if_true] at hz
    refine ⟨some a, n, c, zs.take n, hc, ⟨by simp [List.length_take]; omega, hl, by unfold maxLen at hm; omega, fun h0 => ?_⟩, fun e => by cases e⟩
    obtain ⟨bb, off, spot⟩ := a
    have hspot : spot = none := by simpa [Addr.add] using World.cell?_spot (hcell 0 (by omega))
    subst hspot
    refine ⟨bb, off, rfl, fun i hi => ?_⟩
    have hci := hcell i (by omega)
    rw [nth_take hi]
    have hadd : ((⟨bb, off, none⟩ : Addr).add i) = ⟨bb, off + i, none⟩ := by
      unfold Addr.add
      by_cases h0 : i = 0 <;> simp [h0]
    rw [hadd] at hci
    exact hci

/-- An argument of type []int. -/
theorem arg_ints (hv : Value.okWide Try.prog W r b0 35 v) (h : DataW.Trod enc Try.prog W 0 (fun _ => true) true 35 v d p) :
    ∃ A n c l, v = .slice A n c ∧ Sl W A n c l ∧ (A = none → c = 0) := by
  obtain ⟨fuel, hf⟩ := h
  obtain ⟨A, n, c, l, he, hs, hA⟩ := cells_ints hf
  refine ⟨A, n, c, l, ?_, hs, hA⟩
  have hk := hv
  unfold Value.okWide at hk
  rw [Try.underlying35] at hk
  simp only [Cell.okWide, Try.underlying35, Cell.ok] at hk
  cases v <;> simp_all [Value.cells]

set_option maxRecDepth 100000 in
/-- An argument of type Raster. -/
theorem arg_ras (hv : Value.okWide Try.prog W r b0 37 v) (h : DataW.Trod enc Try.prog W 0 (fun _ => true) true 37 v d p) :
    ∃ W1 H1 M1 A n c P, v = .agg #[.int .i64 W1, .int .i64 H1, .int .i64 M1, .slice A n c] ∧ Sl W A n c P ∧ (A = none → c = 0) := by
  obtain ⟨f0, f1, f2, f3, hu, hone, h0, h1, h2, h3⟩ := oneRas
  obtain ⟨v0, v1, v2, v3, y0, y1, y2, y3, m, rfl, rfl, rfl, t0, t1, t2, t3⟩ := Joins.open_agg4 hu hone cellsRas hv h
  rw [h0] at t0
  rw [h1] at t1
  rw [h2] at t2
  rw [h3] at t3
  obtain ⟨z0, e0, -⟩ := DataW.trod_int Try.underlying3 t0
  obtain ⟨z1, e1, -⟩ := DataW.trod_int Try.underlying3 t1
  obtain ⟨z2, e2, -⟩ := DataW.trod_int Try.underlying3 t2
  simp only [List.cons.injEq, and_true] at e0 e1 e2
  subst e0 e1 e2
  obtain ⟨A, n, c, l, e3, hs, hA⟩ := cells_ints t3
  simp only [List.cons.injEq, and_true] at e3
  subst e3
  exact ⟨z0, z1, z2, A, n, c, l, rfl, hs, hA⟩

/-- An argument that is an array of ints. -/
theorem arg_arr {n : Nat} {t : TypeId} (ht : Try.prog.underlying t = some (.array n 3)) (hC : Try.prog.cellsOf t = n) (hv : Value.okWide Try.prog W r b0 t v) (h : DataW.Trod enc Try.prog W 0 (fun _ => true) true t v d p) :
    ∃ cs : Array Value, v = .agg cs ∧ cs.size = n ∧ ∀ i, i < n → ∃ z, cs[i]? = some (.int .i64 z) ∧ -9223372036854775808 ≤ z ∧ z ≤ 9223372036854775807 := by
  unfold Value.okWide at hv
  rw [ht] at hv
  obtain ⟨cs, rfl, hsz, -⟩ := hv
  rw [hC] at hsz
  refine ⟨cs, rfl, hsz, fun i hi => ?_⟩
  obtain ⟨fuel, hf⟩ := h
  obtain ⟨xs, m, -, -, hlen, hxl, hel⟩ := DataW.trod_array ht hf
  have h1 := hel i hi
  rw [cellsI, Nat.mul_one, List.getElem?_eq_getElem (by omega)] at h1
  obtain ⟨z, e, -, hwf⟩ := DataW.trod_int Try.underlying3 h1
  refine ⟨z, ?_, bounds_i64 hwf⟩
  have hi' : i < (Value.agg cs).cells.toList.length := by rw [hlen, hC]; exact hi
  rw [List.drop_eq_getElem_cons hi', List.take_succ_cons, List.take_zero] at e
  simp only [List.cons.injEq, and_true] at e
  rw [← e]
  simp [Value.cells]
theorem arg_arr2 (hv : Value.okWide Try.prog W r b0 38 v) (h : DataW.Trod enc Try.prog W 0 (fun _ => true) true 38 v d p) :
    ∃ a b, v = .agg #[.int .i64 a, .int .i64 b] ∧ (-9223372036854775808 ≤ a ∧ a ≤ 9223372036854775807) ∧ (-9223372036854775808 ≤ b ∧ b ≤ 9223372036854775807) := by
  obtain ⟨⟨l⟩, rfl, hsz, hel⟩ := arg_arr Try.underlying38 (by kernel_rfl) hv h
  obtain ⟨a, ha, ba⟩ := hel 0 (by omega)
  obtain ⟨b, hb, bb⟩ := hel 1 (by omega)
  match l, hsz, ha, hb with
  | [x, y], _, ha, hb =>
    simp at ha hb
    exact ⟨a, b, by rw [ha, hb], ba, bb⟩
theorem arg_arr3 (hv : Value.okWide Try.prog W r b0 64 v) (h : DataW.Trod enc Try.prog W 0 (fun _ => true) true 64 v d p) :
    ∃ a b c, v = .agg #[.int .i64 a, .int .i64 b, .int .i64 c] ∧ (-9223372036854775808 ≤ a ∧ a ≤ 9223372036854775807) ∧ (-9223372036854775808 ≤ b ∧ b ≤ 9223372036854775807) ∧ (-9223372036854775808 ≤ c ∧ c ≤ 9223372036854775807) := by
  obtain ⟨⟨l⟩, rfl, hsz, hel⟩ := arg_arr Try.underlying64 (by kernel_rfl) hv h
  obtain ⟨a, ha, ba⟩ := hel 0 (by omega)
  obtain ⟨b, hb, bb⟩ := hel 1 (by omega)
  obtain ⟨c, hc, bc⟩ := hel 2 (by omega)
  match l, hsz, ha, hb, hc with
  | [x, y, z], _, ha, hb, hc =>
    simp at ha hb hc
    exact ⟨a, b, c, by rw [ha, hb, hc], ba, bb, bc⟩
theorem arg_arr4 (hv : Value.okWide Try.prog W r b0 28 v) (h : DataW.Trod enc Try.prog W 0 (fun _ => true) true 28 v d p) :
    ∃ a b c e, v = .agg #[.int .i64 a, .int .i64 b, .int .i64 c, .int .i64 e] ∧ (-9223372036854775808 ≤ a ∧ a ≤ 9223372036854775807) ∧ (-9223372036854775808 ≤ b ∧ b ≤ 9223372036854775807) ∧ (-9223372036854775808 ≤ c ∧ c ≤ 9223372036854775807) ∧ (-9223372036854775808 ≤ e ∧ e ≤ 9223372036854775807) := by
  obtain ⟨⟨l⟩, rfl, hsz, hel⟩ := arg_arr Try.underlying28 (by kernel_rfl) hv h
  obtain ⟨a, ha, ba⟩ := hel 0 (by omega)
  obtain ⟨b, hb, bb⟩ := hel 1 (by omega)
  obtain ⟨c, hc, bc⟩ := hel 2 (by omega)
  obtain ⟨e, he, be⟩ := hel 3 (by omega)
  match l, hsz, ha, hb, hc, he with
  | [x, y, z, u], _, ha, hb, hc, he =>
    simp at ha hb hc he
    exact ⟨a, b, c, e, by rw [ha, hb, hc, he], ba, bb, bc, be⟩
end

/-- A slice value reads as a list of bytes. -/
def Sb (w : World) (A : Option Addr) (n c : Nat) (l : List Int) : Prop :=
  (n = l.length ∧ n ≤ c ∧ c ≤ 9223372036854775807 ∧
    (0 < n → ∃ b off, A = some ⟨b, off, none⟩ ∧ ∀ i, i < n → w.cell? ⟨b, off + i, none⟩ = some (.int .u8 (nth l i)))) ∧ ∀ x ∈ l, 0 ≤ x ∧ x ≤ 255
theorem Sb.at_ {w : World} {A : Option Addr} {n c : Nat} {l : List Int} (h : Sb w A n c l) (h0 : 0 < n) : ∃ b off, A = some ⟨b, off, none⟩ ∧ b < w.heap.size ∧ ∀ i, i < n → w.cell? ⟨b, off + i, none⟩ = some (.int .u8 (nth l i)) := by
  obtain ⟨b, off, e, hc⟩ := h.1.2.2.2 h0
  exact ⟨b, off, e, World.block_lt_of_cell? w _ (hc 0 h0), hc⟩

theorem cells1B : Try.prog.cellsOf 5 = 1 := by kernel_rfl

section
variable {H : Type} {enc : TypeId × Value → H} {W : World} {r : Reach} {b0 : Nat} {v : Value} {d : DataW H} {p : List MemPlace}

theorem cells_bytes {m : Nat} {cs : List Value} {x : DataW H × List MemPlace} (t1 : DataW.trod enc Try.prog W 0 (fun _ => true) true m 67 cs = some x) :
    ∃ A n c l, cs = [.slice A n c] ∧ Sb W A n c l := by
  rcases open_ints Try.underlying67 Try.underlying5 cells1B t1 with ⟨hc, hx⟩ | ⟨a, n, c, zs, hc, _, hl, hm, hz, hx, hcell, hwf⟩
  · exact ⟨none, 0, 0, [], hc, ⟨rfl, Nat.le_refl _, by omega, fun h => by omega⟩, (by intro x hx; cases hx)⟩
  · simp only [if_true] at hz
    refine ⟨some a, n, c, zs.take n, hc, ⟨by simp [List.length_take]; omega, hl, by unfold maxLen at hm; omega, fun h0 => ?_⟩, (by intro x hx; exact bounds_u8 (hwf x (List.mem_of_mem_take hx)))⟩
    obtain ⟨bb, off, spot⟩ := a
    have hspot : spot = none := by simpa [Addr.add] using World.cell?_spot (hcell 0 (by omega))
    subst hspot
    refine ⟨bb, off, rfl, fun i hi => ?_⟩
    have hci := hcell i (by omega)
    rw [nth_take hi]
    have hadd : ((⟨bb, off, none⟩ : Addr).add i) = ⟨bb, off + i, none⟩ := by
      unfold Addr.add
      by_cases h0 : i = 0 <;> simp [h0]
    rw [hadd] at hci
    exact hci

/-- An argument of type []byte. -/
theorem arg_bytes8 (hv : Value.okWide Try.prog W r b0 67 v) (h : DataW.Trod enc Try.prog W 0 (fun _ => true) true 67 v d p) :
    ∃ A n c l, v = .slice A n c ∧ Sb W A n c l := by
  obtain ⟨fuel, hf⟩ := h
  obtain ⟨A, n, c, l, he, hs⟩ := cells_bytes hf
  refine ⟨A, n, c, l, ?_, hs⟩
  have hk := hv
  unfold Value.okWide at hk
  rw [Try.underlying67] at hk
  simp only [Cell.okWide, Try.underlying67, Cell.ok] at hk
  cases v <;> simp_all [Value.cells]
end


theorem tstTwo : ∃ f0 f1, Try.prog.underlying 30 = some (.struct #[f0, f1]) ∧ (f0.type = 28 ∧ f1.type = 28) ∧ f0.offset = 0 ∧ f1.offset = 4 :=
  ⟨_, _, Try.underlying30, ⟨rfl, rfl⟩, rfl, rfl⟩
theorem cellsTst : Try.prog.cellsOf 30 = 8 := by kernel_rfl
theorem cells4 : Try.prog.cellsOf 28 = 4 := by kernel_rfl

section
variable {H : Type} {enc : TypeId × Value → H} {W : World} {r : Reach} {b0 : Nat} {v : Value} {d : DataW H} {p : List MemPlace}

theorem cells_arr4 {m : Nat} {v0 v1 v2 v3 : Value} {x : DataW H × List MemPlace} (h : DataW.trod enc Try.prog W 0 (fun _ => true) true m 28 [v0, v1, v2, v3] = some x) :
    ∃ z0 z1 z2 z3 : Int, v0 = .int .i64 z0 ∧ v1 = .int .i64 z1 ∧ v2 = .int .i64 z2 ∧ v3 = .int .i64 z3 := by
  obtain ⟨y0, y1, y2, y3, n, -, q0, q1, q2, q3⟩ := trod_array4 Try.underlying28 cellsI h
  obtain ⟨z0, e0, -⟩ := DataW.trod_int Try.underlying3 q0
  obtain ⟨z1, e1, -⟩ := DataW.trod_int Try.underlying3 q1
  obtain ⟨z2, e2, -⟩ := DataW.trod_int Try.underlying3 q2
  obtain ⟨z3, e3, -⟩ := DataW.trod_int Try.underlying3 q3
  simp only [List.cons.injEq, and_true] at e0 e1 e2 e3
  exact ⟨z0, z1, z2, z3, e0, e1, e2, e3⟩

theorem cells_tests {m : Nat} {cs : List Value} {x : DataW H × List MemPlace} (t1 : DataW.trod enc Try.prog W 0 (fun _ => true) true m 22 cs = some x) :
    ∃ A n c l, cs = [.slice A n c] ∧ PS W A n c l ∧ (A = none → c = 0) := by
  obtain ⟨f0, f1, hu, ⟨h0, h1⟩, o0, o1⟩ := tstTwo
  rcases open_slice Try.underlying22 t1 with ⟨hc, hx⟩ | ⟨a, n, c, mm, nf, D, Pl, rfl, hb, hl, hm, hmm, rfl, hx⟩
  · exact ⟨none, 0, 0, [], hc, PS.nil W, fun _ => rfl⟩
  · simp only [if_true] at hmm
    have each : ∀ i, i < n → ∃ z : Tst, W.cell? (a.add (i * 8)) = some (.int .i64 z.1.1) ∧ W.cell? (a.add (i * 8 + 1)) = some (.int .i64 z.1.2.1) ∧ W.cell? (a.add (i * 8 + 2)) = some (.int .i64 z.1.2.2.1) ∧ W.cell? (a.add (i * 8 + 3)) = some (.int .i64 z.1.2.2.2) ∧ W.cell? (a.add (i * 8 + 4)) = some (.int .i64 z.2.1) ∧ W.cell? (a.add (i * 8 + 5)) = some (.int .i64 z.2.2.1) ∧ W.cell? (a.add (i * 8 + 6)) = some (.int .i64 z.2.2.2.1) ∧ W.cell? (a.add (i * 8 + 7)) = some (.int .i64 z.2.2.2.2) := by
      intro i hi
      obtain ⟨cs', g1, g2⟩ := hx i (by omega)
      rw [cellsTst] at g1
      obtain ⟨_, hlen, hcell⟩ := World.cells?_some g1
      obtain ⟨y0, y1, k, _, _, q0, q1⟩ := trod_struct2 hu g2
      match cs', hlen with
      | [v0, v1, v2, v3, v4, v5, v6, v7], _ =>
        rw [h0, o0, cells4] at q0
        rw [h1, o1, cells4] at q1
        simp at q0 q1
        obtain ⟨z0, z1, z2, z3, e0, e1, e2, e3⟩ := cells_arr4 q0
        obtain ⟨z4, z5, z6, z7, e4, e5, e6, e7⟩ := cells_arr4 q1
        have c0 := hcell 0 (by omega)
        have c1 := hcell 1 (by omega)
        have c2 := hcell 2 (by omega)
        have c3 := hcell 3 (by omega)
        have c4 := hcell 4 (by omega)
        have c5 := hcell 5 (by omega)
        have c6 := hcell 6 (by omega)
        have c7 := hcell 7 (by omega)
        rw [add_add] at c0 c1 c2 c3 c4 c5 c6 c7
        rw [e0, e1, e2, e3, e4, e5, e6, e7] at c0 c1 c2 c3 c4 c5 c6 c7
        exact ⟨((z0, z1, z2, z3), z4, z5, z6, z7), by simpa using c0, by simpa using c1, by simpa using c2, by simpa using c3, by simpa using c4, by simpa using c5, by simpa using c6, by simpa using c7⟩
    obtain ⟨q, hq⟩ := choose_lt each
    have hat : ∀ i, i < n → tstAt ((List.range n).map q) i = q i := by
      intro i hi
      simp [tstAt, List.getD_eq_getElem?_getD, hi]
    refine ⟨some a, n, c, (List.range n).map q, rfl, ⟨by rw [pcells_length]; simp, hl, by unfold maxLen at hm; omega, fun hn => ?_⟩, fun e => by cases e⟩
    obtain ⟨bb, off, spot⟩ := a
    have hspot : spot = none := by simpa [Addr.add] using World.cell?_spot (hq 0 hn).1
    subst hspot
    refine ⟨bb, off, rfl, ?_, fun j u hj => ?_⟩
    · have e0 := (hq 0 hn).1
      have := World.block_lt_of_cell? W _ e0
      simpa [Addr.add] using this
    · have hj' : j < n * 8 := by
        have := (List.getElem?_eq_some_iff.1 hj).1
        rw [pcells_length, List.length_map, List.length_range] at this
        exact this
      obtain ⟨i, r, hi, hr, rfl⟩ : ∃ i r, i < n ∧ r < 8 ∧ j = i * 8 + r := ⟨j / 8, j % 8, by omega, by omega, by omega⟩
      obtain ⟨c0, c1, c2, c3, c4, c5, c6, c7⟩ := hq i hi
      obtain ⟨d0, d1, d2, d3, d4, d5, d6, d7⟩ := pcells_at (l := (List.range n).map q) (i := i) (by simp; exact hi)
      rw [hat i hi] at d0 d1 d2 d3 d4 d5 d6 d7
      rw [Addr.add_lit] at c0 c1 c2 c3 c4 c5 c6 c7
      match r, hr with
      | 0, _ => rw [Nat.add_zero] at hj ⊢; rw [d0] at hj; rw [← hj]; exact c0
      | 1, _ => rw [d1] at hj; rw [← hj]; exact c1
      | 2, _ => rw [d2] at hj; rw [← hj]; exact c2
      | 3, _ => rw [d3] at hj; rw [← hj]; exact c3
      | 4, _ => rw [d4] at hj; rw [← hj]; exact c4
      | 5, _ => rw [d5] at hj; rw [← hj]; exact c5
      | 6, _ => rw [d6] at hj; rw [← hj]; exact c6
      | 7, _ => rw [d7] at hj; rw [← hj]; exact c7

/-- An argument of type []descriptor.Test. -/
theorem arg_tests (hv : Value.okWide Try.prog W r b0 22 v) (h : DataW.Trod enc Try.prog W 0 (fun _ => true) true 22 v d p) :
    ∃ A n c l, v = .slice A n c ∧ PS W A n c l ∧ (A = none → c = 0) := by
  obtain ⟨fuel, hf⟩ := h
  obtain ⟨A, n, c, l, he, hs, hA⟩ := cells_tests hf
  refine ⟨A, n, c, l, ?_, hs, hA⟩
  have hk := hv
  unfold Value.okWide at hk
  rw [Try.underlying22] at hk
  simp only [Cell.okWide, Try.underlying22, Cell.ok] at hk
  cases v <;> simp_all [Value.cells]
end

end Go.Proofs.Ytonpnjjfidpoiaa
