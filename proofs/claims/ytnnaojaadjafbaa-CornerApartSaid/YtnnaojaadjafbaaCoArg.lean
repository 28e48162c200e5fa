/-
  Arguments that are lists of corners.
-/
import Derived.Test.YtnnaojaadjafbaaFrArg
import Derived.Test.YtnnaojaadjafbaaCoM
import Derived.Deep.SlicePairs
import Derived.Deep.Strs
set_option linter.unusedSimpArgs false
set_option linter.unusedVariables false
set_option linter.constructorNameAsVariable false
set_option maxRecDepth 20000
namespace Go.Proofs.Ytnnaojaadjafbaa
open Go.ChangeShapes Go.WideShapes Go.ChangeAt Go.RowKit Go.Deep

theorem corThree : ∃ f0 f1 f2, Try.prog.underlying 36 = some (.struct #[f0, f1, f2]) ∧ (f0.type = 3 ∧ f1.type = 3 ∧ f2.type = 3) ∧ f0.offset = 0 ∧ f1.offset = 1 ∧ f2.offset = 2 :=
  ⟨_, _, _, Try.underlying36, ⟨rfl, rfl, rfl⟩, rfl, rfl, rfl⟩
theorem cellsCor : Try.prog.cellsOf 36 = 3 := by kernel_rfl
def intV (v : Value) : Int := match v with | .int _ n => n | _ => 0

section
variable {H : Type} {enc : TypeId × Value → H} {W : World} {r : Reach} {b0 : Nat} {v : Value} {d : DataW H} {p : List MemPlace}

theorem cells_cors {m : Nat} {cs : List Value} {x : DataW H × List MemPlace} (t1 : DataW.trod enc Try.prog W 0 (fun _ => true) true m 31 cs = some x) :
    ∃ A n c l, cs = [.slice A n c] ∧ CS W A n c l ∧ (A = none → c = 0) := by
  obtain ⟨f0, f1, f2, hu, ⟨h0, h1, h2⟩, o0, o1, o2⟩ := corThree
  rcases open_slice Try.underlying31 t1 with ⟨hc, hx⟩ | ⟨a, n, c, mm, nf, D, Pl, rfl, hb, hl, hm, hmm, rfl, hx⟩
  · exact ⟨none, 0, 0, [], hc, CS.nil W, fun _ => rfl⟩
  · simp only [if_true] at hmm
    have each : ∀ i, i < n → ∃ z : Int × Int × Int, W.cell? (a.add (i * 3)) = some (.int .i64 z.1) ∧ W.cell? (a.add (i * 3 + 1)) = some (.int .i64 z.2.1) ∧ W.cell? (a.add (i * 3 + 2)) = some (.int .i64 z.2.2) := by
      intro i hi
      obtain ⟨cs', g1, g2⟩ := hx i (by omega)
      rw [cellsCor] at g1
      obtain ⟨_, hlen, hcell⟩ := World.cells?_some g1
      obtain ⟨y0, y1, y2, k, _, _, q0, q1, q2⟩ := trod_struct3 hu g2
      match cs', hlen with
      | [v0, v1, v2], _ =>
        rw [h0, o0, cellsI] at q0
        rw [h1, o1, cellsI] at q1
        rw [h2, o2, cellsI] at q2
        simp at q0 q1 q2
        obtain ⟨z0, e0, -⟩ := DataW.trod_int Try.underlying3 q0
        obtain ⟨z1, e1, -⟩ := DataW.trod_int Try.underlying3 q1
        obtain ⟨z2, e2, -⟩ := DataW.trod_int Try.underlying3 q2
        simp only [List.cons.injEq, and_true] at e0 e1 e2
        have c0 := hcell 0 (by omega)
        have c1 := hcell 1 (by omega)
        have c2 := hcell 2 (by omega)
        rw [add_add] at c0 c1 c2
        rw [e0, e1, e2] at c0 c1 c2
        exact ⟨(z0, z1, z2), by simpa using c0, by simpa using c1, by simpa using c2⟩
    obtain ⟨q, hq⟩ := choose_lt each
    have hat : ∀ i, i < n → corAt ((List.range n).map q) i = q i := by
      intro i hi
      simp [corAt, List.getD_eq_getElem?_getD, hi]
    refine ⟨some a, n, c, (List.range n).map q, rfl, ⟨by simp, hl, by unfold maxLen at hm; omega, fun hn => ?_⟩, fun e => by cases e⟩
    obtain ⟨bb, off, spot⟩ := a
    have hspot : spot = none := by simpa [Addr.add] using World.cell?_spot (hq 0 hn).1
    subst hspot
    refine ⟨bb, off, rfl, fun i hi => ?_⟩
    obtain ⟨e0, e1, e2⟩ := hq i hi
    rw [hat i hi]
    rw [Addr.add_lit] at e0 e1 e2
    exact ⟨e0, by rw [Nat.add_assoc]; exact e1, by rw [Nat.add_assoc]; exact e2⟩

/-- An argument of type []api.Corner. -/
theorem arg_cors (hv : Value.okWide Try.prog W r b0 31 v) (h : DataW.Trod enc Try.prog W 0 (fun _ => true) true 31 v d p) :
    ∃ A n c l, v = .slice A n c ∧ CS W A n c l ∧ (A = none → c = 0) := by
  obtain ⟨fuel, hf⟩ := h
  obtain ⟨A, n, c, l, he, hs, hA⟩ := cells_cors hf
  refine ⟨A, n, c, l, ?_, hs, hA⟩
  have hk := hv
  unfold Value.okWide at hk
  rw [Try.underlying31] at hk
  simp only [Cell.okWide, Try.underlying31, Cell.ok] at hk
  cases v <;> simp_all [Value.cells]
end

end Go.Proofs.Ytnnaojaadjafbaa
