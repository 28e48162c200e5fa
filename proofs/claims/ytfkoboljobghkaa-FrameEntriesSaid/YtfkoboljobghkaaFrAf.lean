/-
  Arguments that are frames.
-/
import Derived.Test.YtfkoboljobghkaaFrArg
import Derived.Test.YtfkoboljobghkaaFrF0
import Derived.Deep.SlicePairs
set_option linter.unusedSimpArgs false
set_option linter.unusedVariables false
set_option linter.constructorNameAsVariable false
set_option maxRecDepth 20000
namespace Go.Proofs.Ytfkoboljobghkaa
open Go.ChangeShapes Go.WideShapes Go.ChangeAt Go.RowKit Go.Deep

theorem entTwo : ∃ f0 f1, Try.prog.underlying 68 = some (.struct #[f0, f1]) ∧ f0.type = 9 ∧ f1.type = 9 ∧ f0.offset = 0 ∧ f1.offset = 1 :=
  ⟨_, _, Try.underlying68, rfl, rfl, rfl, rfl⟩
theorem frTwo : ∃ f0 f1, Try.prog.underlying 27 = some (.struct #[f0, f1]) ∧ f0.type = 22 ∧ f1.type = 25 ∧ f0.offset = 0 ∧ f1.offset = 1 :=
  ⟨_, _, Try.underlying27, rfl, rfl, rfl, rfl⟩
theorem rasFour : ∃ f0 f1 f2 f3, Try.prog.underlying 25 = some (.struct #[f0, f1, f2, f3]) ∧ (f0.type = 3 ∧ f1.type = 3 ∧ f2.type = 3 ∧ f3.type = 23) ∧ f0.offset = 0 ∧ f1.offset = 1 ∧ f2.offset = 2 ∧ f3.offset = 3 :=
  ⟨_, _, _, _, Try.underlying25, ⟨rfl, rfl, rfl, rfl⟩, rfl, rfl, rfl, rfl⟩
theorem cellsE : Try.prog.cellsOf 68 = 2 := by kernel_rfl
theorem cellsS : Try.prog.cellsOf 9 = 1 := by kernel_rfl
theorem cellsEs : Try.prog.cellsOf 22 = 1 := by kernel_rfl
theorem cellsIs : Try.prog.cellsOf 23 = 1 := by kernel_rfl
theorem cellsFr : Try.prog.cellsOf 27 = 5 := by kernel_rfl
theorem array5 {α : Type} {cs : Array α} (h : cs.size = 5) : ∃ c0 c1 c2 c3 c4, cs = #[c0, c1, c2, c3, c4] := by
  obtain ⟨l⟩ := cs
  match l, h with
  | [c0, c1, c2, c3, c4], _ => exact ⟨c0, c1, c2, c3, c4, rfl⟩

def strV (v : Value) : ByteArray := match v with | .string s => s | _ => ByteArray.empty

section
variable {H : Type} {enc : TypeId × Value → H} {W : World} {r : Reach} {b0 : Nat} {v : Value} {d : DataW H} {p : List MemPlace}

theorem cells_ents {m : Nat} {cs : List Value} {x : DataW H × List MemPlace} (t1 : DataW.trod enc Try.prog W 0 (fun _ => true) true m 22 cs = some x) :
    ∃ A n c E, cs = [.slice A n c] ∧ En0 W A n c E ∧ (A = none → c = 0) := by
  obtain ⟨f0, f1, hu, h0, h1, o0, o1⟩ := entTwo
  rcases open_slice_pairs Try.underlying22 hu cellsE o0 o1 (by rw [h0]; exact cellsS) (by rw [h1]; exact cellsS) t1 with ⟨hc, hx⟩ | ⟨a, n, c, mm, fu, V0, V1, D0, D1, P0, P1, hc, _, hl, hm, hmm, hx, hcell⟩
  · exact ⟨none, 0, 0, [], hc, ⟨rfl, Nat.le_refl _, by omega, fun h => by omega, fun i => by simp [keyAt, valAt]⟩, fun _ => rfl⟩
  · simp only [if_true] at hmm
    have each : ∀ i, i < n → W.cell? (a.add (i * 2)) = some (.string (strV (V0 i))) ∧ W.cell? (a.add (i * 2 + 1)) = some (.string (strV (V1 i))) ∧ (strV (V0 i)).size ≤ maxLen ∧ (strV (V1 i)).size ≤ maxLen := by
      intro i hi
      obtain ⟨e0, e1, e2, e3⟩ := hcell i (by omega)
      rw [h0] at e2
      rw [h1] at e3
      obtain ⟨s, g1, _, g2⟩ := DataW.trod_string Try.underlying9 e2
      obtain ⟨s', g3, _, g4⟩ := DataW.trod_string Try.underlying9 e3
      simp only [List.cons.injEq, and_true] at g1 g3
      rw [e0, e1, g1, g3]
      exact ⟨rfl, rfl, g2, g4⟩
    have hk : ∀ i, i < n → keyAt ((List.range n).map fun i => (strV (V0 i), strV (V1 i))) i = strV (V0 i) ∧ valAt ((List.range n).map fun i => (strV (V0 i), strV (V1 i))) i = strV (V1 i) := by
      intro i hi
      simp [keyAt, valAt, List.getD_eq_getElem?_getD, hi]
    refine ⟨some a, n, c, (List.range n).map fun i => (strV (V0 i), strV (V1 i)), hc, ⟨by simp, hl, by unfold maxLen at hm; omega, fun hn => ?_, fun i => ?_⟩, fun e => by cases e⟩
    · obtain ⟨bb, off, spot⟩ := a
      have hspot : spot = none := by simpa [Addr.add] using World.cell?_spot (each 0 hn).1
      subst hspot
      refine ⟨bb, off, rfl, fun i hi => ?_⟩
      obtain ⟨e0, e1, _, _⟩ := each i hi
      rw [(hk i hi).1, (hk i hi).2]
      rw [Addr.add_lit] at e0 e1
      exact ⟨e0, by rw [Nat.add_assoc]; exact e1⟩
    · by_cases hi : i < n
      · rw [(hk i hi).1, (hk i hi).2]
        obtain ⟨_, _, e2, e3⟩ := each i hi
        unfold maxLen at e2 e3
        exact ⟨by omega, by omega⟩
      · have : ((List.range n).map fun i => (strV (V0 i), strV (V1 i)))[i]? = none := List.getElem?_eq_none (by simp; omega)
        simp only [keyAt, valAt, List.getD_eq_getElem?_getD, this, Option.getD_none]
        exact ⟨by decide, by decide⟩

set_option maxRecDepth 100000 in
/-- An argument of type Frame. -/
theorem arg_frame (hv : Value.okWide Try.prog W r b0 27 v) (h : DataW.Trod enc Try.prog W 0 (fun _ => true) true 27 v d p) :
    ∃ A n c E W1 H1 M1 A2 n2 c2 P, v = .agg #[.slice A n c, .int .i64 W1, .int .i64 H1, .int .i64 M1, .slice A2 n2 c2] ∧ En0 W A n c E ∧ Sl W A2 n2 c2 P ∧ (A = none → c = 0) ∧ (A2 = none → c2 = 0) := by
  obtain ⟨f0, f1, hu, h0, h1, o0, o1⟩ := frTwo
  obtain ⟨g0, g1, g2, g3, gu, ⟨q0, q1, q2, q3⟩, u0, u1, u2, u3⟩ := rasFour
  obtain ⟨cs, rfl, hsz⟩ := okWide_struct hu hv
  obtain ⟨c0, c1, c2, c3, c4, rfl⟩ := array5 (hsz.trans cellsFr)
  obtain ⟨fuel, hf⟩ := h
  obtain ⟨xs, k, _, _, _, hlen, hff⟩ := DataW.trod_struct hu hf
  match xs, hlen with
  | [y0, y1], _ =>
    have t0 := hff 0 f0 rfl
    have t1 := hff 1 f1 rfl
    rw [h0, o0, cellsEs] at t0
    rw [h1, o1, cellsRas] at t1
    simp [Value.cells] at t0 t1
    obtain ⟨A, n, c, E, e0, hE, hA⟩ := cells_ents t0
    obtain ⟨z0, z1, z2, z3, m, _, _, s0, s1, s2, s3⟩ := Joins.trod_struct4 gu t1
    rw [q0, u0, cellsI] at s0
    rw [q1, u1, cellsI] at s1
    rw [q2, u2, cellsI] at s2
    rw [q3, u3, cellsIs] at s3
    simp at s0 s1 s2 s3
    obtain ⟨w0, e1, -⟩ := DataW.trod_int Try.underlying3 s0
    obtain ⟨w1, e2, -⟩ := DataW.trod_int Try.underlying3 s1
    obtain ⟨w2, e3, -⟩ := DataW.trod_int Try.underlying3 s2
    obtain ⟨A2, n2, c2, P, e4, hS, hA2⟩ := cells_ints s3
    simp only [List.cons.injEq, and_true] at e0 e1 e2 e3 e4
    subst e0 e1 e2 e3 e4
    exact ⟨A, n, c, E, w0, w1, w2, A2, n2, c2, P, rfl, hE, hS, hA, hA2⟩
end

end Go.Proofs.Ytfkoboljobghkaa
