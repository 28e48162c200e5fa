/-
  Turned and mirrored rasters: four turns, two mirrors, and a mirrored raster turned.
-/
import Derived.Test.YtehnemdifkjhcaaRaJ
set_option linter.unusedSimpArgs false
set_option linter.unusedVariables false
namespace Go.Proofs.Ytehnemdifkjhcaa
open Go.RowKit

theorem grid {a b i : Nat} (h : i < a * b) : ∃ y x, y < a ∧ x < b ∧ i = y * b + x := by
  have hb : 0 < b := by
    rcases Nat.eq_zero_or_pos b with e | e
    · subst e; simp at h
    · exact e
  refine ⟨i / b, i % b, ?_, Nat.mod_lt _ hb, ?_⟩
  · exact Nat.div_lt_of_lt_mul (by rw [Nat.mul_comm]; exact h)
  · rw [Nat.mul_comm]; exact (Nat.div_add_mod i b).symm
theorem nth_turned {a b x y : Nat} {P : List Int} (hx : x < b) (hy : y < a) : nth (turned a b P) (y * b + x) = nth P (x * a + (a - 1 - y)) := by
  rw [turned, nth_tab (row_lt hy hx), turnf_at hx]
theorem nth_mirrored {a b x y : Nat} {P : List Int} (hl : P.length = b * a) (hx : x < a) (hy : y < b) : nth (mirrored a P) (y * a + x) = nth P (y * a + (a - 1 - x)) := by
  rw [mirrored, nth_tab (by rw [hl]; exact row_lt hy hx), mirf_at hx]
theorem turned_length (a b : Nat) (P : List Int) : (turned a b P).length = a * b := tab_length _ _
theorem mirrored_length (a : Nat) (P : List Int) : (mirrored a P).length = P.length := tab_length _ _

theorem turn_four {a b : Nat} {P : List Int} (hl : P.length = b * a) : turned b a (turned a b (turned b a (turned a b P))) = P := by
  refine nth_ext (by rw [turned_length, hl]) fun i hi => ?_
  rw [turned_length] at hi
  obtain ⟨y, x, hy, hx, rfl⟩ := grid hi
  rw [nth_turned hx hy, nth_turned (by omega) hx, nth_turned (by omega) (by omega), nth_turned (by omega) (by omega), show b - 1 - (b - 1 - y) = y from by omega, show a - 1 - (a - 1 - x) = x from by omega]
theorem mirror_two {a b : Nat} {P : List Int} (hl : P.length = b * a) : mirrored a (mirrored a P) = P := by
  refine nth_ext (by rw [mirrored_length, mirrored_length]) fun i hi => ?_
  rw [mirrored_length, mirrored_length, hl] at hi
  obtain ⟨y, x, hy, hx, rfl⟩ := grid hi
  rw [nth_mirrored (b := b) (by rw [mirrored_length]; exact hl) hx hy, nth_mirrored hl (by omega) hy, show a - 1 - (a - 1 - x) = x from by omega]
theorem turn_mirror {a b : Nat} {P : List Int} (hl : P.length = b * a) : turned a b (mirrored a P) = mirrored b (turned a b (turned b a (turned a b P))) := by
  refine nth_ext (by rw [turned_length, mirrored_length, turned_length]) fun i hi => ?_
  rw [turned_length] at hi
  obtain ⟨y, x, hy, hx, rfl⟩ := grid hi
  rw [nth_turned hx hy, nth_mirrored hl (by omega) hx, nth_mirrored (b := a) (by rw [turned_length]) hx hy, nth_turned (by omega) hy, nth_turned (by omega) (by omega), nth_turned (by omega) (by omega),
    show b - 1 - (b - 1 - x) = x from by omega]

theorem Ras.of_tab {a b : Nat} {M : Int} {P Q : List Int} (h : Ras a b M P) {a2 b2 : Nat} (hab : (a2 = a ∧ b2 = b) ∨ (a2 = b ∧ b2 = a)) {f : Nat → Nat} (hl : Q.length = a2 * b2) (hQ : ∀ i, i < Q.length → nth Q i = nth P (f i)) : Ras a2 b2 M Q := by
  refine ⟨?_, by rw [hl]; simp, fun g hg => ?_⟩
  · have := h.1; omega
  · obtain ⟨i, hi, rfl⟩ := List.mem_iff_getElem.1 hg
    have := hQ i hi
    rw [nth_eq hi] at this
    rw [this]
    exact nth_bounds (by have := h.1; omega) h.2.2 _
theorem Ras.turned {a b : Nat} {M : Int} {P : List Int} (h : Ras a b M P) : Ras b a M (turned a b P) :=
  h.of_tab (f := fun k => k % b * a + (a - 1 - k / b)) (.inr ⟨rfl, rfl⟩) (by rw [turned_length, Nat.mul_comm]) fun i hi => by
    rw [turned_length] at hi
    show nth (tab (a * b) (turnf a b P)) i = _
    rw [nth_tab hi]
    rfl
theorem Ras.mirrored {a b : Nat} {M : Int} {P : List Int} (h : Ras a b M P) : Ras a b M (mirrored a P) :=
  h.of_tab (f := fun k => k / a * a + (a - 1 - k % a)) (.inl ⟨rfl, rfl⟩) (by rw [mirrored_length]; have := h.2.1; rw [← Int.natCast_mul] at this; omega) fun i hi => by
    rw [mirrored_length] at hi
    show nth (tab P.length (mirf a P)) i = _
    rw [nth_tab hi]
    rfl

/-- Turn and Mirror of a raster whose size is known. -/
theorem Turn_nat {a b : Nat} {M : Int} {A : Option Addr} {n c : Nat} {P Q : List Int} {w : World} (h : Sl w A n c P) (hr : Ras a b M P) (hQ : turned a b P = Q) :
    Calls Try.prog 30 #[.agg #[.int .i64 a, .int .i64 b, .int .i64 M, .slice A n c]] w (RetR w b a M Q) := by
  have := Turn_yes a b M A n c P w h hr
  simp only [Int.toNat_natCast] at this
  rw [hQ] at this
  exact this
theorem Mirror_nat {a b : Nat} {M : Int} {A : Option Addr} {n c : Nat} {P Q : List Int} {w : World} (h : Sl w A n c P) (hr : Ras a b M P) (hQ : mirrored a P = Q) :
    Calls Try.prog 31 #[.agg #[.int .i64 a, .int .i64 b, .int .i64 M, .slice A n c]] w (RetR w a b M Q) := by
  have := Mirror_yes a b M A n c P w h hr
  simp only [Int.toNat_natCast] at this
  rw [hQ] at this
  exact this
theorem rTurn_nat {a b : Nat} {M : Int} {A : Option Addr} {n c : Nat} {P Q : List Int} {w : World} (h : Sl w A n c P) (hr : Ras a b M P) (hQ : turned a b P = Q) :
    Calls Try.prog 32 #[.agg #[.int .i64 a, .int .i64 b, .int .i64 M, .slice A n c]] w (RetF w b a M Q) := by
  have := rTurn_any a b M A n c P w h hr
  simp only [Int.toNat_natCast] at this
  rw [hQ] at this
  exact this
theorem rMirror_nat {a b : Nat} {M : Int} {A : Option Addr} {n c : Nat} {P Q : List Int} {w : World} (h : Sl w A n c P) (hA : A = none → c = 0) (hr : Ras a b M P) (hQ : mirrored a P = Q) :
    Calls Try.prog 33 #[.agg #[.int .i64 a, .int .i64 b, .int .i64 M, .slice A n c]] w (RetF w a b M Q) := by
  have := rMirror_any a b M A n c P w h hA hr
  simp only [Int.toNat_natCast] at this
  rw [hQ] at this
  exact this

end Go.Proofs.Ytehnemdifkjhcaa
