/-
  The sides of a feature, the brightest one (pure).
-/
import Derived.Test.YtonpnjjfidpoiaaDsD
import Derived.Test.YtonpnjjfidpoiaaDsTn
set_option linter.unusedSimpArgs false
set_option linter.unusedVariables false
namespace Go.Proofs.Ytonpnjjfidpoiaa
open Go.RowKit

/-- The box of a side. -/
def sd (n : Int) : Nat → Bx
  | 0 => (1, -n, n, 2 * n + 1)
  | 1 => (-n, -n, 2 * n + 1, n)
  | 2 => (-n, -n, n, 2 * n + 1)
  | _ => (-n, 1, 2 * n + 1, n)
theorem sd_bxs {n : Int} (hn : 1 ≤ n ∧ n ≤ 16) (k : Nat) : Bxs (sd n k) := by
  unfold Bxs
  match k with
  | 0 => simp only [sd]; omega
  | 1 => simp only [sd]; omega
  | 2 => simp only [sd]; omega
  | k + 3 => simp only [sd]; omega
theorem sd_trn (n : Int) {k : Nat} (hk : k < 4) : trn (sd n k) = sd n ((k + 1) % 4) := by
  match k, hk with
  | 0, _ => show trn (sd n 0) = sd n 1; exact Prod.ext (by simp only [sd, trn] <;> omega) (Prod.ext (by simp only [sd, trn] <;> omega) (Prod.ext (by simp only [sd, trn] <;> omega) (by simp only [sd, trn] <;> omega)))
  | 1, _ => show trn (sd n 1) = sd n 2; exact Prod.ext (by simp only [sd, trn] <;> omega) (Prod.ext (by simp only [sd, trn] <;> omega) (Prod.ext (by simp only [sd, trn] <;> omega) (by simp only [sd, trn] <;> omega)))
  | 2, _ => show trn (sd n 2) = sd n 3; exact Prod.ext (by simp only [sd, trn] <;> omega) (Prod.ext (by simp only [sd, trn] <;> omega) (Prod.ext (by simp only [sd, trn] <;> omega) (by simp only [sd, trn] <;> omega)))
  | 3, _ => show trn (sd n 3) = sd n 0; exact Prod.ext (by simp only [sd, trn] <;> omega) (Prod.ext (by simp only [sd, trn] <;> omega) (Prod.ext (by simp only [sd, trn] <;> omega) (by simp only [sd, trn] <;> omega)))
/-- Fits each side? The sums of the sides. -/
def sfit (a b : Nat) (n x y : Int) : Bool := bfit a b (sd n 0) x y && (bfit a b (sd n 1) x y && (bfit a b (sd n 2) x y && bfit a b (sd n 3) x y))
def sval (P : List Int) (a : Nat) (n x y : Int) (k : Nat) : Int := bval P a (sd n k) x y

/-- k is the first of the greatest of four numbers; d tells whether it is there again. -/
def Best (V : Nat → Int) (k : Nat) (d : Bool) : Prop := k < 4 ∧ (∀ i, i < k → V i < V k) ∧ (∀ i, i < 4 → V i ≤ V k) ∧ (d = true ↔ ∃ j, k < j ∧ j < 4 ∧ V j = V k)
theorem Best.unique {V : Nat → Int} {k k' : Nat} {d d' : Bool} (h : Best V k d) (h' : Best V k' d') : k = k' ∧ d = d' := by
  obtain ⟨h1, h2, h3, h4⟩ := h
  obtain ⟨g1, g2, g3, g4⟩ := h'
  have e : k = k' := by
    rcases Nat.lt_trichotomy k k' with hl | hl | hl
    · have := g2 k hl; have := h3 k' g1; omega
    · exact hl
    · have := h2 k' hl; have := g3 k h1; omega
  subst e
  exact ⟨rfl, by rw [Bool.eq_iff_iff, h4, g4]⟩
theorem exists_best (V : Nat → Int) : ∃ k d, Best V k d := by
  have hk : ∃ k, k < 4 ∧ (∀ i, i < k → V i < V k) ∧ ∀ i, i < 4 → V i ≤ V k := by
    by_cases h0 : V 1 ≤ V 0 ∧ V 2 ≤ V 0 ∧ V 3 ≤ V 0
    · exact ⟨0, by omega, fun i hi => by omega, fun i hi => by
        have : i = 0 ∨ i = 1 ∨ i = 2 ∨ i = 3 := by omega
        rcases this with rfl | rfl | rfl | rfl <;> omega⟩
    by_cases h1 : V 0 < V 1 ∧ V 2 ≤ V 1 ∧ V 3 ≤ V 1
    · exact ⟨1, by omega, fun i hi => by obtain rfl : i = 0 := by omega
                                         exact h1.1, fun i hi => by
        have : i = 0 ∨ i = 1 ∨ i = 2 ∨ i = 3 := by omega
        rcases this with rfl | rfl | rfl | rfl <;> omega⟩
    by_cases h2 : V 0 < V 2 ∧ V 1 < V 2 ∧ V 3 ≤ V 2
    · exact ⟨2, by omega, fun i hi => by
        have : i = 0 ∨ i = 1 := by omega
        rcases this with rfl | rfl <;> omega, fun i hi => by
        have : i = 0 ∨ i = 1 ∨ i = 2 ∨ i = 3 := by omega
        rcases this with rfl | rfl | rfl | rfl <;> omega⟩
    · exact ⟨3, by omega, fun i hi => by
        have : i = 0 ∨ i = 1 ∨ i = 2 := by omega
        rcases this with rfl | rfl | rfl <;> omega, fun i hi => by
        have : i = 0 ∨ i = 1 ∨ i = 2 ∨ i = 3 := by omega
        rcases this with rfl | rfl | rfl | rfl <;> omega⟩
  obtain ⟨k, h1, h2, h3⟩ := hk
  by_cases hd : ∃ j, k < j ∧ j < 4 ∧ V j = V k
  · exact ⟨k, true, h1, h2, h3, fun _ => hd, fun _ => rfl⟩
  · exact ⟨k, false, h1, h2, h3, fun e => (by cases e), fun e => absurd e hd⟩
/-- Numbers turned by one place. -/
theorem Best.turn {V V' : Nat → Int} (hV : ∀ k, k < 4 → V' ((k + 1) % 4) = V k) {k : Nat} {d : Bool} (h : Best V k d) : ∃ k', Best V' k' d ∧ (d = false → k' = (k + 1) % 4) := by
  obtain ⟨h1, h2, h3, h4⟩ := h
  have e0 := hV 0 (by omega)
  have e1 := hV 1 (by omega)
  have e2 := hV 2 (by omega)
  have e3 := hV 3 (by omega)
  simp only [show (0 + 1) % 4 = 1 from rfl, show (1 + 1) % 4 = 2 from rfl, show (2 + 1) % 4 = 3 from rfl, show (3 + 1) % 4 = 0 from rfl] at e0 e1 e2 e3
  obtain ⟨k', d', g⟩ := exists_best V'
  have hg := g
  obtain ⟨g1, g2, g3, g4⟩ := g
  have a0 := h3 0 (by omega)
  have a1 := h3 1 (by omega)
  have a2 := h3 2 (by omega)
  have a3 := h3 3 (by omega)
  have b0 := g3 0 (by omega)
  have b1 := g3 1 (by omega)
  have b2 := g3 2 (by omega)
  have b3 := g3 3 (by omega)
  have hk : k = 0 ∨ k = 1 ∨ k = 2 ∨ k = 3 := by omega
  have hk' : k' = 0 ∨ k' = 1 ∨ k' = 2 ∨ k' = 3 := by omega
  have hM : V' k' = V k := by
    rcases hk with rfl | rfl | rfl | rfl <;> rcases hk' with rfl | rfl | rfl | rfl <;> omega
  have hno : d = false → ∀ j, j < 4 → V j = V k → j = k := fun hd j hj e => by
    rcases Nat.lt_trichotomy j k with hl | hl | hl
    · have := h2 j hl; omega
    · exact hl
    · have := h4.2 ⟨j, hl, hj, e⟩; rw [hd] at this; cases this
  have hno' : d' = false → ∀ j, j < 4 → V' j = V' k' → j = k' := fun hd j hj e => by
    rcases Nat.lt_trichotomy j k' with hl | hl | hl
    · have := g2 j hl; omega
    · exact hl
    · have := g4.2 ⟨j, hl, hj, e⟩; rw [hd] at this; cases this
  have hpre : ∀ j, j < 4 → ∃ i, i < 4 ∧ (i + 1) % 4 = j := fun j hj => ⟨(j + 3) % 4, by omega, by omega⟩
  have hdd : d = d' := by
    cases d <;> cases d'
    · rfl
    · exfalso
      obtain ⟨j, q1, q2, q3⟩ := g4.1 rfl
      obtain ⟨i, i1, i2⟩ := hpre j q2
      obtain ⟨i', i1', i2'⟩ := hpre k' g1
      have r1 := hno rfl i i1 (by rw [← hV i i1, i2, q3, hM])
      have r2 := hno rfl i' i1' (by rw [← hV i' i1', i2', hM])
      omega
    · exfalso
      obtain ⟨j, q1, q2, q3⟩ := h4.1 rfl
      have r1 := hno' rfl ((j + 1) % 4) (by omega) (by rw [hV j q2, q3, hM])
      have r2 := hno' rfl ((k + 1) % 4) (by omega) (by rw [hV k h1, hM])
      omega
    · rfl
  subst hdd
  exact ⟨k', hg, fun hd => (hno' hd ((k + 1) % 4) (by omega) (by rw [hV k h1, hM])).symm⟩

theorem bval_trnB {a b : Nat} {P : List Int} {q : Bx} {x y : Int} (hq : Bxs q) (hf : bfit a b q x y = true) : bval (turned a b P) b (trn q) y ((a : Int) - 1 - x) = bval P a q x y := by
  have h2 := bfit_iff.1 hf
  unfold Bxs at hq
  unfold bval
  simp only [trn]
  have e : ((a : Int) - 1 - x + (1 - q.1 - q.2.2.1)).toNat = a - (x + q.1).toNat - q.2.2.1.toNat := by omega
  rw [e]
  exact bsum_turned (by omega) (by omega)
theorem sfit_iff {a b : Nat} {n x y : Int} : sfit a b n x y = true ↔ ∀ k, k < 4 → bfit a b (sd n k) x y = true := by
  unfold sfit
  simp only [Bool.and_eq_true]
  constructor
  · rintro ⟨h0, h1, h2, h3⟩ k hk
    have : k = 0 ∨ k = 1 ∨ k = 2 ∨ k = 3 := by omega
    rcases this with rfl | rfl | rfl | rfl
    · exact h0
    · exact h1
    · exact h2
    · exact h3
  · intro h
    exact ⟨h 0 (by omega), h 1 (by omega), h 2 (by omega), h 3 (by omega)⟩
theorem sfit_turn {a b : Nat} {n x y : Int} : sfit b a n y ((a : Int) - 1 - x) = sfit a b n x y := by
  rw [Bool.eq_iff_iff, sfit_iff, sfit_iff]
  constructor
  · intro h k hk
    have := h ((k + 1) % 4) (by omega)
    rw [← sd_trn n hk, bfit_trn] at this
    exact this
  · intro h k hk
    have := h ((k + 3) % 4) (by omega)
    have e := sd_trn n (k := (k + 3) % 4) (by omega)
    rw [show ((k + 3) % 4 + 1) % 4 = k from by omega] at e
    rw [← e, bfit_trn]
    exact this
theorem sval_turn {a b : Nat} {P : List Int} {n x y : Int} (hn : 1 ≤ n ∧ n ≤ 16) (hf : sfit a b n x y = true) {k : Nat} (hk : k < 4) : sval (turned a b P) b n y ((a : Int) - 1 - x) ((k + 1) % 4) = sval P a n x y k := by
  unfold sval
  rw [← sd_trn n hk]
  exact bval_trnB (sd_bxs hn k) (sfit_iff.1 hf k hk)

end Go.Proofs.Ytonpnjjfidpoiaa
