/-
  Transposing a raster exchanges its scores (mathematics).
-/
import Derived.Test.YtnnaojaadjafbaaCoSc
set_option linter.unusedSimpArgs false
set_option linter.unusedVariables false
namespace Go.Proofs.Ytnnaojaadjafbaa
open Go.RowKit

theorem nine_eq' {a x y j i : Nat} (hi : i < 3) (hx : 1 ≤ x) (hy : 1 ≤ y) : (y + j - 1) * a + (x + i - 1) = nine a (y * a + x) (3 * j + i) := by
  unfold nine
  have e1 : (3 * j + i) / 3 = j := by omega
  have e2 : (3 * j + i) % 3 = i := by omega
  rw [e1, e2]
  obtain ⟨y', rfl⟩ : ∃ y', y = y' + 1 := ⟨y - 1, by omega⟩
  rw [show y' + 1 + j - 1 = y' + j from by omega, Nat.add_mul, Nat.add_mul, Nat.one_mul]
  omega

/-- The pixels with rows and columns exchanged (a columns, b rows before). -/
def trF (a b : Nat) (P : List Int) (k : Nat) : Int := nth P ((k % b) * a + k / b)
def trL (a b : Nat) (P : List Int) : List Int := tab (a * b) (trF a b P)
theorem tr_nth {a b : Nat} {P : List Int} {x y : Nat} (hx : x < a) (hy : y < b) : nth (trL a b P) (x * b + y) = nth P (y * a + x) := by
  have hk : x * b + y < a * b := row_lt hx hy
  unfold trL
  rw [nth_tab hk]
  unfold trF
  rw [row_mod hy, row_div hy]
theorem tr_gX {a b : Nat} {P : List Int} {x y : Nat} (hx : x < a) (hy1 : 1 ≤ y) (hy : y + 1 < b) : gX (trL a b P) (x * b + y) = gY a P (y * a + x) := by
  unfold gX gY
  have e1 : x * b + y + 1 = x * b + (y + 1) := by omega
  have e2 : x * b + y - 1 = x * b + (y - 1) := by omega
  rw [e1, e2, tr_nth hx hy, tr_nth hx (show y - 1 < b by omega)]
  obtain ⟨y', rfl⟩ : ∃ y', y = y' + 1 := ⟨y - 1, by omega⟩
  have e3 : (y' + 1 + 1) * a + x = (y' + 1) * a + x + a := by rw [Nat.add_mul (y' + 1) 1 a]; omega
  have e4 : (y' + 1 - 1) * a + x = (y' + 1) * a + x - a := by rw [Nat.add_sub_cancel, Nat.add_mul, Nat.one_mul]; omega
  rw [e3, e4]
theorem tr_gY {a b : Nat} {P : List Int} {x y : Nat} (hx1 : 1 ≤ x) (hx : x + 1 < a) (hy : y < b) : gY b (trL a b P) (x * b + y) = gX P (y * a + x) := by
  unfold gX gY
  obtain ⟨x', rfl⟩ : ∃ x', x = x' + 1 := ⟨x - 1, by omega⟩
  have e1 : (x' + 1) * b + y + b = (x' + 1 + 1) * b + y := by rw [Nat.add_mul (x' + 1) 1 b]; omega
  have e2 : (x' + 1) * b + y - b = x' * b + y := by rw [Nat.add_mul, Nat.one_mul]; omega
  rw [e1, e2, tr_nth hx hy, tr_nth (show x' < a by omega) hy]
  have e3 : y * a + (x' + 1) + 1 = y * a + (x' + 1 + 1) := by omega
  have e4 : y * a + (x' + 1) - 1 = y * a + x' := by omega
  rw [e3, e4]

/-- The place of the nine that is exchanged. -/
def tr9 (m : Nat) : Nat := 3 * (m % 3) + m / 3
theorem tr_nine {a b : Nat} {P : List Int} {x y : Nat} (h : Mid a b x y) {m : Nat} (hm : m < 9) :
    gX (trL a b P) (nine b (x * b + y) m) = gY a P (nine a (y * a + x) (tr9 m)) ∧ gY b (trL a b P) (nine b (x * b + y) m) = gX P (nine a (y * a + x) (tr9 m)) := by
  obtain ⟨⟨h1, h2⟩, h3, h4⟩ := h
  have hd : m / 3 < 3 := by omega
  have hr : m % 3 < 3 := Nat.mod_lt _ (by omega)
  have e1 := nine_eq' (a := b) (x := y) (y := x) (j := m / 3) (i := m % 3) hr (by omega) (by omega)
  have e2 := nine_eq' (a := a) (x := x) (y := y) (j := m % 3) (i := m / 3) hd (by omega) (by omega)
  rw [show 3 * (m / 3) + m % 3 = m from by omega] at e1
  have e3 : tr9 m = 3 * (m % 3) + m / 3 := rfl
  rw [← e1, e3, ← e2]
  exact ⟨tr_gX (by omega) (by omega) (by omega), tr_gY (by omega) (by omega) (by omega)⟩

theorem tr_sums {a b : Nat} {P : List Int} {x y : Nat} (h : Mid a b x y) :
    sA b (trL a b P) (x * b + y) 9 = sC a P (y * a + x) 9 ∧ sB b (trL a b P) (x * b + y) 9 = sB a P (y * a + x) 9 ∧ sC b (trL a b P) (x * b + y) 9 = sA a P (y * a + x) 9 := by
  have k := fun m hm => tr_nine (P := P) h (m := m) hm
  obtain ⟨p0, q0⟩ := k 0 (by omega)
  obtain ⟨p1, q1⟩ := k 1 (by omega)
  obtain ⟨p2, q2⟩ := k 2 (by omega)
  obtain ⟨p3, q3⟩ := k 3 (by omega)
  obtain ⟨p4, q4⟩ := k 4 (by omega)
  obtain ⟨p5, q5⟩ := k 5 (by omega)
  obtain ⟨p6, q6⟩ := k 6 (by omega)
  obtain ⟨p7, q7⟩ := k 7 (by omega)
  obtain ⟨p8, q8⟩ := k 8 (by omega)
  simp only [sA, sB, sC]
  simp only [p0, q0, p1, q1, p2, q2, p3, q3, p4, q4, p5, q5, p6, q6, p7, q7, p8, q8]
  simp only [show tr9 0 = 0 from rfl, show tr9 1 = 3 from rfl, show tr9 2 = 6 from rfl, show tr9 3 = 1 from rfl, show tr9 4 = 4 from rfl, show tr9 5 = 7 from rfl, show tr9 6 = 2 from rfl, show tr9 7 = 5 from rfl, show tr9 8 = 8 from rfl]
  generalize gX P (nine a (y * a + x) 0) = x0
  generalize gX P (nine a (y * a + x) 1) = x1
  generalize gX P (nine a (y * a + x) 2) = x2
  generalize gX P (nine a (y * a + x) 3) = x3
  generalize gX P (nine a (y * a + x) 4) = x4
  generalize gX P (nine a (y * a + x) 5) = x5
  generalize gX P (nine a (y * a + x) 6) = x6
  generalize gX P (nine a (y * a + x) 7) = x7
  generalize gX P (nine a (y * a + x) 8) = x8
  generalize gY a P (nine a (y * a + x) 0) = y0
  generalize gY a P (nine a (y * a + x) 1) = y1
  generalize gY a P (nine a (y * a + x) 2) = y2
  generalize gY a P (nine a (y * a + x) 3) = y3
  generalize gY a P (nine a (y * a + x) 4) = y4
  generalize gY a P (nine a (y * a + x) 5) = y5
  generalize gY a P (nine a (y * a + x) 6) = y6
  generalize gY a P (nine a (y * a + x) 7) = y7
  generalize gY a P (nine a (y * a + x) 8) = y8
  rw [Int.mul_comm y0 x0, Int.mul_comm y1 x1, Int.mul_comm y2 x2, Int.mul_comm y3 x3, Int.mul_comm y4 x4, Int.mul_comm y5 x5, Int.mul_comm y6 x6, Int.mul_comm y7 x7, Int.mul_comm y8 x8]
  refine ⟨?_, ?_, ?_⟩ <;> omega
theorem scF_comm (A B C : Int) : scF C B A = scF A B C := by
  unfold scF
  rw [Int.mul_comm C A, Int.add_comm C A]
theorem tr_score {a b : Nat} {P : List Int} {x y : Nat} (hx : x < a) (hy : y < b) : scoreAt b a (trL a b P) (x * b + y) = scoreAt a b P (y * a + x) := by
  unfold scoreAt
  rw [row_mod hy, row_div hy, row_mod hx, row_div hx]
  have hc : Mid b a y x ↔ Mid a b x y := ⟨fun h => ⟨h.2, h.1⟩, fun h => ⟨h.2, h.1⟩⟩
  by_cases h : Mid a b x y
  · rw [if_pos h, if_pos (hc.2 h)]
    obtain ⟨e1, e2, e3⟩ := tr_sums (P := P) h
    unfold sc
    rw [e1, e2, e3, scF_comm]
  · rw [if_neg h, if_neg (fun e => h (hc.1 e))]
/-- Exchanging rows and columns exchanges the scores. -/
theorem tr_scores {a b : Nat} {P : List Int} {x y : Nat} (hx : x < a) (hy : y < b) : nth (scoresL b a (trL a b P)) (x * b + y) = nth (scoresL a b P) (y * a + x) := by
  unfold scoresL
  rw [nth_tab (by rw [Nat.mul_comm b a]; exact row_lt hx hy), nth_tab (by rw [Nat.mul_comm a b]; exact row_lt hy hx), tr_score hx hy]

end Go.Proofs.Ytnnaojaadjafbaa
