/-
  Grey values that are changed by a linear function (mathematics).
-/
import Derived.Test.YtnnaojaadjafbaaCoSe
set_option linter.unusedSimpArgs false
set_option linter.unusedVariables false
namespace Go.Proofs.Ytnnaojaadjafbaa
open Go.RowKit

theorem nth_map {P : List Int} {f : Int → Int} {i : Nat} (h : i < P.length) : nth (P.map f) i = f (nth P i) := by
  rw [nth_eq (by simpa using h), nth_eq h, List.getElem_map]

theorem mul4 (k x y : Int) : k * x * (k * y) = k * k * (x * y) := by
  rw [Int.mul_assoc, Int.mul_left_comm x k y, ← Int.mul_assoc]

theorem map_sums {a b : Nat} {P : List Int} {f : Int → Int} {k : Int} (hl : P.length = a * b) (hf : ∀ x y, f x - f y = k * (x - y)) {x y : Nat} (hm : Mid a b x y) : ∀ m : Nat, m ≤ 9 →
    sA a (P.map f) (y * a + x) m = k * k * sA a P (y * a + x) m ∧ sB a (P.map f) (y * a + x) m = k * k * sB a P (y * a + x) m ∧ sC a (P.map f) (y * a + x) m = k * k * sC a P (y * a + x) m
  | 0, _ => by simp [sA, sB, sC]
  | m + 1, h => by
    obtain ⟨h1, h2, h3⟩ := map_sums hl hf hm m (by omega)
    have hn := nine_in (n := a * b) (j := m / 3) (i := m % 3) hm rfl (Nat.mod_lt _ (by omega)) (by omega)
    have he := nine_eq (a := a) (x := x) (y := y) (j := m / 3) (i := m % 3) (Nat.mod_lt _ (by omega)) (by have := hm.1.1; omega) (by have := hm.2.1; omega)
    rw [show 3 * (m / 3) + m % 3 = m from by omega] at he
    rw [he] at hn
    have ha : 1 ≤ a := by have := hm.1.1; have := hm.1.2; omega
    have gx : gX (P.map f) (nine a (y * a + x) m) = k * gX P (nine a (y * a + x) m) := by
      unfold gX
      rw [nth_map (by omega), nth_map (by omega), hf]
    have gy : gY a (P.map f) (nine a (y * a + x) m) = k * gY a P (nine a (y * a + x) m) := by
      unfold gY
      rw [nth_map (by omega), nth_map (by omega), hf]
    simp only [sA, sB, sC]
    rw [h1, h2, h3, gx, gy, mul4, mul4, mul4, ← Int.mul_add, ← Int.mul_add, ← Int.mul_add]
    exact ⟨rfl, rfl, rfl⟩
theorem scF_mul (K A B C : Int) : scF (K * A) (K * B) (K * C) = K * K * scF A B C := by
  unfold scF
  rw [mul4, mul4, ← Int.mul_add, mul4, ← Int.mul_sub, Int.mul_left_comm 25, ← Int.mul_sub]
theorem map_score {a b : Nat} {P : List Int} {f : Int → Int} {k : Int} (hl : P.length = a * b) (hf : ∀ x y, f x - f y = k * (x - y)) (i : Nat) (ha : 1 ≤ a) : scoreAt a b (P.map f) i = k * k * (k * k) * scoreAt a b P i := by
  unfold scoreAt
  obtain ⟨e1, e2⟩ := mod_div_nat i a ha
  split
  · rename_i hm
    obtain ⟨h1, h2, h3⟩ := map_sums hl hf hm 9 (by omega)
    rw [e1] at h1 h2 h3
    unfold sc
    rw [h1, h2, h3, scF_mul]
  · simp
theorem map_scores {a b : Nat} {P : List Int} {f : Int → Int} {k : Int} (hl : P.length = a * b) (hf : ∀ x y, f x - f y = k * (x - y)) (ha : 1 ≤ a) : scoresL a b (P.map f) = (scoresL a b P).map (fun s => s * (k * k * k * k)) := by
  unfold scoresL tab
  rw [List.map_map]
  apply List.map_congr_left
  intro i _
  rw [map_score hl hf i ha]
  show _ = scoreAt a b P i * (k * k * k * k)
  rw [Int.mul_comm (scoreAt a b P i), ← Int.mul_assoc (k * k) k k]
theorem map_one (l : List Int) : l.map (fun s => s * (1 * 1 * 1 * 1)) = l := by
  conv => rhs; rw [← List.map_id l]
  apply List.map_congr_left
  intro s _
  simp
theorem neg_scores {a b : Nat} {P : List Int} (M : Int) (hl : P.length = a * b) (ha : 1 ≤ a) : scoresL a b (P.map fun x => M - x) = scoresL a b P := by
  rw [map_scores (k := -1) hl (fun x y => by omega) ha]
  exact map_one _
theorem add_scores {a b : Nat} {P : List Int} (d : Int) (hl : P.length = a * b) (ha : 1 ≤ a) : scoresL a b (P.map fun x => x + d) = scoresL a b P := by
  rw [map_scores (k := 1) hl (fun x y => by omega) ha]
  exact map_one _
theorem mul_scores {a b : Nat} {P : List Int} (k : Int) (hl : P.length = a * b) (ha : 1 ≤ a) : scoresL a b (P.map fun x => x * k) = (scoresL a b P).map (fun s => s * (k * k * k * k)) :=
  map_scores hl (fun x y => by rw [Int.mul_comm x, Int.mul_comm y, ← Int.mul_sub]) ha

theorem map_scr {a b : Nat} {M M' : Int} {P : List Int} {f : Int → Int} (h : Scr a b M P) (hM : 1 ≤ M') (hM2 : M' ≤ 1023) (hf : ∀ x, 0 ≤ x → x ≤ M → 0 ≤ f x ∧ f x ≤ M') : Scr a b M' (P.map f) := by
  obtain ⟨⟨⟨h1, h2, h3⟩, h4, h5⟩, h6⟩ := h
  refine ⟨⟨⟨h1, h2, hM, by omega⟩, by rw [List.length_map]; exact h4, fun g hg => ?_⟩, hM2⟩
  obtain ⟨x, hx, rfl⟩ := List.mem_map.1 hg
  exact hf x (h5 x hx).1 (h5 x hx).2

end Go.Proofs.Ytnnaojaadjafbaa
