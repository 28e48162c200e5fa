/-
  Sizes of files; residuals of pixels that have been moved together.
-/
import Derived.Test.YtcnlghkdhpgnmaaFrMa
import Derived.Test.YtcnlghkdhpgnmaaFrEa
set_option linter.unusedSimpArgs false
set_option linter.unusedVariables false
namespace Go.Proofs.Ytcnlghkdhpgnmaa
open Go.RowKit

theorem codes_len {l : List Int} (h : Row l) (k : Nat) : ((codes k l).length : Int) = bitsOf l k := by
  induction l with
  | nil => rfl
  | cons v l ih =>
    have h1 := ih fun x hx => h x (List.mem_cons_of_mem _ hx)
    have h2 := h v (List.mem_cons_self)
    have h3 : 0 ≤ v / ((2 ^ k : Nat) : Int) := Int.ediv_nonneg h2.1 (Int.natCast_nonneg _)
    have e : codes k (v :: l) = code k v ++ codes k l := by simp [codes]
    have e2 : bitsOf (v :: l) k = v / ((2 ^ k : Nat) : Int) + 1 + (k : Int) + bitsOf l k := by simp [bitsOf]
    rw [e, List.length_append, code_length, e2, ← h1]
    omega
theorem bits16 {l : List Int} (h : Row l) : bitsOf l 16 = 17 * (l.length : Int) := by
  induction l with
  | nil => rfl
  | cons v l ih =>
    have h1 := ih fun x hx => h x (List.mem_cons_of_mem _ hx)
    have h2 := h v (List.mem_cons_self)
    have e2 : bitsOf (v :: l) 16 = v / ((2 ^ 16 : Nat) : Int) + 1 + ((16 : Nat) : Int) + bitsOf l 16 := by simp [bitsOf]
    have e3 : v / ((2 ^ 16 : Nat) : Int) = 0 := by
      rw [show ((2 ^ 16 : Nat) : Int) = 65536 from rfl]; omega
    rw [e2, h1, e3, List.length_cons]
    omega
theorem rowB_le {l : List Int} (h : Row l) {W : Nat} (hl : l.length ≤ W) : (rowB l).length ≤ 1 + (17 * W + 7) / 8 := by
  have h1 := codes_len h (best l)
  have h2 := bestTo_least l 16 16 (Nat.le_refl _)
  rw [bits16 h] at h2
  have h3 : bitsOf l (bestTo l 16) = bitsOf l (best l) := rfl
  rw [h3] at h2
  show (pack (codes (best l) l)).length + 1 ≤ _
  rw [pack_length]
  omega
theorem flatMap_le {α : Type} {f : α → List Int} {K : Nat} : ∀ xs : List α, (∀ x ∈ xs, (f x).length ≤ K) → (xs.flatMap f).length ≤ xs.length * K
  | [], _ => by simp
  | x :: xs, h => by
    have h1 := flatMap_le xs fun y hy => h y (List.mem_cons_of_mem _ hy)
    have h2 := h x (List.mem_cons_self)
    rw [List.flatMap_cons, List.length_append, List.length_cons, Nat.succ_mul]
    omega
theorem residuals_row {W H : Nat} {M : Int} {P : List Int} (hr : Ras W H M P) : Row (residuals W M P) := fun v hv => by
  obtain ⟨i, hi, rfl⟩ := List.getElem_of_mem hv
  rw [residuals_length] at hi
  have hM := hr.1.2.2
  rw [← nth_eq, nth_residuals hi]
  unfold residI
  have := resid_range (r := (nth P i - predI W P i + (M + 1)) % (M + 1)) (m := M + 1) (Int.emod_nonneg _ (by omega)) (Int.emod_lt_of_pos _ (by omega))
  omega
theorem fileB_le {E : List Ent} {W H : Nat} {M : Int} {P : List Int} (hr : Ras W H M P) : (fileB E W H M P).length ≤ 20 + (E.flatMap ent).length + H * (1 + (17 * W + 7) / 8) := by
  have h1 := flatMap_le (f := fun y => rowB (rowOf W (residuals W M P) y)) (K := 1 + (17 * W + 7) / 8) (List.range H) fun y _ => rowB_le (row_of W (residuals_row hr) y) (by unfold rowOf; rw [List.length_take]; omega)
  rw [List.length_range] at h1
  unfold fileB
  simp only [List.length_append]
  have h2 : headB.length = 7 := rfl
  have h3 : ∀ n, (word n).length = 4 := fun _ => rfl
  rw [h2, h3, h3, h3]
  simp only [List.length_cons, List.length_nil]
  omega

/-- A pixel behind moving all. -/
def mov (a m g : Int) : Int := (g + a) % m
theorem mov_diff (x y a m : Int) : (mov a m x - mov a m y + m) % m = (x - y + m) % m := by
  unfold mov
  rw [Int.emod_def (x + a) m, Int.emod_def (y + a) m, show x + a - m * ((x + a) / m) - (y + a - m * ((y + a) / m)) + m = (x - y + m) + (m * ((y + a) / m) - m * ((x + a) / m)) from by omega, ← Int.mul_sub, Int.add_mul_emod_self_left]
theorem predI_line {W : Nat} {P : List Int} {i : Nat} (hi : 0 < i) (hW : W = 1 ∨ i < W) : predI W P i = nth P (i - 1) := by
  unfold predI
  rw [if_neg (by omega)]
  by_cases h : i < W
  · rw [if_pos h]
  · obtain rfl : W = 1 := by omega
    rw [if_neg h, if_pos (Nat.mod_one i)]
theorem nth_map {f : Int → Int} {P : List Int} {i : Nat} (h : i < P.length) : nth (P.map f) i = f (nth P i) := by
  rw [nth_eq (by rw [List.length_map]; exact h), nth_eq h, List.getElem_map]
theorem residuals_moved {W H : Nat} {M a : Int} {P : List Int} (hr : Ras W H M P) (h1 : W = 1 ∨ H = 1) : (residuals W M (P.map (mov a (M + 1)))).drop 1 = (residuals W M P).drop 1 := by
  have hlen : P.length = W * H := by
    have := hr.2.1
    have e : ((W * H : Nat) : Int) = (W : Int) * (H : Int) := by simp
    omega
  have hW1 := hr.1.1.1
  refine nth_ext (by simp [residuals_length]) fun i hi => ?_
  rw [List.length_drop, residuals_length, List.length_map] at hi
  rw [nth_drop, nth_drop, nth_residuals (by rw [List.length_map]; omega), nth_residuals (by omega)]
  unfold residI
  have hl : W = 1 ∨ 1 + i < W := by
    rcases h1 with h | h
    · exact .inl h
    · right; rw [h, Nat.mul_one] at hlen; omega
  rw [predI_line (by omega) hl, predI_line (by omega) hl, nth_map (by omega), nth_map (by omega), mov_diff]
theorem moved_ras {W H : Nat} {M a : Int} {P : List Int} (hr : Ras W H M P) : Ras W H M (P.map (mov a (M + 1))) := by
  refine ⟨hr.1, by rw [List.length_map]; exact hr.2.1, fun g hg => ?_⟩
  obtain ⟨x, hx, rfl⟩ := List.mem_map.1 hg
  have := hr.1.2.2.1
  unfold mov
  exact ⟨Int.emod_nonneg _ (by omega), by have := Int.emod_lt_of_pos (x + a) (b := M + 1) (by omega); omega⟩

end Go.Proofs.Ytcnlghkdhpgnmaa
