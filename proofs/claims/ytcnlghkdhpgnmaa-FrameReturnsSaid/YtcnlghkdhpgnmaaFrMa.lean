/-
  Residuals and pixels: each list is made from the other one.
-/
import Derived.Test.YtcnlghkdhpgnmaaFrRe
set_option linter.unusedSimpArgs false
set_option linter.unusedVariables false
namespace Go.Proofs.Ytcnlghkdhpgnmaa
open Go.RowKit

theorem diff_resid {d m : Int} (h0 : 0 ≤ d) (h1 : d < m) : diffI (resid d m) = if m < 2 * d then d - m else d := by
  unfold resid
  split
  · split
    · omega
    · unfold diffI; split <;> omega
  · split
    · unfold diffI; split <;> omega
    · unfold diffI; split <;> omega

theorem resid_diff {v m : Int} (h0 : 0 ≤ v) (h1 : v < m) : resid (diffI v % m) m = v := by
  by_cases ho : v % 2 = 1
  · have hd : diffI v = (v + 1) / 2 := by unfold diffI; rw [if_pos ho]
    rw [hd, Int.emod_eq_of_lt (by omega) (by omega)]
    unfold resid
    split
    · omega
    · split <;> omega
  · have hd : diffI v = -(v / 2) := by unfold diffI; rw [if_neg ho]
    by_cases hz : v = 0
    · subst hz
      rw [hd]
      simp [resid]
      omega
    · have e : diffI v % m = m - v / 2 := by
        rw [hd, show -(v / 2) = (m - v / 2) - m from by omega, Int.sub_emod_right, Int.emod_eq_of_lt (by omega) (by omega)]
      rw [e]
      unfold resid
      split
      · split <;> omega
      · omega

theorem pix_back {x p m : Int} (hx : 0 ≤ x) (hx1 : x < m) (hp : 0 ≤ p) (hp1 : p < m) : (p + diffI (resid ((x - p + m) % m) m) + m) % m = x := by
  have e : (x - p + m) % m = if p ≤ x then x - p else x - p + m := by
    rw [Int.add_emod_right]
    split
    · exact Int.emod_eq_of_lt (by omega) (by omega)
    · rw [← Int.add_emod_right, Int.emod_eq_of_lt (by omega) (by omega)]
  rw [e, diff_resid (by split <;> omega) (by split <;> omega)]
  rw [Int.add_emod_right]
  split
  · split
    · rw [show p + (x - p - m) = x - m from by omega, Int.sub_emod_right, Int.emod_eq_of_lt hx hx1]
    · rw [show p + (x - p) = x from by omega, Int.emod_eq_of_lt hx hx1]
  · split
    · rw [show p + (x - p + m - m) = x from by omega, Int.emod_eq_of_lt hx hx1]
    · rw [show p + (x - p + m) = x + m from by omega, Int.add_emod_right, Int.emod_eq_of_lt hx hx1]

theorem res_back {p v m : Int} (hv : 0 ≤ v) (hv1 : v < m) : resid (((p + diffI v + m) % m - p + m) % m) m = v := by
  have e : ((p + diffI v + m) % m - p + m) % m = diffI v % m := by
    rw [Int.emod_def (p + diffI v + m) m, show p + diffI v + m - m * ((p + diffI v + m) / m) - p + m = diffI v + (m * 2 - m * ((p + diffI v + m) / m)) from by omega, ← Int.mul_sub, Int.add_mul_emod_self_left]
  rw [e, resid_diff hv hv1]

/-- The pixels of the residuals of a raster are its pixels. -/
theorem rest_residuals {W : Nat} {M : Int} {P : List Int} (hW : 1 ≤ W) (hM : 0 ≤ M) (h : ∀ g ∈ P, 0 ≤ g ∧ g ≤ M) : rest W M (residuals W M P) = P := by
  have hl : (residuals W M P).length = P.length := residuals_length W M P
  have hr := rest_length W M _ _ hl
  have key : ∀ k i, i < k → i < P.length → nth (rest W M (residuals W M P)) i = nth P i := by
    intro k
    induction k with
    | zero => intro i hi; omega
    | succ k ih =>
      intro i hi hip
      rw [nth_rest hW M _ _ hl i hip, nth_residuals hip]
      have hp : predI W (rest W M (residuals W M P)) i = predI W P i := predI_congr hW fun j hj => ih j (by omega) (by omega)
      rw [hp]
      have h1 := predI_range (W := W) (i := i) h hM
      have h2 := h _ (List.getElem_mem hip)
      rw [← nth_eq hip] at h2
      unfold residI
      exact pix_back (by omega) (by omega) (by omega) (by omega)
  exact nth_ext hr fun i hi => key (i + 1) i (by omega) (by rw [← hr]; exact hi)

/-- The residuals of the pixels with given residuals are these. -/
theorem residuals_rest {W : Nat} {M : Int} {l : List Int} (hW : 1 ≤ W) (hM : 0 ≤ M) (h : ∀ v ∈ l, 0 ≤ v ∧ v ≤ M) : residuals W M (rest W M l) = l := by
  have hr := rest_length W M _ l rfl
  refine nth_ext (by rw [residuals_length, hr]) fun i hi => ?_
  rw [residuals_length] at hi
  rw [nth_residuals hi]
  unfold residI
  rw [hr] at hi
  rw [nth_rest hW M _ l rfl i hi]
  have h2 := h _ (List.getElem_mem hi)
  rw [← nth_eq hi] at h2
  exact res_back h2.1 (by omega)

/-- What is restored has grey values in range. -/
theorem rest_range {W : Nat} {M : Int} {l : List Int} (hW : 1 ≤ W) (hM : 0 ≤ M) : ∀ g ∈ rest W M l, 0 ≤ g ∧ g ≤ M := by
  intro g hg
  obtain ⟨i, hi, rfl⟩ := List.getElem_of_mem hg
  rw [rest_length W M _ l rfl] at hi
  rw [← nth_eq, nth_rest hW M _ l rfl i hi]
  exact ⟨Int.emod_nonneg _ (by omega), by have := Int.emod_lt_of_pos (predI W (rest W M l) i + diffI (nth l i) + (M + 1)) (b := M + 1) (by omega); omega⟩

end Go.Proofs.Ytcnlghkdhpgnmaa
