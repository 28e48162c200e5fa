/-
  Walks: prediction, residual, difference and residualsOf of package frame.
-/
import Derived.Test.YtfkoboljobghkaaFrM8
import Derived.IntWalk
import Derived.Deep.QuietTactic
import Derived.BigQuiet
set_option linter.unusedSimpArgs false
set_option linter.unusedVariables false
namespace Go.Proofs.Ytfkoboljobghkaa
open Go.RowKit

theorem residual_any (r m : Int) (w : World) (h0 : 0 ≤ r) (h1 : r < m) (hm : m ≤ 65536) {s : Int} (hs : resid r m = s) :
    Calls Try.prog 76 #[.int .i64 r, .int .i64 m] w fun e w' => e = .returned (.int .i64 s) ∧ w' = w := by
  unfold resid at hs
  by_cases h2 : m < 2 * r
  · rw [if_pos h2] at hs
    have h3 : ¬ 0 < r - m := by omega
    rw [if_neg h3] at hs
    replace hs := Lib.hid hs
    go_enter Try.func76, Try.ntmps76
    go_wp2
    go_ret
    exact ⟨ret_int (by rw [← hs.out]), rfl⟩
  · rw [if_neg h2] at hs
    by_cases h3 : 0 < r
    · rw [if_pos h3] at hs
      replace hs := Lib.hid hs
      go_enter Try.func76, Try.ntmps76
      go_wp2
      go_ret
      exact ⟨ret_int (by rw [← hs.out]), rfl⟩
    · rw [if_neg h3] at hs
      replace hs := Lib.hid hs
      go_enter Try.func76, Try.ntmps76
      go_wp2
      go_ret
      exact ⟨ret_int (by rw [← hs.out]), rfl⟩

theorem difference_any (v : Int) (w : World) (h0 : 0 ≤ v) (h1 : v ≤ 65535) {s : Int} (hs : diffI v = s) :
    Calls Try.prog 55 #[.int .i64 v] w fun e w' => e = .returned (.int .i64 s) ∧ w' = w := by
  unfold diffI at hs
  by_cases h2 : v % 2 = 1
  · rw [if_pos h2] at hs
    have h3 : v.tmod 2 = 1 := by rw [Int.tmod_eq_emod_of_nonneg h0]; exact h2
    replace hs := Lib.hid hs
    go_enter Try.func55, Try.ntmps55
    go_wp2
    go_ret
    exact ⟨ret_int (by rw [← hs.out]), rfl⟩
  · rw [if_neg h2] at hs
    have h3 : ¬ v.tmod 2 = 1 := by rw [Int.tmod_eq_emod_of_nonneg h0]; exact h2
    replace hs := Lib.hid hs
    go_enter Try.func55, Try.ntmps55
    go_wp2
    go_ret
    exact ⟨ret_int (by rw [← hs.out, Int.tdiv_eq_ediv_of_nonneg h0, IntWalk.wrap64_in _ (by omega)]), rfl⟩

set_option maxHeartbeats 3200000 in
set_option maxRecDepth 100000 in
theorem prediction_any (W i : Nat) (H M : Int) (b off n c : Nat) (P : List Int) (w : World) (h : Sl w (some ⟨b, off, none⟩) n c P) (hW : 1 ≤ W) (hW2 : W ≤ 64) (hi : i < n) (hn : n ≤ 4096) (hP : ∀ g ∈ P, 0 ≤ g ∧ g ≤ 65535) {s : Int} (hs : predI W P i = s) {u : Int} (hu : u = (i : Int)) :
    Calls Try.prog 54 #[.agg #[.int .i64 (W : Int), .int .i64 H, .int .i64 M, .slice (some ⟨b, off, none⟩) n c], .int .i64 u] w fun e w' => e = .returned (.int .i64 s) ∧ Below w.heap.size w w' := by
  subst hu
  have hb0 := (Below.refl w.heap.size w).alloc (Nat.le_refl _) (.cells #[.int .i64 (W : Int), .int .i64 H, .int .i64 M, .slice (some ⟨b, off, none⟩) n c] 25)
  have hcap := h.le_cap
  have hcl := h.cap_le
  have hN : ∀ j, 0 ≤ nth P j ∧ nth P j ≤ 65535 := fun j => by
    by_cases hj : j < P.length
    · rw [nth_eq hj]; exact hP _ (List.getElem_mem hj)
    · rw [nth_end (by omega)]; omega
  obtain ⟨b', off', e', hbw, hc⟩ := (h.alloc (.cells #[.int .i64 (W : Int), .int .i64 H, .int .i64 M, .slice (some ⟨b, off, none⟩) n c] 25)).at_ (by omega)
  cases e'
  clear h
  unfold predI at hs
  by_cases h0 : i = 0
  · subst h0
    rw [if_pos rfl] at hs
    replace hs := Lib.hid hs
    clear hc hN
    go_enter Try.func54, Try.ntmps54
    go_wp2
    go_ret
    exact ⟨ret_int hs.out, hb0⟩
  rw [if_neg h0] at hs
  by_cases h1 : i < W
  · rw [if_pos h1] at hs
    obtain ⟨m, rfl⟩ : ∃ m, i = m + 1 := ⟨i - 1, by omega⟩
    have c1 := hc m (by omega)
    rw [Nat.add_sub_cancel] at hs
    rw [hs] at c1
    replace hs := Lib.hid hs
    clear hc hN
    go_enter Try.func54, Try.ntmps54
    go_wp2
    go_ret
    exact ⟨rfl, hb0⟩
  rw [if_neg h1] at hs
  obtain ⟨m, rfl⟩ : ∃ m, i = m + W := ⟨i - W, by omega⟩
  have c2 := hc m (by omega)
  have hWz : (W : Int) ≠ 0 := by omega
  by_cases h2 : (m + W) % W = 0
  · rw [if_pos h2, Nat.add_sub_cancel] at hs
    rw [hs] at c2
    have h3 : ((m : Int) % (W : Int) == 0) = true := by
      rw [Nat.add_mod_right] at h2
      rw [beq_iff_eq]
      exact congrArg (Nat.cast (R := Int)) h2
    replace hs := Lib.hid hs
    replace h2 := Lib.hid h2
    clear hc hN
    go_enter Try.func54, Try.ntmps54
    go_wp2
    go_ret
    exact ⟨rfl, hb0⟩
  · rw [if_neg h2] at hs
    rw [Nat.add_mod_right] at h2
    have hm0 : m ≠ 0 := by rintro rfl; exact h2 (Nat.zero_mod _)
    obtain ⟨p, rfl⟩ : ∃ p, m = p + 1 := ⟨m - 1, by omega⟩
    have h3 : (((p : Int) + 1) % (W : Int) == 0) = false := by
      rw [beq_eq_false_iff_ne]
      intro e
      exact h2 (by have : (((p + 1) % W : Nat) : Int) = 0 := by simpa using e
                   omega)
    have h3' : (((p + 1 : Nat) : Int) % (W : Int) == 0) = false := by simpa using h3
    have c1 := hc (p + W) (by omega)
    have c3 := hc p (by omega)
    rw [show p + 1 + W - 1 = p + W from by omega, show p + 1 + W - W = p + 1 from by omega, show p + 1 - 1 = p from by omega] at hs
    have r1 := hN (p + W)
    have r2 := hN (p + 1)
    have r3 := hN p
    obtain ⟨x, hx⟩ : ∃ x, nth P (p + W) = x := ⟨_, rfl⟩
    obtain ⟨y, hy⟩ : ∃ y, nth P (p + 1) = y := ⟨_, rfl⟩
    obtain ⟨z, hz⟩ : ∃ z, nth P p = z := ⟨_, rfl⟩
    rw [hx] at c1 hs r1
    rw [hy] at c2 hs r2
    rw [hz] at c3 hs r3
    replace hx := Lib.hid hx
    replace hy := Lib.hid hy
    replace hz := Lib.hid hz
    replace h2 := Lib.hid h2
    clear hc hN hP
    replace hs := Lib.hid hs
    go_enter Try.func54, Try.ntmps54
    go_wp2
    go_quiet (fail)
    by_cases q : x ≤ y
    all_goals by_cases q1 : x ≤ z
    all_goals by_cases q2 : y ≤ z
    all_goals by_cases q3 : z ≤ x
    all_goals by_cases q4 : z ≤ y
    all_goals first | (exfalso; omega) | skip
    all_goals
      go_wp2
    all_goals
      go_ret
      refine ⟨ret_int ?_, below_drewN hb0 _⟩
      rw [← hs.out]
      split
      · omega
      · split <;> omega

end Go.Proofs.Ytfkoboljobghkaa
