/-
  Walks: within, isStretch, isBox of package descriptor; slices.IndexFunc and slices.ContainsFunc at tests; Check of patterns.
-/
import Derived.Test.YtonpnjjfidpoiaaDsPat
set_option linter.unusedSimpArgs false
set_option linter.unusedVariables false
namespace Go.Proofs.Ytonpnjjfidpoiaa
open Go.RowKit

theorem dwithin_any (a lo hi : Int) (w : World) :
    Calls Try.prog 38 #[.int .i64 a, .int .i64 lo, .int .i64 hi] w fun e w' => e = .returned (.bool (win a lo hi)) ∧ w = w' := by
  by_cases h1 : lo ≤ a
  · by_cases h2 : a ≤ hi
    · have hw := Lib.hid (win_iff.2 ⟨h1, h2⟩)
      go_enter Try.func38, Try.ntmps38
      go_wp2
      go_ret
      exact ⟨ret_bool hw.out.symm, rfl⟩
    · have hw : Hid (win a lo hi = false) := Lib.hid (win_no.2 fun h => h2 h.2)
      have h2 := Int.not_le.1 h2
      go_enter Try.func38, Try.ntmps38
      go_wp2
      go_ret
      exact ⟨ret_bool (by first | (rw [hw.out]; done) | (rw [hw.out]; simp <;> omega)), rfl⟩
  · have hw : Hid (win a lo hi = false) := Lib.hid (win_no.2 fun h => h1 h.1)
    have h1 := Int.not_le.1 h1
    go_enter Try.func38, Try.ntmps38
    go_wp2
    go_ret
    exact ⟨ret_bool (by first | (rw [hw.out]; done) | (rw [hw.out]; simp <;> omega)), rfl⟩
theorem dwithin_at {a lo hi : Int} {b : Bool} (h : win a lo hi = b) (w : World) :
    Calls Try.prog 38 #[.int .i64 a, .int .i64 lo, .int .i64 hi] w fun e w' => e = .returned (.bool b) ∧ w = w' := h ▸ dwithin_any a lo hi w

theorem isStretch_at {f k : Int} {b : Bool} (h : strch f k = b) (w : World) :
    Calls Try.prog 54 #[.int .i64 f, .int .i64 k] w fun e w' => e = .returned (.bool b) ∧ w = w' := by
  obtain ⟨b1, h1⟩ : ∃ t, win k 1 8 = t := ⟨_, rfl⟩
  obtain ⟨b2, h2⟩ : ∃ t, win f (-16) (17 - k) = t := ⟨_, rfl⟩
  have hb : b = (b1 && b2) := by rw [← h, ← h1, ← h2]; rfl
  clear h
  cases b1
  · subst hb
    replace h1 := Lib.hid h1
    go_enter Try.func54, Try.ntmps54
    go_wp2_with (go_at_call 38; refine (dwithin_at h1.out _).mono ?_; rintro e w' ⟨rfl, rfl⟩)
    go_ret
    exact ⟨rfl, rfl⟩
  · obtain ⟨k1, k2⟩ := win_iff.1 h1
    replace h1 := Lib.hid h1
    replace h2 := Lib.hid h2
    cases b2
    all_goals
      subst hb
      have tok1 : True := trivial
      go_enter Try.func54, Try.ntmps54
      go_wp2_with (first | (go_at_call 38; clear tok1; refine (dwithin_at h1.out _).mono ?_; rintro e w' ⟨rfl, rfl⟩) | (go_at_call 38; refine (dwithin_at h2.out _).mono ?_; rintro e w' ⟨rfl, rfl⟩))
      go_ret
      exact ⟨rfl, rfl⟩

theorem isBox_at {x y u v : Int} {b : Bool} (h : bxok (x, y, u, v) = b) (w : World) :
    Calls Try.prog 37 #[.agg #[.int .i64 x, .int .i64 y, .int .i64 u, .int .i64 v]] w fun e w' => e = .returned (.bool b) ∧ Below w.heap.size w w' := by
  obtain ⟨b1, h1⟩ : ∃ t, strch x u = t := ⟨_, rfl⟩
  obtain ⟨b2, h2⟩ : ∃ t, strch y v = t := ⟨_, rfl⟩
  have hb : b = (b1 && b2) := by rw [← h, ← h1, ← h2]; rfl
  clear h
  have hB := (Below.refl w.heap.size w).alloc (Nat.le_refl _) (.cells #[.int .i64 x, .int .i64 y, .int .i64 u, .int .i64 v] 28)
  replace h1 := Lib.hid h1
  replace h2 := Lib.hid h2
  cases b1
  · subst hb
    go_enter Try.func37, Try.ntmps37
    go_wp2_with (go_at_call 54; refine (isStretch_at h1.out _).mono ?_; rintro e w' ⟨rfl, rfl⟩)
    go_ret
    exact ⟨rfl, hB⟩
  · cases b2
    all_goals
      subst hb
      have tok1 : True := trivial
      go_enter Try.func37, Try.ntmps37
      go_wp2_with (first | (go_at_call 54; clear tok1; refine (isStretch_at h1.out _).mono ?_; rintro e w' ⟨rfl, rfl⟩) | (go_at_call 54; refine (isStretch_at h2.out _).mono ?_; rintro e w' ⟨rfl, rfl⟩))
      go_ret
      exact ⟨rfl, hB⟩

end Go.Proofs.Ytonpnjjfidpoiaa
