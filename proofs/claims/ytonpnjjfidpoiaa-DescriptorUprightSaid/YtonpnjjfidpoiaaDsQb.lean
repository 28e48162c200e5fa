/-
  Walks: sides, brightest of package descriptor; side of the law.
-/
import Derived.Test.YtonpnjjfidpoiaaDsIx
import Derived.Test.YtonpnjjfidpoiaaDsQa
set_option linter.unusedSimpArgs false
set_option linter.unusedVariables false
namespace Go.Proofs.Ytonpnjjfidpoiaa
open Go.RowKit

theorem sides_any (n : Int) (hn : 1 ≤ n ∧ n ≤ 16) (w : World) :
    Calls Try.prog 63 #[.int .i64 n] w fun e w' => e = .returned (.agg #[.int .i64 1, .int .i64 (-n), .int .i64 n, .int .i64 (2 * n + 1), .int .i64 (-n), .int .i64 (-n), .int .i64 (2 * n + 1), .int .i64 n, .int .i64 (-n), .int .i64 (-n), .int .i64 n, .int .i64 (2 * n + 1), .int .i64 (-n), .int .i64 1, .int .i64 (2 * n + 1), .int .i64 n]) ∧ Below w.heap.size w w' := by
  obtain ⟨n1, n2⟩ := hn
  have hB := (Below.refl w.heap.size w).alloc (Nat.le_refl _) (.cells #[.int .i64 1, .int .i64 (-n), .int .i64 n, .int .i64 (2 * n + 1), .int .i64 (-n), .int .i64 (-n), .int .i64 (2 * n + 1), .int .i64 n, .int .i64 (-n), .int .i64 (-n), .int .i64 n, .int .i64 (2 * n + 1), .int .i64 (-n), .int .i64 1, .int .i64 (2 * n + 1), .int .i64 n] 93)
  go_enter Try.func63, Try.ntmps63
  go_wp2
  exact bodyPost_ret (v := .agg #[.int .i64 1, .int .i64 (-n), .int .i64 n, .int .i64 (2 * n + 1), .int .i64 (-n), .int .i64 (-n), .int .i64 (2 * n + 1), .int .i64 n, .int .i64 (-n), .int .i64 (-n), .int .i64 n, .int .i64 (2 * n + 1), .int .i64 (-n), .int .i64 1, .int .i64 (2 * n + 1), .int .i64 n]) (by simp [results, Try.results63, go_sem]) rfl ⟨rfl, by simpa using hB⟩

theorem side_0 (n : Int) (hn : 1 ≤ n ∧ n ≤ 16) (w : World) :
    Calls Try.prog 52 #[.int .i64 0, .int .i64 n] w fun e w' => e = .returned (.agg #[.int .i64 1, .int .i64 (-n), .int .i64 n, .int .i64 (2 * n + 1)]) ∧ Below w.heap.size w w' := by
  obtain ⟨n1, n2⟩ := hn
  have hB := (Below.refl w.heap.size w).alloc (Nat.le_refl _) (.cells #[.int .i64 1, .int .i64 (-n), .int .i64 n, .int .i64 (2 * n + 1)] 28)
  go_enter Try.func52, Try.ntmps52
  go_wp2
  exact bodyPost_ret (v := .agg #[.int .i64 1, .int .i64 (-n), .int .i64 n, .int .i64 (2 * n + 1)]) (by simp [results, Try.results52, go_sem]) rfl ⟨rfl, by simpa using hB⟩

theorem side_1 (n : Int) (hn : 1 ≤ n ∧ n ≤ 16) (w : World) :
    Calls Try.prog 52 #[.int .i64 1, .int .i64 n] w fun e w' => e = .returned (.agg #[.int .i64 (-n), .int .i64 (-n), .int .i64 (2 * n + 1), .int .i64 n]) ∧ Below w.heap.size w w' := by
  obtain ⟨n1, n2⟩ := hn
  have hB := (Below.refl w.heap.size w).alloc (Nat.le_refl _) (.cells #[.int .i64 (-n), .int .i64 (-n), .int .i64 (2 * n + 1), .int .i64 n] 28)
  go_enter Try.func52, Try.ntmps52
  go_wp2
  exact bodyPost_ret (v := .agg #[.int .i64 (-n), .int .i64 (-n), .int .i64 (2 * n + 1), .int .i64 n]) (by simp [results, Try.results52, go_sem]) rfl ⟨rfl, by simpa using hB⟩

theorem side_2 (n : Int) (hn : 1 ≤ n ∧ n ≤ 16) (w : World) :
    Calls Try.prog 52 #[.int .i64 2, .int .i64 n] w fun e w' => e = .returned (.agg #[.int .i64 (-n), .int .i64 (-n), .int .i64 n, .int .i64 (2 * n + 1)]) ∧ Below w.heap.size w w' := by
  obtain ⟨n1, n2⟩ := hn
  have hB := (Below.refl w.heap.size w).alloc (Nat.le_refl _) (.cells #[.int .i64 (-n), .int .i64 (-n), .int .i64 n, .int .i64 (2 * n + 1)] 28)
  go_enter Try.func52, Try.ntmps52
  go_wp2
  exact bodyPost_ret (v := .agg #[.int .i64 (-n), .int .i64 (-n), .int .i64 n, .int .i64 (2 * n + 1)]) (by simp [results, Try.results52, go_sem]) rfl ⟨rfl, by simpa using hB⟩

theorem side_3 (n : Int) (hn : 1 ≤ n ∧ n ≤ 16) (w : World) :
    Calls Try.prog 52 #[.int .i64 3, .int .i64 n] w fun e w' => e = .returned (.agg #[.int .i64 (-n), .int .i64 1, .int .i64 (2 * n + 1), .int .i64 n]) ∧ Below w.heap.size w w' := by
  obtain ⟨n1, n2⟩ := hn
  have hB := (Below.refl w.heap.size w).alloc (Nat.le_refl _) (.cells #[.int .i64 (-n), .int .i64 1, .int .i64 (2 * n + 1), .int .i64 n] 28)
  go_enter Try.func52, Try.ntmps52
  go_wp2
  exact bodyPost_ret (v := .agg #[.int .i64 (-n), .int .i64 1, .int .i64 (2 * n + 1), .int .i64 n]) (by simp [results, Try.results52, go_sem]) rfl ⟨rfl, by simpa using hB⟩

end Go.Proofs.Ytonpnjjfidpoiaa
