/-
  Walk: the law of the parts of rasters.
-/
import Derived.Test.YtehnemdifkjhcaaRaPartB
import Derived.Test.YtehnemdifkjhcaaRaPartC
set_option linter.unusedSimpArgs false
set_option linter.unusedVariables false
namespace Go.Proofs.Ytehnemdifkjhcaa
open Go.RowKit

/-- The law of the parts. -/
theorem parts_any (W H M : Int) (A : Option Addr) (n c : Nat) (P : List Int) (x y wd ht : Int) (w : World) (h : Sl w A n c P) (hx : -9223372036854775808 ≤ x ∧ x ≤ 9223372036854775807) (hy : -9223372036854775808 ≤ y ∧ y ≤ 9223372036854775807) :
    Calls Try.prog 5 #[.agg #[.int .i64 W, .int .i64 H, .int .i64 M, .slice A n c], .agg #[.int .i64 x, .int .i64 y, .int .i64 wd, .int .i64 ht]] w fun e w' => e = .returned (.bool true) ∧ Below w.heap.size w w' := by
  by_cases hm : n ≤ 600
  · by_cases hr : Ras W H M P
    · obtain ⟨a, b, rfl, rfl, -⟩ := hr.nat
      by_cases hin : ((0 ≤ x ∧ x ≤ (a : Int) - 1) ∧ (0 ≤ y ∧ y ≤ (b : Int) - 1) ∧ (1 ≤ wd ∧ wd ≤ (a : Int) - x) ∧ 1 ≤ ht ∧ ht ≤ (b : Int) - y)
      · exact parts_ok a b M A n c P x y wd ht w h hx hy hm hr hin
      · exact parts_out a b M A n c P x y wd ht w h hx hy hm hr hin
    · exact parts_bad W H M A n c P x y wd ht w h hm hr
  · exact parts_many W H M A n c P x y wd ht w h (by omega)

end Go.Proofs.Ytehnemdifkjhcaa
