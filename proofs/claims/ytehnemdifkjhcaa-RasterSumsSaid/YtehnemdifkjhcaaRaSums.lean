/-
  Walk: the law of the sums of rasters.
-/
import Derived.Test.YtehnemdifkjhcaaRaSumB
import Derived.Test.YtehnemdifkjhcaaRaSumC
import Derived.Test.YtehnemdifkjhcaaRaSumD
set_option linter.unusedSimpArgs false
set_option linter.unusedVariables false
namespace Go.Proofs.Ytehnemdifkjhcaa
open Go.RowKit

/-- The law of the sums. -/
theorem sums_any (W H M : Int) (A : Option Addr) (n c : Nat) (P : List Int) (x y wd ht most : Int) (w : World) (h : Sl w A n c P) (hA : A = none → c = 0) (hx : -9223372036854775808 ≤ x ∧ x ≤ 9223372036854775807) (hy : -9223372036854775808 ≤ y ∧ y ≤ 9223372036854775807) :
    Calls Try.prog 10 #[.agg #[.int .i64 W, .int .i64 H, .int .i64 M, .slice A n c], .agg #[.int .i64 x, .int .i64 y, .int .i64 wd, .int .i64 ht], .int .i64 most] w fun e w' => e = .returned (.bool true) ∧ Below w.heap.size w w' := by
  by_cases hm : n ≤ 600
  · by_cases hr : Ras W H M P
    · obtain ⟨a, b, rfl, rfl, -⟩ := hr.nat
      by_cases hq : most < 1
      · exact sums_most1 a b M A n c P x y wd ht most w h hx hy hm hr hq
      · by_cases hq2 : 65535 < most
        · exact sums_most2 a b M A n c P x y wd ht most w h hx hy hm hr (by omega) hq2
        · exact sums_ok a b M A n c P x y wd ht most w h hx hy hA hm hr (by omega) (by omega)
    · exact sums_bad W H M A n c P x y wd ht most w h hm hr
  · exact sums_many W H M A n c P x y wd ht most w h (by omega)

end Go.Proofs.Ytehnemdifkjhcaa
