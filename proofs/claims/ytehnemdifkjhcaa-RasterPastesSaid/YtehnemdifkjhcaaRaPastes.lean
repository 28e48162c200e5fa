/-
  Walk: the law of pasting rasters.
-/
import Derived.Test.YtehnemdifkjhcaaRaPasA
import Derived.Test.YtehnemdifkjhcaaRaPasB
import Derived.Test.YtehnemdifkjhcaaRaPasC
set_option linter.unusedSimpArgs false
set_option linter.unusedVariables false
namespace Go.Proofs.Ytehnemdifkjhcaa
open Go.RowKit

/-- The law of pasting. -/
theorem pastes_any (W H M : Int) (A : Option Addr) (n c : Nat) (P : List Int) (W2 H2 M2 : Int) (A2 : Option Addr) (n2 c2 : Nat) (P2 : List Int) (x y : Int) (w : World) (h : Sl w A n c P) (h2 : Sl w A2 n2 c2 P2) (hA : A = none → c = 0) :
    Calls Try.prog 6 #[.agg #[.int .i64 W, .int .i64 H, .int .i64 M, .slice A n c], .agg #[.int .i64 W2, .int .i64 H2, .int .i64 M2, .slice A2 n2 c2], .agg #[.int .i64 x, .int .i64 y]] w fun e w' => e = .returned (.bool true) ∧ Below w.heap.size w w' := by
  by_cases hm : n ≤ 600 ∧ n2 ≤ 600
  · by_cases hr : Ras W H M P
    · by_cases hr2 : Ras W2 H2 M2 P2
      · by_cases he : M = M2
        · subst he
          by_cases hin : (-64 ≤ x ∧ x ≤ 64) ∧ -64 ≤ y ∧ y ≤ 64
          · obtain ⟨a, b, rfl, rfl, -⟩ := hr.nat
            obtain ⟨a2, b2, rfl, rfl, -⟩ := hr2.nat
            exact pastes_ok a b a2 b2 M A n c P A2 n2 c2 P2 x y w h h2 hA hm hr hr2 hin.1 hin.2
          · exact pastes_rng W H M W2 H2 A n c P A2 n2 c2 P2 x y w h h2 hm hr hr2 (by omega)
        · exact pastes_mis W H M W2 H2 M2 A n c P A2 n2 c2 P2 x y w h h2 hm hr hr2 he
      · exact pastes_bad2 W H M W2 H2 M2 A n c P A2 n2 c2 P2 x y w h h2 hm hr hr2
    · exact pastes_bad1 W H M W2 H2 M2 A n c P A2 n2 c2 P2 x y w h h2 hm hr
  · exact pastes_many W H M W2 H2 M2 A n c P A2 n2 c2 P2 x y w h h2 hm

end Go.Proofs.Ytehnemdifkjhcaa
