/-
  Walks: math/bits.Add64, Div64 where the high part is 0.
-/
import Derived.Laws.Externs
import Derived.Deep.QuietTactic
import Derived.BigQuiet
import Derived.Test.YtabibkhcdamlhaaDoorChecked
import Derived.Test.YtabibkhcdamlhaaDoorMem
set_option linter.unusedSimpArgs false
set_option linter.unusedVariables false
namespace Go.Proofs.YtabibkhcdamlhaaDoor
open Go.RowKit Num

/-- math/bits.Add64, the carry 0. -/
theorem add64 (x y : Int) (hx : 0 ≤ x) (hy : 0 ≤ y) (w : World) :
    (callFunc 86 #[.int .u64 x, .int .u64 y, .int .u64 0]).run Tryd.prog w =
      .ok (.value (.tuple #[.int .u64 ((x + y) % 18446744073709551616), .int .u64 ((x + y) / 18446744073709551616)])) w := by
  rw [run_callFunc_extern Tryd.func86 (by kernel_rfl) (by kernel_rfl) (by kernel_rfl) (e := add64Entry) (by kernel_rfl), run_add64 x y 0 hx hy (by omega) (by omega)]
  simp only [Result.andThen, Int.add_zero]

set_option maxHeartbeats 400000 in
theorem Div64_lo (lo y : Nat) (hlo : lo < 18446744073709551616) (hy : 0 < y) (hy2 : y < 18446744073709551616) (w : World) :
    Calls Tryd.prog 107 #[.int .u64 0, .int .u64 (lo : Int), .int .u64 (y : Int)] w fun e w' => e = .returned (.tuple #[.int .u64 ((lo / y : Nat) : Int), .int .u64 ((lo % y : Nat) : Int)]) ∧ ∃ q, w' = w.drewN q := by
  have h1 : ((y : Int) == 0) = false := by simp; omega
  have h2 : decide ((y : Int) ≤ 0) = false := by simp; omega
  have h3 : (1 : Int) ≤ (y : Int) := by omega
  have h4 : (0 : Int) ≤ (lo : Int) := by omega
  clear hy
  go_enter Tryd.func107, Tryd.ntmps107
  go_wp2
  go_quiet (fail)
  go_wp2
  go_ret2
  refine ⟨?_, _, rfl⟩
  have hd : lo / y ≤ lo := Nat.div_le_self _ _
  have e1 : IntKind.u64.wrap ((lo : Int) / (y : Int)) = ((lo / y : Nat) : Int) := by
    rw [← Int.natCast_ediv, IntKind.wrap_u64]
    generalize lo / y = q at *
    omega
  rw [← e1]
  rfl

theorem Div64_base (lo : Nat) (hlo : lo < 18446744073709551616) (w : World) :
    Calls Tryd.prog 107 #[.int .u64 0, .int .u64 (lo : Int), .int .u64 1000000000] w fun e w' => e = .returned (.tuple #[.int .u64 ((lo / 1000000000 : Nat) : Int), .int .u64 ((lo % 1000000000 : Nat) : Int)]) ∧ ∃ q, w' = w.drewN q :=
  Div64_lo lo 1000000000 hlo (by omega) (by omega) w

end Go.Proofs.YtabibkhcdamlhaaDoor
