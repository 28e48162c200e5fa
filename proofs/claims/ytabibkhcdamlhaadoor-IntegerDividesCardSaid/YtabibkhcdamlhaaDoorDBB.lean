/-
  Walk: divideByBase of package integer.
-/
import Derived.Test.YtabibkhcdamlhaaDoorSml
set_option linter.unusedSimpArgs false
set_option linter.unusedVariables false
namespace Go.Proofs.YtabibkhcdamlhaaDoor
open Go.RowKit Num

theorem and_zero : bits .and .i64 1000000000 0 = 0 := by decide +kernel
theorem and_ones : bits .and .i64 1000000000 (-1) = 1000000000 := by decide +kernel

set_option maxRecDepth 100000 in
set_option maxHeartbeats 1600000 in
/-- divideByBase, a number not below 0. -/
theorem divideByBase_pos (n : Int) (h0 : 0 ≤ n) (h1 : n ≤ 4611686018427387904) (w : World) :
    Calls Tryd.prog 121 #[.int .i64 n] w fun e w' => e = .returned (.tuple #[.int .i64 (n / 1000000000), .int .u32 (n % 1000000000)]) ∧ w' = w := by
  obtain ⟨q, hq⟩ : ∃ q, n / 1000000000 = q := ⟨_, rfl⟩
  obtain ⟨r, hr⟩ : ∃ r, n - q * 1000000000 = r := ⟨_, rfl⟩
  have hrm : n % 1000000000 = r := by omega
  have hr0 : 0 ≤ r := by omega
  have hr1 : r ≤ 999999999 := by omega
  have hrd : r / 9223372036854775808 = 0 := by omega
  have hq0 : 0 ≤ q := by omega
  have hq1 : q ≤ 4611686019 := by omega
  have hw : r % 4294967296 = r := by omega
  have ha := and_zero
  rw [hq, hrm]
  replace hrm := Lib.hid hrm
  go_enter Tryd.func121, Tryd.ntmps121
  go_wp2
  go_ret2
  exact ⟨by simp [hq, hr, hrd, ha, hw], rfl⟩

theorem tdiv_neg {n : Int} (h0 : n < 0) : ∃ t, n.tdiv 1000000000 = t ∧ t ≤ 0 ∧ n ≤ t * 1000000000 ∧ t * 1000000000 < n + 1000000000 := by
  refine ⟨_, rfl, ?_⟩
  obtain ⟨m, hm⟩ : ∃ m : Int, m = -n := ⟨_, rfl⟩
  have hn : n = -m := by omega
  rw [hn, Int.neg_tdiv, Int.tdiv_eq_ediv_of_nonneg (by omega)]
  omega

set_option maxRecDepth 100000 in
set_option maxHeartbeats 1600000 in
/-- divideByBase, a number below 0. -/
theorem divideByBase_neg (n : Int) (h0 : n < 0) (h1 : -4611686018427387904 ≤ n) (w : World) :
    Calls Tryd.prog 121 #[.int .i64 n] w fun e w' => e = .returned (.tuple #[.int .i64 (n / 1000000000), .int .u32 (n % 1000000000)]) ∧ w' = w := by
  obtain ⟨t, ht, ht0, ht1, ht2⟩ := tdiv_neg h0
  obtain ⟨r, hr⟩ : ∃ r, n - t * 1000000000 = r := ⟨_, rfl⟩
  have ht3 : -4611686019 ≤ t := by omega
  have hr0 : r ≤ 0 := by omega
  have hr1 : -999999999 ≤ r := by omega
  by_cases hz : r = 0
  · have e1 : n / 1000000000 = t := by omega
    have e2 : n % 1000000000 = 0 := by omega
    rw [e1, e2]
    replace e1 := Lib.hid e1
    replace e2 := Lib.hid e2
    have ha := and_zero
    go_enter Tryd.func121, Tryd.ntmps121
    go_wp2
    go_ret2
    exact ⟨rfl, rfl⟩
  · have e1 : n / 1000000000 = t - 1 := by omega
    have e2 : n % 1000000000 = r + 1000000000 := by omega
    have hrd : r / 9223372036854775808 = -1 := by omega
    rw [e1, e2]
    replace e1 := Lib.hid e1
    replace e2 := Lib.hid e2
    have ha := and_ones
    go_enter Tryd.func121, Tryd.ntmps121
    go_wp2
    go_ret2
    have hw : (r + 1000000000) % 4294967296 = r + 1000000000 := by omega
    exact ⟨by first | rfl | (simp [hw]; done) | (simp [hw]; omega), rfl⟩

/-- divideByBase. -/
theorem divideByBase_any (n : Int) (h0 : -4611686018427387904 ≤ n) (h1 : n ≤ 4611686018427387904) (w : World) :
    Calls Tryd.prog 121 #[.int .i64 n] w fun e w' => e = .returned (.tuple #[.int .i64 (n / 1000000000), .int .u32 (n % 1000000000)]) ∧ w' = w := by
  by_cases h : 0 ≤ n
  · exact divideByBase_pos n h h1 w
  · exact divideByBase_neg n (by omega) h0 w

end Go.Proofs.YtabibkhcdamlhaaDoor
