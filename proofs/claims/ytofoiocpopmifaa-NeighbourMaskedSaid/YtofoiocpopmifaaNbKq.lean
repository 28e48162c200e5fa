/-
  Walks: the calls of known; few of the law.
-/
import Derived.Test.YtofoiocpopmifaaNbKp
set_option linter.unusedSimpArgs false
set_option linter.unusedVariables false
namespace Go.Proofs.Ytofoiocpopmifaa
open Go.RowKit

theorem kN5 (A : Option Addr) (c : Nat) (W : World) (h : WS W A 3 c kl) :
    Calls Try.prog 13 #[.slice A 3 c, .int .u64 5] W fun e w' => e = .returned (.tuple #[.int .i64 2, .int .i64 1, .int .i64 0]) ∧ W = w' :=
  (Nearest_ok A 3 c kl 5 W h (by omega) (by omega) (by omega)).mono fun e w' ⟨⟨k, d, he, hN⟩, hw⟩ => ⟨by
    obtain ⟨rfl, rfl⟩ := hN.unique kl5
    exact he, hw⟩
theorem kN1 (A : Option Addr) (c : Nat) (W : World) (h : WS W A 3 c kl) :
    Calls Try.prog 13 #[.slice A 3 c, .int .u64 1] W fun e w' => e = .returned (.tuple #[.int .i64 0, .int .i64 1, .int .i64 0]) ∧ W = w' :=
  (Nearest_ok A 3 c kl 1 W h (by omega) (by omega) (by omega)).mono fun e w' ⟨⟨k, d, he, hN⟩, hw⟩ => ⟨by
    obtain ⟨rfl, rfl⟩ := hN.unique kl1
    exact he, hw⟩
theorem kM (A A2 : Option Addr) (c c2 : Nat) (W : World) (h : WS W A 2 c [0, 15]) (h2 : WS W A2 2 c2 [1, 7]) :
    Calls Try.prog 24 #[.slice A 2 c, .slice A2 2 c2, .int .i64 1, .int .i64 1] W fun e w' => (∃ A3 c3, e = .returned (.tuple #[.slice A3 2 c3, .int .i64 0]) ∧ MS w' A3 2 c3 [(0, 0, 1), (1, 1, 1)]) ∧ Below W.heap.size W w' :=
  (Matches_ok A 2 c [0, 15] A2 2 c2 [1, 7] 1 1 W h h2 (by omega) (by omega) (by omega) (by omega)).mono fun e w' ⟨⟨l, A3, c3, he, hr, hs⟩, hb⟩ => ⟨⟨A3, c3, by
    obtain rfl := kret hr
    exact ⟨he, hs⟩⟩, hb⟩
theorem kB (A : Option Addr) (c : Nat) (W : World) (h : WS W A 3 c kl) :
    Calls Try.prog 20 #[.slice A 3 c] W fun e w' => (∃ A' c', e = .returned (.tuple #[.slice A' 3 c', .int .i64 0])) ∧ Below W.heap.size W w' :=
  (Build_ok A 3 c kl W h (by omega)).mono fun e w' ⟨⟨T, T', c', he, _⟩, hb⟩ => ⟨⟨T', c', he⟩, hb⟩
theorem kEq {A A2 : Option Addr} {n c n2 c2 : Nat} {l : List Mat} {W : World} (h : MS W A n c l) (h2 : MS W A2 n2 c2 l) :
    Calls Try.prog 25 #[.slice A n c, .slice A2 n2 c2] W fun e w' => e = .returned (.bool true) ∧ Below W.heap.size W w' := by
  have := mEqual_any A n c l A2 n2 c2 l W h h2
  rw [show eqm l l = true from decide_eq_true rfl] at this
  exact this
theorem kD (W : World) : Calls Try.prog 16 #[.int .u64 6, .int .u64 1] W fun e w' => e = .returned (.int .i64 3) ∧ W = w' :=
  Distance_any 6 1 (by omega) (by omega) W kdst

/-- Has a list at most 20 words, or too many? -/
def fewB (n : Nat) : Bool := decide (n ≤ 20) || (decide (64 < n) && decide (n ≤ 80))
theorem few_any (A : Option Addr) (n c : Nat) (w : World) (hn : n ≤ 9223372036854775807) {b : Bool} (hb : fewB n = b) :
    Calls Try.prog 12 #[.slice A n c] w fun e w' => e = .returned (.bool b) ∧ w = w' := by
  by_cases h1 : n ≤ 20
  · have hi : (n : Int) ≤ 20 := by omega
    have hv : b = true := by rw [← hb]; simp [fewB, h1]
    subst hv
    replace hb := Lib.hid hb
    go_enter Try.func12, Try.ntmps12
    go_wp2
    go_ret
    exact ⟨rfl, rfl⟩
  · have hi : ¬ (n : Int) ≤ 20 := by omega
    by_cases h2 : 64 < n
    · have hi2 : (64 : Int) < (n : Int) := by omega
      by_cases h3 : n ≤ 80
      · have hi3 : (n : Int) ≤ 80 := by omega
        have hv : b = true := by rw [← hb]; simp [fewB, h2, h3]
        subst hv
        replace hb := Lib.hid hb
        go_enter Try.func12, Try.ntmps12
        go_wp2
        go_ret
        exact ⟨ret_bool (by first | rfl | (simp; omega)), rfl⟩
      · have hi3 : ¬ (n : Int) ≤ 80 := by omega
        have hv : b = false := by rw [← hb]; simp [fewB]; omega
        subst hv
        replace hb := Lib.hid hb
        go_enter Try.func12, Try.ntmps12
        go_wp2
        go_ret
        exact ⟨ret_bool (by first | rfl | (simp; omega)), rfl⟩
    · have hi2 : ¬ (64 : Int) < (n : Int) := by omega
      have hv : b = false := by rw [← hb]; simp [fewB]; omega
      subst hv
      replace hb := Lib.hid hb
      go_enter Try.func12, Try.ntmps12
      go_wp2
      go_ret
      exact ⟨ret_bool (by first | rfl | (simp; omega)), rfl⟩

end Go.Proofs.Ytofoiocpopmifaa
