/-
  Walk: the law of the distances of words.
-/
import Derived.Test.YtonpnjjfidpoiaaDsF
set_option linter.unusedSimpArgs false
set_option linter.unusedVariables false
namespace Go.Proofs.Ytonpnjjfidpoiaa
open Go.RowKit

set_option maxRecDepth 100000 in
set_option maxHeartbeats 1600000 in
theorem lawDist_nat (a b c : Nat) (w : World) (ha : a < 2 ^ 64) (hb : b < 2 ^ 64) (hc : c < 2 ^ 64) :
    Calls Try.prog 4 #[.int .u64 (a : Int), .int .u64 (b : Int), .int .u64 (c : Int)] w fun e w' => e = .returned (.bool true) ∧ Below w.heap.size w w' := by
  obtain ⟨x, hx⟩ : ∃ x, dst a b = x := ⟨_, rfl⟩
  obtain ⟨y, hy⟩ : ∃ x, dst b c = x := ⟨_, rfl⟩
  obtain ⟨z, hz⟩ : ∃ x, dst a c = x := ⟨_, rfl⟩
  have htri : z ≤ x + y := by rw [← hx, ← hy, ← hz]; exact dst_tri a b c
  have hx64 : x ≤ 64 := by rw [← hx]; exact dst_le _ _
  have hy64 : y ≤ 64 := by rw [← hy]; exact dst_le _ _
  have hz64 : z ≤ 64 := by rw [← hz]; exact dst_le _ _
  have hk := Lib.hid (known_any w)
  have h1 := Lib.hid (fun W => Distance_any a b ha hb W hx)
  have h2 := Lib.hid (fun W => Distance_any b c hb hc W hy)
  have h3 := Lib.hid (fun W => Distance_any a c ha hc W hz)
  have h4 := Lib.hid (fun W => Distance_any b a hb ha W ((dst_comm b a).trans hx))
  have h5 := fun W => ones_any (a ^^^ b) (Nat.xor_lt_two_pow ha hb) W
  rw [show pc (a ^^^ b) = x from hx, ← bits_xor a b ha hb] at h5
  replace h5 := Lib.hid h5
  have hxx : ((x : Int) == (x : Int)) = true := by simp
  have hi1 : (0 : Int) ≤ (x : Int) := by omega
  have hi2 : (x : Int) ≤ 64 := by omega
  have hi3 : (z : Int) ≤ (x : Int) + (y : Int) := by omega
  have hsum : IntKind.i64.wrap ((x : Int) + (y : Int)) = (x : Int) + (y : Int) := by rw [IntWalk.i64_left, IntWalk.wrap64_in _ (by omega)]
  have hz0 : ((x : Int) == 0) = ((a : Int) == (b : Int)) := by
    by_cases e : a = b
    · have : x = 0 := by rw [← hx, e]; exact dst_self b
      simp [e, this]
    · have : x ≠ 0 := fun h0 => e (dst_zero ha hb (hx.trans h0))
      rw [Bool.eq_iff_iff]
      simp
      omega
  obtain ⟨b0, hb0⟩ : ∃ b0, ((a : Int) == (b : Int)) = b0 := ⟨_, rfl⟩
  rw [hb0] at hz0
  have tok1 : True := trivial
  have tok2 : True := trivial
  have tok3 : True := trivial
  clear ha hb hc
  replace hx := Lib.hid hx
  replace hy := Lib.hid hy
  replace hz := Lib.hid hz
  cases b0
  all_goals
    go_enter Try.func4, Try.ntmps4
    go_wp2_with (first
      | (go_at_call 11; refine hk.out.mono ?_; rintro e w1 ⟨rfl, hbw⟩)
      | (go_at_call 15; clear tok1; refine (h1.out _).mono ?_; rintro e w' ⟨rfl, rfl⟩)
      | (go_at_call 16; refine (h5.out _).mono ?_; rintro e w' ⟨rfl, rfl⟩)
      | (go_at_call 15; clear tok2; refine (h4.out _).mono ?_; rintro e w' ⟨rfl, rfl⟩)
      | (go_at_call 15; clear tok3; refine (h3.out _).mono ?_; rintro e w' ⟨rfl, rfl⟩)
      | (go_at_call 15; refine (h2.out _).mono ?_; rintro e w' ⟨rfl, rfl⟩))
    go_ret
    exact ⟨rfl, hbw⟩

theorem lawDist_any (a b c : Int) (w : World) (ha : 0 ≤ a ∧ a ≤ 18446744073709551615) (hb : 0 ≤ b ∧ b ≤ 18446744073709551615) (hc : 0 ≤ c ∧ c ≤ 18446744073709551615) :
    Calls Try.prog 4 #[.int .u64 a, .int .u64 b, .int .u64 c] w fun e w' => e = .returned (.bool true) ∧ Below w.heap.size w w' := by
  obtain ⟨x, rfl⟩ : ∃ x : Nat, a = (x : Int) := ⟨a.toNat, by omega⟩
  obtain ⟨y, rfl⟩ : ∃ x : Nat, b = (x : Int) := ⟨b.toNat, by omega⟩
  obtain ⟨z, rfl⟩ : ∃ x : Nat, c = (x : Int) := ⟨c.toNat, by omega⟩
  exact lawDist_nat x y z w (by omega) (by omega) (by omega)

end Go.Proofs.Ytonpnjjfidpoiaa
