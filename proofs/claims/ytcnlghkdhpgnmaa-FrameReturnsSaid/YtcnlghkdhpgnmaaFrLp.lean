/-
  Walk: prediction of the law.
-/
import Derived.Test.YtcnlghkdhpgnmaaFrPr
set_option linter.unusedSimpArgs false
set_option linter.unusedVariables false
namespace Go.Proofs.Ytcnlghkdhpgnmaa
open Go.RowKit

set_option maxHeartbeats 3200000 in
set_option maxRecDepth 100000 in
theorem lpred_any (W x y q : Nat) (A : Option Addr) (n c : Nat) (P : List Int) (w : World) (h : Sl w A n c P) (hW : 1 ≤ W) (hW2 : W ≤ 64) (hx : x < W) (hq : y * W = q) (hi : q + x ≤ n) (hn : n ≤ 4096) (hP : ∀ g ∈ P, 0 ≤ g ∧ g ≤ 65535) {s : Int} (hs : predI W P (q + x) = s) {u v : Int} (hu : u = (x : Int)) (hv : v = (y : Int)) :
    Calls Try.prog 56 #[.slice A n c, .int .i64 (W : Int), .int .i64 u, .int .i64 v] w fun e w' => e = .returned (.int .i64 s) ∧ ∃ k, w' = w.drewN k := by
  subst hu
  subst hv
  have hcap := h.le_cap
  have hcl := h.cap_le
  have hN : ∀ j, 0 ≤ nth P j ∧ nth P j ≤ 65535 := fun j => by
    by_cases hj : j < P.length
    · rw [nth_eq hj]; exact hP _ (List.getElem_mem hj)
    · rw [nth_end (by omega)]; omega
  have hqi : (y : Int) * (W : Int) = (q : Int) := by rw [← hq]; simp
  have hy0 : y = 0 → q = 0 := fun e => by rw [← hq, e, Nat.zero_mul]
  have hy1 : y ≠ 0 → W ≤ q := fun e => by rw [← hq]; exact Nat.le_mul_of_pos_left _ (by omega)
  have hqW : q % W = 0 := by rw [← hq]; exact Nat.mul_mod_left _ _
  have hyq : y ≤ q := by rw [← hq]; exact Nat.le_mul_of_pos_right _ (by omega)
  have hxm : (q + x) % W = x := by rw [← hq]; exact Nat.mul_add_mod_of_lt hx
  unfold predI at hs
  by_cases hy : y = 0
  · have hq0 := hy0 hy
    subst hy hq0
    simp only [Nat.zero_add] at hs hi
    by_cases h0 : x = 0
    · subst h0
      rw [if_pos rfl] at hs
      replace hs := Lib.hid hs
      clear hN h hy1 hqW hxm
      go_enter Try.func56, Try.ntmps56
      go_wp2
      go_ret
      exact ⟨ret_int hs.out, 0, rfl⟩
    · rw [if_neg h0, if_pos hx] at hs
      obtain ⟨m, rfl⟩ : ∃ m, x = m + 1 := ⟨x - 1, by omega⟩
      obtain ⟨b, off, rfl, hbw, hc⟩ := h.at_ (by omega)
      have c1 := hc m (by omega)
      rw [Nat.add_sub_cancel] at hs
      rw [hs] at c1
      replace hs := Lib.hid hs
      clear hc hN h hy1 hqW hxm
      go_enter Try.func56, Try.ntmps56
      go_wp2
      go_ret
      exact ⟨rfl, 0, rfl⟩
  have hqW1 := hy1 hy
  obtain ⟨b, off, rfl, hbw, hc⟩ := h.at_ (by omega)
  rw [if_neg (by omega), if_neg (by omega), hxm] at hs
  obtain ⟨m, rfl⟩ : ∃ m, q = m + W := ⟨q - W, by omega⟩
  have hqi' : (y : Int) * (W : Int) = (m : Int) + (W : Int) := by rw [hqi]; simp
  clear hqi
  have hyn : (y : Int) ≠ 0 := by omega
  have hy9 : y ≤ 4096 := by omega
  by_cases h0 : x = 0
  · subst h0
    rw [if_pos rfl, show m + W + 0 - W = m from by omega] at hs
    have c2 := hc m (by omega)
    rw [hs] at c2
    replace hs := Lib.hid hs
    replace hq := Lib.hid hq
    clear hc hN h hy1 hy0 hqW hxm
    go_enter Try.func56, Try.ntmps56
    go_wp2
    go_ret
    exact ⟨rfl, 0, rfl⟩
  · rw [if_neg h0] at hs
    obtain ⟨p, rfl⟩ : ∃ p, x = p + 1 := ⟨x - 1, by omega⟩
    rw [show m + W + (p + 1) - 1 = m + W + p from by omega, show m + W + (p + 1) - W = m + p + 1 from by omega, show m + p + 1 - 1 = m + p from by omega] at hs
    obtain ⟨i1, hi1⟩ : ∃ i, m + W + p = i := ⟨_, rfl⟩
    obtain ⟨i2, hi2⟩ : ∃ i, m + p + 1 = i := ⟨_, rfl⟩
    obtain ⟨i3, hi3⟩ : ∃ i, m + p = i := ⟨_, rfl⟩
    rw [hi1, hi2, hi3] at hs
    have c1 := hc i1 (by omega)
    have c2 := hc i2 (by omega)
    have c3 := hc i3 (by omega)
    have r1 := hN i1
    have r2 := hN i2
    have r3 := hN i3
    obtain ⟨x, hx⟩ : ∃ x, nth P i1 = x := ⟨_, rfl⟩
    obtain ⟨y1, hy1⟩ : ∃ y, nth P i2 = y := ⟨_, rfl⟩
    obtain ⟨z, hz⟩ : ∃ z, nth P i3 = z := ⟨_, rfl⟩
    rw [hx] at c1 hs r1
    rw [hy1] at c2 hs r2
    rw [hz] at c3 hs r3
    have l1 : i1 < n := by omega
    have l2 : i2 < n := by omega
    have l3 : i3 < n := by omega
    have hwA : IntKind.i64.wrap ((m : Int) + (W : Int) + ((p : Int) + 1) - 1) = (i1 : Int) := by rw [IntWalk.i64_in _ (by omega)]; omega
    have hwB : IntKind.i64.wrap ((m : Int) + (W : Int) + ((p : Int) + 1) - (W : Int)) = (i2 : Int) := by rw [IntWalk.i64_in _ (by omega)]; omega
    have hwC : IntKind.i64.wrap ((i2 : Int) - 1) = (i3 : Int) := by rw [IntWalk.i64_in _ (by omega)]; omega
    replace hi1 := Lib.hid hi1
    replace hi2 := Lib.hid hi2
    replace hi3 := Lib.hid hi3
    replace hx := Lib.hid hx
    replace hy1 := Lib.hid hy1
    replace hz := Lib.hid hz
    replace hq := Lib.hid hq
    clear hc hN hP h hqW hxm
    replace hs := Lib.hid hs
    go_enter Try.func56, Try.ntmps56
    go_wp2
    go_quiet (fail)
    by_cases q : x ≤ y1
    all_goals by_cases q1 : x ≤ z
    all_goals by_cases q2 : y1 ≤ z
    all_goals by_cases q3 : z ≤ x
    all_goals by_cases q4 : z ≤ y1
    all_goals first | (exfalso; omega) | skip
    all_goals
      go_wp2
    all_goals
      go_ret
      refine ⟨ret_int ?_, _, rfl⟩
      rw [← hs.out]
      split
      · omega
      · split <;> omega

end Go.Proofs.Ytcnlghkdhpgnmaa
