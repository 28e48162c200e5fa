/-
  Walk: Log of package integer.
-/
import Derived.Test.YtabibkhcdamlhaaDoorLogA
import Derived.Test.YtabibkhcdamlhaaDoorNumb
set_option linter.unusedSimpArgs false
set_option linter.unusedVariables false
namespace Go.Proofs.YtabibkhcdamlhaaDoor
open Go.RowKit Num

theorem bitLenAux_ok : ∀ (f x : Nat), x < 2 ^ f → x ≠ 0 → 2 ^ (Lib.bitLenAux f x - 1) ≤ x ∧ x < 2 ^ Lib.bitLenAux f x ∧ 1 ≤ Lib.bitLenAux f x := by
  intro f
  induction f with
  | zero => intro x h h0; simp at h; omega
  | succ f ih =>
    intro x h h0
    have e : Lib.bitLenAux (f + 1) x = 1 + Lib.bitLenAux f (x / 2) := by rw [Lib.bitLenAux, if_neg h0]
    rw [e]
    by_cases h2 : x / 2 = 0
    · have h3 : Lib.bitLenAux f 0 = 0 := by cases f <;> simp [Lib.bitLenAux]
      rw [h2, h3]
      simp
      omega
    · obtain ⟨a, b, c⟩ := ih (x / 2) (by rw [Nat.pow_succ] at h; omega) h2
      obtain ⟨q, hq⟩ : ∃ q, Lib.bitLenAux f (x / 2) = q + 1 := ⟨Lib.bitLenAux f (x / 2) - 1, by omega⟩
      rw [hq] at a b ⊢
      rw [show 1 + (q + 1) - 1 = q + 1 by omega, show 1 + (q + 1) = q + 1 + 1 by omega, Nat.pow_succ 2 (q + 1)]
      rw [show q + 1 - 1 = q by omega] at a
      rw [Nat.pow_succ] at b ⊢
      omega
theorem bitLen_lgz {m : Nat} (h : m < 18446744073709551616) : ((Lib.bitLen m : Nat) : Int) - 1 = lgz m := by
  by_cases h0 : m = 0
  · subst h0; rfl
  · obtain ⟨a, b, c⟩ := bitLenAux_ok 64 m (by simpa using h) h0
    obtain ⟨q, hq⟩ : ∃ q, Lib.bitLenAux 64 m = q + 1 := ⟨Lib.bitLenAux 64 m - 1, by omega⟩
    unfold Lib.bitLen
    rw [hq] at a b ⊢
    rw [lgz_eq (e := q) a b]
    omega

set_option maxRecDepth 100000 in
set_option maxHeartbeats 1600000 in
/-- Log. -/
theorem Log_any (neg : Bool) (A : Option Addr) (n c : Nat) (z : Int) (k : Nat) (w : World) (h : VI w neg A n c z k) (hk : k ≤ 18) :
    Calls Tryd.prog 25 #[.agg #[.bool neg, .slice A n c]] w fun e w' => e = .returned (.int .i64 (lgz z.natAbs)) ∧ Below w.heap.size w w' := by
  have hb1 := (Below.refl w.heap.size w).alloc (Nat.le_refl _) (.cells #[.bool neg, .slice A n c] 24)
  obtain ⟨m, hm⟩ : ∃ m, z.natAbs = m := ⟨_, rfl⟩
  rw [hm]
  by_cases h64 : m < 18446744073709551616
  · have hl := fun w => Tryd.bits_Len64 (m : Int) w (by omega) (by omega)
    rw [← bitLen_lgz h64]
    simp only [Int.toNat_natCast] at hl
    obtain ⟨b, hb⟩ : ∃ b, Lib.bitLen m = b := ⟨_, rfl⟩
    rw [hb] at hl ⊢
    have hb64 : b ≤ 64 := by
      rw [← hb]
      have : ∀ f x, Lib.bitLenAux f x ≤ f := by
        intro f
        induction f with
        | zero => intro x; simp [Lib.bitLenAux]
        | succ f ih =>
          intro x
          have h1 := ih (x / 2)
          rw [Lib.bitLenAux]
          split <;> omega
      exact this 64 m
    replace hl := Lib.hid hl
    replace hb := Lib.hid hb
    replace hm := Lib.hid hm
    go_enter Tryd.func25, Tryd.ntmps25
    go_wp2_with (first | (go_at_call 50; refine (counted_any _ _ _ _ z k _ (h.below hb1) (by omega)).mono ?_; rintro e w1 ⟨neg1, A1, n1, c1, rfl, hi1, hb3⟩; have hb4 := hb1.trans (hb3.mono (by simp)); have hfd := run_groups neg1 A1 n1 c1) | (go_at_call 59; refine (number_fits (k := k) (m := m) (by rw [← hm.out]; exact hi1.mm) h64).mono ?_; rintro e w2 ⟨rfl, hb5⟩) | (go_at_call 60; refine (hl.out _).mono ?_; rintro e w3 ⟨rfl, rfl⟩))
    go_ret
    exact ⟨rfl, hb4.trans (hb5.mono hb4.size)⟩
  · have h64' : 18446744073709551616 ≤ m := by omega
    have hm0 : 0 < m := by omega
    replace hm := Lib.hid hm
    clear h64
    go_enter Tryd.func25, Tryd.ntmps25
    go_wp2_with (first | (go_at_call 50; refine (counted_any _ _ _ _ z k _ (h.below hb1) (by omega)).mono ?_; rintro e w1 ⟨neg1, A1, n1, c1, rfl, hi1, hb3⟩; have hb4 := hb1.trans (hb3.mono (by simp)); have hfd := run_groups neg1 A1 n1 c1) | (go_at_call 59; refine (number_over (k := k) (m := m) (by rw [← hm.out]; exact hi1.mm) h64').mono ?_; rintro e w2 ⟨rfl, hb5⟩) | (go_at_call 61; refine (logarithm_any _ _ _ m k _ ((by rw [← hm.out]; exact hi1.mm : MM w1 A1 n1 c1 m k).below hb5) hk hm0).mono ?_; rintro e w3 ⟨rfl, hb6⟩))
    go_ret
    exact ⟨rfl, (hb4.trans (hb5.mono hb4.size)).trans (hb6.mono (hb4.trans (hb5.mono hb4.size)).size)⟩

end Go.Proofs.YtabibkhcdamlhaaDoor
