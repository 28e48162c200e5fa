/-
  Walks: isCoordinate, the closure of Thin, isNear of package corner; near of the reference.
-/
import Derived.Test.YtnnaojaadjafbaaCoM
import Derived.Test.YtnnaojaadjafbaaCoO
import Derived.Test.YtnnaojaadjafbaaCoB
set_option linter.unusedSimpArgs false
set_option linter.unusedVariables false
namespace Go.Proofs.Ytnnaojaadjafbaa
open Go.RowKit

def coordB (n : Int) : Bool := win n (-1048576) 1048576
theorem isCoordinate_at {n : Int} {b : Bool} (h : coordB n = b) (w : World) :
    Calls Try.prog 46 #[.int .i64 n] w fun e w' => e = .returned (.bool b) ∧ w = w' := by
  have hc := Lib.hid (cwithin_at (a := n) (lo := -1048576) (hi := 1048576) (b := b) h)
  go_enter Try.func46, Try.ntmps46
  go_wp2_with (go_at_call 37; refine (hc.out _).mono ?_; rintro e w' ⟨rfl, rfl⟩)
  go_ret
  exact ⟨rfl, rfl⟩

/-- Is a corner outside? -/
def outB (c : Cor) : Bool := !coordB c.1 || !coordB c.2.1

theorem outside_any (x y s : Int) (w : World) :
    Calls Try.prog 45 #[.agg #[.int .i64 x, .int .i64 y, .int .i64 s]] w fun e w' => e = .returned (.bool (outB (x, y, s))) ∧ Below w.heap.size w w' := by
  have hb0 := (Below.refl w.heap.size w).alloc (Nat.le_refl _) (.cells #[.int .i64 x, .int .i64 y, .int .i64 s] 36)
  obtain ⟨b1, h1⟩ : ∃ b, coordB x = b := ⟨_, rfl⟩
  obtain ⟨b2, h2⟩ : ∃ b, coordB y = b := ⟨_, rfl⟩
  have hv : Hid (outB (x, y, s) = (!b1 || !b2)) := Lib.hid (by unfold outB; rw [h1, h2])
  have k1 := Lib.hid (isCoordinate_at h1)
  have k2 := Lib.hid (isCoordinate_at h2)
  clear h1 h2
  cases b1 <;> cases b2
  all_goals
    have tok : True := trivial
    go_enter Try.func45, Try.ntmps45
    go_wp2_with (first | (go_at_call 46; clear tok; refine (k1.out _).mono ?_; rintro e w' ⟨rfl, rfl⟩) | (go_at_call 46; refine (k2.out _).mono ?_; rintro e w' ⟨rfl, rfl⟩))
    go_ret
    exact ⟨ret_bool (by rw [hv.out]; rfl), hb0⟩

theorem enters_outside : ∀ args w, (callFunc 45 args).run Try.prog w = .ok (.enter 45 args) w := enters_of Try.func45 (by kernel_rfl) rfl
theorem outside_predC (l : List Cor) (w : World) : PredC 45 #[] outB l w := fun W x _ _ => outside_any x.1 x.2.1 x.2.2 W

/-- A corner whose coordinates are in range. -/
def InC (c : Cor) : Prop := (-1048576 ≤ c.1 ∧ c.1 ≤ 1048576) ∧ (-1048576 ≤ c.2.1 ∧ c.2.1 ≤ 1048576)
theorem outB_no {c : Cor} : outB c = false ↔ InC c := by
  unfold outB InC
  rw [Bool.or_eq_false_iff, Bool.not_eq_false', Bool.not_eq_false']
  unfold coordB
  rw [win_iff, win_iff]

theorem sq_bound {x : Int} (h1 : -2097152 ≤ x) (h2 : x ≤ 2097152) : 0 ≤ x * x ∧ x * x ≤ 4398046511104 := by
  refine ⟨?_, ?_⟩
  · rcases Int.le_total 0 x with h | h
    · exact Int.mul_nonneg h h
    · exact Int.mul_nonneg_of_nonpos_of_nonpos h h
  · rcases Int.le_total 0 x with h | h
    · have := Int.mul_le_mul h2 h2 h (by omega); omega
    · have h3 : -x ≤ 2097152 := by omega
      have := Int.mul_le_mul h3 h3 (by omega) (by omega)
      rw [Int.neg_mul_neg] at this
      omega

theorem isNear_any (x y s x2 y2 s2 r : Int) (w : World) (h1 : InC (x, y, s)) (h2 : InC (x2, y2, s2)) (hr : 0 ≤ r ∧ r ≤ 1048576) :
    Calls Try.prog 47 #[.agg #[.int .i64 x, .int .i64 y, .int .i64 s], .agg #[.int .i64 x2, .int .i64 y2, .int .i64 s2], .int .i64 r] w fun e w' => e = .returned (.bool (nearB r (x, y, s) (x2, y2, s2))) ∧ Below w.heap.size w w' := by
  have hb0 := ((Below.refl w.heap.size w).alloc (Nat.le_refl _) (.cells #[.int .i64 x, .int .i64 y, .int .i64 s] 36)).alloc (by simp) (.cells #[.int .i64 x2, .int .i64 y2, .int .i64 s2] 36)
  obtain ⟨⟨p1, p2⟩, p3, p4⟩ := h1
  obtain ⟨⟨q1, q2⟩, q3, q4⟩ := h2
  simp only at p1 p2 p3 p4 q1 q2 q3 q4
  obtain ⟨r1, r2⟩ := hr
  obtain ⟨dx, hdx⟩ : ∃ d, x - x2 = d := ⟨_, rfl⟩
  obtain ⟨dy, hdy⟩ : ∃ d, y - y2 = d := ⟨_, rfl⟩
  obtain ⟨u1, u2⟩ := sq_bound (x := dx) (by omega) (by omega)
  obtain ⟨v1, v2⟩ := sq_bound (x := dy) (by omega) (by omega)
  obtain ⟨t1, t2⟩ := sq_bound (x := r) (by omega) (by omega)
  obtain ⟨X, hX⟩ : ∃ X, dx * dx = X := ⟨_, rfl⟩
  obtain ⟨Y, hY⟩ : ∃ X, dy * dy = X := ⟨_, rfl⟩
  obtain ⟨R, hR⟩ : ∃ X, r * r = X := ⟨_, rfl⟩
  have hv : Hid (nearB r (x, y, s) (x2, y2, s2) = decide (X + Y ≤ R)) := Lib.hid (by unfold nearB; simp only [hdx, hdy, hX, hY, hR])
  rw [hX] at u1 u2
  rw [hY] at v1 v2
  rw [hR] at t1 t2
  go_enter Try.func47, Try.ntmps47
  go_wp2
  go_quiet (fail)
  go_wp2
  go_ret
  exact ⟨ret_bool (by rw [hv.out]), by first | exact hb0 | exact below_drewN hb0 _⟩

theorem near_any (x y s x2 y2 s2 r : Int) (w : World) (h1 : InC (x, y, s)) (h2 : InC (x2, y2, s2)) (hr : 0 ≤ r ∧ r ≤ 1048576) :
    Calls Try.prog 48 #[.agg #[.int .i64 x, .int .i64 y, .int .i64 s], .agg #[.int .i64 x2, .int .i64 y2, .int .i64 s2], .int .i64 r] w fun e w' => e = .returned (.bool (nearB r (x, y, s) (x2, y2, s2))) ∧ Below w.heap.size w w' := by
  have hb0 := ((Below.refl w.heap.size w).alloc (Nat.le_refl _) (.cells #[.int .i64 x, .int .i64 y, .int .i64 s] 36)).alloc (by simp) (.cells #[.int .i64 x2, .int .i64 y2, .int .i64 s2] 36)
  obtain ⟨⟨p1, p2⟩, p3, p4⟩ := h1
  obtain ⟨⟨q1, q2⟩, q3, q4⟩ := h2
  simp only at p1 p2 p3 p4 q1 q2 q3 q4
  obtain ⟨r1, r2⟩ := hr
  obtain ⟨dx, hdx⟩ : ∃ d, x - x2 = d := ⟨_, rfl⟩
  obtain ⟨dy, hdy⟩ : ∃ d, y - y2 = d := ⟨_, rfl⟩
  obtain ⟨u1, u2⟩ := sq_bound (x := dx) (by omega) (by omega)
  obtain ⟨v1, v2⟩ := sq_bound (x := dy) (by omega) (by omega)
  obtain ⟨t1, t2⟩ := sq_bound (x := r) (by omega) (by omega)
  obtain ⟨X, hX⟩ : ∃ X, dx * dx = X := ⟨_, rfl⟩
  obtain ⟨Y, hY⟩ : ∃ X, dy * dy = X := ⟨_, rfl⟩
  obtain ⟨R, hR⟩ : ∃ X, r * r = X := ⟨_, rfl⟩
  have hv : Hid (nearB r (x, y, s) (x2, y2, s2) = decide (X + Y ≤ R)) := Lib.hid (by unfold nearB; simp only [hdx, hdy, hX, hY, hR])
  rw [hX] at u1 u2
  rw [hY] at v1 v2
  rw [hR] at t1 t2
  go_enter Try.func48, Try.ntmps48
  go_wp2
  go_ret
  exact ⟨ret_bool (by rw [hv.out]), by first | exact hb0 | exact below_drewN hb0 _⟩

theorem isNear_at {a c : Cor} {r : Int} {b : Bool} (h : nearB r a c = b) (h1 : InC a) (h2 : InC c) (hr : 0 ≤ r ∧ r ≤ 1048576) (w : World) :
    Calls Try.prog 47 #[.agg #[.int .i64 a.1, .int .i64 a.2.1, .int .i64 a.2.2], .agg #[.int .i64 c.1, .int .i64 c.2.1, .int .i64 c.2.2], .int .i64 r] w fun e w' => e = .returned (.bool b) ∧ Below w.heap.size w w' :=
  h ▸ isNear_any a.1 a.2.1 a.2.2 c.1 c.2.1 c.2.2 r w h1 h2 hr
theorem near_at {a c : Cor} {r : Int} {b : Bool} (h : nearB r a c = b) (h1 : InC a) (h2 : InC c) (hr : 0 ≤ r ∧ r ≤ 1048576) (w : World) :
    Calls Try.prog 48 #[.agg #[.int .i64 a.1, .int .i64 a.2.1, .int .i64 a.2.2], .agg #[.int .i64 c.1, .int .i64 c.2.1, .int .i64 c.2.2], .int .i64 r] w fun e w' => e = .returned (.bool b) ∧ Below w.heap.size w w' :=
  h ▸ near_any a.1 a.2.1 a.2.2 c.1 c.2.1 c.2.2 r w h1 h2 hr

end Go.Proofs.Ytnnaojaadjafbaa
