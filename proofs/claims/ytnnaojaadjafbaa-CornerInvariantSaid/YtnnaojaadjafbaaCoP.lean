/-
  Walks: Offset of package corner and of the reference.
-/
import Derived.Test.YtnnaojaadjafbaaCoO
import Derived.Test.YtnnaojaadjafbaaCoB
set_option linter.unusedSimpArgs false
set_option linter.unusedVariables false
namespace Go.Proofs.Ytnnaojaadjafbaa
open Go.RowKit

/-- Are three numbers in range? -/
def In3 (b a c : Int) : Prop := In54 b ∧ In54 a ∧ In54 c
instance (n : Int) : Decidable (In54 n) := inferInstanceAs (Decidable (_ ∧ _))
instance (b a c : Int) : Decidable (In3 b a c) := inferInstanceAs (Decidable (_ ∧ _))
def offV (b a c : Int) : Int := if In3 b a c then off b a c else 0
def offC (b a c : Int) : Int := if In3 b a c then 0 else 2
theorem In54_win {n : Int} : win n (-18014398509481984) 18014398509481984 = true ↔ In54 n := win_iff

set_option maxHeartbeats 1600000 in
theorem Offset_any (b a c : Int) (w : World) :
    Calls Try.prog 24 #[.int .i64 b, .int .i64 a, .int .i64 c] w fun e w' => e = .returned (.tuple #[.int .i64 (offV b a c), .int .i64 (offC b a c)]) ∧ w = w' := by
  have i0 : ∀ w : World, (Instr.index 69 (.agg #[.int .i64 b, .int .i64 a, .int .i64 c]) (.int .i64 0)).run Try.prog w = .ok (.int .i64 b) w := fun _ => by kernel_rfl
  have i1 : ∀ w : World, (Instr.index 69 (.agg #[.int .i64 b, .int .i64 a, .int .i64 c]) (.int .i64 1)).run Try.prog w = .ok (.int .i64 a) w := fun _ => by kernel_rfl
  have i2 : ∀ w : World, (Instr.index 69 (.agg #[.int .i64 b, .int .i64 a, .int .i64 c]) (.int .i64 2)).run Try.prog w = .ok (.int .i64 c) w := fun _ => by kernel_rfl
  by_cases h : In3 b a c
  · have hv : offV b a c = off b a c := if_pos h
    have hk : offC b a c = 0 := if_pos h
    rw [hv, hk]
    obtain ⟨h1, h2, h3⟩ := h
    have k1 := Lib.hid (cwithin_at (In54_win.2 h1))
    have k2 := Lib.hid (cwithin_at (In54_win.2 h2))
    have k3 := Lib.hid (cwithin_at (In54_win.2 h3))
    have ho := Lib.hid (fun w => offset_any b a c w h1 h2 h3)
    clear hv hk h1 h2 h3
    go_enter Try.func24, Try.ntmps24
    go_wp2
    go_loopw [14] (fun i wr => ∃ k : Nat, k ≤ 3 ∧ i = .int .i64 k ∧ w = wr) (fun i _ => 3 - (intOf i).toNat)
    case atStart => exact ⟨0, by omega, rfl, rfl⟩
    case round =>
      obtain ⟨k, hk, rfl, rfl⟩ := hrel
      have hk4 : k = 0 ∨ k = 1 ∨ k = 2 ∨ k = 3 := by omega
      rcases hk4 with rfl | rfl | rfl | rfl
      · go_wp2_with (go_at_call 37; refine (k1.out _).mono ?_; rintro e w' ⟨rfl, rfl⟩)
        exact ⟨⟨1, by omega, rfl, by first | rfl | trivial⟩, by simp [intOf]⟩
      · go_wp2_with (go_at_call 37; refine (k2.out _).mono ?_; rintro e w' ⟨rfl, rfl⟩)
        exact ⟨⟨2, by omega, rfl, by first | rfl | trivial⟩, by simp [intOf]⟩
      · go_wp2_with (go_at_call 37; refine (k3.out _).mono ?_; rintro e w' ⟨rfl, rfl⟩)
        exact ⟨⟨3, by omega, rfl, by first | rfl | trivial⟩, by simp [intOf]⟩
      · go_wp2_with (go_at_call 50; refine (ho.out _).mono ?_; rintro e w' ⟨rfl, rfl⟩)
        exact bodyPost_ret (v := .tuple #[.int .i64 (off b a c), .int .i64 0]) (by simp [results, Try.results24, go_sem]) rfl ⟨rfl, rfl⟩
  · have hv : offV b a c = 0 := if_neg h
    have hk : offC b a c = 2 := if_neg h
    rw [hv, hk]
    clear hv hk
    obtain ⟨y1, h1⟩ : ∃ y, win b (-18014398509481984) 18014398509481984 = y := ⟨_, rfl⟩
    obtain ⟨y2, h2⟩ : ∃ y, win a (-18014398509481984) 18014398509481984 = y := ⟨_, rfl⟩
    obtain ⟨y3, h3⟩ : ∃ y, win c (-18014398509481984) 18014398509481984 = y := ⟨_, rfl⟩
    have hn : (y1 && (y2 && y3)) = false := by
      rw [← h1, ← h2, ← h3]
      rw [← Bool.not_eq_true]
      intro e
      rw [Bool.and_eq_true, Bool.and_eq_true] at e
      exact h ⟨In54_win.1 e.1, In54_win.1 e.2.1, In54_win.1 e.2.2⟩
    have k1 := Lib.hid (cwithin_at h1)
    have k2 := Lib.hid (cwithin_at h2)
    have k3 := Lib.hid (cwithin_at h3)
    clear h h1 h2 h3
    go_enter Try.func24, Try.ntmps24
    go_wp2
    go_loopw [14] (fun i wr => ∃ k : Nat, k ≤ 2 ∧ i = .int .i64 k ∧ Hid ((k = 1 → y1 = true) ∧ (k = 2 → y1 = true ∧ y2 = true)) ∧ w = wr) (fun i _ => 3 - (intOf i).toNat)
    case atStart => exact ⟨0, by omega, rfl, Lib.hid ⟨by simp, by simp⟩, rfl⟩
    case round =>
      obtain ⟨k, hk, rfl, hc, rfl⟩ := hrel
      have hk4 : k = 0 ∨ k = 1 ∨ k = 2 := by omega
      rcases hk4 with rfl | rfl | rfl
      · cases y1
        · go_wp2_with (go_at_call 37; refine (k1.out _).mono ?_; rintro e w' ⟨rfl, rfl⟩)
          exact bodyPost_ret (v := .tuple #[.int .i64 0, .int .i64 2]) (by simp [results, Try.results24, go_sem]) rfl ⟨rfl, rfl⟩
        · go_wp2_with (go_at_call 37; refine (k1.out _).mono ?_; rintro e w' ⟨rfl, rfl⟩)
          exact ⟨⟨1, by omega, rfl, Lib.hid ⟨by simp, by simp⟩, by first | rfl | trivial⟩, by simp [intOf]⟩
      · have e1 := hc.out.1 rfl
        subst e1
        cases y2
        · go_wp2_with (go_at_call 37; refine (k2.out _).mono ?_; rintro e w' ⟨rfl, rfl⟩)
          exact bodyPost_ret (v := .tuple #[.int .i64 0, .int .i64 2]) (by simp [results, Try.results24, go_sem]) rfl ⟨rfl, rfl⟩
        · go_wp2_with (go_at_call 37; refine (k2.out _).mono ?_; rintro e w' ⟨rfl, rfl⟩)
          exact ⟨⟨2, by omega, rfl, Lib.hid ⟨by simp, by simp⟩, by first | rfl | trivial⟩, by simp [intOf]⟩
      · obtain ⟨e1, e2⟩ := hc.out.2 rfl
        subst e1 e2
        cases y3
        · go_wp2_with (go_at_call 37; refine (k3.out _).mono ?_; rintro e w' ⟨rfl, rfl⟩)
          exact bodyPost_ret (v := .tuple #[.int .i64 0, .int .i64 2]) (by simp [results, Try.results24, go_sem]) rfl ⟨rfl, rfl⟩
        · exact absurd hn (by decide)

/-- Which of three ways a number goes. -/
theorem in54_cases (n : Int) : In54 n ∨ 18014398509481984 < n ∨ n < -18014398509481984 := by unfold In54; omega

set_option maxHeartbeats 3200000 in
theorem rOffset_any (b a c : Int) (w : World) :
    Calls Try.prog 25 #[.int .i64 b, .int .i64 a, .int .i64 c] w fun e w' => e = .returned (.tuple #[.int .i64 (offV b a c), .int .i64 (offC b a c)]) ∧ Below w.heap.size w w' := by
  have hb0 := (Below.refl w.heap.size w).alloc (Nat.le_refl _) (.cells #[.int .i64 b, .int .i64 a, .int .i64 c] 3)
  by_cases h : In3 b a c
  · have hv : offV b a c = off b a c := if_pos h
    have hk : offC b a c = 0 := if_pos h
    rw [hv, hk]
    obtain ⟨h1, h2, h3⟩ := h
    have ho := Lib.hid (fun w => Parabola_any b a c w h1 h2 h3)
    obtain ⟨p1, q1⟩ := h1
    obtain ⟨p2, q2⟩ := h2
    obtain ⟨p3, q3⟩ := h3
    clear hv hk
    go_enter Try.func25, Try.ntmps25
    go_wp2
    go_loopw [9] (fun i wr => ∃ k : Nat, k ≤ 3 ∧ i = .int .i64 k ∧ wr = w.alloc (.cells #[.int .i64 b, .int .i64 a, .int .i64 c] 3)) (fun i _ => 3 - (intOf i).toNat)
    case atStart => exact ⟨0, by omega, rfl, rfl⟩
    case round =>
      obtain ⟨k, hk, rfl, rfl⟩ := hrel
      have hk4 : k = 0 ∨ k = 1 ∨ k = 2 ∨ k = 3 := by omega
      rcases hk4 with rfl | rfl | rfl | rfl
      · go_wp2
        exact ⟨⟨1, by omega, rfl, by first | rfl | trivial⟩, by simp [intOf]⟩
      · go_wp2
        exact ⟨⟨2, by omega, rfl, by first | rfl | trivial⟩, by simp [intOf]⟩
      · go_wp2
        exact ⟨⟨3, by omega, rfl, by first | rfl | trivial⟩, by simp [intOf]⟩
      · go_wp2_with (go_at_call 44; refine (ho.out _).mono ?_; rintro e w' ⟨rfl, rfl⟩)
        exact bodyPost_ret (v := .tuple #[.int .i64 (off b a c), .int .i64 0]) (by simp [results, Try.results25, go_sem]) rfl ⟨rfl, hb0⟩
  · have hv : offV b a c = 0 := if_neg h
    have hk : offC b a c = 2 := if_neg h
    rw [hv, hk]
    clear hv hk
    have hn : ¬ (In54 b ∧ In54 a ∧ In54 c) := h
    clear h
    replace hn := Lib.hid hn
    go_enter Try.func25, Try.ntmps25
    go_wp2
    go_loopw [9] (fun i wr => ∃ k : Nat, k ≤ 2 ∧ i = .int .i64 k ∧ Hid ((k = 1 → In54 b) ∧ (k = 2 → In54 b ∧ In54 a)) ∧ wr = w.alloc (.cells #[.int .i64 b, .int .i64 a, .int .i64 c] 3)) (fun i _ => 3 - (intOf i).toNat)
    case atStart => exact ⟨0, by omega, rfl, Lib.hid ⟨by simp, by simp⟩, rfl⟩
    case round =>
      obtain ⟨k, hk, rfl, hc, rfl⟩ := hrel
      have hk4 : k = 0 ∨ k = 1 ∨ k = 2 := by omega
      rcases hk4 with rfl | rfl | rfl
      · rcases in54_cases b with g | g | g
        · have g' := Lib.hid g
          obtain ⟨g1, g2⟩ := g
          go_wp2
          exact ⟨⟨1, by omega, rfl, Lib.hid ⟨fun _ => g'.out, by simp⟩, by first | rfl | trivial⟩, by simp [intOf]⟩
        · go_wp2
          exact bodyPost_ret (v := .tuple #[.int .i64 0, .int .i64 2]) (by simp [results, Try.results25, go_sem]) rfl ⟨rfl, hb0⟩
        · have g2 : b ≤ 18014398509481984 := by omega
          go_wp2
          exact bodyPost_ret (v := .tuple #[.int .i64 0, .int .i64 2]) (by simp [results, Try.results25, go_sem]) rfl ⟨rfl, hb0⟩
      · have e1 := hc.out.1 rfl
        replace e1 := Lib.hid e1
        rcases in54_cases a with g | g | g
        · have g' := Lib.hid g
          obtain ⟨g1, g2⟩ := g
          go_wp2
          exact ⟨⟨2, by omega, rfl, Lib.hid ⟨by simp, fun _ => ⟨e1.out, g'.out⟩⟩, by first | rfl | trivial⟩, by simp [intOf]⟩
        · go_wp2
          exact bodyPost_ret (v := .tuple #[.int .i64 0, .int .i64 2]) (by simp [results, Try.results25, go_sem]) rfl ⟨rfl, hb0⟩
        · have g2 : a ≤ 18014398509481984 := by omega
          go_wp2
          exact bodyPost_ret (v := .tuple #[.int .i64 0, .int .i64 2]) (by simp [results, Try.results25, go_sem]) rfl ⟨rfl, hb0⟩
      · have e1 := hc.out.2 rfl
        replace e1 := Lib.hid e1
        rcases in54_cases c with g | g | g
        · exact absurd ⟨e1.out.1, e1.out.2, g⟩ hn.out
        · go_wp2
          exact bodyPost_ret (v := .tuple #[.int .i64 0, .int .i64 2]) (by simp [results, Try.results25, go_sem]) rfl ⟨rfl, hb0⟩
        · have g2 : c ≤ 18014398509481984 := by omega
          go_wp2
          exact bodyPost_ret (v := .tuple #[.int .i64 0, .int .i64 2]) (by simp [results, Try.results25, go_sem]) rfl ⟨rfl, hb0⟩

end Go.Proofs.Ytnnaojaadjafbaa
