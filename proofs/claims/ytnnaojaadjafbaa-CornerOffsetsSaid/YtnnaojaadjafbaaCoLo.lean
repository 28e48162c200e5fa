/-
  Walk: the law CornerOffsets.
-/
import Derived.Test.YtnnaojaadjafbaaCoKn
set_option linter.unusedSimpArgs false
set_option linter.unusedVariables false
namespace Go.Proofs.Ytnnaojaadjafbaa
open Go.RowKit

theorem In3_comm {b a c : Int} : In3 c a b ↔ In3 b a c := ⟨fun h => ⟨h.2.2, h.2.1, h.1⟩, fun h => ⟨h.2.2, h.2.1, h.1⟩⟩
theorem off_at {b a c n k : Int} (h1 : offV b a c = n) (h2 : offC b a c = k) (w : World) :
    Calls Try.prog 24 #[.int .i64 b, .int .i64 a, .int .i64 c] w fun e w' => e = .returned (.tuple #[.int .i64 n, .int .i64 k]) ∧ w = w' := by
  subst h1 h2
  exact Offset_any b a c w
theorem roff_at {b a c n k : Int} (h1 : offV b a c = n) (h2 : offC b a c = k) (w : World) :
    Calls Try.prog 25 #[.int .i64 b, .int .i64 a, .int .i64 c] w fun e w' => e = .returned (.tuple #[.int .i64 n, .int .i64 k]) ∧ Below w.heap.size w w' := by
  subst h1 h2
  exact rOffset_any b a c w

set_option maxRecDepth 100000 in
set_option maxHeartbeats 3200000 in
theorem lawOffsets_any (b a c : Int) (w : World) :
    Calls Try.prog 7 #[.int .i64 b, .int .i64 a, .int .i64 c] w fun e w' => e = .returned (.bool true) ∧ Below w.heap.size w w' := by
  have tok : True := trivial
  by_cases h : In3 b a c
  · obtain ⟨n, hn⟩ : ∃ n, off b a c = n := ⟨_, rfl⟩
    obtain ⟨k, hk⟩ : ∃ n, off c a b = n := ⟨_, rfl⟩
    have hr := off_range b a c
    have hm := off_mirror b a c
    rw [hn] at hr hm
    rw [hk] at hm
    obtain ⟨r1, r2⟩ := hr
    have hv : offV b a c = n := (if_pos h).trans hn
    have hv2 : offV c a b = k := (if_pos (In3_comm.2 h)).trans hk
    have c1 := Lib.hid (off_at hv (if_pos h : offC b a c = 0))
    have c2 := Lib.hid (roff_at hv (if_pos h : offC b a c = 0))
    have c3 := Lib.hid (off_at hv2 (if_pos (In3_comm.2 h) : offC c a b = 0))
    clear h hn hk hv hv2
    rcases hm with rfl | rfl
    · go_enter Try.func7, Try.ntmps7
      go_wp2_with (first
        | (go_at_call 11; refine (known_any _).mono ?_; rintro e w1 ⟨rfl, hb1⟩)
        | (go_at_call 24; clear tok; refine (c1.out _).mono ?_; rintro e w' ⟨rfl, rfl⟩)
        | (go_at_call 25; refine (c2.out _).mono ?_; rintro e w2 ⟨rfl, hb2⟩)
        | (go_at_call 24; refine (c3.out _).mono ?_; rintro e w' ⟨rfl, rfl⟩))
      go_ret
      exact ⟨rfl, hb1.trans (hb2.mono hb1.size)⟩
    · have hne : ¬ 1 - n = -n := by omega
      have hne2 : (1 - n == -n) = false := by rw [beq_eq_false_iff_ne]; omega
      go_enter Try.func7, Try.ntmps7
      go_wp2_with (first
        | (go_at_call 11; refine (known_any _).mono ?_; rintro e w1 ⟨rfl, hb1⟩)
        | (go_at_call 24; clear tok; refine (c1.out _).mono ?_; rintro e w' ⟨rfl, rfl⟩)
        | (go_at_call 25; refine (c2.out _).mono ?_; rintro e w2 ⟨rfl, hb2⟩)
        | (go_at_call 24; refine (c3.out _).mono ?_; rintro e w' ⟨rfl, rfl⟩))
      go_ret
      exact ⟨rfl, hb1.trans (hb2.mono hb1.size)⟩
  · have c1 := Lib.hid (off_at (if_neg h : offV b a c = 0) (if_neg h : offC b a c = 2))
    have c2 := Lib.hid (roff_at (if_neg h : offV b a c = 0) (if_neg h : offC b a c = 2))
    have h' : ¬ In3 c a b := fun e => h (In3_comm.1 e)
    have c3 := Lib.hid (off_at (if_neg h' : offV c a b = 0) (if_neg h' : offC c a b = 2))
    clear h h'
    go_enter Try.func7, Try.ntmps7
    go_wp2_with (first
      | (go_at_call 11; refine (known_any _).mono ?_; rintro e w1 ⟨rfl, hb1⟩)
      | (go_at_call 24; clear tok; refine (c1.out _).mono ?_; rintro e w' ⟨rfl, rfl⟩)
      | (go_at_call 25; refine (c2.out _).mono ?_; rintro e w2 ⟨rfl, hb2⟩)
      | (go_at_call 24; refine (c3.out _).mono ?_; rintro e w' ⟨rfl, rfl⟩))
    go_ret
    exact ⟨rfl, hb1.trans (hb2.mono hb1.size)⟩

end Go.Proofs.Ytnnaojaadjafbaa
