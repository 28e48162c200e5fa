/-
  Walk: the law of the parts of rasters.
-/
import Derived.Test.YtehnemdifkjhcaaRaPartA
set_option linter.unusedSimpArgs false
set_option linter.unusedVariables false
namespace Go.Proofs.Ytehnemdifkjhcaa
open Go.RowKit

set_option maxRecDepth 100000 in
set_option maxHeartbeats 12800000 in
theorem parts_out (a b : Nat) (M : Int) (A : Option Addr) (n c : Nat) (P : List Int) (x y wd ht : Int) (w : World) (h : Sl w A n c P) (hx : -9223372036854775808 ≤ x ∧ x ≤ 9223372036854775807) (hy : -9223372036854775808 ≤ y ∧ y ≤ 9223372036854775807) (hm : n ≤ 600) (hr : Ras a b M P) (hin : ¬ ((0 ≤ x ∧ x ≤ a - 1) ∧ (0 ≤ y ∧ y ≤ b - 1) ∧ (1 ≤ wd ∧ wd ≤ a - x) ∧ 1 ≤ ht ∧ ht ≤ b - y)) :
    Calls Try.prog 5 #[.agg #[.int .i64 a, .int .i64 b, .int .i64 M, .slice A n c], .agg #[.int .i64 x, .int .i64 y, .int .i64 wd, .int .i64 ht]] w fun e w' => e = .returned (.bool true) ∧ Below w.heap.size w w' := by
  have hcap := h.le_cap
  have hcl := h.cap_le
  obtain ⟨a', b', ea, eb, ⟨ha1, ha2⟩, ⟨hb1', hb2'⟩, ⟨hM1, hM2⟩, -⟩ := hr.nat
  obtain rfl : a = a' := by omega
  obtain rfl : b = b' := by omega
  clear ea eb
  have hbo := part_out hin
  have hp := Lib.hid (isp_out hin)
  replace hr := Lib.hid hr
  clear hin
  have hB0 := ((Below.refl w.heap.size w).alloc (by first | exact Nat.le_refl _ | (simp <;> omega)) (.cells #[.int .i64 a, .int .i64 b, .int .i64 M, .slice A n c] 24)).alloc (by first | exact Nat.le_refl _ | (simp <;> omega)) (.cells #[.int .i64 x, .int .i64 y, .int .i64 wd, .int .i64 ht] 45)
  have k0 : KB _ _ _ _ := ((KB.new w #[.int .i64 a, .int .i64 b, .int .i64 M, .slice A n c] 24).alloc (.cells #[.int .i64 x, .int .i64 y, .int .i64 wd, .int .i64 ht] 45))
  have k1 : KB _ _ _ _ := (KB.new (w.alloc (.cells #[.int .i64 a, .int .i64 b, .int .i64 M, .slice A n c] 24)) #[.int .i64 x, .int .i64 y, .int .i64 wd, .int .i64 ht] 45)
  simp only [World.size_alloc] at k1
  have hs := Lib.hid (fun w' (hb : Below w.heap.size w w') => h.below hb (Nat.le_refl _))
  rcases hbo with q1 | ⟨q1, q2⟩ | ⟨q1, q2, q3⟩ | ⟨q1, q2, q3, q4⟩ | ⟨q1, q2, q3, q4, q5⟩ | ⟨q1, q2, q3, q4, q5, q6⟩ | ⟨q1, q2, q3, q4, q5, q6, q7⟩ | ⟨q1, q2, q3, q4, q5, q6, q7, q8⟩
  all_goals
    go_enter Try.func5, Try.ntmps5
    go_wp2_with (first
    | (go_at_call 11; refine (known_any _).mono ?_; rintro e w1 ⟨rfl, hb1⟩; (try simp only [World.size_alloc] at hb1); have z1 := hb1.size; (try simp only [World.size_alloc] at z1); replace k0 := k0.below hb1 (by omega); replace k1 := k1.below hb1 (by omega); have hB1 := Below.trans hB0 (hb1.mono (by omega)); have k0_0 := k0.cell 0 rfl; have k0_1 := k0.cell 1 rfl; have k0_2 := k0.cell 2 rfl; have k0_3 := k0.cell 3 rfl; have k1_0 := k1.cell 0 rfl; have k1_1 := k1.cell 1 rfl; have k1_2 := k1.cell 2 rfl; have k1_3 := k1.cell 3 rfl)
    | (go_at_call 12; refine (few_one_yes (KB.new w1 _ _) hm).mono ?_; rintro e w2 ⟨rfl, hb2⟩; (try simp only [World.size_alloc] at hb2); have z2 := hb2.size; (try simp only [World.size_alloc] at z2); replace k0 := (k0.alloc _).below hb2 (by omega); replace k1 := (k1.alloc _).below hb2 (by omega); have hB2 := Below.trans (hB1.alloc (by first | exact hB1.size | (have := hB1.size; simp; omega)) _) (hb2.mono (by omega)); clear k0_0 k0_1 k0_2 k0_3 k1_0 k1_1 k1_2 k1_3; have k0_0 := k0.cell 0 rfl; have k0_1 := k0.cell 1 rfl; have k0_2 := k0.cell 2 rfl; have k0_3 := k0.cell 3 rfl; have k1_0 := k1.cell 0 rfl; have k1_1 := k1.cell 1 rfl; have k1_2 := k1.cell 2 rfl; have k1_3 := k1.cell 3 rfl)
    | (go_at_call 26; refine (Crop_out a b M A n c P x y wd ht _ (hs.out _ hB2) hr.out hp.out).mono ?_; rintro e w3 ⟨rfl, hb3⟩; (try simp only [World.size_alloc] at hb3); have z3 := hb3.size; (try simp only [World.size_alloc] at z3); replace k0 := k0.below hb3 (by omega); replace k1 := k1.below hb3 (by omega); have hB3 := Below.trans hB2 (hb3.mono (by omega)); replace k0 := k0.alloc (.cells #[.int .i64 0, .int .i64 0, .int .i64 0, .slice none 0 0] 24); replace k1 := k1.alloc (.cells #[.int .i64 0, .int .i64 0, .int .i64 0, .slice none 0 0] 24); have k9 : KB _ _ _ _ := KB.new w3 #[.int .i64 0, .int .i64 0, .int .i64 0, .slice none 0 0] 24; replace hB3 := hB3.alloc hB3.size (.cells #[.int .i64 0, .int .i64 0, .int .i64 0, .slice none 0 0] 24); clear k0_0 k0_1 k0_2 k0_3 k1_0 k1_1 k1_2 k1_3; have k0_0 := k0.cell 0 rfl; have k0_1 := k0.cell 1 rfl; have k0_2 := k0.cell 2 rfl; have k0_3 := k0.cell 3 rfl; have k1_0 := k1.cell 0 rfl; have k1_1 := k1.cell 1 rfl; have k1_2 := k1.cell 2 rfl; have k1_3 := k1.cell 3 rfl; have k9_0 := k9.cell 0 rfl; have k9_1 := k9.cell 1 rfl; have k9_2 := k9.cell 2 rfl; have k9_3 := k9.cell 3 rfl)
    | (go_at_call 14; refine (rCheck_ok (hs.out _ hB3) hr.out).mono ?_; rintro e w4 ⟨rfl, hb4⟩; (try simp only [World.size_alloc] at hb4); have z4 := hb4.size; (try simp only [World.size_alloc] at z4); replace k0 := k0.below hb4 (by omega); replace k1 := k1.below hb4 (by omega); replace k9 := k9.below hb4 (by omega); have hB4 := Below.trans hB3 (hb4.mono (by omega)); clear k0_0 k0_1 k0_2 k0_3 k1_0 k1_1 k1_2 k1_3 k9_0 k9_1 k9_2 k9_3; have k0_0 := k0.cell 0 rfl; have k0_1 := k0.cell 1 rfl; have k0_2 := k0.cell 2 rfl; have k0_3 := k0.cell 3 rfl; have k1_0 := k1.cell 0 rfl; have k1_1 := k1.cell 1 rfl; have k1_2 := k1.cell 2 rfl; have k1_3 := k1.cell 3 rfl; have k9_0 := k9.cell 0 rfl; have k9_1 := k9.cell 1 rfl; have k9_2 := k9.cell 2 rfl; have k9_3 := k9.cell 3 rfl)
    | (go_at_call 19; refine (empty_yes _).mono ?_; rintro e w5 ⟨rfl, hb5⟩; (try simp only [World.size_alloc] at hb5); have z5 := hb5.size; (try simp only [World.size_alloc] at z5); replace k0 := k0.below hb5 (by omega); replace k1 := k1.below hb5 (by omega); replace k9 := k9.below hb5 (by omega); have hB5 := Below.trans hB4 (hb5.mono (by omega)); clear k0_0 k0_1 k0_2 k0_3 k1_0 k1_1 k1_2 k1_3 k9_0 k9_1 k9_2 k9_3; have k0_0 := k0.cell 0 rfl; have k0_1 := k0.cell 1 rfl; have k0_2 := k0.cell 2 rfl; have k0_3 := k0.cell 3 rfl; have k1_0 := k1.cell 0 rfl; have k1_1 := k1.cell 1 rfl; have k1_2 := k1.cell 2 rfl; have k1_3 := k1.cell 3 rfl; have k9_0 := k9.cell 0 rfl; have k9_1 := k9.cell 1 rfl; have k9_2 := k9.cell 2 rfl; have k9_3 := k9.cell 3 rfl))
    go_ret
    exact ⟨rfl, hB5⟩

end Go.Proofs.Ytehnemdifkjhcaa
