/-
  Walk: the law of the pixels of rasters.
-/
import Derived.Test.YtehnemdifkjhcaaRaPix
set_option linter.unusedSimpArgs false
set_option linter.unusedVariables false
namespace Go.Proofs.Ytehnemdifkjhcaa
open Go.RowKit

theorem rInside_at {W H M : Int} {A : Option Addr} {n c : Nat} {x y : Int} {w : World} {b : Bool} (hb : ins W H x y = b) :
    Calls Try.prog 23 #[.agg #[.int .i64 W, .int .i64 H, .int .i64 M, .slice A n c], .int .i64 x, .int .i64 y] w fun e w' => e = .returned (.bool b) ∧ Below w.heap.size w w' := hb ▸ rInside_any W H M A n c x y w

set_option maxRecDepth 100000 in
set_option maxHeartbeats 6400000 in
theorem pixels_many (W H M : Int) (A : Option Addr) (n c : Nat) (P : List Int) (x y v : Int) (w : World) (h : Sl w A n c P) (hm : 600 < n) :
    Calls Try.prog 4 #[.agg #[.int .i64 W, .int .i64 H, .int .i64 M, .slice A n c], .agg #[.int .i64 x, .int .i64 y], .int .i64 v] w fun e w' => e = .returned (.bool true) ∧ Below w.heap.size w w' := by
  have hcap := h.le_cap
  have hcl := h.cap_le
  have hB0 := ((Below.refl w.heap.size w).alloc (by first | exact Nat.le_refl _ | (simp <;> omega)) (.cells #[.int .i64 W, .int .i64 H, .int .i64 M, .slice A n c] 24)).alloc (by first | exact Nat.le_refl _ | (simp <;> omega)) (.cells #[.int .i64 x, .int .i64 y] 37)
  have k0 : KB _ _ _ _ := ((KB.new w #[.int .i64 W, .int .i64 H, .int .i64 M, .slice A n c] 24).alloc (.cells #[.int .i64 x, .int .i64 y] 37))
  have k1 : KB _ _ _ _ := (KB.new (w.alloc (.cells #[.int .i64 W, .int .i64 H, .int .i64 M, .slice A n c] 24)) #[.int .i64 x, .int .i64 y] 37)
  simp only [World.size_alloc] at k1
  clear h
  go_enter Try.func4, Try.ntmps4
  go_wp2_with (first
    | (go_at_call 11; refine (known_any _).mono ?_; rintro e w1 ⟨rfl, hb1⟩; (try simp only [World.size_alloc] at hb1); have z1 := hb1.size; (try simp only [World.size_alloc] at z1); replace k0 := k0.below hb1 (by omega); replace k1 := k1.below hb1 (by omega); have hB1 := Below.trans hB0 (hb1.mono (by omega)); have k0_0 := k0.cell 0 rfl; have k0_1 := k0.cell 1 rfl; have k0_2 := k0.cell 2 rfl; have k0_3 := k0.cell 3 rfl; have k1_0 := k1.cell 0 rfl; have k1_1 := k1.cell 1 rfl)
    | (go_at_call 12; refine (few_one_no (KB.new w1 _ _) (by omega) hm).mono ?_; rintro e w2 ⟨rfl, hb2⟩; (try simp only [World.size_alloc] at hb2); have z2 := hb2.size; (try simp only [World.size_alloc] at z2); replace k0 := (k0.alloc _).below hb2 (by omega); replace k1 := (k1.alloc _).below hb2 (by omega); have hB2 := Below.trans (hB1.alloc (by first | exact hB1.size | (have := hB1.size; simp; omega)) _) (hb2.mono (by omega)); clear k0_0 k0_1 k0_2 k0_3 k1_0 k1_1; have k0_0 := k0.cell 0 rfl; have k0_1 := k0.cell 1 rfl; have k0_2 := k0.cell 2 rfl; have k0_3 := k0.cell 3 rfl; have k1_0 := k1.cell 0 rfl; have k1_1 := k1.cell 1 rfl))
  go_ret
  exact ⟨rfl, hB2⟩

set_option maxRecDepth 100000 in
set_option maxHeartbeats 6400000 in
theorem pixels_bad (W H M : Int) (A : Option Addr) (n c : Nat) (P : List Int) (x y v : Int) (w : World) (h : Sl w A n c P) (hm : n ≤ 600) (hr : ¬ Ras W H M P) :
    Calls Try.prog 4 #[.agg #[.int .i64 W, .int .i64 H, .int .i64 M, .slice A n c], .agg #[.int .i64 x, .int .i64 y], .int .i64 v] w fun e w' => e = .returned (.bool true) ∧ Below w.heap.size w w' := by
  have hcap := h.le_cap
  have hcl := h.cap_le
  have hB0 := ((Below.refl w.heap.size w).alloc (by first | exact Nat.le_refl _ | (simp <;> omega)) (.cells #[.int .i64 W, .int .i64 H, .int .i64 M, .slice A n c] 24)).alloc (by first | exact Nat.le_refl _ | (simp <;> omega)) (.cells #[.int .i64 x, .int .i64 y] 37)
  have k0 : KB _ _ _ _ := ((KB.new w #[.int .i64 W, .int .i64 H, .int .i64 M, .slice A n c] 24).alloc (.cells #[.int .i64 x, .int .i64 y] 37))
  have k1 : KB _ _ _ _ := (KB.new (w.alloc (.cells #[.int .i64 W, .int .i64 H, .int .i64 M, .slice A n c] 24)) #[.int .i64 x, .int .i64 y] 37)
  simp only [World.size_alloc] at k1
  have hs := Lib.hid (fun w' (hb : Below w.heap.size w w') => h.below hb (Nat.le_refl _))
  replace hr := Lib.hid hr
  go_enter Try.func4, Try.ntmps4
  go_wp2_with (first
    | (go_at_call 11; refine (known_any _).mono ?_; rintro e w1 ⟨rfl, hb1⟩; (try simp only [World.size_alloc] at hb1); have z1 := hb1.size; (try simp only [World.size_alloc] at z1); replace k0 := k0.below hb1 (by omega); replace k1 := k1.below hb1 (by omega); have hB1 := Below.trans hB0 (hb1.mono (by omega)); have k0_0 := k0.cell 0 rfl; have k0_1 := k0.cell 1 rfl; have k0_2 := k0.cell 2 rfl; have k0_3 := k0.cell 3 rfl; have k1_0 := k1.cell 0 rfl; have k1_1 := k1.cell 1 rfl)
    | (go_at_call 12; refine (few_one_yes (KB.new w1 _ _) hm).mono ?_; rintro e w2 ⟨rfl, hb2⟩; (try simp only [World.size_alloc] at hb2); have z2 := hb2.size; (try simp only [World.size_alloc] at z2); replace k0 := (k0.alloc _).below hb2 (by omega); replace k1 := (k1.alloc _).below hb2 (by omega); have hB2 := Below.trans (hB1.alloc (by first | exact hB1.size | (have := hB1.size; simp; omega)) _) (hb2.mono (by omega)); clear k0_0 k0_1 k0_2 k0_3 k1_0 k1_1; have k0_0 := k0.cell 0 rfl; have k0_1 := k0.cell 1 rfl; have k0_2 := k0.cell 2 rfl; have k0_3 := k0.cell 3 rfl; have k1_0 := k1.cell 0 rfl; have k1_1 := k1.cell 1 rfl)
    | (go_at_call 21; refine (At_bad W H M A n c P x y _ (hs.out _ hB2) hr.out).mono ?_; rintro e w3 ⟨rfl, hb3⟩; (try simp only [World.size_alloc] at hb3); have z3 := hb3.size; (try simp only [World.size_alloc] at z3); replace k0 := k0.below hb3 (by omega); replace k1 := k1.below hb3 (by omega); have hB3 := Below.trans hB2 (hb3.mono (by omega)); clear k0_0 k0_1 k0_2 k0_3 k1_0 k1_1; have k0_0 := k0.cell 0 rfl; have k0_1 := k0.cell 1 rfl; have k0_2 := k0.cell 2 rfl; have k0_3 := k0.cell 3 rfl; have k1_0 := k1.cell 0 rfl; have k1_1 := k1.cell 1 rfl)
    | (go_at_call 22; refine (Set_bad W H M A n c P x y v _ (hs.out _ hB3) hr.out).mono ?_; rintro e w4 ⟨rfl, hb4⟩; (try simp only [World.size_alloc] at hb4); have z4 := hb4.size; (try simp only [World.size_alloc] at z4); replace k0 := k0.below hb4 (by omega); replace k1 := k1.below hb4 (by omega); have hB4 := Below.trans hB3 (hb4.mono (by omega)); replace k0 := k0.alloc (.cells #[.int .i64 0, .int .i64 0, .int .i64 0, .slice none 0 0] 24); replace k1 := k1.alloc (.cells #[.int .i64 0, .int .i64 0, .int .i64 0, .slice none 0 0] 24); have k9 : KB _ _ _ _ := KB.new w4 #[.int .i64 0, .int .i64 0, .int .i64 0, .slice none 0 0] 24; replace hB4 := hB4.alloc hB4.size (.cells #[.int .i64 0, .int .i64 0, .int .i64 0, .slice none 0 0] 24); clear k0_0 k0_1 k0_2 k0_3 k1_0 k1_1; have k0_0 := k0.cell 0 rfl; have k0_1 := k0.cell 1 rfl; have k0_2 := k0.cell 2 rfl; have k0_3 := k0.cell 3 rfl; have k1_0 := k1.cell 0 rfl; have k1_1 := k1.cell 1 rfl; have k9_0 := k9.cell 0 rfl; have k9_1 := k9.cell 1 rfl; have k9_2 := k9.cell 2 rfl; have k9_3 := k9.cell 3 rfl)
    | (go_at_call 14; refine (rCheck_no (hs.out _ hB4) hr.out).mono ?_; rintro e w5 ⟨rfl, hb5⟩; (try simp only [World.size_alloc] at hb5); have z5 := hb5.size; (try simp only [World.size_alloc] at z5); replace k0 := k0.below hb5 (by omega); replace k1 := k1.below hb5 (by omega); replace k9 := k9.below hb5 (by omega); have hB5 := Below.trans hB4 (hb5.mono (by omega)); clear k0_0 k0_1 k0_2 k0_3 k1_0 k1_1 k9_0 k9_1 k9_2 k9_3; have k0_0 := k0.cell 0 rfl; have k0_1 := k0.cell 1 rfl; have k0_2 := k0.cell 2 rfl; have k0_3 := k0.cell 3 rfl; have k1_0 := k1.cell 0 rfl; have k1_1 := k1.cell 1 rfl; have k9_0 := k9.cell 0 rfl; have k9_1 := k9.cell 1 rfl; have k9_2 := k9.cell 2 rfl; have k9_3 := k9.cell 3 rfl)
    | (go_at_call 19; refine (empty_yes _).mono ?_; rintro e w6 ⟨rfl, hb6⟩; (try simp only [World.size_alloc] at hb6); have z6 := hb6.size; (try simp only [World.size_alloc] at z6); replace k0 := k0.below hb6 (by omega); replace k1 := k1.below hb6 (by omega); replace k9 := k9.below hb6 (by omega); have hB6 := Below.trans hB5 (hb6.mono (by omega)); clear k0_0 k0_1 k0_2 k0_3 k1_0 k1_1 k9_0 k9_1 k9_2 k9_3; have k0_0 := k0.cell 0 rfl; have k0_1 := k0.cell 1 rfl; have k0_2 := k0.cell 2 rfl; have k0_3 := k0.cell 3 rfl; have k1_0 := k1.cell 0 rfl; have k1_1 := k1.cell 1 rfl; have k9_0 := k9.cell 0 rfl; have k9_1 := k9.cell 1 rfl; have k9_2 := k9.cell 2 rfl; have k9_3 := k9.cell 3 rfl))
  go_ret
  exact ⟨rfl, hB6⟩

set_option maxRecDepth 100000 in
set_option maxHeartbeats 6400000 in
theorem pixels_out (W H M : Int) (A : Option Addr) (n c : Nat) (P : List Int) (x y v : Int) (w : World) (h : Sl w A n c P) (hm : n ≤ 600) (hr : Ras W H M P) (hi : ins W H x y = false) :
    Calls Try.prog 4 #[.agg #[.int .i64 W, .int .i64 H, .int .i64 M, .slice A n c], .agg #[.int .i64 x, .int .i64 y], .int .i64 v] w fun e w' => e = .returned (.bool true) ∧ Below w.heap.size w w' := by
  have hcap := h.le_cap
  have hcl := h.cap_le
  have hB0 := ((Below.refl w.heap.size w).alloc (by first | exact Nat.le_refl _ | (simp <;> omega)) (.cells #[.int .i64 W, .int .i64 H, .int .i64 M, .slice A n c] 24)).alloc (by first | exact Nat.le_refl _ | (simp <;> omega)) (.cells #[.int .i64 x, .int .i64 y] 37)
  have k0 : KB _ _ _ _ := ((KB.new w #[.int .i64 W, .int .i64 H, .int .i64 M, .slice A n c] 24).alloc (.cells #[.int .i64 x, .int .i64 y] 37))
  have k1 : KB _ _ _ _ := (KB.new (w.alloc (.cells #[.int .i64 W, .int .i64 H, .int .i64 M, .slice A n c] 24)) #[.int .i64 x, .int .i64 y] 37)
  simp only [World.size_alloc] at k1
  have hs := Lib.hid (fun w' (hb : Below w.heap.size w w') => h.below hb (Nat.le_refl _))
  replace hr := Lib.hid hr
  replace hi := Lib.hid hi
  go_enter Try.func4, Try.ntmps4
  go_wp2_with (first
    | (go_at_call 11; refine (known_any _).mono ?_; rintro e w1 ⟨rfl, hb1⟩; (try simp only [World.size_alloc] at hb1); have z1 := hb1.size; (try simp only [World.size_alloc] at z1); replace k0 := k0.below hb1 (by omega); replace k1 := k1.below hb1 (by omega); have hB1 := Below.trans hB0 (hb1.mono (by omega)); have k0_0 := k0.cell 0 rfl; have k0_1 := k0.cell 1 rfl; have k0_2 := k0.cell 2 rfl; have k0_3 := k0.cell 3 rfl; have k1_0 := k1.cell 0 rfl; have k1_1 := k1.cell 1 rfl)
    | (go_at_call 12; refine (few_one_yes (KB.new w1 _ _) hm).mono ?_; rintro e w2 ⟨rfl, hb2⟩; (try simp only [World.size_alloc] at hb2); have z2 := hb2.size; (try simp only [World.size_alloc] at z2); replace k0 := (k0.alloc _).below hb2 (by omega); replace k1 := (k1.alloc _).below hb2 (by omega); have hB2 := Below.trans (hB1.alloc (by first | exact hB1.size | (have := hB1.size; simp; omega)) _) (hb2.mono (by omega)); clear k0_0 k0_1 k0_2 k0_3 k1_0 k1_1; have k0_0 := k0.cell 0 rfl; have k0_1 := k0.cell 1 rfl; have k0_2 := k0.cell 2 rfl; have k0_3 := k0.cell 3 rfl; have k1_0 := k1.cell 0 rfl; have k1_1 := k1.cell 1 rfl)
    | (go_at_call 21; refine (At_out W H M A n c P x y _ (hs.out _ hB2) hr.out hi.out).mono ?_; rintro e w3 ⟨rfl, hb3⟩; (try simp only [World.size_alloc] at hb3); have z3 := hb3.size; (try simp only [World.size_alloc] at z3); replace k0 := k0.below hb3 (by omega); replace k1 := k1.below hb3 (by omega); have hB3 := Below.trans hB2 (hb3.mono (by omega)); clear k0_0 k0_1 k0_2 k0_3 k1_0 k1_1; have k0_0 := k0.cell 0 rfl; have k0_1 := k0.cell 1 rfl; have k0_2 := k0.cell 2 rfl; have k0_3 := k0.cell 3 rfl; have k1_0 := k1.cell 0 rfl; have k1_1 := k1.cell 1 rfl)
    | (go_at_call 22; refine (Set_out W H M A n c P x y v _ (hs.out _ hB3) hr.out (.inl hi.out)).mono ?_; rintro e w4 ⟨rfl, hb4⟩; (try simp only [World.size_alloc] at hb4); have z4 := hb4.size; (try simp only [World.size_alloc] at z4); replace k0 := k0.below hb4 (by omega); replace k1 := k1.below hb4 (by omega); have hB4 := Below.trans hB3 (hb4.mono (by omega)); replace k0 := k0.alloc (.cells #[.int .i64 0, .int .i64 0, .int .i64 0, .slice none 0 0] 24); replace k1 := k1.alloc (.cells #[.int .i64 0, .int .i64 0, .int .i64 0, .slice none 0 0] 24); have k9 : KB _ _ _ _ := KB.new w4 #[.int .i64 0, .int .i64 0, .int .i64 0, .slice none 0 0] 24; replace hB4 := hB4.alloc hB4.size (.cells #[.int .i64 0, .int .i64 0, .int .i64 0, .slice none 0 0] 24); clear k0_0 k0_1 k0_2 k0_3 k1_0 k1_1; have k0_0 := k0.cell 0 rfl; have k0_1 := k0.cell 1 rfl; have k0_2 := k0.cell 2 rfl; have k0_3 := k0.cell 3 rfl; have k1_0 := k1.cell 0 rfl; have k1_1 := k1.cell 1 rfl; have k9_0 := k9.cell 0 rfl; have k9_1 := k9.cell 1 rfl; have k9_2 := k9.cell 2 rfl; have k9_3 := k9.cell 3 rfl)
    | (go_at_call 14; refine (rCheck_ok (hs.out _ hB4) hr.out).mono ?_; rintro e w5 ⟨rfl, hb5⟩; (try simp only [World.size_alloc] at hb5); have z5 := hb5.size; (try simp only [World.size_alloc] at z5); replace k0 := k0.below hb5 (by omega); replace k1 := k1.below hb5 (by omega); replace k9 := k9.below hb5 (by omega); have hB5 := Below.trans hB4 (hb5.mono (by omega)); clear k0_0 k0_1 k0_2 k0_3 k1_0 k1_1 k9_0 k9_1 k9_2 k9_3; have k0_0 := k0.cell 0 rfl; have k0_1 := k0.cell 1 rfl; have k0_2 := k0.cell 2 rfl; have k0_3 := k0.cell 3 rfl; have k1_0 := k1.cell 0 rfl; have k1_1 := k1.cell 1 rfl; have k9_0 := k9.cell 0 rfl; have k9_1 := k9.cell 1 rfl; have k9_2 := k9.cell 2 rfl; have k9_3 := k9.cell 3 rfl)
    | (go_at_call 23; refine (rInside_at hi.out).mono ?_; rintro e w6 ⟨rfl, hb6⟩; (try simp only [World.size_alloc] at hb6); have z6 := hb6.size; (try simp only [World.size_alloc] at z6); replace k0 := k0.below hb6 (by omega); replace k1 := k1.below hb6 (by omega); replace k9 := k9.below hb6 (by omega); have hB6 := Below.trans hB5 (hb6.mono (by omega)); clear k0_0 k0_1 k0_2 k0_3 k1_0 k1_1 k9_0 k9_1 k9_2 k9_3; have k0_0 := k0.cell 0 rfl; have k0_1 := k0.cell 1 rfl; have k0_2 := k0.cell 2 rfl; have k0_3 := k0.cell 3 rfl; have k1_0 := k1.cell 0 rfl; have k1_1 := k1.cell 1 rfl; have k9_0 := k9.cell 0 rfl; have k9_1 := k9.cell 1 rfl; have k9_2 := k9.cell 2 rfl; have k9_3 := k9.cell 3 rfl)
    | (go_at_call 19; refine (empty_yes _).mono ?_; rintro e w7 ⟨rfl, hb7⟩; (try simp only [World.size_alloc] at hb7); have z7 := hb7.size; (try simp only [World.size_alloc] at z7); replace k0 := k0.below hb7 (by omega); replace k1 := k1.below hb7 (by omega); replace k9 := k9.below hb7 (by omega); have hB7 := Below.trans hB6 (hb7.mono (by omega)); clear k0_0 k0_1 k0_2 k0_3 k1_0 k1_1 k9_0 k9_1 k9_2 k9_3; have k0_0 := k0.cell 0 rfl; have k0_1 := k0.cell 1 rfl; have k0_2 := k0.cell 2 rfl; have k0_3 := k0.cell 3 rfl; have k1_0 := k1.cell 0 rfl; have k1_1 := k1.cell 1 rfl; have k9_0 := k9.cell 0 rfl; have k9_1 := k9.cell 1 rfl; have k9_2 := k9.cell 2 rfl; have k9_3 := k9.cell 3 rfl))
  go_ret
  exact ⟨rfl, hB7⟩

set_option maxRecDepth 100000 in
set_option maxHeartbeats 6400000 in
theorem pixels_val1 (W H M : Int) (A : Option Addr) (n c : Nat) (P : List Int) (x y v : Int) (w : World) (h : Sl w A n c P) (hm : n ≤ 600) (hr : Ras W H M P) (hi : ins W H x y = true) (hv : v < 0) :
    Calls Try.prog 4 #[.agg #[.int .i64 W, .int .i64 H, .int .i64 M, .slice A n c], .agg #[.int .i64 x, .int .i64 y], .int .i64 v] w fun e w' => e = .returned (.bool true) ∧ Below w.heap.size w w' := by
  have hcap := h.le_cap
  have hcl := h.cap_le
  obtain ⟨a, b, rfl, rfl, -, -, ⟨hM1, hM2⟩, hab, -, hl2⟩ := hr.nat
  obtain ⟨⟨hx0, hx1⟩, hy0, hy1⟩ := ins_iff.1 hi
  obtain ⟨i, rfl⟩ := Int.eq_ofNat_of_zero_le hx0
  obtain ⟨j, rfl⟩ := Int.eq_ofNat_of_zero_le hy0
  have hia : i < a := by omega
  have hjb : j < b := by omega
  obtain ⟨q, hq⟩ : ∃ q, q = j * a := ⟨_, rfl⟩
  obtain ⟨u, hu⟩ : ∃ u, nth P (q + i) = u := ⟨_, rfl⟩
  have huu : (u != u) = false := by simp
  have hle : q + i < n := by rw [h.len, hab, hq, Nat.mul_comm a b]; exact row_lt hjb hia
  have hwv : win v 0 M = false := win_no.2 (by omega)
  replace hwv := Lib.hid hwv
  have hB0 := ((Below.refl w.heap.size w).alloc (by first | exact Nat.le_refl _ | (simp <;> omega)) (.cells #[.int .i64 a, .int .i64 b, .int .i64 M, .slice A n c] 24)).alloc (by first | exact Nat.le_refl _ | (simp <;> omega)) (.cells #[.int .i64 i, .int .i64 j] 37)
  have k0 : KB _ _ _ _ := ((KB.new w #[.int .i64 a, .int .i64 b, .int .i64 M, .slice A n c] 24).alloc (.cells #[.int .i64 i, .int .i64 j] 37))
  have k1 : KB _ _ _ _ := (KB.new (w.alloc (.cells #[.int .i64 a, .int .i64 b, .int .i64 M, .slice A n c] 24)) #[.int .i64 i, .int .i64 j] 37)
  simp only [World.size_alloc] at k1
  have hs := Lib.hid (fun w' (hb : Below w.heap.size w w') => h.below hb (Nat.le_refl _))
  replace hr := Lib.hid hr
  replace hi := Lib.hid hi
  replace hq := Lib.hid hq
  replace hu := Lib.hid hu
  replace hl2 := Lib.hid hl2
  replace hab := Lib.hid hab
  clear hx0 hx1 hy0 hy1
  go_enter Try.func4, Try.ntmps4
  go_wp2_with (first
    | (go_at_call 11; refine (known_any _).mono ?_; rintro e w1 ⟨rfl, hb1⟩; (try simp only [World.size_alloc] at hb1); have z1 := hb1.size; (try simp only [World.size_alloc] at z1); replace k0 := k0.below hb1 (by omega); replace k1 := k1.below hb1 (by omega); have hB1 := Below.trans hB0 (hb1.mono (by omega)); have k0_0 := k0.cell 0 rfl; have k0_1 := k0.cell 1 rfl; have k0_2 := k0.cell 2 rfl; have k0_3 := k0.cell 3 rfl; have k1_0 := k1.cell 0 rfl; have k1_1 := k1.cell 1 rfl)
    | (go_at_call 12; refine (few_one_yes (KB.new w1 _ _) hm).mono ?_; rintro e w2 ⟨rfl, hb2⟩; (try simp only [World.size_alloc] at hb2); have z2 := hb2.size; (try simp only [World.size_alloc] at z2); replace k0 := (k0.alloc _).below hb2 (by omega); replace k1 := (k1.alloc _).below hb2 (by omega); have hB2 := Below.trans (hB1.alloc (by first | exact hB1.size | (have := hB1.size; simp; omega)) _) (hb2.mono (by omega)); clear k0_0 k0_1 k0_2 k0_3 k1_0 k1_1; have k0_0 := k0.cell 0 rfl; have k0_1 := k0.cell 1 rfl; have k0_2 := k0.cell 2 rfl; have k0_3 := k0.cell 3 rfl; have k1_0 := k1.cell 0 rfl; have k1_1 := k1.cell 1 rfl)
    | (go_at_call 21; refine (At_in a b M A n c P i j q _ (hs.out _ hB2) hr.out hia hjb hq.out hu.out rfl rfl).mono ?_; rintro e w3 ⟨rfl, hb3⟩; (try simp only [World.size_alloc] at hb3); have z3 := hb3.size; (try simp only [World.size_alloc] at z3); replace k0 := k0.below hb3 (by omega); replace k1 := k1.below hb3 (by omega); have hB3 := Below.trans hB2 (hb3.mono (by omega)); clear k0_0 k0_1 k0_2 k0_3 k1_0 k1_1; have k0_0 := k0.cell 0 rfl; have k0_1 := k0.cell 1 rfl; have k0_2 := k0.cell 2 rfl; have k0_3 := k0.cell 3 rfl; have k1_0 := k1.cell 0 rfl; have k1_1 := k1.cell 1 rfl)
    | (go_at_call 22; refine (Set_out a b M A n c P i j v _ (hs.out _ hB3) hr.out (.inr hwv.out)).mono ?_; rintro e w4 ⟨rfl, hb4⟩; (try simp only [World.size_alloc] at hb4); have z4 := hb4.size; (try simp only [World.size_alloc] at z4); replace k0 := k0.below hb4 (by omega); replace k1 := k1.below hb4 (by omega); have hB4 := Below.trans hB3 (hb4.mono (by omega)); replace k0 := k0.alloc (.cells #[.int .i64 0, .int .i64 0, .int .i64 0, .slice none 0 0] 24); replace k1 := k1.alloc (.cells #[.int .i64 0, .int .i64 0, .int .i64 0, .slice none 0 0] 24); have k9 : KB _ _ _ _ := KB.new w4 #[.int .i64 0, .int .i64 0, .int .i64 0, .slice none 0 0] 24; replace hB4 := hB4.alloc hB4.size (.cells #[.int .i64 0, .int .i64 0, .int .i64 0, .slice none 0 0] 24); clear k0_0 k0_1 k0_2 k0_3 k1_0 k1_1; have k0_0 := k0.cell 0 rfl; have k0_1 := k0.cell 1 rfl; have k0_2 := k0.cell 2 rfl; have k0_3 := k0.cell 3 rfl; have k1_0 := k1.cell 0 rfl; have k1_1 := k1.cell 1 rfl; have k9_0 := k9.cell 0 rfl; have k9_1 := k9.cell 1 rfl; have k9_2 := k9.cell 2 rfl; have k9_3 := k9.cell 3 rfl)
    | (go_at_call 14; refine (rCheck_ok (hs.out _ hB4) hr.out).mono ?_; rintro e w5 ⟨rfl, hb5⟩; (try simp only [World.size_alloc] at hb5); have z5 := hb5.size; (try simp only [World.size_alloc] at z5); replace k0 := k0.below hb5 (by omega); replace k1 := k1.below hb5 (by omega); replace k9 := k9.below hb5 (by omega); have hB5 := Below.trans hB4 (hb5.mono (by omega)); clear k0_0 k0_1 k0_2 k0_3 k1_0 k1_1 k9_0 k9_1 k9_2 k9_3; have k0_0 := k0.cell 0 rfl; have k0_1 := k0.cell 1 rfl; have k0_2 := k0.cell 2 rfl; have k0_3 := k0.cell 3 rfl; have k1_0 := k1.cell 0 rfl; have k1_1 := k1.cell 1 rfl; have k9_0 := k9.cell 0 rfl; have k9_1 := k9.cell 1 rfl; have k9_2 := k9.cell 2 rfl; have k9_3 := k9.cell 3 rfl)
    | (go_at_call 23; refine (rInside_at hi.out).mono ?_; rintro e w6 ⟨rfl, hb6⟩; (try simp only [World.size_alloc] at hb6); have z6 := hb6.size; (try simp only [World.size_alloc] at z6); replace k0 := k0.below hb6 (by omega); replace k1 := k1.below hb6 (by omega); replace k9 := k9.below hb6 (by omega); have hB6 := Below.trans hB5 (hb6.mono (by omega)); clear k0_0 k0_1 k0_2 k0_3 k1_0 k1_1 k9_0 k9_1 k9_2 k9_3; have k0_0 := k0.cell 0 rfl; have k0_1 := k0.cell 1 rfl; have k0_2 := k0.cell 2 rfl; have k0_3 := k0.cell 3 rfl; have k1_0 := k1.cell 0 rfl; have k1_1 := k1.cell 1 rfl; have k9_0 := k9.cell 0 rfl; have k9_1 := k9.cell 1 rfl; have k9_2 := k9.cell 2 rfl; have k9_3 := k9.cell 3 rfl)
    | (go_at_call 24; refine (rAt_at i j q (hs.out _ hB6) rfl rfl hq.out hle (by omega) hu.out).mono ?_; rintro e w7 ⟨rfl, hb7⟩; (try simp only [World.size_alloc] at hb7); have z7 := hb7.size; (try simp only [World.size_alloc] at z7); replace k0 := k0.below hb7 (by omega); replace k1 := k1.below hb7 (by omega); replace k9 := k9.below hb7 (by omega); have hB7 := Below.trans hB6 (hb7.mono (by omega)); clear k0_0 k0_1 k0_2 k0_3 k1_0 k1_1 k9_0 k9_1 k9_2 k9_3; have k0_0 := k0.cell 0 rfl; have k0_1 := k0.cell 1 rfl; have k0_2 := k0.cell 2 rfl; have k0_3 := k0.cell 3 rfl; have k1_0 := k1.cell 0 rfl; have k1_1 := k1.cell 1 rfl; have k9_0 := k9.cell 0 rfl; have k9_1 := k9.cell 1 rfl; have k9_2 := k9.cell 2 rfl; have k9_3 := k9.cell 3 rfl)
    | (go_at_call 19; refine (empty_yes _).mono ?_; rintro e w8 ⟨rfl, hb8⟩; (try simp only [World.size_alloc] at hb8); have z8 := hb8.size; (try simp only [World.size_alloc] at z8); replace k0 := k0.below hb8 (by omega); replace k1 := k1.below hb8 (by omega); replace k9 := k9.below hb8 (by omega); have hB8 := Below.trans hB7 (hb8.mono (by omega)); clear k0_0 k0_1 k0_2 k0_3 k1_0 k1_1 k9_0 k9_1 k9_2 k9_3; have k0_0 := k0.cell 0 rfl; have k0_1 := k0.cell 1 rfl; have k0_2 := k0.cell 2 rfl; have k0_3 := k0.cell 3 rfl; have k1_0 := k1.cell 0 rfl; have k1_1 := k1.cell 1 rfl; have k9_0 := k9.cell 0 rfl; have k9_1 := k9.cell 1 rfl; have k9_2 := k9.cell 2 rfl; have k9_3 := k9.cell 3 rfl))
  go_ret
  exact ⟨rfl, hB8⟩

set_option maxRecDepth 100000 in
set_option maxHeartbeats 6400000 in
theorem pixels_val2 (W H M : Int) (A : Option Addr) (n c : Nat) (P : List Int) (x y v : Int) (w : World) (h : Sl w A n c P) (hm : n ≤ 600) (hr : Ras W H M P) (hi : ins W H x y = true) (hv0 : 0 ≤ v) (hv : M < v) :
    Calls Try.prog 4 #[.agg #[.int .i64 W, .int .i64 H, .int .i64 M, .slice A n c], .agg #[.int .i64 x, .int .i64 y], .int .i64 v] w fun e w' => e = .returned (.bool true) ∧ Below w.heap.size w w' := by
  have hcap := h.le_cap
  have hcl := h.cap_le
  obtain ⟨a, b, rfl, rfl, -, -, ⟨hM1, hM2⟩, hab, -, hl2⟩ := hr.nat
  obtain ⟨⟨hx0, hx1⟩, hy0, hy1⟩ := ins_iff.1 hi
  obtain ⟨i, rfl⟩ := Int.eq_ofNat_of_zero_le hx0
  obtain ⟨j, rfl⟩ := Int.eq_ofNat_of_zero_le hy0
  have hia : i < a := by omega
  have hjb : j < b := by omega
  obtain ⟨q, hq⟩ : ∃ q, q = j * a := ⟨_, rfl⟩
  obtain ⟨u, hu⟩ : ∃ u, nth P (q + i) = u := ⟨_, rfl⟩
  have huu : (u != u) = false := by simp
  have hle : q + i < n := by rw [h.len, hab, hq, Nat.mul_comm a b]; exact row_lt hjb hia
  have hwv : win v 0 M = false := win_no.2 (by omega)
  replace hwv := Lib.hid hwv
  have hB0 := ((Below.refl w.heap.size w).alloc (by first | exact Nat.le_refl _ | (simp <;> omega)) (.cells #[.int .i64 a, .int .i64 b, .int .i64 M, .slice A n c] 24)).alloc (by first | exact Nat.le_refl _ | (simp <;> omega)) (.cells #[.int .i64 i, .int .i64 j] 37)
  have k0 : KB _ _ _ _ := ((KB.new w #[.int .i64 a, .int .i64 b, .int .i64 M, .slice A n c] 24).alloc (.cells #[.int .i64 i, .int .i64 j] 37))
  have k1 : KB _ _ _ _ := (KB.new (w.alloc (.cells #[.int .i64 a, .int .i64 b, .int .i64 M, .slice A n c] 24)) #[.int .i64 i, .int .i64 j] 37)
  simp only [World.size_alloc] at k1
  have hs := Lib.hid (fun w' (hb : Below w.heap.size w w') => h.below hb (Nat.le_refl _))
  replace hr := Lib.hid hr
  replace hi := Lib.hid hi
  replace hq := Lib.hid hq
  replace hu := Lib.hid hu
  replace hl2 := Lib.hid hl2
  replace hab := Lib.hid hab
  clear hx0 hx1 hy0 hy1
  go_enter Try.func4, Try.ntmps4
  go_wp2_with (first
    | (go_at_call 11; refine (known_any _).mono ?_; rintro e w1 ⟨rfl, hb1⟩; (try simp only [World.size_alloc] at hb1); have z1 := hb1.size; (try simp only [World.size_alloc] at z1); replace k0 := k0.below hb1 (by omega); replace k1 := k1.below hb1 (by omega); have hB1 := Below.trans hB0 (hb1.mono (by omega)); have k0_0 := k0.cell 0 rfl; have k0_1 := k0.cell 1 rfl; have k0_2 := k0.cell 2 rfl; have k0_3 := k0.cell 3 rfl; have k1_0 := k1.cell 0 rfl; have k1_1 := k1.cell 1 rfl)
    | (go_at_call 12; refine (few_one_yes (KB.new w1 _ _) hm).mono ?_; rintro e w2 ⟨rfl, hb2⟩; (try simp only [World.size_alloc] at hb2); have z2 := hb2.size; (try simp only [World.size_alloc] at z2); replace k0 := (k0.alloc _).below hb2 (by omega); replace k1 := (k1.alloc _).below hb2 (by omega); have hB2 := Below.trans (hB1.alloc (by first | exact hB1.size | (have := hB1.size; simp; omega)) _) (hb2.mono (by omega)); clear k0_0 k0_1 k0_2 k0_3 k1_0 k1_1; have k0_0 := k0.cell 0 rfl; have k0_1 := k0.cell 1 rfl; have k0_2 := k0.cell 2 rfl; have k0_3 := k0.cell 3 rfl; have k1_0 := k1.cell 0 rfl; have k1_1 := k1.cell 1 rfl)
    | (go_at_call 21; refine (At_in a b M A n c P i j q _ (hs.out _ hB2) hr.out hia hjb hq.out hu.out rfl rfl).mono ?_; rintro e w3 ⟨rfl, hb3⟩; (try simp only [World.size_alloc] at hb3); have z3 := hb3.size; (try simp only [World.size_alloc] at z3); replace k0 := k0.below hb3 (by omega); replace k1 := k1.below hb3 (by omega); have hB3 := Below.trans hB2 (hb3.mono (by omega)); clear k0_0 k0_1 k0_2 k0_3 k1_0 k1_1; have k0_0 := k0.cell 0 rfl; have k0_1 := k0.cell 1 rfl; have k0_2 := k0.cell 2 rfl; have k0_3 := k0.cell 3 rfl; have k1_0 := k1.cell 0 rfl; have k1_1 := k1.cell 1 rfl)
    | (go_at_call 22; refine (Set_out a b M A n c P i j v _ (hs.out _ hB3) hr.out (.inr hwv.out)).mono ?_; rintro e w4 ⟨rfl, hb4⟩; (try simp only [World.size_alloc] at hb4); have z4 := hb4.size; (try simp only [World.size_alloc] at z4); replace k0 := k0.below hb4 (by omega); replace k1 := k1.below hb4 (by omega); have hB4 := Below.trans hB3 (hb4.mono (by omega)); replace k0 := k0.alloc (.cells #[.int .i64 0, .int .i64 0, .int .i64 0, .slice none 0 0] 24); replace k1 := k1.alloc (.cells #[.int .i64 0, .int .i64 0, .int .i64 0, .slice none 0 0] 24); have k9 : KB _ _ _ _ := KB.new w4 #[.int .i64 0, .int .i64 0, .int .i64 0, .slice none 0 0] 24; replace hB4 := hB4.alloc hB4.size (.cells #[.int .i64 0, .int .i64 0, .int .i64 0, .slice none 0 0] 24); clear k0_0 k0_1 k0_2 k0_3 k1_0 k1_1; have k0_0 := k0.cell 0 rfl; have k0_1 := k0.cell 1 rfl; have k0_2 := k0.cell 2 rfl; have k0_3 := k0.cell 3 rfl; have k1_0 := k1.cell 0 rfl; have k1_1 := k1.cell 1 rfl; have k9_0 := k9.cell 0 rfl; have k9_1 := k9.cell 1 rfl; have k9_2 := k9.cell 2 rfl; have k9_3 := k9.cell 3 rfl)
    | (go_at_call 14; refine (rCheck_ok (hs.out _ hB4) hr.out).mono ?_; rintro e w5 ⟨rfl, hb5⟩; (try simp only [World.size_alloc] at hb5); have z5 := hb5.size; (try simp only [World.size_alloc] at z5); replace k0 := k0.below hb5 (by omega); replace k1 := k1.below hb5 (by omega); replace k9 := k9.below hb5 (by omega); have hB5 := Below.trans hB4 (hb5.mono (by omega)); clear k0_0 k0_1 k0_2 k0_3 k1_0 k1_1 k9_0 k9_1 k9_2 k9_3; have k0_0 := k0.cell 0 rfl; have k0_1 := k0.cell 1 rfl; have k0_2 := k0.cell 2 rfl; have k0_3 := k0.cell 3 rfl; have k1_0 := k1.cell 0 rfl; have k1_1 := k1.cell 1 rfl; have k9_0 := k9.cell 0 rfl; have k9_1 := k9.cell 1 rfl; have k9_2 := k9.cell 2 rfl; have k9_3 := k9.cell 3 rfl)
    | (go_at_call 23; refine (rInside_at hi.out).mono ?_; rintro e w6 ⟨rfl, hb6⟩; (try simp only [World.size_alloc] at hb6); have z6 := hb6.size; (try simp only [World.size_alloc] at z6); replace k0 := k0.below hb6 (by omega); replace k1 := k1.below hb6 (by omega); replace k9 := k9.below hb6 (by omega); have hB6 := Below.trans hB5 (hb6.mono (by omega)); clear k0_0 k0_1 k0_2 k0_3 k1_0 k1_1 k9_0 k9_1 k9_2 k9_3; have k0_0 := k0.cell 0 rfl; have k0_1 := k0.cell 1 rfl; have k0_2 := k0.cell 2 rfl; have k0_3 := k0.cell 3 rfl; have k1_0 := k1.cell 0 rfl; have k1_1 := k1.cell 1 rfl; have k9_0 := k9.cell 0 rfl; have k9_1 := k9.cell 1 rfl; have k9_2 := k9.cell 2 rfl; have k9_3 := k9.cell 3 rfl)
    | (go_at_call 24; refine (rAt_at i j q (hs.out _ hB6) rfl rfl hq.out hle (by omega) hu.out).mono ?_; rintro e w7 ⟨rfl, hb7⟩; (try simp only [World.size_alloc] at hb7); have z7 := hb7.size; (try simp only [World.size_alloc] at z7); replace k0 := k0.below hb7 (by omega); replace k1 := k1.below hb7 (by omega); replace k9 := k9.below hb7 (by omega); have hB7 := Below.trans hB6 (hb7.mono (by omega)); clear k0_0 k0_1 k0_2 k0_3 k1_0 k1_1 k9_0 k9_1 k9_2 k9_3; have k0_0 := k0.cell 0 rfl; have k0_1 := k0.cell 1 rfl; have k0_2 := k0.cell 2 rfl; have k0_3 := k0.cell 3 rfl; have k1_0 := k1.cell 0 rfl; have k1_1 := k1.cell 1 rfl; have k9_0 := k9.cell 0 rfl; have k9_1 := k9.cell 1 rfl; have k9_2 := k9.cell 2 rfl; have k9_3 := k9.cell 3 rfl)
    | (go_at_call 19; refine (empty_yes _).mono ?_; rintro e w8 ⟨rfl, hb8⟩; (try simp only [World.size_alloc] at hb8); have z8 := hb8.size; (try simp only [World.size_alloc] at z8); replace k0 := k0.below hb8 (by omega); replace k1 := k1.below hb8 (by omega); replace k9 := k9.below hb8 (by omega); have hB8 := Below.trans hB7 (hb8.mono (by omega)); clear k0_0 k0_1 k0_2 k0_3 k1_0 k1_1 k9_0 k9_1 k9_2 k9_3; have k0_0 := k0.cell 0 rfl; have k0_1 := k0.cell 1 rfl; have k0_2 := k0.cell 2 rfl; have k0_3 := k0.cell 3 rfl; have k1_0 := k1.cell 0 rfl; have k1_1 := k1.cell 1 rfl; have k9_0 := k9.cell 0 rfl; have k9_1 := k9.cell 1 rfl; have k9_2 := k9.cell 2 rfl; have k9_3 := k9.cell 3 rfl))
  go_ret
  exact ⟨rfl, hB8⟩

set_option maxRecDepth 100000 in
set_option maxHeartbeats 6400000 in
theorem pixels_ok (W H M : Int) (A : Option Addr) (n c : Nat) (P : List Int) (x y v : Int) (w : World) (h : Sl w A n c P) (hA : A = none → c = 0) (hm : n ≤ 600) (hr : Ras W H M P) (hi : ins W H x y = true) (hv0 : 0 ≤ v) (hv : v ≤ M) :
    Calls Try.prog 4 #[.agg #[.int .i64 W, .int .i64 H, .int .i64 M, .slice A n c], .agg #[.int .i64 x, .int .i64 y], .int .i64 v] w fun e w' => e = .returned (.bool true) ∧ Below w.heap.size w w' := by
  have hcap := h.le_cap
  have hcl := h.cap_le
  obtain ⟨a, b, rfl, rfl, -, -, ⟨hM1, hM2⟩, hab, -, hl2⟩ := hr.nat
  obtain ⟨⟨hx0, hx1⟩, hy0, hy1⟩ := ins_iff.1 hi
  obtain ⟨i, rfl⟩ := Int.eq_ofNat_of_zero_le hx0
  obtain ⟨j, rfl⟩ := Int.eq_ofNat_of_zero_le hy0
  have hia : i < a := by omega
  have hjb : j < b := by omega
  obtain ⟨q, hq⟩ : ∃ q, q = j * a := ⟨_, rfl⟩
  obtain ⟨u, hu⟩ : ∃ u, nth P (q + i) = u := ⟨_, rfl⟩
  have huu : (u != u) = false := by simp
  have hle : q + i < n := by rw [h.len, hab, hq, Nat.mul_comm a b]; exact row_lt hjb hia
  have hwv : win v 0 M = true := win_iff.2 ⟨hv0, hv⟩
  replace hwv := Lib.hid hwv
  have hB0 := ((Below.refl w.heap.size w).alloc (by first | exact Nat.le_refl _ | (simp <;> omega)) (.cells #[.int .i64 a, .int .i64 b, .int .i64 M, .slice A n c] 24)).alloc (by first | exact Nat.le_refl _ | (simp <;> omega)) (.cells #[.int .i64 i, .int .i64 j] 37)
  have k0 : KB _ _ _ _ := ((KB.new w #[.int .i64 a, .int .i64 b, .int .i64 M, .slice A n c] 24).alloc (.cells #[.int .i64 i, .int .i64 j] 37))
  have k1 : KB _ _ _ _ := (KB.new (w.alloc (.cells #[.int .i64 a, .int .i64 b, .int .i64 M, .slice A n c] 24)) #[.int .i64 i, .int .i64 j] 37)
  simp only [World.size_alloc] at k1
  have hs := Lib.hid (fun w' (hb : Below w.heap.size w w') => h.below hb (Nat.le_refl _))
  replace hr := Lib.hid hr
  replace hi := Lib.hid hi
  replace hq := Lib.hid hq
  replace hu := Lib.hid hu
  replace hl2 := Lib.hid hl2
  replace hab := Lib.hid hab
  clear hx0 hx1 hy0 hy1
  go_enter Try.func4, Try.ntmps4
  go_upto_region 16 with (first
    | (go_at_call 11; refine (known_any _).mono ?_; rintro e w1 ⟨rfl, hb1⟩; (try simp only [World.size_alloc] at hb1); have z1 := hb1.size; (try simp only [World.size_alloc] at z1); replace k0 := k0.below hb1 (by omega); replace k1 := k1.below hb1 (by omega); have hB1 := Below.trans hB0 (hb1.mono (by omega)); have k0_0 := k0.cell 0 rfl; have k0_1 := k0.cell 1 rfl; have k0_2 := k0.cell 2 rfl; have k0_3 := k0.cell 3 rfl; have k1_0 := k1.cell 0 rfl; have k1_1 := k1.cell 1 rfl)
    | (go_at_call 12; refine (few_one_yes (KB.new w1 _ _) hm).mono ?_; rintro e w2 ⟨rfl, hb2⟩; (try simp only [World.size_alloc] at hb2); have z2 := hb2.size; (try simp only [World.size_alloc] at z2); replace k0 := (k0.alloc _).below hb2 (by omega); replace k1 := (k1.alloc _).below hb2 (by omega); have hB2 := Below.trans (hB1.alloc (by first | exact hB1.size | (have := hB1.size; simp; omega)) _) (hb2.mono (by omega)); clear k0_0 k0_1 k0_2 k0_3 k1_0 k1_1; have k0_0 := k0.cell 0 rfl; have k0_1 := k0.cell 1 rfl; have k0_2 := k0.cell 2 rfl; have k0_3 := k0.cell 3 rfl; have k1_0 := k1.cell 0 rfl; have k1_1 := k1.cell 1 rfl)
    | (go_at_call 21; refine (At_in a b M A n c P i j q _ (hs.out _ hB2) hr.out hia hjb hq.out hu.out rfl rfl).mono ?_; rintro e w3 ⟨rfl, hb3⟩; (try simp only [World.size_alloc] at hb3); have z3 := hb3.size; (try simp only [World.size_alloc] at z3); replace k0 := k0.below hb3 (by omega); replace k1 := k1.below hb3 (by omega); have hB3 := Below.trans hB2 (hb3.mono (by omega)); clear k0_0 k0_1 k0_2 k0_3 k1_0 k1_1; have k0_0 := k0.cell 0 rfl; have k0_1 := k0.cell 1 rfl; have k0_2 := k0.cell 2 rfl; have k0_3 := k0.cell 3 rfl; have k1_0 := k1.cell 0 rfl; have k1_1 := k1.cell 1 rfl)
    | (go_at_call 22; refine (Set_in a b M A n c P i j q v _ (hs.out _ hB3) hr.out hia hjb hq.out hwv.out rfl rfl).mono ?_; rintro e w4 ⟨A5, n5, c5, rfl, hs5, hb4⟩; (try simp only [World.size_alloc] at hb4); have z4 := hb4.size; (try simp only [World.size_alloc] at z4); replace k0 := k0.below hb4 (by omega); replace k1 := k1.below hb4 (by omega); have hB4 := Below.trans hB3 (hb4.mono (by omega)); replace k0 := k0.alloc (.cells #[.int .i64 a, .int .i64 b, .int .i64 M, .slice A5 n5 c5] 24); replace k1 := k1.alloc (.cells #[.int .i64 a, .int .i64 b, .int .i64 M, .slice A5 n5 c5] 24); have k9 : KB _ _ _ _ := KB.new w4 #[.int .i64 a, .int .i64 b, .int .i64 M, .slice A5 n5 c5] 24; replace hB4 := hB4.alloc hB4.size (.cells #[.int .i64 a, .int .i64 b, .int .i64 M, .slice A5 n5 c5] 24); clear k0_0 k0_1 k0_2 k0_3 k1_0 k1_1; have k0_0 := k0.cell 0 rfl; have k0_1 := k0.cell 1 rfl; have k0_2 := k0.cell 2 rfl; have k0_3 := k0.cell 3 rfl; have k1_0 := k1.cell 0 rfl; have k1_1 := k1.cell 1 rfl; have k9_0 := k9.cell 0 rfl; have k9_1 := k9.cell 1 rfl; have k9_2 := k9.cell 2 rfl; have k9_3 := k9.cell 3 rfl)
    | (go_at_call 14; refine (rCheck_ok (hs.out _ hB4) hr.out).mono ?_; rintro e w5 ⟨rfl, hb5⟩; (try simp only [World.size_alloc] at hb5); have z5 := hb5.size; (try simp only [World.size_alloc] at z5); replace k0 := k0.below hb5 (by omega); replace k1 := k1.below hb5 (by omega); replace k9 := k9.below hb5 (by omega); have hB5 := Below.trans hB4 (hb5.mono (by omega)); clear k0_0 k0_1 k0_2 k0_3 k1_0 k1_1 k9_0 k9_1 k9_2 k9_3; have k0_0 := k0.cell 0 rfl; have k0_1 := k0.cell 1 rfl; have k0_2 := k0.cell 2 rfl; have k0_3 := k0.cell 3 rfl; have k1_0 := k1.cell 0 rfl; have k1_1 := k1.cell 1 rfl; have k9_0 := k9.cell 0 rfl; have k9_1 := k9.cell 1 rfl; have k9_2 := k9.cell 2 rfl; have k9_3 := k9.cell 3 rfl)
    | (go_at_call 23; refine (rInside_at hi.out).mono ?_; rintro e w6 ⟨rfl, hb6⟩; (try simp only [World.size_alloc] at hb6); have z6 := hb6.size; (try simp only [World.size_alloc] at z6); replace k0 := k0.below hb6 (by omega); replace k1 := k1.below hb6 (by omega); replace k9 := k9.below hb6 (by omega); have hB6 := Below.trans hB5 (hb6.mono (by omega)); clear k0_0 k0_1 k0_2 k0_3 k1_0 k1_1 k9_0 k9_1 k9_2 k9_3; have k0_0 := k0.cell 0 rfl; have k0_1 := k0.cell 1 rfl; have k0_2 := k0.cell 2 rfl; have k0_3 := k0.cell 3 rfl; have k1_0 := k1.cell 0 rfl; have k1_1 := k1.cell 1 rfl; have k9_0 := k9.cell 0 rfl; have k9_1 := k9.cell 1 rfl; have k9_2 := k9.cell 2 rfl; have k9_3 := k9.cell 3 rfl)
    | (go_at_call 24; refine (rAt_at i j q (hs.out _ hB6) rfl rfl hq.out hle (by omega) hu.out).mono ?_; rintro e w7 ⟨rfl, hb7⟩; (try simp only [World.size_alloc] at hb7); have z7 := hb7.size; (try simp only [World.size_alloc] at z7); replace k0 := k0.below hb7 (by omega); replace k1 := k1.below hb7 (by omega); replace k9 := k9.below hb7 (by omega); have hB7 := Below.trans hB6 (hb7.mono (by omega)); clear k0_0 k0_1 k0_2 k0_3 k1_0 k1_1 k9_0 k9_1 k9_2 k9_3; have k0_0 := k0.cell 0 rfl; have k0_1 := k0.cell 1 rfl; have k0_2 := k0.cell 2 rfl; have k0_3 := k0.cell 3 rfl; have k1_0 := k1.cell 0 rfl; have k1_1 := k1.cell 1 rfl; have k9_0 := k9.cell 0 rfl; have k9_1 := k9.cell 1 rfl; have k9_2 := k9.cell 2 rfl; have k9_3 := k9.cell 3 rfl))
  have hs6 := Lib.hid (fun w' (hb : Below w7.heap.size w7 w') => (((((hs5.alloc (.cells #[.int .i64 a, .int .i64 b, .int .i64 M, .slice A5 n5 c5] 24)).below hb5 (by simp)).below hb6 (Nat.le_refl _)).below hb7 (Nat.le_refl _)).below hb (Nat.le_refl _)))
  have hsr := Lib.hid (fun w' (hb : Below w7.heap.size w7 w') => hs.out w' (hB7.trans (hb.mono hB7.size)))
  have keepS : ∀ w', Below w7.heap.size w7 w' → w'.cell? ⟨w.heap.size, 0, none⟩ = some (.int .i64 a) ∧ w'.cell? ⟨w.heap.size, 1, none⟩ = some (.int .i64 b) ∧ w'.cell? ⟨w.heap.size, 2, none⟩ = some (.int .i64 M) ∧ w'.cell? ⟨w.heap.size, 3, none⟩ = some (.slice A n c) ∧ w'.cell? ⟨w.heap.size + 1, 0, none⟩ = some (.int .i64 i) ∧ w'.cell? ⟨w.heap.size + 1, 1, none⟩ = some (.int .i64 j) ∧ w'.cell? ⟨w4.heap.size, 0, none⟩ = some (.int .i64 a) ∧ w'.cell? ⟨w4.heap.size, 1, none⟩ = some (.int .i64 b) ∧ w'.cell? ⟨w4.heap.size, 2, none⟩ = some (.int .i64 M) ∧ w'.cell? ⟨w4.heap.size, 3, none⟩ = some (.slice A5 n5 c5) := by
    intro w' hb
    have kk : ∀ b o, b < w7.heap.size → w'.cell? ⟨b, o, none⟩ = w7.cell? ⟨b, o, none⟩ := fun b o hlt => hb.cell (p := ⟨b, o, none⟩) hlt
    exact ⟨(kk _ _ k0.lt).trans k0_0, (kk _ _ k0.lt).trans k0_1, (kk _ _ k0.lt).trans k0_2, (kk _ _ k0.lt).trans k0_3, (kk _ _ k1.lt).trans k1_0, (kk _ _ k1.lt).trans k1_1, (kk _ _ k9.lt).trans k9_0, (kk _ _ k9.lt).trans k9_1, (kk _ _ k9.lt).trans k9_2, (kk _ _ k9.lt).trans k9_3⟩
  replace keepS := Lib.hid keepS
  have qtok1 : True := trivial
  have qtok2 : True := trivial
  go_region_held3 (fun w' => w'.cell? ⟨w.heap.size, 0, none⟩ = some (.int .i64 a) ∧ w'.cell? ⟨w.heap.size, 1, none⟩ = some (.int .i64 b) ∧ w'.cell? ⟨w.heap.size, 2, none⟩ = some (.int .i64 M) ∧ w'.cell? ⟨w.heap.size, 3, none⟩ = some (.slice A n c) ∧ w'.cell? ⟨w.heap.size + 1, 0, none⟩ = some (.int .i64 i) ∧ w'.cell? ⟨w.heap.size + 1, 1, none⟩ = some (.int .i64 j) ∧ w'.cell? ⟨w4.heap.size, 0, none⟩ = some (.int .i64 a) ∧ w'.cell? ⟨w4.heap.size, 1, none⟩ = some (.int .i64 b) ∧ w'.cell? ⟨w4.heap.size, 2, none⟩ = some (.int .i64 M) ∧ w'.cell? ⟨w4.heap.size, 3, none⟩ = some (.slice A5 n5 c5))
    (exact keepS.out _ (by repeat (first | exact qB2 | exact qB1 | exact (Below.refl w7.heap.size w7) | refine Below.drew ?_ | refine Below.drewN ?_ _ | refine Below.alloc ?_ (by first | omega | (simp <;> omega)) _)))
    (first | (go_at_call 25; clear qtok1; refine (rSet_in a b M A n c P i j q v _ (hsr.out _ (by repeat (first | exact (Below.refl w7.heap.size w7) | refine Below.drew ?_ | refine Below.drewN ?_ _ | refine Below.alloc ?_ (by first | omega | (simp <;> omega)) _))) hr.out hA hia hjb hq.out rfl rfl).mono ?_; rintro e qw1 ⟨g8, n8, c8, rfl, hg8, hl8, hn8, hc8, hm8, qh1⟩; have qB1 : Below w7.heap.size w7 qw1 := Below.trans (by repeat (first | exact (Below.refl w7.heap.size w7) | refine Below.drew ?_ | refine Below.drewN ?_ _ | refine Below.alloc ?_ (by first | omega | (simp <;> omega)) _)) (qh1.mono (by first | omega | (simp <;> omega))); have qs1 := qB1.size; replace hn8 := Lib.hid hn8) | (go_at_call 16; clear qtok2; refine (rEqual_at (eqr_self _ _ _ _) (hs6.out _ (by repeat (first | exact qB1 | refine Below.drew ?_ | refine Below.drewN ?_ _ | refine Below.alloc ?_ (by first | omega | (simp <;> omega)) _))) ((hl8.sl0 hn8.out hc8 hm8).below (w' := _) (B := _) (by repeat (first | exact Below.refl _ _ | refine Below.drew ?_ | refine Below.drewN ?_ _ | refine Below.alloc ?_ (by first | omega | (simp <;> omega)) _)) (Nat.le_refl _))).mono ?_; rintro e qw2 ⟨rfl, qh2⟩; have qB2 : Below w7.heap.size w7 qw2 := Below.trans (by repeat (first | exact qB1 | refine Below.drew ?_ | refine Below.drewN ?_ _ | refine Below.alloc ?_ (by first | omega | (simp <;> omega)) _)) (qh2.mono (by first | omega | (simp <;> omega))); have qs2 := qB2.size))
  go_wp2
  go_ret
  exact ⟨rfl, hB7.trans (qB2.mono hB7.size)⟩

/-- The law of the pixels. -/
theorem pixels_any (W H M : Int) (A : Option Addr) (n c : Nat) (P : List Int) (x y v : Int) (w : World) (h : Sl w A n c P) (hA : A = none → c = 0) :
    Calls Try.prog 4 #[.agg #[.int .i64 W, .int .i64 H, .int .i64 M, .slice A n c], .agg #[.int .i64 x, .int .i64 y], .int .i64 v] w fun e w' => e = .returned (.bool true) ∧ Below w.heap.size w w' := by
  by_cases hm : n ≤ 600
  · by_cases hr : Ras W H M P
    · by_cases hi : ins W H x y = true
      · by_cases hv0 : v < 0
        · exact pixels_val1 W H M A n c P x y v w h hm hr hi hv0
        · by_cases hv : M < v
          · exact pixels_val2 W H M A n c P x y v w h hm hr hi (by omega) hv
          · exact pixels_ok W H M A n c P x y v w h hA hm hr hi (by omega) (by omega)
      · exact pixels_out W H M A n c P x y v w h hm hr (by simpa using hi)
    · exact pixels_bad W H M A n c P x y v w h hm hr
  · exact pixels_many W H M A n c P x y v w h (by omega)

end Go.Proofs.Ytehnemdifkjhcaa
