/-
  Walk: the law of the brightest sides.
-/
import Derived.Test.YtonpnjjfidpoiaaDsQd
import Derived.Test.YtonpnjjfidpoiaaDsLt
set_option linter.unusedSimpArgs false
set_option linter.unusedVariables false
namespace Go.Proofs.Ytonpnjjfidpoiaa
open Go.RowKit

set_option maxRecDepth 100000 in
set_option maxHeartbeats 6400000 in
theorem quarters_many (W H : Int) (M : Int) (A : Option Addr) (n c : Nat) (P : List Int) (x y s : Int) (w : World) (h : Sl w A n c P) (hm : false = decide (n ≤ 600 ∧ 0 ≤ 70)) :
    Calls Try.prog 8 #[.agg #[.int .i64 W, .int .i64 H, .int .i64 M, .slice A n c], .agg #[.int .i64 x, .int .i64 y], .int .i64 s] w fun e w' => e = .returned (.bool true) ∧ Below w.heap.size w w' := by
  have hcap := h.le_cap
  have hcl := h.cap_le
  have hs := Lib.hid (fun w' (hb : Below w.heap.size w w') => h.below hb (Nat.le_refl _))
  have hB0 := ((Below.refl w.heap.size w).alloc (by first | exact Nat.le_refl _ | (simp <;> omega)) (.cells #[.int .i64 W, .int .i64 H, .int .i64 M, .slice A n c] 37)).alloc (by first | exact Nat.le_refl _ | (simp <;> omega)) (.cells #[.int .i64 x, .int .i64 y] 38)
  have k0 : KB _ _ _ _ := ((KB.new w #[.int .i64 W, .int .i64 H, .int .i64 M, .slice A n c] 37).alloc (.cells #[.int .i64 x, .int .i64 y] 38))
  have k1 : KB _ _ _ _ := (KB.new (w.alloc (.cells #[.int .i64 W, .int .i64 H, .int .i64 M, .slice A n c] 37)) #[.int .i64 x, .int .i64 y] 38)
  simp only [World.size_alloc] at k1
  clear h
  replace hm := Lib.hid hm
  go_enter Try.func8, Try.ntmps8
  go_wp2_with (first
    | (go_at_call 11; refine (known_any _).mono ?_; rintro e w1 ⟨rfl, hb1⟩; (try simp only [World.size_alloc] at hb1); have z1 := hb1.size; (try simp only [World.size_alloc] at z1); replace k0 := k0.below hb1 (by omega); replace k1 := k1.below hb1 (by omega); have hB1 := Below.trans hB0 (hb1.mono (by omega)); have k0_0 := k0.cell 0 rfl; have k0_1 := k0.cell 1 rfl; have k0_2 := k0.cell 2 rfl; have k0_3 := k0.cell 3 rfl; have k1_0 := k1.cell 0 rfl; have k1_1 := k1.cell 1 rfl)
    | (go_at_call 17; refine (few_any W H M A n c none 0 0 _ (by omega) (by omega) hm.out).mono ?_; rintro e w2 ⟨rfl, hb2⟩; (try simp only [World.size_alloc] at hb2); have z2 := hb2.size; (try simp only [World.size_alloc] at z2); replace k0 := k0.below hb2 (by omega); replace k1 := k1.below hb2 (by omega); have hB2 := Below.trans hB1 (hb2.mono (by omega)); clear k0_0 k0_1 k0_2 k0_3 k1_0 k1_1; have k0_0 := k0.cell 0 rfl; have k0_1 := k0.cell 1 rfl; have k0_2 := k0.cell 2 rfl; have k0_3 := k0.cell 3 rfl; have k1_0 := k1.cell 0 rfl; have k1_1 := k1.cell 1 rfl))
  go_ret
  exact ⟨rfl, hB2⟩

set_option maxRecDepth 100000 in
set_option maxHeartbeats 6400000 in
theorem quarters_bad (W H : Int) (M : Int) (A : Option Addr) (n c : Nat) (P : List Int) (x y s : Int) (w : World) (h : Sl w A n c P) (hm : true = decide (n ≤ 600 ∧ 0 ≤ 70)) (hr : ¬ Ras W H M P) :
    Calls Try.prog 8 #[.agg #[.int .i64 W, .int .i64 H, .int .i64 M, .slice A n c], .agg #[.int .i64 x, .int .i64 y], .int .i64 s] w fun e w' => e = .returned (.bool true) ∧ Below w.heap.size w w' := by
  have hcap := h.le_cap
  have hcl := h.cap_le
  have hs := Lib.hid (fun w' (hb : Below w.heap.size w w') => h.below hb (Nat.le_refl _))
  have hB0 := ((Below.refl w.heap.size w).alloc (by first | exact Nat.le_refl _ | (simp <;> omega)) (.cells #[.int .i64 W, .int .i64 H, .int .i64 M, .slice A n c] 37)).alloc (by first | exact Nat.le_refl _ | (simp <;> omega)) (.cells #[.int .i64 x, .int .i64 y] 38)
  have k0 : KB _ _ _ _ := ((KB.new w #[.int .i64 W, .int .i64 H, .int .i64 M, .slice A n c] 37).alloc (.cells #[.int .i64 x, .int .i64 y] 38))
  have k1 : KB _ _ _ _ := (KB.new (w.alloc (.cells #[.int .i64 W, .int .i64 H, .int .i64 M, .slice A n c] 37)) #[.int .i64 x, .int .i64 y] 38)
  simp only [World.size_alloc] at k1
  clear h
  replace hm := Lib.hid hm
  replace hr := Lib.hid hr
  go_enter Try.func8, Try.ntmps8
  go_wp2_with (first
    | (go_at_call 11; refine (known_any _).mono ?_; rintro e w1 ⟨rfl, hb1⟩; (try simp only [World.size_alloc] at hb1); have z1 := hb1.size; (try simp only [World.size_alloc] at z1); replace k0 := k0.below hb1 (by omega); replace k1 := k1.below hb1 (by omega); have hB1 := Below.trans hB0 (hb1.mono (by omega)); have k0_0 := k0.cell 0 rfl; have k0_1 := k0.cell 1 rfl; have k0_2 := k0.cell 2 rfl; have k0_3 := k0.cell 3 rfl; have k1_0 := k1.cell 0 rfl; have k1_1 := k1.cell 1 rfl)
    | (go_at_call 17; refine (few_any W H M A n c none 0 0 _ (by omega) (by omega) hm.out).mono ?_; rintro e w2 ⟨rfl, hb2⟩; (try simp only [World.size_alloc] at hb2); have z2 := hb2.size; (try simp only [World.size_alloc] at z2); replace k0 := k0.below hb2 (by omega); replace k1 := k1.below hb2 (by omega); have hB2 := Below.trans hB1 (hb2.mono (by omega)); clear k0_0 k0_1 k0_2 k0_3 k1_0 k1_1; have k0_0 := k0.cell 0 rfl; have k0_1 := k0.cell 1 rfl; have k0_2 := k0.cell 2 rfl; have k0_3 := k0.cell 3 rfl; have k1_0 := k1.cell 0 rfl; have k1_1 := k1.cell 1 rfl)
    | (go_at_call 30; refine (Quarter_bad W H M A n c P x y s _ (hs.out _ hB2) hr.out).mono ?_; rintro e w3 ⟨rfl, hb3⟩; (try simp only [World.size_alloc] at hb3); have z3 := hb3.size; (try simp only [World.size_alloc] at z3); replace k0 := k0.below hb3 (by omega); replace k1 := k1.below hb3 (by omega); have hB3 := Below.trans hB2 (hb3.mono (by omega)); clear k0_0 k0_1 k0_2 k0_3 k1_0 k1_1; have k0_0 := k0.cell 0 rfl; have k0_1 := k0.cell 1 rfl; have k0_2 := k0.cell 2 rfl; have k0_3 := k0.cell 3 rfl; have k1_0 := k1.cell 0 rfl; have k1_1 := k1.cell 1 rfl)
    | (go_at_call 28; refine (rCheck_no (hs.out _ hB3) hr.out).mono ?_; rintro e w4 ⟨rfl, hb4⟩; (try simp only [World.size_alloc] at hb4); have z4 := hb4.size; (try simp only [World.size_alloc] at z4); replace k0 := k0.below hb4 (by omega); replace k1 := k1.below hb4 (by omega); have hB4 := Below.trans hB3 (hb4.mono (by omega)); clear k0_0 k0_1 k0_2 k0_3 k1_0 k1_1; have k0_0 := k0.cell 0 rfl; have k0_1 := k0.cell 1 rfl; have k0_2 := k0.cell 2 rfl; have k0_3 := k0.cell 3 rfl; have k1_0 := k1.cell 0 rfl; have k1_1 := k1.cell 1 rfl))
  go_ret
  exact ⟨rfl, hB4⟩

set_option maxRecDepth 100000 in
set_option maxHeartbeats 6400000 in
theorem quarters_out (a b : Nat) (M : Int) (A : Option Addr) (n c : Nat) (P : List Int) (x y s : Int) (w : World) (h : Sl w A n c P) (hm : true = decide (n ≤ 600 ∧ 0 ≤ 70)) (hr : Ras a b M P) (hi : ins a b x y = false) :
    Calls Try.prog 8 #[.agg #[.int .i64 a, .int .i64 b, .int .i64 M, .slice A n c], .agg #[.int .i64 x, .int .i64 y], .int .i64 s] w fun e w' => e = .returned (.bool true) ∧ Below w.heap.size w w' := by
  have hcap := h.le_cap
  have hcl := h.cap_le
  have hs := Lib.hid (fun w' (hb : Below w.heap.size w w') => h.below hb (Nat.le_refl _))
  have hB0 := ((Below.refl w.heap.size w).alloc (by first | exact Nat.le_refl _ | (simp <;> omega)) (.cells #[.int .i64 a, .int .i64 b, .int .i64 M, .slice A n c] 37)).alloc (by first | exact Nat.le_refl _ | (simp <;> omega)) (.cells #[.int .i64 x, .int .i64 y] 38)
  have k0 : KB _ _ _ _ := ((KB.new w #[.int .i64 a, .int .i64 b, .int .i64 M, .slice A n c] 37).alloc (.cells #[.int .i64 x, .int .i64 y] 38))
  have k1 : KB _ _ _ _ := (KB.new (w.alloc (.cells #[.int .i64 a, .int .i64 b, .int .i64 M, .slice A n c] 37)) #[.int .i64 x, .int .i64 y] 38)
  simp only [World.size_alloc] at k1
  clear h
  replace hm := Lib.hid hm
  replace hr := Lib.hid hr
  replace hi := Lib.hid hi
  go_enter Try.func8, Try.ntmps8
  go_wp2_with (first
    | (go_at_call 11; refine (known_any _).mono ?_; rintro e w1 ⟨rfl, hb1⟩; (try simp only [World.size_alloc] at hb1); have z1 := hb1.size; (try simp only [World.size_alloc] at z1); replace k0 := k0.below hb1 (by omega); replace k1 := k1.below hb1 (by omega); have hB1 := Below.trans hB0 (hb1.mono (by omega)); have k0_0 := k0.cell 0 rfl; have k0_1 := k0.cell 1 rfl; have k0_2 := k0.cell 2 rfl; have k0_3 := k0.cell 3 rfl; have k1_0 := k1.cell 0 rfl; have k1_1 := k1.cell 1 rfl)
    | (go_at_call 17; refine (few_any a b M A n c none 0 0 _ (by omega) (by omega) hm.out).mono ?_; rintro e w2 ⟨rfl, hb2⟩; (try simp only [World.size_alloc] at hb2); have z2 := hb2.size; (try simp only [World.size_alloc] at z2); replace k0 := k0.below hb2 (by omega); replace k1 := k1.below hb2 (by omega); have hB2 := Below.trans hB1 (hb2.mono (by omega)); clear k0_0 k0_1 k0_2 k0_3 k1_0 k1_1; have k0_0 := k0.cell 0 rfl; have k0_1 := k0.cell 1 rfl; have k0_2 := k0.cell 2 rfl; have k0_3 := k0.cell 3 rfl; have k1_0 := k1.cell 0 rfl; have k1_1 := k1.cell 1 rfl)
    | (go_at_call 30; refine (Quarter_out a b M A n c P x y s _ (hs.out _ hB2) hr.out hi.out).mono ?_; rintro e w3 ⟨rfl, hb3⟩; (try simp only [World.size_alloc] at hb3); have z3 := hb3.size; (try simp only [World.size_alloc] at z3); replace k0 := k0.below hb3 (by omega); replace k1 := k1.below hb3 (by omega); have hB3 := Below.trans hB2 (hb3.mono (by omega)); clear k0_0 k0_1 k0_2 k0_3 k1_0 k1_1; have k0_0 := k0.cell 0 rfl; have k0_1 := k0.cell 1 rfl; have k0_2 := k0.cell 2 rfl; have k0_3 := k0.cell 3 rfl; have k1_0 := k1.cell 0 rfl; have k1_1 := k1.cell 1 rfl)
    | (go_at_call 28; refine (rCheck_ok (hs.out _ hB3) hr.out).mono ?_; rintro e w4 ⟨rfl, hb4⟩; (try simp only [World.size_alloc] at hb4); have z4 := hb4.size; (try simp only [World.size_alloc] at z4); replace k0 := k0.below hb4 (by omega); replace k1 := k1.below hb4 (by omega); have hB4 := Below.trans hB3 (hb4.mono (by omega)); clear k0_0 k0_1 k0_2 k0_3 k1_0 k1_1; have k0_0 := k0.cell 0 rfl; have k0_1 := k0.cell 1 rfl; have k0_2 := k0.cell 2 rfl; have k0_3 := k0.cell 3 rfl; have k1_0 := k1.cell 0 rfl; have k1_1 := k1.cell 1 rfl)
    | (go_at_call 31; refine (lq_out a b M A n c x y s _ hi.out).mono ?_; rintro e w5 ⟨rfl, hb5⟩; (try simp only [World.size_alloc] at hb5); have z5 := hb5.size; (try simp only [World.size_alloc] at z5); replace k0 := k0.below hb5 (by omega); replace k1 := k1.below hb5 (by omega); have hB5 := Below.trans hB4 (hb5.mono (by omega)); clear k0_0 k0_1 k0_2 k0_3 k1_0 k1_1; have k0_0 := k0.cell 0 rfl; have k0_1 := k0.cell 1 rfl; have k0_2 := k0.cell 2 rfl; have k0_3 := k0.cell 3 rfl; have k1_0 := k1.cell 0 rfl; have k1_1 := k1.cell 1 rfl))
  go_ret
  exact ⟨rfl, hB5⟩

set_option maxRecDepth 100000 in
set_option maxHeartbeats 6400000 in
theorem quarters_size (a b : Nat) (M : Int) (A : Option Addr) (n c : Nat) (P : List Int) (x y s : Int) (w : World) (h : Sl w A n c P) (hm : true = decide (n ≤ 600 ∧ 0 ≤ 70)) (hr : Ras a b M P) (hi : ins a b x y = true) (hn : win s 1 16 = false) :
    Calls Try.prog 8 #[.agg #[.int .i64 a, .int .i64 b, .int .i64 M, .slice A n c], .agg #[.int .i64 x, .int .i64 y], .int .i64 s] w fun e w' => e = .returned (.bool true) ∧ Below w.heap.size w w' := by
  have hcap := h.le_cap
  have hcl := h.cap_le
  have hs := Lib.hid (fun w' (hb : Below w.heap.size w w') => h.below hb (Nat.le_refl _))
  have hB0 := ((Below.refl w.heap.size w).alloc (by first | exact Nat.le_refl _ | (simp <;> omega)) (.cells #[.int .i64 a, .int .i64 b, .int .i64 M, .slice A n c] 37)).alloc (by first | exact Nat.le_refl _ | (simp <;> omega)) (.cells #[.int .i64 x, .int .i64 y] 38)
  have k0 : KB _ _ _ _ := ((KB.new w #[.int .i64 a, .int .i64 b, .int .i64 M, .slice A n c] 37).alloc (.cells #[.int .i64 x, .int .i64 y] 38))
  have k1 : KB _ _ _ _ := (KB.new (w.alloc (.cells #[.int .i64 a, .int .i64 b, .int .i64 M, .slice A n c] 37)) #[.int .i64 x, .int .i64 y] 38)
  simp only [World.size_alloc] at k1
  clear h
  replace hm := Lib.hid hm
  replace hr := Lib.hid hr
  replace hi := Lib.hid hi
  replace hn := Lib.hid hn
  go_enter Try.func8, Try.ntmps8
  go_wp2_with (first
    | (go_at_call 11; refine (known_any _).mono ?_; rintro e w1 ⟨rfl, hb1⟩; (try simp only [World.size_alloc] at hb1); have z1 := hb1.size; (try simp only [World.size_alloc] at z1); replace k0 := k0.below hb1 (by omega); replace k1 := k1.below hb1 (by omega); have hB1 := Below.trans hB0 (hb1.mono (by omega)); have k0_0 := k0.cell 0 rfl; have k0_1 := k0.cell 1 rfl; have k0_2 := k0.cell 2 rfl; have k0_3 := k0.cell 3 rfl; have k1_0 := k1.cell 0 rfl; have k1_1 := k1.cell 1 rfl)
    | (go_at_call 17; refine (few_any a b M A n c none 0 0 _ (by omega) (by omega) hm.out).mono ?_; rintro e w2 ⟨rfl, hb2⟩; (try simp only [World.size_alloc] at hb2); have z2 := hb2.size; (try simp only [World.size_alloc] at z2); replace k0 := k0.below hb2 (by omega); replace k1 := k1.below hb2 (by omega); have hB2 := Below.trans hB1 (hb2.mono (by omega)); clear k0_0 k0_1 k0_2 k0_3 k1_0 k1_1; have k0_0 := k0.cell 0 rfl; have k0_1 := k0.cell 1 rfl; have k0_2 := k0.cell 2 rfl; have k0_3 := k0.cell 3 rfl; have k1_0 := k1.cell 0 rfl; have k1_1 := k1.cell 1 rfl)
    | (go_at_call 30; refine (Quarter_size a b M A n c P x y s _ (hs.out _ hB2) hr.out hi.out hn.out).mono ?_; rintro e w3 ⟨rfl, hb3⟩; (try simp only [World.size_alloc] at hb3); have z3 := hb3.size; (try simp only [World.size_alloc] at z3); replace k0 := k0.below hb3 (by omega); replace k1 := k1.below hb3 (by omega); have hB3 := Below.trans hB2 (hb3.mono (by omega)); clear k0_0 k0_1 k0_2 k0_3 k1_0 k1_1; have k0_0 := k0.cell 0 rfl; have k0_1 := k0.cell 1 rfl; have k0_2 := k0.cell 2 rfl; have k0_3 := k0.cell 3 rfl; have k1_0 := k1.cell 0 rfl; have k1_1 := k1.cell 1 rfl)
    | (go_at_call 28; refine (rCheck_ok (hs.out _ hB3) hr.out).mono ?_; rintro e w4 ⟨rfl, hb4⟩; (try simp only [World.size_alloc] at hb4); have z4 := hb4.size; (try simp only [World.size_alloc] at z4); replace k0 := k0.below hb4 (by omega); replace k1 := k1.below hb4 (by omega); have hB4 := Below.trans hB3 (hb4.mono (by omega)); clear k0_0 k0_1 k0_2 k0_3 k1_0 k1_1; have k0_0 := k0.cell 0 rfl; have k0_1 := k0.cell 1 rfl; have k0_2 := k0.cell 2 rfl; have k0_3 := k0.cell 3 rfl; have k1_0 := k1.cell 0 rfl; have k1_1 := k1.cell 1 rfl)
    | (go_at_call 31; refine (lq_size a b M A n c x y s _ hi.out hn.out).mono ?_; rintro e w5 ⟨rfl, hb5⟩; (try simp only [World.size_alloc] at hb5); have z5 := hb5.size; (try simp only [World.size_alloc] at z5); replace k0 := k0.below hb5 (by omega); replace k1 := k1.below hb5 (by omega); have hB5 := Below.trans hB4 (hb5.mono (by omega)); clear k0_0 k0_1 k0_2 k0_3 k1_0 k1_1; have k0_0 := k0.cell 0 rfl; have k0_1 := k0.cell 1 rfl; have k0_2 := k0.cell 2 rfl; have k0_3 := k0.cell 3 rfl; have k1_0 := k1.cell 0 rfl; have k1_1 := k1.cell 1 rfl))
  go_ret
  exact ⟨rfl, hB5⟩

set_option maxRecDepth 100000 in
set_option maxHeartbeats 6400000 in
theorem quarters_unfit (a b : Nat) (M : Int) (A : Option Addr) (n c : Nat) (P : List Int) (x y s : Int) (w : World) (h : Sl w A n c P) (hm : true = decide (n ≤ 600 ∧ 0 ≤ 70)) (hr : Ras a b M P) (hi : ins a b x y = true) (hn : win s 1 16 = true) (hf : sfit a b s x y = false) {k : Nat} {d : Bool} (hbst : Best (sval P a s x y) k d) :
    Calls Try.prog 8 #[.agg #[.int .i64 a, .int .i64 b, .int .i64 M, .slice A n c], .agg #[.int .i64 x, .int .i64 y], .int .i64 s] w fun e w' => e = .returned (.bool true) ∧ Below w.heap.size w w' := by
  have hcap := h.le_cap
  have hcl := h.cap_le
  have hs := Lib.hid (fun w' (hb : Below w.heap.size w w') => h.below hb (Nat.le_refl _))
  have hB0 := ((Below.refl w.heap.size w).alloc (by first | exact Nat.le_refl _ | (simp <;> omega)) (.cells #[.int .i64 a, .int .i64 b, .int .i64 M, .slice A n c] 37)).alloc (by first | exact Nat.le_refl _ | (simp <;> omega)) (.cells #[.int .i64 x, .int .i64 y] 38)
  have k0 : KB _ _ _ _ := ((KB.new w #[.int .i64 a, .int .i64 b, .int .i64 M, .slice A n c] 37).alloc (.cells #[.int .i64 x, .int .i64 y] 38))
  have k1 : KB _ _ _ _ := (KB.new (w.alloc (.cells #[.int .i64 a, .int .i64 b, .int .i64 M, .slice A n c] 37)) #[.int .i64 x, .int .i64 y] 38)
  simp only [World.size_alloc] at k1
  clear h
  obtain ⟨⟨xa, xb⟩, ya, yb⟩ := ins_iff.1 hi
  obtain ⟨hw1, hw2, hw3⟩ := hr.1
  have hi2 := Lib.hid ((ins_turn (a := a) (b := b) (x := x) (y := y)).trans hi)
  have hf2 := Lib.hid ((sfit_turn (a := a) (b := b) (n := s) (x := x) (y := y)).trans hf)
  have hr2 := Lib.hid hr.turned
  obtain ⟨k2, d2, hbsu⟩ := exists_best (sval (turned a b P) b s y ((a : Int) - 1 - x))
  replace hbsu := Lib.hid hbsu
  replace hbst := Lib.hid hbst
  have i1 : IntKind.i64.wrap ((a : Int) - 1) = (a : Int) - 1 := IntWalk.i64_in _ (by omega)
  have i2 : IntKind.i64.wrap ((a : Int) - 1 - x) = (a : Int) - 1 - x := IntWalk.i64_in _ (by omega)
  replace hf := Lib.hid hf
  replace hn := Lib.hid hn
  replace hm := Lib.hid hm
  replace hr := Lib.hid hr
  replace hi := Lib.hid hi
  go_enter Try.func8, Try.ntmps8
  go_wp2_with (first
    | (go_at_call 11; refine (known_any _).mono ?_; rintro e w1 ⟨rfl, hb1⟩; (try simp only [World.size_alloc] at hb1); have z1 := hb1.size; (try simp only [World.size_alloc] at z1); replace k0 := k0.below hb1 (by omega); replace k1 := k1.below hb1 (by omega); have hB1 := Below.trans hB0 (hb1.mono (by omega)); have k0_0 := k0.cell 0 rfl; have k0_1 := k0.cell 1 rfl; have k0_2 := k0.cell 2 rfl; have k0_3 := k0.cell 3 rfl; have k1_0 := k1.cell 0 rfl; have k1_1 := k1.cell 1 rfl)
    | (go_at_call 17; refine (few_any a b M A n c none 0 0 _ (by omega) (by omega) hm.out).mono ?_; rintro e w2 ⟨rfl, hb2⟩; (try simp only [World.size_alloc] at hb2); have z2 := hb2.size; (try simp only [World.size_alloc] at z2); replace k0 := k0.below hb2 (by omega); replace k1 := k1.below hb2 (by omega); have hB2 := Below.trans hB1 (hb2.mono (by omega)); clear k0_0 k0_1 k0_2 k0_3 k1_0 k1_1; have k0_0 := k0.cell 0 rfl; have k0_1 := k0.cell 1 rfl; have k0_2 := k0.cell 2 rfl; have k0_3 := k0.cell 3 rfl; have k1_0 := k1.cell 0 rfl; have k1_1 := k1.cell 1 rfl)
    | (go_at_call 30; refine (Quarter_in a b M A n c P x y s _ (hs.out _ hB2) hr.out hi.out hn.out hbst.out (r := 0) (cc := 15) (fun e => absurd e (by rw [hf.out]; decide)) (fun _ => ⟨rfl, rfl⟩)).mono ?_; rintro e w3 ⟨rfl, hb3⟩; (try simp only [World.size_alloc] at hb3); have z3 := hb3.size; (try simp only [World.size_alloc] at z3); replace k0 := k0.below hb3 (by omega); replace k1 := k1.below hb3 (by omega); have hB3 := Below.trans hB2 (hb3.mono (by omega)); clear k0_0 k0_1 k0_2 k0_3 k1_0 k1_1; have k0_0 := k0.cell 0 rfl; have k0_1 := k0.cell 1 rfl; have k0_2 := k0.cell 2 rfl; have k0_3 := k0.cell 3 rfl; have k1_0 := k1.cell 0 rfl; have k1_1 := k1.cell 1 rfl)
    | (go_at_call 28; refine (rCheck_ok (hs.out _ hB3) hr.out).mono ?_; rintro e w4 ⟨rfl, hb4⟩; (try simp only [World.size_alloc] at hb4); have z4 := hb4.size; (try simp only [World.size_alloc] at z4); replace k0 := k0.below hb4 (by omega); replace k1 := k1.below hb4 (by omega); have hB4 := Below.trans hB3 (hb4.mono (by omega)); clear k0_0 k0_1 k0_2 k0_3 k1_0 k1_1; have k0_0 := k0.cell 0 rfl; have k0_1 := k0.cell 1 rfl; have k0_2 := k0.cell 2 rfl; have k0_3 := k0.cell 3 rfl; have k1_0 := k1.cell 0 rfl; have k1_1 := k1.cell 1 rfl)
    | (go_at_call 31; refine (lq_in a b M A n c P x y s _ (hs.out _ hB4) hr.out hi.out hn.out hbst.out (r := 0) (cc := 15) (fun e => absurd e (by rw [hf.out]; decide)) (fun _ => ⟨rfl, rfl⟩)).mono ?_; rintro e w5 ⟨rfl, hb5⟩; (try simp only [World.size_alloc] at hb5); have z5 := hb5.size; (try simp only [World.size_alloc] at z5); replace k0 := k0.below hb5 (by omega); replace k1 := k1.below hb5 (by omega); have hB5 := Below.trans hB4 (hb5.mono (by omega)); clear k0_0 k0_1 k0_2 k0_3 k1_0 k1_1; have k0_0 := k0.cell 0 rfl; have k0_1 := k0.cell 1 rfl; have k0_2 := k0.cell 2 rfl; have k0_3 := k0.cell 3 rfl; have k1_0 := k1.cell 0 rfl; have k1_1 := k1.cell 1 rfl))
  have keepS : ∀ w', Below w5.heap.size w5 w' → w'.cell? ⟨w.heap.size, 0, none⟩ = some (.int .i64 a) ∧ w'.cell? ⟨w.heap.size, 1, none⟩ = some (.int .i64 b) ∧ w'.cell? ⟨w.heap.size, 2, none⟩ = some (.int .i64 M) ∧ w'.cell? ⟨w.heap.size, 3, none⟩ = some (.slice A n c) ∧ w'.cell? ⟨w.heap.size + 1, 0, none⟩ = some (.int .i64 x) ∧ w'.cell? ⟨w.heap.size + 1, 1, none⟩ = some (.int .i64 y) := by
    intro w' hb
    have kk : ∀ (bk ok : Nat), bk < w5.heap.size → w'.cell? ⟨bk, ok, none⟩ = w5.cell? ⟨bk, ok, none⟩ := fun bk ok hlt => hb.cell (p := ⟨bk, ok, none⟩) hlt
    exact ⟨(kk _ _ k0.lt).trans k0_0, (kk _ _ k0.lt).trans k0_1, (kk _ _ k0.lt).trans k0_2, (kk _ _ k0.lt).trans k0_3, (kk _ _ k1.lt).trans k1_0, (kk _ _ k1.lt).trans k1_1⟩
  replace keepS := Lib.hid keepS
  have qtok1 : True := trivial
  have qtok2 : True := trivial
  go_region_held3 (fun w' => w'.cell? ⟨w.heap.size, 0, none⟩ = some (.int .i64 a) ∧ w'.cell? ⟨w.heap.size, 1, none⟩ = some (.int .i64 b) ∧ w'.cell? ⟨w.heap.size, 2, none⟩ = some (.int .i64 M) ∧ w'.cell? ⟨w.heap.size, 3, none⟩ = some (.slice A n c) ∧ w'.cell? ⟨w.heap.size + 1, 0, none⟩ = some (.int .i64 x) ∧ w'.cell? ⟨w.heap.size + 1, 1, none⟩ = some (.int .i64 y))
    (exact keepS.out _ (by repeat (first | exact qB2 | exact qB1 | exact (Below.refl w5.heap.size w5) | refine Below.drew ?_ | refine Below.drewN ?_ _ | refine Below.alloc ?_ (by first | omega | (simp <;> omega)) _)))
    (first | (go_at_call 29; clear qtok1; refine (rTurn_sl (hs.out _ (btr3 hB5 (by repeat (first | exact (Below.refl w5.heap.size w5) | refine Below.drew ?_ | refine Below.drewN ?_ _ | refine Below.alloc ?_ (by first | omega | (simp <;> omega)) _)) (by omega))) hr.out).mono ?_; rintro e qw1 ⟨⟨A9, n9, c9, rfl, hs9⟩, qh1⟩; have qB1 : Below w5.heap.size w5 qw1 := Below.trans (by repeat (first | exact (Below.refl w5.heap.size w5) | refine Below.drew ?_ | refine Below.drewN ?_ _ | refine Below.alloc ?_ (by first | omega | (simp <;> omega)) _)) (qh1.mono (by first | omega | (simp <;> omega))); have qs1 := qB1.size; have hs9' := Lib.hid hs9; clear hs9) | (go_at_call 30; clear qtok2; refine (Quarter_in b a M A9 n9 c9 (turned a b P) y ((a : Int) - 1 - x) s _ hs9'.out hr2.out hi2.out hn.out hbsu.out (r := 0) (cc := 15) (fun e => absurd e (by rw [hf2.out]; decide)) (fun _ => ⟨rfl, rfl⟩)).mono ?_; rintro e qw2 ⟨rfl, qh2⟩; have qB2 : Below w5.heap.size w5 qw2 := Below.trans (by repeat (first | exact qB1 | refine Below.drew ?_ | refine Below.drewN ?_ _ | refine Below.alloc ?_ (by first | omega | (simp <;> omega)) _)) (qh2.mono (by first | omega | (simp <;> omega))); have qs2 := qB2.size))
  go_wp2
  go_ret
  exact ⟨rfl, hB5.trans (qB2.mono (by omega))⟩

set_option maxRecDepth 100000 in
set_option maxHeartbeats 6400000 in
theorem quarters_twice (a b : Nat) (M : Int) (A : Option Addr) (n c : Nat) (P : List Int) (x y s : Int) (w : World) (h : Sl w A n c P) (hm : true = decide (n ≤ 600 ∧ 0 ≤ 70)) (hr : Ras a b M P) (hi : ins a b x y = true) (hn : win s 1 16 = true) (hf : sfit a b s x y = true) {k : Nat} (hbst : Best (sval P a s x y) k true) :
    Calls Try.prog 8 #[.agg #[.int .i64 a, .int .i64 b, .int .i64 M, .slice A n c], .agg #[.int .i64 x, .int .i64 y], .int .i64 s] w fun e w' => e = .returned (.bool true) ∧ Below w.heap.size w w' := by
  have hcap := h.le_cap
  have hcl := h.cap_le
  have hs := Lib.hid (fun w' (hb : Below w.heap.size w w') => h.below hb (Nat.le_refl _))
  have hB0 := ((Below.refl w.heap.size w).alloc (by first | exact Nat.le_refl _ | (simp <;> omega)) (.cells #[.int .i64 a, .int .i64 b, .int .i64 M, .slice A n c] 37)).alloc (by first | exact Nat.le_refl _ | (simp <;> omega)) (.cells #[.int .i64 x, .int .i64 y] 38)
  have k0 : KB _ _ _ _ := ((KB.new w #[.int .i64 a, .int .i64 b, .int .i64 M, .slice A n c] 37).alloc (.cells #[.int .i64 x, .int .i64 y] 38))
  have k1 : KB _ _ _ _ := (KB.new (w.alloc (.cells #[.int .i64 a, .int .i64 b, .int .i64 M, .slice A n c] 37)) #[.int .i64 x, .int .i64 y] 38)
  simp only [World.size_alloc] at k1
  clear h
  obtain ⟨⟨xa, xb⟩, ya, yb⟩ := ins_iff.1 hi
  obtain ⟨hw1, hw2, hw3⟩ := hr.1
  have hi2 := Lib.hid ((ins_turn (a := a) (b := b) (x := x) (y := y)).trans hi)
  have hf2 := Lib.hid ((sfit_turn (a := a) (b := b) (n := s) (x := x) (y := y)).trans hf)
  have hr2 := Lib.hid hr.turned
  obtain ⟨k2, hbsu, -⟩ := hbst.turn (V' := sval (turned a b P) b s y ((a : Int) - 1 - x)) (fun k hk => sval_turn (win_iff.1 hn) hf hk)
  replace hbsu := Lib.hid hbsu
  replace hbst := Lib.hid hbst
  have i1 : IntKind.i64.wrap ((a : Int) - 1) = (a : Int) - 1 := IntWalk.i64_in _ (by omega)
  have i2 : IntKind.i64.wrap ((a : Int) - 1 - x) = (a : Int) - 1 - x := IntWalk.i64_in _ (by omega)
  replace hf := Lib.hid hf
  replace hn := Lib.hid hn
  replace hm := Lib.hid hm
  replace hr := Lib.hid hr
  replace hi := Lib.hid hi
  go_enter Try.func8, Try.ntmps8
  go_wp2_with (first
    | (go_at_call 11; refine (known_any _).mono ?_; rintro e w1 ⟨rfl, hb1⟩; (try simp only [World.size_alloc] at hb1); have z1 := hb1.size; (try simp only [World.size_alloc] at z1); replace k0 := k0.below hb1 (by omega); replace k1 := k1.below hb1 (by omega); have hB1 := Below.trans hB0 (hb1.mono (by omega)); have k0_0 := k0.cell 0 rfl; have k0_1 := k0.cell 1 rfl; have k0_2 := k0.cell 2 rfl; have k0_3 := k0.cell 3 rfl; have k1_0 := k1.cell 0 rfl; have k1_1 := k1.cell 1 rfl)
    | (go_at_call 17; refine (few_any a b M A n c none 0 0 _ (by omega) (by omega) hm.out).mono ?_; rintro e w2 ⟨rfl, hb2⟩; (try simp only [World.size_alloc] at hb2); have z2 := hb2.size; (try simp only [World.size_alloc] at z2); replace k0 := k0.below hb2 (by omega); replace k1 := k1.below hb2 (by omega); have hB2 := Below.trans hB1 (hb2.mono (by omega)); clear k0_0 k0_1 k0_2 k0_3 k1_0 k1_1; have k0_0 := k0.cell 0 rfl; have k0_1 := k0.cell 1 rfl; have k0_2 := k0.cell 2 rfl; have k0_3 := k0.cell 3 rfl; have k1_0 := k1.cell 0 rfl; have k1_1 := k1.cell 1 rfl)
    | (go_at_call 30; refine (Quarter_in a b M A n c P x y s _ (hs.out _ hB2) hr.out hi.out hn.out hbst.out (r := 0) (cc := 13) (fun _ => ⟨rfl, rfl⟩) (fun e => absurd e (by rw [hf.out]; decide))).mono ?_; rintro e w3 ⟨rfl, hb3⟩; (try simp only [World.size_alloc] at hb3); have z3 := hb3.size; (try simp only [World.size_alloc] at z3); replace k0 := k0.below hb3 (by omega); replace k1 := k1.below hb3 (by omega); have hB3 := Below.trans hB2 (hb3.mono (by omega)); clear k0_0 k0_1 k0_2 k0_3 k1_0 k1_1; have k0_0 := k0.cell 0 rfl; have k0_1 := k0.cell 1 rfl; have k0_2 := k0.cell 2 rfl; have k0_3 := k0.cell 3 rfl; have k1_0 := k1.cell 0 rfl; have k1_1 := k1.cell 1 rfl)
    | (go_at_call 28; refine (rCheck_ok (hs.out _ hB3) hr.out).mono ?_; rintro e w4 ⟨rfl, hb4⟩; (try simp only [World.size_alloc] at hb4); have z4 := hb4.size; (try simp only [World.size_alloc] at z4); replace k0 := k0.below hb4 (by omega); replace k1 := k1.below hb4 (by omega); have hB4 := Below.trans hB3 (hb4.mono (by omega)); clear k0_0 k0_1 k0_2 k0_3 k1_0 k1_1; have k0_0 := k0.cell 0 rfl; have k0_1 := k0.cell 1 rfl; have k0_2 := k0.cell 2 rfl; have k0_3 := k0.cell 3 rfl; have k1_0 := k1.cell 0 rfl; have k1_1 := k1.cell 1 rfl)
    | (go_at_call 31; refine (lq_in a b M A n c P x y s _ (hs.out _ hB4) hr.out hi.out hn.out hbst.out (r := 0) (cc := 13) (fun _ => ⟨rfl, rfl⟩) (fun e => absurd e (by rw [hf.out]; decide))).mono ?_; rintro e w5 ⟨rfl, hb5⟩; (try simp only [World.size_alloc] at hb5); have z5 := hb5.size; (try simp only [World.size_alloc] at z5); replace k0 := k0.below hb5 (by omega); replace k1 := k1.below hb5 (by omega); have hB5 := Below.trans hB4 (hb5.mono (by omega)); clear k0_0 k0_1 k0_2 k0_3 k1_0 k1_1; have k0_0 := k0.cell 0 rfl; have k0_1 := k0.cell 1 rfl; have k0_2 := k0.cell 2 rfl; have k0_3 := k0.cell 3 rfl; have k1_0 := k1.cell 0 rfl; have k1_1 := k1.cell 1 rfl))
  have keepS : ∀ w', Below w5.heap.size w5 w' → w'.cell? ⟨w.heap.size, 0, none⟩ = some (.int .i64 a) ∧ w'.cell? ⟨w.heap.size, 1, none⟩ = some (.int .i64 b) ∧ w'.cell? ⟨w.heap.size, 2, none⟩ = some (.int .i64 M) ∧ w'.cell? ⟨w.heap.size, 3, none⟩ = some (.slice A n c) ∧ w'.cell? ⟨w.heap.size + 1, 0, none⟩ = some (.int .i64 x) ∧ w'.cell? ⟨w.heap.size + 1, 1, none⟩ = some (.int .i64 y) := by
    intro w' hb
    have kk : ∀ (bk ok : Nat), bk < w5.heap.size → w'.cell? ⟨bk, ok, none⟩ = w5.cell? ⟨bk, ok, none⟩ := fun bk ok hlt => hb.cell (p := ⟨bk, ok, none⟩) hlt
    exact ⟨(kk _ _ k0.lt).trans k0_0, (kk _ _ k0.lt).trans k0_1, (kk _ _ k0.lt).trans k0_2, (kk _ _ k0.lt).trans k0_3, (kk _ _ k1.lt).trans k1_0, (kk _ _ k1.lt).trans k1_1⟩
  replace keepS := Lib.hid keepS
  have qtok1 : True := trivial
  have qtok2 : True := trivial
  go_region_held3 (fun w' => w'.cell? ⟨w.heap.size, 0, none⟩ = some (.int .i64 a) ∧ w'.cell? ⟨w.heap.size, 1, none⟩ = some (.int .i64 b) ∧ w'.cell? ⟨w.heap.size, 2, none⟩ = some (.int .i64 M) ∧ w'.cell? ⟨w.heap.size, 3, none⟩ = some (.slice A n c) ∧ w'.cell? ⟨w.heap.size + 1, 0, none⟩ = some (.int .i64 x) ∧ w'.cell? ⟨w.heap.size + 1, 1, none⟩ = some (.int .i64 y))
    (exact keepS.out _ (by repeat (first | exact qB2 | exact qB1 | exact (Below.refl w5.heap.size w5) | refine Below.drew ?_ | refine Below.drewN ?_ _ | refine Below.alloc ?_ (by first | omega | (simp <;> omega)) _)))
    (first | (go_at_call 29; clear qtok1; refine (rTurn_sl (hs.out _ (btr3 hB5 (by repeat (first | exact (Below.refl w5.heap.size w5) | refine Below.drew ?_ | refine Below.drewN ?_ _ | refine Below.alloc ?_ (by first | omega | (simp <;> omega)) _)) (by omega))) hr.out).mono ?_; rintro e qw1 ⟨⟨A9, n9, c9, rfl, hs9⟩, qh1⟩; have qB1 : Below w5.heap.size w5 qw1 := Below.trans (by repeat (first | exact (Below.refl w5.heap.size w5) | refine Below.drew ?_ | refine Below.drewN ?_ _ | refine Below.alloc ?_ (by first | omega | (simp <;> omega)) _)) (qh1.mono (by first | omega | (simp <;> omega))); have qs1 := qB1.size; have hs9' := Lib.hid hs9; clear hs9) | (go_at_call 30; clear qtok2; refine (Quarter_in b a M A9 n9 c9 (turned a b P) y ((a : Int) - 1 - x) s _ hs9'.out hr2.out hi2.out hn.out hbsu.out (r := 0) (cc := 13) (fun _ => ⟨rfl, rfl⟩) (fun e => absurd e (by rw [hf2.out]; decide))).mono ?_; rintro e qw2 ⟨rfl, qh2⟩; have qB2 : Below w5.heap.size w5 qw2 := Below.trans (by repeat (first | exact qB1 | refine Below.drew ?_ | refine Below.drewN ?_ _ | refine Below.alloc ?_ (by first | omega | (simp <;> omega)) _)) (qh2.mono (by first | omega | (simp <;> omega))); have qs2 := qB2.size))
  go_wp2
  go_ret
  exact ⟨rfl, hB5.trans (qB2.mono (by omega))⟩

set_option maxRecDepth 100000 in
set_option maxHeartbeats 6400000 in
theorem quarters_ok (a b : Nat) (M : Int) (A : Option Addr) (n c : Nat) (P : List Int) (x y s : Int) (w : World) (h : Sl w A n c P) (hm : true = decide (n ≤ 600 ∧ 0 ≤ 70)) (hr : Ras a b M P) (hi : ins a b x y = true) (hn : win s 1 16 = true) (hf : sfit a b s x y = true) {k : Nat} (hbst : Best (sval P a s x y) k false) :
    Calls Try.prog 8 #[.agg #[.int .i64 a, .int .i64 b, .int .i64 M, .slice A n c], .agg #[.int .i64 x, .int .i64 y], .int .i64 s] w fun e w' => e = .returned (.bool true) ∧ Below w.heap.size w w' := by
  have hcap := h.le_cap
  have hcl := h.cap_le
  have hs := Lib.hid (fun w' (hb : Below w.heap.size w w') => h.below hb (Nat.le_refl _))
  have hB0 := ((Below.refl w.heap.size w).alloc (by first | exact Nat.le_refl _ | (simp <;> omega)) (.cells #[.int .i64 a, .int .i64 b, .int .i64 M, .slice A n c] 37)).alloc (by first | exact Nat.le_refl _ | (simp <;> omega)) (.cells #[.int .i64 x, .int .i64 y] 38)
  have k0 : KB _ _ _ _ := ((KB.new w #[.int .i64 a, .int .i64 b, .int .i64 M, .slice A n c] 37).alloc (.cells #[.int .i64 x, .int .i64 y] 38))
  have k1 : KB _ _ _ _ := (KB.new (w.alloc (.cells #[.int .i64 a, .int .i64 b, .int .i64 M, .slice A n c] 37)) #[.int .i64 x, .int .i64 y] 38)
  simp only [World.size_alloc] at k1
  clear h
  obtain ⟨⟨xa, xb⟩, ya, yb⟩ := ins_iff.1 hi
  obtain ⟨hw1, hw2, hw3⟩ := hr.1
  have hi2 := Lib.hid ((ins_turn (a := a) (b := b) (x := x) (y := y)).trans hi)
  have hf2 := Lib.hid ((sfit_turn (a := a) (b := b) (n := s) (x := x) (y := y)).trans hf)
  have hr2 := Lib.hid hr.turned
  obtain ⟨k2, hbsu, hk2⟩ := hbst.turn (V' := sval (turned a b P) b s y ((a : Int) - 1 - x)) (fun k hk => sval_turn (win_iff.1 hn) hf hk)
  have hk4 : k < 4 := hbst.1
  obtain ⟨zq, hz⟩ : ∃ zq : Int, (k : Int) = zq := ⟨_, rfl⟩
  obtain ⟨zq2, hz2⟩ : ∃ zq : Int, (k2 : Int) = zq := ⟨_, rfl⟩
  have hzz : (zq + 1) % 4 = zq2 := by rw [← hz, ← hz2, hk2 rfl]; omega
  have hz0 : 0 ≤ zq := by omega
  have hz3 : zq < 4 := by omega
  have hwz : IntKind.i64.wrap (zq + 1) = zq + 1 := IntWalk.i64_in _ (by omega)
  have hze : ((zq2 : Int) == zq2) = true := by simp
  replace hbsu := Lib.hid hbsu
  replace hz := Lib.hid hz
  replace hz2 := Lib.hid hz2
  replace hbst := Lib.hid hbst
  have i1 : IntKind.i64.wrap ((a : Int) - 1) = (a : Int) - 1 := IntWalk.i64_in _ (by omega)
  have i2 : IntKind.i64.wrap ((a : Int) - 1 - x) = (a : Int) - 1 - x := IntWalk.i64_in _ (by omega)
  replace hf := Lib.hid hf
  replace hn := Lib.hid hn
  replace hm := Lib.hid hm
  replace hr := Lib.hid hr
  replace hi := Lib.hid hi
  go_enter Try.func8, Try.ntmps8
  go_wp2_with (first
    | (go_at_call 11; refine (known_any _).mono ?_; rintro e w1 ⟨rfl, hb1⟩; (try simp only [World.size_alloc] at hb1); have z1 := hb1.size; (try simp only [World.size_alloc] at z1); replace k0 := k0.below hb1 (by omega); replace k1 := k1.below hb1 (by omega); have hB1 := Below.trans hB0 (hb1.mono (by omega)); have k0_0 := k0.cell 0 rfl; have k0_1 := k0.cell 1 rfl; have k0_2 := k0.cell 2 rfl; have k0_3 := k0.cell 3 rfl; have k1_0 := k1.cell 0 rfl; have k1_1 := k1.cell 1 rfl)
    | (go_at_call 17; refine (few_any a b M A n c none 0 0 _ (by omega) (by omega) hm.out).mono ?_; rintro e w2 ⟨rfl, hb2⟩; (try simp only [World.size_alloc] at hb2); have z2 := hb2.size; (try simp only [World.size_alloc] at z2); replace k0 := k0.below hb2 (by omega); replace k1 := k1.below hb2 (by omega); have hB2 := Below.trans hB1 (hb2.mono (by omega)); clear k0_0 k0_1 k0_2 k0_3 k1_0 k1_1; have k0_0 := k0.cell 0 rfl; have k0_1 := k0.cell 1 rfl; have k0_2 := k0.cell 2 rfl; have k0_3 := k0.cell 3 rfl; have k1_0 := k1.cell 0 rfl; have k1_1 := k1.cell 1 rfl)
    | (go_at_call 30; refine (Quarter_in a b M A n c P x y s _ (hs.out _ hB2) hr.out hi.out hn.out hbst.out (r := zq) (cc := 0) (fun _ => ⟨hz.out.symm, rfl⟩) (fun e => absurd e (by rw [hf.out]; decide))).mono ?_; rintro e w3 ⟨rfl, hb3⟩; (try simp only [World.size_alloc] at hb3); have z3 := hb3.size; (try simp only [World.size_alloc] at z3); replace k0 := k0.below hb3 (by omega); replace k1 := k1.below hb3 (by omega); have hB3 := Below.trans hB2 (hb3.mono (by omega)); clear k0_0 k0_1 k0_2 k0_3 k1_0 k1_1; have k0_0 := k0.cell 0 rfl; have k0_1 := k0.cell 1 rfl; have k0_2 := k0.cell 2 rfl; have k0_3 := k0.cell 3 rfl; have k1_0 := k1.cell 0 rfl; have k1_1 := k1.cell 1 rfl)
    | (go_at_call 28; refine (rCheck_ok (hs.out _ hB3) hr.out).mono ?_; rintro e w4 ⟨rfl, hb4⟩; (try simp only [World.size_alloc] at hb4); have z4 := hb4.size; (try simp only [World.size_alloc] at z4); replace k0 := k0.below hb4 (by omega); replace k1 := k1.below hb4 (by omega); have hB4 := Below.trans hB3 (hb4.mono (by omega)); clear k0_0 k0_1 k0_2 k0_3 k1_0 k1_1; have k0_0 := k0.cell 0 rfl; have k0_1 := k0.cell 1 rfl; have k0_2 := k0.cell 2 rfl; have k0_3 := k0.cell 3 rfl; have k1_0 := k1.cell 0 rfl; have k1_1 := k1.cell 1 rfl)
    | (go_at_call 31; refine (lq_in a b M A n c P x y s _ (hs.out _ hB4) hr.out hi.out hn.out hbst.out (r := zq) (cc := 0) (fun _ => ⟨hz.out.symm, rfl⟩) (fun e => absurd e (by rw [hf.out]; decide))).mono ?_; rintro e w5 ⟨rfl, hb5⟩; (try simp only [World.size_alloc] at hb5); have z5 := hb5.size; (try simp only [World.size_alloc] at z5); replace k0 := k0.below hb5 (by omega); replace k1 := k1.below hb5 (by omega); have hB5 := Below.trans hB4 (hb5.mono (by omega)); clear k0_0 k0_1 k0_2 k0_3 k1_0 k1_1; have k0_0 := k0.cell 0 rfl; have k0_1 := k0.cell 1 rfl; have k0_2 := k0.cell 2 rfl; have k0_3 := k0.cell 3 rfl; have k1_0 := k1.cell 0 rfl; have k1_1 := k1.cell 1 rfl))
  have keepS : ∀ w', Below w5.heap.size w5 w' → w'.cell? ⟨w.heap.size, 0, none⟩ = some (.int .i64 a) ∧ w'.cell? ⟨w.heap.size, 1, none⟩ = some (.int .i64 b) ∧ w'.cell? ⟨w.heap.size, 2, none⟩ = some (.int .i64 M) ∧ w'.cell? ⟨w.heap.size, 3, none⟩ = some (.slice A n c) ∧ w'.cell? ⟨w.heap.size + 1, 0, none⟩ = some (.int .i64 x) ∧ w'.cell? ⟨w.heap.size + 1, 1, none⟩ = some (.int .i64 y) := by
    intro w' hb
    have kk : ∀ (bk ok : Nat), bk < w5.heap.size → w'.cell? ⟨bk, ok, none⟩ = w5.cell? ⟨bk, ok, none⟩ := fun bk ok hlt => hb.cell (p := ⟨bk, ok, none⟩) hlt
    exact ⟨(kk _ _ k0.lt).trans k0_0, (kk _ _ k0.lt).trans k0_1, (kk _ _ k0.lt).trans k0_2, (kk _ _ k0.lt).trans k0_3, (kk _ _ k1.lt).trans k1_0, (kk _ _ k1.lt).trans k1_1⟩
  replace keepS := Lib.hid keepS
  have qtok1 : True := trivial
  have qtok2 : True := trivial
  go_region_held3 (fun w' => w'.cell? ⟨w.heap.size, 0, none⟩ = some (.int .i64 a) ∧ w'.cell? ⟨w.heap.size, 1, none⟩ = some (.int .i64 b) ∧ w'.cell? ⟨w.heap.size, 2, none⟩ = some (.int .i64 M) ∧ w'.cell? ⟨w.heap.size, 3, none⟩ = some (.slice A n c) ∧ w'.cell? ⟨w.heap.size + 1, 0, none⟩ = some (.int .i64 x) ∧ w'.cell? ⟨w.heap.size + 1, 1, none⟩ = some (.int .i64 y))
    (exact keepS.out _ (by repeat (first | exact qB2 | exact qB1 | exact (Below.refl w5.heap.size w5) | refine Below.drew ?_ | refine Below.drewN ?_ _ | refine Below.alloc ?_ (by first | omega | (simp <;> omega)) _)))
    (first | (go_at_call 29; clear qtok1; refine (rTurn_sl (hs.out _ (btr3 hB5 (by repeat (first | exact (Below.refl w5.heap.size w5) | refine Below.drew ?_ | refine Below.drewN ?_ _ | refine Below.alloc ?_ (by first | omega | (simp <;> omega)) _)) (by omega))) hr.out).mono ?_; rintro e qw1 ⟨⟨A9, n9, c9, rfl, hs9⟩, qh1⟩; have qB1 : Below w5.heap.size w5 qw1 := Below.trans (by repeat (first | exact (Below.refl w5.heap.size w5) | refine Below.drew ?_ | refine Below.drewN ?_ _ | refine Below.alloc ?_ (by first | omega | (simp <;> omega)) _)) (qh1.mono (by first | omega | (simp <;> omega))); have qs1 := qB1.size; have hs9' := Lib.hid hs9; clear hs9) | (go_at_call 30; clear qtok2; refine (Quarter_in b a M A9 n9 c9 (turned a b P) y ((a : Int) - 1 - x) s _ hs9'.out hr2.out hi2.out hn.out hbsu.out (r := zq2) (cc := 0) (fun _ => ⟨hz2.out.symm, rfl⟩) (fun e => absurd e (by rw [hf2.out]; decide))).mono ?_; rintro e qw2 ⟨rfl, qh2⟩; have qB2 : Below w5.heap.size w5 qw2 := Below.trans (by repeat (first | exact qB1 | refine Below.drew ?_ | refine Below.drewN ?_ _ | refine Below.alloc ?_ (by first | omega | (simp <;> omega)) _)) (qh2.mono (by first | omega | (simp <;> omega))); have qs2 := qB2.size))
  go_wp2
  go_ret
  exact ⟨rfl, hB5.trans (qB2.mono (by omega))⟩

theorem lawQuarters_any (W H M : Int) (A : Option Addr) (n c : Nat) (P : List Int) (x y s : Int) (w : World) (h : Sl w A n c P) :
    Calls Try.prog 8 #[.agg #[.int .i64 W, .int .i64 H, .int .i64 M, .slice A n c], .agg #[.int .i64 x, .int .i64 y], .int .i64 s] w fun e w' => e = .returned (.bool true) ∧ Below w.heap.size w w' := by
  cases hm : decide (n ≤ 600 ∧ 0 ≤ 70)
  · exact quarters_many W H M A n c P x y s w h hm.symm
  by_cases hr : Ras W H M P
  · obtain ⟨a, b, rfl, rfl, -⟩ := hr.nat
    cases hi : ins a b x y
    · exact quarters_out a b M A n c P x y s w h hm.symm hr hi
    cases hn : win s 1 16
    · exact quarters_size a b M A n c P x y s w h hm.symm hr hi hn
    obtain ⟨k, d, hb⟩ := exists_best (sval P a s x y)
    cases hf : sfit a b s x y
    · exact quarters_unfit a b M A n c P x y s w h hm.symm hr hi hn hf hb
    · cases d
      · exact quarters_ok a b M A n c P x y s w h hm.symm hr hi hn hf hb
      · exact quarters_twice a b M A n c P x y s w h hm.symm hr hi hn hf hb
  · exact quarters_bad W H M A n c P x y s w h hm.symm hr

end Go.Proofs.Ytonpnjjfidpoiaa
