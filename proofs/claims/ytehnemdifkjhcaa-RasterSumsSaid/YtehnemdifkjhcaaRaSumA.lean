/-
  Walk: the law of the sums of rasters.
-/
import Derived.Test.YtehnemdifkjhcaaRaQ
set_option linter.unusedSimpArgs false
set_option linter.unusedVariables false
namespace Go.Proofs.Ytehnemdifkjhcaa
open Go.RowKit

theorem Sum_int {T a b : Nat} {Gf : Nat → Nat} {P : List Int} {M : Int} {x y wd ht : Nat} {X Y WD HT : Int} {w : World} (ha : a ≤ 64) (hb : b ≤ 64) (hM : 0 ≤ M ∧ M ≤ 65535) (hP : ∀ g ∈ P, 0 ≤ g ∧ g ≤ M) (hT : TC w T (b + 1) (a + 1) Gf) (hV : TV w a b P Gf) (hX : X = x) (hY : Y = y) (hWD : WD = wd) (hHT : HT = ht) (hx : x + wd ≤ a) (hy : y + ht ≤ b) {u : Int} (hu : bsum P a x wd y ht = u) :
    Calls Try.prog 45 #[.slice (some ⟨T, 0, none⟩) (b + 1) (b + 1), .int .i64 X, .int .i64 Y, .int .i64 WD, .int .i64 HT] w (RetN w u 0) := by
  subst hX hY hWD hHT
  exact Sum_in T a b Gf P M x y wd ht w ha hb hM hP hT hV hx hy (by rw [← bsum_eq]; exact hu)
theorem bsum_corner (P : List Int) (a x y : Nat) : bsum P a 0 x 0 y = psum P a y x := by
  rw [bsum_eq, Nat.zero_add, Nat.zero_add, psum_zero]
  show psum P a y x - 0 - 0 + 0 = _
  omega

/-- What the tail of the law leans on. -/
structure SI (w wr : World) (T a b n c : Nat) (M : Int) (A : Option Addr) (P : List Int) (Gf : Nat → Nat) (x y wd ht : Int) : Prop where
  k0 : KB wr w.heap.size #[.int .i64 a, .int .i64 b, .int .i64 M, .slice A n c] 24
  k1 : KB wr (w.heap.size + 1) #[.int .i64 x, .int .i64 y, .int .i64 wd, .int .i64 ht] 45
  tc : TC wr T (b + 1) (a + 1) Gf
  tv : TV wr a b P Gf
  sl : Sl wr A n c P
  below : Below w.heap.size w wr
theorem SI.tlt {w wr : World} {T a b n c : Nat} {M : Int} {A : Option Addr} {P : List Int} {Gf : Nat → Nat} {x y wd ht : Int} (h : SI w wr T a b n c M A P Gf x y wd ht) : T < wr.heap.size := World.block_lt_of_cell? wr _ (h.tc 0 (by omega))
theorem SI.later {w wr w1 : World} {T a b n c : Nat} {M : Int} {A : Option Addr} {P : List Int} {Gf : Nat → Nat} {x y wd ht : Int} (h : SI w wr T a b n c M A P Gf x y wd ht) (hb : Below wr.heap.size wr w1) : SI w w1 T a b n c M A P Gf x y wd ht :=
  ⟨h.k0.below hb h.k0.lt, h.k1.below hb h.k1.lt, h.tc.below hb h.tlt, h.tv.below hb, h.sl.below hb (Nat.le_refl _), h.below.trans (hb.mono h.below.size)⟩

theorem box_out {a b : Nat} {x y wd ht : Int} (h : ¬ ((0 ≤ x ∧ x ≤ a) ∧ (0 ≤ y ∧ y ≤ b) ∧ (0 ≤ wd ∧ wd ≤ a - x) ∧ 0 ≤ ht ∧ ht ≤ b - y)) :
    x < 0 ∨ (0 ≤ x ∧ y < 0) ∨ (0 ≤ x ∧ 0 ≤ y ∧ wd < 0) ∨ (0 ≤ x ∧ 0 ≤ y ∧ 0 ≤ wd ∧ ht < 0) ∨ (0 ≤ x ∧ 0 ≤ y ∧ 0 ≤ wd ∧ 0 ≤ ht ∧ a < x) ∨ (0 ≤ x ∧ 0 ≤ y ∧ 0 ≤ wd ∧ 0 ≤ ht ∧ x ≤ a ∧ b < y) ∨
    (0 ≤ x ∧ 0 ≤ y ∧ 0 ≤ wd ∧ 0 ≤ ht ∧ x ≤ a ∧ y ≤ b ∧ a - x < wd) ∨ (0 ≤ x ∧ 0 ≤ y ∧ 0 ≤ wd ∧ 0 ≤ ht ∧ x ≤ a ∧ y ≤ b ∧ wd ≤ a - x ∧ b - y < ht) := by omega

set_option maxRecDepth 100000 in
set_option maxHeartbeats 12800000 in
theorem sums_many (W H M : Int) (A : Option Addr) (n c : Nat) (P : List Int) (x y wd ht most : Int) (w : World) (h : Sl w A n c P) (hm : 600 < n) :
    Calls Try.prog 10 #[.agg #[.int .i64 W, .int .i64 H, .int .i64 M, .slice A n c], .agg #[.int .i64 x, .int .i64 y, .int .i64 wd, .int .i64 ht], .int .i64 most] w fun e w' => e = .returned (.bool true) ∧ Below w.heap.size w w' := by
  have hcap := h.le_cap
  have hcl := h.cap_le
  have hB0 := ((Below.refl w.heap.size w).alloc (by first | exact Nat.le_refl _ | (simp <;> omega)) (.cells #[.int .i64 W, .int .i64 H, .int .i64 M, .slice A n c] 24)).alloc (by first | exact Nat.le_refl _ | (simp <;> omega)) (.cells #[.int .i64 x, .int .i64 y, .int .i64 wd, .int .i64 ht] 45)
  have k0 : KB _ _ _ _ := ((KB.new w #[.int .i64 W, .int .i64 H, .int .i64 M, .slice A n c] 24).alloc (.cells #[.int .i64 x, .int .i64 y, .int .i64 wd, .int .i64 ht] 45))
  have k1 : KB _ _ _ _ := (KB.new (w.alloc (.cells #[.int .i64 W, .int .i64 H, .int .i64 M, .slice A n c] 24)) #[.int .i64 x, .int .i64 y, .int .i64 wd, .int .i64 ht] 45)
  simp only [World.size_alloc] at k1
  clear h
  go_enter Try.func10, Try.ntmps10
  go_wp2_with (first
    | (go_at_call 11; refine (known_any _).mono ?_; rintro e w1 ⟨rfl, hb1⟩; (try simp only [World.size_alloc] at hb1); have z1 := hb1.size; (try simp only [World.size_alloc] at z1); replace k0 := k0.below hb1 (by omega); replace k1 := k1.below hb1 (by omega); have hB1 := Below.trans hB0 (hb1.mono (by omega)); have k0_0 := k0.cell 0 rfl; have k0_1 := k0.cell 1 rfl; have k0_2 := k0.cell 2 rfl; have k0_3 := k0.cell 3 rfl; have k1_0 := k1.cell 0 rfl; have k1_1 := k1.cell 1 rfl; have k1_2 := k1.cell 2 rfl; have k1_3 := k1.cell 3 rfl)
    | (go_at_call 12; refine (few_one_no (KB.new w1 _ _) (by omega) hm).mono ?_; rintro e w2 ⟨rfl, hb2⟩; (try simp only [World.size_alloc] at hb2); have z2 := hb2.size; (try simp only [World.size_alloc] at z2); replace k0 := (k0.alloc _).below hb2 (by omega); replace k1 := (k1.alloc _).below hb2 (by omega); have hB2 := Below.trans (hB1.alloc (by first | exact hB1.size | (have := hB1.size; simp; omega)) _) (hb2.mono (by omega)); clear k0_0 k0_1 k0_2 k0_3 k1_0 k1_1 k1_2 k1_3; have k0_0 := k0.cell 0 rfl; have k0_1 := k0.cell 1 rfl; have k0_2 := k0.cell 2 rfl; have k0_3 := k0.cell 3 rfl; have k1_0 := k1.cell 0 rfl; have k1_1 := k1.cell 1 rfl; have k1_2 := k1.cell 2 rfl; have k1_3 := k1.cell 3 rfl))
  go_ret
  exact ⟨rfl, hB2⟩

set_option maxRecDepth 100000 in
set_option maxHeartbeats 12800000 in
theorem sums_bad (W H M : Int) (A : Option Addr) (n c : Nat) (P : List Int) (x y wd ht most : Int) (w : World) (h : Sl w A n c P) (hm : n ≤ 600) (hr : ¬ Ras W H M P) :
    Calls Try.prog 10 #[.agg #[.int .i64 W, .int .i64 H, .int .i64 M, .slice A n c], .agg #[.int .i64 x, .int .i64 y, .int .i64 wd, .int .i64 ht], .int .i64 most] w fun e w' => e = .returned (.bool true) ∧ Below w.heap.size w w' := by
  have hcap := h.le_cap
  have hcl := h.cap_le
  have hB0 := ((Below.refl w.heap.size w).alloc (by first | exact Nat.le_refl _ | (simp <;> omega)) (.cells #[.int .i64 W, .int .i64 H, .int .i64 M, .slice A n c] 24)).alloc (by first | exact Nat.le_refl _ | (simp <;> omega)) (.cells #[.int .i64 x, .int .i64 y, .int .i64 wd, .int .i64 ht] 45)
  have k0 : KB _ _ _ _ := ((KB.new w #[.int .i64 W, .int .i64 H, .int .i64 M, .slice A n c] 24).alloc (.cells #[.int .i64 x, .int .i64 y, .int .i64 wd, .int .i64 ht] 45))
  have k1 : KB _ _ _ _ := (KB.new (w.alloc (.cells #[.int .i64 W, .int .i64 H, .int .i64 M, .slice A n c] 24)) #[.int .i64 x, .int .i64 y, .int .i64 wd, .int .i64 ht] 45)
  simp only [World.size_alloc] at k1
  have hs := Lib.hid (fun w' (hb : Below w.heap.size w w') => h.below hb (Nat.le_refl _))
  replace hr := Lib.hid hr
  go_enter Try.func10, Try.ntmps10
  go_wp2_with (first
    | (go_at_call 11; refine (known_any _).mono ?_; rintro e w1 ⟨rfl, hb1⟩; (try simp only [World.size_alloc] at hb1); have z1 := hb1.size; (try simp only [World.size_alloc] at z1); replace k0 := k0.below hb1 (by omega); replace k1 := k1.below hb1 (by omega); have hB1 := Below.trans hB0 (hb1.mono (by omega)); have k0_0 := k0.cell 0 rfl; have k0_1 := k0.cell 1 rfl; have k0_2 := k0.cell 2 rfl; have k0_3 := k0.cell 3 rfl; have k1_0 := k1.cell 0 rfl; have k1_1 := k1.cell 1 rfl; have k1_2 := k1.cell 2 rfl; have k1_3 := k1.cell 3 rfl)
    | (go_at_call 12; refine (few_one_yes (KB.new w1 _ _) hm).mono ?_; rintro e w2 ⟨rfl, hb2⟩; (try simp only [World.size_alloc] at hb2); have z2 := hb2.size; (try simp only [World.size_alloc] at z2); replace k0 := (k0.alloc _).below hb2 (by omega); replace k1 := (k1.alloc _).below hb2 (by omega); have hB2 := Below.trans (hB1.alloc (by first | exact hB1.size | (have := hB1.size; simp; omega)) _) (hb2.mono (by omega)); clear k0_0 k0_1 k0_2 k0_3 k1_0 k1_1 k1_2 k1_3; have k0_0 := k0.cell 0 rfl; have k0_1 := k0.cell 1 rfl; have k0_2 := k0.cell 2 rfl; have k0_3 := k0.cell 3 rfl; have k1_0 := k1.cell 0 rfl; have k1_1 := k1.cell 1 rfl; have k1_2 := k1.cell 2 rfl; have k1_3 := k1.cell 3 rfl)
    | (go_at_call 41; refine (Integral_no W H M A n c P _ (hs.out _ hB2) hr.out).mono ?_; rintro e w3 ⟨rfl, hb3⟩; (try simp only [World.size_alloc] at hb3); have z3 := hb3.size; (try simp only [World.size_alloc] at z3); replace k0 := k0.below hb3 (by omega); replace k1 := k1.below hb3 (by omega); have hB3 := Below.trans hB2 (hb3.mono (by omega)); clear k0_0 k0_1 k0_2 k0_3 k1_0 k1_1 k1_2 k1_3; have k0_0 := k0.cell 0 rfl; have k0_1 := k0.cell 1 rfl; have k0_2 := k0.cell 2 rfl; have k0_3 := k0.cell 3 rfl; have k1_0 := k1.cell 0 rfl; have k1_1 := k1.cell 1 rfl; have k1_2 := k1.cell 2 rfl; have k1_3 := k1.cell 3 rfl)
    | (go_at_call 42; refine (Rescale_bad W H M A n c P most _ (hs.out _ hB3) hr.out).mono ?_; rintro e w4 ⟨rfl, hb4⟩; (try simp only [World.size_alloc] at hb4); have z4 := hb4.size; (try simp only [World.size_alloc] at z4); replace k0 := k0.below hb4 (by omega); replace k1 := k1.below hb4 (by omega); have hB4 := Below.trans hB3 (hb4.mono (by omega)); replace k0 := k0.alloc (.cells #[.int .i64 0, .int .i64 0, .int .i64 0, .slice none 0 0] 24); replace k1 := k1.alloc (.cells #[.int .i64 0, .int .i64 0, .int .i64 0, .slice none 0 0] 24); have k9 : KB _ _ _ _ := KB.new w4 #[.int .i64 0, .int .i64 0, .int .i64 0, .slice none 0 0] 24; replace hB4 := hB4.alloc hB4.size (.cells #[.int .i64 0, .int .i64 0, .int .i64 0, .slice none 0 0] 24); clear k0_0 k0_1 k0_2 k0_3 k1_0 k1_1 k1_2 k1_3; have k0_0 := k0.cell 0 rfl; have k0_1 := k0.cell 1 rfl; have k0_2 := k0.cell 2 rfl; have k0_3 := k0.cell 3 rfl; have k1_0 := k1.cell 0 rfl; have k1_1 := k1.cell 1 rfl; have k1_2 := k1.cell 2 rfl; have k1_3 := k1.cell 3 rfl; have k9_0 := k9.cell 0 rfl; have k9_1 := k9.cell 1 rfl; have k9_2 := k9.cell 2 rfl; have k9_3 := k9.cell 3 rfl)
    | (go_at_call 14; refine (rCheck_no (hs.out _ hB4) hr.out).mono ?_; rintro e w5 ⟨rfl, hb5⟩; (try simp only [World.size_alloc] at hb5); have z5 := hb5.size; (try simp only [World.size_alloc] at z5); replace k0 := k0.below hb5 (by omega); replace k1 := k1.below hb5 (by omega); replace k9 := k9.below hb5 (by omega); have hB5 := Below.trans hB4 (hb5.mono (by omega)); clear k0_0 k0_1 k0_2 k0_3 k1_0 k1_1 k1_2 k1_3 k9_0 k9_1 k9_2 k9_3; have k0_0 := k0.cell 0 rfl; have k0_1 := k0.cell 1 rfl; have k0_2 := k0.cell 2 rfl; have k0_3 := k0.cell 3 rfl; have k1_0 := k1.cell 0 rfl; have k1_1 := k1.cell 1 rfl; have k1_2 := k1.cell 2 rfl; have k1_3 := k1.cell 3 rfl; have k9_0 := k9.cell 0 rfl; have k9_1 := k9.cell 1 rfl; have k9_2 := k9.cell 2 rfl; have k9_3 := k9.cell 3 rfl)
    | (go_at_call 19; refine (empty_yes _).mono ?_; rintro e w6 ⟨rfl, hb6⟩; (try simp only [World.size_alloc] at hb6); have z6 := hb6.size; (try simp only [World.size_alloc] at z6); replace k0 := k0.below hb6 (by omega); replace k1 := k1.below hb6 (by omega); replace k9 := k9.below hb6 (by omega); have hB6 := Below.trans hB5 (hb6.mono (by omega)); clear k0_0 k0_1 k0_2 k0_3 k1_0 k1_1 k1_2 k1_3 k9_0 k9_1 k9_2 k9_3; have k0_0 := k0.cell 0 rfl; have k0_1 := k0.cell 1 rfl; have k0_2 := k0.cell 2 rfl; have k0_3 := k0.cell 3 rfl; have k1_0 := k1.cell 0 rfl; have k1_1 := k1.cell 1 rfl; have k1_2 := k1.cell 2 rfl; have k1_3 := k1.cell 3 rfl; have k9_0 := k9.cell 0 rfl; have k9_1 := k9.cell 1 rfl; have k9_2 := k9.cell 2 rfl; have k9_3 := k9.cell 3 rfl))
  go_ret
  exact ⟨rfl, hB6⟩

end Go.Proofs.Ytehnemdifkjhcaa
