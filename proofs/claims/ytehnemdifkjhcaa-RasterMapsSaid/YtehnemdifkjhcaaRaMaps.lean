/-
  Walk: the law of the maps of rasters.
-/
import Derived.Test.YtehnemdifkjhcaaRaN
set_option linter.unusedSimpArgs false
set_option linter.unusedVariables false
namespace Go.Proofs.Ytehnemdifkjhcaa
open Go.RowKit

theorem law_pred (M : Int) (B : Nat) (w : World) (hB : B < w.heap.size) (hc : w.cell? ⟨B, 2, none⟩ = some (.int .i64 M)) :
    PredI 39 #[.pointer (some ⟨B, 0, none⟩)] (fun x => !win x 0 M) w := fun W x hb => by
  have hc' : W.cell? ⟨B, 2, none⟩ = some (.int .i64 M) := (hb.cell (p := ⟨B, 2, none⟩) hB).trans hc
  show Calls Try.prog 39 #[.int .i64 x, .pointer (some ⟨B, 0, none⟩)] W _
  by_cases h0 : x < 0
  · have hf : Hid ((!win x 0 M) = true) := Lib.hid (by rw [win_no.2 (by omega)]; rfl)
    go_enter Try.func39, Try.ntmps39
    go_wp2
    go_ret
    exact ⟨ret_bool hf.out.symm, Below.refl _ _⟩
  · have h0' : 0 ≤ x := by omega
    by_cases h1 : M < x
    · have hf : Hid ((!win x 0 M) = true) := Lib.hid (by rw [win_no.2 (by omega)]; rfl)
      have hd : decide (M < x) = true := by simp; omega
      go_enter Try.func39, Try.ntmps39
      go_wp2
      go_ret
      exact ⟨ret_bool hf.out.symm, Below.refl _ _⟩
    · have hf : Hid ((!win x 0 M) = false) := Lib.hid (by rw [win_iff.2 (by omega)]; rfl)
      have hd : decide (M < x) = false := by simp; omega
      have h1' : x ≤ M := by omega
      go_enter Try.func39, Try.ntmps39
      go_wp2
      go_ret
      exact ⟨ret_bool hf.out.symm, Below.refl _ _⟩
theorem enters_law : ∀ args w, (callFunc 39 args).run Try.prog w = .ok (.enter 39 args) w := enters_of Try.func39 (by kernel_rfl) rfl

set_option maxRecDepth 100000 in
set_option maxHeartbeats 6400000 in
theorem maps_many (W H M : Int) (A : Option Addr) (n c : Nat) (P : List Int) (A2 : Option Addr) (n2 c2 : Nat) (T : List Int) (w : World) (h : Sl w A n c P) (h2 : Sl w A2 n2 c2 T) (hm : 600 < n) :
    Calls Try.prog 9 #[.agg #[.int .i64 W, .int .i64 H, .int .i64 M, .slice A n c], .slice A2 n2 c2] w fun e w' => e = .returned (.bool true) ∧ Below w.heap.size w w' := by
  have hcap := h.le_cap
  have hcl := h.cap_le
  have hcap2 := h2.le_cap
  have hcl2 := h2.cap_le
  have hB0 := (Below.refl w.heap.size w).alloc (by first | exact Nat.le_refl _ | (simp <;> omega)) (.cells #[.int .i64 W, .int .i64 H, .int .i64 M, .slice A n c] 24)
  have k0 : KB _ _ _ _ := (KB.new w #[.int .i64 W, .int .i64 H, .int .i64 M, .slice A n c] 24)
  clear h h2
  go_enter Try.func9, Try.ntmps9
  go_wp2_with (first
    | (go_at_call 11; refine (known_any _).mono ?_; rintro e w1 ⟨rfl, hb1⟩; (try simp only [World.size_alloc] at hb1); have z1 := hb1.size; (try simp only [World.size_alloc] at z1); replace k0 := k0.below hb1 (by omega); have hB1 := Below.trans hB0 (hb1.mono (by omega)); have k0_0 := k0.cell 0 rfl; have k0_1 := k0.cell 1 rfl; have k0_2 := k0.cell 2 rfl; have k0_3 := k0.cell 3 rfl)
    | (go_at_call 12; refine (few_one_no (KB.new w1 _ _) (by omega) hm).mono ?_; rintro e w2 ⟨rfl, hb2⟩; (try simp only [World.size_alloc] at hb2); have z2 := hb2.size; (try simp only [World.size_alloc] at z2); replace k0 := (k0.alloc _).below hb2 (by omega); have hB2 := Below.trans (hB1.alloc (by first | exact hB1.size | (have := hB1.size; simp; omega)) _) (hb2.mono (by omega)); clear k0_0 k0_1 k0_2 k0_3; have k0_0 := k0.cell 0 rfl; have k0_1 := k0.cell 1 rfl; have k0_2 := k0.cell 2 rfl; have k0_3 := k0.cell 3 rfl))
  go_ret
  exact ⟨rfl, hB2⟩

set_option maxRecDepth 100000 in
set_option maxHeartbeats 6400000 in
theorem maps_wide (W H M : Int) (A : Option Addr) (n c : Nat) (P : List Int) (A2 : Option Addr) (n2 c2 : Nat) (T : List Int) (w : World) (h : Sl w A n c P) (h2 : Sl w A2 n2 c2 T) (hm : n ≤ 600) (hm2 : 600 < n2) :
    Calls Try.prog 9 #[.agg #[.int .i64 W, .int .i64 H, .int .i64 M, .slice A n c], .slice A2 n2 c2] w fun e w' => e = .returned (.bool true) ∧ Below w.heap.size w w' := by
  have hcap := h.le_cap
  have hcl := h.cap_le
  have hcap2 := h2.le_cap
  have hcl2 := h2.cap_le
  have hB0 := (Below.refl w.heap.size w).alloc (by first | exact Nat.le_refl _ | (simp <;> omega)) (.cells #[.int .i64 W, .int .i64 H, .int .i64 M, .slice A n c] 24)
  have k0 : KB _ _ _ _ := (KB.new w #[.int .i64 W, .int .i64 H, .int .i64 M, .slice A n c] 24)
  clear h h2
  have hwide : (600 : Int) < (n2 : Int) := by omega
  go_enter Try.func9, Try.ntmps9
  go_wp2_with (first
    | (go_at_call 11; refine (known_any _).mono ?_; rintro e w1 ⟨rfl, hb1⟩; (try simp only [World.size_alloc] at hb1); have z1 := hb1.size; (try simp only [World.size_alloc] at z1); replace k0 := k0.below hb1 (by omega); have hB1 := Below.trans hB0 (hb1.mono (by omega)); have k0_0 := k0.cell 0 rfl; have k0_1 := k0.cell 1 rfl; have k0_2 := k0.cell 2 rfl; have k0_3 := k0.cell 3 rfl)
    | (go_at_call 12; refine (few_one_yes (KB.new w1 _ _) hm).mono ?_; rintro e w2 ⟨rfl, hb2⟩; (try simp only [World.size_alloc] at hb2); have z2 := hb2.size; (try simp only [World.size_alloc] at z2); replace k0 := (k0.alloc _).below hb2 (by omega); have hB2 := Below.trans (hB1.alloc (by first | exact hB1.size | (have := hB1.size; simp; omega)) _) (hb2.mono (by omega)); clear k0_0 k0_1 k0_2 k0_3; have k0_0 := k0.cell 0 rfl; have k0_1 := k0.cell 1 rfl; have k0_2 := k0.cell 2 rfl; have k0_3 := k0.cell 3 rfl))
  go_ret
  exact ⟨rfl, hB2⟩

set_option maxRecDepth 100000 in
set_option maxHeartbeats 6400000 in
theorem maps_bad (W H M : Int) (A : Option Addr) (n c : Nat) (P : List Int) (A2 : Option Addr) (n2 c2 : Nat) (T : List Int) (w : World) (h : Sl w A n c P) (h2 : Sl w A2 n2 c2 T) (hm : n ≤ 600) (hm2 : n2 ≤ 600) (hr : ¬ Ras W H M P) :
    Calls Try.prog 9 #[.agg #[.int .i64 W, .int .i64 H, .int .i64 M, .slice A n c], .slice A2 n2 c2] w fun e w' => e = .returned (.bool true) ∧ Below w.heap.size w w' := by
  have hcap := h.le_cap
  have hcl := h.cap_le
  have hcap2 := h2.le_cap
  have hcl2 := h2.cap_le
  have hB0 := (Below.refl w.heap.size w).alloc (by first | exact Nat.le_refl _ | (simp <;> omega)) (.cells #[.int .i64 W, .int .i64 H, .int .i64 M, .slice A n c] 24)
  have k0 : KB _ _ _ _ := (KB.new w #[.int .i64 W, .int .i64 H, .int .i64 M, .slice A n c] 24)
  have hs := Lib.hid (fun w' (hb : Below w.heap.size w w') => h.below hb (Nat.le_refl _))
  have hs2 := Lib.hid (fun w' (hb : Below w.heap.size w w') => h2.below hb (Nat.le_refl _))
  have hnw : (n2 : Int) ≤ 600 := by omega
  replace hr := Lib.hid hr
  go_enter Try.func9, Try.ntmps9
  go_wp2_with (first
    | (go_at_call 11; refine (known_any _).mono ?_; rintro e w1 ⟨rfl, hb1⟩; (try simp only [World.size_alloc] at hb1); have z1 := hb1.size; (try simp only [World.size_alloc] at z1); replace k0 := k0.below hb1 (by omega); have hB1 := Below.trans hB0 (hb1.mono (by omega)); have k0_0 := k0.cell 0 rfl; have k0_1 := k0.cell 1 rfl; have k0_2 := k0.cell 2 rfl; have k0_3 := k0.cell 3 rfl)
    | (go_at_call 12; refine (few_one_yes (KB.new w1 _ _) hm).mono ?_; rintro e w2 ⟨rfl, hb2⟩; (try simp only [World.size_alloc] at hb2); have z2 := hb2.size; (try simp only [World.size_alloc] at z2); replace k0 := (k0.alloc _).below hb2 (by omega); have hB2 := Below.trans (hB1.alloc (by first | exact hB1.size | (have := hB1.size; simp; omega)) _) (hb2.mono (by omega)); clear k0_0 k0_1 k0_2 k0_3; have k0_0 := k0.cell 0 rfl; have k0_1 := k0.cell 1 rfl; have k0_2 := k0.cell 2 rfl; have k0_3 := k0.cell 3 rfl)
    | (go_at_call 37; refine (Map_bad W H M A n c P A2 n2 c2 _ (hs.out _ hB2) hr.out).mono ?_; rintro e w3 ⟨rfl, hb3⟩; (try simp only [World.size_alloc] at hb3); have z3 := hb3.size; (try simp only [World.size_alloc] at z3); replace k0 := k0.below hb3 (by omega); have hB3 := Below.trans hB2 (hb3.mono (by omega)); replace k0 := k0.alloc (.cells #[.int .i64 0, .int .i64 0, .int .i64 0, .slice none 0 0] 24); have k9 : KB _ _ _ _ := KB.new w3 #[.int .i64 0, .int .i64 0, .int .i64 0, .slice none 0 0] 24; replace hB3 := hB3.alloc hB3.size (.cells #[.int .i64 0, .int .i64 0, .int .i64 0, .slice none 0 0] 24); clear k0_0 k0_1 k0_2 k0_3; have k0_0 := k0.cell 0 rfl; have k0_1 := k0.cell 1 rfl; have k0_2 := k0.cell 2 rfl; have k0_3 := k0.cell 3 rfl; have k9_0 := k9.cell 0 rfl; have k9_1 := k9.cell 1 rfl; have k9_2 := k9.cell 2 rfl; have k9_3 := k9.cell 3 rfl)
    | (go_at_call 14; refine (rCheck_no (hs.out _ hB3) hr.out).mono ?_; rintro e w4 ⟨rfl, hb4⟩; (try simp only [World.size_alloc] at hb4); have z4 := hb4.size; (try simp only [World.size_alloc] at z4); replace k0 := k0.below hb4 (by omega); replace k9 := k9.below hb4 (by omega); have hB4 := Below.trans hB3 (hb4.mono (by omega)); clear k0_0 k0_1 k0_2 k0_3 k9_0 k9_1 k9_2 k9_3; have k0_0 := k0.cell 0 rfl; have k0_1 := k0.cell 1 rfl; have k0_2 := k0.cell 2 rfl; have k0_3 := k0.cell 3 rfl; have k9_0 := k9.cell 0 rfl; have k9_1 := k9.cell 1 rfl; have k9_2 := k9.cell 2 rfl; have k9_3 := k9.cell 3 rfl)
    | (go_at_call 19; refine (empty_yes _).mono ?_; rintro e w5 ⟨rfl, hb5⟩; (try simp only [World.size_alloc] at hb5); have z5 := hb5.size; (try simp only [World.size_alloc] at z5); replace k0 := k0.below hb5 (by omega); replace k9 := k9.below hb5 (by omega); have hB5 := Below.trans hB4 (hb5.mono (by omega)); clear k0_0 k0_1 k0_2 k0_3 k9_0 k9_1 k9_2 k9_3; have k0_0 := k0.cell 0 rfl; have k0_1 := k0.cell 1 rfl; have k0_2 := k0.cell 2 rfl; have k0_3 := k0.cell 3 rfl; have k9_0 := k9.cell 0 rfl; have k9_1 := k9.cell 1 rfl; have k9_2 := k9.cell 2 rfl; have k9_3 := k9.cell 3 rfl))
  go_ret
  exact ⟨rfl, hB5⟩

set_option maxRecDepth 100000 in
set_option maxHeartbeats 6400000 in
theorem maps_len (W H M : Int) (A : Option Addr) (n c : Nat) (P : List Int) (A2 : Option Addr) (n2 c2 : Nat) (T : List Int) (w : World) (h : Sl w A n c P) (h2 : Sl w A2 n2 c2 T) (hm : n ≤ 600) (hm2 : n2 ≤ 600) (hr : Ras W H M P) (hn : (n2 : Int) ≠ M + 1) :
    Calls Try.prog 9 #[.agg #[.int .i64 W, .int .i64 H, .int .i64 M, .slice A n c], .slice A2 n2 c2] w fun e w' => e = .returned (.bool true) ∧ Below w.heap.size w w' := by
  have hcap := h.le_cap
  have hcl := h.cap_le
  have hcap2 := h2.le_cap
  have hcl2 := h2.cap_le
  have hB0 := (Below.refl w.heap.size w).alloc (by first | exact Nat.le_refl _ | (simp <;> omega)) (.cells #[.int .i64 W, .int .i64 H, .int .i64 M, .slice A n c] 24)
  have k0 : KB _ _ _ _ := (KB.new w #[.int .i64 W, .int .i64 H, .int .i64 M, .slice A n c] 24)
  have hs := Lib.hid (fun w' (hb : Below w.heap.size w w') => h.below hb (Nat.le_refl _))
  have hs2 := Lib.hid (fun w' (hb : Below w.heap.size w w') => h2.below hb (Nat.le_refl _))
  have hnw : (n2 : Int) ≤ 600 := by omega
  obtain ⟨-, -, hM1, hM2⟩ := hr.1
  have hne : ((n2 : Int) != M + 1) = true := by rw [bne_iff_ne]; exact hn
  replace hr := Lib.hid hr
  replace hn := Lib.hid hn
  go_enter Try.func9, Try.ntmps9
  go_wp2_with (first
    | (go_at_call 11; refine (known_any _).mono ?_; rintro e w1 ⟨rfl, hb1⟩; (try simp only [World.size_alloc] at hb1); have z1 := hb1.size; (try simp only [World.size_alloc] at z1); replace k0 := k0.below hb1 (by omega); have hB1 := Below.trans hB0 (hb1.mono (by omega)); have k0_0 := k0.cell 0 rfl; have k0_1 := k0.cell 1 rfl; have k0_2 := k0.cell 2 rfl; have k0_3 := k0.cell 3 rfl)
    | (go_at_call 12; refine (few_one_yes (KB.new w1 _ _) hm).mono ?_; rintro e w2 ⟨rfl, hb2⟩; (try simp only [World.size_alloc] at hb2); have z2 := hb2.size; (try simp only [World.size_alloc] at z2); replace k0 := (k0.alloc _).below hb2 (by omega); have hB2 := Below.trans (hB1.alloc (by first | exact hB1.size | (have := hB1.size; simp; omega)) _) (hb2.mono (by omega)); clear k0_0 k0_1 k0_2 k0_3; have k0_0 := k0.cell 0 rfl; have k0_1 := k0.cell 1 rfl; have k0_2 := k0.cell 2 rfl; have k0_3 := k0.cell 3 rfl)
    | (go_at_call 37; refine (Map_len W H M A n c P A2 n2 c2 _ (hs.out _ hB2) hr.out hn.out).mono ?_; rintro e w3 ⟨rfl, hb3⟩; (try simp only [World.size_alloc] at hb3); have z3 := hb3.size; (try simp only [World.size_alloc] at z3); replace k0 := k0.below hb3 (by omega); have hB3 := Below.trans hB2 (hb3.mono (by omega)); replace k0 := k0.alloc (.cells #[.int .i64 0, .int .i64 0, .int .i64 0, .slice none 0 0] 24); have k9 : KB _ _ _ _ := KB.new w3 #[.int .i64 0, .int .i64 0, .int .i64 0, .slice none 0 0] 24; replace hB3 := hB3.alloc hB3.size (.cells #[.int .i64 0, .int .i64 0, .int .i64 0, .slice none 0 0] 24); clear k0_0 k0_1 k0_2 k0_3; have k0_0 := k0.cell 0 rfl; have k0_1 := k0.cell 1 rfl; have k0_2 := k0.cell 2 rfl; have k0_3 := k0.cell 3 rfl; have k9_0 := k9.cell 0 rfl; have k9_1 := k9.cell 1 rfl; have k9_2 := k9.cell 2 rfl; have k9_3 := k9.cell 3 rfl)
    | (go_at_call 14; refine (rCheck_ok (hs.out _ hB3) hr.out).mono ?_; rintro e w4 ⟨rfl, hb4⟩; (try simp only [World.size_alloc] at hb4); have z4 := hb4.size; (try simp only [World.size_alloc] at z4); replace k0 := k0.below hb4 (by omega); replace k9 := k9.below hb4 (by omega); have hB4 := Below.trans hB3 (hb4.mono (by omega)); clear k0_0 k0_1 k0_2 k0_3 k9_0 k9_1 k9_2 k9_3; have k0_0 := k0.cell 0 rfl; have k0_1 := k0.cell 1 rfl; have k0_2 := k0.cell 2 rfl; have k0_3 := k0.cell 3 rfl; have k9_0 := k9.cell 0 rfl; have k9_1 := k9.cell 1 rfl; have k9_2 := k9.cell 2 rfl; have k9_3 := k9.cell 3 rfl)
    | (go_at_call 19; refine (empty_yes _).mono ?_; rintro e w5 ⟨rfl, hb5⟩; (try simp only [World.size_alloc] at hb5); have z5 := hb5.size; (try simp only [World.size_alloc] at z5); replace k0 := k0.below hb5 (by omega); replace k9 := k9.below hb5 (by omega); have hB5 := Below.trans hB4 (hb5.mono (by omega)); clear k0_0 k0_1 k0_2 k0_3 k9_0 k9_1 k9_2 k9_3; have k0_0 := k0.cell 0 rfl; have k0_1 := k0.cell 1 rfl; have k0_2 := k0.cell 2 rfl; have k0_3 := k0.cell 3 rfl; have k9_0 := k9.cell 0 rfl; have k9_1 := k9.cell 1 rfl; have k9_2 := k9.cell 2 rfl; have k9_3 := k9.cell 3 rfl))
  go_ret
  exact ⟨rfl, hB5⟩

set_option maxRecDepth 100000 in
set_option maxHeartbeats 6400000 in
theorem maps_out (W H M : Int) (A : Option Addr) (n c : Nat) (P : List Int) (A2 : Option Addr) (n2 c2 : Nat) (T : List Int) (w : World) (h : Sl w A n c P) (h2 : Sl w A2 n2 c2 T) (hm : n ≤ 600) (hm2 : n2 ≤ 600) (hr : Ras W H M P) (hn : (n2 : Int) = M + 1) (ht : (T.any fun x => !win x 0 M) = true) :
    Calls Try.prog 9 #[.agg #[.int .i64 W, .int .i64 H, .int .i64 M, .slice A n c], .slice A2 n2 c2] w fun e w' => e = .returned (.bool true) ∧ Below w.heap.size w w' := by
  have hcap := h.le_cap
  have hcl := h.cap_le
  have hcap2 := h2.le_cap
  have hcl2 := h2.cap_le
  have hB0 := (Below.refl w.heap.size w).alloc (by first | exact Nat.le_refl _ | (simp <;> omega)) (.cells #[.int .i64 W, .int .i64 H, .int .i64 M, .slice A n c] 24)
  have k0 : KB _ _ _ _ := (KB.new w #[.int .i64 W, .int .i64 H, .int .i64 M, .slice A n c] 24)
  have hs := Lib.hid (fun w' (hb : Below w.heap.size w w') => h.below hb (Nat.le_refl _))
  have hs2 := Lib.hid (fun w' (hb : Below w.heap.size w w') => h2.below hb (Nat.le_refl _))
  have hnw : (n2 : Int) ≤ 600 := by omega
  obtain ⟨-, -, hM1, hM2⟩ := hr.1
  have hne : ((n2 : Int) != M + 1) = false := by rw [hn]; simp
  replace hr := Lib.hid hr
  replace hn := Lib.hid hn
  replace ht := Lib.hid ht
  go_enter Try.func9, Try.ntmps9
  go_wp2_with (first
    | (go_at_call 11; refine (known_any _).mono ?_; rintro e w1 ⟨rfl, hb1⟩; (try simp only [World.size_alloc] at hb1); have z1 := hb1.size; (try simp only [World.size_alloc] at z1); replace k0 := k0.below hb1 (by omega); have hB1 := Below.trans hB0 (hb1.mono (by omega)); have k0_0 := k0.cell 0 rfl; have k0_1 := k0.cell 1 rfl; have k0_2 := k0.cell 2 rfl; have k0_3 := k0.cell 3 rfl)
    | (go_at_call 12; refine (few_one_yes (KB.new w1 _ _) hm).mono ?_; rintro e w2 ⟨rfl, hb2⟩; (try simp only [World.size_alloc] at hb2); have z2 := hb2.size; (try simp only [World.size_alloc] at z2); replace k0 := (k0.alloc _).below hb2 (by omega); have hB2 := Below.trans (hB1.alloc (by first | exact hB1.size | (have := hB1.size; simp; omega)) _) (hb2.mono (by omega)); clear k0_0 k0_1 k0_2 k0_3; have k0_0 := k0.cell 0 rfl; have k0_1 := k0.cell 1 rfl; have k0_2 := k0.cell 2 rfl; have k0_3 := k0.cell 3 rfl)
    | (go_at_call 37; refine (Map_out W H M A n c P A2 n2 c2 T _ (hs.out _ hB2) (hs2.out _ hB2) hr.out hn.out ht.out).mono ?_; rintro e w3 ⟨rfl, hb3⟩; (try simp only [World.size_alloc] at hb3); have z3 := hb3.size; (try simp only [World.size_alloc] at z3); replace k0 := k0.below hb3 (by omega); have hB3 := Below.trans hB2 (hb3.mono (by omega)); replace k0 := k0.alloc (.cells #[.int .i64 0, .int .i64 0, .int .i64 0, .slice none 0 0] 24); have k9 : KB _ _ _ _ := KB.new w3 #[.int .i64 0, .int .i64 0, .int .i64 0, .slice none 0 0] 24; replace hB3 := hB3.alloc hB3.size (.cells #[.int .i64 0, .int .i64 0, .int .i64 0, .slice none 0 0] 24); clear k0_0 k0_1 k0_2 k0_3; have k0_0 := k0.cell 0 rfl; have k0_1 := k0.cell 1 rfl; have k0_2 := k0.cell 2 rfl; have k0_3 := k0.cell 3 rfl; have k9_0 := k9.cell 0 rfl; have k9_1 := k9.cell 1 rfl; have k9_2 := k9.cell 2 rfl; have k9_3 := k9.cell 3 rfl)
    | (go_at_call 14; refine (rCheck_ok (hs.out _ hB3) hr.out).mono ?_; rintro e w4 ⟨rfl, hb4⟩; (try simp only [World.size_alloc] at hb4); have z4 := hb4.size; (try simp only [World.size_alloc] at z4); replace k0 := k0.below hb4 (by omega); replace k9 := k9.below hb4 (by omega); have hB4 := Below.trans hB3 (hb4.mono (by omega)); clear k0_0 k0_1 k0_2 k0_3 k9_0 k9_1 k9_2 k9_3; have k0_0 := k0.cell 0 rfl; have k0_1 := k0.cell 1 rfl; have k0_2 := k0.cell 2 rfl; have k0_3 := k0.cell 3 rfl; have k9_0 := k9.cell 0 rfl; have k9_1 := k9.cell 1 rfl; have k9_2 := k9.cell 2 rfl; have k9_3 := k9.cell 3 rfl)
    | (go_at_call 38; refine (ContainsFunc_ints _ _ _ enters_law A2 n2 c2 T _ (hs2.out _ hB4) (law_pred M w.heap.size _ k0.lt k0_2) ht.out).mono ?_; rintro e w5 ⟨rfl, hb5⟩; (try simp only [World.size_alloc] at hb5); have z5 := hb5.size; (try simp only [World.size_alloc] at z5); replace k0 := k0.below hb5 (by omega); replace k9 := k9.below hb5 (by omega); have hB5 := Below.trans hB4 (hb5.mono (by omega)); clear k0_0 k0_1 k0_2 k0_3 k9_0 k9_1 k9_2 k9_3; have k0_0 := k0.cell 0 rfl; have k0_1 := k0.cell 1 rfl; have k0_2 := k0.cell 2 rfl; have k0_3 := k0.cell 3 rfl; have k9_0 := k9.cell 0 rfl; have k9_1 := k9.cell 1 rfl; have k9_2 := k9.cell 2 rfl; have k9_3 := k9.cell 3 rfl)
    | (go_at_call 19; refine (empty_yes _).mono ?_; rintro e w6 ⟨rfl, hb6⟩; (try simp only [World.size_alloc] at hb6); have z6 := hb6.size; (try simp only [World.size_alloc] at z6); replace k0 := k0.below hb6 (by omega); replace k9 := k9.below hb6 (by omega); have hB6 := Below.trans hB5 (hb6.mono (by omega)); clear k0_0 k0_1 k0_2 k0_3 k9_0 k9_1 k9_2 k9_3; have k0_0 := k0.cell 0 rfl; have k0_1 := k0.cell 1 rfl; have k0_2 := k0.cell 2 rfl; have k0_3 := k0.cell 3 rfl; have k9_0 := k9.cell 0 rfl; have k9_1 := k9.cell 1 rfl; have k9_2 := k9.cell 2 rfl; have k9_3 := k9.cell 3 rfl))
  go_ret
  exact ⟨rfl, hB6⟩

set_option maxRecDepth 100000 in
set_option maxHeartbeats 6400000 in
theorem maps_ok (a b m : Nat) (A : Option Addr) (n c : Nat) (P : List Int) (A2 : Option Addr) (n2 c2 : Nat) (T : List Int) (w : World) (h : Sl w A n c P) (h2 : Sl w A2 n2 c2 T) (hA : A = none → c = 0) (hm : n ≤ 600) (hm2 : n2 ≤ 600) (hr : Ras a b m P) (hn : n2 = m + 1) (ht : (T.any fun x => !win x 0 m) = false) :
    Calls Try.prog 9 #[.agg #[.int .i64 a, .int .i64 b, .int .i64 m, .slice A n c], .slice A2 n2 c2] w fun e w' => e = .returned (.bool true) ∧ Below w.heap.size w w' := by
  have hcap := h.le_cap
  have hcl := h.cap_le
  have hcap2 := h2.le_cap
  have hcl2 := h2.cap_le
  have hB0 := (Below.refl w.heap.size w).alloc (by first | exact Nat.le_refl _ | (simp <;> omega)) (.cells #[.int .i64 a, .int .i64 b, .int .i64 m, .slice A n c] 24)
  have k0 : KB _ _ _ _ := (KB.new w #[.int .i64 a, .int .i64 b, .int .i64 m, .slice A n c] 24)
  have hs := Lib.hid (fun w' (hb : Below w.heap.size w w') => h.below hb (Nat.le_refl _))
  have hs2 := Lib.hid (fun w' (hb : Below w.heap.size w w') => h2.below hb (Nat.le_refl _))
  have hnw : (n2 : Int) ≤ 600 := by omega
  obtain ⟨-, -, hM1, hM2⟩ := hr.1
  have hne : ((n2 : Int) != (m : Int) + 1) = false := by rw [hn]; simp
  replace hr := Lib.hid hr
  replace hn := Lib.hid hn
  replace ht := Lib.hid ht
  go_enter Try.func9, Try.ntmps9
  go_upto_region 13 with (first
    | (go_at_call 11; refine (known_any _).mono ?_; rintro e w1 ⟨rfl, hb1⟩; (try simp only [World.size_alloc] at hb1); have z1 := hb1.size; (try simp only [World.size_alloc] at z1); replace k0 := k0.below hb1 (by omega); have hB1 := Below.trans hB0 (hb1.mono (by omega)); have k0_0 := k0.cell 0 rfl; have k0_1 := k0.cell 1 rfl; have k0_2 := k0.cell 2 rfl; have k0_3 := k0.cell 3 rfl)
    | (go_at_call 12; refine (few_one_yes (KB.new w1 _ _) hm).mono ?_; rintro e w2 ⟨rfl, hb2⟩; (try simp only [World.size_alloc] at hb2); have z2 := hb2.size; (try simp only [World.size_alloc] at z2); replace k0 := (k0.alloc _).below hb2 (by omega); have hB2 := Below.trans (hB1.alloc (by first | exact hB1.size | (have := hB1.size; simp; omega)) _) (hb2.mono (by omega)); clear k0_0 k0_1 k0_2 k0_3; have k0_0 := k0.cell 0 rfl; have k0_1 := k0.cell 1 rfl; have k0_2 := k0.cell 2 rfl; have k0_3 := k0.cell 3 rfl)
    | (go_at_call 37; refine (Map_yes a b m A n c P A2 n2 c2 T _ (hs.out _ hB2) (hs2.out _ hB2) hr.out hn.out ht.out).mono ?_; rintro e w3 ⟨A5, n5, c5, rfl, s5, hb3⟩; (try simp only [World.size_alloc] at hb3); have z3 := hb3.size; (try simp only [World.size_alloc] at z3); replace k0 := k0.below hb3 (by omega); have hB3 := Below.trans hB2 (hb3.mono (by omega)); replace k0 := k0.alloc (.cells #[.int .i64 a, .int .i64 b, .int .i64 m, .slice A5 n5 c5] 24); have k9 : KB _ _ _ _ := KB.new w3 #[.int .i64 a, .int .i64 b, .int .i64 m, .slice A5 n5 c5] 24; replace hB3 := hB3.alloc hB3.size (.cells #[.int .i64 a, .int .i64 b, .int .i64 m, .slice A5 n5 c5] 24); replace s5 := s5.alloc (.cells #[.int .i64 a, .int .i64 b, .int .i64 m, .slice A5 n5 c5] 24); clear k0_0 k0_1 k0_2 k0_3; have k0_0 := k0.cell 0 rfl; have k0_1 := k0.cell 1 rfl; have k0_2 := k0.cell 2 rfl; have k0_3 := k0.cell 3 rfl; have k9_0 := k9.cell 0 rfl; have k9_1 := k9.cell 1 rfl; have k9_2 := k9.cell 2 rfl; have k9_3 := k9.cell 3 rfl)
    | (go_at_call 14; refine (rCheck_ok (hs.out _ hB3) hr.out).mono ?_; rintro e w4 ⟨rfl, hb4⟩; (try simp only [World.size_alloc] at hb4); have z4 := hb4.size; (try simp only [World.size_alloc] at z4); replace k0 := k0.below hb4 (by omega); replace k9 := k9.below hb4 (by omega); have hB4 := Below.trans hB3 (hb4.mono (by omega)); replace s5 := s5.below hb4 (by first | exact Nat.le_refl _ | (simp <;> omega)); clear k0_0 k0_1 k0_2 k0_3 k9_0 k9_1 k9_2 k9_3; have k0_0 := k0.cell 0 rfl; have k0_1 := k0.cell 1 rfl; have k0_2 := k0.cell 2 rfl; have k0_3 := k0.cell 3 rfl; have k9_0 := k9.cell 0 rfl; have k9_1 := k9.cell 1 rfl; have k9_2 := k9.cell 2 rfl; have k9_3 := k9.cell 3 rfl)
    | (go_at_call 38; refine (ContainsFunc_ints _ _ _ enters_law A2 n2 c2 T _ (hs2.out _ hB4) (law_pred m w.heap.size _ k0.lt k0_2) ht.out).mono ?_; rintro e w5 ⟨rfl, hb5⟩; (try simp only [World.size_alloc] at hb5); have z5 := hb5.size; (try simp only [World.size_alloc] at z5); replace k0 := k0.below hb5 (by omega); replace k9 := k9.below hb5 (by omega); have hB5 := Below.trans hB4 (hb5.mono (by omega)); replace s5 := s5.below hb5 (by first | exact Nat.le_refl _ | (simp <;> omega)); clear k0_0 k0_1 k0_2 k0_3 k9_0 k9_1 k9_2 k9_3; have k0_0 := k0.cell 0 rfl; have k0_1 := k0.cell 1 rfl; have k0_2 := k0.cell 2 rfl; have k0_3 := k0.cell 3 rfl; have k9_0 := k9.cell 0 rfl; have k9_1 := k9.cell 1 rfl; have k9_2 := k9.cell 2 rfl; have k9_3 := k9.cell 3 rfl))
  replace s5 := Lib.hid (fun w' (hb : Below w5.heap.size w5 w') => s5.below hb (Nat.le_refl _))
  have hsr := Lib.hid (fun w' (hb : Below w5.heap.size w5 w') => hs.out w' (hB5.trans (hb.mono hB5.size)))
  have hst := Lib.hid (fun w' (hb : Below w5.heap.size w5 w') => hs2.out w' (hB5.trans (hb.mono hB5.size)))
  have keepS : ∀ w', Below w5.heap.size w5 w' → w'.cell? ⟨w.heap.size, 0, none⟩ = some (.int .i64 a) ∧ w'.cell? ⟨w.heap.size, 1, none⟩ = some (.int .i64 b) ∧ w'.cell? ⟨w.heap.size, 2, none⟩ = some (.int .i64 m) ∧ w'.cell? ⟨w.heap.size, 3, none⟩ = some (.slice A n c) ∧ w'.cell? ⟨w3.heap.size, 0, none⟩ = some (.int .i64 a) ∧ w'.cell? ⟨w3.heap.size, 1, none⟩ = some (.int .i64 b) ∧ w'.cell? ⟨w3.heap.size, 2, none⟩ = some (.int .i64 m) ∧ w'.cell? ⟨w3.heap.size, 3, none⟩ = some (.slice A5 n5 c5) := by
    intro w' hb
    have kk : ∀ (bk ok : Nat), bk < w5.heap.size → w'.cell? ⟨bk, ok, none⟩ = w5.cell? ⟨bk, ok, none⟩ := fun bk ok hlt => hb.cell (p := ⟨bk, ok, none⟩) hlt
    exact ⟨(kk _ _ k0.lt).trans k0_0, (kk _ _ k0.lt).trans k0_1, (kk _ _ k0.lt).trans k0_2, (kk _ _ k0.lt).trans k0_3, (kk _ _ k9.lt).trans k9_0, (kk _ _ k9.lt).trans k9_1, (kk _ _ k9.lt).trans k9_2, (kk _ _ k9.lt).trans k9_3⟩
  replace keepS := Lib.hid keepS
  have qtok1 : True := trivial
  have qtok2 : True := trivial
  go_region_held3 (fun w' => w'.cell? ⟨w.heap.size, 0, none⟩ = some (.int .i64 a) ∧ w'.cell? ⟨w.heap.size, 1, none⟩ = some (.int .i64 b) ∧ w'.cell? ⟨w.heap.size, 2, none⟩ = some (.int .i64 m) ∧ w'.cell? ⟨w.heap.size, 3, none⟩ = some (.slice A n c) ∧ w'.cell? ⟨w3.heap.size, 0, none⟩ = some (.int .i64 a) ∧ w'.cell? ⟨w3.heap.size, 1, none⟩ = some (.int .i64 b) ∧ w'.cell? ⟨w3.heap.size, 2, none⟩ = some (.int .i64 m) ∧ w'.cell? ⟨w3.heap.size, 3, none⟩ = some (.slice A5 n5 c5))
    (exact keepS.out _ (by repeat (first | exact qB2 | exact qB1 | exact (Below.refl w5.heap.size w5) | refine Below.drew ?_ | refine Below.drewN ?_ _ | refine Below.alloc ?_ (by first | omega | (simp <;> omega)) _)))
    (first | (go_at_call 40; clear qtok1; refine (rMap_yes a b m A n c P A2 n2 c2 T _ (hsr.out _ (by repeat (first | exact (Below.refl w5.heap.size w5) | refine Below.drew ?_ | refine Below.drewN ?_ _ | refine Below.alloc ?_ (by first | omega | (simp <;> omega)) _))) (hst.out _ (by repeat (first | exact (Below.refl w5.heap.size w5) | refine Below.drew ?_ | refine Below.drewN ?_ _ | refine Below.alloc ?_ (by first | omega | (simp <;> omega)) _))) hA hr.out hn.out).mono ?_; rintro e qw1 ⟨g8, n8, c8, rfl, hg8, hl8, hn8, hc8, hm8, qh1⟩; have qB1 : Below w5.heap.size w5 qw1 := Below.trans (by repeat (first | exact (Below.refl w5.heap.size w5) | refine Below.drew ?_ | refine Below.drewN ?_ _ | refine Below.alloc ?_ (by first | omega | (simp <;> omega)) _)) (qh1.mono (by first | omega | (simp <;> omega))); have qs1 := qB1.size; replace hn8 := Lib.hid hn8) | (go_at_call 16; clear qtok2; refine (rEqual_at (eqr_self _ _ _ _) (s5.out _ (by repeat (first | exact qB1 | refine Below.drew ?_ | refine Below.drewN ?_ _ | refine Below.alloc ?_ (by first | omega | (simp <;> omega)) _))) ((hl8.sl0 hn8.out hc8 hm8).below (w' := _) (B := _) (by repeat (first | exact Below.refl _ _ | refine Below.drew ?_ | refine Below.drewN ?_ _ | refine Below.alloc ?_ (by first | omega | (simp <;> omega)) _)) (Nat.le_refl _))).mono ?_; rintro e qw2 ⟨rfl, qh2⟩; have qB2 : Below w5.heap.size w5 qw2 := Below.trans (by repeat (first | exact qB1 | refine Below.drew ?_ | refine Below.drewN ?_ _ | refine Below.alloc ?_ (by first | omega | (simp <;> omega)) _)) (qh2.mono (by first | omega | (simp <;> omega))); have qs2 := qB2.size))
  go_wp2
  go_ret
  exact ⟨rfl, hB5.trans (qB2.mono hB5.size)⟩

/-- The law of the maps. -/
theorem maps_any (W H M : Int) (A : Option Addr) (n c : Nat) (P : List Int) (A2 : Option Addr) (n2 c2 : Nat) (T : List Int) (w : World) (h : Sl w A n c P) (h2 : Sl w A2 n2 c2 T) (hA : A = none → c = 0) :
    Calls Try.prog 9 #[.agg #[.int .i64 W, .int .i64 H, .int .i64 M, .slice A n c], .slice A2 n2 c2] w fun e w' => e = .returned (.bool true) ∧ Below w.heap.size w w' := by
  by_cases hm : n ≤ 600
  · by_cases hm2 : n2 ≤ 600
    · by_cases hr : Ras W H M P
      · by_cases hn : (n2 : Int) = M + 1
        · by_cases ht : (T.any fun x => !win x 0 M) = true
          · exact maps_out W H M A n c P A2 n2 c2 T w h h2 hm hm2 hr hn ht
          · obtain ⟨a, b, rfl, rfl, -, -, ⟨hM1, hM2⟩, -⟩ := hr.nat
            obtain ⟨m, rfl⟩ := Int.eq_ofNat_of_zero_le (show 0 ≤ M by omega)
            exact maps_ok a b m A n c P A2 n2 c2 T w h h2 hA hm hm2 hr (by omega) (by simpa using ht)
        · exact maps_len W H M A n c P A2 n2 c2 T w h h2 hm hm2 hr hn
      · exact maps_bad W H M A n c P A2 n2 c2 T w h h2 hm hm2 hr
    · exact maps_wide W H M A n c P A2 n2 c2 T w h h2 hm (by omega)
  · exact maps_many W H M A n c P A2 n2 c2 T w h h2 (by omega)

end Go.Proofs.Ytehnemdifkjhcaa
