/-
  Walk: the law of what is restored.
-/
import Derived.Test.YtcnlghkdhpgnmaaFrKn
import Derived.Test.YtcnlghkdhpgnmaaFrRw
import Derived.Test.YtcnlghkdhpgnmaaFrLs
import Derived.Deep.Cut
import Derived.Deep.RegionHeld3
set_option linter.unusedSimpArgs false
set_option linter.unusedVariables false
namespace Go.Proofs.Ytcnlghkdhpgnmaa
open Go.RowKit Go.Shelf

theorem box1 {w : World} {g : Nat} {x : Value} {t : TypeId} (h : w.heap[g]? = some (.cells #[x] t (0, 0))) : w.cell? ⟨g, 0, none⟩ = some x := by
  rw [cell_of_row w g _ _ _ _ h]; rfl
theorem enters_isOutR : ∀ args w, (callFunc 23 args).run Try.prog w = .ok (.enter 23 args) w := enters_of Try.func23 (by kernel_rfl) rfl
theorem isOutR_pred (M : Int) (B : Nat) (w : World) (hB : B < w.heap.size) (hc : w.cell? ⟨B, 0, none⟩ = some (.int .i64 M)) :
    PredI 23 #[.pointer (some ⟨B, 0, none⟩)] (fun x => !win x 0 M) w := fun W x hb => by
  have hc' : W.cell? ⟨B, 0, none⟩ = some (.int .i64 M) := (hb.cell (p := ⟨B, 0, none⟩) hB).trans hc
  show Calls Try.prog 23 #[.int .i64 x, .pointer (some ⟨B, 0, none⟩)] W _
  by_cases h1 : x < 0
  · have hw : Hid (win x 0 M = false) := Lib.hid (win_no.2 (by omega))
    go_enter Try.func23, Try.ntmps23
    go_wp2
    go_ret
    exact ⟨ret_bool (by rw [hw.out]; first | rfl | (simp <;> omega)), Below.refl _ _⟩
  · by_cases h2 : M < x
    · have hw : Hid (win x 0 M = false) := Lib.hid (win_no.2 (by omega))
      go_enter Try.func23, Try.ntmps23
      go_wp2
      go_ret
      exact ⟨ret_bool (by rw [hw.out]; first | rfl | (simp <;> omega)), Below.refl _ _⟩
    · have hw : Hid (win x 0 M = true) := Lib.hid (win_iff.2 (by omega))
      go_enter Try.func23, Try.ntmps23
      go_wp2
      go_ret
      exact ⟨ret_bool (by rw [hw.out]; first | rfl | (simp <;> omega)), Below.refl _ _⟩
theorem eqr_zero : eqr 0 0 0 [] 0 0 0 [] = true := rfl

set_option maxRecDepth 100000 in
set_option maxHeartbeats 6400000 in
theorem lawRest_many (a b M : Int) ( A : Option Addr) (n c : Nat) (l : List Int) (w : World) (h : Sl w A n c l) (hn : 200 < n) :
    Calls Try.prog 5 #[.agg #[.int .i64 a, .int .i64 b], .int .i64 M, .slice A n c] w fun e w' => e = .returned (.bool true) ∧ Below w.heap.size w w' := by
  have hb0 := ((Below.refl w.heap.size w).alloc (Nat.le_refl _) (.cells #[.int .i64 a, .int .i64 b] 41)).alloc (by simp) (.cells #[.int .i64 M] 3)
  have h0 := (Below.heap_alloc (w.alloc (.cells #[.int .i64 a, .int .i64 b] 41)) (.cells #[.int .i64 M] 3) w.heap.size (by simp)).trans (heap_alloc_new w (.cells #[.int .i64 a, .int .i64 b] 41))
  have h1 := heap_alloc_new (w.alloc (.cells #[.int .i64 a, .int .i64 b] 41)) (.cells #[.int .i64 M] 3)
  rw [World.size_alloc] at h1
  have hs := Lib.hid ((h.alloc (.cells #[.int .i64 a, .int .i64 b] 41)).alloc (.cells #[.int .i64 M] 3))
  have hcap := h.le_cap
  have hcl := h.cap_le
  clear h
  go_enter Try.func5, Try.ntmps5
  go_wp2_with (first
    | (go_at_call 12; refine (known_any _).mono ?_; rintro e w1 ⟨rfl, hb1⟩; obtain ⟨⟨x0, x1⟩, -⟩ := box2 ((hb1.block w.heap.size (by simp <;> omega)).trans h0); have y0 := box1 ((hb1.block (w.heap.size + 1) (by simp <;> omega)).trans h1)))
  go_ret
  exact ⟨rfl, hb0.trans (hb1.mono (by simp <;> omega))⟩

set_option maxRecDepth 100000 in
set_option maxHeartbeats 6400000 in
theorem lawRest_form (a b M : Int) ( A : Option Addr) (n c : Nat) (l : List Int) (w : World) (h : Sl w A n c l) (hn : n ≤ 200) (hf : hfm a b M = false) :
    Calls Try.prog 5 #[.agg #[.int .i64 a, .int .i64 b], .int .i64 M, .slice A n c] w fun e w' => e = .returned (.bool true) ∧ Below w.heap.size w w' := by
  have hb0 := ((Below.refl w.heap.size w).alloc (Nat.le_refl _) (.cells #[.int .i64 a, .int .i64 b] 41)).alloc (by simp) (.cells #[.int .i64 M] 3)
  have h0 := (Below.heap_alloc (w.alloc (.cells #[.int .i64 a, .int .i64 b] 41)) (.cells #[.int .i64 M] 3) w.heap.size (by simp)).trans (heap_alloc_new w (.cells #[.int .i64 a, .int .i64 b] 41))
  have h1 := heap_alloc_new (w.alloc (.cells #[.int .i64 a, .int .i64 b] 41)) (.cells #[.int .i64 M] 3)
  rw [World.size_alloc] at h1
  have hs := Lib.hid ((h.alloc (.cells #[.int .i64 a, .int .i64 b] 41)).alloc (.cells #[.int .i64 M] 3))
  have hcap := h.le_cap
  have hcl := h.cap_le
  have hcR := Lib.hid (fun (W' : World) hW => Restore_no a b M A n c l W' hW (r := 2) (by unfold restC; rw [if_pos hf]) (by decide))
  have hcS := fun (W' : World) => sameRas_any 0 0 0 none 0 0 [] 0 0 0 none 0 0 [] W' (Sl.nil W') (Sl.nil W')
  rw [eqr_zero] at hcS
  replace hcS := Lib.hid hcS
  have hff : ¬ ((1 ≤ a ∧ a ≤ 64) ∧ (1 ≤ b ∧ b ≤ 64) ∧ 1 ≤ M ∧ M ≤ 65535) := fun h => by rw [hfm_iff.2 h] at hf; cases hf
  replace hf := Lib.hid hf
  clear h
  by_cases q0 : a < 1
  · replace hff := Lib.hid hff
    go_enter Try.func5, Try.ntmps5
    go_wp2_with (first
      | (go_at_call 12; refine (known_any _).mono ?_; rintro e w1 ⟨rfl, hb1⟩; obtain ⟨⟨x0, x1⟩, -⟩ := box2 ((hb1.block w.heap.size (by simp <;> omega)).trans h0); have y0 := box1 ((hb1.block (w.heap.size + 1) (by simp <;> omega)).trans h1))
      | (go_at_call 18; refine (hcR.out _ (hs.out.below hb1 (Nat.le_refl _))).mono ?_; rintro e w2 ⟨rfl, hb2'⟩; have hb2 := (hb1.trans (hb2'.mono hb1.size)).alloc (by have := hb1.size; have := hb2'.size; omega) (.cells #[.int .i64 0, .int .i64 0, .int .i64 0, .slice none 0 0] 25); clear hb2' x0 x1 y0; obtain ⟨⟨x0, x1⟩, -⟩ := box2 ((hb2.block w.heap.size (by simp <;> omega)).trans h0); have y0 := box1 ((hb2.block (w.heap.size + 1) (by simp <;> omega)).trans h1); obtain ⟨z0, z1, z2, z3⟩ := box4 (heap_alloc_new w2 (.cells #[.int .i64 0, .int .i64 0, .int .i64 0, .slice none 0 0] 25)))
      | (go_at_call 21; refine (hcS.out _).mono ?_; rintro e w9 ⟨rfl, hb9'⟩; have hb9 := hb2.trans (hb9'.mono hb2.size)))
    go_ret
    exact ⟨ret_bool (by first | rfl | simp), hb0.trans (hb9.mono (by simp <;> omega))⟩
  by_cases q1 : 64 < a
  · replace hff := Lib.hid hff
    go_enter Try.func5, Try.ntmps5
    go_wp2_with (first
      | (go_at_call 12; refine (known_any _).mono ?_; rintro e w1 ⟨rfl, hb1⟩; obtain ⟨⟨x0, x1⟩, -⟩ := box2 ((hb1.block w.heap.size (by simp <;> omega)).trans h0); have y0 := box1 ((hb1.block (w.heap.size + 1) (by simp <;> omega)).trans h1))
      | (go_at_call 18; refine (hcR.out _ (hs.out.below hb1 (Nat.le_refl _))).mono ?_; rintro e w2 ⟨rfl, hb2'⟩; have hb2 := (hb1.trans (hb2'.mono hb1.size)).alloc (by have := hb1.size; have := hb2'.size; omega) (.cells #[.int .i64 0, .int .i64 0, .int .i64 0, .slice none 0 0] 25); clear hb2' x0 x1 y0; obtain ⟨⟨x0, x1⟩, -⟩ := box2 ((hb2.block w.heap.size (by simp <;> omega)).trans h0); have y0 := box1 ((hb2.block (w.heap.size + 1) (by simp <;> omega)).trans h1); obtain ⟨z0, z1, z2, z3⟩ := box4 (heap_alloc_new w2 (.cells #[.int .i64 0, .int .i64 0, .int .i64 0, .slice none 0 0] 25)))
      | (go_at_call 21; refine (hcS.out _).mono ?_; rintro e w9 ⟨rfl, hb9'⟩; have hb9 := hb2.trans (hb9'.mono hb2.size)))
    go_ret
    exact ⟨ret_bool (by first | rfl | simp), hb0.trans (hb9.mono (by simp <;> omega))⟩
  by_cases q2 : b < 1
  · replace hff := Lib.hid hff
    go_enter Try.func5, Try.ntmps5
    go_wp2_with (first
      | (go_at_call 12; refine (known_any _).mono ?_; rintro e w1 ⟨rfl, hb1⟩; obtain ⟨⟨x0, x1⟩, -⟩ := box2 ((hb1.block w.heap.size (by simp <;> omega)).trans h0); have y0 := box1 ((hb1.block (w.heap.size + 1) (by simp <;> omega)).trans h1))
      | (go_at_call 18; refine (hcR.out _ (hs.out.below hb1 (Nat.le_refl _))).mono ?_; rintro e w2 ⟨rfl, hb2'⟩; have hb2 := (hb1.trans (hb2'.mono hb1.size)).alloc (by have := hb1.size; have := hb2'.size; omega) (.cells #[.int .i64 0, .int .i64 0, .int .i64 0, .slice none 0 0] 25); clear hb2' x0 x1 y0; obtain ⟨⟨x0, x1⟩, -⟩ := box2 ((hb2.block w.heap.size (by simp <;> omega)).trans h0); have y0 := box1 ((hb2.block (w.heap.size + 1) (by simp <;> omega)).trans h1); obtain ⟨z0, z1, z2, z3⟩ := box4 (heap_alloc_new w2 (.cells #[.int .i64 0, .int .i64 0, .int .i64 0, .slice none 0 0] 25)))
      | (go_at_call 21; refine (hcS.out _).mono ?_; rintro e w9 ⟨rfl, hb9'⟩; have hb9 := hb2.trans (hb9'.mono hb2.size)))
    go_ret
    exact ⟨ret_bool (by first | rfl | simp), hb0.trans (hb9.mono (by simp <;> omega))⟩
  by_cases q3 : 64 < b
  · replace hff := Lib.hid hff
    go_enter Try.func5, Try.ntmps5
    go_wp2_with (first
      | (go_at_call 12; refine (known_any _).mono ?_; rintro e w1 ⟨rfl, hb1⟩; obtain ⟨⟨x0, x1⟩, -⟩ := box2 ((hb1.block w.heap.size (by simp <;> omega)).trans h0); have y0 := box1 ((hb1.block (w.heap.size + 1) (by simp <;> omega)).trans h1))
      | (go_at_call 18; refine (hcR.out _ (hs.out.below hb1 (Nat.le_refl _))).mono ?_; rintro e w2 ⟨rfl, hb2'⟩; have hb2 := (hb1.trans (hb2'.mono hb1.size)).alloc (by have := hb1.size; have := hb2'.size; omega) (.cells #[.int .i64 0, .int .i64 0, .int .i64 0, .slice none 0 0] 25); clear hb2' x0 x1 y0; obtain ⟨⟨x0, x1⟩, -⟩ := box2 ((hb2.block w.heap.size (by simp <;> omega)).trans h0); have y0 := box1 ((hb2.block (w.heap.size + 1) (by simp <;> omega)).trans h1); obtain ⟨z0, z1, z2, z3⟩ := box4 (heap_alloc_new w2 (.cells #[.int .i64 0, .int .i64 0, .int .i64 0, .slice none 0 0] 25)))
      | (go_at_call 21; refine (hcS.out _).mono ?_; rintro e w9 ⟨rfl, hb9'⟩; have hb9 := hb2.trans (hb9'.mono hb2.size)))
    go_ret
    exact ⟨ret_bool (by first | rfl | simp), hb0.trans (hb9.mono (by simp <;> omega))⟩
  by_cases q4 : M < 1
  · replace hff := Lib.hid hff
    go_enter Try.func5, Try.ntmps5
    go_wp2_with (first
      | (go_at_call 12; refine (known_any _).mono ?_; rintro e w1 ⟨rfl, hb1⟩; obtain ⟨⟨x0, x1⟩, -⟩ := box2 ((hb1.block w.heap.size (by simp <;> omega)).trans h0); have y0 := box1 ((hb1.block (w.heap.size + 1) (by simp <;> omega)).trans h1))
      | (go_at_call 18; refine (hcR.out _ (hs.out.below hb1 (Nat.le_refl _))).mono ?_; rintro e w2 ⟨rfl, hb2'⟩; have hb2 := (hb1.trans (hb2'.mono hb1.size)).alloc (by have := hb1.size; have := hb2'.size; omega) (.cells #[.int .i64 0, .int .i64 0, .int .i64 0, .slice none 0 0] 25); clear hb2' x0 x1 y0; obtain ⟨⟨x0, x1⟩, -⟩ := box2 ((hb2.block w.heap.size (by simp <;> omega)).trans h0); have y0 := box1 ((hb2.block (w.heap.size + 1) (by simp <;> omega)).trans h1); obtain ⟨z0, z1, z2, z3⟩ := box4 (heap_alloc_new w2 (.cells #[.int .i64 0, .int .i64 0, .int .i64 0, .slice none 0 0] 25)))
      | (go_at_call 21; refine (hcS.out _).mono ?_; rintro e w9 ⟨rfl, hb9'⟩; have hb9 := hb2.trans (hb9'.mono hb2.size)))
    go_ret
    exact ⟨ret_bool (by first | rfl | simp), hb0.trans (hb9.mono (by simp <;> omega))⟩
  by_cases q5 : 65535 < M
  · replace hff := Lib.hid hff
    go_enter Try.func5, Try.ntmps5
    go_wp2_with (first
      | (go_at_call 12; refine (known_any _).mono ?_; rintro e w1 ⟨rfl, hb1⟩; obtain ⟨⟨x0, x1⟩, -⟩ := box2 ((hb1.block w.heap.size (by simp <;> omega)).trans h0); have y0 := box1 ((hb1.block (w.heap.size + 1) (by simp <;> omega)).trans h1))
      | (go_at_call 18; refine (hcR.out _ (hs.out.below hb1 (Nat.le_refl _))).mono ?_; rintro e w2 ⟨rfl, hb2'⟩; have hb2 := (hb1.trans (hb2'.mono hb1.size)).alloc (by have := hb1.size; have := hb2'.size; omega) (.cells #[.int .i64 0, .int .i64 0, .int .i64 0, .slice none 0 0] 25); clear hb2' x0 x1 y0; obtain ⟨⟨x0, x1⟩, -⟩ := box2 ((hb2.block w.heap.size (by simp <;> omega)).trans h0); have y0 := box1 ((hb2.block (w.heap.size + 1) (by simp <;> omega)).trans h1); obtain ⟨z0, z1, z2, z3⟩ := box4 (heap_alloc_new w2 (.cells #[.int .i64 0, .int .i64 0, .int .i64 0, .slice none 0 0] 25)))
      | (go_at_call 21; refine (hcS.out _).mono ?_; rintro e w9 ⟨rfl, hb9'⟩; have hb9 := hb2.trans (hb9'.mono hb2.size)))
    go_ret
    exact ⟨ret_bool (by first | rfl | simp), hb0.trans (hb9.mono (by simp <;> omega))⟩
  exact absurd ⟨⟨by omega, by omega⟩, ⟨by omega, by omega⟩, by omega, by omega⟩ hff

set_option maxRecDepth 100000 in
set_option maxHeartbeats 6400000 in
theorem lawRest_size (a b M : Int) ( A : Option Addr) (n c : Nat) (l : List Int) (w : World) (h : Sl w A n c l) (hn : n ≤ 200) (hf : hfm a b M = true) (hz : (l.length : Int) ≠ a * b) :
    Calls Try.prog 5 #[.agg #[.int .i64 a, .int .i64 b], .int .i64 M, .slice A n c] w fun e w' => e = .returned (.bool true) ∧ Below w.heap.size w w' := by
  have hb0 := ((Below.refl w.heap.size w).alloc (Nat.le_refl _) (.cells #[.int .i64 a, .int .i64 b] 41)).alloc (by simp) (.cells #[.int .i64 M] 3)
  have h0 := (Below.heap_alloc (w.alloc (.cells #[.int .i64 a, .int .i64 b] 41)) (.cells #[.int .i64 M] 3) w.heap.size (by simp)).trans (heap_alloc_new w (.cells #[.int .i64 a, .int .i64 b] 41))
  have h1 := heap_alloc_new (w.alloc (.cells #[.int .i64 a, .int .i64 b] 41)) (.cells #[.int .i64 M] 3)
  rw [World.size_alloc] at h1
  have hs := Lib.hid ((h.alloc (.cells #[.int .i64 a, .int .i64 b] 41)).alloc (.cells #[.int .i64 M] 3))
  have hcap := h.le_cap
  have hcl := h.cap_le
  have hcR := Lib.hid (fun (W' : World) hW => Restore_no a b M A n c l W' hW (r := 4) (by unfold restC; rw [if_neg (by rw [hf]; simp), if_pos hz]) (by decide))
  have hcS := fun (W' : World) => sameRas_any 0 0 0 none 0 0 [] 0 0 0 none 0 0 [] W' (Sl.nil W') (Sl.nil W')
  rw [eqr_zero] at hcS
  replace hcS := Lib.hid hcS
  obtain ⟨⟨f1, f2⟩, ⟨f3, f4⟩, f5, f6⟩ := hfm_iff.1 hf
  obtain ⟨a1, a2⟩ := area f1 f2 f3 f4
  have hne : ((n : Int) != a * b) = true := by rw [bne_iff_ne, h.len]; exact hz
  replace hf := Lib.hid hf
  replace hz := Lib.hid hz
  clear h
  go_enter Try.func5, Try.ntmps5
  go_wp2_with (first
    | (go_at_call 12; refine (known_any _).mono ?_; rintro e w1 ⟨rfl, hb1⟩; obtain ⟨⟨x0, x1⟩, -⟩ := box2 ((hb1.block w.heap.size (by simp <;> omega)).trans h0); have y0 := box1 ((hb1.block (w.heap.size + 1) (by simp <;> omega)).trans h1))
    | (go_at_call 18; refine (hcR.out _ (hs.out.below hb1 (Nat.le_refl _))).mono ?_; rintro e w2 ⟨rfl, hb2'⟩; have hb2 := (hb1.trans (hb2'.mono hb1.size)).alloc (by have := hb1.size; have := hb2'.size; omega) (.cells #[.int .i64 0, .int .i64 0, .int .i64 0, .slice none 0 0] 25); clear hb2' x0 x1 y0; obtain ⟨⟨x0, x1⟩, -⟩ := box2 ((hb2.block w.heap.size (by simp <;> omega)).trans h0); have y0 := box1 ((hb2.block (w.heap.size + 1) (by simp <;> omega)).trans h1); obtain ⟨z0, z1, z2, z3⟩ := box4 (heap_alloc_new w2 (.cells #[.int .i64 0, .int .i64 0, .int .i64 0, .slice none 0 0] 25)))
    | (go_at_call 21; refine (hcS.out _).mono ?_; rintro e w9 ⟨rfl, hb9'⟩; have hb9 := hb2.trans (hb9'.mono hb2.size)))
  go_ret
  exact ⟨ret_bool (by first | rfl | simp), hb0.trans (hb9.mono (by simp <;> omega))⟩

set_option maxRecDepth 100000 in
set_option maxHeartbeats 6400000 in
theorem lawRest_out (a b M : Int) ( A : Option Addr) (n c : Nat) (l : List Int) (w : World) (h : Sl w A n c l) (hn : n ≤ 200) (hf : hfm a b M = true) (hz : (l.length : Int) = a * b) (hbb : (l.any fun x => !win x 0 M) = true) :
    Calls Try.prog 5 #[.agg #[.int .i64 a, .int .i64 b], .int .i64 M, .slice A n c] w fun e w' => e = .returned (.bool true) ∧ Below w.heap.size w w' := by
  have hb0 := ((Below.refl w.heap.size w).alloc (Nat.le_refl _) (.cells #[.int .i64 a, .int .i64 b] 41)).alloc (by simp) (.cells #[.int .i64 M] 3)
  have h0 := (Below.heap_alloc (w.alloc (.cells #[.int .i64 a, .int .i64 b] 41)) (.cells #[.int .i64 M] 3) w.heap.size (by simp)).trans (heap_alloc_new w (.cells #[.int .i64 a, .int .i64 b] 41))
  have h1 := heap_alloc_new (w.alloc (.cells #[.int .i64 a, .int .i64 b] 41)) (.cells #[.int .i64 M] 3)
  rw [World.size_alloc] at h1
  have hs := Lib.hid ((h.alloc (.cells #[.int .i64 a, .int .i64 b] 41)).alloc (.cells #[.int .i64 M] 3))
  have hcap := h.le_cap
  have hcl := h.cap_le
  have hcR := Lib.hid (fun (W' : World) hW => Restore_no a b M A n c l W' hW (r := 2) (by unfold restC; rw [if_neg (by rw [hf]; simp), if_neg (by simp [hz]), if_pos hbb]) (by decide))
  have hcS := fun (W' : World) => sameRas_any 0 0 0 none 0 0 [] 0 0 0 none 0 0 [] W' (Sl.nil W') (Sl.nil W')
  rw [eqr_zero] at hcS
  replace hcS := Lib.hid hcS
  have hcF := Lib.hid (fun (W' : World) (hW : Sl W' A n c l) (hB : w.heap.size + 1 < W'.heap.size) (hc : W'.cell? ⟨w.heap.size + 1, 0, none⟩ = some (.int .i64 M)) => ContainsFunc_ints _ _ _ enters_isOutR A n c l W' hW (isOutR_pred M (w.heap.size + 1) W' hB hc) hbb)
  obtain ⟨⟨f1, f2⟩, ⟨f3, f4⟩, f5, f6⟩ := hfm_iff.1 hf
  obtain ⟨a1, a2⟩ := area f1 f2 f3 f4
  have hne : ((n : Int) != a * b) = false := by rw [h.len, hz]; simp
  replace hf := Lib.hid hf
  replace hz := Lib.hid hz
  replace hbb := Lib.hid hbb
  clear h
  go_enter Try.func5, Try.ntmps5
  go_wp2_with (first
    | (go_at_call 12; refine (known_any _).mono ?_; rintro e w1 ⟨rfl, hb1⟩; obtain ⟨⟨x0, x1⟩, -⟩ := box2 ((hb1.block w.heap.size (by simp <;> omega)).trans h0); have y0 := box1 ((hb1.block (w.heap.size + 1) (by simp <;> omega)).trans h1))
    | (go_at_call 18; refine (hcR.out _ (hs.out.below hb1 (Nat.le_refl _))).mono ?_; rintro e w2 ⟨rfl, hb2'⟩; have hb2 := (hb1.trans (hb2'.mono hb1.size)).alloc (by have := hb1.size; have := hb2'.size; omega) (.cells #[.int .i64 0, .int .i64 0, .int .i64 0, .slice none 0 0] 25); clear hb2' x0 x1 y0; obtain ⟨⟨x0, x1⟩, -⟩ := box2 ((hb2.block w.heap.size (by simp <;> omega)).trans h0); have y0 := box1 ((hb2.block (w.heap.size + 1) (by simp <;> omega)).trans h1); obtain ⟨z0, z1, z2, z3⟩ := box4 (heap_alloc_new w2 (.cells #[.int .i64 0, .int .i64 0, .int .i64 0, .slice none 0 0] 25)))
    | (go_at_call 22; refine (hcF.out _ (hs.out.below hb2 (Nat.le_refl _)) (by have := hb2.size; simp at this ⊢; omega) y0).mono ?_; rintro e w3 ⟨rfl, hb3'⟩; clear z0 z1 z2 z3; obtain ⟨z0, z1, z2, z3⟩ := box4 ((hb3'.block w2.heap.size (by simp)).trans (heap_alloc_new w2 (.cells #[.int .i64 0, .int .i64 0, .int .i64 0, .slice none 0 0] 25))); have hb3 := hb2.trans (hb3'.mono hb2.size); clear hb3' x0 x1 y0; obtain ⟨⟨x0, x1⟩, -⟩ := box2 ((hb3.block w.heap.size (by simp <;> omega)).trans h0); have y0 := box1 ((hb3.block (w.heap.size + 1) (by simp <;> omega)).trans h1))
    | (go_at_call 21; refine (hcS.out _).mono ?_; rintro e w9 ⟨rfl, hb9'⟩; have hb9 := hb3.trans (hb9'.mono hb3.size)))
  go_ret
  exact ⟨ret_bool (by first | rfl | simp), hb0.trans (hb9.mono (by simp <;> omega))⟩

set_option maxRecDepth 100000 in
set_option maxHeartbeats 6400000 in
theorem lawRest_ok (a b : Nat) (M : Int) ( A : Option Addr) (n c : Nat) (l : List Int) (w : World) (h : Sl w A n c l) (hn : n ≤ 200) (hf : hfm a b M = true) (hz : (l.length : Int) = (a : Int) * (b : Int)) (hbb : (l.any fun x => !win x 0 M) = false) :
    Calls Try.prog 5 #[.agg #[.int .i64 (a : Int), .int .i64 (b : Int)], .int .i64 M, .slice A n c] w fun e w' => e = .returned (.bool true) ∧ Below w.heap.size w w' := by
  have hb0 := ((Below.refl w.heap.size w).alloc (Nat.le_refl _) (.cells #[.int .i64 (a : Int), .int .i64 (b : Int)] 41)).alloc (by simp) (.cells #[.int .i64 M] 3)
  have h0 := (Below.heap_alloc (w.alloc (.cells #[.int .i64 (a : Int), .int .i64 (b : Int)] 41)) (.cells #[.int .i64 M] 3) w.heap.size (by simp)).trans (heap_alloc_new w (.cells #[.int .i64 (a : Int), .int .i64 (b : Int)] 41))
  have h1 := heap_alloc_new (w.alloc (.cells #[.int .i64 (a : Int), .int .i64 (b : Int)] 41)) (.cells #[.int .i64 M] 3)
  rw [World.size_alloc] at h1
  have hs := Lib.hid ((h.alloc (.cells #[.int .i64 (a : Int), .int .i64 (b : Int)] 41)).alloc (.cells #[.int .i64 M] 3))
  have hcap := h.le_cap
  have hcl := h.cap_le
  obtain ⟨⟨f1, f2⟩, ⟨f3, f4⟩, f5, f6⟩ := hfm_iff.1 hf
  obtain ⟨a1, a2⟩ := area f1 f2 f3 f4
  have hlen := h.len
  have hn0 : 0 < n := by omega
  have hin := outside_iff.1 hbb
  have ha1 : 1 ≤ a := by omega
  have hrc : restC a b M l = 0 := by unfold restC; rw [if_neg (by rw [hf]; simp), if_neg (by simp [hz]), if_neg (by rw [hbb]; simp)]
  have hras : Ras a b M (rest a M l) := ⟨⟨⟨f1, f2⟩, ⟨f3, f4⟩, f5, f6⟩, by rw [rest_length a M _ l rfl]; exact hz, rest_range ha1 (by omega)⟩
  have hcR := fun (W' : World) hW => Restore_yes a b M A n c l W' hW hrc
  have hcL := fun (W' : World) hW => lrestored_any a (b : Int) M A n c l W' hW ha1 (by omega) f5 f6 (by omega) hn0 hin
  have hcA := fun (W' : World) (g : Nat) hW => Residuals_yes a (b : Int) M g 0 n n (rest a M l) W' hW hras
  rw [residuals_rest ha1 (by omega) hin] at hcA
  obtain ⟨R, hR⟩ : ∃ R, rest a M l = R := ⟨_, rfl⟩
  have hRn : Hid (n = R.length) := Lib.hid (by rw [← hR, rest_length a M _ l rfl, hlen])
  rw [hR] at hcR hcL hcA
  have hcS := fun (W' : World) (g g2 c2 : Nat) hW hW2 => sameRas_any (a : Int) (b : Int) M (some ⟨g, 0, none⟩) n n R (a : Int) (b : Int) M (some ⟨g2, 0, none⟩) n c2 R W' hW hW2
  rw [eqr_self] at hcS
  have hcE := fun (W' : World) (g : Nat) hW hW2 => sEqual_any A n c l (some ⟨g, 0, none⟩) n n l W' hW hW2
  rw [eql_self] at hcE
  have hcF := Lib.hid (fun (W' : World) (hW : Sl W' A n c l) (hB : w.heap.size + 1 < W'.heap.size) (hc : W'.cell? ⟨w.heap.size + 1, 0, none⟩ = some (.int .i64 M)) => ContainsFunc_ints _ _ _ enters_isOutR A n c l W' hW (isOutR_pred M (w.heap.size + 1) W' hB hc) hbb)
  have hne : ((n : Int) != (a : Int) * (b : Int)) = false := by rw [hlen, hz]; simp
  have hln : Hid (n = l.length) := Lib.hid hlen
  replace hcR := Lib.hid hcR
  replace hcL := Lib.hid hcL
  replace hcA := Lib.hid hcA
  replace hcS := Lib.hid hcS
  replace hcE := Lib.hid hcE
  replace hras := Lib.hid hras
  replace hR := Lib.hid hR
  replace hin := Lib.hid hin
  replace hrc := Lib.hid hrc
  replace hf := Lib.hid hf
  replace hz := Lib.hid hz
  replace hbb := Lib.hid hbb
  clear h hlen
  go_enter Try.func5, Try.ntmps5
  go_upto_region 16 with (first
    | (go_at_call 12; refine (known_any _).mono ?_; rintro e w1 ⟨rfl, hb1⟩; obtain ⟨⟨x0, x1⟩, -⟩ := box2 ((hb1.block w.heap.size (by simp <;> omega)).trans h0); have y0 := box1 ((hb1.block (w.heap.size + 1) (by simp <;> omega)).trans h1))
    | (go_at_call 18; refine (hcR.out _ (hs.out.below hb1 (Nat.le_refl _))).mono ?_; rintro e w2 ⟨g2, rfl, hg2, hbl2, hb2'⟩; have hsl2 := Lib.hid ((hbl2.sl0 hRn.out (Nat.le_refl _) (by omega)).alloc (.cells #[.int .i64 (a : Int), .int .i64 (b : Int), .int .i64 M, .slice (some ⟨g2, 0, none⟩) n n] 25)); replace hbl2 := Lib.hid hbl2; have hb2 := (hb1.trans (hb2'.mono hb1.size)).alloc (by have := hb1.size; have := hb2'.size; omega) (.cells #[.int .i64 (a : Int), .int .i64 (b : Int), .int .i64 M, .slice (some ⟨g2, 0, none⟩) n n] 25); have hz2 := heap_alloc_new w2 (.cells #[.int .i64 (a : Int), .int .i64 (b : Int), .int .i64 M, .slice (some ⟨g2, 0, none⟩) n n] 25); clear hb2' x0 x1 y0; obtain ⟨⟨x0, x1⟩, -⟩ := box2 ((hb2.block w.heap.size (by simp <;> omega)).trans h0); have y0 := box1 ((hb2.block (w.heap.size + 1) (by simp <;> omega)).trans h1); obtain ⟨z0, z1, z2, z3⟩ := box4 hz2)
    | (go_at_call 22; refine (hcF.out _ (hs.out.below hb2 (Nat.le_refl _)) (by have := hb2.size; simp at this ⊢; omega) y0).mono ?_; rintro e w3 ⟨rfl, hb3'⟩; clear z0 z1 z2 z3; have hsl3 := Lib.hid (hsl2.out.below hb3' (Nat.le_refl _)); have hz3 := (hb3'.block w2.heap.size (by simp)).trans hz2; obtain ⟨z0, z1, z2, z3⟩ := box4 hz3; have hb3 := hb2.trans (hb3'.mono hb2.size); clear hb3' x0 x1 y0; obtain ⟨⟨x0, x1⟩, -⟩ := box2 ((hb3.block w.heap.size (by simp <;> omega)).trans h0); have y0 := box1 ((hb3.block (w.heap.size + 1) (by simp <;> omega)).trans h1))
    | (go_at_call 16; refine (hcA.out _ _ hsl3.out).mono ?_; rintro e w4 ⟨g4, rfl, hg4, hbl4, hb4'⟩; have hsl4 := Lib.hid (hsl3.out.below hb4' (Nat.le_refl _)); have hal4 := Lib.hid (hbl4.sl0 hln.out (Nat.le_refl _) (by omega)); replace hbl4 := Lib.hid hbl4; have hz4 := (hb4'.block w2.heap.size (by exact (Array.getElem?_eq_some_iff.1 hz3).1)).trans hz3; have hb4 := hb3.trans (hb4'.mono hb3.size); clear hb4' x0 x1 y0 z0 z1 z2 z3; obtain ⟨⟨x0, x1⟩, -⟩ := box2 ((hb4.block w.heap.size (by simp <;> omega)).trans h0); have y0 := box1 ((hb4.block (w.heap.size + 1) (by simp <;> omega)).trans h1); obtain ⟨z0, z1, z2, z3⟩ := box4 hz4))
  have hsz4 := hb4.size
  simp only [World.size_alloc] at hsz4
  have hl2 : w2.heap.size < w4.heap.size := (Array.getElem?_eq_some_iff.1 hz4).1
  have hsx := Lib.hid (fun w' (hx : Below w4.heap.size w4 w') => (hs.out.below hb4 (Nat.le_refl _)).below hx (Nat.le_refl _))
  have hsr := Lib.hid (fun w' (hx : Below w4.heap.size w4 w') => hsl4.out.below hx (Nat.le_refl _))
  have hsa := Lib.hid (fun w' (hx : Below w4.heap.size w4 w') => hal4.out.below hx (Nat.le_refl _))
  have hfin := Lib.hid (fun w' (hx : Below w4.heap.size w4 w') => (hb0.trans (hb4.mono (by simp <;> omega))).trans (hx.mono (by omega)))
  have keepS : ∀ w', Below w4.heap.size w4 w' → w'.cell? ⟨w.heap.size, 0, none⟩ = some (.int .i64 (a : Int)) ∧ w'.cell? ⟨w.heap.size, 1, none⟩ = some (.int .i64 (b : Int)) ∧ w'.cell? ⟨w.heap.size + 1, 0, none⟩ = some (.int .i64 M) ∧ w'.cell? ⟨w2.heap.size, 0, none⟩ = some (.int .i64 (a : Int)) ∧ w'.cell? ⟨w2.heap.size, 1, none⟩ = some (.int .i64 (b : Int)) ∧ w'.cell? ⟨w2.heap.size, 2, none⟩ = some (.int .i64 M) ∧ w'.cell? ⟨w2.heap.size, 3, none⟩ = some (.slice (some ⟨g2, 0, none⟩) n n) := by
    intro w' hb
    have kk : ∀ (bk ok : Nat), bk < w4.heap.size → w'.cell? ⟨bk, ok, none⟩ = w4.cell? ⟨bk, ok, none⟩ := fun bk ok hlt => hb.cell (p := ⟨bk, ok, none⟩) hlt
    exact ⟨(kk _ _ (by omega)).trans x0, (kk _ _ (by omega)).trans x1, (kk _ _ (by omega)).trans y0, (kk _ _ (by omega)).trans z0, (kk _ _ (by omega)).trans z1, (kk _ _ (by omega)).trans z2, (kk _ _ (by omega)).trans z3⟩
  replace keepS := Lib.hid keepS
  clear hb4 hb3 hb2 hb1 hb0 hs hsl2 hsl3 hsl4 hal4 hz2 hz3 hz4 h0 h1
  have qtok1 : True := trivial
  have qtok2 : True := trivial
  go_region_held3 (fun w' => w'.cell? ⟨w.heap.size, 0, none⟩ = some (.int .i64 (a : Int)) ∧ w'.cell? ⟨w.heap.size, 1, none⟩ = some (.int .i64 (b : Int)) ∧ w'.cell? ⟨w.heap.size + 1, 0, none⟩ = some (.int .i64 M) ∧ w'.cell? ⟨w2.heap.size, 0, none⟩ = some (.int .i64 (a : Int)) ∧ w'.cell? ⟨w2.heap.size, 1, none⟩ = some (.int .i64 (b : Int)) ∧ w'.cell? ⟨w2.heap.size, 2, none⟩ = some (.int .i64 M) ∧ w'.cell? ⟨w2.heap.size, 3, none⟩ = some (.slice (some ⟨g2, 0, none⟩) n n)) (exact keepS.out _ (by repeat (first | exact qB3 | exact qB2 | exact qB1 | exact (Below.refl w4.heap.size w4) | refine Below.drew ?_ | refine Below.drewN ?_ _ | refine Below.alloc ?_ (by first | omega | (simp <;> omega)) _))) (first | (go_at_call 24; clear qtok1; refine (hcL.out _ (hsx.out _ (by repeat (first | exact (Below.refl w4.heap.size w4) | refine Below.drew ?_ | refine Below.drewN ?_ _ | refine Below.alloc ?_ (by first | omega | (simp <;> omega)) _)))).mono ?_; rintro e qw1 ⟨gL, cL, rfl, hslL, qh1⟩; have qB1 : Below w4.heap.size w4 qw1 := Below.trans (by repeat (first | exact (Below.refl w4.heap.size w4) | refine Below.drew ?_ | refine Below.drewN ?_ _ | refine Below.alloc ?_ (by first | omega | (simp <;> omega)) _)) (qh1.mono (by first | omega | (simp <;> omega))); have qs1 := qB1.size; replace hslL := Lib.hid hslL) | (go_at_call 21; clear qtok2; refine (hcS.out _ _ _ _ (hsr.out _ (by repeat (first | exact qB1 | refine Below.drew ?_ | refine Below.drewN ?_ _ | refine Below.alloc ?_ (by first | omega | (simp <;> omega)) _))) (hslL.out.below (by repeat (first | exact (Below.refl qw1.heap.size qw1) | refine Below.drew ?_ | refine Below.drewN ?_ _ | refine Below.alloc ?_ (by first | omega | (simp <;> omega)) _)) (Nat.le_refl _))).mono ?_; rintro e qw2 ⟨rfl, qh2⟩; have qB2 : Below w4.heap.size w4 qw2 := Below.trans (by repeat (first | exact qB1 | refine Below.drew ?_ | refine Below.drewN ?_ _ | refine Below.alloc ?_ (by first | omega | (simp <;> omega)) _)) (qh2.mono (by first | omega | (simp <;> omega))); have qs2 := qB2.size) | (go_at_call 19; refine (hcE.out _ _ (hsx.out _ (by repeat (first | exact qB2 | refine Below.drew ?_ | refine Below.drewN ?_ _ | refine Below.alloc ?_ (by first | omega | (simp <;> omega)) _))) (hsa.out _ (by repeat (first | exact qB2 | refine Below.drew ?_ | refine Below.drewN ?_ _ | refine Below.alloc ?_ (by first | omega | (simp <;> omega)) _)))).mono ?_; rintro e qw3 ⟨rfl, qh3⟩; have qB3 : Below w4.heap.size w4 qw3 := Below.trans (by repeat (first | exact qB2 | refine Below.drew ?_ | refine Below.drewN ?_ _ | refine Below.alloc ?_ (by first | omega | (simp <;> omega)) _)) (qh3.mono (by first | omega | (simp <;> omega))); have qs3 := qB3.size))
  go_wp2
  go_ret
  exact ⟨ret_bool (by first | rfl | simp), hfin.out _ qB3⟩

theorem lawRest_any (a b M : Int) (A : Option Addr) (n c : Nat) (l : List Int) (w : World) (h : Sl w A n c l) :
    Calls Try.prog 5 #[.agg #[.int .i64 a, .int .i64 b], .int .i64 M, .slice A n c] w fun e w' => e = .returned (.bool true) ∧ Below w.heap.size w w' := by
  by_cases hn : 200 < n
  · exact lawRest_many a b M A n c l w h hn
  cases hf : hfm a b M with
  | false => exact lawRest_form a b M A n c l w h (by omega) hf
  | true =>
    by_cases hz : (l.length : Int) = a * b
    · cases hbb : (l.any fun x => !win x 0 M) with
      | true => exact lawRest_out a b M A n c l w h (by omega) hf hz hbb
      | false =>
        have hr := hfm_iff.1 hf
        obtain ⟨x, rfl⟩ : ∃ x : Nat, a = (x : Int) := ⟨a.toNat, by omega⟩
        obtain ⟨y, rfl⟩ : ∃ y : Nat, b = (y : Int) := ⟨b.toNat, by omega⟩
        exact lawRest_ok x y M A n c l w h (by omega) hf hz hbb
    · exact lawRest_size a b M A n c l w h (by omega) hf hz

end Go.Proofs.Ytcnlghkdhpgnmaa
