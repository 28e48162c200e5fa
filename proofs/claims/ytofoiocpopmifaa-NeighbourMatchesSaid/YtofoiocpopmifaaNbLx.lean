/-
  Walk: the law of the matches.
-/
import Derived.Test.YtofoiocpopmifaaNbLt
import Derived.Test.YtofoiocpopmifaaNbLn
set_option linter.unusedSimpArgs false
set_option linter.unusedVariables false
namespace Go.Proofs.Ytofoiocpopmifaa
open Go.RowKit

theorem SR.two {w : World} {A A2 : Option Addr} {n c n2 c2 : Nat} : SR (w.alloc (.cells #[.slice A n c, .slice A2 n2 c2] 22)) (some ⟨w.heap.size, 0, none⟩) 2 2 1 (lcells [(A, n, c), (A2, n2, c2)]) := SR.lit w (lcells [(A, n, c), (A2, n2, c2)]) 22 2 1 rfl (by omega)
theorem fewB_iff {n : Nat} : fewB n = true ↔ n ≤ 20 ∨ 64 < n ∧ n ≤ 80 := by simp [fewB]

set_option maxRecDepth 100000 in
set_option maxHeartbeats 1600000 in
theorem lawMatches_no1 (A : Option Addr) (n c : Nat) (A2 : Option Addr) (n2 c2 : Nat) (u v : Int) (w : World) (hn : n ≤ 9223372036854775807) (hn2 : n2 ≤ 9223372036854775807) (hf1 : fewB n = false) :
    Calls Try.prog 8 #[.slice A n c, .slice A2 n2 c2, .agg #[.int .i64 u, .int .i64 v]] w fun e w' => e = .returned (.bool true) ∧ Below w.heap.size w w' := by
  have hk := Lib.hid (known_any (w.alloc (.cells #[.int .i64 u, .int .i64 v] 47)))
  have hb0 : Below w.heap.size w (w.alloc (.cells #[.int .i64 u, .int .i64 v] 47)) := (Below.refl _ _).alloc (Nat.le_refl _) _
  have q0 := cell_of_row _ w.heap.size 0 _ _ _ (heap_alloc_new w (.cells #[.int .i64 u, .int .i64 v] 47))
  have q1 := cell_of_row _ w.heap.size 1 _ _ _ (heap_alloc_new w (.cells #[.int .i64 u, .int .i64 v] 47))
  simp only [List.getElem?_toArray, List.getElem?_cons_zero, List.getElem?_cons_succ] at q0 q1
  obtain ⟨W1, hW1⟩ : ∃ W1, w.alloc (.cells #[.int .i64 u, .int .i64 v] 47) = W1 := ⟨_, rfl⟩
  have z1 : W1.heap.size = w.heap.size + 1 := by rw [← hW1]; simp
  rw [hW1] at hk hb0 q0 q1
  have kf1 := Lib.hid (fun W => few_any A n c W hn hf1)
  replace z1 := Lib.hid z1
  replace q0 := Lib.hid q0
  replace q1 := Lib.hid q1
  replace hf1 := Lib.hid hf1
  have tok : True := trivial
  go_enter Try.func8, Try.ntmps8
  go_wp2_with (first
    | (go_at_call 11; refine hk.out.mono ?_; rintro e w1 ⟨rfl, hbw⟩; have hz1 : w.heap.size < w1.heap.size := (by have := hbw.size; have := z1.out; omega); have t0 := (hbw.cell (p := ⟨w.heap.size, 0, none⟩) (by have := z1.out; show w.heap.size < _; omega)).trans q0.out; have t1 := (hbw.cell (p := ⟨w.heap.size, 1, none⟩) (by have := z1.out; show w.heap.size < _; omega)).trans q1.out; have hB1 := hb0.trans (hbw.mono hb0.size))
    | (go_at_call 12; clear tok; refine (kf1.out _).mono ?_; rintro e w' ⟨rfl, rfl⟩))
  go_ret
  exact ⟨rfl, hB1⟩

set_option maxRecDepth 100000 in
set_option maxHeartbeats 1600000 in
theorem lawMatches_no2 (A : Option Addr) (n c : Nat) (A2 : Option Addr) (n2 c2 : Nat) (u v : Int) (w : World) (hn : n ≤ 9223372036854775807) (hn2 : n2 ≤ 9223372036854775807) (hf1 : fewB n = true) (hf2 : fewB n2 = false) :
    Calls Try.prog 8 #[.slice A n c, .slice A2 n2 c2, .agg #[.int .i64 u, .int .i64 v]] w fun e w' => e = .returned (.bool true) ∧ Below w.heap.size w w' := by
  have hk := Lib.hid (known_any (w.alloc (.cells #[.int .i64 u, .int .i64 v] 47)))
  have hb0 : Below w.heap.size w (w.alloc (.cells #[.int .i64 u, .int .i64 v] 47)) := (Below.refl _ _).alloc (Nat.le_refl _) _
  have q0 := cell_of_row _ w.heap.size 0 _ _ _ (heap_alloc_new w (.cells #[.int .i64 u, .int .i64 v] 47))
  have q1 := cell_of_row _ w.heap.size 1 _ _ _ (heap_alloc_new w (.cells #[.int .i64 u, .int .i64 v] 47))
  simp only [List.getElem?_toArray, List.getElem?_cons_zero, List.getElem?_cons_succ] at q0 q1
  obtain ⟨W1, hW1⟩ : ∃ W1, w.alloc (.cells #[.int .i64 u, .int .i64 v] 47) = W1 := ⟨_, rfl⟩
  have z1 : W1.heap.size = w.heap.size + 1 := by rw [← hW1]; simp
  rw [hW1] at hk hb0 q0 q1
  have kf1 := Lib.hid (fun W => few_any A n c W hn hf1)
  replace z1 := Lib.hid z1
  replace q0 := Lib.hid q0
  replace q1 := Lib.hid q1
  replace hf1 := Lib.hid hf1
  have kf2 := Lib.hid (fun W => few_any A2 n2 c2 W hn2 hf2)
  replace hf2 := Lib.hid hf2
  have tok : True := trivial
  go_enter Try.func8, Try.ntmps8
  go_wp2_with (first
    | (go_at_call 11; refine hk.out.mono ?_; rintro e w1 ⟨rfl, hbw⟩; have hz1 : w.heap.size < w1.heap.size := (by have := hbw.size; have := z1.out; omega); have t0 := (hbw.cell (p := ⟨w.heap.size, 0, none⟩) (by have := z1.out; show w.heap.size < _; omega)).trans q0.out; have t1 := (hbw.cell (p := ⟨w.heap.size, 1, none⟩) (by have := z1.out; show w.heap.size < _; omega)).trans q1.out; have hB1 := hb0.trans (hbw.mono hb0.size))
    | (go_at_call 12; clear tok; refine (kf1.out _).mono ?_; rintro e w' ⟨rfl, rfl⟩)
    | (go_at_call 12; refine (kf2.out _).mono ?_; rintro e w' ⟨rfl, rfl⟩))
  go_ret
  exact ⟨rfl, hB1⟩

set_option maxRecDepth 100000 in
set_option maxHeartbeats 1600000 in
theorem lawMatches_long (A : Option Addr) (n c : Nat) (A2 : Option Addr) (n2 c2 : Nat) (u v : Int) (w : World) (hn : n ≤ 9223372036854775807) (hn2 : n2 ≤ 9223372036854775807) (hf1 : fewB n = true) (hf2 : fewB n2 = true) (hl : 64 < n ∨ 64 < n2) :
    Calls Try.prog 8 #[.slice A n c, .slice A2 n2 c2, .agg #[.int .i64 u, .int .i64 v]] w fun e w' => e = .returned (.bool true) ∧ Below w.heap.size w w' := by
  have hk := Lib.hid (known_any (w.alloc (.cells #[.int .i64 u, .int .i64 v] 47)))
  have hb0 : Below w.heap.size w (w.alloc (.cells #[.int .i64 u, .int .i64 v] 47)) := (Below.refl _ _).alloc (Nat.le_refl _) _
  have q0 := cell_of_row _ w.heap.size 0 _ _ _ (heap_alloc_new w (.cells #[.int .i64 u, .int .i64 v] 47))
  have q1 := cell_of_row _ w.heap.size 1 _ _ _ (heap_alloc_new w (.cells #[.int .i64 u, .int .i64 v] 47))
  simp only [List.getElem?_toArray, List.getElem?_cons_zero, List.getElem?_cons_succ] at q0 q1
  obtain ⟨W1, hW1⟩ : ∃ W1, w.alloc (.cells #[.int .i64 u, .int .i64 v] 47) = W1 := ⟨_, rfl⟩
  have z1 : W1.heap.size = w.heap.size + 1 := by rw [← hW1]; simp
  rw [hW1] at hk hb0 q0 q1
  have kf1 := Lib.hid (fun W => few_any A n c W hn hf1)
  replace z1 := Lib.hid z1
  replace q0 := Lib.hid q0
  replace q1 := Lib.hid q1
  replace hf1 := Lib.hid hf1
  have kl := Lib.hid (fun W : World => long_any (some ⟨W.heap.size, 0, none⟩) 2 2 [(A, n, c), (A2, n2, c2)] _ (SR.two (w := W)) (by intro p hp; simp at hp; rcases hp with rfl | rfl <;> assumption) (b := true) (by simp [longB]; exact hl))
  have km := Lib.hid (fun W => Matches_long A n c A2 n2 c2 u v W hn hn2 hl)
  replace hl := Lib.hid hl
  have kf2 := Lib.hid (fun W => few_any A2 n2 c2 W hn2 hf2)
  replace hf2 := Lib.hid hf2
  have tok : True := trivial
  go_enter Try.func8, Try.ntmps8
  go_wp2_with (first
    | (go_at_call 11; refine hk.out.mono ?_; rintro e w1 ⟨rfl, hbw⟩; have hz1 : w.heap.size < w1.heap.size := (by have := hbw.size; have := z1.out; omega); have t0 := (hbw.cell (p := ⟨w.heap.size, 0, none⟩) (by have := z1.out; show w.heap.size < _; omega)).trans q0.out; have t1 := (hbw.cell (p := ⟨w.heap.size, 1, none⟩) (by have := z1.out; show w.heap.size < _; omega)).trans q1.out; have hB1 := hb0.trans (hbw.mono hb0.size))
    | (go_at_call 12; clear tok; refine (kf1.out _).mono ?_; rintro e w' ⟨rfl, rfl⟩)
    | (go_at_call 12; refine (kf2.out _).mono ?_; rintro e w' ⟨rfl, rfl⟩)
    | (go_at_call 24; refine (km.out _).mono ?_; rintro e w' ⟨rfl, rfl⟩)
    | (go_at_call 15; refine (kl.out _).mono ?_; rintro e w' ⟨rfl, rfl⟩))
  go_ret
  exact ⟨rfl, hB1.alloc hB1.size _⟩

set_option maxRecDepth 100000 in
set_option maxHeartbeats 1600000 in
theorem lawMatches_range1 (A : Option Addr) (n c : Nat) (A2 : Option Addr) (n2 c2 : Nat) (u v : Int) (w : World) (hn : n ≤ 9223372036854775807) (hn2 : n2 ≤ 9223372036854775807) (hf1 : fewB n = true) (hf2 : fewB n2 = true) (hl : ¬ (64 < n ∨ 64 < n2)) (hr : win u 1 1000 = false ∨ win v 1 1000 = false) (hu : u < 1) :
    Calls Try.prog 8 #[.slice A n c, .slice A2 n2 c2, .agg #[.int .i64 u, .int .i64 v]] w fun e w' => e = .returned (.bool true) ∧ Below w.heap.size w w' := by
  have hs1 : n ≤ 20 := by have := fewB_iff.1 hf1; omega
  have hs2 : n2 ≤ 20 := by have := fewB_iff.1 hf2; omega
  have hk := Lib.hid (known_any (w.alloc (.cells #[.int .i64 u, .int .i64 v] 47)))
  have hb0 : Below w.heap.size w (w.alloc (.cells #[.int .i64 u, .int .i64 v] 47)) := (Below.refl _ _).alloc (Nat.le_refl _) _
  have q0 := cell_of_row _ w.heap.size 0 _ _ _ (heap_alloc_new w (.cells #[.int .i64 u, .int .i64 v] 47))
  have q1 := cell_of_row _ w.heap.size 1 _ _ _ (heap_alloc_new w (.cells #[.int .i64 u, .int .i64 v] 47))
  simp only [List.getElem?_toArray, List.getElem?_cons_zero, List.getElem?_cons_succ] at q0 q1
  obtain ⟨W1, hW1⟩ : ∃ W1, w.alloc (.cells #[.int .i64 u, .int .i64 v] 47) = W1 := ⟨_, rfl⟩
  have z1 : W1.heap.size = w.heap.size + 1 := by rw [← hW1]; simp
  rw [hW1] at hk hb0 q0 q1
  have kf1 := Lib.hid (fun W => few_any A n c W hn hf1)
  replace z1 := Lib.hid z1
  replace q0 := Lib.hid q0
  replace q1 := Lib.hid q1
  replace hf1 := Lib.hid hf1
  have kl := Lib.hid (fun W : World => long_any (some ⟨W.heap.size, 0, none⟩) 2 2 [(A, n, c), (A2, n2, c2)] _ (SR.two (w := W)) (by intro p hp; simp at hp; rcases hp with rfl | rfl <;> assumption) (b := false) (by simp [longB]; omega))
  have km := Lib.hid (fun W => Matches_range A n c A2 n2 c2 u v W (by omega) (by omega) hr)
  replace hr := Lib.hid hr
  replace hl := Lib.hid hl
  have kf2 := Lib.hid (fun W => few_any A2 n2 c2 W hn2 hf2)
  replace hf2 := Lib.hid hf2
  have tok : True := trivial
  rcases (by omega : u < v ∨ v ≤ u) with huv | huv
  all_goals
    go_enter Try.func8, Try.ntmps8
    go_wp2_with (first
    | (go_at_call 11; refine hk.out.mono ?_; rintro e w1 ⟨rfl, hbw⟩; have hz1 : w.heap.size < w1.heap.size := (by have := hbw.size; have := z1.out; omega); have t0 := (hbw.cell (p := ⟨w.heap.size, 0, none⟩) (by have := z1.out; show w.heap.size < _; omega)).trans q0.out; have t1 := (hbw.cell (p := ⟨w.heap.size, 1, none⟩) (by have := z1.out; show w.heap.size < _; omega)).trans q1.out; have hB1 := hb0.trans (hbw.mono hb0.size))
    | (go_at_call 12; clear tok; refine (kf1.out _).mono ?_; rintro e w' ⟨rfl, rfl⟩)
    | (go_at_call 12; refine (kf2.out _).mono ?_; rintro e w' ⟨rfl, rfl⟩)
    | (go_at_call 24; refine (km.out _).mono ?_; rintro e w' ⟨rfl, rfl⟩)
    | (go_at_call 15; refine (kl.out _).mono ?_; rintro e w' ⟨rfl, rfl⟩))
    all_goals (go_ret; exact ⟨rfl, hB1.alloc hB1.size _⟩)

set_option maxRecDepth 100000 in
set_option maxHeartbeats 1600000 in
theorem lawMatches_range2 (A : Option Addr) (n c : Nat) (A2 : Option Addr) (n2 c2 : Nat) (u v : Int) (w : World) (hn : n ≤ 9223372036854775807) (hn2 : n2 ≤ 9223372036854775807) (hf1 : fewB n = true) (hf2 : fewB n2 = true) (hl : ¬ (64 < n ∨ 64 < n2)) (hr : win u 1 1000 = false ∨ win v 1 1000 = false) (hu : v < 1) :
    Calls Try.prog 8 #[.slice A n c, .slice A2 n2 c2, .agg #[.int .i64 u, .int .i64 v]] w fun e w' => e = .returned (.bool true) ∧ Below w.heap.size w w' := by
  have hs1 : n ≤ 20 := by have := fewB_iff.1 hf1; omega
  have hs2 : n2 ≤ 20 := by have := fewB_iff.1 hf2; omega
  have hk := Lib.hid (known_any (w.alloc (.cells #[.int .i64 u, .int .i64 v] 47)))
  have hb0 : Below w.heap.size w (w.alloc (.cells #[.int .i64 u, .int .i64 v] 47)) := (Below.refl _ _).alloc (Nat.le_refl _) _
  have q0 := cell_of_row _ w.heap.size 0 _ _ _ (heap_alloc_new w (.cells #[.int .i64 u, .int .i64 v] 47))
  have q1 := cell_of_row _ w.heap.size 1 _ _ _ (heap_alloc_new w (.cells #[.int .i64 u, .int .i64 v] 47))
  simp only [List.getElem?_toArray, List.getElem?_cons_zero, List.getElem?_cons_succ] at q0 q1
  obtain ⟨W1, hW1⟩ : ∃ W1, w.alloc (.cells #[.int .i64 u, .int .i64 v] 47) = W1 := ⟨_, rfl⟩
  have z1 : W1.heap.size = w.heap.size + 1 := by rw [← hW1]; simp
  rw [hW1] at hk hb0 q0 q1
  have kf1 := Lib.hid (fun W => few_any A n c W hn hf1)
  replace z1 := Lib.hid z1
  replace q0 := Lib.hid q0
  replace q1 := Lib.hid q1
  replace hf1 := Lib.hid hf1
  have kl := Lib.hid (fun W : World => long_any (some ⟨W.heap.size, 0, none⟩) 2 2 [(A, n, c), (A2, n2, c2)] _ (SR.two (w := W)) (by intro p hp; simp at hp; rcases hp with rfl | rfl <;> assumption) (b := false) (by simp [longB]; omega))
  have km := Lib.hid (fun W => Matches_range A n c A2 n2 c2 u v W (by omega) (by omega) hr)
  replace hr := Lib.hid hr
  replace hl := Lib.hid hl
  have kf2 := Lib.hid (fun W => few_any A2 n2 c2 W hn2 hf2)
  replace hf2 := Lib.hid hf2
  have tok : True := trivial
  rcases (by omega : u < v ∨ v ≤ u) with huv | huv
  all_goals
    go_enter Try.func8, Try.ntmps8
    go_wp2_with (first
    | (go_at_call 11; refine hk.out.mono ?_; rintro e w1 ⟨rfl, hbw⟩; have hz1 : w.heap.size < w1.heap.size := (by have := hbw.size; have := z1.out; omega); have t0 := (hbw.cell (p := ⟨w.heap.size, 0, none⟩) (by have := z1.out; show w.heap.size < _; omega)).trans q0.out; have t1 := (hbw.cell (p := ⟨w.heap.size, 1, none⟩) (by have := z1.out; show w.heap.size < _; omega)).trans q1.out; have hB1 := hb0.trans (hbw.mono hb0.size))
    | (go_at_call 12; clear tok; refine (kf1.out _).mono ?_; rintro e w' ⟨rfl, rfl⟩)
    | (go_at_call 12; refine (kf2.out _).mono ?_; rintro e w' ⟨rfl, rfl⟩)
    | (go_at_call 24; refine (km.out _).mono ?_; rintro e w' ⟨rfl, rfl⟩)
    | (go_at_call 15; refine (kl.out _).mono ?_; rintro e w' ⟨rfl, rfl⟩))
    all_goals (go_ret; exact ⟨rfl, hB1.alloc hB1.size _⟩)

set_option maxRecDepth 100000 in
set_option maxHeartbeats 1600000 in
theorem lawMatches_range3 (A : Option Addr) (n c : Nat) (A2 : Option Addr) (n2 c2 : Nat) (u v : Int) (w : World) (hn : n ≤ 9223372036854775807) (hn2 : n2 ≤ 9223372036854775807) (hf1 : fewB n = true) (hf2 : fewB n2 = true) (hl : ¬ (64 < n ∨ 64 < n2)) (hr : win u 1 1000 = false ∨ win v 1 1000 = false) (hu1 : 1 ≤ u) (hv1 : 1 ≤ v) (hu : 1000 < u) :
    Calls Try.prog 8 #[.slice A n c, .slice A2 n2 c2, .agg #[.int .i64 u, .int .i64 v]] w fun e w' => e = .returned (.bool true) ∧ Below w.heap.size w w' := by
  have hs1 : n ≤ 20 := by have := fewB_iff.1 hf1; omega
  have hs2 : n2 ≤ 20 := by have := fewB_iff.1 hf2; omega
  have hk := Lib.hid (known_any (w.alloc (.cells #[.int .i64 u, .int .i64 v] 47)))
  have hb0 : Below w.heap.size w (w.alloc (.cells #[.int .i64 u, .int .i64 v] 47)) := (Below.refl _ _).alloc (Nat.le_refl _) _
  have q0 := cell_of_row _ w.heap.size 0 _ _ _ (heap_alloc_new w (.cells #[.int .i64 u, .int .i64 v] 47))
  have q1 := cell_of_row _ w.heap.size 1 _ _ _ (heap_alloc_new w (.cells #[.int .i64 u, .int .i64 v] 47))
  simp only [List.getElem?_toArray, List.getElem?_cons_zero, List.getElem?_cons_succ] at q0 q1
  obtain ⟨W1, hW1⟩ : ∃ W1, w.alloc (.cells #[.int .i64 u, .int .i64 v] 47) = W1 := ⟨_, rfl⟩
  have z1 : W1.heap.size = w.heap.size + 1 := by rw [← hW1]; simp
  rw [hW1] at hk hb0 q0 q1
  have kf1 := Lib.hid (fun W => few_any A n c W hn hf1)
  replace z1 := Lib.hid z1
  replace q0 := Lib.hid q0
  replace q1 := Lib.hid q1
  replace hf1 := Lib.hid hf1
  have kl := Lib.hid (fun W : World => long_any (some ⟨W.heap.size, 0, none⟩) 2 2 [(A, n, c), (A2, n2, c2)] _ (SR.two (w := W)) (by intro p hp; simp at hp; rcases hp with rfl | rfl <;> assumption) (b := false) (by simp [longB]; omega))
  have km := Lib.hid (fun W => Matches_range A n c A2 n2 c2 u v W (by omega) (by omega) hr)
  replace hr := Lib.hid hr
  replace hl := Lib.hid hl
  have kf2 := Lib.hid (fun W => few_any A2 n2 c2 W hn2 hf2)
  replace hf2 := Lib.hid hf2
  have tok : True := trivial
  rcases (by omega : u < v ∨ v ≤ u) with huv | huv
  all_goals
    go_enter Try.func8, Try.ntmps8
    go_wp2_with (first
    | (go_at_call 11; refine hk.out.mono ?_; rintro e w1 ⟨rfl, hbw⟩; have hz1 : w.heap.size < w1.heap.size := (by have := hbw.size; have := z1.out; omega); have t0 := (hbw.cell (p := ⟨w.heap.size, 0, none⟩) (by have := z1.out; show w.heap.size < _; omega)).trans q0.out; have t1 := (hbw.cell (p := ⟨w.heap.size, 1, none⟩) (by have := z1.out; show w.heap.size < _; omega)).trans q1.out; have hB1 := hb0.trans (hbw.mono hb0.size))
    | (go_at_call 12; clear tok; refine (kf1.out _).mono ?_; rintro e w' ⟨rfl, rfl⟩)
    | (go_at_call 12; refine (kf2.out _).mono ?_; rintro e w' ⟨rfl, rfl⟩)
    | (go_at_call 24; refine (km.out _).mono ?_; rintro e w' ⟨rfl, rfl⟩)
    | (go_at_call 15; refine (kl.out _).mono ?_; rintro e w' ⟨rfl, rfl⟩))
    all_goals (go_ret; exact ⟨rfl, hB1.alloc hB1.size _⟩)

set_option maxRecDepth 100000 in
set_option maxHeartbeats 1600000 in
theorem lawMatches_range4 (A : Option Addr) (n c : Nat) (A2 : Option Addr) (n2 c2 : Nat) (u v : Int) (w : World) (hn : n ≤ 9223372036854775807) (hn2 : n2 ≤ 9223372036854775807) (hf1 : fewB n = true) (hf2 : fewB n2 = true) (hl : ¬ (64 < n ∨ 64 < n2)) (hr : win u 1 1000 = false ∨ win v 1 1000 = false) (hu1 : 1 ≤ u) (hv1 : 1 ≤ v) (hu : 1000 < v) :
    Calls Try.prog 8 #[.slice A n c, .slice A2 n2 c2, .agg #[.int .i64 u, .int .i64 v]] w fun e w' => e = .returned (.bool true) ∧ Below w.heap.size w w' := by
  have hs1 : n ≤ 20 := by have := fewB_iff.1 hf1; omega
  have hs2 : n2 ≤ 20 := by have := fewB_iff.1 hf2; omega
  have hk := Lib.hid (known_any (w.alloc (.cells #[.int .i64 u, .int .i64 v] 47)))
  have hb0 : Below w.heap.size w (w.alloc (.cells #[.int .i64 u, .int .i64 v] 47)) := (Below.refl _ _).alloc (Nat.le_refl _) _
  have q0 := cell_of_row _ w.heap.size 0 _ _ _ (heap_alloc_new w (.cells #[.int .i64 u, .int .i64 v] 47))
  have q1 := cell_of_row _ w.heap.size 1 _ _ _ (heap_alloc_new w (.cells #[.int .i64 u, .int .i64 v] 47))
  simp only [List.getElem?_toArray, List.getElem?_cons_zero, List.getElem?_cons_succ] at q0 q1
  obtain ⟨W1, hW1⟩ : ∃ W1, w.alloc (.cells #[.int .i64 u, .int .i64 v] 47) = W1 := ⟨_, rfl⟩
  have z1 : W1.heap.size = w.heap.size + 1 := by rw [← hW1]; simp
  rw [hW1] at hk hb0 q0 q1
  have kf1 := Lib.hid (fun W => few_any A n c W hn hf1)
  replace z1 := Lib.hid z1
  replace q0 := Lib.hid q0
  replace q1 := Lib.hid q1
  replace hf1 := Lib.hid hf1
  have kl := Lib.hid (fun W : World => long_any (some ⟨W.heap.size, 0, none⟩) 2 2 [(A, n, c), (A2, n2, c2)] _ (SR.two (w := W)) (by intro p hp; simp at hp; rcases hp with rfl | rfl <;> assumption) (b := false) (by simp [longB]; omega))
  have km := Lib.hid (fun W => Matches_range A n c A2 n2 c2 u v W (by omega) (by omega) hr)
  replace hr := Lib.hid hr
  replace hl := Lib.hid hl
  have kf2 := Lib.hid (fun W => few_any A2 n2 c2 W hn2 hf2)
  replace hf2 := Lib.hid hf2
  have tok : True := trivial
  rcases (by omega : u < v ∨ v ≤ u) with huv | huv
  all_goals
    go_enter Try.func8, Try.ntmps8
    go_wp2_with (first
    | (go_at_call 11; refine hk.out.mono ?_; rintro e w1 ⟨rfl, hbw⟩; have hz1 : w.heap.size < w1.heap.size := (by have := hbw.size; have := z1.out; omega); have t0 := (hbw.cell (p := ⟨w.heap.size, 0, none⟩) (by have := z1.out; show w.heap.size < _; omega)).trans q0.out; have t1 := (hbw.cell (p := ⟨w.heap.size, 1, none⟩) (by have := z1.out; show w.heap.size < _; omega)).trans q1.out; have hB1 := hb0.trans (hbw.mono hb0.size))
    | (go_at_call 12; clear tok; refine (kf1.out _).mono ?_; rintro e w' ⟨rfl, rfl⟩)
    | (go_at_call 12; refine (kf2.out _).mono ?_; rintro e w' ⟨rfl, rfl⟩)
    | (go_at_call 24; refine (km.out _).mono ?_; rintro e w' ⟨rfl, rfl⟩)
    | (go_at_call 15; refine (kl.out _).mono ?_; rintro e w' ⟨rfl, rfl⟩))
    all_goals (go_ret; exact ⟨rfl, hB1.alloc hB1.size _⟩)

end Go.Proofs.Ytofoiocpopmifaa
