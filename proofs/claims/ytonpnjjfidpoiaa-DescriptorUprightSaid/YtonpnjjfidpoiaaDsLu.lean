/-
  Walk: the law of upright words.
-/
import Derived.Test.YtonpnjjfidpoiaaDsUp
import Derived.Test.YtonpnjjfidpoiaaDsLq
set_option linter.unusedSimpArgs false
set_option linter.unusedVariables false
namespace Go.Proofs.Ytonpnjjfidpoiaa
open Go.RowKit

set_option maxRecDepth 100000 in
set_option maxHeartbeats 6400000 in
theorem upright_many (W H : Int) (M : Int) (A : Option Addr) (n c : Nat) (P : List Int) (A2 : Option Addr) (n2 c2 : Nat) (l : List Tst) (x y s : Int) (w : World) (h : Sl w A n c P) (h2 : PS w A2 n2 c2 l) (hm : false = decide (n ≤ 600 ∧ n2 ≤ 70)) :
    Calls Try.prog 9 #[.agg #[.int .i64 W, .int .i64 H, .int .i64 M, .slice A n c], .slice A2 n2 c2, .agg #[.int .i64 x, .int .i64 y, .int .i64 s]] w fun e w' => e = .returned (.bool true) ∧ Below w.heap.size w w' := by
  have hcap := h.le_cap
  have hcl := h.cap_le
  have hcap2 := h2.le_cap
  have hcl2 := h2.cap_le
  have hs := Lib.hid (fun w' (hb : Below w.heap.size w w') => h.below hb (Nat.le_refl _))
  have hp := Lib.hid (fun w' (hb : Below w.heap.size w w') => h2.below hb (Nat.le_refl _))
  have hB0 := ((Below.refl w.heap.size w).alloc (by first | exact Nat.le_refl _ | (simp <;> omega)) (.cells #[.int .i64 W, .int .i64 H, .int .i64 M, .slice A n c] 37)).alloc (by first | exact Nat.le_refl _ | (simp <;> omega)) (.cells #[.int .i64 x, .int .i64 y, .int .i64 s] 64)
  have k0 : KB _ _ _ _ := ((KB.new w #[.int .i64 W, .int .i64 H, .int .i64 M, .slice A n c] 37).alloc (.cells #[.int .i64 x, .int .i64 y, .int .i64 s] 64))
  have k1 : KB _ _ _ _ := (KB.new (w.alloc (.cells #[.int .i64 W, .int .i64 H, .int .i64 M, .slice A n c] 37)) #[.int .i64 x, .int .i64 y, .int .i64 s] 64)
  simp only [World.size_alloc] at k1
  clear h h2
  replace hm := Lib.hid hm
  go_enter Try.func9, Try.ntmps9
  go_wp2_with (first
    | (go_at_call 11; refine (known_any _).mono ?_; rintro e w1 ⟨rfl, hb1⟩; (try simp only [World.size_alloc] at hb1); have z1 := hb1.size; (try simp only [World.size_alloc] at z1); replace k0 := k0.below hb1 (by omega); replace k1 := k1.below hb1 (by omega); have hB1 := Below.trans hB0 (hb1.mono (by omega)); have k0_0 := k0.cell 0 rfl; have k0_1 := k0.cell 1 rfl; have k0_2 := k0.cell 2 rfl; have k0_3 := k0.cell 3 rfl; have k1_0 := k1.cell 0 rfl; have k1_1 := k1.cell 1 rfl; have k1_2 := k1.cell 2 rfl)
    | (go_at_call 17; refine (few_any W H M A n c A2 n2 c2 _ (by omega) (by omega) hm.out).mono ?_; rintro e w2 ⟨rfl, hb2⟩; (try simp only [World.size_alloc] at hb2); have z2 := hb2.size; (try simp only [World.size_alloc] at z2); replace k0 := k0.below hb2 (by omega); replace k1 := k1.below hb2 (by omega); have hB2 := Below.trans hB1 (hb2.mono (by omega)); clear k0_0 k0_1 k0_2 k0_3 k1_0 k1_1 k1_2; have k0_0 := k0.cell 0 rfl; have k0_1 := k0.cell 1 rfl; have k0_2 := k0.cell 2 rfl; have k0_3 := k0.cell 3 rfl; have k1_0 := k1.cell 0 rfl; have k1_1 := k1.cell 1 rfl; have k1_2 := k1.cell 2 rfl))
  go_ret
  exact ⟨rfl, hB2⟩

set_option maxRecDepth 100000 in
set_option maxHeartbeats 6400000 in
theorem upright_more (W H : Int) (M : Int) (A : Option Addr) (n c : Nat) (P : List Int) (A2 : Option Addr) (n2 c2 : Nat) (l : List Tst) (x y s : Int) (w : World) (h : Sl w A n c P) (h2 : PS w A2 n2 c2 l) (hm : true = decide (n ≤ 600 ∧ n2 ≤ 70)) (h20 : 20 < n2) :
    Calls Try.prog 9 #[.agg #[.int .i64 W, .int .i64 H, .int .i64 M, .slice A n c], .slice A2 n2 c2, .agg #[.int .i64 x, .int .i64 y, .int .i64 s]] w fun e w' => e = .returned (.bool true) ∧ Below w.heap.size w w' := by
  have hcap := h.le_cap
  have hcl := h.cap_le
  have hcap2 := h2.le_cap
  have hcl2 := h2.cap_le
  have hs := Lib.hid (fun w' (hb : Below w.heap.size w w') => h.below hb (Nat.le_refl _))
  have hp := Lib.hid (fun w' (hb : Below w.heap.size w w') => h2.below hb (Nat.le_refl _))
  have hB0 := ((Below.refl w.heap.size w).alloc (by first | exact Nat.le_refl _ | (simp <;> omega)) (.cells #[.int .i64 W, .int .i64 H, .int .i64 M, .slice A n c] 37)).alloc (by first | exact Nat.le_refl _ | (simp <;> omega)) (.cells #[.int .i64 x, .int .i64 y, .int .i64 s] 64)
  have k0 : KB _ _ _ _ := ((KB.new w #[.int .i64 W, .int .i64 H, .int .i64 M, .slice A n c] 37).alloc (.cells #[.int .i64 x, .int .i64 y, .int .i64 s] 64))
  have k1 : KB _ _ _ _ := (KB.new (w.alloc (.cells #[.int .i64 W, .int .i64 H, .int .i64 M, .slice A n c] 37)) #[.int .i64 x, .int .i64 y, .int .i64 s] 64)
  simp only [World.size_alloc] at k1
  clear h h2
  have h20' : 20 < (n2 : Int) := by omega
  replace hm := Lib.hid hm
  go_enter Try.func9, Try.ntmps9
  go_wp2_with (first
    | (go_at_call 11; refine (known_any _).mono ?_; rintro e w1 ⟨rfl, hb1⟩; (try simp only [World.size_alloc] at hb1); have z1 := hb1.size; (try simp only [World.size_alloc] at z1); replace k0 := k0.below hb1 (by omega); replace k1 := k1.below hb1 (by omega); have hB1 := Below.trans hB0 (hb1.mono (by omega)); have k0_0 := k0.cell 0 rfl; have k0_1 := k0.cell 1 rfl; have k0_2 := k0.cell 2 rfl; have k0_3 := k0.cell 3 rfl; have k1_0 := k1.cell 0 rfl; have k1_1 := k1.cell 1 rfl; have k1_2 := k1.cell 2 rfl)
    | (go_at_call 17; refine (few_any W H M A n c A2 n2 c2 _ (by omega) (by omega) hm.out).mono ?_; rintro e w2 ⟨rfl, hb2⟩; (try simp only [World.size_alloc] at hb2); have z2 := hb2.size; (try simp only [World.size_alloc] at z2); replace k0 := k0.below hb2 (by omega); replace k1 := k1.below hb2 (by omega); have hB2 := Below.trans hB1 (hb2.mono (by omega)); clear k0_0 k0_1 k0_2 k0_3 k1_0 k1_1 k1_2; have k0_0 := k0.cell 0 rfl; have k0_1 := k0.cell 1 rfl; have k0_2 := k0.cell 2 rfl; have k0_3 := k0.cell 3 rfl; have k1_0 := k1.cell 0 rfl; have k1_1 := k1.cell 1 rfl; have k1_2 := k1.cell 2 rfl))
  go_ret
  exact ⟨rfl, hB2⟩

set_option maxRecDepth 100000 in
set_option maxHeartbeats 6400000 in
theorem upright_bad (W H : Int) (M : Int) (A : Option Addr) (n c : Nat) (P : List Int) (A2 : Option Addr) (n2 c2 : Nat) (l : List Tst) (x y s : Int) (w : World) (h : Sl w A n c P) (h2 : PS w A2 n2 c2 l) (hm : true = decide (n ≤ 600 ∧ n2 ≤ 70)) (h20 : ¬ 20 < n2) (hr : rcode W H M P l = 1) :
    Calls Try.prog 9 #[.agg #[.int .i64 W, .int .i64 H, .int .i64 M, .slice A n c], .slice A2 n2 c2, .agg #[.int .i64 x, .int .i64 y, .int .i64 s]] w fun e w' => e = .returned (.bool true) ∧ Below w.heap.size w w' := by
  have hcap := h.le_cap
  have hcl := h.cap_le
  have hcap2 := h2.le_cap
  have hcl2 := h2.cap_le
  have hs := Lib.hid (fun w' (hb : Below w.heap.size w w') => h.below hb (Nat.le_refl _))
  have hp := Lib.hid (fun w' (hb : Below w.heap.size w w') => h2.below hb (Nat.le_refl _))
  have hB0 := ((Below.refl w.heap.size w).alloc (by first | exact Nat.le_refl _ | (simp <;> omega)) (.cells #[.int .i64 W, .int .i64 H, .int .i64 M, .slice A n c] 37)).alloc (by first | exact Nat.le_refl _ | (simp <;> omega)) (.cells #[.int .i64 x, .int .i64 y, .int .i64 s] 64)
  have k0 : KB _ _ _ _ := ((KB.new w #[.int .i64 W, .int .i64 H, .int .i64 M, .slice A n c] 37).alloc (.cells #[.int .i64 x, .int .i64 y, .int .i64 s] 64))
  have k1 : KB _ _ _ _ := (KB.new (w.alloc (.cells #[.int .i64 W, .int .i64 H, .int .i64 M, .slice A n c] 37)) #[.int .i64 x, .int .i64 y, .int .i64 s] 64)
  simp only [World.size_alloc] at k1
  clear h h2
  have h20' : ¬ 20 < (n2 : Int) := by omega
  replace hm := Lib.hid hm
  replace hr := Lib.hid hr
  go_enter Try.func9, Try.ntmps9
  go_wp2_with (first
    | (go_at_call 11; refine (known_any _).mono ?_; rintro e w1 ⟨rfl, hb1⟩; (try simp only [World.size_alloc] at hb1); have z1 := hb1.size; (try simp only [World.size_alloc] at z1); replace k0 := k0.below hb1 (by omega); replace k1 := k1.below hb1 (by omega); have hB1 := Below.trans hB0 (hb1.mono (by omega)); have k0_0 := k0.cell 0 rfl; have k0_1 := k0.cell 1 rfl; have k0_2 := k0.cell 2 rfl; have k0_3 := k0.cell 3 rfl; have k1_0 := k1.cell 0 rfl; have k1_1 := k1.cell 1 rfl; have k1_2 := k1.cell 2 rfl)
    | (go_at_call 17; refine (few_any W H M A n c A2 n2 c2 _ (by omega) (by omega) hm.out).mono ?_; rintro e w2 ⟨rfl, hb2⟩; (try simp only [World.size_alloc] at hb2); have z2 := hb2.size; (try simp only [World.size_alloc] at z2); replace k0 := k0.below hb2 (by omega); replace k1 := k1.below hb2 (by omega); have hB2 := Below.trans hB1 (hb2.mono (by omega)); clear k0_0 k0_1 k0_2 k0_3 k1_0 k1_1 k1_2; have k0_0 := k0.cell 0 rfl; have k0_1 := k0.cell 1 rfl; have k0_2 := k0.cell 2 rfl; have k0_3 := k0.cell 3 rfl; have k1_0 := k1.cell 0 rfl; have k1_1 := k1.cell 1 rfl; have k1_2 := k1.cell 2 rfl)
    | (go_at_call 32; refine (Upright_bad W H M A n c P A2 n2 c2 l x y s _ (hs.out _ hB2) (hp.out _ hB2) hr.out).mono ?_; rintro e w3 ⟨rfl, hb3⟩; (try simp only [World.size_alloc] at hb3); have z3 := hb3.size; (try simp only [World.size_alloc] at z3); replace k0 := k0.below hb3 (by omega); replace k1 := k1.below hb3 (by omega); have hB3 := Below.trans hB2 (hb3.mono (by omega)); clear k0_0 k0_1 k0_2 k0_3 k1_0 k1_1 k1_2; have k0_0 := k0.cell 0 rfl; have k0_1 := k0.cell 1 rfl; have k0_2 := k0.cell 2 rfl; have k0_3 := k0.cell 3 rfl; have k1_0 := k1.cell 0 rfl; have k1_1 := k1.cell 1 rfl; have k1_2 := k1.cell 2 rfl)
    | (go_at_call 19; refine (code_at (hs.out _ hB3) (hp.out _ hB3) hr.out).mono ?_; rintro e w4 ⟨rfl, hb4⟩; (try simp only [World.size_alloc] at hb4); have z4 := hb4.size; (try simp only [World.size_alloc] at z4); replace k0 := k0.below hb4 (by omega); replace k1 := k1.below hb4 (by omega); have hB4 := Below.trans hB3 (hb4.mono (by omega)); clear k0_0 k0_1 k0_2 k0_3 k1_0 k1_1 k1_2; have k0_0 := k0.cell 0 rfl; have k0_1 := k0.cell 1 rfl; have k0_2 := k0.cell 2 rfl; have k0_3 := k0.cell 3 rfl; have k1_0 := k1.cell 0 rfl; have k1_1 := k1.cell 1 rfl; have k1_2 := k1.cell 2 rfl))
  go_ret
  exact ⟨rfl, hB4⟩

set_option maxRecDepth 100000 in
set_option maxHeartbeats 6400000 in
theorem upright_err (a b : Nat) (M : Int) (A : Option Addr) (n c : Nat) (P : List Int) (A2 : Option Addr) (n2 c2 : Nat) (l : List Tst) (x y s : Int) (w : World) (h : Sl w A n c P) (h2 : PS w A2 n2 c2 l) (hm : true = decide (n ≤ 600 ∧ n2 ≤ 70)) (h20 : ¬ 20 < n2) (hr : Ras a b M P) (hl : pat l = true) {cc : Int} (hcz : cc ≠ 0)
    (hQ : ∀ w', Below w.heap.size w w' → Calls Try.prog 30 #[.agg #[.int .i64 a, .int .i64 b, .int .i64 M, .slice A n c], .int .i64 x, .int .i64 y, .int .i64 s] w' (RetN w' 0 cc))
    (hq : ∀ w', Below w.heap.size w w' → Calls Try.prog 31 #[.agg #[.int .i64 a, .int .i64 b, .int .i64 M, .slice A n c], .int .i64 x, .int .i64 y, .int .i64 s] w' (RetN w' 0 cc)) :
    Calls Try.prog 9 #[.agg #[.int .i64 a, .int .i64 b, .int .i64 M, .slice A n c], .slice A2 n2 c2, .agg #[.int .i64 x, .int .i64 y, .int .i64 s]] w fun e w' => e = .returned (.bool true) ∧ Below w.heap.size w w' := by
  have hcap := h.le_cap
  have hcl := h.cap_le
  have hcap2 := h2.le_cap
  have hcl2 := h2.cap_le
  have hs := Lib.hid (fun w' (hb : Below w.heap.size w w') => h.below hb (Nat.le_refl _))
  have hp := Lib.hid (fun w' (hb : Below w.heap.size w w') => h2.below hb (Nat.le_refl _))
  have hB0 := ((Below.refl w.heap.size w).alloc (by first | exact Nat.le_refl _ | (simp <;> omega)) (.cells #[.int .i64 a, .int .i64 b, .int .i64 M, .slice A n c] 37)).alloc (by first | exact Nat.le_refl _ | (simp <;> omega)) (.cells #[.int .i64 x, .int .i64 y, .int .i64 s] 64)
  have k0 : KB _ _ _ _ := ((KB.new w #[.int .i64 a, .int .i64 b, .int .i64 M, .slice A n c] 37).alloc (.cells #[.int .i64 x, .int .i64 y, .int .i64 s] 64))
  have k1 : KB _ _ _ _ := (KB.new (w.alloc (.cells #[.int .i64 a, .int .i64 b, .int .i64 M, .slice A n c] 37)) #[.int .i64 x, .int .i64 y, .int .i64 s] 64)
  simp only [World.size_alloc] at k1
  clear h h2
  have h20' : ¬ 20 < (n2 : Int) := by omega
  have hc1 : ((cc : Int) != 0) = true := by simp [hcz]
  have hc2 : ((cc : Int) == cc) = true := by simp
  replace hcz := Lib.hid hcz
  replace hQ := Lib.hid hQ
  replace hq := Lib.hid hq
  have hc := Lib.hid (rcode_ok hr hl)
  replace hm := Lib.hid hm
  replace hr := Lib.hid hr
  replace hl := Lib.hid hl
  go_enter Try.func9, Try.ntmps9
  go_wp2_with (first
    | (go_at_call 11; refine (known_any _).mono ?_; rintro e w1 ⟨rfl, hb1⟩; (try simp only [World.size_alloc] at hb1); have z1 := hb1.size; (try simp only [World.size_alloc] at z1); replace k0 := k0.below hb1 (by omega); replace k1 := k1.below hb1 (by omega); have hB1 := Below.trans hB0 (hb1.mono (by omega)); have k0_0 := k0.cell 0 rfl; have k0_1 := k0.cell 1 rfl; have k0_2 := k0.cell 2 rfl; have k0_3 := k0.cell 3 rfl; have k1_0 := k1.cell 0 rfl; have k1_1 := k1.cell 1 rfl; have k1_2 := k1.cell 2 rfl)
    | (go_at_call 17; refine (few_any a b M A n c A2 n2 c2 _ (by omega) (by omega) hm.out).mono ?_; rintro e w2 ⟨rfl, hb2⟩; (try simp only [World.size_alloc] at hb2); have z2 := hb2.size; (try simp only [World.size_alloc] at z2); replace k0 := k0.below hb2 (by omega); replace k1 := k1.below hb2 (by omega); have hB2 := Below.trans hB1 (hb2.mono (by omega)); clear k0_0 k0_1 k0_2 k0_3 k1_0 k1_1 k1_2; have k0_0 := k0.cell 0 rfl; have k0_1 := k0.cell 1 rfl; have k0_2 := k0.cell 2 rfl; have k0_3 := k0.cell 3 rfl; have k1_0 := k1.cell 0 rfl; have k1_1 := k1.cell 1 rfl; have k1_2 := k1.cell 2 rfl)
    | (go_at_call 32; refine (Upright_err a b M A n c P A2 n2 c2 l x y s _ (hs.out _ hB2) (hp.out _ hB2) hr.out hl.out hcz.out (fun w' hb => hQ.out w' (btr3 hB2 hb (by have := Below.size hB2; omega)))).mono ?_; rintro e w3 ⟨rfl, hb3⟩; (try simp only [World.size_alloc] at hb3); have z3 := hb3.size; (try simp only [World.size_alloc] at z3); replace k0 := k0.below hb3 (by omega); replace k1 := k1.below hb3 (by omega); have hB3 := Below.trans hB2 (hb3.mono (by omega)); clear k0_0 k0_1 k0_2 k0_3 k1_0 k1_1 k1_2; have k0_0 := k0.cell 0 rfl; have k0_1 := k0.cell 1 rfl; have k0_2 := k0.cell 2 rfl; have k0_3 := k0.cell 3 rfl; have k1_0 := k1.cell 0 rfl; have k1_1 := k1.cell 1 rfl; have k1_2 := k1.cell 2 rfl)
    | (go_at_call 19; refine (code_at (hs.out _ hB3) (hp.out _ hB3) hc.out).mono ?_; rintro e w4 ⟨rfl, hb4⟩; (try simp only [World.size_alloc] at hb4); have z4 := hb4.size; (try simp only [World.size_alloc] at z4); replace k0 := k0.below hb4 (by omega); replace k1 := k1.below hb4 (by omega); have hB4 := Below.trans hB3 (hb4.mono (by omega)); clear k0_0 k0_1 k0_2 k0_3 k1_0 k1_1 k1_2; have k0_0 := k0.cell 0 rfl; have k0_1 := k0.cell 1 rfl; have k0_2 := k0.cell 2 rfl; have k0_3 := k0.cell 3 rfl; have k1_0 := k1.cell 0 rfl; have k1_1 := k1.cell 1 rfl; have k1_2 := k1.cell 2 rfl)
    | (go_at_call 31; refine (hq.out _ hB4).mono ?_; rintro e w5 ⟨rfl, hb5⟩; (try simp only [World.size_alloc] at hb5); have z5 := hb5.size; (try simp only [World.size_alloc] at z5); replace k0 := k0.below hb5 (by omega); replace k1 := k1.below hb5 (by omega); have hB5 := Below.trans hB4 (hb5.mono (by omega)); clear k0_0 k0_1 k0_2 k0_3 k1_0 k1_1 k1_2; have k0_0 := k0.cell 0 rfl; have k0_1 := k0.cell 1 rfl; have k0_2 := k0.cell 2 rfl; have k0_3 := k0.cell 3 rfl; have k1_0 := k1.cell 0 rfl; have k1_1 := k1.cell 1 rfl; have k1_2 := k1.cell 2 rfl))
  go_ret
  exact ⟨rfl, hB5⟩

set_option maxRecDepth 100000 in
set_option maxHeartbeats 6400000 in
theorem upright_unfit (a b : Nat) (M : Int) (A : Option Addr) (n c : Nat) (P : List Int) (A2 : Option Addr) (n2 c2 : Nat) (l : List Tst) (x y s : Int) (w : World) (h : Sl w A n c P) (h2 : PS w A2 n2 c2 l) (hm : true = decide (n ≤ 600 ∧ n2 ≤ 70)) (h20 : ¬ 20 < n2) (hr : Ras a b M P) (hl : pat l = true) (hi : ins a b x y = true) (hn : win s 1 16 = true) (hf : sfit a b s x y = true) {k : Nat} (hbst : Best (sval P a s x y) k false) (hfw : pfit a b (itT l k) x y = false) :
    Calls Try.prog 9 #[.agg #[.int .i64 a, .int .i64 b, .int .i64 M, .slice A n c], .slice A2 n2 c2, .agg #[.int .i64 x, .int .i64 y, .int .i64 s]] w fun e w' => e = .returned (.bool true) ∧ Below w.heap.size w w' := by
  have hcap := h.le_cap
  have hcl := h.cap_le
  have hcap2 := h2.le_cap
  have hcl2 := h2.cap_le
  have hs := Lib.hid (fun w' (hb : Below w.heap.size w w') => h.below hb (Nat.le_refl _))
  have hp := Lib.hid (fun w' (hb : Below w.heap.size w w') => h2.below hb (Nat.le_refl _))
  have hB0 := ((Below.refl w.heap.size w).alloc (by first | exact Nat.le_refl _ | (simp <;> omega)) (.cells #[.int .i64 a, .int .i64 b, .int .i64 M, .slice A n c] 37)).alloc (by first | exact Nat.le_refl _ | (simp <;> omega)) (.cells #[.int .i64 x, .int .i64 y, .int .i64 s] 64)
  have k0 : KB _ _ _ _ := ((KB.new w #[.int .i64 a, .int .i64 b, .int .i64 M, .slice A n c] 37).alloc (.cells #[.int .i64 x, .int .i64 y, .int .i64 s] 64))
  have k1 : KB _ _ _ _ := (KB.new (w.alloc (.cells #[.int .i64 a, .int .i64 b, .int .i64 M, .slice A n c] 37)) #[.int .i64 x, .int .i64 y, .int .i64 s] 64)
  simp only [World.size_alloc] at k1
  have h20' : ¬ 20 < (n2 : Int) := by omega
  obtain ⟨⟨xa, xb⟩, ya, yb⟩ := ins_iff.1 hi
  obtain ⟨hw1, hw2, hw3⟩ := hr.1
  have hx : Hid (0 ≤ x ∧ x < 64) := Lib.hid ⟨xa, by omega⟩
  have hy : Hid (0 ≤ y ∧ y < 64) := Lib.hid ⟨ya, by omega⟩
  have hk4 := Lib.hid hbst.1
  have hn20 : n2 ≤ 20 := by omega
  have hpk := Lib.hid (itT_pat hl)
  have hi2 := Lib.hid ((ins_turn (a := a) (b := b) (x := x) (y := y)).trans hi)
  have hf2 := Lib.hid ((sfit_turn (a := a) (b := b) (n := s) (x := x) (y := y)).trans hf)
  have hr2 := Lib.hid hr.turned
  obtain ⟨k2, hbsu, hk2⟩ := hbst.turn (V' := sval (turned a b P) b s y ((a : Int) - 1 - x)) (fun k hk => sval_turn (win_iff.1 hn) hf hk)
  have hit : Hid (itT l k2 = (itT l k).map trT) := Lib.hid (by rw [hk2 rfl]; exact itT_next hk4.out)
  have hk24 := Lib.hid hbsu.1
  have hfw2 := Lib.hid ((pfit_trT (a := a) (b := b) (l := itT l k) (x := x) (y := y)).trans hfw)
  rw [← hit.out] at hfw2
  have i1 : IntKind.i64.wrap ((a : Int) - 1) = (a : Int) - 1 := IntWalk.i64_in _ (by omega)
  have i2 : IntKind.i64.wrap ((a : Int) - 1 - x) = (a : Int) - 1 - x := IntWalk.i64_in _ (by omega)
  clear h h2
  replace hbst := Lib.hid hbst
  replace hbsu := Lib.hid hbsu
  replace hk2 := Lib.hid hk2
  replace hf := Lib.hid hf
  replace hn := Lib.hid hn
  replace hi := Lib.hid hi
  replace hfw := Lib.hid hfw
  have hc := Lib.hid (rcode_ok hr hl)
  replace hm := Lib.hid hm
  replace hr := Lib.hid hr
  replace hl := Lib.hid hl
  go_enter Try.func9, Try.ntmps9
  go_wp2_with (first
    | (go_at_call 11; refine (known_any _).mono ?_; rintro e w1 ⟨rfl, hb1⟩; (try simp only [World.size_alloc] at hb1); have z1 := hb1.size; (try simp only [World.size_alloc] at z1); replace k0 := k0.below hb1 (by omega); replace k1 := k1.below hb1 (by omega); have hB1 := Below.trans hB0 (hb1.mono (by omega)); have k0_0 := k0.cell 0 rfl; have k0_1 := k0.cell 1 rfl; have k0_2 := k0.cell 2 rfl; have k0_3 := k0.cell 3 rfl; have k1_0 := k1.cell 0 rfl; have k1_1 := k1.cell 1 rfl; have k1_2 := k1.cell 2 rfl)
    | (go_at_call 17; refine (few_any a b M A n c A2 n2 c2 _ (by omega) (by omega) hm.out).mono ?_; rintro e w2 ⟨rfl, hb2⟩; (try simp only [World.size_alloc] at hb2); have z2 := hb2.size; (try simp only [World.size_alloc] at z2); replace k0 := k0.below hb2 (by omega); replace k1 := k1.below hb2 (by omega); have hB2 := Below.trans hB1 (hb2.mono (by omega)); clear k0_0 k0_1 k0_2 k0_3 k1_0 k1_1 k1_2; have k0_0 := k0.cell 0 rfl; have k0_1 := k0.cell 1 rfl; have k0_2 := k0.cell 2 rfl; have k0_3 := k0.cell 3 rfl; have k1_0 := k1.cell 0 rfl; have k1_1 := k1.cell 1 rfl; have k1_2 := k1.cell 2 rfl)
    | (go_at_call 32; refine (Upright_ok a b M A n c P A2 n2 c2 l x y s _ (hs.out _ hB2) (hp.out _ hB2) hr.out hl.out hi.out hk4.out (fun w' hb => Quarter_in a b M A n c P x y s w' (hs.out w' (btr3 hB2 hb (by have := Below.size hB2; omega))) hr.out hi.out hn.out hbst.out (r := (k : Int)) (cc := 0) (fun _ => ⟨rfl, rfl⟩) (fun e => absurd e (by rw [hf.out]; decide))) (u := 0) (cc := 15) (fun e => absurd e (by rw [hfw.out]; decide)) (fun _ => ⟨rfl, rfl⟩)).mono ?_; rintro e w3 ⟨rfl, hb3⟩; (try simp only [World.size_alloc] at hb3); have z3 := hb3.size; (try simp only [World.size_alloc] at z3); replace k0 := k0.below hb3 (by omega); replace k1 := k1.below hb3 (by omega); have hB3 := Below.trans hB2 (hb3.mono (by omega)); clear k0_0 k0_1 k0_2 k0_3 k1_0 k1_1 k1_2; have k0_0 := k0.cell 0 rfl; have k0_1 := k0.cell 1 rfl; have k0_2 := k0.cell 2 rfl; have k0_3 := k0.cell 3 rfl; have k1_0 := k1.cell 0 rfl; have k1_1 := k1.cell 1 rfl; have k1_2 := k1.cell 2 rfl)
    | (go_at_call 19; refine (code_at (hs.out _ hB3) (hp.out _ hB3) hc.out).mono ?_; rintro e w4 ⟨rfl, hb4⟩; (try simp only [World.size_alloc] at hb4); have z4 := hb4.size; (try simp only [World.size_alloc] at z4); replace k0 := k0.below hb4 (by omega); replace k1 := k1.below hb4 (by omega); have hB4 := Below.trans hB3 (hb4.mono (by omega)); clear k0_0 k0_1 k0_2 k0_3 k1_0 k1_1 k1_2; have k0_0 := k0.cell 0 rfl; have k0_1 := k0.cell 1 rfl; have k0_2 := k0.cell 2 rfl; have k0_3 := k0.cell 3 rfl; have k1_0 := k1.cell 0 rfl; have k1_1 := k1.cell 1 rfl; have k1_2 := k1.cell 2 rfl)
    | (go_at_call 31; refine (lq_in a b M A n c P x y s _ (hs.out _ hB4) hr.out hi.out hn.out hbst.out (r := (k : Int)) (cc := 0) (fun _ => ⟨rfl, rfl⟩) (fun e => absurd e (by rw [hf.out]; decide))).mono ?_; rintro e w5 ⟨rfl, hb5⟩; (try simp only [World.size_alloc] at hb5); have z5 := hb5.size; (try simp only [World.size_alloc] at z5); replace k0 := k0.below hb5 (by omega); replace k1 := k1.below hb5 (by omega); have hB5 := Below.trans hB4 (hb5.mono (by omega)); clear k0_0 k0_1 k0_2 k0_3 k1_0 k1_1 k1_2; have k0_0 := k0.cell 0 rfl; have k0_1 := k0.cell 1 rfl; have k0_2 := k0.cell 2 rfl; have k0_3 := k0.cell 3 rfl; have k1_0 := k1.cell 0 rfl; have k1_1 := k1.cell 1 rfl; have k1_2 := k1.cell 2 rfl))
  have hk4u : k < 4 := hk4.out
  have hzb := hB5.size
  clear k0_0 k0_1 k0_2 k0_3 k1_0 k1_1 k1_2
  have k0' := Lib.hid (fun w' (hb : Below w5.heap.size w5 w') => k0.below hb (by omega))
  have k1' := Lib.hid (fun w' (hb : Below w5.heap.size w5 w') => k1.below hb (by omega))
  go_loopw [12, 74] (fun p i wr => ∃ (j : Nat) (A3 : Option Addr) (c3 : Nat), j ≤ k ∧ p = .slice A3 n2 c3 ∧ i = .int .i64 (j : Int) ∧ PS wr A3 n2 c3 (itT l j) ∧ Below w5.heap.size w5 wr) (fun _ i _ => k - (intOf i).toNat)
  case atStart => exact ⟨0, A2, _, Nat.zero_le _, rfl, rfl, hp.out _ hB5, Below.refl _ _⟩
  case round =>
    clear k0 k1
    obtain ⟨j, A3, c3, hj, rfl, rfl, hps, hBr⟩ := hrel
    have hzr := hBr.size
    by_cases hlt : j < k
    · have hlt' : (j : Int) < (k : Int) := by omega
      have hcall := Lib.hid (lturned_pat hps (hpk.out j))
      clear hps
      go_wp2_with (go_at_call 27; refine hcall.out.mono ?_; rintro e w6 ⟨⟨A4, c4, rfl, hps4⟩, hb6⟩; replace hps4 := Lib.hid hps4)
      go_roundw
      case rel => exact ⟨j + 1, _, _, hlt, rfl, by go_num, hps4.out, hBr.trans (hb6.mono hzr)⟩
      case measure => simp [intOf]; omega
    · obtain rfl : j = k := by omega
      have hlt' : ¬ (j : Int) < (j : Int) := by omega
      have hBw := (hB5.trans (hBr.mono hzb))
      have kA := k0'.out _ hBr
      have kB := k1'.out _ hBr
      have c0 := kA.cell 0 rfl
      have c1 := kA.cell 1 rfl
      have c2 := kA.cell 2 rfl
      have c3' := kA.cell 3 rfl
      have d0 := kB.cell 0 rfl
      have d1 := kB.cell 1 rfl
      have d2 := kB.cell 2 rfl
      have hwc := Lib.hid (lword_at a b M A n c P A3 n2 c3 (itT l j) (R := .tuple #[.int .u64 0, .bool false]) (hs.out _ hBw) hr.out hps (hpk.out j) hx.out hy.out (fun e => absurd e (by rw [hfw.out]; decide)) (fun _ => rfl))
      clear hps
      go_wp2_with (go_at_call 21; refine hwc.out.mono ?_; rintro e w7 ⟨rfl, hb7⟩; have zz7 := hb7.size; have hB7 := hBw.trans (hb7.mono (by omega)); have kA7 := kA.below hb7 kA.lt; have kB7 := kB.below hb7 kB.lt)
      go_ret
      exact ⟨rfl, hB7⟩

set_option maxRecDepth 100000 in
set_option maxHeartbeats 6400000 in
theorem upright_fit (a b : Nat) (M : Int) (A : Option Addr) (n c : Nat) (P : List Int) (A2 : Option Addr) (n2 c2 : Nat) (l : List Tst) (x y s : Int) (w : World) (h : Sl w A n c P) (h2 : PS w A2 n2 c2 l) (hm : true = decide (n ≤ 600 ∧ n2 ≤ 70)) (h20 : ¬ 20 < n2) (hr : Ras a b M P) (hl : pat l = true) (hi : ins a b x y = true) (hn : win s 1 16 = true) (hf : sfit a b s x y = true) {k : Nat} (hbst : Best (sval P a s x y) k false) (hfw : pfit a b (itT l k) x y = true) :
    Calls Try.prog 9 #[.agg #[.int .i64 a, .int .i64 b, .int .i64 M, .slice A n c], .slice A2 n2 c2, .agg #[.int .i64 x, .int .i64 y, .int .i64 s]] w fun e w' => e = .returned (.bool true) ∧ Below w.heap.size w w' := by
  have hcap := h.le_cap
  have hcl := h.cap_le
  have hcap2 := h2.le_cap
  have hcl2 := h2.cap_le
  have hs := Lib.hid (fun w' (hb : Below w.heap.size w w') => h.below hb (Nat.le_refl _))
  have hp := Lib.hid (fun w' (hb : Below w.heap.size w w') => h2.below hb (Nat.le_refl _))
  have hB0 := ((Below.refl w.heap.size w).alloc (by first | exact Nat.le_refl _ | (simp <;> omega)) (.cells #[.int .i64 a, .int .i64 b, .int .i64 M, .slice A n c] 37)).alloc (by first | exact Nat.le_refl _ | (simp <;> omega)) (.cells #[.int .i64 x, .int .i64 y, .int .i64 s] 64)
  have k0 : KB _ _ _ _ := ((KB.new w #[.int .i64 a, .int .i64 b, .int .i64 M, .slice A n c] 37).alloc (.cells #[.int .i64 x, .int .i64 y, .int .i64 s] 64))
  have k1 : KB _ _ _ _ := (KB.new (w.alloc (.cells #[.int .i64 a, .int .i64 b, .int .i64 M, .slice A n c] 37)) #[.int .i64 x, .int .i64 y, .int .i64 s] 64)
  simp only [World.size_alloc] at k1
  have h20' : ¬ 20 < (n2 : Int) := by omega
  obtain ⟨⟨xa, xb⟩, ya, yb⟩ := ins_iff.1 hi
  obtain ⟨hw1, hw2, hw3⟩ := hr.1
  have hx : Hid (0 ≤ x ∧ x < 64) := Lib.hid ⟨xa, by omega⟩
  have hy : Hid (0 ≤ y ∧ y < 64) := Lib.hid ⟨ya, by omega⟩
  have hk4 := Lib.hid hbst.1
  have hn20 : n2 ≤ 20 := by omega
  have hpk := Lib.hid (itT_pat hl)
  have hi2 := Lib.hid ((ins_turn (a := a) (b := b) (x := x) (y := y)).trans hi)
  have hf2 := Lib.hid ((sfit_turn (a := a) (b := b) (n := s) (x := x) (y := y)).trans hf)
  have hr2 := Lib.hid hr.turned
  obtain ⟨k2, hbsu, hk2⟩ := hbst.turn (V' := sval (turned a b P) b s y ((a : Int) - 1 - x)) (fun k hk => sval_turn (win_iff.1 hn) hf hk)
  have hit : Hid (itT l k2 = (itT l k).map trT) := Lib.hid (by rw [hk2 rfl]; exact itT_next hk4.out)
  have hk24 := Lib.hid hbsu.1
  have hfw2 := Lib.hid ((pfit_trT (a := a) (b := b) (l := itT l k) (x := x) (y := y)).trans hfw)
  rw [← hit.out] at hfw2
  obtain ⟨u, hu⟩ : ∃ u : Int, (wordOf P a (itT l k) x y : Int) = u := ⟨_, rfl⟩
  have hu2 : Hid ((wordOf (turned a b P) b (itT l k2) y ((a : Int) - 1 - x) : Int) = u) := Lib.hid (by rw [hit.out, wordOf_trT (hpk.out k) hfw]; exact hu)
  replace hu := Lib.hid hu
  have huu : ((u : Int) == u) = true := by simp
  have i1 : IntKind.i64.wrap ((a : Int) - 1) = (a : Int) - 1 := IntWalk.i64_in _ (by omega)
  have i2 : IntKind.i64.wrap ((a : Int) - 1 - x) = (a : Int) - 1 - x := IntWalk.i64_in _ (by omega)
  clear h h2
  replace hbst := Lib.hid hbst
  replace hbsu := Lib.hid hbsu
  replace hk2 := Lib.hid hk2
  replace hf := Lib.hid hf
  replace hn := Lib.hid hn
  replace hi := Lib.hid hi
  replace hfw := Lib.hid hfw
  have hc := Lib.hid (rcode_ok hr hl)
  replace hm := Lib.hid hm
  replace hr := Lib.hid hr
  replace hl := Lib.hid hl
  go_enter Try.func9, Try.ntmps9
  go_wp2_with (first
    | (go_at_call 11; refine (known_any _).mono ?_; rintro e w1 ⟨rfl, hb1⟩; (try simp only [World.size_alloc] at hb1); have z1 := hb1.size; (try simp only [World.size_alloc] at z1); replace k0 := k0.below hb1 (by omega); replace k1 := k1.below hb1 (by omega); have hB1 := Below.trans hB0 (hb1.mono (by omega)); have k0_0 := k0.cell 0 rfl; have k0_1 := k0.cell 1 rfl; have k0_2 := k0.cell 2 rfl; have k0_3 := k0.cell 3 rfl; have k1_0 := k1.cell 0 rfl; have k1_1 := k1.cell 1 rfl; have k1_2 := k1.cell 2 rfl)
    | (go_at_call 17; refine (few_any a b M A n c A2 n2 c2 _ (by omega) (by omega) hm.out).mono ?_; rintro e w2 ⟨rfl, hb2⟩; (try simp only [World.size_alloc] at hb2); have z2 := hb2.size; (try simp only [World.size_alloc] at z2); replace k0 := k0.below hb2 (by omega); replace k1 := k1.below hb2 (by omega); have hB2 := Below.trans hB1 (hb2.mono (by omega)); clear k0_0 k0_1 k0_2 k0_3 k1_0 k1_1 k1_2; have k0_0 := k0.cell 0 rfl; have k0_1 := k0.cell 1 rfl; have k0_2 := k0.cell 2 rfl; have k0_3 := k0.cell 3 rfl; have k1_0 := k1.cell 0 rfl; have k1_1 := k1.cell 1 rfl; have k1_2 := k1.cell 2 rfl)
    | (go_at_call 32; refine (Upright_ok a b M A n c P A2 n2 c2 l x y s _ (hs.out _ hB2) (hp.out _ hB2) hr.out hl.out hi.out hk4.out (fun w' hb => Quarter_in a b M A n c P x y s w' (hs.out w' (btr3 hB2 hb (by have := Below.size hB2; omega))) hr.out hi.out hn.out hbst.out (r := (k : Int)) (cc := 0) (fun _ => ⟨rfl, rfl⟩) (fun e => absurd e (by rw [hf.out]; decide))) (u := u) (cc := 0) (fun _ => ⟨hu.out.symm, rfl⟩) (fun e => absurd e (by rw [hfw.out]; decide))).mono ?_; rintro e w3 ⟨rfl, hb3⟩; (try simp only [World.size_alloc] at hb3); have z3 := hb3.size; (try simp only [World.size_alloc] at z3); replace k0 := k0.below hb3 (by omega); replace k1 := k1.below hb3 (by omega); have hB3 := Below.trans hB2 (hb3.mono (by omega)); clear k0_0 k0_1 k0_2 k0_3 k1_0 k1_1 k1_2; have k0_0 := k0.cell 0 rfl; have k0_1 := k0.cell 1 rfl; have k0_2 := k0.cell 2 rfl; have k0_3 := k0.cell 3 rfl; have k1_0 := k1.cell 0 rfl; have k1_1 := k1.cell 1 rfl; have k1_2 := k1.cell 2 rfl)
    | (go_at_call 19; refine (code_at (hs.out _ hB3) (hp.out _ hB3) hc.out).mono ?_; rintro e w4 ⟨rfl, hb4⟩; (try simp only [World.size_alloc] at hb4); have z4 := hb4.size; (try simp only [World.size_alloc] at z4); replace k0 := k0.below hb4 (by omega); replace k1 := k1.below hb4 (by omega); have hB4 := Below.trans hB3 (hb4.mono (by omega)); clear k0_0 k0_1 k0_2 k0_3 k1_0 k1_1 k1_2; have k0_0 := k0.cell 0 rfl; have k0_1 := k0.cell 1 rfl; have k0_2 := k0.cell 2 rfl; have k0_3 := k0.cell 3 rfl; have k1_0 := k1.cell 0 rfl; have k1_1 := k1.cell 1 rfl; have k1_2 := k1.cell 2 rfl)
    | (go_at_call 31; refine (lq_in a b M A n c P x y s _ (hs.out _ hB4) hr.out hi.out hn.out hbst.out (r := (k : Int)) (cc := 0) (fun _ => ⟨rfl, rfl⟩) (fun e => absurd e (by rw [hf.out]; decide))).mono ?_; rintro e w5 ⟨rfl, hb5⟩; (try simp only [World.size_alloc] at hb5); have z5 := hb5.size; (try simp only [World.size_alloc] at z5); replace k0 := k0.below hb5 (by omega); replace k1 := k1.below hb5 (by omega); have hB5 := Below.trans hB4 (hb5.mono (by omega)); clear k0_0 k0_1 k0_2 k0_3 k1_0 k1_1 k1_2; have k0_0 := k0.cell 0 rfl; have k0_1 := k0.cell 1 rfl; have k0_2 := k0.cell 2 rfl; have k0_3 := k0.cell 3 rfl; have k1_0 := k1.cell 0 rfl; have k1_1 := k1.cell 1 rfl; have k1_2 := k1.cell 2 rfl))
  have hk4u : k < 4 := hk4.out
  have hzb := hB5.size
  clear k0_0 k0_1 k0_2 k0_3 k1_0 k1_1 k1_2
  have k0' := Lib.hid (fun w' (hb : Below w5.heap.size w5 w') => k0.below hb (by omega))
  have k1' := Lib.hid (fun w' (hb : Below w5.heap.size w5 w') => k1.below hb (by omega))
  go_loopw [12, 74] (fun p i wr => ∃ (j : Nat) (A3 : Option Addr) (c3 : Nat), j ≤ k ∧ p = .slice A3 n2 c3 ∧ i = .int .i64 (j : Int) ∧ PS wr A3 n2 c3 (itT l j) ∧ Below w5.heap.size w5 wr) (fun _ i _ => k - (intOf i).toNat)
  case atStart => exact ⟨0, A2, _, Nat.zero_le _, rfl, rfl, hp.out _ hB5, Below.refl _ _⟩
  case round =>
    clear k0 k1
    obtain ⟨j, A3, c3, hj, rfl, rfl, hps, hBr⟩ := hrel
    have hzr := hBr.size
    by_cases hlt : j < k
    · have hlt' : (j : Int) < (k : Int) := by omega
      have hcall := Lib.hid (lturned_pat hps (hpk.out j))
      clear hps
      go_wp2_with (go_at_call 27; refine hcall.out.mono ?_; rintro e w6 ⟨⟨A4, c4, rfl, hps4⟩, hb6⟩; replace hps4 := Lib.hid hps4)
      go_roundw
      case rel => exact ⟨j + 1, _, _, hlt, rfl, by go_num, hps4.out, hBr.trans (hb6.mono hzr)⟩
      case measure => simp [intOf]; omega
    · obtain rfl : j = k := by omega
      have hlt' : ¬ (j : Int) < (j : Int) := by omega
      have hBw := (hB5.trans (hBr.mono hzb))
      have kA := k0'.out _ hBr
      have kB := k1'.out _ hBr
      have c0 := kA.cell 0 rfl
      have c1 := kA.cell 1 rfl
      have c2 := kA.cell 2 rfl
      have c3' := kA.cell 3 rfl
      have d0 := kB.cell 0 rfl
      have d1 := kB.cell 1 rfl
      have d2 := kB.cell 2 rfl
      have hwc := Lib.hid (lword_at a b M A n c P A3 n2 c3 (itT l j) (R := .tuple #[.int .u64 u, .bool true]) (hs.out _ hBw) hr.out hps (hpk.out j) hx.out hy.out (fun _ => by rw [hu.out]) (fun e => absurd e (by rw [hfw.out]; decide)))
      clear hps
      go_wp2_with (go_at_call 21; refine hwc.out.mono ?_; rintro e w7 ⟨rfl, hb7⟩; have zz7 := hb7.size; have hB7 := hBw.trans (hb7.mono (by omega)); have kA7 := kA.below hb7 kA.lt; have kB7 := kB.below hb7 kB.lt)
      have keepS : ∀ w', Below w7.heap.size w7 w' → w'.cell? ⟨w.heap.size, 0, none⟩ = some (.int .i64 (a : Int)) ∧ w'.cell? ⟨w.heap.size, 1, none⟩ = some (.int .i64 (b : Int)) ∧ w'.cell? ⟨w.heap.size, 2, none⟩ = some (.int .i64 M) ∧ w'.cell? ⟨w.heap.size, 3, none⟩ = some (.slice A n c) ∧ w'.cell? ⟨w.heap.size + 1, 0, none⟩ = some (.int .i64 x) ∧ w'.cell? ⟨w.heap.size + 1, 1, none⟩ = some (.int .i64 y) ∧ w'.cell? ⟨w.heap.size + 1, 2, none⟩ = some (.int .i64 s) := by
        intro w' hb
        have r1 := kA7.below hb kA7.lt
        have r2 := kB7.below hb kB7.lt
        exact ⟨r1.cell 0 rfl, r1.cell 1 rfl, r1.cell 2 rfl, r1.cell 3 rfl, r2.cell 0 rfl, r2.cell 1 rfl, r2.cell 2 rfl⟩
      replace keepS := Lib.hid keepS
      have hzw7 := hB7.size
      clear c0 c1 c2 c3' d0 d1 d2
      have qtok1 : True := trivial
      have qtok2 : True := trivial
      go_region_held3 (fun w' => w'.cell? ⟨w.heap.size, 0, none⟩ = some (.int .i64 (a : Int)) ∧ w'.cell? ⟨w.heap.size, 1, none⟩ = some (.int .i64 (b : Int)) ∧ w'.cell? ⟨w.heap.size, 2, none⟩ = some (.int .i64 M) ∧ w'.cell? ⟨w.heap.size, 3, none⟩ = some (.slice A n c) ∧ w'.cell? ⟨w.heap.size + 1, 0, none⟩ = some (.int .i64 x) ∧ w'.cell? ⟨w.heap.size + 1, 1, none⟩ = some (.int .i64 y) ∧ w'.cell? ⟨w.heap.size + 1, 2, none⟩ = some (.int .i64 s))
        (exact keepS.out _ (by repeat (first | exact qB2 | exact qB1 | exact (Below.refl w7.heap.size w7) | refine Below.drew ?_ | refine Below.drewN ?_ _ | refine Below.alloc ?_ (by first | omega | (simp <;> omega)) _)))
        (first | (go_at_call 29; clear qtok1; refine (rTurn_sl (hs.out _ (btr3 hB7 (by repeat (first | exact (Below.refl w7.heap.size w7) | refine Below.drew ?_ | refine Below.drewN ?_ _ | refine Below.alloc ?_ (by first | omega | (simp <;> omega)) _)) (by omega))) hr.out).mono ?_; rintro e qw1 ⟨⟨A9, n9, c9, rfl, hs9⟩, qh1⟩; have qB1 : Below w7.heap.size w7 qw1 := Below.trans (by repeat (first | exact (Below.refl w7.heap.size w7) | refine Below.drew ?_ | refine Below.drewN ?_ _ | refine Below.alloc ?_ (by first | omega | (simp <;> omega)) _)) (qh1.mono (by first | omega | (simp <;> omega))); have qs1 := qB1.size; have hs9' := Lib.hid hs9; clear hs9; have hp9 := Lib.hid (hp.out _ (btr3 hB7 qB1 (by omega)))) | (go_at_call 32; clear qtok2; refine (Upright_ok b a M A9 n9 c9 (turned a b P) A2 n2 c2 l y ((a : Int) - 1 - x) s _ hs9'.out hp9.out hr2.out hl.out hi2.out hk24.out (fun w' hb => Quarter_in b a M A9 n9 c9 (turned a b P) y ((a : Int) - 1 - x) s w' (hs9'.out.below hb (Nat.le_refl _)) hr2.out hi2.out hn.out hbsu.out (r := (k2 : Int)) (cc := 0) (fun _ => ⟨rfl, rfl⟩) (fun e => absurd e (by rw [hf2.out]; decide))) (u := u) (cc := 0) (fun _ => ⟨hu2.out.symm, rfl⟩) (fun e => absurd e (by rw [hfw2.out]; decide))).mono ?_; rintro e qw2 ⟨rfl, qh2⟩; have qB2 : Below w7.heap.size w7 qw2 := Below.trans (by repeat (first | exact qB1 | refine Below.drew ?_ | refine Below.drewN ?_ _ | refine Below.alloc ?_ (by first | omega | (simp <;> omega)) _)) (qh2.mono (by first | omega | (simp <;> omega))); have qs2 := qB2.size))
      go_wp2
      go_ret
      exact ⟨rfl, hB7.trans (qB2.mono (by omega))⟩

theorem lawUpright_any (W H M : Int) (A : Option Addr) (n c : Nat) (P : List Int) (A2 : Option Addr) (n2 c2 : Nat) (l : List Tst) (x y s : Int) (w : World) (h : Sl w A n c P) (h2 : PS w A2 n2 c2 l) :
    Calls Try.prog 9 #[.agg #[.int .i64 W, .int .i64 H, .int .i64 M, .slice A n c], .slice A2 n2 c2, .agg #[.int .i64 x, .int .i64 y, .int .i64 s]] w fun e w' => e = .returned (.bool true) ∧ Below w.heap.size w w' := by
  cases hm : decide (n ≤ 600 ∧ n2 ≤ 70)
  · exact upright_many W H M A n c P A2 n2 c2 l x y s w h h2 hm.symm
  by_cases h20 : 20 < n2
  · exact upright_more W H M A n c P A2 n2 c2 l x y s w h h2 hm.symm h20
  by_cases hr : Ras W H M P
  · cases hl : pat l
    · exact upright_bad W H M A n c P A2 n2 c2 l x y s w h h2 hm.symm h20 (rcode_pat hl)
    obtain ⟨a, b, rfl, rfl, -⟩ := hr.nat
    have hs := fun w' (hb : Below w.heap.size w w') => h.below hb (Nat.le_refl _)
    cases hi : ins a b x y
    · exact upright_err a b M A n c P A2 n2 c2 l x y s w h h2 hm.symm h20 hr hl (cc := 2) (by omega) (fun w' hb => Quarter_out a b M A n c P x y s w' (hs w' hb) hr hi) (fun w' hb => lq_out a b M A n c x y s w' hi)
    cases hn : win s 1 16
    · exact upright_err a b M A n c P A2 n2 c2 l x y s w h h2 hm.symm h20 hr hl (cc := 2) (by omega) (fun w' hb => Quarter_size a b M A n c P x y s w' (hs w' hb) hr hi hn) (fun w' hb => lq_size a b M A n c x y s w' hi hn)
    obtain ⟨k, d, hb⟩ := exists_best (sval P a s x y)
    cases hf : sfit a b s x y
    · exact upright_err a b M A n c P A2 n2 c2 l x y s w h h2 hm.symm h20 hr hl (cc := 15) (by omega) (fun w' hb' => Quarter_in a b M A n c P x y s w' (hs w' hb') hr hi hn hb (fun e => absurd e (by rw [hf]; decide)) (fun _ => ⟨rfl, rfl⟩)) (fun w' hb' => lq_in a b M A n c P x y s w' (hs w' hb') hr hi hn hb (fun e => absurd e (by rw [hf]; decide)) (fun _ => ⟨rfl, rfl⟩))
    cases d
    · cases hfw : pfit a b (itT l k) x y
      · exact upright_unfit a b M A n c P A2 n2 c2 l x y s w h h2 hm.symm h20 hr hl hi hn hf hb hfw
      · exact upright_fit a b M A n c P A2 n2 c2 l x y s w h h2 hm.symm h20 hr hl hi hn hf hb hfw
    · exact upright_err a b M A n c P A2 n2 c2 l x y s w h h2 hm.symm h20 hr hl (cc := 13) (by omega) (fun w' hb' => Quarter_in a b M A n c P x y s w' (hs w' hb') hr hi hn hb (fun _ => ⟨rfl, rfl⟩) (fun e => absurd e (by rw [hf]; decide))) (fun w' hb' => lq_in a b M A n c P x y s w' (hs w' hb') hr hi hn hb (fun _ => ⟨rfl, rfl⟩) (fun e => absurd e (by rw [hf]; decide)))
  · exact upright_bad W H M A n c P A2 n2 c2 l x y s w h h2 hm.symm h20 (rcode_ras hr)

end Go.Proofs.Ytonpnjjfidpoiaa
