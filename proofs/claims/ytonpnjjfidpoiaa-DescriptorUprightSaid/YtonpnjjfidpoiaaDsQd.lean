/-
  Walks: Quarter of package descriptor, quarter of the law.
-/
import Derived.Test.YtonpnjjfidpoiaaDsQc
import Derived.Test.YtonpnjjfidpoiaaDsG
set_option linter.unusedSimpArgs false
set_option linter.unusedVariables false
namespace Go.Proofs.Ytonpnjjfidpoiaa
open Go.RowKit

theorem Quarter_bad (W H M : Int) (A : Option Addr) (n' c : Nat) (P : List Int) (x y n : Int) (w : World) (h : Sl w A n' c P) (hr : ¬ Ras W H M P) :
    Calls Try.prog 30 #[.agg #[.int .i64 W, .int .i64 H, .int .i64 M, .slice A n' c], .int .i64 x, .int .i64 y, .int .i64 n] w (RetN w 0 1) := by
  have hB := (Below.refl w.heap.size w).alloc (Nat.le_refl _) (.cells #[.int .i64 W, .int .i64 H, .int .i64 M, .slice A n' c] 37)
  have hck := Lib.hid (Check_no (h.alloc (.cells #[.int .i64 W, .int .i64 H, .int .i64 M, .slice A n' c] 37)) hr)
  clear h hr
  go_enter Try.func30, Try.ntmps30
  go_wp2_with (go_at_call 50; refine hck.out.mono ?_; rintro e w1 ⟨rfl, hb1⟩; simp only [World.size_alloc] at hb1)
  go_ret2
  exact ⟨rfl, hB.trans (hb1.mono (by omega))⟩

theorem Quarter_out (a b : Nat) (M : Int) (A : Option Addr) (n' c : Nat) (P : List Int) (x y n : Int) (w : World) (h : Sl w A n' c P) (hr : Ras a b M P) (hi : ins a b x y = false) :
    Calls Try.prog 30 #[.agg #[.int .i64 a, .int .i64 b, .int .i64 M, .slice A n' c], .int .i64 x, .int .i64 y, .int .i64 n] w (RetN w 0 2) := by
  have hB := (Below.refl w.heap.size w).alloc (Nat.le_refl _) (.cells #[.int .i64 a, .int .i64 b, .int .i64 M, .slice A n' c] 37)
  have k0 : KB _ _ _ _ := KB.new w #[.int .i64 a, .int .i64 b, .int .i64 M, .slice A n' c] 37
  have hck := Lib.hid (Check_ok (h.alloc (.cells #[.int .i64 a, .int .i64 b, .int .i64 M, .slice A n' c] 37)) hr)
  obtain ⟨hw1, hw2, -⟩ := hr.1
  replace hi := Lib.hid hi
  clear h hr
  go_enter Try.func30, Try.ntmps30
  go_wp2_with (first | (go_at_call 50; refine hck.out.mono ?_; rintro e w1 ⟨rfl, hb1⟩; simp only [World.size_alloc] at hb1; have zz1 := hb1.size; (try simp only [World.size_alloc] at zz1); have k1 := k0.below hb1 (by omega); have c0 := k1.cell 0 rfl; have c1 := k1.cell 1 rfl; have c2 := k1.cell 2 rfl; have c3 := k1.cell 3 rfl) | (go_at_call 41; refine (disPixel_at hi.out hw1 hw2).mono ?_; rintro e w2 ⟨rfl, hb2⟩))
  go_ret2
  exact ⟨rfl, (hB.trans (hb1.mono (by omega))).trans (hb2.mono (by omega))⟩

theorem Quarter_size (a b : Nat) (M : Int) (A : Option Addr) (n' c : Nat) (P : List Int) (x y n : Int) (w : World) (h : Sl w A n' c P) (hr : Ras a b M P) (hi : ins a b x y = true) (hn : win n 1 16 = false) :
    Calls Try.prog 30 #[.agg #[.int .i64 a, .int .i64 b, .int .i64 M, .slice A n' c], .int .i64 x, .int .i64 y, .int .i64 n] w (RetN w 0 2) := by
  have hB := (Below.refl w.heap.size w).alloc (Nat.le_refl _) (.cells #[.int .i64 a, .int .i64 b, .int .i64 M, .slice A n' c] 37)
  have k0 : KB _ _ _ _ := KB.new w #[.int .i64 a, .int .i64 b, .int .i64 M, .slice A n' c] 37
  have hck := Lib.hid (Check_ok (h.alloc (.cells #[.int .i64 a, .int .i64 b, .int .i64 M, .slice A n' c] 37)) hr)
  obtain ⟨hw1, hw2, -⟩ := hr.1
  replace hi := Lib.hid hi
  replace hn := Lib.hid hn
  clear h hr
  go_enter Try.func30, Try.ntmps30
  go_wp2_with (first | (go_at_call 50; refine hck.out.mono ?_; rintro e w1 ⟨rfl, hb1⟩; simp only [World.size_alloc] at hb1; have zz1 := hb1.size; (try simp only [World.size_alloc] at zz1); have k1 := k0.below hb1 (by omega); have c0 := k1.cell 0 rfl; have c1 := k1.cell 1 rfl; have c2 := k1.cell 2 rfl; have c3 := k1.cell 3 rfl) | (go_at_call 41; refine (disPixel_at hi.out hw1 hw2).mono ?_; rintro e w2 ⟨rfl, hb2⟩) | (go_at_call 38; refine (dwithin_at hn.out _).mono ?_; rintro e w3 ⟨rfl, rfl⟩))
  go_ret2
  exact ⟨rfl, (hB.trans (hb1.mono (by omega))).trans (hb2.mono (by omega))⟩

set_option maxHeartbeats 1600000 in
theorem Quarter_in (a b : Nat) (M : Int) (A : Option Addr) (n' c : Nat) (P : List Int) (x y n : Int) (w : World) (h : Sl w A n' c P) (hr : Ras a b M P) (hi : ins a b x y = true) (hn : win n 1 16 = true)
    {k : Nat} {d : Bool} (hbest : Best (sval P a n x y) k d) {r cc : Int} (hR1 : sfit a b n x y = true → r = (if d then 0 else (k : Int)) ∧ cc = (if d then 13 else 0)) (hR0 : sfit a b n x y = false → r = 0 ∧ cc = 15) :
    Calls Try.prog 30 #[.agg #[.int .i64 a, .int .i64 b, .int .i64 M, .slice A n' c], .int .i64 x, .int .i64 y, .int .i64 n] w (RetN w r cc) := by
  have hB := (Below.refl w.heap.size w).alloc (Nat.le_refl _) (.cells #[.int .i64 a, .int .i64 b, .int .i64 M, .slice A n' c] 37)
  have k0 : KB _ _ _ _ := KB.new w #[.int .i64 a, .int .i64 b, .int .i64 M, .slice A n' c] 37
  have hs := Lib.hid (h.alloc (.cells #[.int .i64 a, .int .i64 b, .int .i64 M, .slice A n' c] 37))
  have hck := Lib.hid (Check_ok hs.out hr)
  obtain ⟨hw1, hw2, hw3⟩ := hr.1
  obtain ⟨⟨i1, i2⟩, i3, i4⟩ := ins_iff.1 hi
  have hx : Hid (0 ≤ x ∧ x < 64) := Lib.hid ⟨i1, by omega⟩
  have hy : Hid (0 ≤ y ∧ y < 64) := Lib.hid ⟨i3, by omega⟩
  have ha : a ≤ 64 := by omega
  have hb : b ≤ 64 := by omega
  have hn' := Lib.hid (win_iff.1 hn)
  replace hi := Lib.hid hi
  replace hr := Lib.hid hr
  replace hn := Lib.hid hn
  replace hbest := Lib.hid hbest
  replace hR1 := Lib.hid hR1
  replace hR0 := Lib.hid hR0
  clear h i1 i2 i3 i4
  go_enter Try.func30, Try.ntmps30
  go_wp2_with (first | (go_at_call 50; refine hck.out.mono ?_; rintro e w1 ⟨rfl, hb1⟩; simp only [World.size_alloc] at hb1; have zz1 := hb1.size; (try simp only [World.size_alloc] at zz1); have k1 := k0.below hb1 (by omega); replace hs := Lib.hid (hs.out.below hb1 (by simp)); have c0 := k1.cell 0 rfl; have c1 := k1.cell 1 rfl; have c2 := k1.cell 2 rfl; have c3 := k1.cell 3 rfl) | (go_at_call 41; refine (disPixel_at hi.out hw1 hw2).mono ?_; rintro e w2 ⟨rfl, hb2⟩; have zz2 := hb2.size; have k2 := k1.below hb2 (by omega); replace hs := Lib.hid (hs.out.below hb2 (Nat.le_refl _)); clear c0 c1 c2 c3; have d0 := k2.cell 0 rfl; have d1 := k2.cell 1 rfl; have d2 := k2.cell 2 rfl; have d3 := k2.cell 3 rfl) | (go_at_call 38; refine (dwithin_at hn.out _).mono ?_; rintro e w3 ⟨rfl, rfl⟩) | (go_at_call 42; refine (sumsOf_any a b M A n' c P _ hs.out hr.out).mono ?_; rintro e w4 ⟨T, rfl, hT, hb4⟩; have zz4 := hb4.size; replace hT := Lib.hid hT) | (go_at_call 51; refine (brightest_at T a b P M ha hb ⟨by omega, by omega⟩ hr.out.2.2 hT.out hx.out hy.out hn'.out hbest.out hR1.out hR0.out).mono ?_; rintro e w5 ⟨rfl, hb5⟩))
  go_ret2
  exact ⟨rfl, (((hB.trans (hb1.mono (by omega))).trans (hb2.mono (by omega))).trans (hb4.mono (by omega))).trans (hb5.mono (by omega))⟩

theorem sm_nonneg {f : Nat → Int} (h : ∀ i, 0 ≤ f i) (n : Nat) : 0 ≤ sm f n := by
  induction n with
  | zero => exact Int.le_refl _
  | succ n ih => have := h n; show 0 ≤ sm f n + f n; omega
theorem bval_nonneg {P : List Int} {M : Int} (hM : 0 ≤ M) (h : ∀ g ∈ P, 0 ≤ g ∧ g ≤ M) (a : Nat) (q : Bx) (x y : Int) : 0 ≤ bval P a q x y := by
  unfold bval
  rw [bsum_sm]
  exact sm_nonneg (fun j => sm_nonneg (fun i => (nth_bounds hM h _).1) _) _

/-- What the law's loop has found among the first k sides. -/
def Fs (V : Nat → Int) (k : Nat) (bst mst tms : Int) : Prop :=
  (k = 0 ∧ bst = 0 ∧ mst = -1 ∧ tms = 0) ∨ ∃ q : Nat, q < k ∧ bst = q ∧ mst = V q ∧ (∀ i, i < q → V i < V q) ∧ (∀ i, i < k → V i ≤ V q) ∧ 1 ≤ tms ∧ tms ≤ k ∧ (1 < tms ↔ ∃ j, q < j ∧ j < k ∧ V j = V q)
theorem Fs.up {V : Nat → Int} {k : Nat} {bst mst tms : Int} (h : Fs V k bst mst tms) (hl : mst < V k) : Fs V (k + 1) k (V k) 1 := by
  refine .inr ⟨k, by omega, rfl, rfl, fun i hi => ?_, fun i hi => ?_, by omega, by omega, ⟨fun e => by omega, fun ⟨j, h1, h2, _⟩ => by omega⟩⟩
  · rcases h with ⟨rfl, -⟩ | ⟨q, hq, -, e, h1, h2, -⟩
    · omega
    · have := h2 i hi; omega
  · by_cases e : i = k
    · rw [e]; exact Int.le_refl _
    · rcases h with ⟨rfl, -⟩ | ⟨q, hq, -, e, h1, h2, -⟩
      · omega
      · have := h2 i (by omega); omega
theorem Fs.eq {V : Nat → Int} {k : Nat} {bst mst tms : Int} (h : Fs V k bst mst tms) (h0 : 0 ≤ V k) (hl : V k = mst) : Fs V (k + 1) bst mst (tms + 1) := by
  rcases h with ⟨rfl, -, e, -⟩ | ⟨q, hq, e1, e2, h1, h2, h3, h4, h5⟩
  · omega
  · refine .inr ⟨q, by omega, e1, e2, h1, fun i hi => ?_, by omega, by omega, ⟨fun _ => ⟨k, hq, by omega, by omega⟩, fun _ => by omega⟩⟩
    by_cases e : i = k
    · rw [e]; omega
    · exact h2 i (by omega)
theorem Fs.down {V : Nat → Int} {k : Nat} {bst mst tms : Int} (h : Fs V k bst mst tms) (h0 : 0 ≤ V k) (hl : V k < mst) : Fs V (k + 1) bst mst tms := by
  rcases h with ⟨rfl, -, e, -⟩ | ⟨q, hq, e1, e2, h1, h2, h3, h4, h5⟩
  · omega
  · refine .inr ⟨q, by omega, e1, e2, h1, fun i hi => ?_, h3, by omega, ?_⟩
    · by_cases e : i = k
      · rw [e]; omega
      · exact h2 i (by omega)
    · rw [h5]
      constructor
      · rintro ⟨j, j1, j2, j3⟩; exact ⟨j, j1, by omega, j3⟩
      · rintro ⟨j, j1, j2, j3⟩
        refine ⟨j, j1, ?_, j3⟩
        by_cases e : j = k
        · rw [e] at j3; omega
        · omega
theorem Fs.done {V : Nat → Int} {bst mst tms : Int} (h : Fs V 4 bst mst tms) {k : Nat} {d : Bool} (hb : Best V k d) : bst = k ∧ d = decide (1 < tms) ∧ 0 ≤ tms ∧ tms ≤ 4 := by
  rcases h with ⟨e, -⟩ | ⟨q, hq, e1, e2, h1, h2, h3, h4, h5⟩
  · omega
  · obtain ⟨e3, e4⟩ := hb.unique (k' := q) (d' := decide (1 < tms)) ⟨hq, h1, h2, by rw [decide_eq_true_iff, h5]⟩
    exact ⟨by rw [e1, e3], e4, by omega, by omega⟩

theorem lq_out (a b : Nat) (M : Int) (A : Option Addr) (n' c : Nat) (x y n : Int) (w : World) (hi : ins a b x y = false) :
    Calls Try.prog 31 #[.agg #[.int .i64 a, .int .i64 b, .int .i64 M, .slice A n' c], .int .i64 x, .int .i64 y, .int .i64 n] w (RetN w 0 2) := by
  have hB := (Below.refl w.heap.size w).alloc (Nat.le_refl _) (.cells #[.int .i64 a, .int .i64 b, .int .i64 M, .slice A n' c] 37)
  replace hi := Lib.hid hi
  go_enter Try.func31, Try.ntmps31
  go_wp2_with (go_at_call 20; refine (rInside_at hi.out _).mono ?_; rintro e w1 ⟨rfl, hb1⟩; simp only [World.size_alloc] at hb1)
  go_ret2
  exact ⟨rfl, hB.trans (hb1.mono (by omega))⟩
theorem lq_size (a b : Nat) (M : Int) (A : Option Addr) (n' c : Nat) (x y n : Int) (w : World) (hi : ins a b x y = true) (hn : win n 1 16 = false) :
    Calls Try.prog 31 #[.agg #[.int .i64 a, .int .i64 b, .int .i64 M, .slice A n' c], .int .i64 x, .int .i64 y, .int .i64 n] w (RetN w 0 2) := by
  have hB := (Below.refl w.heap.size w).alloc (Nat.le_refl _) (.cells #[.int .i64 a, .int .i64 b, .int .i64 M, .slice A n' c] 37)
  replace hi := Lib.hid hi
  rw [win_no] at hn
  by_cases h1 : n < 1
  · clear hn
    go_enter Try.func31, Try.ntmps31
    go_wp2_with (go_at_call 20; refine (rInside_at hi.out _).mono ?_; rintro e w1 ⟨rfl, hb1⟩; simp only [World.size_alloc] at hb1)
    go_ret2
    exact ⟨rfl, hB.trans (hb1.mono (by omega))⟩
  · have h2 : 16 < n := by omega
    have h3 : 1 ≤ n := by omega
    clear hn h1
    go_enter Try.func31, Try.ntmps31
    go_wp2_with (go_at_call 20; refine (rInside_at hi.out _).mono ?_; rintro e w1 ⟨rfl, hb1⟩; simp only [World.size_alloc] at hb1)
    go_ret2
    exact ⟨rfl, hB.trans (hb1.mono (by omega))⟩

set_option maxRecDepth 100000 in
set_option maxHeartbeats 25600000 in
theorem lq_in (a b : Nat) (M : Int) (A : Option Addr) (n' c : Nat) (P : List Int) (x y n : Int) (w : World) (h : Sl w A n' c P) (hr : Ras a b M P) (hi : ins a b x y = true) (hn : win n 1 16 = true)
    {k : Nat} {d : Bool} (hbest : Best (sval P a n x y) k d) {r cc : Int} (hR1 : sfit a b n x y = true → r = (if d then 0 else (k : Int)) ∧ cc = (if d then 13 else 0)) (hR0 : sfit a b n x y = false → r = 0 ∧ cc = 15) :
    Calls Try.prog 31 #[.agg #[.int .i64 a, .int .i64 b, .int .i64 M, .slice A n' c], .int .i64 x, .int .i64 y, .int .i64 n] w (RetN w r cc) := by
  obtain ⟨a', b', ea, eb, hw1, hw2, ⟨hM1, hM2⟩, -, -, -⟩ := hr.nat
  obtain rfl : a = a' := by omega
  obtain rfl : b = b' := by omega
  obtain ⟨⟨xa, xb'⟩, ya, yb'⟩ := ins_iff.1 hi
  have xb : x < 64 := by omega
  have yb : y < 64 := by omega
  obtain ⟨n1, n2⟩ := win_iff.1 hn
  have ha : a ≤ 64 := by omega
  have hb : b ≤ 64 := by omega
  have hP := Lib.hid hr.2.2
  have hs := Lib.hid (fun w' (hb : Below w.heap.size w w') => h.below hb (Nat.le_refl _))
  have hbx := Lib.hid (sd_bxs ⟨n1, n2⟩)
  have hno : Hid (∀ j, j < 4 → bfit a b (sd n j) x y = false → r = 0 ∧ cc = 15) := Lib.hid fun j hj e => hR0 (by
    rw [← Bool.not_eq_true, sfit_iff]
    intro hall
    have := hall j hj
    rw [e] at this
    cases this)
  replace hr := Lib.hid hr
  replace hi := Lib.hid hi
  replace hbest := Lib.hid hbest
  replace hR1 := Lib.hid hR1
  clear hR0 hn h xb' yb' ea eb
  have k0 : KB _ _ _ _ := KB.new w #[.int .i64 a, .int .i64 b, .int .i64 M, .slice A n' c] 37
  have hB0 := (Below.refl w.heap.size w).alloc (Nat.le_refl _) (.cells #[.int .i64 a, .int .i64 b, .int .i64 M, .slice A n' c] 37)
  go_enter Try.func31, Try.ntmps31
  go_wp2_with (go_at_call 20; refine (rInside_at hi.out _).mono ?_; rintro e w1 ⟨rfl, hb1⟩; simp only [World.size_alloc] at hb1; have zz1 := hb1.size; (try simp only [World.size_alloc] at zz1); replace k0 := k0.below hb1 (by omega); replace hB0 := hB0.trans (hb1.mono (by omega)))
  go_loopw [10, 11, 12, 29] (fun p q t i wr => ∃ (m : Nat) (bst mst tms : Int), m ≤ 4 ∧ p = .int .i64 bst ∧ q = .int .i64 mst ∧ t = .int .i64 tms ∧ i = .int .i64 (m : Int) ∧ Hid (Fs (sval P a n x y) m bst mst tms) ∧ (0 ≤ tms ∧ tms ≤ 4) ∧ Below w.heap.size w wr ∧ KB wr w.heap.size #[.int .i64 a, .int .i64 b, .int .i64 M, .slice A n' c] 37 ∧ Hid (∀ j, j < m → bfit a b (sd n j) x y = true)) (fun _ _ _ i _ => 4 - (intOf i).toNat)
  case atStart => exact ⟨0, 0, -1, 0, by omega, rfl, rfl, rfl, rfl, Lib.hid (.inl ⟨rfl, rfl, rfl, rfl⟩), ⟨by omega, by omega⟩, hB0, k0, Lib.hid fun j hj => absurd hj (Nat.not_lt_zero _)⟩
  case round =>
    clear k0 hB0
    obtain ⟨m, bst, mst, tms, hm, rfl, rfl, rfl, rfl, hF, ⟨ht1, ht2⟩, hB, kk, HA⟩ := hrel
    have hkl := kk.lt
    have hm5 : m = 0 ∨ m = 1 ∨ m = 2 ∨ m = 3 ∨ m = 4 := by omega
    rcases hm5 with rfl | rfl | rfl | rfl | rfl
    · obtain ⟨f, hf⟩ : ∃ f, bfit a b (1, -n, n, 2 * n + 1) x y = f := ⟨_, rfl⟩
      have hbq : Hid (Bxs (1, -n, n, 2 * n + 1)) := Lib.hid (hbx.out 0)
      cases f
      · obtain ⟨e1, e2⟩ := hno.out 0 (by omega) hf
        subst e1 e2
        replace hf := Lib.hid hf
        go_wp2_with (first | (go_at_call 52; refine (side_0 n ⟨n1, n2⟩ _).mono ?_; rintro e w2 ⟨rfl, hb2⟩; have zz2 := hb2.size; have k2 := (kk.below hb2 hkl).alloc (.cells #[.int .i64 1, .int .i64 (-n), .int .i64 n, .int .i64 (2 * n + 1)] 28); have hB2 := (hB.trans (hb2.mono (by omega))).alloc (by have := hB.size; omega) (.cells #[.int .i64 1, .int .i64 (-n), .int .i64 n, .int .i64 (2 * n + 1)] 28); have kt : KB _ _ _ _ := KB.new w2 #[.int .i64 1, .int .i64 (-n), .int .i64 n, .int .i64 (2 * n + 1)] 28; have c0 := k2.cell 0 rfl; have c1 := k2.cell 1 rfl; have c2 := k2.cell 2 rfl; have c3 := k2.cell 3 rfl) | (go_at_call 44; refine (fits_at ⟨hw1, hw2⟩ ⟨xa, xb⟩ ⟨ya, yb⟩ hbq.out hf.out _).mono ?_; rintro e w3 ⟨rfl, hb3⟩; simp only [World.size_alloc] at hb3; have zz3 := hb3.size; (try simp only [World.size_alloc] at zz3); have hB3 := hB2.trans (hb3.mono (by have := hB.size; omega)); have k3 := k2.below hb3 (by omega); have kt3 := kt.below hb3 (by omega); clear c0 c1 c2 c3; have c0 := k3.cell 0 rfl; have c1 := k3.cell 1 rfl; have c2 := k3.cell 2 rfl; have c3 := k3.cell 3 rfl; have d0 := kt3.cell 0 rfl; have d1 := kt3.cell 1 rfl; have d2 := kt3.cell 2 rfl; have d3 := kt3.cell 3 rfl))
        go_ret2
        exact ⟨rfl, hB3⟩
      · have HA' : Hid (∀ j, j < 0 + 1 → bfit a b (sd n j) x y = true) := Lib.hid fun j hj => by
          by_cases e : j = 0
          · rw [e]; exact hf
          · exact HA.out j (by omega)
        have hfi := bfit_iff.1 hf
        simp only at hfi
        obtain ⟨v, hv⟩ : ∃ v, sval P a n x y 0 = v := ⟨_, rfl⟩
        have hv0 : 0 ≤ v := by rw [← hv]; exact bval_nonneg (by omega) hP.out a _ x y
        have hsum := Lib.hid (fun w' (hb' : Below w.heap.size w w') => rSum_at (x := (x + 1).toNat) (y := (y + -n).toNat) (wd := (n).toNat) (ht := (2 * n + 1).toNat) (X := x + 1) (Y := y + -n) (WD := n) (HT := 2 * n + 1) (hs.out w' hb') hr.out (by omega) (by omega) (by omega) (by omega) (by omega) (by omega) hv)
        have hup := Lib.hid (fun hl => (hF.out.up (k := 0) (by rw [hv]; exact hl) : Fs (sval P a n x y) (0 + 1) 0 (sval P a n x y 0) 1))
        have heq := Lib.hid (fun hl => (hF.out.eq (k := 0) (by rw [hv]; exact hv0) (by rw [hv]; exact hl)))
        have hdn := Lib.hid (fun hl => (hF.out.down (k := 0) (by rw [hv]; exact hv0) (by rw [hv]; exact hl)))
        have j1 : IntKind.i64.wrap (x + 1) = x + 1 := IntWalk.i64_in _ (by omega)
        have j2 : IntKind.i64.wrap (y + -n) = y + -n := IntWalk.i64_in _ (by omega)
        replace hf := Lib.hid hf
        have hv' := Lib.hid hv
        clear hv hfi HA hF
        by_cases g1 : mst < v
        · have g2 : ((v : Int) == v) = true := by simp
          go_wp2_with (first | (go_at_call 52; refine (side_0 n ⟨n1, n2⟩ _).mono ?_; rintro e w2 ⟨rfl, hb2⟩; have zz2 := hb2.size; have k2 := (kk.below hb2 hkl).alloc (.cells #[.int .i64 1, .int .i64 (-n), .int .i64 n, .int .i64 (2 * n + 1)] 28); have hB2 := (hB.trans (hb2.mono (by omega))).alloc (by have := hB.size; omega) (.cells #[.int .i64 1, .int .i64 (-n), .int .i64 n, .int .i64 (2 * n + 1)] 28); have kt : KB _ _ _ _ := KB.new w2 #[.int .i64 1, .int .i64 (-n), .int .i64 n, .int .i64 (2 * n + 1)] 28; have c0 := k2.cell 0 rfl; have c1 := k2.cell 1 rfl; have c2 := k2.cell 2 rfl; have c3 := k2.cell 3 rfl) | (go_at_call 44; refine (fits_at ⟨hw1, hw2⟩ ⟨xa, xb⟩ ⟨ya, yb⟩ hbq.out hf.out _).mono ?_; rintro e w3 ⟨rfl, hb3⟩; simp only [World.size_alloc] at hb3; have zz3 := hb3.size; (try simp only [World.size_alloc] at zz3); have hB3 := hB2.trans (hb3.mono (by have := hB.size; omega)); have k3 := k2.below hb3 (by omega); have kt3 := kt.below hb3 (by omega); clear c0 c1 c2 c3; have c0 := k3.cell 0 rfl; have c1 := k3.cell 1 rfl; have c2 := k3.cell 2 rfl; have c3 := k3.cell 3 rfl; have d0 := kt3.cell 0 rfl; have d1 := kt3.cell 1 rfl; have d2 := kt3.cell 2 rfl; have d3 := kt3.cell 3 rfl) | (go_at_call 45; refine (hsum.out _ hB3).mono ?_; rintro e w4 ⟨rfl, hb4⟩; have zz4 := hb4.size; have hB4 := hB3.trans (hb4.mono (by have := hB.size; omega)); have k4 := k3.below hb4 (by omega)))
          exact ⟨⟨0 + 1, (0 : Nat), v, 1, by omega, rfl, rfl, by first | rfl | simp, by go_num, Lib.hid (by have := hup.out g1; rw [hv'.out] at this; exact this), ⟨by omega, by omega⟩, hB4, k4, HA'⟩, by simp [intOf]⟩
        by_cases g3 : v = mst
        · subst g3
          have heq' := Lib.hid (heq.out rfl)
          clear heq
          have g2 : ((v : Int) == v) = true := by simp
          go_wp2_with (first | (go_at_call 52; refine (side_0 n ⟨n1, n2⟩ _).mono ?_; rintro e w2 ⟨rfl, hb2⟩; have zz2 := hb2.size; have k2 := (kk.below hb2 hkl).alloc (.cells #[.int .i64 1, .int .i64 (-n), .int .i64 n, .int .i64 (2 * n + 1)] 28); have hB2 := (hB.trans (hb2.mono (by omega))).alloc (by have := hB.size; omega) (.cells #[.int .i64 1, .int .i64 (-n), .int .i64 n, .int .i64 (2 * n + 1)] 28); have kt : KB _ _ _ _ := KB.new w2 #[.int .i64 1, .int .i64 (-n), .int .i64 n, .int .i64 (2 * n + 1)] 28; have c0 := k2.cell 0 rfl; have c1 := k2.cell 1 rfl; have c2 := k2.cell 2 rfl; have c3 := k2.cell 3 rfl) | (go_at_call 44; refine (fits_at ⟨hw1, hw2⟩ ⟨xa, xb⟩ ⟨ya, yb⟩ hbq.out hf.out _).mono ?_; rintro e w3 ⟨rfl, hb3⟩; simp only [World.size_alloc] at hb3; have zz3 := hb3.size; (try simp only [World.size_alloc] at zz3); have hB3 := hB2.trans (hb3.mono (by have := hB.size; omega)); have k3 := k2.below hb3 (by omega); have kt3 := kt.below hb3 (by omega); clear c0 c1 c2 c3; have c0 := k3.cell 0 rfl; have c1 := k3.cell 1 rfl; have c2 := k3.cell 2 rfl; have c3 := k3.cell 3 rfl; have d0 := kt3.cell 0 rfl; have d1 := kt3.cell 1 rfl; have d2 := kt3.cell 2 rfl; have d3 := kt3.cell 3 rfl) | (go_at_call 45; refine (hsum.out _ hB3).mono ?_; rintro e w4 ⟨rfl, hb4⟩; have zz4 := hb4.size; have hB4 := hB3.trans (hb4.mono (by have := hB.size; omega)); have k4 := k3.below hb4 (by omega)))
          exact ⟨⟨0 + 1, bst, v, tms + 1, by omega, rfl, rfl, by first | rfl | simp, by go_num, heq', ⟨by omega, by have := heq'.out; rcases this with ⟨e, -⟩ | ⟨q, -, -, -, -, -, -, e, -⟩ <;> omega⟩, hB4, k4, HA'⟩, by simp [intOf]⟩
        · have g4 : v < mst := by omega
          have g2 : ((v : Int) == mst) = false := by simp; omega
          go_wp2_with (first | (go_at_call 52; refine (side_0 n ⟨n1, n2⟩ _).mono ?_; rintro e w2 ⟨rfl, hb2⟩; have zz2 := hb2.size; have k2 := (kk.below hb2 hkl).alloc (.cells #[.int .i64 1, .int .i64 (-n), .int .i64 n, .int .i64 (2 * n + 1)] 28); have hB2 := (hB.trans (hb2.mono (by omega))).alloc (by have := hB.size; omega) (.cells #[.int .i64 1, .int .i64 (-n), .int .i64 n, .int .i64 (2 * n + 1)] 28); have kt : KB _ _ _ _ := KB.new w2 #[.int .i64 1, .int .i64 (-n), .int .i64 n, .int .i64 (2 * n + 1)] 28; have c0 := k2.cell 0 rfl; have c1 := k2.cell 1 rfl; have c2 := k2.cell 2 rfl; have c3 := k2.cell 3 rfl) | (go_at_call 44; refine (fits_at ⟨hw1, hw2⟩ ⟨xa, xb⟩ ⟨ya, yb⟩ hbq.out hf.out _).mono ?_; rintro e w3 ⟨rfl, hb3⟩; simp only [World.size_alloc] at hb3; have zz3 := hb3.size; (try simp only [World.size_alloc] at zz3); have hB3 := hB2.trans (hb3.mono (by have := hB.size; omega)); have k3 := k2.below hb3 (by omega); have kt3 := kt.below hb3 (by omega); clear c0 c1 c2 c3; have c0 := k3.cell 0 rfl; have c1 := k3.cell 1 rfl; have c2 := k3.cell 2 rfl; have c3 := k3.cell 3 rfl; have d0 := kt3.cell 0 rfl; have d1 := kt3.cell 1 rfl; have d2 := kt3.cell 2 rfl; have d3 := kt3.cell 3 rfl) | (go_at_call 45; refine (hsum.out _ hB3).mono ?_; rintro e w4 ⟨rfl, hb4⟩; have zz4 := hb4.size; have hB4 := hB3.trans (hb4.mono (by have := hB.size; omega)); have k4 := k3.below hb4 (by omega)))
          exact ⟨⟨0 + 1, bst, mst, tms, by omega, rfl, rfl, rfl, by go_num, Lib.hid (hdn.out g4), ⟨by omega, by omega⟩, hB4, k4, HA'⟩, by simp [intOf]⟩
    · obtain ⟨f, hf⟩ : ∃ f, bfit a b (-n, -n, 2 * n + 1, n) x y = f := ⟨_, rfl⟩
      have hbq : Hid (Bxs (-n, -n, 2 * n + 1, n)) := Lib.hid (hbx.out 1)
      cases f
      · obtain ⟨e1, e2⟩ := hno.out 1 (by omega) hf
        subst e1 e2
        replace hf := Lib.hid hf
        go_wp2_with (first | (go_at_call 52; refine (side_1 n ⟨n1, n2⟩ _).mono ?_; rintro e w2 ⟨rfl, hb2⟩; have zz2 := hb2.size; have k2 := (kk.below hb2 hkl).alloc (.cells #[.int .i64 (-n), .int .i64 (-n), .int .i64 (2 * n + 1), .int .i64 n] 28); have hB2 := (hB.trans (hb2.mono (by omega))).alloc (by have := hB.size; omega) (.cells #[.int .i64 (-n), .int .i64 (-n), .int .i64 (2 * n + 1), .int .i64 n] 28); have kt : KB _ _ _ _ := KB.new w2 #[.int .i64 (-n), .int .i64 (-n), .int .i64 (2 * n + 1), .int .i64 n] 28; have c0 := k2.cell 0 rfl; have c1 := k2.cell 1 rfl; have c2 := k2.cell 2 rfl; have c3 := k2.cell 3 rfl) | (go_at_call 44; refine (fits_at ⟨hw1, hw2⟩ ⟨xa, xb⟩ ⟨ya, yb⟩ hbq.out hf.out _).mono ?_; rintro e w3 ⟨rfl, hb3⟩; simp only [World.size_alloc] at hb3; have zz3 := hb3.size; (try simp only [World.size_alloc] at zz3); have hB3 := hB2.trans (hb3.mono (by have := hB.size; omega)); have k3 := k2.below hb3 (by omega); have kt3 := kt.below hb3 (by omega); clear c0 c1 c2 c3; have c0 := k3.cell 0 rfl; have c1 := k3.cell 1 rfl; have c2 := k3.cell 2 rfl; have c3 := k3.cell 3 rfl; have d0 := kt3.cell 0 rfl; have d1 := kt3.cell 1 rfl; have d2 := kt3.cell 2 rfl; have d3 := kt3.cell 3 rfl))
        go_ret2
        exact ⟨rfl, hB3⟩
      · have HA' : Hid (∀ j, j < 1 + 1 → bfit a b (sd n j) x y = true) := Lib.hid fun j hj => by
          by_cases e : j = 1
          · rw [e]; exact hf
          · exact HA.out j (by omega)
        have hfi := bfit_iff.1 hf
        simp only at hfi
        obtain ⟨v, hv⟩ : ∃ v, sval P a n x y 1 = v := ⟨_, rfl⟩
        have hv0 : 0 ≤ v := by rw [← hv]; exact bval_nonneg (by omega) hP.out a _ x y
        have hsum := Lib.hid (fun w' (hb' : Below w.heap.size w w') => rSum_at (x := (x + -n).toNat) (y := (y + -n).toNat) (wd := (2 * n + 1).toNat) (ht := (n).toNat) (X := x + -n) (Y := y + -n) (WD := 2 * n + 1) (HT := n) (hs.out w' hb') hr.out (by omega) (by omega) (by omega) (by omega) (by omega) (by omega) hv)
        have hup := Lib.hid (fun hl => (hF.out.up (k := 1) (by rw [hv]; exact hl) : Fs (sval P a n x y) (1 + 1) 1 (sval P a n x y 1) 1))
        have heq := Lib.hid (fun hl => (hF.out.eq (k := 1) (by rw [hv]; exact hv0) (by rw [hv]; exact hl)))
        have hdn := Lib.hid (fun hl => (hF.out.down (k := 1) (by rw [hv]; exact hv0) (by rw [hv]; exact hl)))
        have j1 : IntKind.i64.wrap (x + -n) = x + -n := IntWalk.i64_in _ (by omega)
        have j2 : IntKind.i64.wrap (y + -n) = y + -n := IntWalk.i64_in _ (by omega)
        replace hf := Lib.hid hf
        have hv' := Lib.hid hv
        clear hv hfi HA hF
        by_cases g1 : mst < v
        · have g2 : ((v : Int) == v) = true := by simp
          go_wp2_with (first | (go_at_call 52; refine (side_1 n ⟨n1, n2⟩ _).mono ?_; rintro e w2 ⟨rfl, hb2⟩; have zz2 := hb2.size; have k2 := (kk.below hb2 hkl).alloc (.cells #[.int .i64 (-n), .int .i64 (-n), .int .i64 (2 * n + 1), .int .i64 n] 28); have hB2 := (hB.trans (hb2.mono (by omega))).alloc (by have := hB.size; omega) (.cells #[.int .i64 (-n), .int .i64 (-n), .int .i64 (2 * n + 1), .int .i64 n] 28); have kt : KB _ _ _ _ := KB.new w2 #[.int .i64 (-n), .int .i64 (-n), .int .i64 (2 * n + 1), .int .i64 n] 28; have c0 := k2.cell 0 rfl; have c1 := k2.cell 1 rfl; have c2 := k2.cell 2 rfl; have c3 := k2.cell 3 rfl) | (go_at_call 44; refine (fits_at ⟨hw1, hw2⟩ ⟨xa, xb⟩ ⟨ya, yb⟩ hbq.out hf.out _).mono ?_; rintro e w3 ⟨rfl, hb3⟩; simp only [World.size_alloc] at hb3; have zz3 := hb3.size; (try simp only [World.size_alloc] at zz3); have hB3 := hB2.trans (hb3.mono (by have := hB.size; omega)); have k3 := k2.below hb3 (by omega); have kt3 := kt.below hb3 (by omega); clear c0 c1 c2 c3; have c0 := k3.cell 0 rfl; have c1 := k3.cell 1 rfl; have c2 := k3.cell 2 rfl; have c3 := k3.cell 3 rfl; have d0 := kt3.cell 0 rfl; have d1 := kt3.cell 1 rfl; have d2 := kt3.cell 2 rfl; have d3 := kt3.cell 3 rfl) | (go_at_call 45; refine (hsum.out _ hB3).mono ?_; rintro e w4 ⟨rfl, hb4⟩; have zz4 := hb4.size; have hB4 := hB3.trans (hb4.mono (by have := hB.size; omega)); have k4 := k3.below hb4 (by omega)))
          exact ⟨⟨1 + 1, (1 : Nat), v, 1, by omega, rfl, rfl, by first | rfl | simp, by go_num, Lib.hid (by have := hup.out g1; rw [hv'.out] at this; exact this), ⟨by omega, by omega⟩, hB4, k4, HA'⟩, by simp [intOf]⟩
        by_cases g3 : v = mst
        · subst g3
          have heq' := Lib.hid (heq.out rfl)
          clear heq
          have g2 : ((v : Int) == v) = true := by simp
          go_wp2_with (first | (go_at_call 52; refine (side_1 n ⟨n1, n2⟩ _).mono ?_; rintro e w2 ⟨rfl, hb2⟩; have zz2 := hb2.size; have k2 := (kk.below hb2 hkl).alloc (.cells #[.int .i64 (-n), .int .i64 (-n), .int .i64 (2 * n + 1), .int .i64 n] 28); have hB2 := (hB.trans (hb2.mono (by omega))).alloc (by have := hB.size; omega) (.cells #[.int .i64 (-n), .int .i64 (-n), .int .i64 (2 * n + 1), .int .i64 n] 28); have kt : KB _ _ _ _ := KB.new w2 #[.int .i64 (-n), .int .i64 (-n), .int .i64 (2 * n + 1), .int .i64 n] 28; have c0 := k2.cell 0 rfl; have c1 := k2.cell 1 rfl; have c2 := k2.cell 2 rfl; have c3 := k2.cell 3 rfl) | (go_at_call 44; refine (fits_at ⟨hw1, hw2⟩ ⟨xa, xb⟩ ⟨ya, yb⟩ hbq.out hf.out _).mono ?_; rintro e w3 ⟨rfl, hb3⟩; simp only [World.size_alloc] at hb3; have zz3 := hb3.size; (try simp only [World.size_alloc] at zz3); have hB3 := hB2.trans (hb3.mono (by have := hB.size; omega)); have k3 := k2.below hb3 (by omega); have kt3 := kt.below hb3 (by omega); clear c0 c1 c2 c3; have c0 := k3.cell 0 rfl; have c1 := k3.cell 1 rfl; have c2 := k3.cell 2 rfl; have c3 := k3.cell 3 rfl; have d0 := kt3.cell 0 rfl; have d1 := kt3.cell 1 rfl; have d2 := kt3.cell 2 rfl; have d3 := kt3.cell 3 rfl) | (go_at_call 45; refine (hsum.out _ hB3).mono ?_; rintro e w4 ⟨rfl, hb4⟩; have zz4 := hb4.size; have hB4 := hB3.trans (hb4.mono (by have := hB.size; omega)); have k4 := k3.below hb4 (by omega)))
          exact ⟨⟨1 + 1, bst, v, tms + 1, by omega, rfl, rfl, by first | rfl | simp, by go_num, heq', ⟨by omega, by have := heq'.out; rcases this with ⟨e, -⟩ | ⟨q, -, -, -, -, -, -, e, -⟩ <;> omega⟩, hB4, k4, HA'⟩, by simp [intOf]⟩
        · have g4 : v < mst := by omega
          have g2 : ((v : Int) == mst) = false := by simp; omega
          go_wp2_with (first | (go_at_call 52; refine (side_1 n ⟨n1, n2⟩ _).mono ?_; rintro e w2 ⟨rfl, hb2⟩; have zz2 := hb2.size; have k2 := (kk.below hb2 hkl).alloc (.cells #[.int .i64 (-n), .int .i64 (-n), .int .i64 (2 * n + 1), .int .i64 n] 28); have hB2 := (hB.trans (hb2.mono (by omega))).alloc (by have := hB.size; omega) (.cells #[.int .i64 (-n), .int .i64 (-n), .int .i64 (2 * n + 1), .int .i64 n] 28); have kt : KB _ _ _ _ := KB.new w2 #[.int .i64 (-n), .int .i64 (-n), .int .i64 (2 * n + 1), .int .i64 n] 28; have c0 := k2.cell 0 rfl; have c1 := k2.cell 1 rfl; have c2 := k2.cell 2 rfl; have c3 := k2.cell 3 rfl) | (go_at_call 44; refine (fits_at ⟨hw1, hw2⟩ ⟨xa, xb⟩ ⟨ya, yb⟩ hbq.out hf.out _).mono ?_; rintro e w3 ⟨rfl, hb3⟩; simp only [World.size_alloc] at hb3; have zz3 := hb3.size; (try simp only [World.size_alloc] at zz3); have hB3 := hB2.trans (hb3.mono (by have := hB.size; omega)); have k3 := k2.below hb3 (by omega); have kt3 := kt.below hb3 (by omega); clear c0 c1 c2 c3; have c0 := k3.cell 0 rfl; have c1 := k3.cell 1 rfl; have c2 := k3.cell 2 rfl; have c3 := k3.cell 3 rfl; have d0 := kt3.cell 0 rfl; have d1 := kt3.cell 1 rfl; have d2 := kt3.cell 2 rfl; have d3 := kt3.cell 3 rfl) | (go_at_call 45; refine (hsum.out _ hB3).mono ?_; rintro e w4 ⟨rfl, hb4⟩; have zz4 := hb4.size; have hB4 := hB3.trans (hb4.mono (by have := hB.size; omega)); have k4 := k3.below hb4 (by omega)))
          exact ⟨⟨1 + 1, bst, mst, tms, by omega, rfl, rfl, rfl, by go_num, Lib.hid (hdn.out g4), ⟨by omega, by omega⟩, hB4, k4, HA'⟩, by simp [intOf]⟩
    · obtain ⟨f, hf⟩ : ∃ f, bfit a b (-n, -n, n, 2 * n + 1) x y = f := ⟨_, rfl⟩
      have hbq : Hid (Bxs (-n, -n, n, 2 * n + 1)) := Lib.hid (hbx.out 2)
      cases f
      · obtain ⟨e1, e2⟩ := hno.out 2 (by omega) hf
        subst e1 e2
        replace hf := Lib.hid hf
        go_wp2_with (first | (go_at_call 52; refine (side_2 n ⟨n1, n2⟩ _).mono ?_; rintro e w2 ⟨rfl, hb2⟩; have zz2 := hb2.size; have k2 := (kk.below hb2 hkl).alloc (.cells #[.int .i64 (-n), .int .i64 (-n), .int .i64 n, .int .i64 (2 * n + 1)] 28); have hB2 := (hB.trans (hb2.mono (by omega))).alloc (by have := hB.size; omega) (.cells #[.int .i64 (-n), .int .i64 (-n), .int .i64 n, .int .i64 (2 * n + 1)] 28); have kt : KB _ _ _ _ := KB.new w2 #[.int .i64 (-n), .int .i64 (-n), .int .i64 n, .int .i64 (2 * n + 1)] 28; have c0 := k2.cell 0 rfl; have c1 := k2.cell 1 rfl; have c2 := k2.cell 2 rfl; have c3 := k2.cell 3 rfl) | (go_at_call 44; refine (fits_at ⟨hw1, hw2⟩ ⟨xa, xb⟩ ⟨ya, yb⟩ hbq.out hf.out _).mono ?_; rintro e w3 ⟨rfl, hb3⟩; simp only [World.size_alloc] at hb3; have zz3 := hb3.size; (try simp only [World.size_alloc] at zz3); have hB3 := hB2.trans (hb3.mono (by have := hB.size; omega)); have k3 := k2.below hb3 (by omega); have kt3 := kt.below hb3 (by omega); clear c0 c1 c2 c3; have c0 := k3.cell 0 rfl; have c1 := k3.cell 1 rfl; have c2 := k3.cell 2 rfl; have c3 := k3.cell 3 rfl; have d0 := kt3.cell 0 rfl; have d1 := kt3.cell 1 rfl; have d2 := kt3.cell 2 rfl; have d3 := kt3.cell 3 rfl))
        go_ret2
        exact ⟨rfl, hB3⟩
      · have HA' : Hid (∀ j, j < 2 + 1 → bfit a b (sd n j) x y = true) := Lib.hid fun j hj => by
          by_cases e : j = 2
          · rw [e]; exact hf
          · exact HA.out j (by omega)
        have hfi := bfit_iff.1 hf
        simp only at hfi
        obtain ⟨v, hv⟩ : ∃ v, sval P a n x y 2 = v := ⟨_, rfl⟩
        have hv0 : 0 ≤ v := by rw [← hv]; exact bval_nonneg (by omega) hP.out a _ x y
        have hsum := Lib.hid (fun w' (hb' : Below w.heap.size w w') => rSum_at (x := (x + -n).toNat) (y := (y + -n).toNat) (wd := (n).toNat) (ht := (2 * n + 1).toNat) (X := x + -n) (Y := y + -n) (WD := n) (HT := 2 * n + 1) (hs.out w' hb') hr.out (by omega) (by omega) (by omega) (by omega) (by omega) (by omega) hv)
        have hup := Lib.hid (fun hl => (hF.out.up (k := 2) (by rw [hv]; exact hl) : Fs (sval P a n x y) (2 + 1) 2 (sval P a n x y 2) 1))
        have heq := Lib.hid (fun hl => (hF.out.eq (k := 2) (by rw [hv]; exact hv0) (by rw [hv]; exact hl)))
        have hdn := Lib.hid (fun hl => (hF.out.down (k := 2) (by rw [hv]; exact hv0) (by rw [hv]; exact hl)))
        have j1 : IntKind.i64.wrap (x + -n) = x + -n := IntWalk.i64_in _ (by omega)
        have j2 : IntKind.i64.wrap (y + -n) = y + -n := IntWalk.i64_in _ (by omega)
        replace hf := Lib.hid hf
        have hv' := Lib.hid hv
        clear hv hfi HA hF
        by_cases g1 : mst < v
        · have g2 : ((v : Int) == v) = true := by simp
          go_wp2_with (first | (go_at_call 52; refine (side_2 n ⟨n1, n2⟩ _).mono ?_; rintro e w2 ⟨rfl, hb2⟩; have zz2 := hb2.size; have k2 := (kk.below hb2 hkl).alloc (.cells #[.int .i64 (-n), .int .i64 (-n), .int .i64 n, .int .i64 (2 * n + 1)] 28); have hB2 := (hB.trans (hb2.mono (by omega))).alloc (by have := hB.size; omega) (.cells #[.int .i64 (-n), .int .i64 (-n), .int .i64 n, .int .i64 (2 * n + 1)] 28); have kt : KB _ _ _ _ := KB.new w2 #[.int .i64 (-n), .int .i64 (-n), .int .i64 n, .int .i64 (2 * n + 1)] 28; have c0 := k2.cell 0 rfl; have c1 := k2.cell 1 rfl; have c2 := k2.cell 2 rfl; have c3 := k2.cell 3 rfl) | (go_at_call 44; refine (fits_at ⟨hw1, hw2⟩ ⟨xa, xb⟩ ⟨ya, yb⟩ hbq.out hf.out _).mono ?_; rintro e w3 ⟨rfl, hb3⟩; simp only [World.size_alloc] at hb3; have zz3 := hb3.size; (try simp only [World.size_alloc] at zz3); have hB3 := hB2.trans (hb3.mono (by have := hB.size; omega)); have k3 := k2.below hb3 (by omega); have kt3 := kt.below hb3 (by omega); clear c0 c1 c2 c3; have c0 := k3.cell 0 rfl; have c1 := k3.cell 1 rfl; have c2 := k3.cell 2 rfl; have c3 := k3.cell 3 rfl; have d0 := kt3.cell 0 rfl; have d1 := kt3.cell 1 rfl; have d2 := kt3.cell 2 rfl; have d3 := kt3.cell 3 rfl) | (go_at_call 45; refine (hsum.out _ hB3).mono ?_; rintro e w4 ⟨rfl, hb4⟩; have zz4 := hb4.size; have hB4 := hB3.trans (hb4.mono (by have := hB.size; omega)); have k4 := k3.below hb4 (by omega)))
          exact ⟨⟨2 + 1, (2 : Nat), v, 1, by omega, rfl, rfl, by first | rfl | simp, by go_num, Lib.hid (by have := hup.out g1; rw [hv'.out] at this; exact this), ⟨by omega, by omega⟩, hB4, k4, HA'⟩, by simp [intOf]⟩
        by_cases g3 : v = mst
        · subst g3
          have heq' := Lib.hid (heq.out rfl)
          clear heq
          have g2 : ((v : Int) == v) = true := by simp
          go_wp2_with (first | (go_at_call 52; refine (side_2 n ⟨n1, n2⟩ _).mono ?_; rintro e w2 ⟨rfl, hb2⟩; have zz2 := hb2.size; have k2 := (kk.below hb2 hkl).alloc (.cells #[.int .i64 (-n), .int .i64 (-n), .int .i64 n, .int .i64 (2 * n + 1)] 28); have hB2 := (hB.trans (hb2.mono (by omega))).alloc (by have := hB.size; omega) (.cells #[.int .i64 (-n), .int .i64 (-n), .int .i64 n, .int .i64 (2 * n + 1)] 28); have kt : KB _ _ _ _ := KB.new w2 #[.int .i64 (-n), .int .i64 (-n), .int .i64 n, .int .i64 (2 * n + 1)] 28; have c0 := k2.cell 0 rfl; have c1 := k2.cell 1 rfl; have c2 := k2.cell 2 rfl; have c3 := k2.cell 3 rfl) | (go_at_call 44; refine (fits_at ⟨hw1, hw2⟩ ⟨xa, xb⟩ ⟨ya, yb⟩ hbq.out hf.out _).mono ?_; rintro e w3 ⟨rfl, hb3⟩; simp only [World.size_alloc] at hb3; have zz3 := hb3.size; (try simp only [World.size_alloc] at zz3); have hB3 := hB2.trans (hb3.mono (by have := hB.size; omega)); have k3 := k2.below hb3 (by omega); have kt3 := kt.below hb3 (by omega); clear c0 c1 c2 c3; have c0 := k3.cell 0 rfl; have c1 := k3.cell 1 rfl; have c2 := k3.cell 2 rfl; have c3 := k3.cell 3 rfl; have d0 := kt3.cell 0 rfl; have d1 := kt3.cell 1 rfl; have d2 := kt3.cell 2 rfl; have d3 := kt3.cell 3 rfl) | (go_at_call 45; refine (hsum.out _ hB3).mono ?_; rintro e w4 ⟨rfl, hb4⟩; have zz4 := hb4.size; have hB4 := hB3.trans (hb4.mono (by have := hB.size; omega)); have k4 := k3.below hb4 (by omega)))
          exact ⟨⟨2 + 1, bst, v, tms + 1, by omega, rfl, rfl, by first | rfl | simp, by go_num, heq', ⟨by omega, by have := heq'.out; rcases this with ⟨e, -⟩ | ⟨q, -, -, -, -, -, -, e, -⟩ <;> omega⟩, hB4, k4, HA'⟩, by simp [intOf]⟩
        · have g4 : v < mst := by omega
          have g2 : ((v : Int) == mst) = false := by simp; omega
          go_wp2_with (first | (go_at_call 52; refine (side_2 n ⟨n1, n2⟩ _).mono ?_; rintro e w2 ⟨rfl, hb2⟩; have zz2 := hb2.size; have k2 := (kk.below hb2 hkl).alloc (.cells #[.int .i64 (-n), .int .i64 (-n), .int .i64 n, .int .i64 (2 * n + 1)] 28); have hB2 := (hB.trans (hb2.mono (by omega))).alloc (by have := hB.size; omega) (.cells #[.int .i64 (-n), .int .i64 (-n), .int .i64 n, .int .i64 (2 * n + 1)] 28); have kt : KB _ _ _ _ := KB.new w2 #[.int .i64 (-n), .int .i64 (-n), .int .i64 n, .int .i64 (2 * n + 1)] 28; have c0 := k2.cell 0 rfl; have c1 := k2.cell 1 rfl; have c2 := k2.cell 2 rfl; have c3 := k2.cell 3 rfl) | (go_at_call 44; refine (fits_at ⟨hw1, hw2⟩ ⟨xa, xb⟩ ⟨ya, yb⟩ hbq.out hf.out _).mono ?_; rintro e w3 ⟨rfl, hb3⟩; simp only [World.size_alloc] at hb3; have zz3 := hb3.size; (try simp only [World.size_alloc] at zz3); have hB3 := hB2.trans (hb3.mono (by have := hB.size; omega)); have k3 := k2.below hb3 (by omega); have kt3 := kt.below hb3 (by omega); clear c0 c1 c2 c3; have c0 := k3.cell 0 rfl; have c1 := k3.cell 1 rfl; have c2 := k3.cell 2 rfl; have c3 := k3.cell 3 rfl; have d0 := kt3.cell 0 rfl; have d1 := kt3.cell 1 rfl; have d2 := kt3.cell 2 rfl; have d3 := kt3.cell 3 rfl) | (go_at_call 45; refine (hsum.out _ hB3).mono ?_; rintro e w4 ⟨rfl, hb4⟩; have zz4 := hb4.size; have hB4 := hB3.trans (hb4.mono (by have := hB.size; omega)); have k4 := k3.below hb4 (by omega)))
          exact ⟨⟨2 + 1, bst, mst, tms, by omega, rfl, rfl, rfl, by go_num, Lib.hid (hdn.out g4), ⟨by omega, by omega⟩, hB4, k4, HA'⟩, by simp [intOf]⟩
    · obtain ⟨f, hf⟩ : ∃ f, bfit a b (-n, 1, 2 * n + 1, n) x y = f := ⟨_, rfl⟩
      have hbq : Hid (Bxs (-n, 1, 2 * n + 1, n)) := Lib.hid (hbx.out 3)
      cases f
      · obtain ⟨e1, e2⟩ := hno.out 3 (by omega) hf
        subst e1 e2
        replace hf := Lib.hid hf
        go_wp2_with (first | (go_at_call 52; refine (side_3 n ⟨n1, n2⟩ _).mono ?_; rintro e w2 ⟨rfl, hb2⟩; have zz2 := hb2.size; have k2 := (kk.below hb2 hkl).alloc (.cells #[.int .i64 (-n), .int .i64 1, .int .i64 (2 * n + 1), .int .i64 n] 28); have hB2 := (hB.trans (hb2.mono (by omega))).alloc (by have := hB.size; omega) (.cells #[.int .i64 (-n), .int .i64 1, .int .i64 (2 * n + 1), .int .i64 n] 28); have kt : KB _ _ _ _ := KB.new w2 #[.int .i64 (-n), .int .i64 1, .int .i64 (2 * n + 1), .int .i64 n] 28; have c0 := k2.cell 0 rfl; have c1 := k2.cell 1 rfl; have c2 := k2.cell 2 rfl; have c3 := k2.cell 3 rfl) | (go_at_call 44; refine (fits_at ⟨hw1, hw2⟩ ⟨xa, xb⟩ ⟨ya, yb⟩ hbq.out hf.out _).mono ?_; rintro e w3 ⟨rfl, hb3⟩; simp only [World.size_alloc] at hb3; have zz3 := hb3.size; (try simp only [World.size_alloc] at zz3); have hB3 := hB2.trans (hb3.mono (by have := hB.size; omega)); have k3 := k2.below hb3 (by omega); have kt3 := kt.below hb3 (by omega); clear c0 c1 c2 c3; have c0 := k3.cell 0 rfl; have c1 := k3.cell 1 rfl; have c2 := k3.cell 2 rfl; have c3 := k3.cell 3 rfl; have d0 := kt3.cell 0 rfl; have d1 := kt3.cell 1 rfl; have d2 := kt3.cell 2 rfl; have d3 := kt3.cell 3 rfl))
        go_ret2
        exact ⟨rfl, hB3⟩
      · have HA' : Hid (∀ j, j < 3 + 1 → bfit a b (sd n j) x y = true) := Lib.hid fun j hj => by
          by_cases e : j = 3
          · rw [e]; exact hf
          · exact HA.out j (by omega)
        have hfi := bfit_iff.1 hf
        simp only at hfi
        obtain ⟨v, hv⟩ : ∃ v, sval P a n x y 3 = v := ⟨_, rfl⟩
        have hv0 : 0 ≤ v := by rw [← hv]; exact bval_nonneg (by omega) hP.out a _ x y
        have hsum := Lib.hid (fun w' (hb' : Below w.heap.size w w') => rSum_at (x := (x + -n).toNat) (y := (y + 1).toNat) (wd := (2 * n + 1).toNat) (ht := (n).toNat) (X := x + -n) (Y := y + 1) (WD := 2 * n + 1) (HT := n) (hs.out w' hb') hr.out (by omega) (by omega) (by omega) (by omega) (by omega) (by omega) hv)
        have hup := Lib.hid (fun hl => (hF.out.up (k := 3) (by rw [hv]; exact hl) : Fs (sval P a n x y) (3 + 1) 3 (sval P a n x y 3) 1))
        have heq := Lib.hid (fun hl => (hF.out.eq (k := 3) (by rw [hv]; exact hv0) (by rw [hv]; exact hl)))
        have hdn := Lib.hid (fun hl => (hF.out.down (k := 3) (by rw [hv]; exact hv0) (by rw [hv]; exact hl)))
        have j1 : IntKind.i64.wrap (x + -n) = x + -n := IntWalk.i64_in _ (by omega)
        have j2 : IntKind.i64.wrap (y + 1) = y + 1 := IntWalk.i64_in _ (by omega)
        replace hf := Lib.hid hf
        have hv' := Lib.hid hv
        clear hv hfi HA hF
        by_cases g1 : mst < v
        · have g2 : ((v : Int) == v) = true := by simp
          go_wp2_with (first | (go_at_call 52; refine (side_3 n ⟨n1, n2⟩ _).mono ?_; rintro e w2 ⟨rfl, hb2⟩; have zz2 := hb2.size; have k2 := (kk.below hb2 hkl).alloc (.cells #[.int .i64 (-n), .int .i64 1, .int .i64 (2 * n + 1), .int .i64 n] 28); have hB2 := (hB.trans (hb2.mono (by omega))).alloc (by have := hB.size; omega) (.cells #[.int .i64 (-n), .int .i64 1, .int .i64 (2 * n + 1), .int .i64 n] 28); have kt : KB _ _ _ _ := KB.new w2 #[.int .i64 (-n), .int .i64 1, .int .i64 (2 * n + 1), .int .i64 n] 28; have c0 := k2.cell 0 rfl; have c1 := k2.cell 1 rfl; have c2 := k2.cell 2 rfl; have c3 := k2.cell 3 rfl) | (go_at_call 44; refine (fits_at ⟨hw1, hw2⟩ ⟨xa, xb⟩ ⟨ya, yb⟩ hbq.out hf.out _).mono ?_; rintro e w3 ⟨rfl, hb3⟩; simp only [World.size_alloc] at hb3; have zz3 := hb3.size; (try simp only [World.size_alloc] at zz3); have hB3 := hB2.trans (hb3.mono (by have := hB.size; omega)); have k3 := k2.below hb3 (by omega); have kt3 := kt.below hb3 (by omega); clear c0 c1 c2 c3; have c0 := k3.cell 0 rfl; have c1 := k3.cell 1 rfl; have c2 := k3.cell 2 rfl; have c3 := k3.cell 3 rfl; have d0 := kt3.cell 0 rfl; have d1 := kt3.cell 1 rfl; have d2 := kt3.cell 2 rfl; have d3 := kt3.cell 3 rfl) | (go_at_call 45; refine (hsum.out _ hB3).mono ?_; rintro e w4 ⟨rfl, hb4⟩; have zz4 := hb4.size; have hB4 := hB3.trans (hb4.mono (by have := hB.size; omega)); have k4 := k3.below hb4 (by omega)))
          exact ⟨⟨3 + 1, (3 : Nat), v, 1, by omega, rfl, rfl, by first | rfl | simp, by go_num, Lib.hid (by have := hup.out g1; rw [hv'.out] at this; exact this), ⟨by omega, by omega⟩, hB4, k4, HA'⟩, by simp [intOf]⟩
        by_cases g3 : v = mst
        · subst g3
          have heq' := Lib.hid (heq.out rfl)
          clear heq
          have g2 : ((v : Int) == v) = true := by simp
          go_wp2_with (first | (go_at_call 52; refine (side_3 n ⟨n1, n2⟩ _).mono ?_; rintro e w2 ⟨rfl, hb2⟩; have zz2 := hb2.size; have k2 := (kk.below hb2 hkl).alloc (.cells #[.int .i64 (-n), .int .i64 1, .int .i64 (2 * n + 1), .int .i64 n] 28); have hB2 := (hB.trans (hb2.mono (by omega))).alloc (by have := hB.size; omega) (.cells #[.int .i64 (-n), .int .i64 1, .int .i64 (2 * n + 1), .int .i64 n] 28); have kt : KB _ _ _ _ := KB.new w2 #[.int .i64 (-n), .int .i64 1, .int .i64 (2 * n + 1), .int .i64 n] 28; have c0 := k2.cell 0 rfl; have c1 := k2.cell 1 rfl; have c2 := k2.cell 2 rfl; have c3 := k2.cell 3 rfl) | (go_at_call 44; refine (fits_at ⟨hw1, hw2⟩ ⟨xa, xb⟩ ⟨ya, yb⟩ hbq.out hf.out _).mono ?_; rintro e w3 ⟨rfl, hb3⟩; simp only [World.size_alloc] at hb3; have zz3 := hb3.size; (try simp only [World.size_alloc] at zz3); have hB3 := hB2.trans (hb3.mono (by have := hB.size; omega)); have k3 := k2.below hb3 (by omega); have kt3 := kt.below hb3 (by omega); clear c0 c1 c2 c3; have c0 := k3.cell 0 rfl; have c1 := k3.cell 1 rfl; have c2 := k3.cell 2 rfl; have c3 := k3.cell 3 rfl; have d0 := kt3.cell 0 rfl; have d1 := kt3.cell 1 rfl; have d2 := kt3.cell 2 rfl; have d3 := kt3.cell 3 rfl) | (go_at_call 45; refine (hsum.out _ hB3).mono ?_; rintro e w4 ⟨rfl, hb4⟩; have zz4 := hb4.size; have hB4 := hB3.trans (hb4.mono (by have := hB.size; omega)); have k4 := k3.below hb4 (by omega)))
          exact ⟨⟨3 + 1, bst, v, tms + 1, by omega, rfl, rfl, by first | rfl | simp, by go_num, heq', ⟨by omega, by have := heq'.out; rcases this with ⟨e, -⟩ | ⟨q, -, -, -, -, -, -, e, -⟩ <;> omega⟩, hB4, k4, HA'⟩, by simp [intOf]⟩
        · have g4 : v < mst := by omega
          have g2 : ((v : Int) == mst) = false := by simp; omega
          go_wp2_with (first | (go_at_call 52; refine (side_3 n ⟨n1, n2⟩ _).mono ?_; rintro e w2 ⟨rfl, hb2⟩; have zz2 := hb2.size; have k2 := (kk.below hb2 hkl).alloc (.cells #[.int .i64 (-n), .int .i64 1, .int .i64 (2 * n + 1), .int .i64 n] 28); have hB2 := (hB.trans (hb2.mono (by omega))).alloc (by have := hB.size; omega) (.cells #[.int .i64 (-n), .int .i64 1, .int .i64 (2 * n + 1), .int .i64 n] 28); have kt : KB _ _ _ _ := KB.new w2 #[.int .i64 (-n), .int .i64 1, .int .i64 (2 * n + 1), .int .i64 n] 28; have c0 := k2.cell 0 rfl; have c1 := k2.cell 1 rfl; have c2 := k2.cell 2 rfl; have c3 := k2.cell 3 rfl) | (go_at_call 44; refine (fits_at ⟨hw1, hw2⟩ ⟨xa, xb⟩ ⟨ya, yb⟩ hbq.out hf.out _).mono ?_; rintro e w3 ⟨rfl, hb3⟩; simp only [World.size_alloc] at hb3; have zz3 := hb3.size; (try simp only [World.size_alloc] at zz3); have hB3 := hB2.trans (hb3.mono (by have := hB.size; omega)); have k3 := k2.below hb3 (by omega); have kt3 := kt.below hb3 (by omega); clear c0 c1 c2 c3; have c0 := k3.cell 0 rfl; have c1 := k3.cell 1 rfl; have c2 := k3.cell 2 rfl; have c3 := k3.cell 3 rfl; have d0 := kt3.cell 0 rfl; have d1 := kt3.cell 1 rfl; have d2 := kt3.cell 2 rfl; have d3 := kt3.cell 3 rfl) | (go_at_call 45; refine (hsum.out _ hB3).mono ?_; rintro e w4 ⟨rfl, hb4⟩; have zz4 := hb4.size; have hB4 := hB3.trans (hb4.mono (by have := hB.size; omega)); have k4 := k3.below hb4 (by omega)))
          exact ⟨⟨3 + 1, bst, mst, tms, by omega, rfl, rfl, rfl, by go_num, Lib.hid (hdn.out g4), ⟨by omega, by omega⟩, hB4, k4, HA'⟩, by simp [intOf]⟩
    · obtain ⟨e1, e2⟩ := hR1.out (sfit_iff.2 HA.out)
      obtain ⟨f1, f2, f3, f4⟩ := hF.out.done hbest.out
      by_cases g : 1 < tms
      · have hd : d = true := by rw [f2]; exact decide_eq_true g
        subst hd
        simp only [if_true] at e1 e2
        subst e1 e2
        replace f2 := Lib.hid f2
        go_wp2
        go_ret2
        exact ⟨rfl, hB⟩
      · have hd : d = false := by rw [f2]; exact decide_eq_false g
        subst hd
        simp only [Bool.false_eq_true, if_false] at e1 e2
        subst e1 e2 f1
        have g' : tms ≤ 1 := by omega
        replace f2 := Lib.hid f2
        go_wp2
        go_ret2
        exact ⟨rfl, hB⟩

end Go.Proofs.Ytonpnjjfidpoiaa
