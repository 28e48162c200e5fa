/-
  Walks: box, pattern, code, few of the law; checked, isPixel, sumsOf, size of package descriptor.
-/
import Derived.Test.YtonpnjjfidpoiaaDsB
set_option linter.unusedSimpArgs false
set_option linter.unusedVariables false
namespace Go.Proofs.Ytonpnjjfidpoiaa
open Go.RowKit

theorem bxok_iff' {x y u v : Int} : bxok (x, y, u, v) = true ↔ ((1 ≤ u ∧ u ≤ 8) ∧ -16 ≤ x ∧ x ≤ 17 - u) ∧ (1 ≤ v ∧ v ≤ 8) ∧ -16 ≤ y ∧ y ≤ 17 - v := bxok_iff
theorem bxok_no {x y u v : Int} (h : ¬ (((1 ≤ u ∧ u ≤ 8) ∧ -16 ≤ x ∧ x ≤ 17 - u) ∧ (1 ≤ v ∧ v ≤ 8) ∧ -16 ≤ y ∧ y ≤ 17 - v)) : bxok (x, y, u, v) = false := by
  rw [← Bool.not_eq_true, bxok_iff']; exact h

set_option maxHeartbeats 3200000 in
theorem lbox_any (x y u v : Int) (w : World) :
    Calls Try.prog 39 #[.agg #[.int .i64 x, .int .i64 y, .int .i64 u, .int .i64 v]] w fun e w' => e = .returned (.bool (bxok (x, y, u, v))) ∧ Below w.heap.size w w' := by
  have hB := (Below.refl w.heap.size w).alloc (Nat.le_refl _) (.cells #[.int .i64 x, .int .i64 y, .int .i64 u, .int .i64 v] 28)
  by_cases d0 : x < -16
  · have hf : Hid (bxok (x, y, u, v) = false) := Lib.hid (bxok_no (by omega))
    go_enter Try.func39, Try.ntmps39
    go_wp2
    go_ret
    exact ⟨ret_bool hf.out.symm, hB⟩
  have c0 : -16 ≤ x := by omega
  clear d0
  by_cases d1 : y < -16
  · have hf : Hid (bxok (x, y, u, v) = false) := Lib.hid (bxok_no (by omega))
    go_enter Try.func39, Try.ntmps39
    go_wp2
    go_ret
    exact ⟨ret_bool hf.out.symm, hB⟩
  have c1 : -16 ≤ y := by omega
  clear d1
  by_cases d2 : u < 1
  · have hf : Hid (bxok (x, y, u, v) = false) := Lib.hid (bxok_no (by omega))
    go_enter Try.func39, Try.ntmps39
    go_wp2
    go_ret
    exact ⟨ret_bool hf.out.symm, hB⟩
  have c2 : 1 ≤ u := by omega
  clear d2
  by_cases d3 : 8 < u
  · have hf : Hid (bxok (x, y, u, v) = false) := Lib.hid (bxok_no (by omega))
    go_enter Try.func39, Try.ntmps39
    go_wp2
    go_ret
    exact ⟨ret_bool hf.out.symm, hB⟩
  have c3 : u ≤ 8 := by omega
  clear d3
  by_cases d4 : v < 1
  · have hf : Hid (bxok (x, y, u, v) = false) := Lib.hid (bxok_no (by omega))
    go_enter Try.func39, Try.ntmps39
    go_wp2
    go_ret
    exact ⟨ret_bool hf.out.symm, hB⟩
  have c4 : 1 ≤ v := by omega
  clear d4
  by_cases d5 : 8 < v
  · have hf : Hid (bxok (x, y, u, v) = false) := Lib.hid (bxok_no (by omega))
    go_enter Try.func39, Try.ntmps39
    go_wp2
    go_ret
    exact ⟨ret_bool hf.out.symm, hB⟩
  have c5 : v ≤ 8 := by omega
  clear d5
  by_cases d6 : 17 - u < x
  · have hf : Hid (bxok (x, y, u, v) = false) := Lib.hid (bxok_no (by omega))
    go_enter Try.func39, Try.ntmps39
    go_wp2
    go_ret
    exact ⟨ret_bool hf.out.symm, hB⟩
  have c6 : x ≤ 17 - u := by omega
  clear d6
  have hf : Hid (bxok (x, y, u, v) = decide (y ≤ 17 - v)) := Lib.hid (by rw [Bool.eq_iff_iff, bxok_iff', decide_eq_true_iff]; omega)
  go_enter Try.func39, Try.ntmps39
  go_wp2
  go_ret
  exact ⟨ret_bool hf.out.symm, hB⟩
theorem lbox_at {x y u v : Int} {b : Bool} (h : bxok (x, y, u, v) = b) (w : World) :
    Calls Try.prog 39 #[.agg #[.int .i64 x, .int .i64 y, .int .i64 u, .int .i64 v]] w fun e w' => e = .returned (.bool b) ∧ Below w.heap.size w w' := h ▸ lbox_any x y u v w

set_option maxHeartbeats 3200000 in
theorem pattern_any (A : Option Addr) (n c : Nat) (l : List Tst) (w : World) (h : PS w A n c l) :
    Calls Try.prog 13 #[.slice A n c] w fun e w' => e = .returned (.bool (pat l)) ∧ Below w.heap.size w w' := by
  have hcap := h.le_cap
  have hcl := h.cap_le
  have hlen := Lib.hid h.len
  by_cases d0 : n < 1
  · have hf : Hid (pat l = false) := Lib.hid (by rw [← Bool.not_eq_true, pat_iff, ← hlen.out]; omega)
    have d0' : (n : Int) < 1 := by omega
    go_enter Try.func13, Try.ntmps13
    go_wp2
    go_ret
    exact ⟨ret_bool hf.out.symm, Below.refl _ _⟩
  by_cases d1 : 64 < n
  · have hf : Hid (pat l = false) := Lib.hid (by rw [← Bool.not_eq_true, pat_iff, ← hlen.out]; omega)
    have d0' : ¬ (n : Int) < 1 := by omega
    have d1' : 64 < (n : Int) := by omega
    go_enter Try.func13, Try.ntmps13
    go_wp2
    go_ret
    exact ⟨ret_bool hf.out.symm, Below.refl _ _⟩
  have d0' : ¬ (n : Int) < 1 := by omega
  have d1' : ¬ 64 < (n : Int) := by omega
  go_enter Try.func13, Try.ntmps13
  go_wp2
  go_loopw [15] (fun i wr => ∃ k : Nat, k ≤ n ∧ i = .int .i64 k ∧ Below w.heap.size w wr ∧ Hid (∀ j, j < k → tok (tstAt l j) = true)) (fun i _ => n - (intOf i).toNat)
  case atStart => exact ⟨0, Nat.zero_le _, rfl, Below.refl _ _, Lib.hid fun j hj => absurd hj (Nat.not_lt_zero _)⟩
  case round =>
    obtain ⟨k, hk, rfl, hB, HA⟩ := hrel
    by_cases hlt : k < n
    · obtain ⟨b, off, rfl, hbw, hc⟩ := PS.at_ (h.below hB (Nat.le_refl _)) (by omega)
      obtain ⟨⟨q0, q1, q2, q3⟩, q4, q5, q6, q7⟩ := hc k hlt
      clear hc h
      obtain ⟨⟨⟨x1, x2, x3, x4⟩, x5, x6, x7, x8⟩, hy⟩ : ∃ y, tstAt l k = y := ⟨_, rfl⟩
      rw [hy] at q0 q1 q2 q3 q4 q5 q6 q7
      obtain ⟨m, hm⟩ : ∃ m, k * 8 = m := ⟨_, rfl⟩
      simp only [hm] at q0 q1 q2 q3 q4 q5 q6 q7
      replace hy := Lib.hid hy
      have hlt' : (k : Int) < (n : Int) := by omega
      have hB1 := hB.alloc hB.size (.cells #[.int .i64 x1, .int .i64 x2, .int .i64 x3, .int .i64 x4, .int .i64 x5, .int .i64 x6, .int .i64 x7, .int .i64 x8] 30)
      have k0 : KB _ _ _ _ := KB.new wr #[.int .i64 x1, .int .i64 x2, .int .i64 x3, .int .i64 x4, .int .i64 x5, .int .i64 x6, .int .i64 x7, .int .i64 x8] 30
      obtain ⟨b1, h1⟩ : ∃ t, bxok (x1, x2, x3, x4) = t := ⟨_, rfl⟩
      obtain ⟨b2, h2⟩ : ∃ t, bxok (x5, x6, x7, x8) = t := ⟨_, rfl⟩
      have hb : Hid (tok (tstAt l k) = (b1 && b2)) := Lib.hid (by rw [hy.out, ← h1, ← h2]; rfl)
      replace h1 := Lib.hid h1
      replace h2 := Lib.hid h2
      have hz := hB1.size
      simp only [World.size_alloc] at hz
      cases b1
      · have hf : Hid (pat l = false) := Lib.hid (by rw [← Bool.not_eq_true, pat_iff]; intro hp; have := hp.2 k (by rw [← hlen.out]; exact hlt); rw [hb.out] at this; cases this)
        go_wp2_with (go_at_call 39; refine (lbox_at h1.out _).mono ?_; rintro e w1 ⟨rfl, hb1⟩; simp only [World.size_alloc] at hb1)
        go_ret
        exact ⟨ret_bool hf.out.symm, hB1.trans (hb1.mono (by omega))⟩
      · cases b2
        · have hf : Hid (pat l = false) := Lib.hid (by rw [← Bool.not_eq_true, pat_iff]; intro hp; have := hp.2 k (by rw [← hlen.out]; exact hlt); rw [hb.out] at this; cases this)
          have tok1 : True := trivial
          go_wp2_with (first | (go_at_call 39; clear tok1; refine (lbox_at h1.out _).mono ?_; rintro e w1 ⟨rfl, hb1⟩; simp only [World.size_alloc] at hb1; have z1 := hb1.size; (try simp only [World.size_alloc] at z1); have k1 := k0.below hb1 (by omega); have c4 := k1.cell 4 rfl; have c5 := k1.cell 5 rfl; have c6 := k1.cell 6 rfl; have c7 := k1.cell 7 rfl) | (go_at_call 39; refine (lbox_at h2.out _).mono ?_; rintro e w2 ⟨rfl, hb2⟩))
          go_ret
          exact ⟨ret_bool hf.out.symm, (hB1.trans (hb1.mono (by omega))).trans (hb2.mono (by omega))⟩
        · have tok1 : True := trivial
          go_wp2_with (first | (go_at_call 39; clear tok1; refine (lbox_at h1.out _).mono ?_; rintro e w1 ⟨rfl, hb1⟩; simp only [World.size_alloc] at hb1; have z1 := hb1.size; (try simp only [World.size_alloc] at z1); have k1 := k0.below hb1 (by omega); have c4 := k1.cell 4 rfl; have c5 := k1.cell 5 rfl; have c6 := k1.cell 6 rfl; have c7 := k1.cell 7 rfl) | (go_at_call 39; refine (lbox_at h2.out _).mono ?_; rintro e w2 ⟨rfl, hb2⟩))
          exact ⟨⟨k + 1, hlt, by go_num, (hB1.trans (hb1.mono (by omega))).trans (hb2.mono (by omega)), Lib.hid fun j hj => (by
            by_cases e : j = k
            · rw [e]; exact hb.out
            · exact HA.out j (by omega))⟩, by simp [intOf]; omega⟩
    · obtain rfl : k = n := by omega
      have hf : Hid (pat l = true) := Lib.hid (pat_iff.2 ⟨by rw [← hlen.out]; omega, by rw [← hlen.out]; exact HA.out⟩)
      go_wp2
      go_ret
      exact ⟨ret_bool hf.out.symm, hB⟩

/-- The code of a raster and a pattern. -/
noncomputable def rcode (W H M : Int) (P : List Int) (l : List Tst) : Int := by classical exact if Ras W H M P ∧ pat l = true then 0 else 1
theorem rcode_ok {W H M : Int} {P : List Int} {l : List Tst} (h : Ras W H M P) (hp : pat l = true) : rcode W H M P l = 0 := if_pos ⟨h, hp⟩
theorem rcode_ras {W H M : Int} {P : List Int} {l : List Tst} (h : ¬ Ras W H M P) : rcode W H M P l = 1 := if_neg fun x => h x.1
theorem rcode_pat {W H M : Int} {P : List Int} {l : List Tst} (h : pat l = false) : rcode W H M P l = 1 := if_neg fun x => by rw [h] at x; cases x.2

set_option maxHeartbeats 1600000 in
theorem code_any (W H M : Int) (A : Option Addr) (n c : Nat) (P : List Int) (A2 : Option Addr) (n2 c2 : Nat) (l : List Tst) (w : World) (h : Sl w A n c P) (h2 : PS w A2 n2 c2 l) :
    Calls Try.prog 19 #[.agg #[.int .i64 W, .int .i64 H, .int .i64 M, .slice A n c], .slice A2 n2 c2] w fun e w' => e = .returned (.int .i64 (rcode W H M P l)) ∧ Below w.heap.size w w' := by
  have hB := (Below.refl w.heap.size w).alloc (Nat.le_refl _) (.cells #[.int .i64 W, .int .i64 H, .int .i64 M, .slice A n c] 37)
  have hs := h.alloc (.cells #[.int .i64 W, .int .i64 H, .int .i64 M, .slice A n c] 37)
  have hp := h2.below hB (Nat.le_refl _)
  by_cases hr : Ras W H M P
  · have hck := Lib.hid (rCheck_ok hs hr)
    obtain ⟨b, hb⟩ : ∃ t, pat l = t := ⟨_, rfl⟩
    have hrc : Hid (rcode W H M P l = cod b 1) := Lib.hid (by cases b; exact rcode_pat hb; exact rcode_ok hr hb)
    replace hp := Lib.hid hp
    have hb' := Lib.hid hb
    clear h h2 hs hr hb
    cases b
    all_goals
      go_enter Try.func19, Try.ntmps19
      go_wp2_with (first | (go_at_call 28; refine hck.out.mono ?_; rintro e w1 ⟨rfl, hb1⟩; simp only [World.size_alloc] at hb1; have z1 := hb1.size; (try simp only [World.size_alloc] at z1)) | (go_at_call 13; refine (pattern_any _ _ _ l _ (hp.out.below hb1 (by simp))).mono ?_; rw [hb'.out]; rintro e w2 ⟨rfl, hb2⟩))
      go_ret
      exact ⟨ret_int hrc.out.symm, (hB.trans (hb1.mono (by omega))).trans (hb2.mono (by omega))⟩
  · have hck := Lib.hid (rCheck_no hs hr)
    have hrc := Lib.hid (rcode_ras (l := l) hr)
    clear h h2 hs hr hp
    go_enter Try.func19, Try.ntmps19
    go_wp2_with (go_at_call 28; refine hck.out.mono ?_; rintro e w1 ⟨rfl, hb1⟩; simp only [World.size_alloc] at hb1)
    go_ret
    exact ⟨ret_int hrc.out.symm, hB.trans (hb1.mono (by omega))⟩

/-- checked says what code says. -/
theorem checked_any (W H M : Int) (A : Option Addr) (n c : Nat) (P : List Int) (A2 : Option Addr) (n2 c2 : Nat) (l : List Tst) (w : World) (h : Sl w A n c P) (h2 : PS w A2 n2 c2 l) :
    Calls Try.prog 40 #[.agg #[.int .i64 W, .int .i64 H, .int .i64 M, .slice A n c], .slice A2 n2 c2] w fun e w' => e = .returned (.int .i64 (rcode W H M P l)) ∧ Below w.heap.size w w' := by
  have hB := (Below.refl w.heap.size w).alloc (Nat.le_refl _) (.cells #[.int .i64 W, .int .i64 H, .int .i64 M, .slice A n c] 37)
  have hs := h.alloc (.cells #[.int .i64 W, .int .i64 H, .int .i64 M, .slice A n c] 37)
  have hp := h2.below hB (Nat.le_refl _)
  by_cases hr : Ras W H M P
  · have hck := Lib.hid (Check_ok hs hr)
    have hrc : Hid (rcode W H M P l = cod (pat l) 1) := Lib.hid (by cases hb : pat l; exact rcode_pat hb; exact rcode_ok hr hb)
    replace hp := Lib.hid hp
    clear h h2 hs hr
    go_enter Try.func40, Try.ntmps40
    go_wp2_with (first | (go_at_call 50; refine hck.out.mono ?_; rintro e w1 ⟨rfl, hb1⟩; simp only [World.size_alloc] at hb1; have z1 := hb1.size; (try simp only [World.size_alloc] at z1)) | (go_at_call 12; refine (dCheck_any _ _ _ l _ (hp.out.below hb1 (by simp))).mono ?_; rintro e w2 ⟨rfl, hb2⟩))
    go_ret
    exact ⟨ret_int hrc.out.symm, (hB.trans (hb1.mono (by omega))).trans (hb2.mono (by omega))⟩
  · have hck := Lib.hid (Check_no hs hr)
    have hrc := Lib.hid (rcode_ras (l := l) hr)
    clear h h2 hs hr hp
    go_enter Try.func40, Try.ntmps40
    go_wp2_with (go_at_call 50; refine hck.out.mono ?_; rintro e w1 ⟨rfl, hb1⟩; simp only [World.size_alloc] at hb1)
    go_ret
    exact ⟨ret_int hrc.out.symm, hB.trans (hb1.mono (by omega))⟩

set_option maxHeartbeats 1600000 in
theorem few_any (W H M : Int) (A : Option Addr) (n c : Nat) (A2 : Option Addr) (n2 c2 : Nat) (w : World) (hn : n ≤ 9223372036854775807) (hn2 : n2 ≤ 9223372036854775807) {b : Bool} (hb : b = decide (n ≤ 600 ∧ n2 ≤ 70)) :
    Calls Try.prog 17 #[.agg #[.int .i64 W, .int .i64 H, .int .i64 M, .slice A n c], .slice A2 n2 c2] w fun e w' => e = .returned (.bool b) ∧ Below w.heap.size w w' := by
  have hB := (Below.refl w.heap.size w).alloc (Nat.le_refl _) (.cells #[.int .i64 W, .int .i64 H, .int .i64 M, .slice A n c] 37)
  by_cases h1 : n ≤ 600
  · by_cases h2 : n2 ≤ 70
    · have h1' : (n : Int) ≤ 600 := by omega
      have hf : Hid (b = decide ((n2 : Int) ≤ 70)) := Lib.hid (by rw [hb, Bool.eq_iff_iff]; simp only [decide_eq_true_eq]; omega)
      clear hb
      go_enter Try.func17, Try.ntmps17
      go_wp2
      go_ret
      exact ⟨ret_bool hf.out.symm, hB⟩
    · have h1' : (n : Int) ≤ 600 := by omega
      have hf : Hid (b = decide ((n2 : Int) ≤ 70)) := Lib.hid (by rw [hb, Bool.eq_iff_iff]; simp only [decide_eq_true_eq]; omega)
      clear hb
      have h2' : 70 < n2 := by omega
      clear h2
      go_enter Try.func17, Try.ntmps17
      go_wp2
      go_ret
      exact ⟨ret_bool hf.out.symm, hB⟩
  · have hf : Hid (b = false) := Lib.hid (by rw [hb]; simp [h1])
    have h1' : 600 < n := by omega
    clear hb h1
    go_enter Try.func17, Try.ntmps17
    go_wp2
    go_ret
    exact ⟨ret_bool hf.out.symm, hB⟩

end Go.Proofs.Ytonpnjjfidpoiaa
