/-
  Walks: Sum of the reference.
-/
import Derived.Test.YtehnemdifkjhcaaRaP
set_option linter.unusedSimpArgs false
set_option linter.unusedVariables false
namespace Go.Proofs.Ytehnemdifkjhcaa
open Go.RowKit

/-- The sum of h rows from row y on, of w pixels each from column x on. -/
def bsum (P : List Int) (a x wd y : Nat) : Nat → Int
  | 0 => 0
  | h + 1 => bsum P a x wd y h + (rsum P a (y + h) (x + wd) - rsum P a (y + h) x)
theorem bsum_eq (P : List Int) (a x wd y h : Nat) : bsum P a x wd y h = psum P a (y + h) (x + wd) - psum P a (y + h) x - psum P a y (x + wd) + psum P a y x := by
  induction h with
  | zero => show (0 : Int) = _; rw [Nat.add_zero]; omega
  | succ h ih =>
    show bsum P a x wd y h + (rsum P a (y + h) (x + wd) - rsum P a (y + h) x) = _
    have e1 : psum P a (y + (h + 1)) (x + wd) = psum P a (y + h) (x + wd) + rsum P a (y + h) (x + wd) := rfl
    have e2 : psum P a (y + (h + 1)) x = psum P a (y + h) x + rsum P a (y + h) x := rfl
    rw [ih, e1, e2]
    omega
theorem bsum_small {P : List Int} {M : Int} (hM : 0 ≤ M ∧ M ≤ 65535) (h : ∀ g ∈ P, 0 ≤ g ∧ g ≤ M) {a x wd y k : Nat} (hx : x + wd ≤ 64) (hy : y + k ≤ 64) : -1000000000 ≤ bsum P a x wd y k ∧ bsum P a x wd y k ≤ 1000000000 := by
  rw [bsum_eq]
  have p1 := psum_small hM h a (x := x + wd) (y := y + k) (by omega) (by omega)
  have p2 := psum_small hM h a (x := x) (y := y + k) (by omega) (by omega)
  have p3 := psum_small hM h a (x := x + wd) (y := y) (by omega) (by omega)
  have p4 := psum_small hM h a (x := x) (y := y) (by omega) (by omega)
  omega

set_option maxRecDepth 100000 in
set_option maxHeartbeats 4000000 in
theorem rSum_at {a b : Nat} {M : Int} {A : Option Addr} {n c : Nat} {P : List Int} {w : World} (x y wd ht : Nat) {X Y WD HT u : Int} (h : Sl w A n c P) (hr : Ras a b M P) (hX : X = x) (hY : Y = y) (hWD : WD = wd) (hHT : HT = ht) (hx : x + wd ≤ a) (hy : y + ht ≤ b) (hu : bsum P a x wd y ht = u) :
    Calls Try.prog 44 #[.agg #[.int .i64 a, .int .i64 b, .int .i64 M, .slice A n c], .int .i64 X, .int .i64 Y, .int .i64 WD, .int .i64 HT] w fun e w' => e = .returned (.int .i64 u) ∧ Below w.heap.size w w' := by
  subst hX hY hWD hHT
  have k0 := RB.new w a b M A n c
  have hs := h.alloc (.cells #[.int .i64 a, .int .i64 b, .int .i64 M, .slice A n c] 24)
  have hB0 := (Below.refl w.heap.size w).alloc (Nat.le_refl _) (.cells #[.int .i64 a, .int .i64 b, .int .i64 M, .slice A n c] 24)
  obtain ⟨a', b', ea, eb, ⟨ha1, ha2⟩, ⟨hb1, hb2⟩, ⟨hM1, hM2⟩, hab, hl1, hl2⟩ := hr.nat
  obtain rfl : a = a' := by omega
  obtain rfl : b = b' := by omega
  have hP := Lib.hid hr.2.2
  have hn : Hid (n = b * a) := Lib.hid (by rw [h.len, hab, Nat.mul_comm])
  have hn4 : n ≤ 4096 := by rw [h.len]; exact hl1
  replace hu := Lib.hid hu
  clear hr hab hl1 hl2 ea eb h
  go_enter Try.func44, Try.ntmps44
  go_wp2
  go_loopw [11, 12] (fun s j wr => ∃ k : Nat, k ≤ ht ∧ s = .int .i64 (bsum P a x wd y k) ∧ j = .int .i64 ((y : Int) + (k : Int)) ∧ RB wr w.heap.size a b M A n c ∧ Sl wr A n c P ∧ Below w.heap.size w wr) (fun _ j _ => y + ht - (intOf j).toNat)
  case atStart => exact ⟨0, Nat.zero_le _, rfl, by simp, k0, hs, hB0⟩
  case round =>
    clear k0 hs hB0
    obtain ⟨k, hk, rfl, rfl, k0, hs, hB⟩ := hrel
    obtain ⟨s0, hs0⟩ : ∃ s, bsum P a x wd y k = s := ⟨_, rfl⟩
    have sb := bsum_small ⟨by omega, hM2⟩ hP.out (a := a) (x := x) (wd := wd) (y := y) (k := k) (by omega) (by omega)
    rw [hs0] at sb
    rw [hs0]
    obtain ⟨sb1, sb2⟩ := sb
    by_cases hlt : k < ht
    · have hlt' : (k : Int) < (ht : Int) := by omega
      obtain ⟨r0, hr0⟩ : ∃ s, rsum P a (y + k) x = s := ⟨_, rfl⟩
      have rb0 := rsum_small ⟨by omega, hM2⟩ hP.out a (y + k) (x := x) (by omega)
      rw [hr0] at rb0
      replace hr0 := Lib.hid hr0
      go_wp2
      go_loopw [11, 13] (fun s i wr => ∃ t : Nat, t ≤ wd ∧ s = .int .i64 (s0 + (rsum P a (y + k) (x + t) - r0)) ∧ i = .int .i64 ((x : Int) + (t : Int)) ∧ RB wr w.heap.size a b M A n c ∧ Sl wr A n c P ∧ Below w.heap.size w wr) (fun _ i _ => x + wd - (intOf i).toNat)
      case atStart => exact ⟨0, Nat.zero_le _, by rw [Nat.add_zero, hr0.out]; simp, by simp, k0, hs, hB⟩
      case round =>
        clear k0 hs hB
        obtain ⟨t, ht', rfl, rfl, k0, hs, hB⟩ := hrel
        obtain ⟨⟨d0, d1, d2, d3⟩, f0, f1, f2, f3⟩ := k0.cells
        obtain ⟨r1, hr1⟩ : ∃ s, rsum P a (y + k) (x + t) = s := ⟨_, rfl⟩
        have rb1 := rsum_small ⟨by omega, hM2⟩ hP.out a (y + k) (x := x + t) (by omega)
        rw [hr1] at rb1
        rw [hr1]
        by_cases hlt2 : t < wd
        · have hlt2' : (t : Int) < (wd : Int) := by omega
          obtain ⟨q, hq⟩ : ∃ q, q = (y + k) * a := ⟨_, rfl⟩
          obtain ⟨v, hv⟩ : ∃ v, nth P (q + (x + t)) = v := ⟨_, rfl⟩
          have vb := nth_bounds (by omega) hP.out (q + (x + t))
          rw [hv] at vb
          have hle : q + (x + t) < n := by rw [hn.out, hq]; exact row_lt (by omega) (by omega)
          have hstep : rsum P a (y + k) (x + (t + 1)) = r1 + v := by show rsum P a (y + k) (x + t) + nth P ((y + k) * a + (x + t)) = _; rw [hr1, ← hq, hv]
          replace hstep := Lib.hid hstep
          replace hr1 := Lib.hid hr1
          replace hq := Lib.hid hq
          replace hv := Lib.hid hv
          go_wp2_with (go_at_call 24; refine (rAt_at (x + t) (y + k) q hs (by omega) (by omega) hq.out hle (by omega) hv.out).mono ?_; rintro e w5 ⟨rfl, hb5⟩)
          go_roundw
          case rel => exact ⟨t + 1, hlt2, by rw [hstep.out]; show Value.int .i64 _ = Value.int .i64 _; exact congrArg _ (by omega), by show Value.int .i64 _ = Value.int .i64 _; exact congrArg _ (by omega), k0.below hb5 k0.lt, hs.below hb5 (Nat.le_refl _), hB.trans (hb5.mono hB.size)⟩
          case measure => simp [intOf]; omega
        · obtain rfl : t = wd := by omega
          have hnext : bsum P a x t y (k + 1) = s0 + (r1 - r0) := by show bsum P a x t y k + (rsum P a (y + k) (x + t) - rsum P a (y + k) x) = _; rw [hs0, hr1, hr0.out]
          replace hnext := Lib.hid hnext
          replace hr1 := Lib.hid hr1
          go_wp2
          go_roundw
          case rel => exact ⟨k + 1, hlt, by rw [hnext.out], by show Value.int .i64 _ = Value.int .i64 _; exact congrArg _ (by omega), k0, hs, hB⟩
          case measure => simp [intOf]; omega
    · obtain rfl : k = ht := by omega
      have hfin : s0 = u := by rw [← hs0, hu.out]
      replace hfin := Lib.hid hfin
      replace hs0 := Lib.hid hs0
      go_wp2
      go_ret
      exact ⟨ret_int hfin.out, hB⟩

end Go.Proofs.Ytehnemdifkjhcaa
