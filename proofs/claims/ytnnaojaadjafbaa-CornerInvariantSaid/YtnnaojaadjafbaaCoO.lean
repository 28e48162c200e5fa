/-
  Walks: nearest, offset, Offset of package corner; Parabola, Offset of the reference.
-/
import Derived.Test.YtnnaojaadjafbaaRaA
import Derived.Test.YtnnaojaadjafbaaCoSpec
set_option linter.unusedSimpArgs false
set_option linter.unusedVariables false
namespace Go.Proofs.Ytnnaojaadjafbaa
open Go.RowKit

theorem cwithin_any (a lo hi : Int) (w : World) :
    Calls Try.prog 37 #[.int .i64 a, .int .i64 lo, .int .i64 hi] w fun e w' => e = .returned (.bool (win a lo hi)) ∧ w = w' := by
  by_cases h1 : lo ≤ a
  · by_cases h2 : a ≤ hi
    · have hw := Lib.hid (win_iff.2 ⟨h1, h2⟩)
      go_enter Try.func37, Try.ntmps37
      go_wp2
      go_ret
      exact ⟨ret_bool hw.out.symm, rfl⟩
    · have hw : Hid (win a lo hi = false) := Lib.hid (win_no.2 fun h => h2 h.2)
      have h2 := Int.not_le.1 h2
      go_enter Try.func37, Try.ntmps37
      go_wp2
      go_ret
      exact ⟨ret_bool (by first | (rw [hw.out]; done) | (rw [hw.out]; simp <;> omega)), rfl⟩
  · have hw : Hid (win a lo hi = false) := Lib.hid (win_no.2 fun h => h1 h.1)
    have h1 := Int.not_le.1 h1
    go_enter Try.func37, Try.ntmps37
    go_wp2
    go_ret
    exact ⟨ret_bool (by first | (rw [hw.out]; done) | (rw [hw.out]; simp <;> omega)), rfl⟩
theorem cwithin_at {a lo hi : Int} {b : Bool} (h : win a lo hi = b) (w : World) :
    Calls Try.prog 37 #[.int .i64 a, .int .i64 lo, .int .i64 hi] w fun e w' => e = .returned (.bool b) ∧ w = w' := h ▸ cwithin_any a lo hi w

theorem nearest_any (num den : Int) (w : World) (h1 : -1152921504606846976 ≤ num) (h2 : num ≤ 1152921504606846976) (h3 : 0 < den) (h4 : den ≤ 144115188075855872) :
    Calls Try.prog 62 #[.int .i64 num, .int .i64 den] w fun e w' => e = .returned (.int .i64 (fdv (2 * num + den) (2 * den))) ∧ w = w' := by
  obtain ⟨x, hx⟩ : ∃ x, 2 * num + den = x := ⟨_, rfl⟩
  obtain ⟨y, hy⟩ : ∃ y, 2 * den = y := ⟨_, rfl⟩
  rw [hx, hy]
  have hy0 : 0 < y := by omega
  have hy1 : ¬ y = 0 := by omega
  have hy2 : ¬ y = -1 := by omega
  have hb1 : x.tdiv y ≤ 4611686018427387904 := by
    rcases Int.le_total 0 x with h | h
    · have := Int.tdiv_le_self y h; omega
    · have := Int.tdiv_nonneg (show 0 ≤ -x by omega) (show 0 ≤ y by omega)
      rw [Int.neg_tdiv] at this
      omega
  have hb2 : -4611686018427387904 ≤ x.tdiv y := by
    rcases Int.le_total 0 x with h | h
    · have := Int.tdiv_nonneg h (show 0 ≤ y by omega); omega
    · have := Int.tdiv_le_self y (show 0 ≤ -x by omega)
      rw [Int.neg_tdiv] at this
      omega
  obtain ⟨q, hq⟩ : ∃ q, x.tdiv y = q := ⟨_, rfl⟩
  obtain ⟨r, hr⟩ : ∃ r, x.tmod y = r := ⟨_, rfl⟩
  by_cases hm : r < 0
  · have hf : Hid (fdv x y = q - 1) := Lib.hid (by unfold fdv; rw [hr, if_pos hm, hq])
    rw [hq] at hb1 hb2
    go_enter Try.func62, Try.ntmps62
    go_wp2
    go_ret
    exact ⟨ret_int hf.out.symm, rfl⟩
  · have hf : Hid (fdv x y = q) := Lib.hid (by unfold fdv; rw [hr, if_neg hm, hq])
    rw [hq] at hb1 hb2
    go_enter Try.func62, Try.ntmps62
    go_wp2
    go_ret
    exact ⟨ret_int hf.out.symm, rfl⟩

theorem nearest_at {num den x y : Int} (w : World) (h1 : -1152921504606846976 ≤ num) (h2 : num ≤ 1152921504606846976) (h3 : 0 < den) (h4 : den ≤ 144115188075855872) {q : Int} (hx : 2 * num + den = x) (hy : 2 * den = y) (hq : fdv x y = q) :
    Calls Try.prog 62 #[.int .i64 num, .int .i64 den] w fun e w' => e = .returned (.int .i64 q) ∧ w = w' := by
  subst hx hy hq
  exact nearest_any num den w h1 h2 h3 h4

/-- Is a number one that Offset takes? -/
def In54 (n : Int) : Prop := -18014398509481984 ≤ n ∧ n ≤ 18014398509481984

theorem offset_any (b a c : Int) (w : World) (hb : In54 b) (ha : In54 a) (hc : In54 c) :
    Calls Try.prog 50 #[.int .i64 b, .int .i64 a, .int .i64 c] w fun e w' => e = .returned (.int .i64 (off b a c)) ∧ w = w' := by
  obtain ⟨hb1, hb2⟩ := hb
  obtain ⟨ha1, ha2⟩ := ha
  obtain ⟨hc1, hc2⟩ := hc
  obtain ⟨d, hd⟩ : ∃ d, b - 2 * a + c = d := ⟨_, rfl⟩
  by_cases h0 : 0 ≤ d
  · have hf : Hid (off b a c = 0) := Lib.hid (by unfold off; rw [hd, if_pos h0])
    go_enter Try.func50, Try.ntmps50
    go_wp2
    go_ret
    exact ⟨ret_int hf.out.symm, rfl⟩
  · obtain ⟨q, hq⟩ : ∃ q, fdv (64 * (c - b) - d) (-2 * d) = q := ⟨_, rfl⟩
    have hn := Lib.hid (nearest_at (num := 32 * (c - b)) (den := -d) w (by omega) (by omega) (by omega) (by omega) (x := 64 * (c - b) - d) (y := -2 * d) (by omega) (by omega) hq)
    have hf : Hid (off b a c = if 32 < q then 32 else if q < -32 then -32 else q) := Lib.hid (by unfold off; rw [hd, if_neg h0]; simp only [hq])
    replace hq := Lib.hid hq
    by_cases h1 : 32 < q
    · have hv : Hid (off b a c = 32) := Lib.hid (by rw [hf.out, if_pos h1])
      go_enter Try.func50, Try.ntmps50
      go_wp2_with (go_at_call 62; refine hn.out.mono ?_; rintro e w' ⟨rfl, rfl⟩)
      go_ret
      exact ⟨ret_int (by rw [hv.out]), rfl⟩
    · by_cases h2 : q < -32
      · have hv : Hid (off b a c = -32) := Lib.hid (by rw [hf.out, if_neg h1, if_pos h2])
        go_enter Try.func50, Try.ntmps50
        go_wp2_with (go_at_call 62; refine hn.out.mono ?_; rintro e w' ⟨rfl, rfl⟩)
        go_ret
        exact ⟨ret_int (by rw [hv.out]), rfl⟩
      · have hv : Hid (off b a c = q) := Lib.hid (by rw [hf.out, if_neg h1, if_neg h2])
        go_enter Try.func50, Try.ntmps50
        go_wp2_with (go_at_call 62; refine hn.out.mono ?_; rintro e w' ⟨rfl, rfl⟩)
        go_ret
        exact ⟨ret_int (by rw [hv.out]), rfl⟩

theorem Parabola_any (b a c : Int) (w : World) (hb : In54 b) (ha : In54 a) (hc : In54 c) :
    Calls Try.prog 44 #[.int .i64 b, .int .i64 a, .int .i64 c] w fun e w' => e = .returned (.int .i64 (off b a c)) ∧ w = w' := by
  obtain ⟨hb1, hb2⟩ := hb
  obtain ⟨ha1, ha2⟩ := ha
  obtain ⟨hc1, hc2⟩ := hc
  obtain ⟨d, hd⟩ : ∃ d, b - 2 * a + c = d := ⟨_, rfl⟩
  by_cases h0 : 0 ≤ d
  · have hf : Hid (off b a c = 0) := Lib.hid (by unfold off; rw [hd, if_pos h0])
    go_enter Try.func44, Try.ntmps44
    go_wp2
    go_ret
    exact ⟨ret_int hf.out.symm, rfl⟩
  · obtain ⟨x, hx⟩ : ∃ x, 64 * (c - b) - d = x := ⟨_, rfl⟩
    obtain ⟨y, hy⟩ : ∃ y, -2 * d = y := ⟨_, rfl⟩
    have hx1 : x ≤ 4611686018427387904 := by omega
    have hx2 : -4611686018427387904 ≤ x := by omega
    have hy0 : 0 < y := by omega
    have hy1 : ¬ y = 0 := by omega
    have hy2 : ¬ y = -1 := by omega
    have hb1 : x.tdiv y ≤ 4611686018427387904 := by
      rcases Int.le_total 0 x with h | h
      · have := Int.tdiv_le_self y h; omega
      · have := Int.tdiv_nonneg (show 0 ≤ -x by omega) (show 0 ≤ y by omega)
        rw [Int.neg_tdiv] at this
        omega
    have hb2 : -4611686018427387904 ≤ x.tdiv y := by
      rcases Int.le_total 0 x with h | h
      · have := Int.tdiv_nonneg h (show 0 ≤ y by omega); omega
      · have := Int.tdiv_le_self y (show 0 ≤ -x by omega)
        rw [Int.neg_tdiv] at this
        omega
    obtain ⟨q, hq⟩ : ∃ q, x.tdiv y = q := ⟨_, rfl⟩
    obtain ⟨r, hr⟩ : ∃ r, x.tmod y = r := ⟨_, rfl⟩
    rw [hq] at hb1 hb2
    have hf : Hid (off b a c = if 32 < (if r < 0 then q - 1 else q) then 32 else if (if r < 0 then q - 1 else q) < -32 then -32 else (if r < 0 then q - 1 else q)) := Lib.hid (by unfold off; rw [hd, if_neg h0]; simp only [hx, hy, fdv, hq, hr])
    by_cases hm : r < 0
    · replace hf : Hid (off b a c = if 32 < q - 1 then 32 else if q - 1 < -32 then -32 else q - 1) := Lib.hid (by rw [hf.out, if_pos hm])
      by_cases h1 : 32 < q - 1
      · have hv : Hid (off b a c = 32) := Lib.hid (by rw [hf.out, if_pos h1])
        go_enter Try.func44, Try.ntmps44
        go_wp2
        go_ret
        exact ⟨ret_int hv.out.symm, rfl⟩
      · by_cases h2 : q - 1 < -32
        · have hv : Hid (off b a c = -32) := Lib.hid (by rw [hf.out, if_neg h1, if_pos h2])
          go_enter Try.func44, Try.ntmps44
          go_wp2
          go_ret
          exact ⟨ret_int hv.out.symm, rfl⟩
        · have hv : Hid (off b a c = q - 1) := Lib.hid (by rw [hf.out, if_neg h1, if_neg h2])
          go_enter Try.func44, Try.ntmps44
          go_wp2
          go_ret
          exact ⟨ret_int hv.out.symm, rfl⟩
    · replace hf : Hid (off b a c = if 32 < q then 32 else if q < -32 then -32 else q) := Lib.hid (by rw [hf.out, if_neg hm])
      by_cases h1 : 32 < q
      · have hv : Hid (off b a c = 32) := Lib.hid (by rw [hf.out, if_pos h1])
        go_enter Try.func44, Try.ntmps44
        go_wp2
        go_ret
        exact ⟨ret_int hv.out.symm, rfl⟩
      · by_cases h2 : q < -32
        · have hv : Hid (off b a c = -32) := Lib.hid (by rw [hf.out, if_neg h1, if_pos h2])
          go_enter Try.func44, Try.ntmps44
          go_wp2
          go_ret
          exact ⟨ret_int hv.out.symm, rfl⟩
        · have hv : Hid (off b a c = q) := Lib.hid (by rw [hf.out, if_neg h1, if_neg h2])
          go_enter Try.func44, Try.ntmps44
          go_wp2
          go_ret
          exact ⟨ret_int hv.out.symm, rfl⟩

end Go.Proofs.Ytnnaojaadjafbaa
