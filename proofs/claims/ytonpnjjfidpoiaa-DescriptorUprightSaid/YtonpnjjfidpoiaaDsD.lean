/-
  Walks: isPixel, sumsOf, size of package descriptor; the box's sum.
-/
import Derived.Test.YtonpnjjfidpoiaaDsC
set_option linter.unusedSimpArgs false
set_option linter.unusedVariables false
namespace Go.Proofs.Ytonpnjjfidpoiaa
open Go.RowKit

set_option maxHeartbeats 1600000 in
theorem disPixel_at {W H M : Int} {A : Option Addr} {n c : Nat} {x y : Int} {w : World} {b : Bool} (hb : ins W H x y = b) (hW : 1 ≤ W ∧ W ≤ 64) (hH : 1 ≤ H ∧ H ≤ 64) :
    Calls Try.prog 41 #[.agg #[.int .i64 W, .int .i64 H, .int .i64 M, .slice A n c], .int .i64 x, .int .i64 y] w fun e w' => e = .returned (.bool b) ∧ Below w.heap.size w w' := by
  obtain ⟨b1, h1⟩ : ∃ b, win x 0 (W - 1) = b := ⟨_, rfl⟩
  obtain ⟨b2, h2⟩ : ∃ b, win y 0 (H - 1) = b := ⟨_, rfl⟩
  have hbb : b = (b1 && b2) := by
    rw [← hb, ← h1, ← h2, Bool.eq_iff_iff, ins_iff, Bool.and_eq_true, win_iff, win_iff]
    omega
  have hb0 := (Below.refl w.heap.size w).alloc (Nat.le_refl _) (.cells #[.int .i64 W, .int .i64 H, .int .i64 M, .slice A n c] 37)
  replace h1 := Lib.hid h1
  replace h2 := Lib.hid h2
  clear hb
  obtain ⟨hW1, hW2⟩ := hW
  obtain ⟨hH1, hH2⟩ := hH
  cases b1 <;> cases b2
  all_goals
    subst hbb
    have tok1 : True := trivial
    go_enter Try.func41, Try.ntmps41
    go_wp2_with (first | (go_at_call 38; clear tok1; refine (dwithin_at h1.out _).mono ?_; rintro e w' ⟨rfl, rfl⟩) | (go_at_call 38; refine (dwithin_at h2.out _).mono ?_; rintro e w' ⟨rfl, rfl⟩))
    go_ret
    exact ⟨rfl, hb0⟩

/-- A table of a raster in memory. -/
def Tb (w : World) (T a b : Nat) (P : List Int) : Prop := ∃ Gf, TC w T (b + 1) (a + 1) Gf ∧ TV w a b P Gf
theorem Tb.lt {w : World} {T a b : Nat} {P : List Int} (h : Tb w T a b P) : T < w.heap.size := by
  obtain ⟨Gf, h1, -⟩ := h
  exact World.block_lt_of_cell? w _ (h1 0 (by omega))
theorem Tb.below {w w' : World} {T a b : Nat} {P : List Int} (h : Tb w T a b P) (hb : Below w.heap.size w w') : Tb w' T a b P := by
  have := h.lt
  obtain ⟨Gf, h1, h2⟩ := h
  exact ⟨Gf, h1.below hb this, h2.below hb⟩

theorem sumsOf_any (a b : Nat) (M : Int) (A : Option Addr) (n c : Nat) (P : List Int) (w : World) (h : Sl w A n c P) (hr : Ras a b M P) :
    Calls Try.prog 42 #[.agg #[.int .i64 a, .int .i64 b, .int .i64 M, .slice A n c]] w fun e w' => ∃ T, e = .returned (.slice (some ⟨T, 0, none⟩) (b + 1) (b + 1)) ∧ Tb w' T a b P ∧ Below w.heap.size w w' := by
  have hB := (Below.refl w.heap.size w).alloc (Nat.le_refl _) (.cells #[.int .i64 a, .int .i64 b, .int .i64 M, .slice A n c] 37)
  have hs := h.alloc (.cells #[.int .i64 a, .int .i64 b, .int .i64 M, .slice A n c] 37)
  have hi := Integral_yes a b M A n c P _ hs hr
  simp only [Int.toNat_natCast] at hi
  replace hi := Lib.hid hi
  clear h hs hr
  go_enter Try.func42, Try.ntmps42
  go_wp2_with (go_at_call 55; refine hi.out.mono ?_; rintro e w1 ⟨T, G, rfl, htb, hG, hT, hrows, hb1⟩; simp only [World.size_alloc] at hb1; replace htb := Lib.hid htb; replace hG := Lib.hid hG; replace hrows := Lib.hid hrows)
  go_ret
  exact ⟨T, rfl, ⟨_, TC.of_tb htb.out hG.out, TV.of_rows hrows.out hG.out⟩, hB.trans (hb1.mono (by omega))⟩

/-- A box that is not too great. -/
def Bxs (q : Bx) : Prop := (-100 ≤ q.1 ∧ q.1 ≤ 100) ∧ (-100 ≤ q.2.1 ∧ q.2.1 ≤ 100) ∧ (1 ≤ q.2.2.1 ∧ q.2.2.1 ≤ 100) ∧ 1 ≤ q.2.2.2 ∧ q.2.2.2 ≤ 100
theorem Bxs.of_ok {q : Bx} (h : bxok q = true) : Bxs q := by
  have := bxok_iff.1 h
  unfold Bxs
  omega
theorem bsz_bounds {q : Bx} (h : Bxs q) : 1 ≤ bsz q ∧ bsz q ≤ 10000 := by
  obtain ⟨_, _, ⟨h1, h2⟩, h3, h4⟩ := h
  unfold bsz
  constructor
  · have := Int.mul_le_mul h1 h3 (by omega) (by omega); omega
  · have := Int.mul_le_mul h2 h4 (by omega) (by omega); omega

theorem size_at {q1 q2 q3 q4 z : Int} (h : Bxs (q1, q2, q3, q4)) (hz : bsz (q1, q2, q3, q4) = z) (w : World) :
    Calls Try.prog 57 #[.agg #[.int .i64 q1, .int .i64 q2, .int .i64 q3, .int .i64 q4]] w fun e w' => e = .returned (.int .i64 z) ∧ Below w.heap.size w w' := by
  have hB := (Below.refl w.heap.size w).alloc (Nat.le_refl _) (.cells #[.int .i64 q1, .int .i64 q2, .int .i64 q3, .int .i64 q4] 28)
  obtain ⟨b1, b2⟩ := bsz_bounds h
  rw [hz] at b1 b2
  have hz : q3 * q4 = z := hz
  clear h
  go_enter Try.func57, Try.ntmps57
  go_wp2
  go_ret
  exact ⟨rfl, hB⟩

/-- The sum of a box, 0 where the raster has not all its pixels. -/
def bvalf (f : Bool) (P : List Int) (a : Nat) (q : Bx) (x y : Int) : Int := if f then bval P a q x y else 0
theorem bval_small {P : List Int} {M : Int} (hM : 0 ≤ M ∧ M ≤ 65535) (h : ∀ g ∈ P, 0 ≤ g ∧ g ≤ M) {a b : Nat} {q : Bx} {x y : Int} (ha : a ≤ 64) (hb : b ≤ 64) (hf : bfit a b q x y = true) (hq : Bxs q) : -1000000000 ≤ bval P a q x y ∧ bval P a q x y ≤ 1000000000 := by
  obtain ⟨⟨f1, f2⟩, f3, f4⟩ := bfit_iff.1 hf
  unfold Bxs at hq
  exact bsum_small hM h (by omega) (by omega)

set_option maxHeartbeats 3200000 in
theorem sbox_at (T a b : Nat) (P : List Int) (M : Int) {q1 q2 q3 q4 x y : Int} {w : World} (ha : a ≤ 64) (hb : b ≤ 64) (hM : 0 ≤ M ∧ M ≤ 65535) (hP : ∀ g ∈ P, 0 ≤ g ∧ g ≤ M) (hT : Tb w T a b P) (hx : 0 ≤ x ∧ x < 64) (hy : 0 ≤ y ∧ y < 64) (hq : Bxs (q1, q2, q3, q4)) {f : Bool} (hf : bfit a b (q1, q2, q3, q4) x y = f) {v : Int} (hv : bvalf f P a (q1, q2, q3, q4) x y = v) {kc : Int} (hkc : cod f 15 = kc) :
    Calls Try.prog 56 #[.slice (some ⟨T, 0, none⟩) (b + 1) (b + 1), .agg #[.int .i64 q1, .int .i64 q2, .int .i64 q3, .int .i64 q4], .int .i64 x, .int .i64 y] w fun e w' => e = .returned (.tuple #[.int .i64 v, .int .i64 kc]) ∧ Below w.heap.size w w' := by
  subst hkc
  have hB := (Below.refl w.heap.size w).alloc (Nat.le_refl _) (.cells #[.int .i64 q1, .int .i64 q2, .int .i64 q3, .int .i64 q4] 28)
  have hT1 := hT.below hB
  obtain ⟨⟨r1, r2⟩, ⟨r3, r4⟩, ⟨r5, r6⟩, r7, r8⟩ := hq
  obtain ⟨x1, x2⟩ := hx
  obtain ⟨y1, y2⟩ := hy
  simp only at r1 r2 r3 r4 r5 r6 r7 r8
  cases f
  · have hno : ¬ ((0 ≤ x + q1 ∧ x + q1 ≤ a) ∧ (0 ≤ y + q2 ∧ y + q2 ≤ b) ∧ (0 ≤ q3 ∧ q3 ≤ a - (x + q1)) ∧ 0 ≤ q4 ∧ q4 ≤ b - (y + q2)) := fun hh => by
      rw [← Bool.not_eq_true, bfit_iff] at hf
      simp only at hf
      omega
    obtain ⟨Gf, t1, t2⟩ := hT1
    have hc := Lib.hid (Sum_out T a b Gf (x + q1) (y + q2) q3 q4 _ ha hb t1 (by omega) (by omega) hno)
    have hv0 : v = 0 := hv.symm
    subst hv0
    clear hf hno t1 t2 hT hv
    go_enter Try.func56, Try.ntmps56
    go_wp2_with (go_at_call 68; refine hc.out.mono ?_; rintro e w1 ⟨rfl, hb1⟩; simp only [World.size_alloc] at hb1)
    go_ret2
    exact ⟨rfl, hB.trans (hb1.mono (by omega))⟩
  · have hfi := bfit_iff.1 hf
    simp only at hfi
    obtain ⟨⟨f1, f2⟩, f3, f4⟩ := hfi
    obtain ⟨Gf, t1, t2⟩ := hT1
    have hc := Lib.hid (Sum_int (x := (x + q1).toNat) (y := (y + q2).toNat) (wd := q3.toNat) (ht := q4.toNat) (X := x + q1) (Y := y + q2) (WD := q3) (HT := q4) ha hb hM hP t1 t2 (by omega) (by omega) (by omega) (by omega) (by omega) (by omega) hv)
    clear hf t1 t2 hT hv
    go_enter Try.func56, Try.ntmps56
    go_wp2_with (go_at_call 68; refine hc.out.mono ?_; rintro e w1 ⟨rfl, hb1⟩; simp only [World.size_alloc] at hb1)
    go_ret2
    exact ⟨rfl, hB.trans (hb1.mono (by omega))⟩

end Go.Proofs.Ytonpnjjfidpoiaa
