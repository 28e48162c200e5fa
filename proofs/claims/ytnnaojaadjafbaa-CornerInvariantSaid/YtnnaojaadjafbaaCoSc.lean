/-
  Scores: what they are; walks: gradient, score of package corner.
-/
import Derived.Test.YtnnaojaadjafbaaCoM
import Derived.Test.YtnnaojaadjafbaaCoB
import Derived.IntWalk
set_option linter.unusedSimpArgs false
set_option linter.unusedVariables false
namespace Go.Proofs.Ytnnaojaadjafbaa
open Go.RowKit

/-- The list of N values of a function. -/
def tab (N : Nat) (f : Nat → Int) : List Int := (List.range N).map f
theorem tab_length (N : Nat) (f : Nat → Int) : (tab N f).length = N := by simp [tab]
theorem nth_tab {N : Nat} {f : Nat → Int} {i : Nat} (h : i < N) : nth (tab N f) i = f i := by simp [nth, tab, List.getD, h]
theorem tab_congr {N : Nat} {f g : Nat → Int} (h : ∀ i, i < N → f i = g i) : tab N f = tab N g := nth_ext (by rw [tab_length, tab_length]) fun i hi => by
  rw [tab_length] at hi
  rw [nth_tab hi, nth_tab hi, h i hi]
theorem tab_nth (P : List Int) : tab P.length (nth P) = P := nth_ext (tab_length _ _) fun i hi => by
  rw [tab_length] at hi
  exact nth_tab hi

/-- The first k of N places hold the values of f. -/
def Fill (f : Nat → Int) (N k : Nat) (L : List Int) : Prop := L.length = N ∧ ∀ i, i < k → nth L i = f i
theorem Fill.start {f : Nat → Int} {N : Nat} {L : List Int} (h : L.length = N) : Fill f N 0 L := ⟨h, fun i hi => absurd hi (by omega)⟩
theorem Fill.step {f : Nat → Int} {N k : Nat} {L : List Int} (h : Fill f N k L) (hk : k < N) {v : Int} (hv : v = f k) : Fill f N (k + 1) (L.set k v) := by
  refine ⟨by rw [List.length_set]; exact h.1, fun i hi => ?_⟩
  by_cases e : i = k
  · subst e; rw [nth_set_self (by rw [h.1]; exact hk)]; exact hv
  · rw [nth_set_ne (by omega)]; exact h.2 i (by omega)
theorem Fill.done {f : Nat → Int} {N : Nat} {L : List Int} (h : Fill f N N L) : L = tab N f := nth_ext (by rw [h.1, tab_length]) fun i hi => by
  rw [h.1] at hi
  rw [h.2 i hi, nth_tab hi]
theorem Fill.at_ {f : Nat → Int} {N k k' : Nat} {L : List Int} (h : Fill f N k L) (e : k = k') : Fill f N k' L := e ▸ h

theorem row_lt {y b a x : Nat} (hy : y < a) (hx : x < b) : y * b + x < a * b := by
  have : (y + 1) * b ≤ a * b := Nat.mul_le_mul_right b hy
  rw [Nat.add_mul] at this; omega
theorem row_le {y b a : Nat} (hy : y < a) : y * b + b ≤ a * b := by
  have : (y + 1) * b ≤ a * b := Nat.mul_le_mul_right b hy
  rw [Nat.add_mul] at this; omega
theorem row_mod {y b x : Nat} (hx : x < b) : (y * b + x) % b = x := by rw [Nat.mul_comm, Nat.mul_add_mod]; exact Nat.mod_eq_of_lt hx
theorem row_div {y b x : Nat} (hx : x < b) : (y * b + x) / b = y := by
  rw [Nat.mul_comm, Nat.mul_add_div (by omega), Nat.div_eq_of_lt hx, Nat.add_zero]

theorem Ras.nat {W H M : Int} {P : List Int} (h : Ras W H M P) : ∃ a b : Nat, W = a ∧ H = b ∧ (1 ≤ a ∧ a ≤ 64) ∧ (1 ≤ b ∧ b ≤ 64) ∧ (1 ≤ M ∧ M ≤ 65535) ∧ P.length = a * b ∧ P.length ≤ 4096 ∧ 0 < P.length := by
  obtain ⟨⟨⟨h1, h2⟩, ⟨h3, h4⟩, h5, h6⟩, hl, -⟩ := h
  obtain ⟨a, rfl⟩ := Int.eq_ofNat_of_zero_le (show 0 ≤ W by omega)
  obtain ⟨b, rfl⟩ := Int.eq_ofNat_of_zero_le (show 0 ≤ H by omega)
  have hle : P.length = a * b := by have : (P.length : Int) = ((a * b : Nat) : Int) := by rw [hl]; simp
                                    omega
  have h7 : a * b ≤ 4096 := Nat.mul_le_mul (show a ≤ 64 by omega) (show b ≤ 64 by omega)
  have h8 : 1 * 1 ≤ a * b := Nat.mul_le_mul (show 1 ≤ a by omega) (show 1 ≤ b by omega)
  exact ⟨a, b, rfl, rfl, ⟨by omega, by omega⟩, ⟨by omega, by omega⟩, ⟨h5, h6⟩, hle, by omega, by omega⟩

theorem run_make_i64 (k1 k2 : IntKind) (u : Int) (n : Nat) (hu : u = (n : Int)) (hn : n ≤ 2000000000) (W : World) :
    (Instr.makeSlice 22 (.int k1 u) (.int k2 u)).run Try.prog W = .ok (.slice (some ⟨W.heap.size, 0, none⟩) n n) (W.alloc (.cells (cells (List.replicate n 0)).toArray 3)) := by
  obtain ⟨i0, hi, hz0, hz1, hz2⟩ := info_parts infoI
  have := run_make (P := Try.prog) W 22 3 i0 (.int .i64 0) Try.underlying22 hi hz0 k1 k2 u u (by omega) (Int.le_refl _) (by rw [hz2]; omega) (by omega)
  rw [this, hu]
  simp only [Int.toNat_natCast, hz1, Nat.mul_one]
  have e : (Value.int .i64 0).cells = #[.int .i64 0] := rfl
  rw [e, madeCells_i64, cells_replicate]


/-- The gradient at a place. -/
def gX (P : List Int) (i : Nat) : Int := nth P (i + 1) - nth P (i - 1)
def gY (a : Nat) (P : List Int) (i : Nat) : Int := nth P (i + a) - nth P (i - a)
/-- The nine places around a place. -/
def nine (a p m : Nat) : Nat := p + (m / 3) * a + m % 3 - (a + 1)
def sA (a : Nat) (P : List Int) (p : Nat) : Nat → Int
  | 0 => 0
  | m + 1 => sA a P p m + gX P (nine a p m) * gX P (nine a p m)
def sB (a : Nat) (P : List Int) (p : Nat) : Nat → Int
  | 0 => 0
  | m + 1 => sB a P p m + gX P (nine a p m) * gY a P (nine a p m)
def sC (a : Nat) (P : List Int) (p : Nat) : Nat → Int
  | 0 => 0
  | m + 1 => sC a P p m + gY a P (nine a p m) * gY a P (nine a p m)
def scF (A B C : Int) : Int := 25 * (A * C - B * B) - (A + C) * (A + C)
/-- The score of a place that is not in the margin. -/
def sc (a : Nat) (P : List Int) (p : Nat) : Int := scF (sA a P p 9) (sB a P p 9) (sC a P p 9)
/-- Is a place outside of the margin? -/
def Mid (a b x y : Nat) : Prop := (2 ≤ x ∧ x + 3 ≤ a) ∧ 2 ≤ y ∧ y + 3 ≤ b
instance (a b x y : Nat) : Decidable (Mid a b x y) := inferInstanceAs (Decidable (_ ∧ _))
/-- The score of a place. -/
def scoreAt (a b : Nat) (P : List Int) (i : Nat) : Int := if Mid a b (i % a) (i / a) then sc a P i else 0
/-- The scores of a raster. -/
def scoresL (a b : Nat) (P : List Int) : List Int := tab (a * b) (scoreAt a b P)

/-- Grey values that scores are for. -/
def Grey (P : List Int) : Prop := ∀ g ∈ P, 0 ≤ g ∧ g ≤ 1023
theorem Grey.at_ {P : List Int} (h : Grey P) (i : Nat) : 0 ≤ nth P i ∧ nth P i ≤ 1023 := by
  by_cases hi : i < P.length
  · rw [nth_eq hi]; exact h _ (List.getElem_mem _)
  · have : nth P i = 0 := by simp [nth, List.getD, List.getElem?_eq_none (Nat.not_lt.1 hi)]
    rw [this]; omega
theorem gX_bd {P : List Int} (h : Grey P) (i : Nat) : -1023 ≤ gX P i ∧ gX P i ≤ 1023 := by
  have h1 := h.at_ (i + 1)
  have h2 := h.at_ (i - 1)
  unfold gX
  omega
theorem gY_bd {a : Nat} {P : List Int} (h : Grey P) (i : Nat) : -1023 ≤ gY a P i ∧ gY a P i ≤ 1023 := by
  have h1 := h.at_ (i + a)
  have h2 := h.at_ (i - a)
  unfold gY
  omega
theorem mul_bd {x y B : Int} (hB : 0 ≤ B) (h1 : -B ≤ x) (h2 : x ≤ B) (h3 : -B ≤ y) (h4 : y ≤ B) : -(B * B) ≤ x * y ∧ x * y ≤ B * B := by
  have k : ∀ u v : Int, 0 ≤ u → u ≤ B → 0 ≤ v → v ≤ B → 0 ≤ u * v ∧ u * v ≤ B * B := fun u v a b c d => ⟨Int.mul_nonneg a c, Int.mul_le_mul b d c hB⟩
  rcases Int.le_total 0 x with hx | hx <;> rcases Int.le_total 0 y with hy | hy
  · have := k x y hx h2 hy h4; omega
  · have := k x (-y) hx h2 (by omega) (by omega); rw [Int.mul_neg] at this; omega
  · have := k (-x) y (by omega) (by omega) hy h4; rw [Int.neg_mul] at this; omega
  · have := k (-x) (-y) (by omega) (by omega) (by omega) (by omega); rw [Int.neg_mul_neg] at this; omega
theorem sq_nn (x : Int) : 0 ≤ x * x := by
  rcases Int.le_total 0 x with h | h
  · exact Int.mul_nonneg h h
  · exact Int.mul_nonneg_of_nonpos_of_nonpos h h
theorem sABC_bd {a : Nat} {P : List Int} (h : Grey P) (p : Nat) : ∀ m : Nat, (0 ≤ sA a P p m ∧ sA a P p m ≤ m * 1046529) ∧ (-(m * 1046529) ≤ sB a P p m ∧ sB a P p m ≤ m * 1046529) ∧ 0 ≤ sC a P p m ∧ sC a P p m ≤ m * 1046529
  | 0 => by simp [sA, sB, sC]
  | m + 1 => by
    have ih := sABC_bd h p m (a := a)
    have hx := gX_bd h (nine a p m)
    have hy := gY_bd (a := a) h (nine a p m)
    have e1 := mul_bd (by decide) hx.1 hx.2 hx.1 hx.2
    have e2 := mul_bd (by decide) hx.1 hx.2 hy.1 hy.2
    have e3 := mul_bd (by decide) hy.1 hy.2 hy.1 hy.2
    have n1 := sq_nn (gX P (nine a p m))
    have n2 := sq_nn (gY a P (nine a p m))
    have ec : ((m + 1 : Nat) : Int) * 1046529 = m * 1046529 + 1046529 := by omega
    rw [ec]
    simp only [sA, sB, sC]
    omega

set_option maxHeartbeats 1600000 in
theorem gradient_any (a : Nat) (H M : Int) (b off n c x y i : Nat) (P : List Int) (w : World) (h : Sl w (some ⟨b, off, none⟩) n c P) (ha : 1 ≤ a) (ha2 : a ≤ 64) (hx : x ≤ 64) (hy : y ≤ 64) (hi : y * a + x = i) (h1 : a ≤ i) (h2 : i + a < n) (hn : n ≤ 4096) (hg : Grey P) :
    Calls Try.prog 63 #[.agg #[.int .i64 a, .int .i64 H, .int .i64 M, .slice (some ⟨b, off, none⟩) n c], .int .i64 x, .int .i64 y] w fun e w' => e = .returned (.tuple #[.int .i64 (gX P i), .int .i64 (gY a P i)]) ∧ Below w.heap.size w w' := by
  have hb0 := (Below.refl w.heap.size w).alloc (Nat.le_refl _) (.cells #[.int .i64 a, .int .i64 H, .int .i64 M, .slice (some ⟨b, off, none⟩) n c] 24)
  have hcap := h.le_cap
  have hcl := h.cap_le
  obtain ⟨b', off', e, hbw, hc⟩ := (h.alloc (.cells #[.int .i64 a, .int .i64 H, .int .i64 M, .slice (some ⟨b, off, none⟩) n c] 24)).at_ (by omega)
  cases e
  have c1 := hc (i + 1) (by omega)
  have c2 := hc (i - 1) (by omega)
  have c3 := hc (i + a) (by omega)
  have c4 := hc (i - a) (by omega)
  clear hc
  obtain ⟨v1, e1⟩ : ∃ v, nth P (i + 1) = v := ⟨_, rfl⟩
  obtain ⟨v2, e2⟩ : ∃ v, nth P (i - 1) = v := ⟨_, rfl⟩
  obtain ⟨v3, e3⟩ : ∃ v, nth P (i + a) = v := ⟨_, rfl⟩
  obtain ⟨v4, e4⟩ : ∃ v, nth P (i - a) = v := ⟨_, rfl⟩
  have b1 := hg.at_ (i + 1)
  have b2 := hg.at_ (i - 1)
  have b3 := hg.at_ (i + a)
  have b4 := hg.at_ (i - a)
  rw [e1] at c1 b1
  rw [e2] at c2 b2
  rw [e3] at c3 b3
  rw [e4] at c4 b4
  have hv1 : Hid (gX P i = v1 - v2) := Lib.hid (by unfold gX; rw [e1, e2])
  have hv2 : Hid (gY a P i = v3 - v4) := Lib.hid (by unfold gY; rw [e3, e4])
  obtain ⟨i1, j1⟩ : ∃ i1, i - 1 = i1 := ⟨_, rfl⟩
  obtain ⟨i2, j2⟩ : ∃ i2, i - a = i2 := ⟨_, rfl⟩
  rw [j1] at c2
  rw [j2] at c4
  have hm : (y : Int) * (a : Int) + (x : Int) = (i : Int) := by rw [← hi]; simp
  have hm2 : 0 ≤ (y : Int) * (a : Int) ∧ (y : Int) * (a : Int) ≤ 4096 := by
    refine ⟨Int.mul_nonneg (by omega) (by omega), ?_⟩
    have := Int.mul_le_mul (show (y : Int) ≤ 64 by omega) (show (a : Int) ≤ 64 by omega) (by omega) (by omega)
    omega
  have hj1 : (i : Int) - 1 = (i1 : Int) := by omega
  have hj2 : (i : Int) - (a : Int) = (i2 : Int) := by omega
  obtain ⟨q, hq⟩ : ∃ q : Int, (y : Int) * (a : Int) = q := ⟨_, rfl⟩
  rw [hq] at hm hm2
  obtain ⟨m1, m2⟩ := hm2
  have l1 : i1 < n := by omega
  have l2 : i2 < n := by omega
  have e1 := Lib.hid e1
  have e2 := Lib.hid e2
  have e3 := Lib.hid e3
  have e4 := Lib.hid e4
  replace hi := Lib.hid hi
  replace j1 := Lib.hid j1
  replace j2 := Lib.hid j2
  clear h hg
  go_enter Try.func63, Try.ntmps63
  go_wp2
  go_quiet (fail)
  go_wp2
  exact bodyPost_ret (v := .tuple #[.int .i64 (v1 - v2), .int .i64 (v3 - v4)]) (by simp [results, Try.results63, go_sem]) rfl ⟨by rw [hv1.out, hv2.out], by first | exact hb0 | exact below_drewN hb0 _⟩

end Go.Proofs.Ytnnaojaadjafbaa
