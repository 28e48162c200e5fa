/-
  The number of ones of a word, as the sum over its bytes: what math/bits counts; a metric.
-/
import Derived.Test.YtonpnjjfidpoiaaRows
set_option linter.unusedSimpArgs false
set_option linter.unusedVariables false
namespace Go.Proofs.Ytonpnjjfidpoiaa

/-- Ones of a byte. -/
def pb (u : Nat) : Nat := u % 2 + u / 2 % 2 + u / 4 % 2 + u / 8 % 2 + u / 16 % 2 + u / 32 % 2 + u / 64 % 2 + u / 128 % 2
/-- Ones of a word. -/
def pc (x : Nat) : Nat := pb (x % 256) + pb (x / 2 ^ 8 % 256) + pb (x / 2 ^ 16 % 256) + pb (x / 2 ^ 24 % 256) + pb (x / 2 ^ 32 % 256) + pb (x / 2 ^ 40 % 256) + pb (x / 2 ^ 48 % 256) + pb (x / 2 ^ 56 % 256)

theorem pb_le (u : Nat) : pb u ≤ 8 := by
  have h := fun y : Nat => Nat.le_of_lt_succ (Nat.mod_lt y (show 0 < 2 by decide))
  unfold pb
  exact Nat.add_le_add (Nat.add_le_add (Nat.add_le_add (Nat.add_le_add (Nat.add_le_add (Nat.add_le_add (Nat.add_le_add (h _) (h _)) (h _)) (h _)) (h _)) (h _)) (h _)) (h _)
theorem pc_le (x : Nat) : pc x ≤ 64 := by
  unfold pc
  exact Nat.add_le_add (Nat.add_le_add (Nat.add_le_add (Nat.add_le_add (Nat.add_le_add (Nat.add_le_add (Nat.add_le_add (pb_le _) (pb_le _)) (pb_le _)) (pb_le _)) (pb_le _)) (pb_le _)) (pb_le _)) (pb_le _)
theorem pb_zero' : ∀ u : Fin 256, pb u.val = 0 → u.val = 0 := by decide +kernel
theorem pb_zero (u : Nat) (hu : u < 256) (h : pb u = 0) : u = 0 := pb_zero' ⟨u, hu⟩ h
/-- A word by its bytes. -/
theorem bytes_of {x : Nat} (hx : x < 2 ^ 64) : x = x % 256 + 256 * (x / 2 ^ 8 % 256 + 256 * (x / 2 ^ 16 % 256 + 256 * (x / 2 ^ 24 % 256 + 256 * (x / 2 ^ 32 % 256 + 256 * (x / 2 ^ 40 % 256 + 256 * (x / 2 ^ 48 % 256 + 256 * (x / 2 ^ 56 % 256))))))) := by
  have s := fun y : Nat => (Nat.mod_add_div y 256).symm
  have d := fun i : Nat => (show x / 2 ^ i / 256 = x / 2 ^ (i + 8) from by rw [Nat.div_div_eq_div_mul, Nat.pow_add])
  have s0 := s x; have s1 := s (x / 2 ^ 8); have s2 := s (x / 2 ^ 16); have s3 := s (x / 2 ^ 24); have s4 := s (x / 2 ^ 32); have s5 := s (x / 2 ^ 40); have s6 := s (x / 2 ^ 48); have s7 := s (x / 2 ^ 56)
  rw [d] at s1 s2 s3 s4 s5 s6 s7
  have s8 : x / 2 ^ (56 + 8) = 0 := Nat.div_eq_of_lt hx
  rw [s8] at s7
  rw [show x / 256 = x / 2 ^ 8 from rfl] at s0
  simp only [Nat.reduceAdd] at s1 s2 s3 s4 s5 s6 s7
  generalize x / 2 ^ 8 = y1 at *; generalize x / 2 ^ 16 = y2 at *; generalize x / 2 ^ 24 = y3 at *; generalize x / 2 ^ 32 = y4 at *
  generalize x / 2 ^ 40 = y5 at *; generalize x / 2 ^ 48 = y6 at *; generalize x / 2 ^ 56 = y7 at *
  generalize y1 % 256 = z1 at *; generalize y2 % 256 = z2 at *; generalize y3 % 256 = z3 at *; generalize y4 % 256 = z4 at *
  generalize y5 % 256 = z5 at *; generalize y6 % 256 = z6 at *; generalize y7 % 256 = z7 at *; generalize x % 256 = z0 at *
  clear s d s8
  subst s7 s6 s5 s4 s3 s2 s1
  simpa using s0
theorem pc_zero {x : Nat} (hx : x < 2 ^ 64) (h : pc x = 0) : x = 0 := by
  have k := fun i => pb_zero (x / 2 ^ i % 256) (Nat.mod_lt _ (by decide))
  have k0 := pb_zero (x % 256) (Nat.mod_lt _ (by decide))
  have e := bytes_of hx
  unfold pc at h
  simp only [Nat.add_eq_zero_iff] at h
  obtain ⟨⟨⟨⟨⟨⟨⟨h0, h1⟩, h2⟩, h3⟩, h4⟩, h5⟩, h6⟩, h7⟩ := h
  rw [k0 h0, k 8 h1, k 16 h2, k 24 h3, k 32 h4, k 40 h5, k 48 h6, k 56 h7] at e
  simpa using e
theorem pc_of_zero : pc 0 = 0 := by decide
theorem bit_xor (a b i : Nat) : (a ^^^ b) / 2 ^ i % 2 ≤ a / 2 ^ i % 2 + b / 2 ^ i % 2 := by
  rw [Nat.xor_div_two_pow]
  generalize a / 2 ^ i = u
  generalize b / 2 ^ i = v
  have h : (u ^^^ v) % 2 ^ 1 = (u % 2 ^ 1) ^^^ (v % 2 ^ 1) := Nat.xor_mod_two_pow
  simp only [Nat.pow_one] at h
  rw [h]
  rcases Nat.mod_two_eq_zero_or_one u with e | e <;> rcases Nat.mod_two_eq_zero_or_one v with e' | e' <;> rw [e, e'] <;> decide
theorem pb_xor' {a b : Nat} (ha : a < 256) (hb : b < 256) : pb (a ^^^ b) ≤ pb a + pb b := by
  have h := bit_xor a b
  have h0 := h 0; have h1 := h 1; have h2 := h 2; have h3 := h 3; have h4 := h 4; have h5 := h 5; have h6 := h 6; have h7 := h 7
  simp only [Nat.reducePow, Nat.div_one] at h0 h1 h2 h3 h4 h5 h6 h7
  unfold pb
  exact Nat.le_trans (Nat.add_le_add (Nat.add_le_add (Nat.add_le_add (Nat.add_le_add (Nat.add_le_add (Nat.add_le_add (Nat.add_le_add h0 h1) h2) h3) h4) h5) h6) h7) (by
    generalize a % 2 = a0; generalize a / 2 % 2 = a1; generalize a / 4 % 2 = a2; generalize a / 8 % 2 = a3; generalize a / 16 % 2 = a4; generalize a / 32 % 2 = a5; generalize a / 64 % 2 = a6; generalize a / 128 % 2 = a7
    generalize b % 2 = b0; generalize b / 2 % 2 = b1; generalize b / 4 % 2 = b2; generalize b / 8 % 2 = b3; generalize b / 16 % 2 = b4; generalize b / 32 % 2 = b5; generalize b / 64 % 2 = b6; generalize b / 128 % 2 = b7
    omega)
theorem lane_xor (x y i : Nat) : (x ^^^ y) / 2 ^ i % 256 = (x / 2 ^ i % 256) ^^^ (y / 2 ^ i % 256) := by
  rw [Nat.xor_div_two_pow, show (256 : Nat) = 2 ^ 8 from rfl, Nat.xor_mod_two_pow]
theorem lane_xor0 (x y : Nat) : (x ^^^ y) % 256 = (x % 256) ^^^ (y % 256) := by
  rw [show (256 : Nat) = 2 ^ 8 from rfl, Nat.xor_mod_two_pow]
theorem pc_xor (x y : Nat) : pc (x ^^^ y) ≤ pc x + pc y := by
  have h := fun i => pb_xor' (a := x / 2 ^ i % 256) (b := y / 2 ^ i % 256) (Nat.mod_lt _ (by decide)) (Nat.mod_lt _ (by decide))
  have h0 := pb_xor' (a := x % 256) (b := y % 256) (Nat.mod_lt _ (by decide)) (Nat.mod_lt _ (by decide))
  have h1 := h 8; have h2 := h 16; have h3 := h 24; have h4 := h 32; have h5 := h 40; have h6 := h 48; have h7 := h 56
  clear h
  unfold pc
  simp only [lane_xor, lane_xor0]
  generalize pb (x % 256) = a0 at *; generalize pb (x / 2 ^ 8 % 256) = a1 at *; generalize pb (x / 2 ^ 16 % 256) = a2 at *; generalize pb (x / 2 ^ 24 % 256) = a3 at *; generalize pb (x / 2 ^ 32 % 256) = a4 at *; generalize pb (x / 2 ^ 40 % 256) = a5 at *; generalize pb (x / 2 ^ 48 % 256) = a6 at *; generalize pb (x / 2 ^ 56 % 256) = a7 at *
  generalize pb (y % 256) = b0 at *; generalize pb (y / 2 ^ 8 % 256) = b1 at *; generalize pb (y / 2 ^ 16 % 256) = b2 at *; generalize pb (y / 2 ^ 24 % 256) = b3 at *; generalize pb (y / 2 ^ 32 % 256) = b4 at *; generalize pb (y / 2 ^ 40 % 256) = b5 at *; generalize pb (y / 2 ^ 48 % 256) = b6 at *; generalize pb (y / 2 ^ 56 % 256) = b7 at *
  omega

/-- The distance of two words. -/
def dst (a b : Nat) : Nat := pc (a ^^^ b)
theorem dst_le (a b : Nat) : dst a b ≤ 64 := pc_le _
theorem dst_comm (a b : Nat) : dst a b = dst b a := by unfold dst; rw [Nat.xor_comm]
theorem dst_self (a : Nat) : dst a a = 0 := by unfold dst; rw [Nat.xor_self]; exact pc_of_zero
theorem dst_tri (a b c : Nat) : dst a c ≤ dst a b + dst b c := by
  have := pc_xor (a ^^^ b) (b ^^^ c)
  rw [Nat.xor_assoc, ← Nat.xor_assoc b b c, Nat.xor_self, Nat.zero_xor] at this
  exact this
theorem dst_zero {a b : Nat} (ha : a < 2 ^ 64) (hb : b < 2 ^ 64) (h : dst a b = 0) : a = b := by
  have h0 := pc_zero (Nat.xor_lt_two_pow ha hb) h
  have : (a ^^^ b) ^^^ b = 0 ^^^ b := by rw [h0]
  rwa [Nat.xor_assoc, Nat.xor_self, Nat.xor_zero, Nat.zero_xor] at this
theorem dst_mask (a b c : Nat) : dst (a ^^^ c) (b ^^^ c) = dst a b := by
  unfold dst
  rw [Nat.xor_assoc, Nat.xor_comm b c, ← Nat.xor_assoc c c b, Nat.xor_self, Nat.zero_xor]

/-- The steps of the sum by pairs, fours and bytes: byte by byte. -/
theorem lane_and (x m i : Nat) : (x &&& m) / 2 ^ i % 256 = (x / 2 ^ i % 256) &&& (m / 2 ^ i % 256) := by
  rw [Nat.and_div_two_pow, show (256 : Nat) = 2 ^ 8 from rfl, Nat.and_mod_two_pow]
def b1 (u : Nat) : Nat := (u / 2 &&& 85) + (u &&& 85)
def b2 (u : Nat) : Nat := (u / 4 &&& 51) + (u &&& 51)
def b3 (u : Nat) : Nat := (u / 16 + u) &&& 15
theorem and85 : ∀ u : Fin 128, ∀ t : Fin 2, ((u.val + 128 * t.val) &&& 85) = (u.val &&& 85) := by decide +kernel
theorem and51 : ∀ u : Fin 64, ∀ t : Fin 4, ((u.val + 64 * t.val) &&& 51) = (u.val &&& 51) := by decide +kernel
theorem b1_spec : ∀ u : Fin 256, b1 u.val < 256 ∧ b1 u.val % 4 ≤ 2 ∧ b1 u.val / 4 % 4 ≤ 2 ∧ b1 u.val / 16 % 4 ≤ 2 ∧ b1 u.val / 64 ≤ 2 := by decide +kernel
theorem b3_spec : ∀ u : Fin 256, b3 (b2 (b1 u.val)) = pb u.val ∧ b2 (b1 u.val) < 256 ∧ b2 (b1 u.val) % 16 ≤ 4 ∧ b2 (b1 u.val) / 16 ≤ 4 := by decide +kernel
theorem and15 : ∀ u : Fin 16, ∀ t : Fin 16, ((u.val + 16 * t.val) &&& 15) = u.val := by decide +kernel

/-- A number by its eight bytes. -/
def lanes (f : Nat → Nat) : Nat := f 0 + f 1 * 2 ^ 8 + f 2 * 2 ^ 16 + f 3 * 2 ^ 24 + f 4 * 2 ^ 32 + f 5 * 2 ^ 40 + f 6 * 2 ^ 48 + f 7 * 2 ^ 56
def lane (x j : Nat) : Nat := x / 2 ^ (8 * j) % 256
theorem lanes_of {x : Nat} (hx : x < 2 ^ 64) : x = lanes (lane x) := by
  have e := bytes_of hx
  simp only [lanes, lane, Nat.mul_zero, Nat.pow_zero, Nat.div_one, Nat.reduceMul]
  generalize x / 2 ^ 8 % 256 = z1 at *; generalize x / 2 ^ 16 % 256 = z2 at *; generalize x / 2 ^ 24 % 256 = z3 at *; generalize x / 2 ^ 32 % 256 = z4 at *
  generalize x / 2 ^ 40 % 256 = z5 at *; generalize x / 2 ^ 48 % 256 = z6 at *; generalize x / 2 ^ 56 % 256 = z7 at *; generalize x % 256 = z0 at *
  omega
theorem lanes_congr {f g : Nat → Nat} (h : ∀ j, j < 8 → f j = g j) : lanes f = lanes g := by
  simp only [lanes, h 0 (by omega), h 1 (by omega), h 2 (by omega), h 3 (by omega), h 4 (by omega), h 5 (by omega), h 6 (by omega), h 7 (by omega)]

theorem lane_and' (x m j : Nat) : lane (x &&& m) j = lane x j &&& lane m j := lane_and x m _
theorem lane_lt (x j : Nat) : lane x j < 256 := Nat.mod_lt _ (by omega)
theorem lane_half (x j : Nat) : lane (x / 2) j = lane x j / 2 + 128 * (x / 2 ^ (8 * j + 8) % 2) := by
  unfold lane
  rw [Nat.div_div_eq_div_mul, Nat.mul_comm 2, ← Nat.div_div_eq_div_mul, Nat.pow_add, ← Nat.div_div_eq_div_mul]
  generalize x / 2 ^ (8 * j) = y
  omega
theorem lane_quart (x j : Nat) : lane (x / 4) j = lane x j / 4 + 64 * (x / 2 ^ (8 * j + 8) % 4) := by
  unfold lane
  rw [Nat.div_div_eq_div_mul, Nat.mul_comm 4, ← Nat.div_div_eq_div_mul, Nat.pow_add, ← Nat.div_div_eq_div_mul]
  generalize x / 2 ^ (8 * j) = y
  omega
theorem lane_16 (x j : Nat) : lane (x / 16) j = lane x j / 16 + 16 * (x / 2 ^ (8 * j + 8) % 16) := by
  unfold lane
  rw [Nat.div_div_eq_div_mul, Nat.mul_comm 16, ← Nat.div_div_eq_div_mul, Nat.pow_add, ← Nat.div_div_eq_div_mul]
  generalize x / 2 ^ (8 * j) = y
  omega
def m85 : Nat := 6148914691236517205
def m51 : Nat := 3689348814741910323
def m15 : Nat := 1085102592571150095
theorem lane_m85 : ∀ j, j < 8 → lane m85 j = 85 := by decide
theorem lane_m51 : ∀ j, j < 8 → lane m51 j = 51 := by decide
theorem lane_m15 : ∀ j, j < 8 → lane m15 j = 15 := by decide

theorem lane_lanes {f : Nat → Nat} (h : ∀ j, j < 8 → f j < 256) : lanes f < 2 ^ 64 ∧ ∀ j, j < 8 → lane (lanes f) j = f j := by
  have h0 := h 0 (by omega); have h1 := h 1 (by omega); have h2 := h 2 (by omega); have h3 := h 3 (by omega)
  have h4 := h 4 (by omega); have h5 := h 5 (by omega); have h6 := h 6 (by omega); have h7 := h 7 (by omega)
  clear h
  refine ⟨by unfold lanes; omega, fun j hj => ?_⟩
  obtain rfl | rfl | rfl | rfl | rfl | rfl | rfl | rfl : j = 0 ∨ j = 1 ∨ j = 2 ∨ j = 3 ∨ j = 4 ∨ j = 5 ∨ j = 6 ∨ j = 7 := by omega
  all_goals (unfold lanes lane; omega)
theorem lanes_add (f g : Nat → Nat) : lanes f + lanes g = lanes fun j => f j + g j := by simp only [lanes]; omega

def s1 (x : Nat) : Nat := (x / 2 &&& m85) + (x &&& m85)
def s2 (x : Nat) : Nat := (x / 4 &&& m51) + (x &&& m51)
def s3 (x : Nat) : Nat := (x / 16 + x) &&& m15
theorem and_lt {x m : Nat} (hm : m < 2 ^ 64) : x &&& m < 2 ^ 64 := Nat.lt_of_le_of_lt Nat.and_le_right hm
theorem b1_lt {u : Nat} (h : u < 256) : b1 u < 256 := (b1_spec ⟨u, h⟩).1
theorem s1_eq {x : Nat} (hx : x < 2 ^ 64) : s1 x = lanes fun j => b1 (lane x j) := by
  unfold s1
  rw [lanes_of (x := x / 2 &&& m85) (and_lt (by decide)), lanes_of (x := x &&& m85) (and_lt (by decide)), lanes_add]
  apply lanes_congr
  intro j hj
  have e := and85 ⟨lane x j / 2, by have := lane_lt x j; omega⟩ ⟨x / 2 ^ (8 * j + 8) % 2, by omega⟩
  simp only at e
  simp only [lane_and', lane_m85 j hj, lane_half, e]
  rfl
theorem s2_eq {x : Nat} (hx : x < 2 ^ 64) : s2 x = lanes fun j => b2 (lane x j) := by
  unfold s2
  rw [lanes_of (x := x / 4 &&& m51) (and_lt (by decide)), lanes_of (x := x &&& m51) (and_lt (by decide)), lanes_add]
  apply lanes_congr
  intro j hj
  have e := and51 ⟨lane x j / 4, by have := lane_lt x j; omega⟩ ⟨x / 2 ^ (8 * j + 8) % 4, by omega⟩
  simp only at e
  simp only [lane_and', lane_m51 j hj, lane_quart, e]
  rfl
theorem and_15 : ∀ u : Fin 256, (u.val &&& 15) = u.val % 16 := by decide +kernel
theorem s3_sum {x : Nat} (hx : x < 2 ^ 64) (h : ∀ j, j < 8 → lane x j % 16 ≤ 4 ∧ lane x j / 16 ≤ 4) : x / 16 + x < 2 ^ 64 ∧ s3 x = lanes fun j => b3 (lane x j) := by
  have hup : ∀ j, j < 8 → x / 2 ^ (8 * j + 8) % 16 ≤ 4 := fun j hj => by
    by_cases h7 : j = 7
    · subst h7
      have : x / 2 ^ (8 * 7 + 8) = 0 := Nat.div_eq_of_lt (by omega)
      rw [this]; omega
    · have := (h (j + 1) (by omega)).1
      unfold lane at this
      rw [show 8 * (j + 1) = 8 * j + 8 from by omega] at this
      omega
  have e1 : x / 16 = lanes (lane (x / 16)) := lanes_of (by omega)
  have e2 : x = lanes (lane x) := lanes_of hx
  have hs : x / 16 + x = lanes fun j => lane (x / 16) j + lane x j := by
    rw [← lanes_add, ← e1, ← e2]
  have hl : ∀ j, j < 8 → (fun j => lane (x / 16) j + lane x j) j < 256 := fun j hj => by
    have h1 := h j hj
    have h2 := hup j hj
    show lane (x / 16) j + lane x j < 256
    rw [lane_16]
    omega
  obtain ⟨k1, k2⟩ := lane_lanes hl
  rw [← hs] at k1 k2
  refine ⟨k1, ?_⟩
  unfold s3
  rw [lanes_of (x := (x / 16 + x) &&& m15) (and_lt (by decide))]
  apply lanes_congr
  intro j hj
  have h1 := h j hj
  have h2 := hup j hj
  simp only [lane_and', lane_m15 j hj, k2 j hj, lane_16]
  have hb := lane_lt x j
  have e3 := and_15 ⟨lane x j / 16 + 16 * (x / 2 ^ (8 * j + 8) % 16) + lane x j, by omega⟩
  have e4 := and_15 ⟨lane x j / 16 + lane x j, by omega⟩
  simp only at e3 e4
  rw [e3]
  unfold b3
  rw [e4]
  omega

theorem and_127 (r : Nat) : r &&& 127 = r % 128 := Nat.and_two_pow_sub_one_eq_mod r 7
/-- What math/bits does. -/
theorem ones_spec {x : Nat} (hx : x < 2 ^ 64) : ∃ y z v : Nat, s1 x = y ∧ y < 2 ^ 64 ∧ s2 y = z ∧ z < 2 ^ 64 ∧ z / 16 + z < 2 ^ 64 ∧ s3 z = v ∧ v + v / 256 < 2 ^ 64 ∧
    (v + v / 256) + (v + v / 256) / 65536 < 2 ^ 64 ∧ ((v + v / 256) + (v + v / 256) / 65536) + ((v + v / 256) + (v + v / 256) / 65536) / 4294967296 < 2 ^ 63 ∧
    (((v + v / 256) + (v + v / 256) / 65536) + ((v + v / 256) + (v + v / 256) / 65536) / 4294967296) % 128 = pc x := by
  have hb := fun j => lane_lt x j
  have k1 := lane_lanes (f := fun j => b1 (lane x j)) (fun j _ => b1_lt (hb j))
  rw [← s1_eq hx] at k1
  have sp := fun j => b3_spec ⟨lane x j, hb j⟩
  simp only at sp
  have k2 := lane_lanes (f := fun j => b2 (lane (s1 x) j)) (fun j hj => by show b2 (lane (s1 x) j) < 256; rw [k1.2 j hj]; exact (sp j).2.1)
  rw [← s2_eq k1.1] at k2
  have hz : ∀ j, j < 8 → lane (s2 (s1 x)) j = b2 (b1 (lane x j)) := fun j hj => by rw [k2.2 j hj, k1.2 j hj]
  have k3 := s3_sum k2.1 (fun j hj => by rw [hz j hj]; exact ⟨(sp j).2.2.1, (sp j).2.2.2⟩)
  have hv : s3 (s2 (s1 x)) = lanes fun j => pb (lane x j) := by
    rw [k3.2]
    apply lanes_congr
    intro j hj
    rw [hz j hj]
    exact (sp j).1
  refine ⟨_, _, s3 (s2 (s1 x)), rfl, k1.1, rfl, k2.1, k3.1, rfl, ?_⟩
  rw [hv]
  have hp : pc x = pb (lane x 0) + pb (lane x 1) + pb (lane x 2) + pb (lane x 3) + pb (lane x 4) + pb (lane x 5) + pb (lane x 6) + pb (lane x 7) := by
    simp only [pc, lane, Nat.mul_zero, Nat.pow_zero, Nat.div_one]
  rw [hp]
  have q := fun j => pb_le (lane x j)
  have q0 := q 0; have q1 := q 1; have q2 := q 2; have q3 := q 3; have q4 := q 4; have q5 := q 5; have q6 := q 6; have q7 := q 7
  simp only [lanes]
  generalize pb (lane x 0) = c0 at *; generalize pb (lane x 1) = c1 at *; generalize pb (lane x 2) = c2 at *; generalize pb (lane x 3) = c3 at *
  generalize pb (lane x 4) = c4 at *; generalize pb (lane x 5) = c5 at *; generalize pb (lane x 6) = c6 at *; generalize pb (lane x 7) = c7 at *
  clear hb k1 sp k2 hz k3 hv hp q
  have e1 : (c0 + c1 * 2 ^ 8 + c2 * 2 ^ 16 + c3 * 2 ^ 24 + c4 * 2 ^ 32 + c5 * 2 ^ 40 + c6 * 2 ^ 48 + c7 * 2 ^ 56) / 256 = c1 + c2 * 2 ^ 8 + c3 * 2 ^ 16 + c4 * 2 ^ 24 + c5 * 2 ^ 32 + c6 * 2 ^ 40 + c7 * 2 ^ 48 := by omega
  rw [e1]
  clear e1
  have e2 : (c0 + c1 * 2 ^ 8 + c2 * 2 ^ 16 + c3 * 2 ^ 24 + c4 * 2 ^ 32 + c5 * 2 ^ 40 + c6 * 2 ^ 48 + c7 * 2 ^ 56 + (c1 + c2 * 2 ^ 8 + c3 * 2 ^ 16 + c4 * 2 ^ 24 + c5 * 2 ^ 32 + c6 * 2 ^ 40 + c7 * 2 ^ 48)) / 65536 = (c2 + c3) + (c3 + c4) * 2 ^ 8 + (c4 + c5) * 2 ^ 16 + (c5 + c6) * 2 ^ 24 + (c6 + c7) * 2 ^ 32 + c7 * 2 ^ 40 := by omega
  rw [e2]
  clear e2
  have e3 : (c0 + c1 * 2 ^ 8 + c2 * 2 ^ 16 + c3 * 2 ^ 24 + c4 * 2 ^ 32 + c5 * 2 ^ 40 + c6 * 2 ^ 48 + c7 * 2 ^ 56 + (c1 + c2 * 2 ^ 8 + c3 * 2 ^ 16 + c4 * 2 ^ 24 + c5 * 2 ^ 32 + c6 * 2 ^ 40 + c7 * 2 ^ 48) + ((c2 + c3) + (c3 + c4) * 2 ^ 8 + (c4 + c5) * 2 ^ 16 + (c5 + c6) * 2 ^ 24 + (c6 + c7) * 2 ^ 32 + c7 * 2 ^ 40)) / 4294967296 = (c4 + c5 + (c6 + c7)) + (c5 + c6 + c7) * 2 ^ 8 + (c6 + c7) * 2 ^ 16 + c7 * 2 ^ 24 := by omega
  rw [e3]
  clear e3
  refine ⟨by omega, by omega, by omega, ?_⟩
  have e4 : c0 + c1 * 2 ^ 8 + c2 * 2 ^ 16 + c3 * 2 ^ 24 + c4 * 2 ^ 32 + c5 * 2 ^ 40 + c6 * 2 ^ 48 + c7 * 2 ^ 56 + (c1 + c2 * 2 ^ 8 + c3 * 2 ^ 16 + c4 * 2 ^ 24 + c5 * 2 ^ 32 + c6 * 2 ^ 40 + c7 * 2 ^ 48) + ((c2 + c3) + (c3 + c4) * 2 ^ 8 + (c4 + c5) * 2 ^ 16 + (c5 + c6) * 2 ^ 24 + (c6 + c7) * 2 ^ 32 + c7 * 2 ^ 40) + ((c4 + c5 + (c6 + c7)) + (c5 + c6 + c7) * 2 ^ 8 + (c6 + c7) * 2 ^ 16 + c7 * 2 ^ 24) = (c0 + c1 + c2 + c3 + c4 + c5 + c6 + c7) + 128 * (2 * (c1 + c2 + (c3 + c4) + (c5 + c6 + c7)) + 512 * (c2 + c3 + (c4 + c5) + (c6 + c7)) + 131072 * (c3 + c4 + (c5 + c6) + c7) + 33554432 * (c4 + c5 + (c6 + c7)) + 8589934592 * (c5 + c6 + c7) + 2199023255552 * (c6 + c7) + 562949953421312 * c7) := by omega
  rw [e4, Nat.add_mul_mod_self_left]
  exact Nat.mod_eq_of_lt (by omega)

end Go.Proofs.Ytonpnjjfidpoiaa
