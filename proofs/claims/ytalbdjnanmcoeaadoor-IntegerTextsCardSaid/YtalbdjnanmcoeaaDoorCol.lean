/-
  Plain numbers: products column by column.
-/
import Derived.Test.YtalbdjnanmcoeaaDoorAdd
namespace Go.Proofs.YtalbdjnanmcoeaaDoor.Num

/-- The products of a column k: from index i on, m of them. -/
def col (a b : List Nat) (k i : Nat) : Nat → Nat
  | 0 => 0
  | m + 1 => col a b k i m + nth a (i + m) * nth b (k - (i + m))

/-- A whole column: all indices up to k. -/
def colAll (a b : List Nat) (k : Nat) : Nat := col a b k 0 (k + 1)

theorem col_zero (a b : List Nat) (k i : Nat) : col a b k i 0 = 0 := rfl
theorem col_succ (a b : List Nat) (k i m : Nat) : col a b k i (m + 1) = col a b k i m + nth a (i + m) * nth b (k - (i + m)) := rfl
theorem col_add (a b : List Nat) (k i m p : Nat) : col a b k i (m + p) = col a b k i m + col a b k (i + m) p := by
  induction p with
  | zero => rfl
  | succ p ih => rw [← Nat.add_assoc, col_succ, ih, col_succ]; simp only [Nat.add_assoc]
theorem col_zeros {a b : List Nat} {k i m : Nat} (h : ∀ j, j < m → nth a (i + j) = 0 ∨ nth b (k - (i + j)) = 0) : col a b k i m = 0 := by
  induction m with
  | zero => rfl
  | succ m ih =>
    rw [col_succ, ih fun j hj => h j (by omega)]
    rcases h m (by omega) with e | e <;> simp [e]

/-- The columns that count: i from lo on. -/
theorem colAll_eq {a b : List Nat} {k lo m : Nat} (h1 : ∀ j, j < lo → nth b (k - j) = 0) (h2 : lo + m ≤ k + 1) (h3 : ∀ j, lo + m ≤ j → j ≤ k → nth a j = 0) : colAll a b k = col a b k lo m := by
  unfold colAll
  obtain ⟨p, hp⟩ : ∃ p, k + 1 = lo + m + p := ⟨k + 1 - (lo + m), by omega⟩
  have e1 : col a b k 0 lo = 0 := col_zeros fun j hj => .inr (by rw [Nat.zero_add]; exact h1 j hj)
  have e2 : col a b k (lo + m) p = 0 := col_zeros fun j hj => .inl (h3 _ (by omega) (by omega))
  rw [hp, col_add, col_add]
  simp only [Nat.zero_add]
  rw [e1, e2]
  omega

/-- n columns together. -/
def cols (a b : List Nat) : Nat → Nat
  | 0 => 0
  | n + 1 => cols a b n + pw n * colAll a b n
theorem cols_succ (a b : List Nat) (n : Nat) : cols a b (n + 1) = cols a b n + pw n * colAll a b n := rfl

theorem col_bound {a b : List Nat} (ha : Grp a) (hb : Grp b) (k i m : Nat) : col a b k i m ≤ m * 999999998000000001 := by
  induction m with
  | zero => simp [col]
  | succ m ih =>
    rw [col_succ]
    have h1 : nth a (i + m) ≤ 999999999 := by have := ha.get (i + m); omega
    have h2 : nth b (k - (i + m)) ≤ 999999999 := by have := hb.get (k - (i + m)); omega
    have := Nat.mul_le_mul h1 h2
    omega

theorem colAll_cons (d : Nat) (a b : List Nat) (k : Nat) : colAll (d :: a) b k = d * nth b k + (match k with | 0 => 0 | k + 1 => colAll a b k) := by
  unfold colAll
  rw [Nat.add_comm k 1, col_add]
  have e1 : col (d :: a) b k 0 1 = d * nth b k := by simp [col, nth_zero]
  rw [e1]
  congr 1
  cases k with
  | zero => rfl
  | succ k =>
    have : ∀ m, m ≤ k + 1 → col (d :: a) b (k + 1) (0 + 1) m = col a b k 0 m := by
      intro m hm
      induction m with
      | zero => rfl
      | succ m ih =>
        rw [col_succ, col_succ, ih (by omega), show 0 + 1 + m = m + 1 from by omega, nth_succ, Nat.zero_add, show k + 1 - (m + 1) = k - m from by omega]
    exact this _ (Nat.le_refl _)

theorem colAll_nil (b : List Nat) (k : Nat) : colAll [] b k = 0 := col_zeros fun j _ => .inl (nth_nil _)

theorem cols_cons (d : Nat) (a b : List Nat) (n : Nat) : cols (d :: a) b (n + 1) = d * vs b 0 (n + 1) + 1000000000 * cols a b n := by
  induction n with
  | zero => simp [cols, colAll_cons, vs_succ, vs_zero, pw_zero]
  | succ n ih =>
    rw [cols_succ, ih, colAll_cons, vs_succ b 0 (n + 1), cols_succ, pw_succ]
    simp only [Nat.zero_add]
    grind

/-- All columns together are the product. -/
theorem cols_all (a b : List Nat) : ∀ n, a.length + b.length ≤ n + 1 → cols a b n = val a * val b := by
  induction a with
  | nil =>
    intro n _
    have : ∀ n, cols [] b n = 0 := by
      intro n
      induction n with
      | zero => rfl
      | succ n ih => rw [cols_succ, ih, colAll_nil]; simp
    rw [this, val_nil, Nat.zero_mul]
  | cons d a ih =>
    intro n hn
    cases n with
    | zero =>
      simp at hn
      have hb : b = [] := List.eq_nil_of_length_eq_zero (by omega)
      rw [hb]
      simp [cols, val]
    | succ n =>
      rw [cols_cons, ih n (by simp at hn; omega), vs_all b (by simp at hn; omega), val_cons, Nat.add_mul, Nat.mul_assoc]

/-- One column more. -/
theorem col_step {a b R : List Nat} {k C T : Nat} (hk : k < R.length) (h : vs R 0 k + C * pw k = cols a b k) (hT : T = C + colAll a b k) :
    vs (R.set k (T % 1000000000)) 0 (k + 1) + T / 1000000000 * pw (k + 1) = cols a b (k + 1) := by
  have e1 : vs (R.set k (T % 1000000000)) 0 k = vs R 0 k := vs_congr fun j hj => by rw [nth_set hk, if_neg (by omega)]
  rw [vs_succ, e1, Nat.zero_add, nth_set hk, if_pos rfl, cols_succ, ← h, pw_succ]
  have e2 : T % 1000000000 + T / 1000000000 * 1000000000 = C + colAll a b k := by omega
  have e3 := congrArg (pw k * ·) e2
  simp only [Nat.mul_add] at e3
  grind

/-- The last carry is a group. -/
theorem col_last {a b R : List Nat} {k C : Nat} (ha : Grp a) (hb : Grp b) (hk : a.length + b.length = k + 1) (h : vs R 0 k + C * pw k = cols a b k) :
    C < 1000000000 ∧ vs R 0 k + C * pw k = val a * val b := by
  rw [cols_all a b k (by omega)] at h
  refine ⟨?_, h⟩
  have h1 := val_lt ha
  have h2 := val_lt hb
  have h3 : val a * val b < pw (a.length + b.length) := by
    rw [pw_add]
    exact Nat.mul_lt_mul'' h1 h2
  rw [hk, pw_succ] at h3
  apply Classical.byContradiction
  intro hc
  have h4 : 1000000000 * pw k ≤ C * pw k := Nat.mul_le_mul_right _ (by omega)
  omega

end Go.Proofs.YtalbdjnanmcoeaaDoor.Num
