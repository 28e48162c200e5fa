/-
  Plain numbers: lists of groups of nine decimal digits, the least significant one first, and what they are worth. Imports nothing of the translation.
-/
namespace Go.Proofs.YtalbdjnanmcoeaaDoor.Num

/-- What a list of groups is worth. -/
def val : List Nat → Nat
  | [] => 0
  | d :: l => d + 1000000000 * val l

/-- The group with an index, 0 behind the end: a name of its own, so that nothing rewrites it. -/
def nth (l : List Nat) (i : Nat) : Nat := l[i]?.getD 0

/-- All groups are below the base. -/
def Grp (l : List Nat) : Prop := ∀ d ∈ l, d < 1000000000

/-- Canonical: the last group is not 0. -/
def Cano (l : List Nat) : Prop := Grp l ∧ l.getLast? ≠ some 0

/-- The base to a power: never unfolded by accident. -/
def pw (n : Nat) : Nat := 1000000000 ^ n

theorem nth_eq {l : List Nat} {i : Nat} (h : i < l.length) : nth l i = l[i] := by unfold nth; rw [List.getElem?_eq_getElem h]; rfl
theorem nth_of_le {l : List Nat} {i : Nat} (h : l.length ≤ i) : nth l i = 0 := by unfold nth; rw [List.getElem?_eq_none h]; rfl
theorem nth_zero (d : Nat) (l : List Nat) : nth (d :: l) 0 = d := rfl
theorem nth_succ (d : Nat) (l : List Nat) (i : Nat) : nth (d :: l) (i + 1) = nth l i := by simp [nth]
theorem nth_nil (i : Nat) : nth [] i = 0 := by simp [nth]
theorem nth_take {l : List Nat} {n i : Nat} (h : i < n) : nth (l.take n) i = nth l i := by unfold nth; rw [List.getElem?_take_of_lt h]
theorem nth_drop (l : List Nat) (n i : Nat) : nth (l.drop n) i = nth l (n + i) := by unfold nth; rw [List.getElem?_drop]
theorem nth_set {l : List Nat} {i : Nat} (h : i < l.length) (x j : Nat) : nth (l.set i x) j = if j = i then x else nth l j := by
  unfold nth
  rw [List.getElem?_set]
  by_cases hij : i = j
  · subst hij; simp [h]
  · simp [hij, Ne.symm hij]
theorem nth_append_lt {a : List Nat} {i : Nat} (h : i < a.length) (b : List Nat) : nth (a ++ b) i = nth a i := by unfold nth; rw [List.getElem?_append_left h]
theorem nth_append_ge {a : List Nat} {i : Nat} (h : a.length ≤ i) (b : List Nat) : nth (a ++ b) i = nth b (i - a.length) := by unfold nth; rw [List.getElem?_append_right h]

theorem pw_zero : pw 0 = 1 := rfl
theorem pw_succ (n : Nat) : pw (n + 1) = pw n * 1000000000 := Nat.pow_succ ..
theorem pw_pos (n : Nat) : 0 < pw n := Nat.pow_pos (by omega)
theorem pw_add (a b : Nat) : pw (a + b) = pw a * pw b := Nat.pow_add ..
theorem pw_le {a b : Nat} (h : a ≤ b) : pw a ≤ pw b := Nat.pow_le_pow_right (by omega) h

theorem val_nil : val [] = 0 := rfl
theorem val_cons (d : Nat) (l : List Nat) : val (d :: l) = d + 1000000000 * val l := rfl

theorem Grp.nil : Grp [] := fun _ h => by cases h
theorem Grp.cons {d : Nat} {l : List Nat} (hd : d < 1000000000) (h : Grp l) : Grp (d :: l) := fun x hx => by
  rcases List.mem_cons.1 hx with rfl | hx
  · exact hd
  · exact h x hx
theorem Grp.tail {d : Nat} {l : List Nat} (h : Grp (d :: l)) : Grp l := fun x hx => h x (List.mem_cons_of_mem _ hx)
theorem Grp.head {d : Nat} {l : List Nat} (h : Grp (d :: l)) : d < 1000000000 := h d List.mem_cons_self
theorem Grp.append {a b : List Nat} (ha : Grp a) (hb : Grp b) : Grp (a ++ b) := fun x hx => (List.mem_append.1 hx).elim (ha x) (hb x)
theorem Grp.take {l : List Nat} (h : Grp l) (n : Nat) : Grp (l.take n) := fun x hx => h x (List.mem_of_mem_take hx)
theorem Grp.drop {l : List Nat} (h : Grp l) (n : Nat) : Grp (l.drop n) := fun x hx => h x (List.mem_of_mem_drop hx)
theorem Grp.get {l : List Nat} (h : Grp l) (i : Nat) : nth l i < 1000000000 := by
  by_cases hi : i < l.length
  · rw [nth_eq hi]; exact h _ (List.getElem_mem hi)
  · rw [nth_of_le (by omega)]; omega
theorem Grp.set {l : List Nat} (h : Grp l) (i : Nat) {x : Nat} (hx : x < 1000000000) : Grp (l.set i x) := fun y hy => by
  rcases List.mem_or_eq_of_mem_set hy with hy | rfl
  · exact h y hy
  · exact hx
theorem Grp.replicate (n : Nat) : Grp (List.replicate n 0) := fun x hx => by
  rw [List.eq_of_mem_replicate hx]; omega

theorem val_append (a b : List Nat) : val (a ++ b) = val a + pw a.length * val b := by
  induction a with
  | nil => simp [val, pw]
  | cons d l ih =>
    rw [List.cons_append, val_cons, ih, val_cons, List.length_cons, pw_succ, Nat.mul_add]
    have : 1000000000 * (pw l.length * val b) = pw l.length * 1000000000 * val b := by
      rw [← Nat.mul_assoc, Nat.mul_comm 1000000000]
    omega

theorem val_lt {l : List Nat} (h : Grp l) : val l < pw l.length := by
  induction l with
  | nil => exact Nat.one_pos
  | cons d l ih =>
    have := ih h.tail
    have := h.head
    rw [val_cons, List.length_cons, pw_succ]
    omega

theorem val_take_drop (l : List Nat) (n : Nat) (h : n ≤ l.length) : val l = val (l.take n) + pw n * val (l.drop n) := by
  have := val_append (l.take n) (l.drop n)
  rw [List.take_append_drop, List.length_take, Nat.min_eq_left h] at this
  exact this

theorem val_take_succ (l : List Nat) (i : Nat) (h : i < l.length) : val (l.take (i + 1)) = val (l.take i) + pw i * nth l i := by
  rw [List.take_succ_eq_append_getElem h, val_append, List.length_take, Nat.min_eq_left (by omega), nth_eq h]
  simp [val]

theorem val_take_all (l : List Nat) (n : Nat) (h : l.length ≤ n) : val (l.take n) = val l := by
  rw [List.take_of_length_le h]

/-- A group beyond the end counts as 0. -/
theorem val_take_succ' (l : List Nat) (i : Nat) : val (l.take (i + 1)) = val (l.take i) + pw i * nth l i := by
  by_cases h : i < l.length
  · exact val_take_succ l i h
  · rw [val_take_all l _ (by omega), val_take_all l _ (by omega), nth_of_le (by omega)]; simp

theorem val_replicate (n : Nat) : val (List.replicate n 0) = 0 := by
  induction n with
  | zero => rfl
  | succ n ih => rw [List.replicate_succ, val_cons, ih]

theorem val_zeros {l : List Nat} (h : ∀ j, j < l.length → nth l j = 0) : val l = 0 := by
  induction l with
  | nil => rfl
  | cons d l ih =>
    have h0 := h 0 (by simp)
    rw [nth_zero] at h0
    rw [val_cons, h0, ih fun j hj => by rw [← nth_succ d]; exact h (j + 1) (by simpa using hj)]

theorem val_drop_succ (l : List Nat) (i : Nat) (h : i < l.length) : val (l.drop i) = nth l i + 1000000000 * val (l.drop (i + 1)) := by
  rw [List.drop_eq_getElem_cons h, val_cons, nth_eq h]

theorem Cano.nil : Cano [] := ⟨Grp.nil, by simp⟩
theorem Cano.tail {d : Nat} {l : List Nat} (h : Cano (d :: l)) : Cano l := ⟨h.1.tail, by
  have h2 := h.2
  cases l with
  | nil => simp
  | cons e l => simpa [List.getLast?_cons_cons] using h2⟩

theorem can_iff {l : List Nat} : Cano l ↔ Grp l ∧ (l = [] ∨ nth l (l.length - 1) ≠ 0) := by
  unfold Cano
  rw [List.getLast?_eq_getElem?]
  unfold nth
  constructor
  · rintro ⟨h, h2⟩
    refine ⟨h, ?_⟩
    by_cases hl : l = []
    · exact .inl hl
    · right
      have : 0 < l.length := List.length_pos_iff.2 hl
      rw [List.getElem?_eq_getElem (by omega)] at h2 ⊢
      simpa using h2
  · rintro ⟨h, h2⟩
    refine ⟨h, ?_⟩
    rcases h2 with rfl | h2
    · simp
    · intro h3
      rw [h3] at h2
      exact h2 rfl

theorem Cano.pos {l : List Nat} (h : Cano l) (hl : l ≠ []) : pw (l.length - 1) ≤ val l := by
  induction l with
  | nil => exact absurd rfl hl
  | cons d l ih =>
    cases l with
    | nil =>
      have := (can_iff.1 h).2
      simp [nth] at this
      simp [val_cons, val_nil, pw]
      omega
    | cons e l =>
      have := ih h.tail (by simp)
      rw [val_cons]
      simp only [List.length_cons, Nat.add_sub_cancel] at this ⊢
      rw [pw_succ]
      omega

theorem Cano.val_eq_zero {l : List Nat} (h : Cano l) : val l = 0 ↔ l = [] := by
  constructor
  · intro h0
    apply Classical.byContradiction
    intro hl
    have := h.pos hl
    have := pw_pos (l.length - 1)
    omega
  · rintro rfl; rfl

theorem Cano.ne_zero {l : List Nat} (h : Cano l) (hl : 0 < l.length) : 0 < val l := by
  have := h.val_eq_zero
  have hne : l ≠ [] := by rintro rfl; simp at hl
  rcases Nat.eq_zero_or_pos (val l) with h0 | h0
  · exact absurd (this.1 h0) hne
  · exact h0

theorem Cano.len_lt {a b : List Nat} (ha : Cano a) (hb : Cano b) (h : a.length < b.length) : val a < val b := by
  have h1 := val_lt ha.1
  have h2 := hb.pos (by rintro rfl; simp at h)
  have h3 := pw_le (show a.length ≤ b.length - 1 by omega)
  omega

theorem can_inj {a b : List Nat} (ha : Cano a) (hb : Cano b) (h : val a = val b) : a = b := by
  induction a generalizing b with
  | nil => exact ((hb.val_eq_zero).1 h.symm).symm
  | cons d a ih =>
    cases b with
    | nil => exact absurd ((ha.val_eq_zero).1 h) (by simp)
    | cons e b =>
      rw [val_cons, val_cons] at h
      have h1 := ha.1.head
      have h2 := hb.1.head
      have : d = e := by omega
      subst this
      rw [ih ha.tail hb.tail (by omega)]

theorem can_len {l : List Nat} (h : Cano l) {n : Nat} (hn : val l < pw n) : l.length ≤ n := by
  by_cases hl : l = []
  · subst hl; simp
  · have := h.pos hl
    apply Classical.byContradiction
    intro hc
    have := pw_le (show n ≤ l.length - 1 by omega)
    omega

/-- Cutting off zeros at the end. -/
theorem trim_ok {l : List Nat} (hg : Grp l) {n : Nat} (hn : n ≤ l.length) (hz : ∀ j, n ≤ j → j < l.length → nth l j = 0) (ht : n = 0 ∨ nth l (n - 1) ≠ 0) :
    Cano (l.take n) ∧ val (l.take n) = val l := by
  constructor
  · refine can_iff.2 ⟨hg.take n, ?_⟩
    rcases ht with rfl | ht
    · left; simp
    · right
      by_cases h0 : n = 0
      · subst h0
        exfalso
        apply ht
        by_cases hl : 0 < l.length
        · exact hz 0 (Nat.le_refl _) hl
        · exact nth_of_le (by omega)
      · rw [List.length_take, Nat.min_eq_left hn, nth_take (by omega)]
        exact ht
  · rw [val_take_drop l n hn, val_zeros (l := l.drop n), Nat.mul_zero, Nat.add_zero]
    intro j hj
    rw [List.length_drop] at hj
    rw [nth_drop]
    exact hz (n + j) (by omega) (by omega)

/-- The least significant groups that agree make the order; the first difference from the top decides. -/
theorem val_lt_of_top {a b : List Nat} (ha : Grp a) (i : Nat) (hi : i < a.length) (hl : a.length = b.length)
    (htop : a.drop (i + 1) = b.drop (i + 1)) (h : nth a i < nth b i) : val a < val b := by
  rw [val_take_drop a i (by omega), val_take_drop b i (by omega), val_drop_succ a i hi, val_drop_succ b i (by omega), htop]
  have h1 := val_lt (ha.take i)
  rw [List.length_take, Nat.min_eq_left (by omega)] at h1
  have : pw i * (nth a i + 1000000000 * val (b.drop (i + 1))) + pw i ≤ pw i * (nth b i + 1000000000 * val (b.drop (i + 1))) := by
    rw [← Nat.mul_succ]
    exact Nat.mul_le_mul_left _ (by omega)
  omega

/-- A sign and a magnitude. -/
def sval (neg : Bool) (l : List Nat) : Int := if neg then -(val l : Int) else (val l : Int)

/-- The integer with a sign and a magnitude. -/
def sgnd (negative : Bool) (m : Nat) : Int := if negative then -(m : Int) else (m : Int)
theorem sval_sgnd (neg : Bool) (l : List Nat) : sval neg l = sgnd neg (val l) := rfl
theorem sgnd_zero (neg : Bool) : sgnd neg 0 = 0 := by unfold sgnd; split <;> simp
theorem sgnd_natAbs (neg : Bool) (m : Nat) : (sgnd neg m).natAbs = m := by unfold sgnd; split <;> simp

/-- Canonical, with its sign. -/
def CanZ (neg : Bool) (l : List Nat) : Prop := Cano l ∧ (l = [] → neg = false)

theorem sval_natAbs (neg : Bool) (l : List Nat) : (sval neg l).natAbs = val l := by
  unfold sval; split <;> simp

theorem canZ_inj {m n : Bool} {a b : List Nat} (ha : CanZ m a) (hb : CanZ n b) (h : sval m a = sval n b) : m = n ∧ a = b := by
  have hab : val a = val b := by rw [← sval_natAbs m a, ← sval_natAbs n b, h]
  have hl := can_inj ha.1 hb.1 hab
  subst hl
  refine ⟨?_, rfl⟩
  by_cases h0 : a = []
  · rw [ha.2 h0, hb.2 h0]
  · have := ha.1.val_eq_zero
    have hpos : val a ≠ 0 := fun h => h0 (this.1 h)
    unfold sval at h
    cases m <;> cases n <;> simp at h <;> first | rfl | omega

theorem sval_eq_iff {m n : Bool} {a b : List Nat} (ha : CanZ m a) (hb : CanZ n b) : sval m a = sval n b ↔ (m = n ∧ a = b) :=
  ⟨canZ_inj ha hb, fun ⟨h1, h2⟩ => by rw [h1, h2]⟩

instance (l : List Nat) : Decidable (Grp l) := inferInstanceAs (Decidable (∀ d ∈ l, d < 1000000000))
instance (l : List Nat) : Decidable (Cano l) := inferInstanceAs (Decidable (_ ∧ _))
instance (neg : Bool) (l : List Nat) : Decidable (CanZ neg l) := inferInstanceAs (Decidable (_ ∧ _))

/-- What an integer of any form counts as. -/
def cnt (neg : Bool) (l : List Nat) : Int := if CanZ neg l then sval neg l else 0

theorem cnt_can {neg : Bool} {l : List Nat} (h : CanZ neg l) : cnt neg l = sval neg l := if_pos h
theorem cnt_not {neg : Bool} {l : List Nat} (h : ¬ CanZ neg l) : cnt neg l = 0 := if_neg h

end Go.Proofs.YtalbdjnanmcoeaaDoor.Num
