/-
  Plain numbers: lists of groups of nine decimal digits, the least significant one first, and what they are worth. Imports nothing of the translation.
-/

set_option linter.unusedSimpArgs false
set_option linter.unusedVariables false
namespace Go.Proofs.YtabibkhcdamlhaaDoor.Num

/-- What a list of groups is worth. -/
def val : List Nat → Nat
  | [] => 0
  | d :: l => d + 1000000000 * val l

/-- The group with an index, 0 behind the end: a name of its own, so that nothing rewrites it. -/
def nth (l : List Nat) (i : Nat) : Nat := l[i]?.getD 0

/-- All groups are below the base. -/
def Grp (l : List Nat) : Prop := ∀ d ∈ l, d < 1000000000

/-- Canonical: the last group is not 0. -/
def Cano (l : List Nat) : Prop := Grp l ∧ l.getLast? ≠ some 0

/-- The base to a power: never unfolded by accident. -/
def pw (n : Nat) : Nat := 1000000000 ^ n

theorem nth_eq {l : List Nat} {i : Nat} (h : i < l.length) : nth l i = l[i] := by unfold nth; rw [List.getElem?_eq_getElem h]; rfl
theorem nth_of_le {l : List Nat} {i : Nat} (h : l.length ≤ i) : nth l i = 0 := by unfold nth; rw [List.getElem?_eq_none h]; rfl
theorem nth_zero (d : Nat) (l : List Nat) : nth (d :: l) 0 = d := rfl
theorem nth_succ (d : Nat) (l : List Nat) (i : Nat) : nth (d :: l) (i + 1) = nth l i := by simp [nth]
theorem nth_nil (i : Nat) : nth [] i = 0 := by simp [nth]
theorem nth_take {l : List Nat} {n i : Nat} (h : i < n) : nth (l.take n) i = nth l i := by unfold nth; rw [List.getElem?_take_of_lt h]
theorem nth_drop (l : List Nat) (n i : Nat) : nth (l.drop n) i = nth l (n + i) := by unfold nth; rw [List.getElem?_drop]
theorem nth_set {l : List Nat} {i : Nat} (h : i < l.length) (x j : Nat) : nth (l.set i x) j = if j = i then x else nth l j := by
  unfold nth
  rw [List.getElem?_set]
  by_cases hij : i = j
  · subst hij; simp [h]
  · simp [hij, Ne.symm hij]
theorem nth_append_lt {a : List Nat} {i : Nat} (h : i < a.length) (b : List Nat) : nth (a ++ b) i = nth a i := by unfold nth; rw [List.getElem?_append_left h]
theorem nth_append_ge {a : List Nat} {i : Nat} (h : a.length ≤ i) (b : List Nat) : nth (a ++ b) i = nth b (i - a.length) := by unfold nth; rw [List.getElem?_append_right h]

theorem pw_zero : pw 0 = 1 := rfl
theorem pw_succ (n : Nat) : pw (n + 1) = pw n * 1000000000 := Nat.pow_succ ..
theorem pw_pos (n : Nat) : 0 < pw n := Nat.pow_pos (by omega)
theorem pw_add (a b : Nat) : pw (a + b) = pw a * pw b := Nat.pow_add ..
theorem pw_le {a b : Nat} (h : a ≤ b) : pw a ≤ pw b := Nat.pow_le_pow_right (by omega) h

theorem val_nil : val [] = 0 := rfl
theorem val_cons (d : Nat) (l : List Nat) : val (d :: l) = d + 1000000000 * val l := rfl

theorem Grp.nil : Grp [] := fun _ h => by cases h
theorem Grp.cons {d : Nat} {l : List Nat} (hd : d < 1000000000) (h : Grp l) : Grp (d :: l) := fun x hx => by
  rcases List.mem_cons.1 hx with rfl | hx
  · exact hd
  · exact h x hx
theorem Grp.tail {d : Nat} {l : List Nat} (h : Grp (d :: l)) : Grp l := fun x hx => h x (List.mem_cons_of_mem _ hx)
theorem Grp.head {d : Nat} {l : List Nat} (h : Grp (d :: l)) : d < 1000000000 := h d List.mem_cons_self
theorem Grp.append {a b : List Nat} (ha : Grp a) (hb : Grp b) : Grp (a ++ b) := fun x hx => (List.mem_append.1 hx).elim (ha x) (hb x)
theorem Grp.take {l : List Nat} (h : Grp l) (n : Nat) : Grp (l.take n) := fun x hx => h x (List.mem_of_mem_take hx)
theorem Grp.drop {l : List Nat} (h : Grp l) (n : Nat) : Grp (l.drop n) := fun x hx => h x (List.mem_of_mem_drop hx)
theorem Grp.get {l : List Nat} (h : Grp l) (i : Nat) : nth l i < 1000000000 := by
  by_cases hi : i < l.length
  · rw [nth_eq hi]; exact h _ (List.getElem_mem hi)
  · rw [nth_of_le (by omega)]; omega
theorem Grp.set {l : List Nat} (h : Grp l) (i : Nat) {x : Nat} (hx : x < 1000000000) : Grp (l.set i x) := fun y hy => by
  rcases List.mem_or_eq_of_mem_set hy with hy | rfl
  · exact h y hy
  · exact hx
theorem Grp.replicate (n : Nat) : Grp (List.replicate n 0) := fun x hx => by
  rw [List.eq_of_mem_replicate hx]; omega

theorem val_append (a b : List Nat) : val (a ++ b) = val a + pw a.length * val b := by
  induction a with
  | nil => simp [val, pw]
  | cons d l ih =>
    rw [List.cons_append, val_cons, ih, val_cons, List.length_cons, pw_succ, Nat.mul_add]
    have : 1000000000 * (pw l.length * val b) = pw l.length * 1000000000 * val b := by
      rw [← Nat.mul_assoc, Nat.mul_comm 1000000000]
    omega

theorem val_lt {l : List Nat} (h : Grp l) : val l < pw l.length := by
  induction l with
  | nil => exact Nat.one_pos
  | cons d l ih =>
    have := ih h.tail
    have := h.head
    rw [val_cons, List.length_cons, pw_succ]
    omega

theorem val_take_drop (l : List Nat) (n : Nat) (h : n ≤ l.length) : val l = val (l.take n) + pw n * val (l.drop n) := by
  have := val_append (l.take n) (l.drop n)
  rw [List.take_append_drop, List.length_take, Nat.min_eq_left h] at this
  exact this

theorem val_take_succ (l : List Nat) (i : Nat) (h : i < l.length) : val (l.take (i + 1)) = val (l.take i) + pw i * nth l i := by
  rw [List.take_succ_eq_append_getElem h, val_append, List.length_take, Nat.min_eq_left (by omega), nth_eq h]
  simp [val]

theorem val_take_all (l : List Nat) (n : Nat) (h : l.length ≤ n) : val (l.take n) = val l := by
  rw [List.take_of_length_le h]

/-- A group beyond the end counts as 0. -/
theorem val_take_succ' (l : List Nat) (i : Nat) : val (l.take (i + 1)) = val (l.take i) + pw i * nth l i := by
  by_cases h : i < l.length
  · exact val_take_succ l i h
  · rw [val_take_all l _ (by omega), val_take_all l _ (by omega), nth_of_le (by omega)]; simp

theorem val_replicate (n : Nat) : val (List.replicate n 0) = 0 := by
  induction n with
  | zero => rfl
  | succ n ih => rw [List.replicate_succ, val_cons, ih]

theorem val_zeros {l : List Nat} (h : ∀ j, j < l.length → nth l j = 0) : val l = 0 := by
  induction l with
  | nil => rfl
  | cons d l ih =>
    have h0 := h 0 (by simp)
    rw [nth_zero] at h0
    rw [val_cons, h0, ih fun j hj => by rw [← nth_succ d]; exact h (j + 1) (by simpa using hj)]

theorem val_drop_succ (l : List Nat) (i : Nat) (h : i < l.length) : val (l.drop i) = nth l i + 1000000000 * val (l.drop (i + 1)) := by
  rw [List.drop_eq_getElem_cons h, val_cons, nth_eq h]

theorem Cano.nil : Cano [] := ⟨Grp.nil, by simp⟩
theorem Cano.tail {d : Nat} {l : List Nat} (h : Cano (d :: l)) : Cano l := ⟨h.1.tail, by
  have h2 := h.2
  cases l with
  | nil => simp
  | cons e l => simpa [List.getLast?_cons_cons] using h2⟩

theorem can_iff {l : List Nat} : Cano l ↔ Grp l ∧ (l = [] ∨ nth l (l.length - 1) ≠ 0) := by
  unfold Cano
  rw [List.getLast?_eq_getElem?]
  unfold nth
  constructor
  · rintro ⟨h, h2⟩
    refine ⟨h, ?_⟩
    by_cases hl : l = []
    · exact .inl hl
    · right
      have : 0 < l.length := List.length_pos_iff.2 hl
      rw [List.getElem?_eq_getElem (by omega)] at h2 ⊢
      simpa using h2
  · rintro ⟨h, h2⟩
    refine ⟨h, ?_⟩
    rcases h2 with rfl | h2
    · simp
    · intro h3
      rw [h3] at h2
      exact h2 rfl

theorem Cano.pos {l : List Nat} (h : Cano l) (hl : l ≠ []) : pw (l.length - 1) ≤ val l := by
  induction l with
  | nil => exact absurd rfl hl
  | cons d l ih =>
    cases l with
    | nil =>
      have := (can_iff.1 h).2
      simp [nth] at this
      simp [val_cons, val_nil, pw]
      omega
    | cons e l =>
      have := ih h.tail (by simp)
      rw [val_cons]
      simp only [List.length_cons, Nat.add_sub_cancel] at this ⊢
      rw [pw_succ]
      omega

theorem Cano.val_eq_zero {l : List Nat} (h : Cano l) : val l = 0 ↔ l = [] := by
  constructor
  · intro h0
    apply Classical.byContradiction
    intro hl
    have := h.pos hl
    have := pw_pos (l.length - 1)
    omega
  · rintro rfl; rfl

theorem Cano.ne_zero {l : List Nat} (h : Cano l) (hl : 0 < l.length) : 0 < val l := by
  have := h.val_eq_zero
  have hne : l ≠ [] := by rintro rfl; simp at hl
  rcases Nat.eq_zero_or_pos (val l) with h0 | h0
  · exact absurd (this.1 h0) hne
  · exact h0

theorem Cano.len_lt {a b : List Nat} (ha : Cano a) (hb : Cano b) (h : a.length < b.length) : val a < val b := by
  have h1 := val_lt ha.1
  have h2 := hb.pos (by rintro rfl; simp at h)
  have h3 := pw_le (show a.length ≤ b.length - 1 by omega)
  omega

theorem can_inj {a b : List Nat} (ha : Cano a) (hb : Cano b) (h : val a = val b) : a = b := by
  induction a generalizing b with
  | nil => exact ((hb.val_eq_zero).1 h.symm).symm
  | cons d a ih =>
    cases b with
    | nil => exact absurd ((ha.val_eq_zero).1 h) (by simp)
    | cons e b =>
      rw [val_cons, val_cons] at h
      have h1 := ha.1.head
      have h2 := hb.1.head
      have : d = e := by omega
      subst this
      rw [ih ha.tail hb.tail (by omega)]

theorem can_len {l : List Nat} (h : Cano l) {n : Nat} (hn : val l < pw n) : l.length ≤ n := by
  by_cases hl : l = []
  · subst hl; simp
  · have := h.pos hl
    apply Classical.byContradiction
    intro hc
    have := pw_le (show n ≤ l.length - 1 by omega)
    omega

/-- Cutting off zeros at the end. -/
theorem trim_ok {l : List Nat} (hg : Grp l) {n : Nat} (hn : n ≤ l.length) (hz : ∀ j, n ≤ j → j < l.length → nth l j = 0) (ht : n = 0 ∨ nth l (n - 1) ≠ 0) :
    Cano (l.take n) ∧ val (l.take n) = val l := by
  constructor
  · refine can_iff.2 ⟨hg.take n, ?_⟩
    rcases ht with rfl | ht
    · left; simp
    · right
      by_cases h0 : n = 0
      · subst h0
        exfalso
        apply ht
        by_cases hl : 0 < l.length
        · exact hz 0 (Nat.le_refl _) hl
        · exact nth_of_le (by omega)
      · rw [List.length_take, Nat.min_eq_left hn, nth_take (by omega)]
        exact ht
  · rw [val_take_drop l n hn, val_zeros (l := l.drop n), Nat.mul_zero, Nat.add_zero]
    intro j hj
    rw [List.length_drop] at hj
    rw [nth_drop]
    exact hz (n + j) (by omega) (by omega)

/-- The least significant groups that agree make the order; the first difference from the top decides. -/
theorem val_lt_of_top {a b : List Nat} (ha : Grp a) (i : Nat) (hi : i < a.length) (hl : a.length = b.length)
    (htop : a.drop (i + 1) = b.drop (i + 1)) (h : nth a i < nth b i) : val a < val b := by
  rw [val_take_drop a i (by omega), val_take_drop b i (by omega), val_drop_succ a i hi, val_drop_succ b i (by omega), htop]
  have h1 := val_lt (ha.take i)
  rw [List.length_take, Nat.min_eq_left (by omega)] at h1
  have : pw i * (nth a i + 1000000000 * val (b.drop (i + 1))) + pw i ≤ pw i * (nth b i + 1000000000 * val (b.drop (i + 1))) := by
    rw [← Nat.mul_succ]
    exact Nat.mul_le_mul_left _ (by omega)
  omega

/-- A sign and a magnitude. -/
def sval (neg : Bool) (l : List Nat) : Int := if neg then -(val l : Int) else (val l : Int)

/-- The integer with a sign and a magnitude. -/
def sgnd (negative : Bool) (m : Nat) : Int := if negative then -(m : Int) else (m : Int)
theorem sval_sgnd (neg : Bool) (l : List Nat) : sval neg l = sgnd neg (val l) := rfl
theorem sgnd_zero (neg : Bool) : sgnd neg 0 = 0 := by unfold sgnd; split <;> simp
theorem sgnd_natAbs (neg : Bool) (m : Nat) : (sgnd neg m).natAbs = m := by unfold sgnd; split <;> simp

/-- Canonical, with its sign. -/
def CanZ (neg : Bool) (l : List Nat) : Prop := Cano l ∧ (l = [] → neg = false)

theorem sval_natAbs (neg : Bool) (l : List Nat) : (sval neg l).natAbs = val l := by
  unfold sval; split <;> simp

theorem canZ_inj {m n : Bool} {a b : List Nat} (ha : CanZ m a) (hb : CanZ n b) (h : sval m a = sval n b) : m = n ∧ a = b := by
  have hab : val a = val b := by rw [← sval_natAbs m a, ← sval_natAbs n b, h]
  have hl := can_inj ha.1 hb.1 hab
  subst hl
  refine ⟨?_, rfl⟩
  by_cases h0 : a = []
  · rw [ha.2 h0, hb.2 h0]
  · have := ha.1.val_eq_zero
    have hpos : val a ≠ 0 := fun h => h0 (this.1 h)
    unfold sval at h
    cases m <;> cases n <;> simp at h <;> first | rfl | omega

theorem sval_eq_iff {m n : Bool} {a b : List Nat} (ha : CanZ m a) (hb : CanZ n b) : sval m a = sval n b ↔ (m = n ∧ a = b) :=
  ⟨canZ_inj ha hb, fun ⟨h1, h2⟩ => by rw [h1, h2]⟩

instance (l : List Nat) : Decidable (Grp l) := inferInstanceAs (Decidable (∀ d ∈ l, d < 1000000000))
instance (l : List Nat) : Decidable (Cano l) := inferInstanceAs (Decidable (_ ∧ _))
instance (neg : Bool) (l : List Nat) : Decidable (CanZ neg l) := inferInstanceAs (Decidable (_ ∧ _))

/-- What an integer of any form counts as. -/
def cnt (neg : Bool) (l : List Nat) : Int := if CanZ neg l then sval neg l else 0

theorem cnt_can {neg : Bool} {l : List Nat} (h : CanZ neg l) : cnt neg l = sval neg l := if_pos h
theorem cnt_not {neg : Bool} {l : List Nat} (h : ¬ CanZ neg l) : cnt neg l = 0 := if_neg h

end Go.Proofs.YtabibkhcdamlhaaDoor.Num

/-
  Plain numbers: sums and differences group by group, with carries.
-/
namespace Go.Proofs.YtabibkhcdamlhaaDoor.Num

/-- What k groups from place off on are worth. -/
def vs (l : List Nat) (off k : Nat) : Nat := val ((l.drop off).take k)

theorem vs_zero (l : List Nat) (off : Nat) : vs l off 0 = 0 := by simp [vs, val]
theorem vs_succ (l : List Nat) (off k : Nat) : vs l off (k + 1) = vs l off k + pw k * nth l (off + k) := by
  unfold vs
  rw [val_take_succ', nth_drop]
theorem vs_congr {a b : List Nat} {o p k : Nat} (h : ∀ j, j < k → nth a (o + j) = nth b (p + j)) : vs a o k = vs b p k := by
  induction k with
  | zero => rw [vs_zero, vs_zero]
  | succ k ih => rw [vs_succ, vs_succ, ih fun j hj => h j (by omega), h k (by omega)]
theorem vs_take (l : List Nat) (k : Nat) : vs l 0 k = val (l.take k) := by simp [vs]
theorem vs_all (l : List Nat) {k : Nat} (h : l.length ≤ k) : vs l 0 k = val l := by rw [vs_take, List.take_of_length_le h]
theorem vs_drop (l : List Nat) (off : Nat) {k : Nat} (h : l.length ≤ off + k) : vs l off k = val (l.drop off) := by
  unfold vs; rw [List.take_of_length_le (by rw [List.length_drop]; omega)]
theorem vs_lt {l : List Nat} {off k : Nat} (h : ∀ j, j < k → nth l (off + j) < 1000000000) : vs l off k < pw k := by
  induction k with
  | zero => rw [vs_zero, pw_zero]; omega
  | succ k ih =>
    have h1 := ih fun j hj => h j (by omega)
    have h2 := h k (by omega)
    rw [vs_succ, pw_succ]
    have : pw k * nth l (off + k) ≤ pw k * 999999999 := Nat.mul_le_mul_left _ (by omega)
    omega
theorem vs_add (l : List Nat) (off a b : Nat) : vs l off (a + b) = vs l off a + pw a * vs l (off + a) b := by
  induction b with
  | zero => simp [vs_zero]
  | succ b ih =>
    rw [← Nat.add_assoc, vs_succ, ih, vs_succ, Nat.mul_add, ← Nat.mul_assoc, ← pw_add]
    simp only [Nat.add_assoc]
theorem vs_zeros {l : List Nat} {off k : Nat} (h : ∀ j, j < k → nth l (off + j) = 0) : vs l off k = 0 := by
  induction k with
  | zero => exact vs_zero _ _
  | succ k ih => rw [vs_succ, ih fun j hj => h j (by omega), h k (by omega)]; simp

/-- k groups of L from off on have become those of the sum with b; c: the carry. -/
def AddInv (off : Nat) (b L L' : List Nat) (k c : Nat) : Prop :=
  L'.length = L.length ∧ (∀ j, (j < off ∨ off + k ≤ j) → nth L' j = nth L j) ∧ (∀ j, j < k → nth L' (off + j) < 1000000000) ∧ c ≤ 1 ∧
    vs L' off k + c * pw k = vs L off k + vs b 0 k

theorem AddInv.start (off : Nat) (b L : List Nat) : AddInv off b L L 0 0 := ⟨rfl, fun _ _ => rfl, fun j h => absurd h (by omega), by omega, by simp [vs_zero]⟩

theorem AddInv.step {off : Nat} {b L L' : List Nat} {k c r d : Nat} (h : AddInv off b L L' k c) (hk : off + k < L.length) (hr : r < 1000000000) (hd : d ≤ 1)
    (hs : r + d * 1000000000 = nth L (off + k) + nth b k + c) : AddInv off b L (L'.set (off + k) r) (k + 1) d := by
  obtain ⟨h1, h2, h3, h4, h5⟩ := h
  have hn : ∀ j, nth (L'.set (off + k) r) j = if j = off + k then r else nth L' j := fun j => nth_set (by omega) r j
  refine ⟨by simp [h1], fun j hj => ?_, fun j hj => ?_, hd, ?_⟩
  · rw [hn, if_neg (by omega)]; exact h2 j (by omega)
  · rw [hn]; split
    · exact hr
    · exact h3 j (by omega)
  · have e1 : vs (L'.set (off + k) r) off k = vs L' off k := vs_congr fun j hj => by rw [hn, if_neg (by omega)]
    rw [vs_succ, vs_succ, vs_succ, e1, hn, if_pos rfl, Nat.zero_add, pw_succ]
    have := congrArg (pw k * ·) hs
    simp only [Nat.mul_add] at this
    grind

/-- Where nothing is carried and b has ended, the rest stays. -/
theorem AddInv.done {off : Nat} {b L L' : List Nat} {k n : Nat} (h : AddInv off b L L' k 0) (hb : b.length ≤ k) (hk : k ≤ n) (hL : ∀ j, j < n → nth L (off + j) < 1000000000) : AddInv off b L L' n 0 := by
  obtain ⟨h1, h2, h3, h4, h5⟩ := h
  refine ⟨h1, fun j hj => h2 j (by omega), fun j hj => ?_, by omega, ?_⟩
  · by_cases hjk : j < k
    · exact h3 j hjk
    · rw [h2 _ (by omega)]; exact hL j hj
  · obtain ⟨m, rfl⟩ : ∃ m, n = k + m := ⟨n - k, by omega⟩
    rw [vs_add, vs_add L, vs_all b hb] at *
    rw [vs_all b (by omega)]
    have : vs L' (off + k) m = vs L (off + k) m := vs_congr fun j hj => h2 _ (by omega)
    rw [this]
    omega

/-- k groups of L from off on have become those of the difference with b; c: the borrow. -/
def SubInv (off : Nat) (b L L' : List Nat) (k c : Nat) : Prop :=
  L'.length = L.length ∧ (∀ j, (j < off ∨ off + k ≤ j) → nth L' j = nth L j) ∧ (∀ j, j < k → nth L' (off + j) < 1000000000) ∧ c ≤ 1 ∧
    vs L' off k + vs b 0 k = vs L off k + c * pw k

theorem SubInv.start (off : Nat) (b L : List Nat) : SubInv off b L L 0 0 := ⟨rfl, fun _ _ => rfl, fun j h => absurd h (by omega), by omega, by simp [vs_zero]⟩

theorem SubInv.step {off : Nat} {b L L' : List Nat} {k c r d : Nat} (h : SubInv off b L L' k c) (hk : off + k < L.length) (hr : r < 1000000000) (hd : d ≤ 1)
    (hs : r + nth b k + c = nth L (off + k) + d * 1000000000) : SubInv off b L (L'.set (off + k) r) (k + 1) d := by
  obtain ⟨h1, h2, h3, h4, h5⟩ := h
  have hn : ∀ j, nth (L'.set (off + k) r) j = if j = off + k then r else nth L' j := fun j => nth_set (by omega) r j
  refine ⟨by simp [h1], fun j hj => ?_, fun j hj => ?_, hd, ?_⟩
  · rw [hn, if_neg (by omega)]; exact h2 j (by omega)
  · rw [hn]; split
    · exact hr
    · exact h3 j (by omega)
  · have e1 : vs (L'.set (off + k) r) off k = vs L' off k := vs_congr fun j hj => by rw [hn, if_neg (by omega)]
    rw [vs_succ, vs_succ, vs_succ, e1, hn, if_pos rfl, Nat.zero_add, pw_succ]
    have := congrArg (pw k * ·) hs
    simp only [Nat.mul_add] at this
    grind

theorem SubInv.done {off : Nat} {b L L' : List Nat} {k n : Nat} (h : SubInv off b L L' k 0) (hb : b.length ≤ k) (hk : k ≤ n) (hL : ∀ j, j < n → nth L (off + j) < 1000000000) : SubInv off b L L' n 0 := by
  obtain ⟨h1, h2, h3, h4, h5⟩ := h
  refine ⟨h1, fun j hj => h2 j (by omega), fun j hj => ?_, by omega, ?_⟩
  · by_cases hjk : j < k
    · exact h3 j hjk
    · rw [h2 _ (by omega)]; exact hL j hj
  · obtain ⟨m, rfl⟩ : ∃ m, n = k + m := ⟨n - k, by omega⟩
    rw [vs_add, vs_add L, vs_all b hb] at *
    rw [vs_all b (by omega)]
    have : vs L' (off + k) m = vs L (off + k) m := vs_congr fun j hj => h2 _ (by omega)
    rw [this]
    omega

end Go.Proofs.YtabibkhcdamlhaaDoor.Num

/-
  Plain numbers: the estimates of a long division.
-/
namespace Go.Proofs.YtabibkhcdamlhaaDoor
open Num

/-- an estimate of a group of 32 bits, and its corrections. -/
theorem est_le {u u1 y yn1 yn0 q r : Nat} (hy : y = yn1 * 4294967296 + yn0) (hq : q * yn1 + r = u) (h1 : q * yn0 ≤ 4294967296 * r + u1) : q ≤ (u * 4294967296 + u1) / y ∨ y = 0 := by
  rcases Nat.eq_zero_or_pos y with h0 | h0
  · exact .inr h0
  · left
    rw [Nat.le_div_iff_mul_le h0, hy, Nat.mul_add, ← hq, Nat.add_mul, ← Nat.mul_assoc]
    omega

theorem est_lt {u u1 y yn1 yn0 q r : Nat} (hy : y = yn1 * 4294967296 + yn0) (h0 : 0 < y) (hq : q * yn1 + r = u) (h1 : 4294967296 * r + u1 < q * yn0) : (u * 4294967296 + u1) / y < q := by
  rw [Nat.div_lt_iff_lt_mul h0, hy, Nat.mul_add, ← hq, Nat.add_mul, ← Nat.mul_assoc]
  omega

theorem est_small {u u1 y : Nat} (hu : u < y) (h1 : u1 < 4294967296) : (u * 4294967296 + u1) / y < 4294967296 := by
  rw [Nat.div_lt_iff_lt_mul (by omega)]
  have : u + 1 ≤ y := hu
  omega

theorem est_init {u u1 y yn1 yn0 : Nat} (hy : y = yn1 * 4294967296 + yn0) (h0 : 0 < yn1) (h1 : u1 < 4294967296) : (u * 4294967296 + u1) / y ≤ u / yn1 := by
  have e : u / yn1 = (u * 4294967296 + u1) / (yn1 * 4294967296) := by
    rw [Nat.mul_comm yn1, ← Nat.div_div_eq_div_mul]
    congr 1
    omega
  rw [e]
  exact Nat.div_le_div_left (by omega) (by omega)

theorem est_most {u y yn1 yn0 : Nat} (hy : y = yn1 * 4294967296 + yn0) (hu : u < y) (h0 : 2147483648 ≤ yn1) (hy0 : yn0 < 4294967296) : u / yn1 ≤ 4294967298 := by
  have : u / yn1 < 4294967299 := by
    rw [Nat.div_lt_iff_lt_mul (by omega)]
    omega
  omega

/-- both halves of a long quotient. -/
theorem long_div (N B b y : Nat) (h0 : 0 < y) : N / y * B + (N % y * B + b) / y = (N * B + b) / y := by
  have e : N * B + b = (N % y * B + b) + y * (N / y * B) := by
    have := Nat.div_add_mod N y
    generalize N / y = q at *
    generalize N % y = r at *
    rw [← this, Nat.add_mul, Nat.mul_assoc]
    omega
  rw [e, Nat.add_mul_div_left _ _ h0, Nat.add_comm]

/-- What Div64 makes of its arguments before it divides. -/
structure Norm (hi lo y s Y yn1 yn0 u u1 u0 : Nat) : Prop where
  hs : s < 64
  hY : y * 2 ^ s = Y
  Y1 : Y < 18446744073709551616
  Y0 : Y = yn1 * 4294967296 + yn0
  n1 : 2147483648 ≤ yn1
  n2 : yn1 < 4294967296
  n0 : yn0 < 4294967296
  hu : hi * 2 ^ s + lo / 2 ^ (64 - s) = u
  uor : hi * 2 ^ s ||| lo / 2 ^ (64 - s) = u
  hi1 : hi * 2 ^ s < 18446744073709551616
  lo1 : lo / 2 ^ (64 - s) < 18446744073709551616
  uY : u < Y
  h10 : lo * 2 ^ s % 18446744073709551616 = u1 * 4294967296 + u0
  b1 : u1 < 4294967296
  b0 : u0 < 4294967296
  quo : ((u * 4294967296 + u1) * 4294967296 + u0) / Y = (hi * 18446744073709551616 + lo) / y

theorem Norm.ex {hi lo y B : Nat} (hlt : hi < y) (hlo : lo < 18446744073709551616) (hB1 : 1 ≤ B) (hB2 : B ≤ 64) (hy1 : 2 ^ (B - 1) ≤ y) (hy2 : y < 2 ^ B) :
    ∃ Y yn1 yn0 u u1 u0, Norm hi lo y (64 - B) Y yn1 yn0 u u1 u0 := by
  obtain ⟨s, hs⟩ : ∃ s, 64 - B = s := ⟨_, rfl⟩
  rw [hs]
  have hBs : B = 64 - s := by omega
  have hp : 0 < 2 ^ s := Nat.pow_pos (by decide)
  have hq : 0 < 2 ^ (64 - s) := Nat.pow_pos (by decide)
  have hpq : 2 ^ (64 - s) * 2 ^ s = 18446744073709551616 := by
    rw [← Nat.pow_add, show 64 - s + s = 64 by omega]
  have hpq' : 2 ^ (B - 1) * 2 ^ s = 9223372036854775808 := by
    rw [← Nat.pow_add, show B - 1 + s = 63 by omega]
  rw [hBs] at hy2
  have hYlt : y * 2 ^ s < 18446744073709551616 := by
    rw [← hpq]
    exact Nat.mul_lt_mul_of_pos_right hy2 hp
  have hYge : 9223372036854775808 ≤ y * 2 ^ s := by
    rw [← hpq']
    exact Nat.mul_le_mul_right _ hy1
  have hlo2 : lo / 2 ^ (64 - s) < 2 ^ s := by
    rw [Nat.div_lt_iff_lt_mul hq, Nat.mul_comm, hpq]
    exact hlo
  have huY : hi * 2 ^ s + lo / 2 ^ (64 - s) < y * 2 ^ s := by
    have := Nat.mul_le_mul_right (2 ^ s) (show hi + 1 ≤ y from hlt)
    rw [Nat.add_mul] at this
    omega
  have hdiv : lo * 2 ^ s / 18446744073709551616 = lo / 2 ^ (64 - s) := by
    rw [← hpq]
    exact Nat.mul_div_mul_right _ _ hp
  have hmod := Nat.div_add_mod (lo * 2 ^ s) 18446744073709551616
  rw [hdiv] at hmod
  have hor : hi * 2 ^ s ||| lo / 2 ^ (64 - s) = hi * 2 ^ s + lo / 2 ^ (64 - s) := by
    have := Nat.shiftLeft_add_eq_or_of_lt hlo2 hi
    rw [Nat.shiftLeft_eq] at this
    exact this.symm
  have hquo : ((hi * 2 ^ s + lo / 2 ^ (64 - s)) * 18446744073709551616 + lo * 2 ^ s % 18446744073709551616) / (y * 2 ^ s) = (hi * 18446744073709551616 + lo) / y := by
    have e : (hi * 2 ^ s + lo / 2 ^ (64 - s)) * 18446744073709551616 + lo * 2 ^ s % 18446744073709551616 = (hi * 18446744073709551616 + lo) * 2 ^ s := by
      generalize lo * 2 ^ s % 18446744073709551616 = L at *
      generalize lo / 2 ^ (64 - s) = q at *
      generalize 2 ^ s = p at *
      clear hor hdiv huY hYlt hYge hpq hpq' hlo2 hq
      have e1 : (hi * p + q) * 18446744073709551616 = hi * 18446744073709551616 * p + 18446744073709551616 * q := by grind
      rw [e1, Nat.add_mul, ← hmod]
      omega
    rw [e, Nat.mul_div_mul_right _ _ hp]
  generalize hY : y * 2 ^ s = Y at *
  generalize hu : hi * 2 ^ s + lo / 2 ^ (64 - s) = u at *
  generalize hl : lo * 2 ^ s % 18446744073709551616 = L at *
  have hL : L < 18446744073709551616 := by rw [← hl]; exact Nat.mod_lt _ (by decide)
  refine ⟨Y, Y / 4294967296, Y % 4294967296, u, L / 4294967296, L % 4294967296, by omega, hY, hYlt, by omega, by omega, by omega, by omega, hu, hor, by omega, by omega, huY, by omega, by omega, by omega, ?_⟩
  have e : (u * 4294967296 + L / 4294967296) * 4294967296 + L % 4294967296 = u * 18446744073709551616 + L := by omega
  exact (congrArg (· / Y) e).trans hquo

/-- The quotient that the first groups tell is not too small. -/
theorem top_est {V b N lead p lo : Nat} (hV : V < p * (N + 1)) (hb : b = lo + p * lead) (h0 : 0 < lead) (hb0 : 0 < b) : V / b ≤ N / lead := by
  rw [Nat.le_div_iff_mul_le h0]
  obtain ⟨Q, hQ⟩ : ∃ Q, V / b = Q := ⟨_, rfl⟩
  rw [hQ]
  have h1 : Q * b ≤ V := by rw [← hQ]; exact Nat.div_mul_le_self V b
  have h2 : p * (Q * lead) < p * (N + 1) := by
    rw [hb, Nat.mul_add] at h1
    have e : p * (Q * lead) = Q * (p * lead) := by rw [← Nat.mul_assoc, ← Nat.mul_assoc, Nat.mul_comm p Q]
    omega
  have := Nat.lt_of_mul_lt_mul_left h2
  omega

/-- k groups of L from off on have become those of the difference from d times b; c: what is borrowed. -/
def RedInv (off : Nat) (b L L' : List Nat) (k d : Nat) (c : Int) : Prop :=
  L'.length = L.length ∧ (∀ j, (j < off ∨ off + k ≤ j) → nth L' j = nth L j) ∧ (∀ j, j < k → nth L' (off + j) < 1000000000) ∧ -1000000000 ≤ c ∧ c ≤ 0 ∧
    (vs L' off k : Int) + (pw k : Int) * c = (vs L off k : Int) - (d : Int) * (vs b 0 k : Int)
theorem RedInv.start (off : Nat) (b L : List Nat) (d : Nat) : RedInv off b L L 0 d 0 := ⟨rfl, fun _ _ => rfl, fun j h => absurd h (by omega), by omega, by omega, by simp [vs_zero]⟩

theorem sub_arith {p B c c' r a d x : Int} (h : r + B * c' = a - d * x + c) : p * r + p * B * c' = p * a - d * (p * x) + p * c := by grind

theorem RedInv.step {off : Nat} {b L L' : List Nat} {k d r : Nat} {c c' : Int} (h : RedInv off b L L' k d c) (hk : off + k < L.length) (hr : r < 1000000000) (h0 : -1000000000 ≤ c') (h1 : c' ≤ 0)
    (hs : (r : Int) + 1000000000 * c' = (nth L (off + k) : Int) - (d : Int) * (nth b k : Int) + c) : RedInv off b L (L'.set (off + k) r) (k + 1) d c' := by
  obtain ⟨g1, g2, g3, g4, g5, g6⟩ := h
  have hn : ∀ j, nth (L'.set (off + k) r) j = if j = off + k then r else nth L' j := fun j => nth_set (by omega) r j
  refine ⟨by simp [g1], fun j hj => ?_, fun j hj => ?_, h0, h1, ?_⟩
  · rw [hn, if_neg (by omega)]
    exact g2 j (by omega)
  · rw [hn]
    by_cases e : j = k
    · rw [if_pos (by omega)]; exact hr
    · rw [if_neg (by omega)]; exact g3 j (by omega)
  · have e1 : vs (L'.set (off + k) r) off k = vs L' off k := vs_congr fun j hj => by rw [hn, if_neg (by omega)]
    have e2 : nth (L'.set (off + k) r) (off + k) = r := by rw [hn, if_pos rfl]
    rw [vs_succ, vs_succ, vs_succ, e1, e2, Nat.zero_add, pw_succ]
    have := sub_arith (p := (pw k : Int)) hs
    simp only [Int.natCast_add, Int.natCast_mul, Int.mul_add]
    have e3 : ((1000000000 : Nat) : Int) = 1000000000 := rfl
    rw [e3]
    omega

/-- The divisor is added again while the difference is below 0: d is still too great by what is below 0. -/
def BackInv (off n : Nat) (b L L' : List Nat) (V d : Nat) (c : Int) : Prop :=
  L'.length = L.length ∧ (∀ j, (j < off ∨ off + n ≤ j) → nth L' j = nth L j) ∧ (∀ j, j < n → nth L' (off + j) < 1000000000) ∧
    (vs L' off n : Int) + (pw n : Int) * c = (V : Int) - (d : Int) * (val b : Int) ∧ (V < val b * 1000000000 → V / val b ≤ d)

theorem RedInv.back {off n : Nat} {b L L' : List Nat} {d V : Nat} {c c2 : Int} (h : RedInv off b L L' n d c) (hb : b.length ≤ n) (hV : V = vs L off n + pw n * nth L (off + n)) (hc : c2 = c + (nth L (off + n) : Int)) (hd : V < val b * 1000000000 → V / val b ≤ d) :
    BackInv off n b L L' V d c2 := by
  obtain ⟨g1, g2, g3, g4, g5, g6⟩ := h
  rw [vs_all _ hb] at g6
  refine ⟨g1, g2, g3, ?_, hd⟩
  rw [hc, hV, Int.mul_add]
  simp only [Int.natCast_add, Int.natCast_mul]
  omega

theorem BackInv.below {off n : Nat} {b L L' : List Nat} {V d : Nat} {c : Int} (h : BackInv off n b L L' V d c) (hc : c < 0) (hb0 : 0 < val b) : V / val b < d := by
  obtain ⟨g1, g2, g3, g4, g5⟩ := h
  have hv := vs_lt g3
  have h1 : (pw n : Int) * c ≤ (pw n : Int) * (-1) := Int.mul_le_mul_of_nonneg_left (by omega) (by omega)
  have h2 : V < d * val b := by
    have : (V : Int) - (d : Int) * (val b : Int) < 0 := by omega
    have e : ((d * val b : Nat) : Int) = (d : Int) * (val b : Int) := Int.natCast_mul _ _
    omega
  exact (Nat.div_lt_iff_lt_mul hb0).2 h2

theorem BackInv.step {off n : Nat} {b L L' L2 : List Nat} {V d e : Nat} {c : Int} (h : BackInv off n b L L' V (d + 1) c) (hd : V / val b < d + 1) (hb : b.length ≤ n) (ha : AddInv off b L' L2 n e) :
    BackInv off n b L L2 V d (c + (e : Int)) := by
  obtain ⟨g1, g2, g3, g4, g5⟩ := h
  obtain ⟨a1, a2, a3, a4, a5⟩ := ha
  rw [vs_all _ hb] at a5
  refine ⟨by omega, fun j hj => (a2 j hj).trans (g2 j hj), a3, ?_, fun _ => by omega⟩
  have e1 : ((vs L2 off n + e * pw n : Nat) : Int) = ((vs L' off n + val b : Nat) : Int) := by rw [a5]
  simp only [Int.natCast_add, Int.natCast_mul] at e1
  rw [Int.mul_add, Int.mul_comm (pw n : Int) (e : Int)]
  have e2 : ((d + 1 : Nat) : Int) * (val b : Int) = (d : Int) * (val b : Int) + (val b : Int) := by rw [Int.natCast_add, Int.add_mul]; simp
  rw [e2] at g4
  omega

theorem BackInv.done {off n : Nat} {b L L' : List Nat} {V d : Nat} {c : Int} (h : BackInv off n b L L' V d c) (hc : 0 ≤ c) (hb0 : 0 < val b) (hbn : val b ≤ pw n) (hVb : V < val b * 1000000000) : d = V / val b ∧ vs L' off n = V % val b ∧ c = 0 := by
  obtain ⟨g1, g2, g3, g4, g5⟩ := h
  have hv := vs_lt g3
  have h1 : 0 ≤ (pw n : Int) * c := Int.mul_nonneg (by omega) hc
  have e : ((d * val b : Nat) : Int) = (d : Int) * (val b : Int) := Int.natCast_mul _ _
  have h2 : d * val b ≤ V := by omega
  have h3 : d ≤ V / val b := (Nat.le_div_iff_mul_le hb0).2 h2
  have g6 := g5 hVb
  have hdd : d = V / val b := by omega
  have hdm := Nat.div_add_mod V (val b)
  have hml := Nat.mod_lt V hb0
  rw [← hdd, Nat.mul_comm] at hdm
  have hr : ((V % val b : Nat) : Int) = (vs L' off n : Int) + (pw n : Int) * c := by omega
  have hc0 : c = 0 := by
    rcases Int.lt_or_eq_of_le hc with h | h
    · exfalso
      have : (pw n : Int) * 1 ≤ (pw n : Int) * c := Int.mul_le_mul_of_nonneg_left (by omega) (by omega)
      omega
    · exact h.symm
  subst hc0
  exact ⟨hdd, by omega, rfl⟩

end Go.Proofs.YtabibkhcdamlhaaDoor

/-
  Plain numbers: what a long division has done.
-/
namespace Go.Proofs.YtabibkhcdamlhaaDoor
open Num

/-- The quotient's groups from j on are there: la = R + b * them. -/
def DlInv (la b R Q : List Nat) (n j : Nat) : Prop :=
  R.length = la.length + 1 ∧ (∀ i, nth R i < 1000000000) ∧ (∀ i, j + n ≤ i → nth R i = 0) ∧ vs R j n < val b ∧ Q.length = la.length + 1 - n ∧ (∀ i, nth Q i < 1000000000) ∧ val R + val b * (pw j * val (Q.drop j)) = val la

theorem val_split (R : List Nat) (x n : Nat) (h : x + n ≤ R.length) (hz : ∀ i, x + n ≤ i → nth R i = 0) : val R = vs R 0 x + pw x * vs R x n := by
  have e1 : val R = vs R 0 (x + n + (R.length - (x + n))) := by rw [vs_all]; omega
  rw [e1, vs_add, vs_add R 0 x n]
  have e2 : vs R (0 + (x + n)) (R.length - (x + n)) = 0 := vs_zeros fun i _ => hz _ (by omega)
  rw [e2, Nat.zero_add]
  simp

theorem DlInv.start {la b R Q : List Nat} {n : Nat} (hg : Grp la) (hgb : Grp b) (hbn : b.length = n) (hb : Cano b) (hn : 2 ≤ n) (hna : n ≤ la.length) (hR : R.length = la.length + 1) (hRn : ∀ i, nth R i = nth la i) (hQ : Q.length = la.length + 1 - n) (hQz : ∀ i, nth Q i = 0) :
    DlInv la b R Q n (la.length + 1 - n) := by
  refine ⟨hR, fun i => by rw [hRn]; exact hg.get i, fun i hi => by rw [hRn]; exact nth_of_le (by omega), ?_, hQ, fun i => by rw [hQz]; omega, ?_⟩
  · have e : vs R (la.length + 1 - n) n = vs R (la.length + 1 - n) (n - 1) := by
      rw [show n = (n - 1) + 1 by omega, vs_succ, show n - 1 + 1 = n by omega, hRn, nth_of_le (by omega)]
      simp
    have h1 : vs R (la.length + 1 - n) (n - 1) < pw (n - 1) := vs_lt fun i _ => by rw [hRn]; exact hg.get _
    have h2 := hb.pos (by intro e; rw [e] at hbn; simp at hbn; omega)
    rw [hbn] at h2
    omega
  · rw [List.drop_of_length_le (by omega), val_nil]
    have : val R = val la := by
      rw [← vs_all R (k := la.length + 1) (by omega), ← vs_all la (k := la.length + 1) (by omega)]
      exact vs_congr fun i _ => by rw [hRn]
    simp [this]

theorem dl_arith {a p X r q d B t v : Nat} (hX : X = r + d * q) (h : a + p * X + d * (p * B * t) = v) : a + p * r + d * (p * (q + B * t)) = v := by
  rw [← h, hX]
  grind

theorem DlInv.step {la b R Q R' : List Nat} {n x : Nat} (h : DlInv la b R Q n (x + 1)) (hx : x + n < la.length + 1) (hb0 : 0 < val b) (hl : R'.length = R.length) (ho : ∀ i, (i < x ∨ x + n + 1 ≤ i) → nth R' i = nth R i) (hg : ∀ i, i < n → nth R' (x + i) < 1000000000)
    (hz : nth R' (x + n) = 0) (hv : vs R' x n = vs R x (n + 1) % val b) (hq : vs R x (n + 1) / val b < 1000000000) : DlInv la b R' (Q.set x (vs R x (n + 1) / val b)) n x := by
  obtain ⟨g1, g2, g3, g4, g5, g6, g7⟩ := h
  have hnQ : ∀ i, nth (Q.set x (vs R x (n + 1) / val b)) i = if i = x then vs R x (n + 1) / val b else nth Q i := fun i => nth_set (by omega) _ i
  have z' : ∀ i, x + n ≤ i → nth R' i = 0 := fun i hi => by
    rcases Nat.lt_or_eq_of_le hi with h | h
    · rw [ho i (by omega)]
      exact g3 i (by omega)
    · rw [← h]; exact hz
  refine ⟨by omega, fun i => ?_, z', ?_, by simpa using g5, fun i => ?_, ?_⟩
  · by_cases hi : x + n ≤ i
    · rw [z' i hi]; omega
    · by_cases hi2 : i < x
      · rw [ho i (by omega)]; exact g2 i
      · have := hg (i - x) (by omega)
        rwa [show x + (i - x) = i by omega] at this
  · rw [hv]; exact Nat.mod_lt _ hb0
  · rw [hnQ]
    split
    · exact hq
    · exact g6 i
  · have e1 : val R = vs R 0 x + pw x * vs R x (n + 1) := val_split R x (n + 1) (by omega) fun i hi => g3 i (by omega)
    have e2 : val R' = vs R' 0 x + pw x * vs R' x n := val_split R' x n (by omega) z'
    have e3 : vs R' 0 x = vs R 0 x := vs_congr fun i hi => by rw [Nat.zero_add]; exact ho i (by omega)
    have hxQ : x < (Q.set x (vs R x (n + 1) / val b)).length := by simp; omega
    have e4 : val ((Q.set x (vs R x (n + 1) / val b)).drop x) = vs R x (n + 1) / val b + 1000000000 * val (Q.drop (x + 1)) := by
      rw [val_drop_succ _ _ hxQ, hnQ, if_pos rfl]
      congr 2
      rw [← vs_drop _ (x + 1) (k := (la.length + 1)) (by simp; omega), ← vs_drop _ (x + 1) (k := (la.length + 1)) (by omega)]
      exact vs_congr fun i _ => by rw [hnQ, if_neg (by omega)]
    rw [e2, e3, hv, e4]
    rw [e1, pw_succ] at g7
    refine dl_arith ?_ g7
    have := Nat.div_add_mod (vs R x (n + 1)) (val b)
    omega

/-- What a step divides is below the divisor times the base. -/
theorem DlInv.part {la b R Q : List Nat} {n x : Nat} (h : DlInv la b R Q n (x + 1)) : vs R x (n + 1) < val b * 1000000000 := by
  obtain ⟨g1, g2, g3, g4, g5, g6, g7⟩ := h
  have h0 := g2 x
  rw [Nat.add_comm n 1, vs_add, vs_succ, vs_zero, pw_zero, pw_succ, pw_zero]
  simp only [Nat.add_zero, Nat.one_mul, Nat.zero_add]
  omega

theorem DlInv.done {la b R Q : List Nat} {n : Nat} (h : DlInv la b R Q n 0) (hbn : b.length = n) (hna : n ≤ la.length) : val Q = val la / val b ∧ val R = val la % val b := by
  obtain ⟨g1, g2, g3, g4, g5, g6, g7⟩ := h
  have e := val_split R 0 n (by omega) fun i hi => g3 i (by omega)
  rw [vs_zero, pw_zero, Nat.zero_add, Nat.one_mul] at e
  rw [← e] at g4
  rw [List.drop_zero, pw_zero, Nat.one_mul] at g7
  rw [← g7]
  have hb0 : 0 < val b := by omega
  rw [Nat.add_mul_div_left _ _ hb0, Nat.div_eq_of_lt g4, Nat.zero_add, Nat.add_mul_mod_self_left, Nat.mod_eq_of_lt g4]
  exact ⟨rfl, rfl⟩

end Go.Proofs.YtabibkhcdamlhaaDoor

/-
  Plain numbers: products column by column.
-/
namespace Go.Proofs.YtabibkhcdamlhaaDoor.Num

/-- The products of a column k: from index i on, m of them. -/
def col (a b : List Nat) (k i : Nat) : Nat → Nat
  | 0 => 0
  | m + 1 => col a b k i m + nth a (i + m) * nth b (k - (i + m))

/-- A whole column: all indices up to k. -/
def colAll (a b : List Nat) (k : Nat) : Nat := col a b k 0 (k + 1)

theorem col_zero (a b : List Nat) (k i : Nat) : col a b k i 0 = 0 := rfl
theorem col_succ (a b : List Nat) (k i m : Nat) : col a b k i (m + 1) = col a b k i m + nth a (i + m) * nth b (k - (i + m)) := rfl
theorem col_add (a b : List Nat) (k i m p : Nat) : col a b k i (m + p) = col a b k i m + col a b k (i + m) p := by
  induction p with
  | zero => rfl
  | succ p ih => rw [← Nat.add_assoc, col_succ, ih, col_succ]; simp only [Nat.add_assoc]
theorem col_zeros {a b : List Nat} {k i m : Nat} (h : ∀ j, j < m → nth a (i + j) = 0 ∨ nth b (k - (i + j)) = 0) : col a b k i m = 0 := by
  induction m with
  | zero => rfl
  | succ m ih =>
    rw [col_succ, ih fun j hj => h j (by omega)]
    rcases h m (by omega) with e | e <;> simp [e]

/-- The columns that count: i from lo on. -/
theorem colAll_eq {a b : List Nat} {k lo m : Nat} (h1 : ∀ j, j < lo → nth b (k - j) = 0) (h2 : lo + m ≤ k + 1) (h3 : ∀ j, lo + m ≤ j → j ≤ k → nth a j = 0) : colAll a b k = col a b k lo m := by
  unfold colAll
  obtain ⟨p, hp⟩ : ∃ p, k + 1 = lo + m + p := ⟨k + 1 - (lo + m), by omega⟩
  have e1 : col a b k 0 lo = 0 := col_zeros fun j hj => .inr (by rw [Nat.zero_add]; exact h1 j hj)
  have e2 : col a b k (lo + m) p = 0 := col_zeros fun j hj => .inl (h3 _ (by omega) (by omega))
  rw [hp, col_add, col_add]
  simp only [Nat.zero_add]
  rw [e1, e2]
  omega

/-- n columns together. -/
def cols (a b : List Nat) : Nat → Nat
  | 0 => 0
  | n + 1 => cols a b n + pw n * colAll a b n
theorem cols_succ (a b : List Nat) (n : Nat) : cols a b (n + 1) = cols a b n + pw n * colAll a b n := rfl

theorem col_bound {a b : List Nat} (ha : Grp a) (hb : Grp b) (k i m : Nat) : col a b k i m ≤ m * 999999998000000001 := by
  induction m with
  | zero => simp [col]
  | succ m ih =>
    rw [col_succ]
    have h1 : nth a (i + m) ≤ 999999999 := by have := ha.get (i + m); omega
    have h2 : nth b (k - (i + m)) ≤ 999999999 := by have := hb.get (k - (i + m)); omega
    have := Nat.mul_le_mul h1 h2
    omega

theorem colAll_cons (d : Nat) (a b : List Nat) (k : Nat) : colAll (d :: a) b k = d * nth b k + (match k with | 0 => 0 | k + 1 => colAll a b k) := by
  unfold colAll
  rw [Nat.add_comm k 1, col_add]
  have e1 : col (d :: a) b k 0 1 = d * nth b k := by simp [col, nth_zero]
  rw [e1]
  congr 1
  cases k with
  | zero => rfl
  | succ k =>
    have : ∀ m, m ≤ k + 1 → col (d :: a) b (k + 1) (0 + 1) m = col a b k 0 m := by
      intro m hm
      induction m with
      | zero => rfl
      | succ m ih =>
        rw [col_succ, col_succ, ih (by omega), show 0 + 1 + m = m + 1 from by omega, nth_succ, Nat.zero_add, show k + 1 - (m + 1) = k - m from by omega]
    exact this _ (Nat.le_refl _)

theorem colAll_nil (b : List Nat) (k : Nat) : colAll [] b k = 0 := col_zeros fun j _ => .inl (nth_nil _)

theorem cols_cons (d : Nat) (a b : List Nat) (n : Nat) : cols (d :: a) b (n + 1) = d * vs b 0 (n + 1) + 1000000000 * cols a b n := by
  induction n with
  | zero => simp [cols, colAll_cons, vs_succ, vs_zero, pw_zero]
  | succ n ih =>
    rw [cols_succ, ih, colAll_cons, vs_succ b 0 (n + 1), cols_succ, pw_succ]
    simp only [Nat.zero_add]
    grind

/-- All columns together are the product. -/
theorem cols_all (a b : List Nat) : ∀ n, a.length + b.length ≤ n + 1 → cols a b n = val a * val b := by
  induction a with
  | nil =>
    intro n _
    have : ∀ n, cols [] b n = 0 := by
      intro n
      induction n with
      | zero => rfl
      | succ n ih => rw [cols_succ, ih, colAll_nil]; simp
    rw [this, val_nil, Nat.zero_mul]
  | cons d a ih =>
    intro n hn
    cases n with
    | zero =>
      simp at hn
      have hb : b = [] := List.eq_nil_of_length_eq_zero (by omega)
      rw [hb]
      simp [cols, val]
    | succ n =>
      rw [cols_cons, ih n (by simp at hn; omega), vs_all b (by simp at hn; omega), val_cons, Nat.add_mul, Nat.mul_assoc]

/-- One column more. -/
theorem col_step {a b R : List Nat} {k C T : Nat} (hk : k < R.length) (h : vs R 0 k + C * pw k = cols a b k) (hT : T = C + colAll a b k) :
    vs (R.set k (T % 1000000000)) 0 (k + 1) + T / 1000000000 * pw (k + 1) = cols a b (k + 1) := by
  have e1 : vs (R.set k (T % 1000000000)) 0 k = vs R 0 k := vs_congr fun j hj => by rw [nth_set hk, if_neg (by omega)]
  rw [vs_succ, e1, Nat.zero_add, nth_set hk, if_pos rfl, cols_succ, ← h, pw_succ]
  have e2 : T % 1000000000 + T / 1000000000 * 1000000000 = C + colAll a b k := by omega
  have e3 := congrArg (pw k * ·) e2
  simp only [Nat.mul_add] at e3
  grind

/-- The last carry is a group. -/
theorem col_last {a b R : List Nat} {k C : Nat} (ha : Grp a) (hb : Grp b) (hk : a.length + b.length = k + 1) (h : vs R 0 k + C * pw k = cols a b k) :
    C < 1000000000 ∧ vs R 0 k + C * pw k = val a * val b := by
  rw [cols_all a b k (by omega)] at h
  refine ⟨?_, h⟩
  have h1 := val_lt ha
  have h2 := val_lt hb
  have h3 : val a * val b < pw (a.length + b.length) := by
    rw [pw_add]
    exact Nat.mul_lt_mul'' h1 h2
  rw [hk, pw_succ] at h3
  apply Classical.byContradiction
  intro hc
  have h4 : 1000000000 * pw k ≤ C * pw k := Nat.mul_le_mul_right _ (by omega)
  omega

end Go.Proofs.YtabibkhcdamlhaaDoor.Num

/-
  Plain numbers: the quotient that is rounded down, and the remainder.
-/
namespace Go.Proofs.YtabibkhcdamlhaaDoor
open Num

/-- The quotient, rounded down. -/
def dq (x y : Int) : Int := if decide (x < 0) = decide (y < 0) then ((x.natAbs / y.natAbs : Nat) : Int) else if x.natAbs % y.natAbs = 0 then -((x.natAbs / y.natAbs : Nat) : Int) else -((x.natAbs / y.natAbs + 1 : Nat) : Int)
/-- The remainder. -/
def dr (x y : Int) : Int := x - dq x y * y

/-- The parts of what dq and dr say, by the signs and the magnitudes. -/
theorem dr_same {x y : Int} (h : decide (x < 0) = decide (y < 0)) : dr x y = sgnd (decide (y < 0)) (x.natAbs % y.natAbs) := by
  have hm := Nat.div_add_mod x.natAbs y.natAbs
  unfold dr dq
  rw [if_pos h]
  obtain ⟨q, hq⟩ : ∃ q, x.natAbs / y.natAbs = q := ⟨_, rfl⟩
  obtain ⟨r, hr⟩ : ∃ r, x.natAbs % y.natAbs = r := ⟨_, rfl⟩
  rw [hq, hr] at hm
  rw [hq, hr]
  have e : (y.natAbs : Int) * (q : Int) + (r : Int) = (x.natAbs : Int) := by rw [← hm]; simp
  unfold sgnd
  by_cases hy : y < 0
  · have hx : x < 0 := by simpa [hy] using h
    rw [if_pos (by simpa using hy)]
    have e1 : (y.natAbs : Int) = -y := by omega
    have e2 : (x.natAbs : Int) = -x := by omega
    rw [e1, e2] at e
    have e3 : -y * (q : Int) = -((q : Int) * y) := by rw [Int.neg_mul, Int.mul_comm]
    omega
  · have hx : ¬ x < 0 := by simpa [hy] using h
    rw [if_neg (by simpa using hy)]
    have e1 : (y.natAbs : Int) = y := by omega
    have e2 : (x.natAbs : Int) = x := by omega
    rw [e1, e2] at e
    have e3 : y * (q : Int) = (q : Int) * y := Int.mul_comm _ _
    omega
theorem dr_zero {x y : Int} (h : ¬ decide (x < 0) = decide (y < 0)) (h0 : x.natAbs % y.natAbs = 0) : dr x y = 0 := by
  have hm := Nat.div_add_mod x.natAbs y.natAbs
  unfold dr dq
  rw [if_neg h, if_pos h0]
  obtain ⟨q, hq⟩ : ∃ q, x.natAbs / y.natAbs = q := ⟨_, rfl⟩
  rw [hq, h0] at hm
  rw [hq]
  have e : (y.natAbs : Int) * (q : Int) = (x.natAbs : Int) := by rw [← hm]; simp
  by_cases hy : y < 0
  · have hx : ¬ x < 0 := by simpa [hy] using h
    rw [show (y.natAbs : Int) = -y by omega, show (x.natAbs : Int) = x by omega] at e
    have e3 : -y * (q : Int) = -(q : Int) * y := by rw [Int.neg_mul, Int.neg_mul, Int.mul_comm]
    omega
  · have hx : x < 0 := by simpa [hy] using h
    rw [show (y.natAbs : Int) = y by omega, show (x.natAbs : Int) = -x by omega] at e
    have e3 : y * (q : Int) = -(-(q : Int) * y) := by rw [Int.neg_mul, Int.neg_neg, Int.mul_comm]
    omega
theorem dr_diff {x y : Int} (h : ¬ decide (x < 0) = decide (y < 0)) (hy0 : y ≠ 0) (h0 : x.natAbs % y.natAbs ≠ 0) : dr x y = sgnd (decide (y < 0)) (y.natAbs - x.natAbs % y.natAbs) := by
  have hm := Nat.div_add_mod x.natAbs y.natAbs
  have hl := Nat.mod_lt x.natAbs (show 0 < y.natAbs by omega)
  unfold dr dq
  rw [if_neg h, if_neg h0]
  obtain ⟨q, hq⟩ : ∃ q, x.natAbs / y.natAbs = q := ⟨_, rfl⟩
  obtain ⟨r, hr⟩ : ∃ r, x.natAbs % y.natAbs = r := ⟨_, rfl⟩
  rw [hq, hr] at hm
  rw [hr] at hl
  rw [hq, hr]
  have e : (y.natAbs : Int) * (q : Int) + (r : Int) = (x.natAbs : Int) := by rw [← hm]; simp
  unfold sgnd
  by_cases hy : y < 0
  · have hx : ¬ x < 0 := by simpa [hy] using h
    rw [if_pos (by simpa using hy)]
    rw [show (y.natAbs : Int) = -y by omega, show (x.natAbs : Int) = x by omega] at e
    have e3 : -((q + 1 : Nat) : Int) * y = -y * (q : Int) - y := by
      rw [Int.neg_mul, Int.neg_mul, Int.natCast_add, Int.add_mul, Int.mul_comm (q : Int) y]
      omega
    rw [e3]
    omega
  · have hx : x < 0 := by simpa [hy] using h
    rw [if_neg (by simpa using hy)]
    rw [show (y.natAbs : Int) = y by omega, show (x.natAbs : Int) = -x by omega] at e
    have e3 : -((q + 1 : Nat) : Int) * y = -(y * (q : Int)) - y := by
      rw [Int.neg_mul, Int.natCast_add, Int.add_mul, Int.mul_comm (q : Int) y]
      omega
    rw [e3]
    omega

/-- The remainder is 0 or has the divisor's sign, and a lesser magnitude. -/
theorem dr_sign {x y : Int} (hy : y ≠ 0) : (dr x y = 0 ∨ (dr x y).sign = y.sign) ∧ (dr x y).natAbs < y.natAbs := by
  have hl := Nat.mod_lt x.natAbs (show 0 < y.natAbs by omega)
  have key : ∀ r : Nat, r < y.natAbs → ((sgnd (decide (y < 0)) r) = 0 ∨ (sgnd (decide (y < 0)) r).sign = y.sign) ∧ (sgnd (decide (y < 0)) r).natAbs < y.natAbs := by
    intro r hr
    rw [sgnd_natAbs]
    refine ⟨?_, hr⟩
    unfold sgnd
    by_cases h0 : r = 0
    · left; subst h0; split <;> rfl
    · right
      by_cases hn : y < 0
      · rw [if_pos (by simpa using hn), Int.sign_eq_neg_one_of_neg hn, Int.sign_eq_neg_one_of_neg (by omega)]
      · rw [if_neg (by simpa using hn), Int.sign_eq_one_of_pos (by omega), Int.sign_eq_one_of_pos (by omega)]
  by_cases h : decide (x < 0) = decide (y < 0)
  · rw [dr_same h]; exact key _ hl
  · by_cases h0 : x.natAbs % y.natAbs = 0
    · rw [dr_zero h h0]; exact ⟨.inl rfl, by omega⟩
    · rw [dr_diff h hy h0]; exact key _ (by omega)

end Go.Proofs.YtabibkhcdamlhaaDoor

/-
  Plain numbers: square roots rounded down, and steps of Newton's method. Imports nothing of the translation.
-/
namespace Go.Proofs.YtabibkhcdamlhaaDoor
open Num

/-- The greatest number whose square is at most m. -/
def isq : Nat → Nat
  | 0 => 0
  | m + 1 => if (isq m + 1) * (isq m + 1) ≤ m + 1 then isq m + 1 else isq m

theorem sq_succ (s : Nat) : (s + 1) * (s + 1) = s * s + 2 * s + 1 := by
  rw [Nat.add_mul, Nat.mul_add]
  omega

theorem isq_spec (m : Nat) : isq m * isq m ≤ m ∧ m < (isq m + 1) * (isq m + 1) := by
  induction m with
  | zero => simp [isq]
  | succ m ih =>
    obtain ⟨h1, h2⟩ := ih
    rw [isq]
    split
    · rename_i h
      refine ⟨h, ?_⟩
      rw [sq_succ (isq m + 1)]
      omega
    · exact ⟨by omega, by omega⟩

theorem isq_uniq {m s : Nat} (h1 : s * s ≤ m) (h2 : m < (s + 1) * (s + 1)) : isq m = s := by
  obtain ⟨h3, h4⟩ := isq_spec m
  rcases Nat.lt_trichotomy (isq m) s with h | h | h
  · have := Nat.mul_le_mul (show isq m + 1 ≤ s from h) (show isq m + 1 ≤ s from h)
    omega
  · exact h
  · have := Nat.mul_le_mul (show s + 1 ≤ isq m from h) (show s + 1 ≤ isq m from h)
    omega

theorem isq_le (m : Nat) : isq m ≤ m := by
  obtain ⟨h, -⟩ := isq_spec m
  rcases Nat.eq_zero_or_pos (isq m) with h0 | h0
  · omega
  · exact Nat.le_trans (Nat.le_mul_of_pos_right _ h0) h

theorem isq_zero : isq 0 = 0 := rfl

/-- Twice the product is at most the square of the sum. -/
theorem amgm {a b c : Nat} (h : a + b ≤ 2 * c) : a * b ≤ c * c := by
  rcases Nat.le_total a b with hab | hab
  · obtain ⟨d, rfl⟩ := Nat.exists_eq_add_of_le hab
    have h1 : a * (a + d) = a * a + a * d := Nat.mul_add ..
    obtain ⟨e, he⟩ : ∃ e, c = a + e := Nat.exists_eq_add_of_le (by omega)
    subst he
    have h2 : (a + e) * (a + e) = a * a + a * (2 * e) + e * e := by
      rw [Nat.add_mul, Nat.mul_add, Nat.mul_add, Nat.mul_comm e a]
      have : a * (2 * e) = a * e + a * e := by rw [Nat.two_mul, Nat.mul_add]
      omega
    have h3 : a * d ≤ a * (2 * e) := Nat.mul_le_mul_left _ (by omega)
    omega
  · obtain ⟨d, rfl⟩ := Nat.exists_eq_add_of_le hab
    have h1 : (b + d) * b = b * b + b * d := by rw [Nat.add_mul, Nat.mul_comm d b]
    obtain ⟨e, he⟩ : ∃ e, c = b + e := Nat.exists_eq_add_of_le (by omega)
    subst he
    have h2 : (b + e) * (b + e) = b * b + b * (2 * e) + e * e := by
      rw [Nat.add_mul, Nat.mul_add, Nat.mul_add, Nat.mul_comm e b]
      have : b * (2 * e) = b * e + b * e := by rw [Nat.two_mul, Nat.mul_add]
      omega
    have h3 : b * d ≤ b * (2 * e) := Nat.mul_le_mul_left _ (by omega)
    omega

/-- Behind a step of Newton's method the square of the successor is above the number. -/
theorem newton_above {x n : Nat} (hx : 0 < x) : n < ((x + n / x) / 2 + 1) * ((x + n / x) / 2 + 1) := by
  have h1 : n < x * (n / x + 1) := Nat.lt_mul_div_succ n hx
  have h2 : x * (n / x + 1) ≤ ((x + n / x) / 2 + 1) * ((x + n / x) / 2 + 1) := amgm (by omega)
  omega

/-- Where a step does not lead down, the square is at most the number. -/
theorem newton_stop {x n : Nat} (hx : 0 < x) (h : x ≤ (x + n / x) / 2) : x * x ≤ n :=
  (Nat.le_div_iff_mul_le hx).1 (by omega)

/-- The quotient is not far above. -/
theorem newton_quot {x n : Nat} (hx : 0 < x) (h : n < (x + 1) * (x + 1)) : n / x ≤ x + 2 := by
  have h1 := sq_succ x
  have h2 : x * (x + 2) = x * x + 2 * x := by rw [Nat.mul_add, Nat.mul_comm x 2]
  have h3 : n < x * (x + 3) := by
    have : x * (x + 3) = x * x + 3 * x := by rw [Nat.mul_add, Nat.mul_comm x 3]
    omega
  have := (Nat.div_lt_iff_lt_mul hx).2 (by rw [Nat.mul_comm]; exact h3)
  omega

theorem newton_pos {x n : Nat} (hn : 0 < n) (h : n < (x + 1) * (x + 1)) : 0 < x := by
  rcases Nat.eq_zero_or_pos x with h0 | h0
  · subst h0
    omega
  · exact h0

/-- The root of a beginning, increased by one, is the beginning of a number above the root. -/
theorem isq_start {m B : Nat} (hB : 0 < B) : m < ((isq (m / (B * B)) + 1) * B) * ((isq (m / (B * B)) + 1) * B) := by
  obtain ⟨-, h⟩ := isq_spec (m / (B * B))
  have hBB : 0 < B * B := Nat.mul_pos hB hB
  have h1 := Nat.lt_mul_div_succ m hBB
  have h2 : B * B * (m / (B * B) + 1) ≤ B * B * ((isq (m / (B * B)) + 1) * (isq (m / (B * B)) + 1)) := Nat.mul_le_mul_left _ h
  have h3 : B * B * ((isq (m / (B * B)) + 1) * (isq (m / (B * B)) + 1)) = ((isq (m / (B * B)) + 1) * B) * ((isq (m / (B * B)) + 1) * B) := by
    generalize isq (m / (B * B)) + 1 = s
    rw [Nat.mul_comm (B * B), Nat.mul_mul_mul_comm]
  omega

end Go.Proofs.YtabibkhcdamlhaaDoor
