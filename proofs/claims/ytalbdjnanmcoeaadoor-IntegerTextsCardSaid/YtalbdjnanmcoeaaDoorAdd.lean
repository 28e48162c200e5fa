/-
  Plain numbers: sums and differences group by group, with carries.
-/
import Derived.Test.YtalbdjnanmcoeaaDoorNum
namespace Go.Proofs.YtalbdjnanmcoeaaDoor.Num

/-- What k groups from place off on are worth. -/
def vs (l : List Nat) (off k : Nat) : Nat := val ((l.drop off).take k)

theorem vs_zero (l : List Nat) (off : Nat) : vs l off 0 = 0 := by simp [vs, val]
theorem vs_succ (l : List Nat) (off k : Nat) : vs l off (k + 1) = vs l off k + pw k * nth l (off + k) := by
  unfold vs
  rw [val_take_succ', nth_drop]
theorem vs_congr {a b : List Nat} {o p k : Nat} (h : ∀ j, j < k → nth a (o + j) = nth b (p + j)) : vs a o k = vs b p k := by
  induction k with
  | zero => rw [vs_zero, vs_zero]
  | succ k ih => rw [vs_succ, vs_succ, ih fun j hj => h j (by omega), h k (by omega)]
theorem vs_take (l : List Nat) (k : Nat) : vs l 0 k = val (l.take k) := by simp [vs]
theorem vs_all (l : List Nat) {k : Nat} (h : l.length ≤ k) : vs l 0 k = val l := by rw [vs_take, List.take_of_length_le h]
theorem vs_drop (l : List Nat) (off : Nat) {k : Nat} (h : l.length ≤ off + k) : vs l off k = val (l.drop off) := by
  unfold vs; rw [List.take_of_length_le (by rw [List.length_drop]; omega)]
theorem vs_lt {l : List Nat} {off k : Nat} (h : ∀ j, j < k → nth l (off + j) < 1000000000) : vs l off k < pw k := by
  induction k with
  | zero => rw [vs_zero, pw_zero]; omega
  | succ k ih =>
    have h1 := ih fun j hj => h j (by omega)
    have h2 := h k (by omega)
    rw [vs_succ, pw_succ]
    have : pw k * nth l (off + k) ≤ pw k * 999999999 := Nat.mul_le_mul_left _ (by omega)
    omega
theorem vs_add (l : List Nat) (off a b : Nat) : vs l off (a + b) = vs l off a + pw a * vs l (off + a) b := by
  induction b with
  | zero => simp [vs_zero]
  | succ b ih =>
    rw [← Nat.add_assoc, vs_succ, ih, vs_succ, Nat.mul_add, ← Nat.mul_assoc, ← pw_add]
    simp only [Nat.add_assoc]
theorem vs_zeros {l : List Nat} {off k : Nat} (h : ∀ j, j < k → nth l (off + j) = 0) : vs l off k = 0 := by
  induction k with
  | zero => exact vs_zero _ _
  | succ k ih => rw [vs_succ, ih fun j hj => h j (by omega), h k (by omega)]; simp

/-- k groups of L from off on have become those of the sum with b; c: the carry. -/
def AddInv (off : Nat) (b L L' : List Nat) (k c : Nat) : Prop :=
  L'.length = L.length ∧ (∀ j, (j < off ∨ off + k ≤ j) → nth L' j = nth L j) ∧ (∀ j, j < k → nth L' (off + j) < 1000000000) ∧ c ≤ 1 ∧
    vs L' off k + c * pw k = vs L off k + vs b 0 k

theorem AddInv.start (off : Nat) (b L : List Nat) : AddInv off b L L 0 0 := ⟨rfl, fun _ _ => rfl, fun j h => absurd h (by omega), by omega, by simp [vs_zero]⟩

theorem AddInv.step {off : Nat} {b L L' : List Nat} {k c r d : Nat} (h : AddInv off b L L' k c) (hk : off + k < L.length) (hr : r < 1000000000) (hd : d ≤ 1)
    (hs : r + d * 1000000000 = nth L (off + k) + nth b k + c) : AddInv off b L (L'.set (off + k) r) (k + 1) d := by
  obtain ⟨h1, h2, h3, h4, h5⟩ := h
  have hn : ∀ j, nth (L'.set (off + k) r) j = if j = off + k then r else nth L' j := fun j => nth_set (by omega) r j
  refine ⟨by simp [h1], fun j hj => ?_, fun j hj => ?_, hd, ?_⟩
  · rw [hn, if_neg (by omega)]; exact h2 j (by omega)
  · rw [hn]; split
    · exact hr
    · exact h3 j (by omega)
  · have e1 : vs (L'.set (off + k) r) off k = vs L' off k := vs_congr fun j hj => by rw [hn, if_neg (by omega)]
    rw [vs_succ, vs_succ, vs_succ, e1, hn, if_pos rfl, Nat.zero_add, pw_succ]
    have := congrArg (pw k * ·) hs
    simp only [Nat.mul_add] at this
    grind

/-- Where nothing is carried and b has ended, the rest stays. -/
theorem AddInv.done {off : Nat} {b L L' : List Nat} {k n : Nat} (h : AddInv off b L L' k 0) (hb : b.length ≤ k) (hk : k ≤ n) (hL : ∀ j, j < n → nth L (off + j) < 1000000000) : AddInv off b L L' n 0 := by
  obtain ⟨h1, h2, h3, h4, h5⟩ := h
  refine ⟨h1, fun j hj => h2 j (by omega), fun j hj => ?_, by omega, ?_⟩
  · by_cases hjk : j < k
    · exact h3 j hjk
    · rw [h2 _ (by omega)]; exact hL j hj
  · obtain ⟨m, rfl⟩ : ∃ m, n = k + m := ⟨n - k, by omega⟩
    rw [vs_add, vs_add L, vs_all b hb] at *
    rw [vs_all b (by omega)]
    have : vs L' (off + k) m = vs L (off + k) m := vs_congr fun j hj => h2 _ (by omega)
    rw [this]
    omega

/-- k groups of L from off on have become those of the difference with b; c: the borrow. -/
def SubInv (off : Nat) (b L L' : List Nat) (k c : Nat) : Prop :=
  L'.length = L.length ∧ (∀ j, (j < off ∨ off + k ≤ j) → nth L' j = nth L j) ∧ (∀ j, j < k → nth L' (off + j) < 1000000000) ∧ c ≤ 1 ∧
    vs L' off k + vs b 0 k = vs L off k + c * pw k

theorem SubInv.start (off : Nat) (b L : List Nat) : SubInv off b L L 0 0 := ⟨rfl, fun _ _ => rfl, fun j h => absurd h (by omega), by omega, by simp [vs_zero]⟩

theorem SubInv.step {off : Nat} {b L L' : List Nat} {k c r d : Nat} (h : SubInv off b L L' k c) (hk : off + k < L.length) (hr : r < 1000000000) (hd : d ≤ 1)
    (hs : r + nth b k + c = nth L (off + k) + d * 1000000000) : SubInv off b L (L'.set (off + k) r) (k + 1) d := by
  obtain ⟨h1, h2, h3, h4, h5⟩ := h
  have hn : ∀ j, nth (L'.set (off + k) r) j = if j = off + k then r else nth L' j := fun j => nth_set (by omega) r j
  refine ⟨by simp [h1], fun j hj => ?_, fun j hj => ?_, hd, ?_⟩
  · rw [hn, if_neg (by omega)]; exact h2 j (by omega)
  · rw [hn]; split
    · exact hr
    · exact h3 j (by omega)
  · have e1 : vs (L'.set (off + k) r) off k = vs L' off k := vs_congr fun j hj => by rw [hn, if_neg (by omega)]
    rw [vs_succ, vs_succ, vs_succ, e1, hn, if_pos rfl, Nat.zero_add, pw_succ]
    have := congrArg (pw k * ·) hs
    simp only [Nat.mul_add] at this
    grind

theorem SubInv.done {off : Nat} {b L L' : List Nat} {k n : Nat} (h : SubInv off b L L' k 0) (hb : b.length ≤ k) (hk : k ≤ n) (hL : ∀ j, j < n → nth L (off + j) < 1000000000) : SubInv off b L L' n 0 := by
  obtain ⟨h1, h2, h3, h4, h5⟩ := h
  refine ⟨h1, fun j hj => h2 j (by omega), fun j hj => ?_, by omega, ?_⟩
  · by_cases hjk : j < k
    · exact h3 j hjk
    · rw [h2 _ (by omega)]; exact hL j hj
  · obtain ⟨m, rfl⟩ : ∃ m, n = k + m := ⟨n - k, by omega⟩
    rw [vs_add, vs_add L, vs_all b hb] at *
    rw [vs_all b (by omega)]
    have : vs L' (off + k) m = vs L (off + k) m := vs_congr fun j hj => h2 _ (by omega)
    rw [this]
    omega

end Go.Proofs.YtalbdjnanmcoeaaDoor.Num
