/-
  Rows of a written multiplication.
-/
import Derived.Test.YtfhhilnebaodoaaDoorC
namespace Go.Proofs.YtfhhilnebaodoaaDoor
open Num

theorem val_set (l : List Nat) (i x : Nat) (h : i < l.length) : val (l.set i x) + pw i * nth l i = val l + pw i * x := by
  have e1 : (l.set i x).take i = l.take i := by rw [List.take_set_of_le (Nat.le_refl _)]
  have e2 : (l.set i x).drop (i + 1) = l.drop (i + 1) := by rw [List.drop_set_of_lt (by omega)]
  rw [val_take_drop (l.set i x) i (by rw [List.length_set]; omega), val_drop_succ (l.set i x) i (by rw [List.length_set]; exact h), e1, e2, nth_set h, if_pos rfl,
    val_take_drop l i (by omega), val_drop_succ l i h]
  simp only [Nat.mul_add]
  omega

theorem grp_of_get {l : List Nat} (h : ∀ m, nth l m < 1000000000) : Grp l := fun x hx => by
  obtain ⟨i, hi, rfl⟩ := List.getElem_of_mem hx
  have := h i
  rwa [nth_eq hi] at this

/-- The rows before i are over. -/
def MO (la lb R : List Nat) (i : Nat) : Prop := (∀ m, nth R m < 1000000000) ∧ (∀ m, i + lb.length ≤ m → nth R m = 0) ∧ val R = vs la 0 i * val lb

/-- Of row i the columns before j are over. -/
def MR (la lb R R' : List Nat) (i j C : Nat) : Prop := R'.length = R.length ∧ (∀ m, nth R' m < 1000000000) ∧ (∀ m, i + j ≤ m → nth R' m = nth R m) ∧ C ≤ 999999999 ∧
  val R' + C * pw (i + j) = val R + pw i * (nth la i * vs lb 0 j)

theorem MO.zero (la lb : List Nat) (N : Nat) : MO la lb (zeros N) 0 := by
  refine ⟨fun m => ?_, fun m _ => ?_, ?_⟩
  · rw [nth_zeros]; omega
  · rw [nth_zeros]
  · rw [vs_zero, Nat.zero_mul]; exact val_zeros (fun j _ => nth_zeros _ _)

theorem MR.zero {la lb R : List Nat} {i : Nat} (h : ∀ m, nth R m < 1000000000) : MR la lb R R i 0 0 := by
  refine ⟨rfl, h, fun _ _ => rfl, by omega, ?_⟩
  rw [vs_zero]; simp

theorem MR.step {la lb R R' : List Nat} {i j C s : Nat} (h : MR la lb R R' i j C) (hl : i + j < R.length) (hs : s = nth R' (i + j) + nth la i * nth lb j + C) (ha : nth la i < 1000000000) (hb : nth lb j < 1000000000) :
    MR la lb R (R'.set (i + j) (s % 1000000000)) i (j + 1) (s / 1000000000) := by
  obtain ⟨h1, h2, h3, h4, h5⟩ := h
  have hr := h2 (i + j)
  have hp : nth la i * nth lb j ≤ 999999999 * 999999999 := Nat.mul_le_mul (by omega) (by omega)
  refine ⟨by rw [List.length_set, h1], fun m => ?_, fun m hm => ?_, by omega, ?_⟩
  · rw [nth_set (by omega)]
    split
    · omega
    · exact h2 m
  · rw [nth_set (by omega), if_neg (by omega)]
    exact h3 m (by omega)
  · have e1 := val_set R' (i + j) (s % 1000000000) (by omega)
    have e2 : s % 1000000000 + s / 1000000000 * 1000000000 = nth R' (i + j) + nth la i * nth lb j + C := by omega
    have e3 := congrArg (pw (i + j) * ·) e2
    simp only [Nat.mul_add] at e3
    have e4 : pw (i + j) = pw i * pw j := pw_add i j
    rw [vs_succ, Nat.zero_add, ← Nat.add_assoc i j 1, pw_succ]
    have e5 : pw i * (nth la i * (vs lb 0 j + pw j * nth lb j)) = pw i * (nth la i * vs lb 0 j) + pw (i + j) * (nth la i * nth lb j) := by
      rw [e4]; grind
    rw [e5]
    grind

theorem MO.step {la lb R R' : List Nat} {i C : Nat} (h : MO la lb R i) (hr : MR la lb R R' i lb.length C) (hl : i + lb.length < R.length) : MO la lb (R'.set (i + lb.length) C) (i + 1) := by
  obtain ⟨h1, h2, h3⟩ := h
  obtain ⟨r1, r2, r3, r4, r5⟩ := hr
  refine ⟨fun m => ?_, fun m hm => ?_, ?_⟩
  · rw [nth_set (by omega)]
    split
    · omega
    · exact r2 m
  · rw [nth_set (by omega), if_neg (by omega), r3 m (by omega)]
    exact h2 m (by omega)
  · have e1 := val_set R' (i + lb.length) C (by omega)
    rw [r3 _ (Nat.le_refl _), h2 _ (Nat.le_refl _), Nat.mul_zero, Nat.add_zero] at e1
    rw [vs_succ, Nat.zero_add, e1, Nat.mul_comm (pw _) C, r5, h3, vs_all lb (Nat.le_refl _)]
    grind

end Go.Proofs.YtfhhilnebaodoaaDoor
