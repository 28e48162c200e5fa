/-
  Corners: the offset of three numbers, lists of corners, scores: pure functions.
-/
import Derived.Test.YtnnaojaadjafbaaRaMem
set_option linter.unusedSimpArgs false
set_option linter.unusedVariables false
namespace Go.Proofs.Ytnnaojaadjafbaa

/-- A quotient rounded down, as the program does it. -/
def fdv (a b : Int) : Int := if a.tmod b < 0 then a.tdiv b - 1 else a.tdiv b
theorem fdv_eq (a b : Int) (hb : 0 < b) : fdv a b = a / b := by
  unfold fdv
  have e1 := Int.mul_tdiv_add_tmod a b
  have h2 : a.tmod b < b := Int.tmod_lt_of_pos a hb
  have h3 : -b < a.tmod b := by
    rcases Int.le_total 0 a with h | h
    · have := Int.tmod_nonneg b h; omega
    · have h4 := Int.tmod_lt_of_pos (-a) hb
      rw [Int.neg_tmod] at h4
      omega
  split
  · exact ((Int.ediv_emod_unique (r := a.tmod b + b) hb).2 ⟨by rw [Int.mul_sub]; omega, by omega, by omega⟩).1.symm
  · exact ((Int.ediv_emod_unique (r := a.tmod b) hb).2 ⟨by omega, by omega, by omega⟩).1.symm

/-- The offset of three numbers. -/
def off (b a c : Int) : Int :=
  if 0 ≤ b - 2 * a + c then 0
  else
    let q := fdv (64 * (c - b) - (b - 2 * a + c)) (-2 * (b - 2 * a + c))
    if 32 < q then 32 else if q < -32 then -32 else q

/-- Is a number one that Offset takes? -/
def num54 (n : Int) : Bool := win54 n
where win54 (n : Int) : Bool := decide (-18014398509481984 ≤ n) && decide (n ≤ 18014398509481984)
theorem num54_iff {n : Int} : num54 n = true ↔ -18014398509481984 ≤ n ∧ n ≤ 18014398509481984 := by simp [num54, num54.win54]

theorem off_range (b a c : Int) : -32 ≤ off b a c ∧ off b a c ≤ 32 := by
  unfold off
  split
  · omega
  · simp only
    split
    · omega
    · split <;> omega
/-- Mirrored, up to the rounding of halves. -/
theorem off_mirror (b a c : Int) : off c a b = - off b a c ∨ off c a b = 1 - off b a c := by
  unfold off
  by_cases h : 0 ≤ b - 2 * a + c
  · rw [if_pos h, if_pos (by omega)]; exact Or.inl rfl
  · rw [if_neg h, if_neg (by omega)]
    simp only
    rw [fdv_eq _ _ (by omega), fdv_eq _ _ (by omega)]
    obtain ⟨d, hd⟩ : ∃ d, -(b - 2 * a + c) = d := ⟨_, rfl⟩
    obtain ⟨x, hx⟩ : ∃ x, 64 * (c - b) = x := ⟨_, rfl⟩
    have e1 : 64 * (c - b) - (b - 2 * a + c) = x + d := by omega
    have e2 : 64 * (b - c) - (c - 2 * a + b) = d - x := by omega
    have e3 : -2 * (b - 2 * a + c) = 2 * d := by omega
    have e4 : -2 * (c - 2 * a + b) = 2 * d := by omega
    rw [e1, e2, e3, e4]
    have hd0 : 0 < d := by omega
    obtain ⟨q, hq⟩ : ∃ q, (x + d) / (2 * d) = q := ⟨_, rfl⟩
    obtain ⟨k, hk⟩ : ∃ k, (d - x) / (2 * d) = k := ⟨_, rfl⟩
    have q1 := Int.mul_ediv_add_emod (x + d) (2 * d)
    have q2 := Int.emod_nonneg (x + d) (show 2 * d ≠ 0 by omega)
    have q3 := Int.emod_lt_of_pos (x + d) (show 0 < 2 * d by omega)
    have k1 := Int.mul_ediv_add_emod (d - x) (2 * d)
    have k2 := Int.emod_nonneg (d - x) (show 2 * d ≠ 0 by omega)
    have k3 := Int.emod_lt_of_pos (d - x) (show 0 < 2 * d by omega)
    rw [hq] at q1
    rw [hk] at k1
    rw [hq, hk]
    have hs : k = -q ∨ k = 1 - q := by
      -- 2 d (q + k) + rests = 2 d
      have e : 2 * d * (q + k) + ((x + d) % (2 * d) + (d - x) % (2 * d)) = 2 * d := by rw [Int.mul_add]; omega
      have l1 : q + k < 2 := by
        refine Int.lt_of_mul_lt_mul_left (a := 2 * d) ?_ (by omega)
        omega
      have l2 : -1 < q + k := by
        refine Int.lt_of_mul_lt_mul_left (a := 2 * d) ?_ (by omega)
        omega
      omega
    clear q1 q2 q3 k1 k2 k3 hq hk e1 e2 e3 e4
    split <;> split <;> (try split) <;> (try split) <;> omega

/-- A corner. -/
abbrev Cor := Int × Int × Int
def corAt (l : List Cor) (i : Nat) : Cor := l.getD i (0, 0, 0)
theorem corAt_eq {l : List Cor} {i : Nat} (h : i < l.length) : corAt l i = l[i] := by simp [corAt, List.getD, List.getElem?_eq_getElem h]
/-- Are two corners within a radius? -/
def nearB (r : Int) (a b : Cor) : Bool := decide ((a.1 - b.1) * (a.1 - b.1) + (a.2.1 - b.2.1) * (a.2.1 - b.2.1) ≤ r * r)
theorem nearB_comm (r : Int) (a b : Cor) : nearB r a b = nearB r b a := by
  unfold nearB
  rw [← Int.neg_sub b.1 a.1, ← Int.neg_sub b.2.1 a.2.1, Int.neg_mul_neg, Int.neg_mul_neg]
def thinS (r : Int) (kept : List Cor) (c : Cor) : List Cor := if kept.any (nearB r c) then kept else kept ++ [c]
/-- The corners that are kept. -/
def thinF (r : Int) (l : List Cor) : List Cor := l.foldl (thinS r) []
theorem thinF_take {r : Int} {l : List Cor} {k : Nat} (h : k < l.length) : thinF r (l.take (k + 1)) = thinS r (thinF r (l.take k)) (corAt l k) := by
  unfold thinF
  rw [List.take_add_one, List.foldl_append, List.getElem?_eq_getElem h, corAt_eq h]
  rfl

theorem thinF_snoc (r : Int) (l : List Cor) (c : Cor) : thinF r (l ++ [c]) = thinS r (thinF r l) c := by simp [thinF]
theorem snoc_indC {Q : List Cor → Prop} (h0 : Q []) (h : ∀ ys y, Q ys → Q (ys ++ [y])) : ∀ ys, Q ys := fun ys => by
  have : ∀ l : List Cor, Q l.reverse := fun l => by
    induction l with
    | nil => exact h0
    | cons x l ih => rw [List.reverse_cons]; exact h _ _ ih
  simpa using this ys.reverse

theorem thinF_sub (r : Int) : ∀ l : List Cor, ∀ c ∈ thinF r l, c ∈ l := by
  refine snoc_indC (by simp [thinF]) fun l x ih c hc => ?_
  rw [thinF_snoc] at hc
  unfold thinS at hc
  rw [List.mem_append, List.mem_singleton]
  split at hc
  · exact Or.inl (ih c hc)
  · rw [List.mem_append, List.mem_singleton] at hc
    exact hc.imp (ih c) id
theorem thinF_length (r : Int) : ∀ l : List Cor, (thinF r l).length ≤ l.length := by
  refine snoc_indC (by simp [thinF]) fun l x ih => ?_
  rw [thinF_snoc]
  unfold thinS
  rw [List.length_append]
  split
  · simp; omega
  · simp; omega
/-- No two are within the radius. -/
def Apart (r : Int) (l : List Cor) : Prop := ∀ i j, j < i → i < l.length → nearB r (corAt l i) (corAt l j) = false
theorem Apart.snoc {r : Int} {l : List Cor} {c : Cor} (h : Apart r l) (hc : l.any (nearB r c) = false) : Apart r (l ++ [c]) := by
  intro i j hji hi
  rw [List.length_append, List.length_singleton] at hi
  by_cases e : i = l.length
  · subst e
    have h1 : corAt (l ++ [c]) l.length = c := by simp [corAt, List.getD]
    have h2 : corAt (l ++ [c]) j = l[j] := by simp [corAt, List.getD, List.getElem?_append_left hji, List.getElem?_eq_getElem hji]
    rw [h1, h2]
    have := List.any_eq_false.1 hc l[j] (List.getElem_mem _)
    simpa using this
  · have h1 : corAt (l ++ [c]) i = corAt l i := by simp [corAt, List.getD, List.getElem?_append_left (show i < l.length by omega)]
    have h2 : corAt (l ++ [c]) j = corAt l j := by simp [corAt, List.getD, List.getElem?_append_left (show j < l.length by omega)]
    rw [h1, h2]
    exact h i j hji (by omega)
theorem thinF_apart (r : Int) : ∀ l : List Cor, Apart r (thinF r l) := by
  refine snoc_indC (fun i j _ h => by simp [thinF] at h) fun l x ih => ?_
  rw [thinF_snoc]
  unfold thinS
  split
  · exact ih
  · rename_i h
    exact ih.snoc (by simpa using h)
/-- Each one is kept, or near one that is kept. -/
theorem thinF_all (r : Int) : ∀ l : List Cor, ∀ c ∈ l, c ∈ thinF r l ∨ (thinF r l).any (nearB r c) = true := by
  refine snoc_indC (by simp) fun l x ih c hc => ?_
  rw [thinF_snoc]
  unfold thinS
  rw [List.mem_append, List.mem_singleton] at hc
  split
  · rename_i h
    rcases hc with hc | rfl
    · exact ih c hc
    · exact Or.inr h
  · rcases hc with hc | rfl
    · rcases ih c hc with h1 | h1
      · exact Or.inl (List.mem_append_left _ h1)
      · exact Or.inr (by rw [List.any_append, h1]; rfl)
    · exact Or.inl (by simp)
/-- Thinning what is apart changes nothing. -/
theorem thinF_id (r : Int) : ∀ l : List Cor, Apart r l → thinF r l = l := by
  refine snoc_indC (fun _ => rfl) fun l x ih h => ?_
  have h1 : Apart r l := fun i j hji hi => by
    have := h i j hji (by rw [List.length_append]; omega)
    have e1 : corAt (l ++ [x]) i = corAt l i := by simp [corAt, List.getD, List.getElem?_append_left hi]
    have e2 : corAt (l ++ [x]) j = corAt l j := by simp [corAt, List.getD, List.getElem?_append_left (show j < l.length by omega)]
    rwa [e1, e2] at this
  rw [thinF_snoc, ih h1]
  unfold thinS
  have : l.any (nearB r x) = false := by
    rw [List.any_eq_false]
    intro c hc
    obtain ⟨j, hj, rfl⟩ := List.mem_iff_getElem.1 hc
    have := h l.length j hj (by simp)
    have e1 : corAt (l ++ [x]) l.length = x := by simp [corAt, List.getD]
    have e2 : corAt (l ++ [x]) j = l[j] := by simp [corAt, List.getD, List.getElem?_append_left hj, List.getElem?_eq_getElem hj]
    rw [e1, e2] at this
    simp [this]
  rw [this]
  rfl

end Go.Proofs.Ytnnaojaadjafbaa
