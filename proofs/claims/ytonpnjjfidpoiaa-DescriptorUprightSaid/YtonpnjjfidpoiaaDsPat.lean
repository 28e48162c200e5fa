/-
  Patterns: boxes, tests, their slices; words of bits (pure).
-/
import Derived.Test.YtonpnjjfidpoiaaDsMem
import Derived.Test.YtonpnjjfidpoiaaDsRp
set_option linter.unusedSimpArgs false
set_option linter.unusedVariables false
namespace Go.Proofs.Ytonpnjjfidpoiaa
open Go.RowKit

/-- A box: the corner, the width and the height. -/
abbrev Bx := Int × Int × Int × Int
abbrev Tst := Bx × Bx
def bxv (b : Bx) : Value := .agg #[.int .i64 b.1, .int .i64 b.2.1, .int .i64 b.2.2.1, .int .i64 b.2.2.2]
def bcs (b : Bx) : List Value := [.int .i64 b.1, .int .i64 b.2.1, .int .i64 b.2.2.1, .int .i64 b.2.2.2]
def tstAt (l : List Tst) (i : Nat) : Tst := l.getD i ((0, 0, 0, 0), 0, 0, 0, 0)
theorem tstAt_eq {l : List Tst} {i : Nat} (h : i < l.length) : tstAt l i = l[i] := by simp [tstAt, List.getD, List.getElem?_eq_getElem h]
theorem tstAt_mem {l : List Tst} {i : Nat} (h : i < l.length) : tstAt l i ∈ l := by rw [tstAt_eq h]; exact List.getElem_mem h
def tcs (t : Tst) : List Value := [.int .i64 t.1.1, .int .i64 t.1.2.1, .int .i64 t.1.2.2.1, .int .i64 t.1.2.2.2, .int .i64 t.2.1, .int .i64 t.2.2.1, .int .i64 t.2.2.2.1, .int .i64 t.2.2.2.2]
def pcells (l : List Tst) : List Value := l.flatMap tcs
theorem pcells_length : ∀ l : List Tst, (pcells l).length = l.length * 8
  | [] => rfl
  | c :: l => by
    have := pcells_length l
    simp only [pcells, tcs, List.flatMap_cons, List.length_append, List.length_cons, List.length_nil] at this ⊢
    omega
theorem pcells_append (a b : List Tst) : pcells (a ++ b) = pcells a ++ pcells b := by simp [pcells]
theorem pcells_one (l : List Tst) : ∀ u ∈ pcells l, u.oneCell' = true := by
  intro u hu
  unfold pcells at hu
  obtain ⟨e, _, h⟩ := List.mem_flatMap.1 hu
  simp only [tcs, List.mem_cons, List.not_mem_nil, or_false] at h
  rcases h with rfl | rfl | rfl | rfl | rfl | rfl | rfl | rfl <;> rfl
theorem pcells_at : ∀ {l : List Tst} {i : Nat}, i < l.length →
    (pcells l)[i * 8]? = some (.int .i64 (tstAt l i).1.1) ∧ (pcells l)[i * 8 + 1]? = some (.int .i64 (tstAt l i).1.2.1) ∧ (pcells l)[i * 8 + 2]? = some (.int .i64 (tstAt l i).1.2.2.1) ∧ (pcells l)[i * 8 + 3]? = some (.int .i64 (tstAt l i).1.2.2.2) ∧
    (pcells l)[i * 8 + 4]? = some (.int .i64 (tstAt l i).2.1) ∧ (pcells l)[i * 8 + 5]? = some (.int .i64 (tstAt l i).2.2.1) ∧ (pcells l)[i * 8 + 6]? = some (.int .i64 (tstAt l i).2.2.2.1) ∧ (pcells l)[i * 8 + 7]? = some (.int .i64 (tstAt l i).2.2.2.2)
  | [], i, h => by simp at h
  | e :: l, 0, h => ⟨rfl, rfl, rfl, rfl, rfl, rfl, rfl, rfl⟩
  | e :: l, i + 1, h => by
    have := pcells_at (l := l) (i := i) (by simpa using h)
    rw [show (i + 1) * 8 = i * 8 + 1 + 1 + 1 + 1 + 1 + 1 + 1 + 1 from by omega]
    exact this
/-- One test set, cell by cell. -/
theorem pcells_set : ∀ (T N : List Tst) (x v : Tst), (((((((((pcells (T ++ x :: N)).set (T.length * 8) (.int .i64 v.1.1)).set (T.length * 8 + 1) (.int .i64 v.1.2.1)).set (T.length * 8 + 2) (.int .i64 v.1.2.2.1)).set (T.length * 8 + 3) (.int .i64 v.1.2.2.2)).set (T.length * 8 + 4) (.int .i64 v.2.1)).set (T.length * 8 + 5) (.int .i64 v.2.2.1)).set (T.length * 8 + 6) (.int .i64 v.2.2.2.1)).set (T.length * 8 + 7) (.int .i64 v.2.2.2.2)) = pcells (T ++ v :: N) := by
  intro T N x v
  have hl := pcells_length T
  have h : ∀ (k : Nat) (u : Value) (R : List Value), (pcells T ++ R).set (T.length * 8 + k) u = pcells T ++ R.set k u := fun k u R => by
    rw [List.set_append_right _ _ (by omega), hl, Nat.add_sub_cancel_left]
  rw [pcells_append, pcells_append]
  have h0 := h 0
  simp only [Nat.add_zero] at h0
  rw [h0, h 1, h 2, h 3, h 4, h 5, h 6, h 7]
  rfl

/-- A slice value reads as a list of tests. -/
def PS (w : World) (A : Option Addr) (n c : Nat) (l : List Tst) : Prop := SR w A n c 8 (pcells l)
/-- The cells of a test. -/
def TC8 (w : World) (b o : Nat) (t : Tst) : Prop :=
  (w.cell? ⟨b, o, none⟩ = some (.int .i64 t.1.1) ∧ w.cell? ⟨b, o + 1, none⟩ = some (.int .i64 t.1.2.1) ∧ w.cell? ⟨b, o + 2, none⟩ = some (.int .i64 t.1.2.2.1) ∧ w.cell? ⟨b, o + 3, none⟩ = some (.int .i64 t.1.2.2.2)) ∧
  (w.cell? ⟨b, o + 4, none⟩ = some (.int .i64 t.2.1) ∧ w.cell? ⟨b, o + 5, none⟩ = some (.int .i64 t.2.2.1) ∧ w.cell? ⟨b, o + 6, none⟩ = some (.int .i64 t.2.2.2.1) ∧ w.cell? ⟨b, o + 7, none⟩ = some (.int .i64 t.2.2.2.2))
section
variable {w w' : World} {A : Option Addr} {n c : Nat} {l : List Tst}
theorem PS.len (h : PS w A n c l) : n = l.length := by have := h.1; rw [pcells_length] at this; omega
theorem PS.le_cap (h : PS w A n c l) : n ≤ c := h.2.1
theorem PS.cap_le (h : PS w A n c l) : c ≤ 9223372036854775807 := h.2.2.1
theorem PS.at_ (h : PS w A n c l) (h0 : 0 < n) : ∃ b off, A = some ⟨b, off, none⟩ ∧ b < w.heap.size ∧ ∀ i, i < n → TC8 w b (off + i * 8) (tstAt l i) := by
  obtain ⟨b, off, e, hb, hc⟩ := SR.at_ h h0
  refine ⟨b, off, e, hb, fun i hi => ?_⟩
  obtain ⟨e0, e1, e2, e3, e4, e5, e6, e7⟩ := pcells_at (l := l) (i := i) (by rw [← h.len]; exact hi)
  exact ⟨⟨hc _ _ e0, by rw [Nat.add_assoc]; exact hc _ _ e1, by rw [Nat.add_assoc]; exact hc _ _ e2, by rw [Nat.add_assoc]; exact hc _ _ e3⟩, by rw [Nat.add_assoc]; exact hc _ _ e4, by rw [Nat.add_assoc]; exact hc _ _ e5, by rw [Nat.add_assoc]; exact hc _ _ e6, by rw [Nat.add_assoc]; exact hc _ _ e7⟩
theorem PS.below (h : PS w A n c l) {B : Nat} (hb : Below B w w') (hB : w.heap.size ≤ B) : PS w' A n c l := SR.below h hb hB
theorem PS.alloc (h : PS w A n c l) (o : Obj) : PS (w.alloc o) A n c l := SR.alloc h o
theorem PS.drewN (h : PS w A n c l) (q : Nat) : PS (w.drewN q) A n c l := h
theorem PS.nil (w : World) : PS w none 0 0 [] := SR.nil w 8
theorem PS.lit (W : World) (l : List Tst) (t : TypeId) (hm : l.length ≤ 1000000) : PS (W.alloc (.cells (pcells l).toArray t)) (some ⟨W.heap.size, 0, none⟩) l.length l.length l := SR.lit W _ t _ 8 (by rw [pcells_length]) hm
end

/-- Can a box have these columns (rows)? -/
def strch (f k : Int) : Bool := win k 1 8 && win f (-16) (17 - k)
theorem strch_iff {f k : Int} : strch f k = true ↔ (1 ≤ k ∧ k ≤ 8) ∧ -16 ≤ f ∧ f ≤ 17 - k := by simp [strch, win_iff]
def bxok (b : Bx) : Bool := strch b.1 b.2.2.1 && strch b.2.1 b.2.2.2
theorem bxok_iff {b : Bx} : bxok b = true ↔ ((1 ≤ b.2.2.1 ∧ b.2.2.1 ≤ 8) ∧ -16 ≤ b.1 ∧ b.1 ≤ 17 - b.2.2.1) ∧ (1 ≤ b.2.2.2 ∧ b.2.2.2 ≤ 8) ∧ -16 ≤ b.2.1 ∧ b.2.1 ≤ 17 - b.2.2.2 := by simp [bxok, strch_iff]
def tok (t : Tst) : Bool := bxok t.1 && bxok t.2
/-- A pattern. -/
def pat (p : List Tst) : Bool := win (p.length : Int) 1 64 && p.all tok
theorem pat_iff {p : List Tst} : pat p = true ↔ (1 ≤ p.length ∧ p.length ≤ 64) ∧ ∀ i, i < p.length → tok (tstAt p i) = true := by
  unfold pat
  rw [Bool.and_eq_true, win_iff, List.all_eq_true]
  constructor
  · rintro ⟨h1, h2⟩
    exact ⟨by omega, fun i hi => h2 _ (tstAt_mem hi)⟩
  · rintro ⟨h1, h2⟩
    refine ⟨by omega, fun t ht => ?_⟩
    obtain ⟨i, hi, rfl⟩ := List.mem_iff_getElem.1 ht
    rw [← tstAt_eq hi]
    exact h2 i hi

/-- Bits put together. -/
def wordF (f : Nat → Bool) : Nat → Nat
  | 0 => 0
  | k + 1 => if f k then wordF f k ||| 2 ^ k else wordF f k
theorem wordF_lt (f : Nat → Bool) (k : Nat) : wordF f k < 2 ^ k := by
  induction k with
  | zero => show 0 < 2 ^ 0; omega
  | succ k ih =>
    have h2 : 2 ^ (k + 1) = 2 ^ k + 2 ^ k := by omega
    unfold wordF
    split
    · exact Nat.or_lt_two_pow (by omega) (by omega)
    · omega
theorem wordF_congr {f g : Nat → Bool} {k : Nat} (h : ∀ i, i < k → f i = g i) : wordF f k = wordF g k := by
  induction k with
  | zero => rfl
  | succ k ih =>
    unfold wordF
    rw [ih fun i hi => h i (by omega), h k (by omega)]
theorem wordF_64 (f : Nat → Bool) {k : Nat} (h : k ≤ 64) : wordF f k < 2 ^ 64 := Nat.lt_of_lt_of_le (wordF_lt f k) (Nat.pow_le_pow_right (by omega) h)

/-- Has a raster, a wide and b high, all pixels of a box around (x, y)? -/
def bfit (a b : Nat) (q : Bx) (x y : Int) : Bool := (decide (0 ≤ x + q.1) && decide (x + q.1 + q.2.2.1 ≤ a)) && (decide (0 ≤ y + q.2.1) && decide (y + q.2.1 + q.2.2.2 ≤ b))
theorem bfit_iff {a b : Nat} {q : Bx} {x y : Int} : bfit a b q x y = true ↔ (0 ≤ x + q.1 ∧ x + q.1 + q.2.2.1 ≤ a) ∧ 0 ≤ y + q.2.1 ∧ y + q.2.1 + q.2.2.2 ≤ b := by simp [bfit]
/-- The sum of a box. -/
def bval (P : List Int) (a : Nat) (q : Bx) (x y : Int) : Int := bsum P a (x + q.1).toNat q.2.2.1.toNat (y + q.2.1).toNat q.2.2.2.toNat
def bsz (q : Bx) : Int := q.2.2.1 * q.2.2.2
/-- A test's bit. -/
def tbit (P : List Int) (a : Nat) (t : Tst) (x y : Int) : Bool := decide (bval P a t.1 x y * bsz t.2 < bval P a t.2 x y * bsz t.1)
def tfit (a b : Nat) (t : Tst) (x y : Int) : Bool := bfit a b t.1 x y && bfit a b t.2 x y
def pfit (a b : Nat) (p : List Tst) (x y : Int) : Bool := p.all fun t => tfit a b t x y
/-- The word of a feature. -/
def wordOf (P : List Int) (a : Nat) (p : List Tst) (x y : Int) : Nat := wordF (fun i => tbit P a (tstAt p i) x y) p.length
theorem pfit_iff {a b : Nat} {p : List Tst} {x y : Int} : pfit a b p x y = true ↔ ∀ i, i < p.length → tfit a b (tstAt p i) x y = true := by
  unfold pfit
  rw [List.all_eq_true]
  constructor
  · intro h i hi
    exact h _ (tstAt_mem hi)
  · intro h t ht
    obtain ⟨i, hi, rfl⟩ := List.mem_iff_getElem.1 ht
    rw [← tstAt_eq hi]
    exact h i hi

end Go.Proofs.Ytonpnjjfidpoiaa
