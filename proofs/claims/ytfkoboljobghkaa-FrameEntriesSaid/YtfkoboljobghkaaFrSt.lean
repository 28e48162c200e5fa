/-
  Texts: a test of runes that strikes at every byte from 128 on is a test of bytes; keys and values.
-/
import Derived.Test.YtfkoboljobghkaaFrM8
import Derived.Test.YtfkoboljobghkaaShelf
set_option linter.unusedSimpArgs false
set_option linter.unusedVariables false
namespace Go.Proofs.Ytfkoboljobghkaa
open Go.RowKit Go.Shelf

/-- The byte at a place of a text. -/
def byt (s : ByteArray) (i : Nat) : Nat := (s.get! i).toNat

theorem txt_nth (s : ByteArray) {i : Nat} (h : i < s.size) : nth (txt s) i = (byt s i : Int) := by
  rw [nth_eq (by rw [txt_length]; exact h)]
  simp only [txt, List.getElem_map, byt]
  have e : s.get! i = s.data[i]'h := by
    show s.data[i]! = _
    rw [getElem!_pos s.data i h]
  rw [e, Array.getElem_toList]

theorem decode_rune (s : ByteArray) (i : Nat) : (byt s i < 128 ∧ (Utf8.decode s i).1 = byt s i ∧ (Utf8.decode s i).2 = 1) ∨ (128 ≤ byt s i ∧ 128 ≤ (Utf8.decode s i).1) := by
  simp only [Utf8.decode, byt, Nat.add_zero, Utf8.runeError]
  repeat' split
  all_goals first | (left; exact ⟨by omega, rfl, rfl⟩) | (right; simp only [ge_iff_le, Bool.and_eq_true, decide_eq_true_eq] at *; omega)

/-- A test of runes, true from 128 on, strikes somewhere in a text if and only if it strikes at one of its bytes. -/
theorem idx_from (p : Nat → Bool) (hp : ∀ r, 128 ≤ r → p r = true) (s : ByteArray) : ∀ f pos, s.size ≤ pos + f → (0 ≤ Lib.idxFuncFrom p true s f pos ↔ ∃ i, pos ≤ i ∧ i < s.size ∧ p (byt s i) = true)
  | 0, pos, h => by
    unfold Lib.idxFuncFrom
    exact ⟨fun h => by omega, fun ⟨i, h1, h2, _⟩ => by omega⟩
  | f + 1, pos, h => by
    unfold Lib.idxFuncFrom
    by_cases hlt : pos < s.size
    · rw [if_pos hlt]
      rcases decode_rune s pos with ⟨h1, h2, h3⟩ | ⟨h1, h2⟩
      · rw [h2, h3]
        by_cases hq : p (byt s pos) = true
        · rw [if_pos hq]
          exact ⟨fun _ => ⟨pos, Nat.le_refl _, hlt, hq⟩, fun _ => by omega⟩
        · rw [if_neg hq, idx_from p hp s f (pos + 1) (by omega)]
          constructor
          · rintro ⟨i, h4, h5, h6⟩; exact ⟨i, by omega, h5, h6⟩
          · rintro ⟨i, h4, h5, h6⟩
            refine ⟨i, ?_, h5, h6⟩
            rcases Nat.lt_or_ge pos i with h7 | h7
            · exact h7
            · obtain rfl : i = pos := by omega
              exact absurd h6 hq
      · rw [if_pos (hp _ h2)]
        exact ⟨fun _ => ⟨pos, Nat.le_refl _, hlt, hp _ h1⟩, fun _ => by omega⟩
    · rw [if_neg hlt]
      exact ⟨fun h => by omega, fun ⟨i, h1, h2, _⟩ => by omega⟩

theorem idx_bytes (p : Nat → Bool) (hp : ∀ r, 128 ≤ r → p r = true) (s : ByteArray) : decide (0 ≤ Lib.idxFunc p true s) = (txt s).any fun b => p b.toNat := by
  rw [Bool.eq_iff_iff, decide_eq_true_iff, Lib.idxFunc, idx_from p hp s s.size 0 (by omega), List.any_eq_true]
  constructor
  · rintro ⟨i, _, h2, h3⟩
    refine ⟨nth (txt s) i, ?_, by rw [txt_nth s h2]; simpa using h3⟩
    rw [nth_eq (by rw [txt_length]; exact h2)]
    exact List.getElem_mem _
  · rintro ⟨x, hx, h⟩
    obtain ⟨i, hi, rfl⟩ := List.mem_iff_getElem.1 hx
    rw [txt_length] at hi
    refine ⟨i, Nat.zero_le _, hi, ?_⟩
    rw [← nth_eq (by rw [txt_length]; exact hi), txt_nth s hi] at h
    simpa using h

/-- Letters; what may stand in a key behind its first byte; what may not stand in a value. -/
def isLet (r : Nat) : Bool := decide (97 ≤ r) && decide (r ≤ 122)
def isOth (r : Nat) : Bool := !isLet r && (!(decide (48 ≤ r) && decide (r ≤ 57)) && r != 95)
def isBad (r : Nat) : Bool := decide (r < 32) || decide (126 < r)
/-- A key; the code of a value. -/
def keyB (s : ByteArray) : Bool := win (s.size : Int) 1 24 && (isLet (byt s 0) && !((txt s).any fun b => isOth b.toNat))
def valC (s : ByteArray) : Int := if 120 < s.size then 9 else if ((txt s).any fun b => isBad b.toNat) then 8 else 0

end Go.Proofs.Ytfkoboljobghkaa
