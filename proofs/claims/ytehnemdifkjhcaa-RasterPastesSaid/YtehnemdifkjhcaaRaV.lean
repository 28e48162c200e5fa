/-
  A raster pasted into another: its pixels.
-/
import Derived.Test.YtehnemdifkjhcaaRaU
import Derived.Test.YtehnemdifkjhcaaRaK
set_option linter.unusedSimpArgs false
set_option linter.unusedVariables false
namespace Go.Proofs.Ytehnemdifkjhcaa
open Go.RowKit

/-- The place k (in row j and column i) of the result, as far as the rows of the pasted raster below J are pasted. -/
def pfr (a2 b2 : Nat) (x y : Int) (P P2 : List Int) (J : Int) (j i k : Nat) : Int :=
  if (x ≤ (i : Int) ∧ (i : Int) < x + a2) ∧ y ≤ (j : Int) ∧ (j : Int) < y + b2 ∧ (j : Int) - y < J then nth P2 (((j : Int) - y).toNat * a2 + ((i : Int) - x).toNat) else nth P k
def pf (a a2 b2 : Nat) (x y : Int) (P P2 : List Int) (J : Int) (k : Nat) : Int := pfr a2 b2 x y P P2 J (k / a) (k % a) k
theorem pf_at {a a2 b2 : Nat} {x y : Int} {P P2 : List Int} {J : Int} {j i : Nat} (hi : i < a) : pf a a2 b2 x y P P2 J (j * a + i) = pfr a2 b2 x y P P2 J j i (j * a + i) := by unfold pf; rw [row_mod hi, row_div hi]
theorem pfr_in {a2 b2 : Nat} {x y : Int} {P P2 : List Int} {J : Int} {j i k : Nat} {j2 i2 : Nat} (hj : (j : Int) = y + j2) (hi : (i : Int) = x + i2) (h1 : i2 < a2) (h2 : j2 < b2) (h3 : (j2 : Int) < J) : pfr a2 b2 x y P P2 J j i k = nth P2 (j2 * a2 + i2) := by
  unfold pfr
  rw [if_pos ⟨⟨by omega, by omega⟩, by omega, by omega, by omega⟩, show ((j : Int) - y).toNat = j2 by omega, show ((i : Int) - x).toNat = i2 by omega]
theorem pfr_out {a2 b2 : Nat} {x y : Int} {P P2 : List Int} {J : Int} {j i k : Nat} (h : ¬ ((x ≤ (i : Int) ∧ (i : Int) < x + a2) ∧ y ≤ (j : Int) ∧ (j : Int) < y + b2 ∧ (j : Int) - y < J)) : pfr a2 b2 x y P P2 J j i k = nth P k := by
  unfold pfr; rw [if_neg h]
theorem pfr_congr {a2 b2 : Nat} {x y : Int} {P P2 : List Int} {J J' : Int} {j i k : Nat} (h : ((x ≤ (i : Int) ∧ (i : Int) < x + a2) ∧ y ≤ (j : Int) ∧ (j : Int) < y + b2 ∧ (j : Int) - y < J) ↔ ((x ≤ (i : Int) ∧ (i : Int) < x + a2) ∧ y ≤ (j : Int) ∧ (j : Int) < y + b2 ∧ (j : Int) - y < J')) : pfr a2 b2 x y P P2 J j i k = pfr a2 b2 x y P P2 J' j i k := by
  unfold pfr; simp only [h]
theorem pf_congr {a b a2 b2 : Nat} {x y : Int} {P P2 : List Int} {J J' : Int} (h : ∀ j i : Nat, j < b → i < a → (((x ≤ (i : Int) ∧ (i : Int) < x + a2) ∧ y ≤ (j : Int) ∧ (j : Int) < y + b2 ∧ (j : Int) - y < J) ↔ ((x ≤ (i : Int) ∧ (i : Int) < x + a2) ∧ y ≤ (j : Int) ∧ (j : Int) < y + b2 ∧ (j : Int) - y < J'))) : ∀ k, k < b * a → pf a a2 b2 x y P P2 J k = pf a a2 b2 x y P P2 J' k := by
  intro k hk
  obtain ⟨j, i, hj, hi, rfl⟩ := grid hk
  rw [pf_at hi, pf_at hi]
  exact pfr_congr (h j i hj hi)
theorem pf_none {a b a2 b2 : Nat} {x y : Int} {P P2 : List Int} {J : Int} (h : ∀ j i : Nat, j < b → i < a → ¬ ((x ≤ (i : Int) ∧ (i : Int) < x + a2) ∧ y ≤ (j : Int) ∧ (j : Int) < y + b2 ∧ (j : Int) - y < J)) : ∀ k, k < b * a → nth P k = pf a a2 b2 x y P P2 J k := by
  intro k hk
  obtain ⟨j, i, hj, hi, rfl⟩ := grid hk
  rw [pf_at hi]
  exact (pfr_out (h j i hj hi)).symm
def pasted (a a2 b2 : Nat) (x y : Int) (P P2 : List Int) : List Int := tab P.length (pf a a2 b2 x y P P2 b2)
theorem pasted_eq {a a2 b2 : Nat} {x y : Int} {P P2 L : List Int} (hl : L.length = P.length) (h : ∀ k, k < P.length → nth L k = pf a a2 b2 x y P P2 b2 k) : L = pasted a a2 b2 x y P P2 :=
  nth_ext (by rw [hl, pasted, tab_length]) fun k hk => by rw [h k (by omega), pasted, nth_tab (by omega)]

/-- One row more. -/
theorem pf_row {a b a2 b2 : Nat} {x y : Int} {P P2 L X : List Int} {j yj q xl l rn : Nat} (hlen : L.length = b * a) (hL : ∀ k, k < b * a → nth L k = pf a a2 b2 x y P P2 j k)
    (hxl : x + l = (xl : Int)) (hyj : y + j = (yj : Int)) (hq : yj * a = q) (hyb : yj < b) (hl : l = 0 ∨ xl = 0) (hlr : l < rn) (hra : rn ≤ a2) (hfit : xl + (rn - l) ≤ a) (hr : rn = a2 ∨ xl + (rn - l) = a) (hj : j < b2)
    (hXl : X.length = rn - l) (hX : ∀ i, i < rn - l → nth X i = nth P2 (j * a2 + (l + i))) : (lay L (q + xl) X).length = b * a ∧ ∀ k, k < b * a → nth (lay L (q + xl) X) k = pf a a2 b2 x y P P2 ((j + 1 : Nat) : Int) k := by
  have hqa : q + a ≤ b * a := by rw [← hq]; exact row_le hyb
  have hle : q + xl + X.length ≤ L.length := by omega
  refine ⟨by rw [lay_length hle]; exact hlen, fun k hk => ?_⟩
  obtain ⟨jr, i, hjr, hi, rfl⟩ := grid hk
  have hLk := hL _ hk
  rw [pf_at hi] at hLk ⊢
  by_cases e : jr = yj
  · subst e
    rw [hq] at hLk ⊢
    by_cases h1 : i < xl
    · rw [nth_lay_lt hle (by omega), hLk, pfr_out (by omega), pfr_out (by omega)]
    · by_cases h2 : i < xl + (rn - l)
      · obtain ⟨m, rfl⟩ : ∃ m, i = xl + m := ⟨i - xl, by omega⟩
        rw [← Nat.add_assoc, nth_lay_in hle (by omega), hX m (by omega)]
        exact (pfr_in (by omega) (by omega) (by omega) hj (by omega)).symm
      · rw [nth_lay_ge hle (by omega), hLk, pfr_out (by omega), pfr_out (by omega)]
  · have hne : pfr a2 b2 x y P P2 (j : Int) jr i (jr * a + i) = pfr a2 b2 x y P P2 ((j + 1 : Nat) : Int) jr i (jr * a + i) := pfr_congr (by omega)
    rw [← hne, ← hLk]
    by_cases h1 : jr < yj
    · have := row_le (b := a) h1
      exact nth_lay_lt hle (by omega)
    · have := row_le (b := a) (show yj < jr by omega)
      exact nth_lay_ge hle (by omega)

/-- What was cut out, pasted where it was cut out. -/
theorem paste_crop {a b xo yo wd ht : Nat} {P : List Int} (hl : P.length = b * a) (hx : xo + wd ≤ a) (hy : yo + ht ≤ b) : pasted a wd ht xo yo P (cropped a xo yo wd ht P) = P := by
  refine (pasted_eq rfl fun k hk => ?_).symm
  rw [hl] at hk
  obtain ⟨j, i, hj, hi, rfl⟩ := grid hk
  rw [pf_at hi]
  by_cases h : (((xo : Int) ≤ (i : Int) ∧ (i : Int) < (xo : Int) + wd) ∧ (yo : Int) ≤ (j : Int) ∧ (j : Int) < (yo : Int) + ht ∧ (j : Int) - (yo : Int) < ht)
  · obtain ⟨m, rfl⟩ : ∃ m, i = xo + m := ⟨i - xo, by omega⟩
    obtain ⟨m2, rfl⟩ : ∃ m, j = yo + m := ⟨j - yo, by omega⟩
    rw [pfr_in (j2 := m2) (i2 := m) (by omega) (by omega) (by omega) (by omega) (by omega), cropped, nth_tab (row_lt (by omega) (by omega)), cropf_at (by omega)]
  · rw [pfr_out h]

theorem Ras.of_crop {a b xo yo wd ht : Nat} {M : Int} {P : List Int} (h : Ras a b M P) (hx : xo + wd ≤ a) (hy : yo + ht ≤ b) (hw : 1 ≤ wd) (hh : 1 ≤ ht) : Ras wd ht M (cropped a xo yo wd ht P) := by
  obtain ⟨a', b', ea, eb, ⟨ha1, ha2⟩, ⟨hb1, hb2⟩, hM, hab, -, -⟩ := h.nat
  obtain rfl : a = a' := by omega
  obtain rfl : b = b' := by omega
  refine ⟨⟨⟨by omega, by omega⟩, ⟨by omega, by omega⟩, hM⟩, ?_, fun g hg => ?_⟩
  · rw [cropped, tab_length]; simp [Int.mul_comm]
  · unfold cropped tab at hg
    obtain ⟨k, hk, rfl⟩ := List.mem_map.1 hg
    rw [List.mem_range] at hk
    obtain ⟨j, i, hj, hi, rfl⟩ := grid hk
    rw [cropf_at hi]
    have hlt : (yo + j) * a + (xo + i) < P.length := by
      rw [hab, Nat.mul_comm a b]; exact row_lt (by omega) (by omega)
    exact h.2.2 _ (by rw [nth_eq hlt]; exact List.getElem_mem hlt)

end Go.Proofs.Ytehnemdifkjhcaa
