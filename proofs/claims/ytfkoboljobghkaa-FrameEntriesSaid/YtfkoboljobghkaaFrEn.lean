/-
  Walks: bitsOf and best; encode, row and number of a writer.
-/
import Derived.Test.YtfkoboljobghkaaFrWb
import Derived.IntWalk
set_option linter.unusedSimpArgs false
set_option linter.unusedVariables false
namespace Go.Proofs.Ytfkoboljobghkaa
open Go.RowKit

theorem take_succ_nth {l : List Int} {j : Nat} (h : j < l.length) : l.take (j + 1) = l.take j ++ [nth l j] := by
  rw [List.take_add_one, List.getElem?_eq_getElem h, nth_eq h]; rfl
theorem bitsOf_take {l : List Int} {j : Nat} (k : Nat) (h : j < l.length) : bitsOf (l.take (j + 1)) k = bitsOf (l.take j) k + (nth l j / ((2 ^ k : Nat) : Int) + 1 + k) := by
  rw [take_succ_nth h]
  simp [bitsOf]

/-- Residuals of a row. -/
def Row (l : List Int) : Prop := ∀ v ∈ l, 0 ≤ v ∧ v ≤ 65535
theorem Row.nth {l : List Int} (h : Row l) (j : Nat) : 0 ≤ nth l j ∧ nth l j ≤ 65535 := by
  by_cases hj : j < l.length
  · rw [nth_eq hj]; exact h _ (List.getElem_mem hj)
  · rw [nth_end (by omega)]; omega
theorem bitsOf_range {l : List Int} (h : Row l) (k : Nat) (hk : k ≤ 16) : ∀ j, j ≤ l.length → 0 ≤ bitsOf (l.take j) k ∧ bitsOf (l.take j) k ≤ j * 65552 := by
  intro j
  induction j with
  | zero => intro _; simp [bitsOf]
  | succ j ih =>
    intro hj
    have := ih (by omega)
    rw [bitsOf_take k (by omega)]
    have h1 := h.nth j
    have h2 : 0 ≤ Go.Proofs.Ytfkoboljobghkaa.nth l j / ((2 ^ k : Nat) : Int) := Int.ediv_nonneg h1.1 (Int.natCast_nonneg _)
    have h3 : Go.Proofs.Ytfkoboljobghkaa.nth l j / ((2 ^ k : Nat) : Int) ≤ Go.Proofs.Ytfkoboljobghkaa.nth l j := Int.ediv_le_self _ h1.1
    generalize Go.Proofs.Ytfkoboljobghkaa.nth l j / ((2 ^ k : Nat) : Int) = z at *
    omega

/-- A shift to the right. -/
theorem shr_pow (y : Int) (k : Nat) : y / (2 : Int) ^ k = y / ((2 ^ k : Nat) : Int) := by rw [Int.natCast_pow]; rfl
theorem shr_range {y : Int} (h0 : 0 ≤ y) (k : Nat) : 0 ≤ y / (2 : Int) ^ k ∧ y / (2 : Int) ^ k ≤ y := by
  rw [shr_pow]
  exact ⟨Int.ediv_nonneg h0 (Int.natCast_nonneg _), Int.ediv_le_self _ h0⟩

set_option maxHeartbeats 1600000 in
theorem bitsOf_any (A : Option Addr) (n c k : Nat) (l : List Int) (w : World) (h : Sl w A n c l) (hn : n ≤ 1000) (hl : Row l) (hk : k ≤ 16) :
    Calls Try.prog 59 #[.slice A n c, .int .i64 (k : Int)] w fun e w' => e = .returned (.int .i64 (bitsOf l k)) ∧ Below w.heap.size w w' := by
  have hcap := h.le_cap
  have hcl := h.cap_le
  have hlen := Lib.hid h.len
  replace hl := Lib.hid hl
  go_enter Try.func59, Try.ntmps59
  go_wp2
  go_loopw [5, 10] (fun a i wr => ∃ (j : Nat) (s : Int), j ≤ n ∧ i = .int .i64 (j : Int) ∧ a = .int .i64 s ∧ Hid (s = bitsOf (l.take j) k) ∧ Below w.heap.size w wr) (fun a i _ => n - (intOf i).toNat)
  case atStart => exact ⟨0, _, Nat.zero_le _, rfl, rfl, Lib.hid (by simp [bitsOf]), Below.refl _ _⟩
  case round =>
    obtain ⟨j, s, hj, rfl, rfl, hs, hB⟩ := hrel
    by_cases hlt : j < n
    · obtain ⟨b, off, rfl, hbw, hc⟩ := (h.below hB (Nat.le_refl _)).at_ (by omega)
      have hcell := hc j hlt
      clear hc h
      have hr := bitsOf_range hl.out k hk j (by have := hlen.out; omega)
      rw [← hs.out] at hr
      obtain ⟨y, hy⟩ : ∃ y, nth l j = y := ⟨_, rfl⟩
      have hy2 := hl.out.nth j
      rw [hy] at hcell hy2
      have hq := shr_range hy2.1 k
      have hnext := bitsOf_take k (l := l) (j := j) (by have := hlen.out; omega)
      rw [hy, ← shr_pow, ← hs.out] at hnext
      replace hy := Lib.hid hy
      replace hnext := Lib.hid hnext
      go_wp2
      refine ⟨⟨j + 1, _, hlt, by go_num, rfl, Lib.hid ?_, hB⟩, by simp [intOf]; omega⟩
      rw [hnext.out]
    · obtain rfl : j = n := by omega
      have hfin : s = bitsOf l k := by rw [hs.out, List.take_of_length_le (by rw [← hlen.out]; exact Nat.le_refl _)]
      replace hfin := Lib.hid hfin
      go_wp2
      go_ret
      exact ⟨ret_int hfin.out, hB⟩

theorem bitsOf_at {A : Option Addr} {n c : Nat} (k : Nat) {l : List Int} {w : World} {u s : Int} (h : Sl w A n c l) (hn : n ≤ 1000) (hl : Row l) (hk : k ≤ 16) (hu : u = (k : Int)) (hs : bitsOf l k = s) :
    Calls Try.prog 59 #[.slice A n c, .int .i64 u] w fun e w' => e = .returned (.int .i64 s) ∧ Below w.heap.size w w' := by
  subst hu
  subst hs
  exact bitsOf_any A n c k l w h hn hl hk

set_option maxHeartbeats 1600000 in
set_option maxRecDepth 100000 in
theorem best_any (A : Option Addr) (n c : Nat) (l : List Int) (w : World) (h : Sl w A n c l) (hn : n ≤ 1000) (hl : Row l) :
    Calls Try.prog 60 #[.slice A n c] w fun e w' => e = .returned (.tuple #[.int .i64 (best l : Int), .int .i64 (bitsOf l (best l))]) ∧ Below w.heap.size w w' := by
  obtain ⟨s0, hs0⟩ : ∃ s, bitsOf l 0 = s := ⟨_, rfl⟩
  have hc0 := Lib.hid (fun (u : Int) hu W hW => bitsOf_at (A := A) (n := n) (c := c) (w := W) (u := u) 0 hW hn hl (by omega) hu hs0)
  have hl' := Lib.hid hl
  have h' := Lib.hid h
  replace hs0 := Lib.hid hs0
  clear hl
  go_enter Try.func60, Try.ntmps60
  go_wp2_with (go_at_call 59; refine (hc0.out _ rfl _ h'.out).mono ?_; rintro e w1 ⟨rfl, hb1⟩)
  go_loopw [2, 3, 4] (fun a b o wr => ∃ (m : Nat) (x s z : Int), m ≤ 16 ∧ o = .int .i64 z ∧ z = (m : Int) + 1 ∧ a = .int .i64 x ∧ b = .int .i64 s ∧ Hid (x = bestTo l m ∧ s = bitsOf l (bestTo l m)) ∧ Below w.heap.size w wr) (fun _ _ o _ => 17 - (intOf o).toNat)
  case atStart => exact ⟨0, 0, s0, 1, by omega, rfl, rfl, rfl, rfl, Lib.hid ⟨rfl, hs0.out.symm⟩, hb1⟩
  case round =>
    obtain ⟨m, x, s, z, hm, rfl, hz, rfl, rfl, hxs, hB⟩ := hrel
    by_cases hlt : m < 16
    · obtain ⟨s2, hs2⟩ : ∃ s2, bitsOf l (m + 1) = s2 := ⟨_, rfl⟩
      have hc1 := Lib.hid (fun W hW => bitsOf_at (A := A) (n := n) (c := c) (w := W) (u := z) (m + 1) hW hn hl'.out (by omega) (by rw [hz]; simp) hs2)
      have hz2 : z ≤ 16 := by omega
      have hz3 : 1 ≤ z := by omega
      have hlt2 : Hid (m + 1 ≤ 16) := Lib.hid (by omega)
      have hzz : Hid (z + 1 = ((m + 1 : Nat) : Int) + 1) := Lib.hid (by omega)
      have hmm : Hid (17 - (z + 1).toNat < 17 - z.toNat) := Lib.hid (by omega)
      have hz' := Lib.hid hz
      clear hz
      by_cases hq : s2 < s
      · have hnew : Hid ((z : Int) = bestTo l (m + 1) ∧ s2 = bitsOf l (bestTo l (m + 1))) := Lib.hid (by
          have : bestTo l (m + 1) = m + 1 := by unfold bestTo; rw [if_pos (by rw [← hxs.out.2, hs2]; exact hq)]
          rw [this, hs2]; exact ⟨by rw [hz'.out]; simp, rfl⟩)
        replace hs2 := Lib.hid hs2
        go_wp2_with (go_at_call 59; refine (hc1.out _ (h'.out.below hB (Nat.le_refl _))).mono ?_; rintro e w2 ⟨rfl, hb2⟩)
        refine ⟨⟨m + 1, _, _, _, hlt2.out, rfl, ?_, rfl, rfl, hnew, hB.trans (hb2.mono hB.size)⟩, by simpa [intOf] using hmm.out⟩; exact hzz.out
      · have hnew : Hid (x = bestTo l (m + 1) ∧ s = bitsOf l (bestTo l (m + 1))) := Lib.hid (by
          have : bestTo l (m + 1) = bestTo l m := by
            show (if _ then _ else _) = _
            rw [if_neg (by rw [← hxs.out.2, hs2]; exact hq)]
          rw [this]; exact hxs.out)
        replace hs2 := Lib.hid hs2
        go_wp2_with (go_at_call 59; refine (hc1.out _ (h'.out.below hB (Nat.le_refl _))).mono ?_; rintro e w2 ⟨rfl, hb2⟩)
        refine ⟨⟨m + 1, _, _, _, hlt2.out, rfl, ?_, rfl, rfl, hnew, hB.trans (hb2.mono hB.size)⟩, by simpa [intOf] using hmm.out⟩; exact hzz.out
    · obtain rfl : m = 16 := by omega
      have hz2 : ¬ z ≤ 16 := by omega
      clear hz
      go_wp2
      refine bodyPost_ret (v := .tuple #[.int .i64 x, .int .i64 s]) (by simp [results, Try.results60, go_sem]) rfl ?_
      obtain ⟨rfl, rfl⟩ := hxs.out
      exact ⟨rfl, hB⟩

end Go.Proofs.Ytfkoboljobghkaa
