/-
  Walks: slices.Index, Contains, Max at []int.
-/
import Derived.Test.YtonpnjjfidpoiaaDsD
set_option linter.unusedSimpArgs false
set_option linter.unusedVariables false
namespace Go.Proofs.Ytonpnjjfidpoiaa
open Go.RowKit

set_option maxRecDepth 100000 in
set_option maxHeartbeats 1600000 in
theorem Index_yes (A : Option Addr) (n c : Nat) (l : List Int) (x : Int) (w : World) (h : Sl w A n c l) {k : Nat} (hk : k < n) (hx : nth l k = x) (hn : ∀ j, j < k → nth l j ≠ x) :
    Calls Try.prog 64 #[.slice A n c, .int .i64 x] w fun e w' => e = .returned (.int .i64 (k : Int)) ∧ Below w.heap.size w w' := by
  have hcap := h.le_cap
  have hcl := h.cap_le
  have hs0 := Lib.hid h
  replace hx := Lib.hid hx
  replace hn := Lib.hid hn
  clear h
  go_enter Try.func64, Try.ntmps64
  go_wp2
  go_loopw [8] (fun i wr => ∃ m : Nat, m ≤ k ∧ i = .int .i64 (m : Int) ∧ Below w.heap.size w wr) (fun i _ => n - (intOf i).toNat)
  case atStart => exact ⟨0, Nat.zero_le _, rfl, Below.refl _ _⟩
  case round =>
    obtain ⟨m, hm, rfl, hB⟩ := hrel
    have hmi : (m : Int) < (n : Int) := by omega
    have hs := hs0.out.below hB (Nat.le_refl _)
    obtain ⟨bk, off, rfl, hbw, hc⟩ := hs.at_ (by omega)
    have hcx := hc m (by omega)
    clear hc hs
    by_cases e : m = k
    · subst e
      rw [hx.out] at hcx
      have ht : ((x : Int) == (x : Int)) = true := by simp
      go_wp2
      go_ret
      exact ⟨rfl, by first | exact hB | exact below_drewN hB _⟩
    · obtain ⟨y, hy⟩ : ∃ y, nth l m = y := ⟨_, rfl⟩
      have hne := hn.out m (by omega)
      rw [hy] at hcx hne
      have ht : ((x : Int) == (y : Int)) = false := by simp; exact fun h => hne h.symm
      replace hne := Lib.hid hne
      replace hy := Lib.hid hy
      replace e := Lib.hid (show m + 1 ≤ k by omega)
      go_wp2
      go_roundw
      case rel => exact ⟨m + 1, e.out, by go_num, by first | exact hB | exact below_drewN hB _⟩
      case measure => simp [intOf]; omega

set_option maxRecDepth 100000 in
set_option maxHeartbeats 1600000 in
theorem Index_no (A : Option Addr) (n c : Nat) (l : List Int) (x : Int) (w : World) (h : Sl w A n c l) (hn : ∀ j, j < n → nth l j ≠ x) :
    Calls Try.prog 64 #[.slice A n c, .int .i64 x] w fun e w' => e = .returned (.int .i64 (-1)) ∧ Below w.heap.size w w' := by
  have hcap := h.le_cap
  have hcl := h.cap_le
  have hs0 := Lib.hid h
  replace hn := Lib.hid hn
  clear h
  go_enter Try.func64, Try.ntmps64
  go_wp2
  go_loopw [8] (fun i wr => ∃ m : Nat, m ≤ n ∧ i = .int .i64 (m : Int) ∧ Below w.heap.size w wr) (fun i _ => n - (intOf i).toNat)
  case atStart => exact ⟨0, Nat.zero_le _, rfl, Below.refl _ _⟩
  case round =>
    obtain ⟨m, hm, rfl, hB⟩ := hrel
    by_cases hlt : m < n
    · have hmi : (m : Int) < (n : Int) := by omega
      have hs := hs0.out.below hB (Nat.le_refl _)
      obtain ⟨bk, off, rfl, hbw, hc⟩ := hs.at_ (by omega)
      have hcx := hc m (by omega)
      clear hc hs
      obtain ⟨y, hy⟩ : ∃ y, nth l m = y := ⟨_, rfl⟩
      have hne := hn.out m (by omega)
      rw [hy] at hcx hne
      have ht : ((x : Int) == (y : Int)) = false := by simp; exact fun h => hne h.symm
      replace hne := Lib.hid hne
      replace hy := Lib.hid hy
      go_wp2
      go_roundw
      case rel => exact ⟨m + 1, hlt, by go_num, by first | exact hB | exact below_drewN hB _⟩
      case measure => simp [intOf]; omega
    · have hmi : ¬ (m : Int) < (n : Int) := by omega
      go_wp2
      go_ret
      exact ⟨rfl, by first | exact hB | exact below_drewN hB _⟩

/-- Contains, its answer by name. -/
theorem Contains_at (A : Option Addr) (n c : Nat) (l : List Int) (x : Int) (w : World) (h : Sl w A n c l) {b : Bool} (hb : b = true ↔ ∃ j, j < n ∧ nth l j = x) :
    Calls Try.prog 66 #[.slice A n c, .int .i64 x] w fun e w' => e = .returned (.bool b) ∧ Below w.heap.size w w' := by
  cases b
  · have hno : ∀ j, j < n → nth l j ≠ x := fun j hj e => by have := hb.2 ⟨j, hj, e⟩; cases this
    have hcon := Lib.hid (Index_no A n c l x w h hno)
    clear h hb hno
    go_enter Try.func66, Try.ntmps66
    go_wp2_with (go_at_call 64; refine hcon.out.mono ?_; rintro e w' ⟨rfl, hb2⟩)
    go_ret
    exact ⟨rfl, hb2⟩
  · have hex : ∃ k, k < n ∧ nth l k = x ∧ ∀ j, j < k → nth l j ≠ x := by
      obtain ⟨j, hj, e⟩ := hb.1 rfl
      clear hb
      induction j using Nat.strongRecOn with
      | _ j ih =>
        by_cases hq : ∃ i, i < j ∧ nth l i = x
        · obtain ⟨i, hi, e2⟩ := hq
          exact ih i hi (by omega) e2
        · exact ⟨j, hj, e, fun i hi e2 => hq ⟨i, hi, e2⟩⟩
    obtain ⟨k, hk, e1, e2⟩ := hex
    have hcon := Lib.hid (Index_yes A n c l x w h hk e1 e2)
    have hk0 : (0 : Int) ≤ (k : Int) := by omega
    clear h hb e1 e2
    go_enter Try.func66, Try.ntmps66
    go_wp2_with (go_at_call 64; refine hcon.out.mono ?_; rintro e w' ⟨rfl, hb2⟩)
    go_ret
    exact ⟨rfl, hb2⟩

/-- The greatest of the first k + 1 numbers. -/
def mxF (l : List Int) : Nat → Int
  | 0 => nth l 0
  | k + 1 => if mxF l k < nth l (k + 1) then nth l (k + 1) else mxF l k
theorem mxF_spec (l : List Int) (k : Nat) : (∀ i, i ≤ k → nth l i ≤ mxF l k) ∧ ∃ i, i ≤ k ∧ nth l i = mxF l k := by
  induction k with
  | zero => exact ⟨fun i hi => by obtain rfl : i = 0 := by omega
                                  exact Int.le_refl _, 0, Nat.le_refl _, rfl⟩
  | succ k ih =>
    obtain ⟨h1, j, hj, h2⟩ := ih
    unfold mxF
    split
    · refine ⟨fun i hi => ?_, k + 1, Nat.le_refl _, rfl⟩
      by_cases e : i = k + 1
      · rw [e]; exact Int.le_refl _
      · have := h1 i (by omega); omega
    · refine ⟨fun i hi => ?_, j, by omega, h2⟩
      by_cases e : i = k + 1
      · rw [e]; omega
      · exact h1 i (by omega)
theorem mxF_eq {l : List Int} {k : Nat} {M : Int} (h1 : ∀ i, i ≤ k → nth l i ≤ M) (h2 : ∃ i, i ≤ k ∧ nth l i = M) : mxF l k = M := by
  obtain ⟨a1, j, hj, a2⟩ := mxF_spec l k
  obtain ⟨i, hi, e⟩ := h2
  have := a1 i hi
  have := h1 j hj
  omega

set_option maxRecDepth 100000 in
set_option maxHeartbeats 1600000 in
theorem Max_at (A : Option Addr) (n c : Nat) (l : List Int) (w : World) (h : Sl w A n c l) (h0 : 0 < n) {M : Int} (h1 : ∀ i, i < n → nth l i ≤ M) (h2 : ∃ i, i < n ∧ nth l i = M) :
    Calls Try.prog 65 #[.slice A n c] w fun e w' => e = .returned (.int .i64 M) ∧ Below w.heap.size w w' := by
  have hcap := h.le_cap
  have hcl := h.cap_le
  have hM : Hid (mxF l (n - 1) = M) := Lib.hid (mxF_eq (fun i hi => h1 i (by omega)) (by obtain ⟨i, hi, e⟩ := h2; exact ⟨i, by omega, e⟩))
  clear h1 h2
  obtain ⟨bk, off, rfl, hbw, hc⟩ := h.at_ h0
  have hc' := Lib.hid hc
  have c0 := hc 0 h0
  rw [Nat.add_zero] at c0
  have hn0 : ¬ (n : Int) < 1 := by omega
  have hn1 : (0 : Int) < (n : Int) := by omega
  obtain ⟨m0, hm0⟩ : ∃ m, nth l 0 = m := ⟨_, rfl⟩
  rw [hm0] at c0
  replace hm0 := Lib.hid hm0
  clear hc h
  go_enter Try.func65, Try.ntmps65
  go_wp2
  go_loopw [3, 4] (fun s i wr => ∃ m : Nat, m < n ∧ s = .int .i64 (mxF l m) ∧ i = .int .i64 ((m : Int) + 1) ∧ w = wr) (fun _ i _ => n - (intOf i).toNat)
  case atStart => exact ⟨0, h0, by show _ = Value.int .i64 (nth l 0); rw [hm0.out], rfl, rfl⟩
  case round =>
    clear c0
    obtain ⟨m, hm, rfl, rfl, rfl⟩ := hrel
    by_cases hlt : m + 1 < n
    · have hmi : (m : Int) + 1 < (n : Int) := by omega
      have cm := hc'.out (m + 1) hlt
      have hs : mxF l (m + 1) = if mxF l m < nth l (m + 1) then nth l (m + 1) else mxF l m := rfl
      obtain ⟨y, hy⟩ : ∃ y, nth l (m + 1) = y := ⟨_, rfl⟩
      obtain ⟨s, hs0⟩ : ∃ s, mxF l m = s := ⟨_, rfl⟩
      obtain ⟨z, hz⟩ : ∃ z, mxF l (m + 1) = z := ⟨_, rfl⟩
      rw [hy] at cm
      rw [hz, hy, hs0] at hs
      rw [hs0]
      have i5 : (0 : Int) ≤ (m : Int) + 1 := by omega
      have i7 : ((m : Int) + 1).toNat = m + 1 := by omega
      have hl : (if s < y then y else s) = z := hs.symm
      replace hy := Lib.hid hy
      replace hs0 := Lib.hid hs0
      replace hz := Lib.hid hz
      clear hs
      go_wp2
      exact ⟨⟨m + 1, hlt, by rw [hz.out], by go_num, by first | trivial | rfl⟩, by simp [intOf]; omega⟩
    · have hmi : ¬ (m : Int) + 1 < (n : Int) := by omega
      have e : Hid (mxF l m = M) := Lib.hid (by rw [← hM.out]; congr 1; omega)
      go_wp2
      go_ret
      exact ⟨ret_int e.out, Below.refl _ _⟩

end Go.Proofs.Ytonpnjjfidpoiaa
