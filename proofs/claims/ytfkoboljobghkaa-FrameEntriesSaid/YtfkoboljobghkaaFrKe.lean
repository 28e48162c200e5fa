/-
  Walk: the law's keyed.
-/
import Derived.Test.YtfkoboljobghkaaFrVa
set_option linter.unusedSimpArgs false
set_option linter.unusedVariables false
namespace Go.Proofs.Ytfkoboljobghkaa
open Go.RowKit Go.Shelf

theorem keyB_size {s : ByteArray} (h : ¬ (1 ≤ s.size ∧ s.size ≤ 24)) : keyB s = false := by
  unfold keyB
  rw [win_no.2 (by omega)]
  rfl
theorem keyB_first {s : ByteArray} (h : isLet (byt s 0) = false) : keyB s = false := by
  unfold keyB
  rw [h]
  simp
theorem keyB_other {s : ByteArray} {j : Nat} (hj : j < s.size) (h : isOth (byt s j) = true) : keyB s = false := by
  unfold keyB
  rw [any_txt hj h]
  simp
theorem keyB_yes {s : ByteArray} (h1 : 1 ≤ s.size) (h2 : s.size ≤ 24) (h : ∀ j, j < s.size → (j = 0 → isLet (byt s j) = true) ∧ isOth (byt s j) = false) : keyB s = true := by
  unfold keyB
  rw [win_iff.2 (by omega), (h 0 (by omega)).1 rfl, none_txt (fun j hj => (h j hj).2)]
  rfl

set_option maxRecDepth 100000 in
set_option maxHeartbeats 3200000 in
theorem keyed_any (s : ByteArray) (w : World) (hs : s.size ≤ 1000000000) :
    Calls Try.prog 44 #[.string s] w fun e w' => e = .returned (.bool (keyB s)) ∧ Below w.heap.size w w' := by
  by_cases h1 : s.size < 1
  · have hv : Hid (keyB s = false) := Lib.hid (keyB_size (by omega))
    go_enter Try.func44, Try.ntmps44
    go_wp2
    go_ret
    exact ⟨ret_bool hv.out.symm, Below.refl _ _⟩
  by_cases h2 : 24 < s.size
  · have hv : Hid (keyB s = false) := Lib.hid (keyB_size (by omega))
    go_enter Try.func44, Try.ntmps44
    go_wp2
    go_ret
    exact ⟨ret_bool hv.out.symm, Below.refl _ _⟩
  have h3 : 1 ≤ s.size := by omega
  have h4 : s.size ≤ 24 := by omega
  go_enter Try.func44, Try.ntmps44
  go_wp2
  go_loopw [15] (fun i wr => ∃ k : Nat, k ≤ s.size ∧ i = .int .i64 (k : Int) ∧ Hid (∀ j, j < k → (j = 0 → isLet (byt s j) = true) ∧ isOth (byt s j) = false) ∧ wr = w) (fun i _ => s.size - (intOf i).toNat)
  case atStart => exact ⟨0, Nat.zero_le _, rfl, Lib.hid fun j hj => absurd hj (Nat.not_lt_zero _), rfl⟩
  case round =>
    obtain ⟨k, hk, rfl, h0, rfl⟩ := hrel
    by_cases hlt : k < s.size
    · have hz := byt_get hlt
      by_cases z1 : (s[k]'hlt).toNat < 97
      · skip
        by_cases hk0 : k = 0
        · subst hk0
          have hv : Hid (keyB s = false) := Lib.hid (keyB_first (by rw [hz]; simp [isLet] <;> omega))
          replace hz := Lib.hid hz
          go_wp2
          go_ret
          exact ⟨ret_bool hv.out.symm, Below.refl _ _⟩
        · have hkz : ((k : Int) == 0) = false := by simp; omega
          by_cases z3 : (s[k]'hlt).toNat = 95
          · have hne : (((s[k]'hlt).toNat : Int) != 95) = false := by simp; omega
            have hv : Hid ((k = 0 → isLet (byt s k) = true) ∧ isOth (byt s k) = false) := Lib.hid (by rw [hz]; simp [isLet, isOth] <;> omega)
            replace hk0 := Lib.hid hk0
            replace z3 := Lib.hid z3
            replace hz := Lib.hid hz
            go_wp2
            refine ⟨⟨k + 1, hlt, by go_num, Lib.hid (fun j hj => ?_), trivial⟩, by simp [intOf]; omega⟩
            by_cases e : j = k
            · rw [e]; exact hv.out
            · exact h0.out j (by omega)
          · have hne : (((s[k]'hlt).toNat : Int) != 95) = true := by simp; omega
            by_cases z4 : (s[k]'hlt).toNat < 48
            · have hv : Hid (keyB s = false) := Lib.hid (keyB_other hlt (by rw [hz]; simp [isOth, isLet] <;> omega))
              replace hk0 := Lib.hid hk0
              replace z3 := Lib.hid z3
              replace hz := Lib.hid hz
              go_wp2
              go_ret
              exact ⟨ret_bool hv.out.symm, Below.refl _ _⟩
            by_cases z5 : 57 < (s[k]'hlt).toNat
            · have hv : Hid (keyB s = false) := Lib.hid (keyB_other hlt (by rw [hz]; simp [isOth, isLet] <;> omega))
              replace hk0 := Lib.hid hk0
              replace z3 := Lib.hid z3
              replace hz := Lib.hid hz
              go_wp2
              go_ret
              exact ⟨ret_bool hv.out.symm, Below.refl _ _⟩
            · have hv : Hid ((k = 0 → isLet (byt s k) = true) ∧ isOth (byt s k) = false) := Lib.hid (by rw [hz]; simp [isLet, isOth] <;> omega)
              replace hk0 := Lib.hid hk0
              replace z3 := Lib.hid z3
              replace hz := Lib.hid hz
              go_wp2
              refine ⟨⟨k + 1, hlt, by go_num, Lib.hid (fun j hj => ?_), trivial⟩, by simp [intOf]; omega⟩
              by_cases e : j = k
              · rw [e]; exact hv.out
              · exact h0.out j (by omega)
      by_cases z2 : 122 < (s[k]'hlt).toNat
      · have z2' : ¬ (((s[k]'hlt).toNat : Int) ≤ 122) := by omega
        have z1' : (97 : Int) ≤ ((s[k]'hlt).toNat : Int) := by omega
        have z2d : decide (((s[k]'hlt).toNat : Int) ≤ 122) = false := decide_eq_false z2'
        by_cases hk0 : k = 0
        · subst hk0
          have hv : Hid (keyB s = false) := Lib.hid (keyB_first (by rw [hz]; simp [isLet] <;> omega))
          replace hz := Lib.hid hz
          go_wp2
          go_ret
          exact ⟨ret_bool hv.out.symm, Below.refl _ _⟩
        · have hkz : ((k : Int) == 0) = false := by simp; omega
          by_cases z3 : (s[k]'hlt).toNat = 95
          · have hne : (((s[k]'hlt).toNat : Int) != 95) = false := by simp; omega
            have hv : Hid ((k = 0 → isLet (byt s k) = true) ∧ isOth (byt s k) = false) := Lib.hid (by rw [hz]; simp [isLet, isOth] <;> omega)
            replace hk0 := Lib.hid hk0
            replace z3 := Lib.hid z3
            replace hz := Lib.hid hz
            go_wp2
            refine ⟨⟨k + 1, hlt, by go_num, Lib.hid (fun j hj => ?_), trivial⟩, by simp [intOf]; omega⟩
            by_cases e : j = k
            · rw [e]; exact hv.out
            · exact h0.out j (by omega)
          · have hne : (((s[k]'hlt).toNat : Int) != 95) = true := by simp; omega
            by_cases z4 : (s[k]'hlt).toNat < 48
            · omega
            by_cases z5 : 57 < (s[k]'hlt).toNat
            · have hv : Hid (keyB s = false) := Lib.hid (keyB_other hlt (by rw [hz]; simp [isOth, isLet] <;> omega))
              replace hk0 := Lib.hid hk0
              replace z3 := Lib.hid z3
              replace hz := Lib.hid hz
              go_wp2
              go_ret
              exact ⟨ret_bool hv.out.symm, Below.refl _ _⟩
            · omega
      have hv : Hid ((k = 0 → isLet (byt s k) = true) ∧ isOth (byt s k) = false) := Lib.hid (by rw [hz]; simp [isLet, isOth] <;> omega)
      replace hz := Lib.hid hz
      go_wp2
      refine ⟨⟨k + 1, hlt, by go_num, Lib.hid (fun j hj => ?_), trivial⟩, by simp [intOf]; omega⟩
      by_cases e : j = k
      · rw [e]; exact hv.out
      · exact h0.out j (by omega)
    · obtain rfl : k = s.size := by omega
      have hv : Hid (keyB s = true) := Lib.hid (keyB_yes h3 h4 h0.out)
      go_wp2
      go_ret
      exact ⟨ret_bool hv.out.symm, Below.refl _ _⟩

end Go.Proofs.Ytfkoboljobghkaa
