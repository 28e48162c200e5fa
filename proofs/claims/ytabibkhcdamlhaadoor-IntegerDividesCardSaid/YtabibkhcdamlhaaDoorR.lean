/-
  Walk over the reference: size.
-/
import Derived.Test.YtabibkhcdamlhaaDoorP
import Derived.Test.YtabibkhcdamlhaaDoorE
import Derived.Deep.QuietTactic
import Derived.BigQuiet
set_option linter.unusedSimpArgs false
set_option linter.unusedVariables false
namespace Go.Proofs.YtabibkhcdamlhaaDoor
open Go.RowKit Num

set_option maxRecDepth 100000 in
set_option maxHeartbeats 1600000 in
/-- Lists of different lengths. -/
theorem size_ne (A : Option Addr) (n c : Nat) (A2 : Option Addr) (n2 c2 : Nat) (w : World) (hne : n ≠ n2) :
    Calls Tryd.prog 67 #[.slice A n c, .slice A2 n2 c2] w fun e w' => e = .returned (.int .i64 (cmpi n n2)) ∧ Below w.heap.size w w' := by
  have h1 : ((n : Int) != (n2 : Int)) = true := by rw [bne_iff_ne]; omega
  rcases Nat.lt_or_gt_of_ne hne with h | h
  · have h2 : cmpi n n2 = -1 := by unfold cmpi; rw [if_pos (by omega)]
    have h3 : (n : Int) < (n2 : Int) := by omega
    rw [h2]
    clear hne
    go_enter Tryd.func67, Tryd.ntmps67
    go_wp2
    go_ret
    exact ⟨rfl, Below.refl _ _⟩
  · have h2 : cmpi n n2 = 1 := by unfold cmpi; rw [if_neg (by omega), if_pos (by omega)]
    have h3 : ¬ (n : Int) < (n2 : Int) := by omega
    rw [h2]
    clear hne
    go_enter Tryd.func67, Tryd.ntmps67
    go_wp2
    go_ret
    exact ⟨rfl, Below.refl _ _⟩

set_option maxRecDepth 100000 in
set_option maxHeartbeats 4000000 in
/-- Lists of the same length. -/
theorem size_eq (A : Option Addr) (n c : Nat) (A2 : Option Addr) (c2 : Nat) (la lb : List Nat) (w : World) (ha : Sl w A n c la) (hb : Sl w A2 n c2 lb) (hn : n ≤ 1000000000) :
    Calls Tryd.prog 67 #[.slice A n c, .slice A2 n c2] w fun e w' =>
      ((e = .returned (.int .i64 0) ∧ ∀ j, j < n → nth la j = nth lb j) ∨
        ∃ i, i < n ∧ e = .returned (.int .i64 (cmpi (nth la i : Nat) (nth lb i : Nat))) ∧ nth la i ≠ nth lb i ∧ ∀ j, i < j → j < n → nth la j = nth lb j) ∧ Below w.heap.size w w' := by
  have h1 : ((n : Int) != (n : Int)) = false := by simp
  go_enter Tryd.func67, Tryd.ntmps67
  go_wp2
  go_loopw [5] (fun i wr => ∃ k : Nat, k ≤ n ∧ (∀ j, k ≤ j → j < n → nth la j = nth lb j) ∧ i = .int .i64 ((k : Int) - 1) ∧ Below w.heap.size w wr) (fun i _ => (intOf i + 1).toNat)
  case atStart => exact ⟨n, Nat.le_refl _, fun j h1 h2 => absurd h2 (by omega), rfl, Below.refl _ _⟩
  case round =>
    obtain ⟨k, hk, hz, rfl, hB⟩ := hrel
    replace ha := ha.below hB (Nat.le_refl _)
    replace hb := hb.below hB (Nat.le_refl _)
    replace hz := Lib.hid hz
    by_cases h0 : 0 < k
    · obtain ⟨j, rfl⟩ : ∃ j, k = j + 1 := ⟨k - 1, by omega⟩
      have hj : (((j + 1 : Nat) : Int) - 1) = (j : Int) := by omega
      rw [hj]
      have hacap := ha.le_cap
      have hacl := ha.cap_le
      have hbcap := hb.le_cap
      have hbcl := hb.cap_le
      obtain ⟨b1, o1, rfl, _, hca⟩ := ha.at_ (by omega)
      obtain ⟨b2, o2, rfl, _, hcb⟩ := hb.at_ (by omega)
      have hcx := hca j (by omega)
      have hcy := hcb j (by omega)
      clear hca hcb
      obtain ⟨x, hx⟩ : ∃ x, nth la j = x := ⟨_, rfl⟩
      obtain ⟨y, hy⟩ : ∃ y, nth lb j = y := ⟨_, rfl⟩
      rw [hx] at hcx
      rw [hy] at hcy
      replace hx := Lib.hid hx
      replace hy := Lib.hid hy
      rcases Nat.lt_trichotomy x y with hlt | heq | hgt
      · have hxy : (x : Int) < (y : Int) := by omega
        go_wp2
        go_quiet (fail)
        go_wp2
        go_ret
        exact ⟨.inr ⟨j, by omega, ret_int (by rw [hx.out, hy.out]; unfold cmpi; rw [if_pos (by omega)]), by rw [hx.out, hy.out]; omega, fun i h1 h2 => hz.out i (by omega) h2⟩, by exact ⟨hB.os, hB.tape, hB.output, hB.size, hB.block⟩⟩
      · subst heq
        have hxy : ¬ (x : Int) < (x : Int) := by omega
        go_wp2
        go_quiet (fail)
        go_wp2
        go_quiet (fail)
        go_wp2
        go_roundw
        case rel => exact ⟨j, by omega, fun i h1 h2 => (by
            by_cases e : i = j
            · rw [e, hx.out, hy.out]
            · exact hz.out i (by omega) h2), by go_num, by exact ⟨hB.os, hB.tape, hB.output, hB.size, hB.block⟩⟩
        case measure => simp [intOf]
      · have hxy : ¬ (x : Int) < (y : Int) := by omega
        have hyx : (y : Int) < (x : Int) := by omega
        go_wp2
        go_quiet (fail)
        go_wp2
        go_quiet (fail)
        go_wp2
        go_ret
        exact ⟨.inr ⟨j, by omega, ret_int (by rw [hx.out, hy.out]; unfold cmpi; rw [if_neg (by omega), if_pos (by omega)]), by rw [hx.out, hy.out]; omega, fun i h1 h2 => hz.out i (by omega) h2⟩, by exact ⟨hB.os, hB.tape, hB.output, hB.size, hB.block⟩⟩
    · obtain rfl : k = 0 := by omega
      go_wp2
      go_ret
      exact ⟨.inl ⟨rfl, fun j hj => hz.out j (Nat.zero_le _) hj⟩, hB⟩

/-- size: the order of two magnitudes. -/
theorem size_any (A : Option Addr) (n c : Nat) (A2 : Option Addr) (n2 c2 ma mb k k2 : Nat) (w : World) (ha : MM w A n c ma k) (hb : MM w A2 n2 c2 mb k2) (hk : k ≤ 1000000000) :
    Calls Tryd.prog 67 #[.slice A n c, .slice A2 n2 c2] w fun e w' => e = .returned (.int .i64 (cmpi ma mb)) ∧ Below w.heap.size w w' := by
  obtain ⟨la, hsa, hca, rfl, hna⟩ := ha
  obtain ⟨lb, hsb, hcb, rfl, hnb⟩ := hb
  by_cases hne : n = n2
  · subst hne
    refine (size_eq A n c A2 c2 la lb w hsa hsb (by omega)).mono ?_
    rintro e w' ⟨⟨rfl, h⟩ | ⟨i, hi, rfl, h1, h2⟩, hB⟩
    · refine ⟨ret_int ?_, hB⟩
      have : val la = val lb := by
        rw [← vs_all la (k := n) (by rw [← hsa.len]; exact Nat.le_refl _), ← vs_all lb (k := n) (by rw [← hsb.len]; exact Nat.le_refl _)]
        exact vs_congr fun j hj => by rw [Nat.zero_add]; exact h j hj
      rw [this]
      simp [cmpi]
    · refine ⟨ret_int ?_, hB⟩
      have htop : la.drop (i + 1) = lb.drop (i + 1) := by
        apply List.ext_getElem
        · rw [List.length_drop, List.length_drop, ← hsa.len, ← hsb.len]
        · intro j g1 g2
          rw [List.length_drop] at g1 g2
          have := h2 (i + 1 + j) (by omega) (by have := hsa.len; omega)
          rw [nth_eq (by omega), nth_eq (by omega)] at this
          simpa using this
      unfold cmpi
      rcases Nat.lt_or_gt_of_ne h1 with h3 | h3
      · have := val_lt_of_top hca.1 i (by rw [← hsa.len]; exact hi) (by rw [← hsa.len, ← hsb.len]) htop h3
        rw [if_pos (by omega), if_pos (by omega)]
      · have := val_lt_of_top hcb.1 i (by rw [← hsb.len]; exact hi) (by rw [← hsa.len, ← hsb.len]) htop.symm h3
        rw [if_neg (by omega), if_pos (by omega), if_neg (by omega), if_pos (by omega)]
  · refine (size_ne A n c A2 n2 c2 w hne).mono ?_
    rintro e w' ⟨rfl, hB⟩
    refine ⟨ret_int ?_, hB⟩
    unfold cmpi
    rcases Nat.lt_or_gt_of_ne hne with h3 | h3
    · have := hca.len_lt hcb (by rw [← hsa.len, ← hsb.len]; exact h3)
      rw [if_pos (by omega), if_pos (by omega)]
    · have := hcb.len_lt hca (by rw [← hsa.len, ← hsb.len]; exact h3)
      rw [if_neg (by omega), if_pos (by omega), if_neg (by omega), if_pos (by omega)]

end Go.Proofs.YtabibkhcdamlhaaDoor
