/-
  Walks: multiply, Mul of package integer.
-/
import Derived.Test.YtalbdjnanmcoeaaDoorJ
import Derived.Test.YtalbdjnanmcoeaaDoorF
namespace Go.Proofs.YtalbdjnanmcoeaaDoor
open Go.RowKit Num

set_option maxRecDepth 100000 in
set_option maxHeartbeats 1600000 in
/-- multiply, where the shorter one has at most 18 groups. -/
theorem multiply_any (A : Option Addr) (n c : Nat) (A2 : Option Addr) (n2 c2 ma mb k k2 : Nat) (w : World) (ha : MM w A n c ma k) (hb : MM w A2 n2 c2 mb k2) (h18 : k ≤ 18 ∨ k2 ≤ 18) (hk : k ≤ 100000000) (hk2 : k2 ≤ 100000000) :
    Calls Tryd.prog 65 #[.slice A n c, .slice A2 n2 c2] w (RetM w (ma * mb) (k + k2)) := by
  have hz1 := Lib.hid ha.len_zero
  have hz2 := Lib.hid hb.len_zero
  obtain ⟨la, hsa, hca, hva, hna⟩ := ha
  obtain ⟨lb, hsb, hcb, hvb, hnb⟩ := hb
  by_cases hle : n2 ≤ n
  · by_cases h0 : n2 = 0
    · have hm : ma * mb = 0 := by rw [hz2.out.1 h0, Nat.mul_zero]
      rw [hm]
      subst h0
      clear hva hvb
      go_enter Tryd.func65, Tryd.ntmps65
      go_wp2
      go_ret
      exact ⟨_, _, _, rfl, FM.nil w _ _, Below.refl _ _⟩
    · have ht : ((n2 : Int) == 0) = false := by simpa using h0
      have h48 : (n2 : Int) < 48 := by omega
      replace hva := Lib.hid hva
      replace hvb := Lib.hid hvb
      go_enter Tryd.func65, Tryd.ntmps65
      go_wp2_with (go_at_call 87; refine (multiplyColumns_any _ _ _ _ _ _ la lb _ hsa hsb hca.1 hcb.1 (by omega) hle (by omega) (by omega)).mono ?_; rintro e w1 ⟨A3, n3, c3, rfl, hm, hbl⟩)
      go_ret
      rw [hva.out, hvb.out] at hm
      exact ⟨_, _, _, rfl, hm.mono (by omega), hbl⟩
  · by_cases h0 : n = 0
    · have hm : ma * mb = 0 := by rw [hz1.out.1 h0, Nat.zero_mul]
      rw [hm]
      subst h0
      clear hva hvb
      go_enter Tryd.func65, Tryd.ntmps65
      go_wp2
      go_ret
      exact ⟨_, _, _, rfl, FM.nil w _ _, Below.refl _ _⟩
    · have ht : ((n : Int) == 0) = false := by simpa using h0
      have h48 : (n : Int) < 48 := by omega
      replace hva := Lib.hid hva
      replace hvb := Lib.hid hvb
      go_enter Tryd.func65, Tryd.ntmps65
      go_wp2_with (go_at_call 87; refine (multiplyColumns_any _ _ _ _ _ _ lb la _ hsb hsa hcb.1 hca.1 (by omega) (by omega) (by omega) (by omega)).mono ?_; rintro e w1 ⟨A3, n3, c3, rfl, hm, hbl⟩)
      go_ret
      rw [hva.out, hvb.out, Nat.mul_comm] at hm
      exact ⟨_, _, _, rfl, hm.mono (by omega), hbl⟩

end Go.Proofs.YtalbdjnanmcoeaaDoor
