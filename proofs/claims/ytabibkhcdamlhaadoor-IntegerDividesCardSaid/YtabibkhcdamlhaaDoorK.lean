/-
  Walks: multiply, Mul of package integer.
-/
import Derived.Test.YtabibkhcdamlhaaDoorJ
import Derived.Test.YtabibkhcdamlhaaDoorF
set_option linter.unusedSimpArgs false
set_option linter.unusedVariables false
namespace Go.Proofs.YtabibkhcdamlhaaDoor
open Go.RowKit Num

set_option maxRecDepth 100000 in
set_option maxHeartbeats 1600000 in
/-- multiply, where the shorter one has at most 18 groups. -/
theorem multiply_any (A : Option Addr) (n c : Nat) (A2 : Option Addr) (n2 c2 ma mb k k2 : Nat) (w : World) (ha : MM w A n c ma k) (hb : MM w A2 n2 c2 mb k2) (h18 : k ≤ 18 ∨ k2 ≤ 18) (hk : k ≤ 100000000) (hk2 : k2 ≤ 100000000) :
    Calls Tryd.prog 65 #[.slice A n c, .slice A2 n2 c2] w (RetM w (ma * mb) (k + k2)) := by
  have hz1 := Lib.hid ha.len_zero
  have hz2 := Lib.hid hb.len_zero
  obtain ⟨la, hsa, hca, hva, hna⟩ := ha
  obtain ⟨lb, hsb, hcb, hvb, hnb⟩ := hb
  by_cases hle : n2 ≤ n
  · by_cases h0 : n2 = 0
    · have hm : ma * mb = 0 := by rw [hz2.out.1 h0, Nat.mul_zero]
      rw [hm]
      subst h0
      clear hva hvb
      go_enter Tryd.func65, Tryd.ntmps65
      go_wp2
      go_ret
      exact ⟨_, _, _, rfl, FM.nil w _ _, Below.refl _ _⟩
    · have ht : ((n2 : Int) == 0) = false := by simpa using h0
      have h48 : (n2 : Int) < 48 := by omega
      replace hva := Lib.hid hva
      replace hvb := Lib.hid hvb
      go_enter Tryd.func65, Tryd.ntmps65
      go_wp2_with (go_at_call 87; refine (multiplyColumns_any _ _ _ _ _ _ la lb _ hsa hsb hca.1 hcb.1 (by omega) hle (by omega) (by omega)).mono ?_; rintro e w1 ⟨A3, n3, c3, rfl, hm, hbl⟩)
      go_ret
      rw [hva.out, hvb.out] at hm
      exact ⟨_, _, _, rfl, hm.mono (by omega), hbl⟩
  · by_cases h0 : n = 0
    · have hm : ma * mb = 0 := by rw [hz1.out.1 h0, Nat.zero_mul]
      rw [hm]
      subst h0
      clear hva hvb
      go_enter Tryd.func65, Tryd.ntmps65
      go_wp2
      go_ret
      exact ⟨_, _, _, rfl, FM.nil w _ _, Below.refl _ _⟩
    · have ht : ((n : Int) == 0) = false := by simpa using h0
      have h48 : (n : Int) < 48 := by omega
      replace hva := Lib.hid hva
      replace hvb := Lib.hid hvb
      go_enter Tryd.func65, Tryd.ntmps65
      go_wp2_with (go_at_call 87; refine (multiplyColumns_any _ _ _ _ _ _ lb la _ hsb hsa hcb.1 hca.1 (by omega) (by omega) (by omega) (by omega)).mono ?_; rintro e w1 ⟨A3, n3, c3, rfl, hm, hbl⟩)
      go_ret
      rw [hva.out, hvb.out, Nat.mul_comm] at hm
      exact ⟨_, _, _, rfl, hm.mono (by omega), hbl⟩

end Go.Proofs.YtabibkhcdamlhaaDoor

/-
  Walk: Mul of package integer.
-/
namespace Go.Proofs.YtabibkhcdamlhaaDoor
open Go.RowKit Num

theorem sgnd_mul' (a b : Bool) (m n : Nat) : sgnd (!a == b) (m * n) = sgnd a m * sgnd b n := by
  unfold sgnd
  cases a <;> cases b <;> simp [Int.mul_neg, Int.neg_mul]
theorem sgnd_mul {a b : Bool} {x y : Int} (hx : sgnd a x.natAbs = x) (hy : sgnd b y.natAbs = y) : sgnd (!a == b) (x.natAbs * y.natAbs) = x * y := by
  rw [sgnd_mul', hx, hy]

set_option maxRecDepth 100000 in
set_option maxHeartbeats 4000000 in
/-- Mul, where one of the two has at most 18 groups. -/
theorem Mul_any (neg : Bool) (A : Option Addr) (n c : Nat) (x : Int) (neg2 : Bool) (A2 : Option Addr) (n2 c2 : Nat) (y : Int) (k k2 : Nat) (w : World) (hx : VI w neg A n c x k) (hy : VI w neg2 A2 n2 c2 y k2) (h18 : k ≤ 18 ∨ k2 ≤ 18) (hk : k ≤ 100000000) (hk2 : k2 ≤ 100000000) :
    Calls Tryd.prog 32 #[.agg #[.bool neg, .slice A n c], .agg #[.bool neg2, .slice A2 n2 c2]] w (RetZ w (x * y) (k + k2)) := by
  have hb1 := ((Below.refl w.heap.size w).alloc (Nat.le_refl _) (.cells #[.bool neg, .slice A n c] 24)).alloc (by simp) (.cells #[.bool neg2, .slice A2 n2 c2] 24)
  have hb0 := hb1.alloc (by simp <;> omega) (.cells #[.bool false, .slice none 0 0] 24)
  clear hb1
  have tok1 : True := trivial
  go_enter Tryd.func32, Tryd.ntmps32
  go_wp2
  go_region_with (first | (go_at_call 50; have _t := tok1; clear tok1 _t; (refine (counted_old _ _ _ _ _ _ w _ hx (by first | exact hb0 | exact hb0.drew) (by omega)).mono ?_; rintro e w1 ⟨neg1, A1, n1, c1, rfl, hi1, hb2⟩; replace hb2 := undrew hb2; have hbw1 := hb0.trans (hb2.mono (by simp <;> omega)); obtain ⟨⟨d1, d2, d3, d4, d5, d6⟩, ⟨e1, e2, e3, e4, e5, e6⟩, hsz⟩ := box3s hb2)) | (go_at_call 50; refine (counted_old _ _ _ _ _ _ w _ hy (by first | exact hbw1 | exact hbw1.drew) (by omega)).mono ?_; rintro e w2 ⟨neg3, A3, n3, c3, rfl, hi2, hb3⟩; have hb4 := btr hb2 hb3; have hbw2 := hb0.trans (hb4.mono (by simp <;> omega)); clear d1 d2 d3 d4 d5 d6 e1 e2 e3 e4 e5 e6 hsz; obtain ⟨⟨d1, d2, d3, d4, d5, d6⟩, ⟨e1, e2, e3, e4, e5, e6⟩, hsz⟩ := box3s hb4))
  all_goals
    have hlt1 : w.heap.size < w2.heap.size := by omega
    have hlt2 : w.heap.size + 1 < w2.heap.size := by omega
    have hlt3 : w.heap.size + 1 + 1 < w2.heap.size := by omega
    go_wp2
    go_region_held3 (fun w' => w'.cell? ⟨w.heap.size, 0, none⟩ = some (.bool neg1) ∧ w'.cell? ⟨w.heap.size, 1, none⟩ = some (.slice A1 n1 c1) ∧ w'.cell? ⟨w.heap.size + 1, 0, none⟩ = some (.bool neg3) ∧ w'.cell? ⟨w.heap.size + 1, 1, none⟩ = some (.slice A3 n3 c3))
      (first | (simp [go_sem, d1, d2, d3, d4]; done) | (simp [go_sem, hcc6, d1, d2, d3, d4, hlt1, hlt2, hlt3]; done) | (simp [go_sem, hcc5, d1, d2, d3, d4, hlt1, hlt2, hlt3]; done))
      (first | (go_at_call 65; refine (multiply_any _ _ _ _ _ _ x.natAbs y.natAbs k k2 _ (by refine hi1.mm.below ?_; repeat (first | exact hbw2 | refine Below.drew ?_ | refine Below.setCell ?_ (by simp) _)) (by refine hi2.mm.below ?_; repeat (first | exact hbw2 | refine Below.drew ?_ | refine Below.setCell ?_ (by simp) _)) h18 hk hk2).mono ?_; rintro e w3 ⟨A5, n5, c5, rfl, hm5, hb5⟩; replace hb5 := undrew hb5; obtain ⟨hcc5, hff5, hsz5⟩ := old3 hb5; simp only [World.size_setCell] at hsz5) | (go_at_call 52; refine (signed_mm _ _ _ _ _ _ _ hm5.mm (by omega)).mono ?_; rintro e w4 ⟨neg7, A7, n7, c7, rfl, hi7, hb7⟩; replace hb7 := btr hb5 hb7; obtain ⟨hcc6, hff6, hsz6⟩ := old3 hb7; simp only [World.size_setCell] at hsz6))
    go_wp2
    have d7 : w4.cell? ⟨w.heap.size + 1 + 1, 0, none⟩ = some (.bool false) := by rw [hcc6 _ _ (by simp <;> omega)]; simp [go_sem, d5]
    have d8 : w4.cell? ⟨w.heap.size + 1 + 1, 1, none⟩ = some (.slice none 0 0) := by rw [hcc6 _ _ (by simp <;> omega)]; simp [go_sem, d6]
    refine bodyPost_ret (v := .agg #[.bool neg7, .slice A7 n7 c7]) (by simp [results, Tryd.results32, go_sem, d7, d8]) rfl ?_
    rw [sgnd_mul hi1.sgnd hi2.sgnd] at hi7
    exact RetZ.close0 hi7 (by refine Below.trans ?_ (hb7.mono (by simp <;> omega)); repeat (first | exact hbw2 | refine Below.setCell ?_ (by simp <;> omega) _)) (by omega) d7 d8

end Go.Proofs.YtabibkhcdamlhaaDoor
