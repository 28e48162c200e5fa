/-
  Walks: Sign, Compare of package integer; Sign, Compare of the reference.
-/
import Derived.Test.YtabibkhcdamlhaaDoorF
import Derived.Test.YtabibkhcdamlhaaDoorT
import Derived.Deep.Cut
set_option linter.unusedSimpArgs false
set_option linter.unusedVariables false
namespace Go.Proofs.YtabibkhcdamlhaaDoor
open Go.RowKit Num

theorem sign_pos' {z : Int} (h : 0 < z) : z.sign = 1 := Int.sign_eq_one_of_pos h
theorem sign_neg' {z : Int} (h : z < 0) : z.sign = -1 := Int.sign_eq_neg_one_of_neg h

set_option maxRecDepth 100000 in
set_option maxHeartbeats 1600000 in
/-- Sign. -/
theorem Sign_any (neg : Bool) (A : Option Addr) (n c : Nat) (z : Int) (k : Nat) (w : World) (s : Int) (hs : z.sign = s) (h : VI w neg A n c z k) (hk : k ≤ 1000000000) :
    Calls Tryd.prog 16 #[.agg #[.bool neg, .slice A n c]] w fun e w' => e = .returned (.int .i64 s) ∧ Below w.heap.size w w' := by
  have hb1 := (Below.refl w.heap.size w).alloc (Nat.le_refl _) (.cells #[.bool neg, .slice A n c] 24)
  go_enter Tryd.func16, Tryd.ntmps16
  go_upto_region 2 with (first | (go_at_call 50; refine (counted_any _ _ _ _ z k _ (h.below hb1) hk).mono ?_; rintro e w1 ⟨neg1, A1, n1, c1, rfl, hi1, hb3⟩; obtain ⟨⟨d1, d2⟩, ⟨e1, e2⟩, hsz⟩ := box1s hb3; have hb4 := hb1.trans (hb3.mono (by simp))))
  have hz := hi1.neg_iff
  have hl := hi1.len_zero
  by_cases hn : z < 0
  · obtain rfl : neg1 = true := hz.2 hn
    obtain rfl := (sign_neg' hn).symm.trans hs
    clear hs
    go_wp2
    go_ret
    exact ⟨rfl, (by repeat (first | exact hb4 | refine Below.drew ?_ | refine Below.setCell ?_ (by first | (dsimp only; omega) | (simp <;> omega)) _))⟩
  · obtain rfl : neg1 = false := by
      cases neg1
      · rfl
      · exact (hn (hz.1 rfl)).elim
    by_cases h0 : n1 = 0
    · obtain rfl := hl.1 h0
      subst h0
      simp only [Int.sign_zero] at hs
      subst hs
      go_wp2
      go_ret
      exact ⟨rfl, (by repeat (first | exact hb4 | refine Below.drew ?_ | refine Below.setCell ?_ (by first | (dsimp only; omega) | (simp <;> omega)) _))⟩
    · have hz0 : z ≠ 0 := fun e => h0 (hl.2 e)
      have hp : 0 < z := by omega
      have hpi : (0 : Int) < (n1 : Int) := by omega
      obtain rfl := (sign_pos' hp).symm.trans hs
      clear hs
      go_wp2
      go_ret
      exact ⟨rfl, (by repeat (first | exact hb4 | refine Below.drew ?_ | refine Below.setCell ?_ (by first | (dsimp only; omega) | (simp <;> omega)) _))⟩

set_option maxRecDepth 100000 in
set_option maxHeartbeats 1600000 in
/-- Sign of the reference. -/
theorem rSign_any (neg : Bool) (A : Option Addr) (n c : Nat) (z : Int) (k : Nat) (w : World) (s : Int) (hs : z.sign = s) (h : VI w neg A n c z k) (hk : k ≤ 1000000000) :
    Calls Tryd.prog 17 #[.agg #[.bool neg, .slice A n c]] w fun e w' => e = .returned (.int .i64 s) ∧ Below w.heap.size w w' := by
  have hb1 := (Below.refl w.heap.size w).alloc (Nat.le_refl _) (.cells #[.bool neg, .slice A n c] 24)
  go_enter Tryd.func17, Tryd.ntmps17
  go_upto_region 2 with (first | (go_at_call 13; refine (Value_any _ _ _ _ z k _ (h.below hb1) hk).mono ?_; rintro e w1 ⟨neg1, A1, n1, c1, rfl, hi1, hb3⟩; obtain ⟨⟨d1, d2⟩, ⟨e1, e2⟩, hsz⟩ := box1s hb3; have hb4 := hb1.trans (hb3.mono (by simp))))
  have hz := hi1.neg_iff
  have hl := hi1.len_zero
  by_cases hn : z < 0
  · obtain rfl : neg1 = true := hz.2 hn
    obtain rfl := (sign_neg' hn).symm.trans hs
    clear hs
    go_wp2
    go_ret
    exact ⟨rfl, (by repeat (first | exact hb4 | refine Below.drew ?_ | refine Below.setCell ?_ (by first | (dsimp only; omega) | (simp <;> omega)) _))⟩
  · obtain rfl : neg1 = false := by
      cases neg1
      · rfl
      · exact (hn (hz.1 rfl)).elim
    by_cases h0 : n1 = 0
    · obtain rfl := hl.1 h0
      subst h0
      simp only [Int.sign_zero] at hs
      subst hs
      go_wp2
      go_ret
      exact ⟨rfl, (by repeat (first | exact hb4 | refine Below.drew ?_ | refine Below.setCell ?_ (by first | (dsimp only; omega) | (simp <;> omega)) _))⟩
    · have hz0 : z ≠ 0 := fun e => h0 (hl.2 e)
      have hp : 0 < z := by omega
      have hpi : (0 : Int) < (n1 : Int) := by omega
      obtain rfl := (sign_pos' hp).symm.trans hs
      clear hs
      go_wp2
      go_ret
      exact ⟨rfl, (by repeat (first | exact hb4 | refine Below.drew ?_ | refine Below.setCell ?_ (by first | (dsimp only; omega) | (simp <;> omega)) _))⟩

theorem cmpi_same {a b : Bool} {x y : Int} (ha : a = true ↔ x < 0) (hb : b = true ↔ y < 0) : (a = true → b = true → (cmpi (y.natAbs : Nat) (x.natAbs : Nat)) = (x - y).sign) ∧ (a = false → b = false → (cmpi (x.natAbs : Nat) (y.natAbs : Nat)) = (x - y).sign) := by
  constructor
  · intro h1 h2
    have h1 := ha.1 h1
    have h2 := hb.1 h2
    unfold cmpi
    rcases Int.lt_trichotomy x y with h | h | h
    · rw [sign_neg' (by omega)]; simp <;> omega
    · subst h; simp
    · rw [sign_pos' (by omega)]; simp <;> omega
  · intro h1 h2
    have h1 : ¬ x < 0 := fun e => by rw [ha.2 e] at h1; cases h1
    have h2 : ¬ y < 0 := fun e => by rw [hb.2 e] at h2; cases h2
    unfold cmpi
    rcases Int.lt_trichotomy x y with h | h | h
    · rw [sign_neg' (by omega)]; simp <;> omega
    · subst h; simp
    · rw [sign_pos' (by omega)]; simp <;> omega

set_option maxRecDepth 100000 in
set_option maxHeartbeats 4000000 in
/-- Compare. -/
theorem Compare_any (neg : Bool) (A : Option Addr) (n c : Nat) (x : Int) (neg2 : Bool) (A2 : Option Addr) (n2 c2 : Nat) (y : Int) (k : Nat) (w : World) (s : Int) (hs : (x - y).sign = s) (hx : VI w neg A n c x k) (hy : VI w neg2 A2 n2 c2 y k) (hk : k ≤ 100000000) :
    Calls Tryd.prog 38 #[.agg #[.bool neg, .slice A n c], .agg #[.bool neg2, .slice A2 n2 c2]] w fun e w' => e = .returned (.int .i64 s) ∧ Below w.heap.size w w' := by
  have hb0 := ((Below.refl w.heap.size w).alloc (Nat.le_refl _) (.cells #[.bool neg, .slice A n c] 24)).alloc (by simp) (.cells #[.bool neg2, .slice A2 n2 c2] 24)
  have tok1 : True := trivial
  go_enter Tryd.func38, Tryd.ntmps38
  go_wp2
  go_region_with (first | (go_at_call 50; have _t := tok1; clear tok1 _t; (refine (counted_old _ _ _ _ _ _ w _ hx (by first | exact hb0 | exact hb0.drew) (by omega)).mono ?_; rintro e w1 ⟨neg1, A1, n1, c1, rfl, hi1, hb2⟩; replace hb2 := undrew hb2; have hbw1 := hb0.trans (hb2.mono (by simp <;> omega)); obtain ⟨⟨d1, d2, d3, d4⟩, ⟨e1, e2, e3, e4⟩, hsz⟩ := box2s hb2)) | (go_at_call 50; refine (counted_old _ _ _ _ _ _ w _ hy (by first | exact hbw1 | exact hbw1.drew) (by omega)).mono ?_; rintro e w2 ⟨neg3, A3, n3, c3, rfl, hi2, hb3⟩; have hb4 := btr hb2 hb3; have hbw2 := hb0.trans (hb4.mono (by simp <;> omega)); clear d1 d2 d3 d4 e1 e2 e3 e4 hsz; obtain ⟨⟨d1, d2, d3, d4⟩, ⟨e1, e2, e3, e4⟩, hsz⟩ := box2s hb4))
  all_goals
    have hlt1 : w.heap.size < w2.heap.size := by omega
    have hlt2 : w.heap.size + 1 < w2.heap.size := by omega
    have hcmp := cmpi_same hi1.neg_iff hi2.neg_iff
    have hn1 := hi1.neg_iff
    have hn2 := hi2.neg_iff
    cases neg1 <;> cases neg3
    · obtain rfl := (hcmp.2 rfl rfl).trans hs
      clear hcmp hn1 hn2 hs
      go_wp2_with (go_at_call 73; refine (compareGroups_any _ _ _ _ _ _ _ _ k k _ (by refine hi1.mm.below ?_; repeat (first | exact hbw2 | refine Below.drew ?_ | refine Below.setCell ?_ (by first | (dsimp only; omega) | (simp <;> omega)) _)) (by refine hi2.mm.below ?_; repeat (first | exact hbw2 | refine Below.drew ?_ | refine Below.setCell ?_ (by first | (dsimp only; omega) | (simp <;> omega)) _)) (by omega)).mono ?_; rintro e w3 ⟨rfl, hb5⟩)
      go_ret
      exact ⟨rfl, Below.trans (by repeat (first | exact hbw2 | refine Below.drew ?_ | refine Below.setCell ?_ (by first | (dsimp only; omega) | (simp <;> omega)) _)) (hb5.mono (by have := hbw2.size; simp <;> omega))⟩
    · have e1 : (x - y).sign = 1 := sign_pos' (by have := hn2.1 rfl; have : ¬ x < 0 := fun e => (by cases hn1.2 e); omega)
      obtain rfl := e1.symm.trans hs
      clear hcmp hn1 hn2 e1 hs
      go_wp2
      go_ret
      exact ⟨rfl, by repeat (first | exact hbw2 | refine Below.drew ?_ | refine Below.setCell ?_ (by first | (dsimp only; omega) | (simp <;> omega)) _)⟩
    · have e1 : (x - y).sign = -1 := sign_neg' (by have := hn1.1 rfl; have : ¬ y < 0 := fun e => (by cases hn2.2 e); omega)
      obtain rfl := e1.symm.trans hs
      clear hcmp hn1 hn2 e1 hs
      go_wp2
      go_ret
      exact ⟨rfl, by repeat (first | exact hbw2 | refine Below.drew ?_ | refine Below.setCell ?_ (by first | (dsimp only; omega) | (simp <;> omega)) _)⟩
    · obtain rfl := (hcmp.1 rfl rfl).trans hs
      clear hcmp hn1 hn2 hs
      go_wp2_with (go_at_call 73; refine (compareGroups_any _ _ _ _ _ _ _ _ k k _ (by refine hi2.mm.below ?_; repeat (first | exact hbw2 | refine Below.drew ?_ | refine Below.setCell ?_ (by first | (dsimp only; omega) | (simp <;> omega)) _)) (by refine hi1.mm.below ?_; repeat (first | exact hbw2 | refine Below.drew ?_ | refine Below.setCell ?_ (by first | (dsimp only; omega) | (simp <;> omega)) _)) (by omega)).mono ?_; rintro e w3 ⟨rfl, hb5⟩)
      go_ret
      exact ⟨rfl, Below.trans (by repeat (first | exact hbw2 | refine Below.drew ?_ | refine Below.setCell ?_ (by first | (dsimp only; omega) | (simp <;> omega)) _)) (hb5.mono (by have := hbw2.size; simp <;> omega))⟩

set_option maxRecDepth 100000 in
set_option maxHeartbeats 1600000 in
/-- Compare of the reference. -/
theorem rCompare_any (neg : Bool) (A : Option Addr) (n c : Nat) (x : Int) (neg2 : Bool) (A2 : Option Addr) (n2 c2 : Nat) (y : Int) (k : Nat) (w : World) (hx : VI w neg A n c x k) (hy : VI w neg2 A2 n2 c2 y k) (hk : k ≤ 100000000) :
    Calls Tryd.prog 41 #[.agg #[.bool neg, .slice A n c], .agg #[.bool neg2, .slice A2 n2 c2]] w fun e w' => e = .returned (.int .i64 (x - y).sign) ∧ Below w.heap.size w w' := by
  have hb0 := ((Below.refl w.heap.size w).alloc (Nat.le_refl _) (.cells #[.bool neg, .slice A n c] 24)).alloc (by simp) (.cells #[.bool neg2, .slice A2 n2 c2] 24)
  go_enter Tryd.func41, Tryd.ntmps41
  go_wp2_with (first | (go_at_call 34; refine (rSub_any _ _ _ _ x _ _ _ _ y k _ (hx.below hb0) (hy.below hb0) hk).mono ?_; rintro e w1 ⟨neg1, A1, n1, c1, rfl, hi1, hb2⟩; have hb3 := hb0.trans (hb2.mono (by simp <;> omega))) | (go_at_call 17; refine (rSign_any _ _ _ _ (x - y) (k + 1) _ _ rfl hi1.vi (by omega)).mono ?_; rintro e w2 ⟨rfl, hb4⟩))
  go_ret
  exact ⟨rfl, hb3.trans (hb4.mono hb3.size)⟩

/-- The same, the sign named. -/
theorem Sign_c {neg : Bool} {A : Option Addr} {n c : Nat} {z : Int} {k : Nat} {w : World} {s : Int} (hs : z.sign = s) (h : VI w neg A n c z k) (hk : k ≤ 1000000000) :
    Calls Tryd.prog 16 #[.agg #[.bool neg, .slice A n c]] w fun e w' => e = .returned (.int .i64 s) ∧ Below w.heap.size w w' := Sign_any neg A n c z k w s hs h hk
theorem rSign_c {neg : Bool} {A : Option Addr} {n c : Nat} {z : Int} {k : Nat} {w : World} {s : Int} (hs : z.sign = s) (h : VI w neg A n c z k) (hk : k ≤ 1000000000) :
    Calls Tryd.prog 17 #[.agg #[.bool neg, .slice A n c]] w fun e w' => e = .returned (.int .i64 s) ∧ Below w.heap.size w w' := rSign_any neg A n c z k w s hs h hk
theorem Compare_c {neg : Bool} {A : Option Addr} {n c : Nat} {x : Int} {neg2 : Bool} {A2 : Option Addr} {n2 c2 : Nat} {y : Int} {k : Nat} {w : World} {s : Int} (hs : (x - y).sign = s) (hx : VI w neg A n c x k) (hy : VI w neg2 A2 n2 c2 y k) (hk : k ≤ 100000000) :
    Calls Tryd.prog 38 #[.agg #[.bool neg, .slice A n c], .agg #[.bool neg2, .slice A2 n2 c2]] w fun e w' => e = .returned (.int .i64 s) ∧ Below w.heap.size w w' := Compare_any neg A n c x neg2 A2 n2 c2 y k w s hs hx hy hk
theorem rCompare_c {neg : Bool} {A : Option Addr} {n c : Nat} {x : Int} {neg2 : Bool} {A2 : Option Addr} {n2 c2 : Nat} {y : Int} {k : Nat} {w : World} {s : Int} (hs : (x - y).sign = s) (hx : VI w neg A n c x k) (hy : VI w neg2 A2 n2 c2 y k) (hk : k ≤ 100000000) :
    Calls Tryd.prog 41 #[.agg #[.bool neg, .slice A n c], .agg #[.bool neg2, .slice A2 n2 c2]] w fun e w' => e = .returned (.int .i64 s) ∧ Below w.heap.size w w' := hs ▸ rCompare_any neg A n c x neg2 A2 n2 c2 y k w hx hy hk

end Go.Proofs.YtabibkhcdamlhaaDoor
