/-
  Walks: added, Add, Sub of package integer.
-/
import Derived.Test.YtabibkhcdamlhaaDoorC
import Derived.Test.YtabibkhcdamlhaaDoorE
import Derived.Deep.RegionHeld3
set_option linter.unusedSimpArgs false
set_option linter.unusedVariables false
namespace Go.Proofs.YtabibkhcdamlhaaDoor
open Go.RowKit Num

/-- signed at a canonical magnitude. -/
theorem signed_mm (neg : Bool) (A : Option Addr) (n c m k : Nat) (w : World) (h : MM w A n c m k) (hk : k ≤ 1000000000) :
    Calls Tryd.prog 52 #[.bool neg, .slice A n c] w (RetZ w (sgnd neg m) k) := by
  obtain ⟨l, hs, hc, rfl, hn⟩ := h
  refine (signed_any neg A n c l w hs hc.1 (by omega)).mono ?_
  rintro e w' ⟨n1, A1, n2, c2, rfl, h1, h2⟩
  exact ⟨n1, A1, n2, c2, rfl, h1.mono hn, h2⟩

theorem II.sgnd {w : World} {neg : Bool} {A : Option Addr} {n c k : Nat} {z : Int} (h : II w neg A n c z k) : sgnd neg z.natAbs = z := by
  obtain ⟨l, h1, h2, h3, h4⟩ := h
  rw [← h3, sval_natAbs]
  rfl

set_option maxRecDepth 100000 in
set_option maxHeartbeats 1600000 in
/-- added: x and the number with a sign and a magnitude. -/
theorem added_any (neg : Bool) (A : Option Addr) (n c : Nat) (z : Int) (neg2 : Bool) (A2 : Option Addr) (n2 c2 m k : Nat) (w : World) (hx : II w neg A n c z k) (hg : MM w A2 n2 c2 m k) (hk : k ≤ 100000000) :
    Calls Tryd.prog 55 #[.agg #[.bool neg, .slice A n c], .bool neg2, .slice A2 n2 c2] w (RetZ w (z + sgnd neg2 m) (k + 1)) := by
  have hz := Lib.hid hx.sgnd
  have hmx := hx.mm
  obtain ⟨m1, hm1⟩ : ∃ m1, z.natAbs = m1 := ⟨_, rfl⟩
  rw [hm1] at hmx
  have hz' : Hid (sgnd neg m1 = z) := by rw [← hm1]; exact hz
  clear hz hm1
  have hb1 := (Below.refl w.heap.size w).alloc (Nat.le_refl _) (.cells #[.bool neg, .slice A n c] 24)
  have hb2 := hb1.alloc (by simp) (.cells #[.bool false, .slice none 0 0] 24)
  have hx2 := hmx.below hb2
  have hg2 := hg.below hb2
  by_cases hs : neg = neg2
  · subst hs
    have ht : (neg == neg) = true := by simp
    go_enter Tryd.func55, Tryd.ntmps55
    go_wp2_with (first | (go_at_call 70; refine (sum_any _ _ _ _ _ _ _ _ _ _ hx2 hg2 hk).mono ?_; rintro e w1 ⟨A1, n1, c1, rfl, hm1, hb3⟩; obtain ⟨hcc, hff, hsz⟩ := old3 hb3; simp only [World.size_alloc] at hsz) | (go_at_call 52; refine (signed_mm _ _ _ _ _ _ _ hm1.mm (by omega)).mono ?_; rintro e w2 ⟨neg1, A3, n3, c3, rfl, hi1, hb4⟩; have hb5 := btr hb3 hb4; clear hcc hff hsz; obtain ⟨hcc, hff, hsz⟩ := old3 hb5; simp only [World.size_alloc] at hsz))
    refine bodyPost_ret (v := .agg #[.bool neg1, .slice A3 n3 c3]) (by simp [results, Tryd.results55, go_sem, hcc]) rfl ?_
    have e1 : z + sgnd neg m = sgnd neg (m1 + m) := by rw [← hz'.out]; unfold sgnd; split <;> omega
    rw [e1]
    exact RetZ.close0 hi1 (hb2.trans (hb5.mono (by simp <;> omega))) (by simp) (by simp [go_sem, hcc]) (by simp [go_sem, hcc])
  · have ht : (neg == neg2) = false := by simpa using hs
    have hneg : neg2 = !neg := by cases neg <;> cases neg2 <;> simp at hs ⊢
    subst hneg
    by_cases hlt : m1 < m
    · have hc : cmpi (m1 : Int) (m : Int) = -1 := by unfold cmpi; rw [if_pos (by omega)]
      go_enter Tryd.func55, Tryd.ntmps55
      go_wp2_with (first | (go_at_call 73; refine (compareGroups_any _ _ _ _ _ _ _ _ _ _ _ hx2 hg2 (by omega)).mono ?_; rintro e w1 ⟨rfl, hb3⟩; rw [hc]; obtain ⟨hcc, hff, hsz⟩ := old3 hb3; simp only [World.size_alloc] at hsz; have hx3 := hx2.below hb3; have hg3 := hg2.below hb3) | (go_at_call 71; refine (difference_any _ _ _ _ _ _ _ _ _ _ _ hg3 hx3 (by omega) (by omega)).mono ?_; rintro e w2 ⟨A1, n1, c1, rfl, hm1, hb4⟩; have hb5 := btr hb3 hb4; clear hcc hff hsz; obtain ⟨hcc, hff, hsz⟩ := old3 hb5; simp only [World.size_alloc] at hsz) | (go_at_call 52; refine (signed_mm _ _ _ _ _ _ _ hm1.mm (by omega)).mono ?_; rintro e w3 ⟨neg1, A3, n3, c3, rfl, hi1, hb6⟩; have hb7 := btr hb5 hb6; clear hcc hff hsz; obtain ⟨hcc, hff, hsz⟩ := old3 hb7; simp only [World.size_alloc] at hsz))
      refine bodyPost_ret (v := .agg #[.bool neg1, .slice A3 n3 c3]) (by simp [results, Tryd.results55, go_sem, hcc]) rfl ?_
      have e1 : z + sgnd (!neg) m = sgnd (!neg) (m - m1) := by rw [← hz'.out]; unfold sgnd; cases neg <;> simp <;> omega
      rw [e1]
      exact RetZ.close0 (hi1.mono (by omega)) (hb2.trans (hb7.mono (by simp <;> omega))) (by simp) (by simp [go_sem, hcc]) (by simp [go_sem, hcc])
    · obtain ⟨q, hq⟩ : ∃ q, cmpi (m1 : Int) (m : Int) = q := ⟨_, rfl⟩
      have hq0 : 0 ≤ q := by rw [← hq]; unfold cmpi; rw [if_neg (by omega)]; split <;> omega
      replace hq := Lib.hid hq
      go_enter Tryd.func55, Tryd.ntmps55
      go_wp2_with (first | (go_at_call 73; refine (compareGroups_any _ _ _ _ _ _ _ _ _ _ _ hx2 hg2 (by omega)).mono ?_; rintro e w1 ⟨rfl, hb3⟩; rw [hq.out]; obtain ⟨hcc, hff, hsz⟩ := old3 hb3; simp only [World.size_alloc] at hsz; have hx3 := hx2.below hb3; have hg3 := hg2.below hb3))
      go_region_with (first | (go_at_call 71; refine (difference_any _ _ _ _ _ _ _ _ _ _ _ (by exact hx3) (by exact hg3) (by omega) (by omega)).mono ?_; rintro e w2 ⟨A1, n1, c1, rfl, hm1, hb4⟩; have hb5 := btr hb3 (undrew hb4); clear hcc hff hsz; obtain ⟨hcc, hff, hsz⟩ := old3 hb5; simp only [World.size_alloc] at hsz) | (go_at_call 52; refine (signed_mm _ _ _ _ _ _ _ hm1.mm (by omega)).mono ?_; rintro e w3 ⟨neg1, A3, n3, c3, rfl, hi1, hb6⟩; have hb7 := btr hb5 hb6; clear hcc hff hsz; obtain ⟨hcc, hff, hsz⟩ := old3 hb7; simp only [World.size_alloc] at hsz))
      all_goals
        go_wp2
        refine bodyPost_ret (v := .agg #[.bool neg1, .slice A3 n3 c3]) (by simp [results, Tryd.results55, go_sem, hcc]) rfl ?_
        have e1 : z + sgnd (!neg) m = sgnd neg (m1 - m) := by rw [← hz'.out]; unfold sgnd; cases neg <;> simp <;> omega
        rw [e1]
        exact RetZ.close0 (hi1.mono (by omega)) (hb2.trans (hb7.mono (by simp <;> omega))) (by simp) (by simp [go_sem, hcc]) (by simp [go_sem, hcc])

end Go.Proofs.YtabibkhcdamlhaaDoor

/-
  Walk: Sub of package integer.
-/
namespace Go.Proofs.YtabibkhcdamlhaaDoor
open Go.RowKit Num

theorem sgnd_not (b : Bool) (m : Nat) : sgnd (!b) m = -sgnd b m := by unfold sgnd; cases b <;> simp

set_option maxRecDepth 100000 in
set_option maxHeartbeats 4000000 in
/-- Sub. -/
theorem Sub_any (neg : Bool) (A : Option Addr) (n c : Nat) (x : Int) (neg2 : Bool) (A2 : Option Addr) (n2 c2 : Nat) (y : Int) (k : Nat) (w : World) (hx : VI w neg A n c x k) (hy : VI w neg2 A2 n2 c2 y k) (hk : k ≤ 100000000) :
    Calls Tryd.prog 31 #[.agg #[.bool neg, .slice A n c], .agg #[.bool neg2, .slice A2 n2 c2]] w (RetZ w (x - y) (k + 1)) := by
  have hb1 := ((Below.refl w.heap.size w).alloc (Nat.le_refl _) (.cells #[.bool neg, .slice A n c] 24)).alloc (by simp) (.cells #[.bool neg2, .slice A2 n2 c2] 24)
  have hb0 := hb1.alloc (by simp <;> omega) (.cells #[.bool false, .slice none 0 0] 24)
  clear hb1
  have tok1 : True := trivial
  go_enter Tryd.func31, Tryd.ntmps31
  go_wp2
  go_region_with (first | (go_at_call 50; have _t := tok1; clear tok1 _t; (refine (counted_old _ _ _ _ _ _ w _ hx (by first | exact hb0 | exact hb0.drew) (by omega)).mono ?_; rintro e w1 ⟨neg1, A1, n1, c1, rfl, hi1, hb2⟩; replace hb2 := undrew hb2; have hbw1 := hb0.trans (hb2.mono (by simp <;> omega)); obtain ⟨⟨d1, d2, d3, d4, d5, d6⟩, ⟨e1, e2, e3, e4, e5, e6⟩, hsz⟩ := box3s hb2)) | (go_at_call 50; refine (counted_old _ _ _ _ _ _ w _ hy (by first | exact hbw1 | exact hbw1.drew) (by omega)).mono ?_; rintro e w2 ⟨neg3, A3, n3, c3, rfl, hi2, hb3⟩; have hb4 := btr hb2 hb3; have hbw2 := hb0.trans (hb4.mono (by simp <;> omega)); clear d1 d2 d3 d4 d5 d6 e1 e2 e3 e4 e5 e6 hsz; obtain ⟨⟨d1, d2, d3, d4, d5, d6⟩, ⟨e1, e2, e3, e4, e5, e6⟩, hsz⟩ := box3s hb4))
  all_goals
    have hlt1 : w.heap.size < w2.heap.size := by omega
    have hlt2 : w.heap.size + 1 < w2.heap.size := by omega
    have hlt3 : w.heap.size + 1 + 1 < w2.heap.size := by omega
    go_wp2_with (go_at_call 55; refine (added_any _ _ _ _ x _ _ _ _ y.natAbs k _ (by refine hi1.below ?_; repeat (first | exact hbw2 | refine Below.setCell ?_ (by simp) _)) (by refine hi2.mm.below ?_; repeat (first | exact hbw2 | refine Below.setCell ?_ (by simp) _)) hk).mono ?_; rintro e w3 ⟨neg5, A5, n5, c5, rfl, hi5, hb5⟩; obtain ⟨hcc5, hff5, hsz5⟩ := old3 hb5; simp only [World.size_setCell] at hsz5)
    have d7 : w3.cell? ⟨w.heap.size + 1 + 1, 0, none⟩ = some (.bool false) := by rw [hcc5 _ _ (by simp <;> omega)]; simp [go_sem, d5]
    have d8 : w3.cell? ⟨w.heap.size + 1 + 1, 1, none⟩ = some (.slice none 0 0) := by rw [hcc5 _ _ (by simp <;> omega)]; simp [go_sem, d6]
    refine bodyPost_ret (v := .agg #[.bool neg5, .slice A5 n5 c5]) (by simp [results, Tryd.results31, go_sem, d7, d8]) rfl ?_
    rw [sgnd_not, hi2.sgnd, ← Int.sub_eq_add_neg] at hi5
    exact RetZ.close0 hi5 (by refine Below.trans ?_ (hb5.mono (by simp <;> omega)); repeat (first | exact hbw2 | refine Below.setCell ?_ (by simp <;> omega) _)) (by omega) d7 d8

end Go.Proofs.YtabibkhcdamlhaaDoor

/-
  Walks: Add, Sub of package integer.
-/
namespace Go.Proofs.YtabibkhcdamlhaaDoor
open Go.RowKit Num

set_option maxRecDepth 100000 in
set_option maxHeartbeats 4000000 in
/-- Add. -/
theorem Add_any (neg : Bool) (A : Option Addr) (n c : Nat) (x : Int) (neg2 : Bool) (A2 : Option Addr) (n2 c2 : Nat) (y : Int) (k : Nat) (w : World) (hx : VI w neg A n c x k) (hy : VI w neg2 A2 n2 c2 y k) (hk : k ≤ 100000000) :
    Calls Tryd.prog 23 #[.agg #[.bool neg, .slice A n c], .agg #[.bool neg2, .slice A2 n2 c2]] w (RetZ w (x + y) (k + 1)) := by
  have hb1 := ((Below.refl w.heap.size w).alloc (Nat.le_refl _) (.cells #[.bool neg, .slice A n c] 24)).alloc (by simp) (.cells #[.bool neg2, .slice A2 n2 c2] 24)
  have hb0 := hb1.alloc (by simp <;> omega) (.cells #[.bool false, .slice none 0 0] 24)
  clear hb1
  have tok1 : True := trivial
  go_enter Tryd.func23, Tryd.ntmps23
  go_wp2
  go_region_with (first | (go_at_call 50; have _t := tok1; clear tok1 _t; (refine (counted_old _ _ _ _ _ _ w _ hx (by first | exact hb0 | exact hb0.drew) (by omega)).mono ?_; rintro e w1 ⟨neg1, A1, n1, c1, rfl, hi1, hb2⟩; replace hb2 := undrew hb2; have hbw1 := hb0.trans (hb2.mono (by simp <;> omega)); obtain ⟨⟨d1, d2, d3, d4, d5, d6⟩, ⟨e1, e2, e3, e4, e5, e6⟩, hsz⟩ := box3s hb2)) | (go_at_call 50; refine (counted_old _ _ _ _ _ _ w _ hy (by first | exact hbw1 | exact hbw1.drew) (by omega)).mono ?_; rintro e w2 ⟨neg3, A3, n3, c3, rfl, hi2, hb3⟩; have hb4 := btr hb2 hb3; have hbw2 := hb0.trans (hb4.mono (by simp <;> omega)); clear d1 d2 d3 d4 d5 d6 e1 e2 e3 e4 e5 e6 hsz; obtain ⟨⟨d1, d2, d3, d4, d5, d6⟩, ⟨e1, e2, e3, e4, e5, e6⟩, hsz⟩ := box3s hb4))
  all_goals
    have hlt1 : w.heap.size < w2.heap.size := by omega
    have hlt2 : w.heap.size + 1 < w2.heap.size := by omega
    have hlt3 : w.heap.size + 1 + 1 < w2.heap.size := by omega
    go_wp2_with (go_at_call 55; refine (added_any _ _ _ _ x _ _ _ _ y.natAbs k _ (by refine hi1.below ?_; repeat (first | exact hbw2 | refine Below.setCell ?_ (by simp) _)) (by refine hi2.mm.below ?_; repeat (first | exact hbw2 | refine Below.setCell ?_ (by simp) _)) hk).mono ?_; rintro e w3 ⟨neg5, A5, n5, c5, rfl, hi5, hb5⟩; obtain ⟨hcc5, hff5, hsz5⟩ := old3 hb5; simp only [World.size_setCell] at hsz5)
    have d7 : w3.cell? ⟨w.heap.size + 1 + 1, 0, none⟩ = some (.bool false) := by rw [hcc5 _ _ (by simp <;> omega)]; simp [go_sem, d5]
    have d8 : w3.cell? ⟨w.heap.size + 1 + 1, 1, none⟩ = some (.slice none 0 0) := by rw [hcc5 _ _ (by simp <;> omega)]; simp [go_sem, d6]
    refine bodyPost_ret (v := .agg #[.bool neg5, .slice A5 n5 c5]) (by simp [results, Tryd.results23, go_sem, d7, d8]) rfl ?_
    rw [hi2.sgnd] at hi5
    exact RetZ.close0 hi5 (by refine Below.trans ?_ (hb5.mono (by simp <;> omega)); repeat (first | exact hbw2 | refine Below.setCell ?_ (by simp <;> omega) _)) (by omega) d7 d8

end Go.Proofs.YtabibkhcdamlhaaDoor
