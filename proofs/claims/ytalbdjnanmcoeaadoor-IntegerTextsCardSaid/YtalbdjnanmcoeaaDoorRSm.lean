/-
  Walk over the reference: Small.
-/
import Derived.Test.YtalbdjnanmcoeaaDoorOfR
import Derived.Test.YtalbdjnanmcoeaaDoorOrd
import Derived.Test.YtalbdjnanmcoeaaDoorSma
namespace Go.Proofs.YtalbdjnanmcoeaaDoor
open Go.RowKit Num

theorem wrap64_in {x : Int} (h1 : -9223372036854775808 ≤ x) (h2 : x ≤ 9223372036854775807) : wrap64 x = x := by
  unfold wrap64
  omega

set_option maxRecDepth 100000 in
set_option maxHeartbeats 4000000 in
theorem rSmall_under (neg : Bool) (A : Option Addr) (n c : Nat) (z : Int) (k : Nat) (w : World) (h : VI w neg A n c z k) (hk : k ≤ 1000000) (hz : z < (-9223372036854775808)) :
    Calls Tryd.prog 30 #[.agg #[.bool neg, .slice A n c]] w fun e w' => e = .returned (.tuple #[.int .i64 0, .bool false]) ∧ Below w.heap.size w w' := by
  have hb1 := (Below.refl w.heap.size w).alloc (Nat.le_refl _) (.cells #[.bool neg, .slice A n c] 24)
  obtain ⟨s1, hs1⟩ : ∃ s1, (z - (-9223372036854775808)).sign = s1 := ⟨_, rfl⟩
  have t1 : s1 < 0 := by rw [← hs1, sign_neg' (by omega)]; decide
  replace hs1 := Lib.hid hs1
  replace hz := Lib.hid hz
  have tok1 : True := trivial
  have tok2 : True := trivial
  have tok3 : True := trivial
  go_enter Tryd.func30, Tryd.ntmps30
  go_wp2_with (first | (go_at_call 13; refine (Value_any _ _ _ _ z k _ (h.below hb1) (by omega)).mono ?_; rintro e w1 ⟨neg1, A1, n1, c1, rfl, hi1, hb3⟩; obtain ⟨⟨d1, d2⟩, ⟨e1, e2⟩, hsz⟩ := box1s hb3; have hb4 := hb1.trans (hb3.mono (by simp)); have hi1a := hi1.store2 d1 d2 (.bool neg1) (.slice A1 n1 c1)) | (go_at_call 29; clear tok1; refine (rOf_any (-9223372036854775808) (by omega) (by omega) _).mono ?_; rintro e w2 ⟨ln, lA, lN, lc, rfl, hi2, hb5⟩; replace hi1a := II.below hi1a hb5; obtain ⟨hcc0, hff0, hss0⟩ := old3 hb5; (try simp only [World.size_setCell] at hss0); have x1 : w2.cell? ⟨w.heap.size, 0, none⟩ = some (.bool neg1) := (hcc0 _ _ (by simp <;> omega)).trans (by simp [go_sem, d1]); have x2 : w2.cell? ⟨w.heap.size, 1, none⟩ = some (.slice A1 n1 c1) := (hcc0 _ _ (by simp <;> omega)).trans (by simp [go_sem, d2]); have hbB : Below w.heap.size w w2 := Below.trans (by repeat (first | exact hb4 | refine Below.setCell ?_ (by first | (dsimp only; omega) | (simp <;> omega)) _)) (hb5.mono (by simp <;> omega)); clear d1 d2 e1 e2 hcc0 hff0) | (go_at_call 29; clear tok2; refine (rOf_any 9223372036854775807 (by omega) (by omega) _).mono ?_; rintro e w3 ⟨mn, mA, mN, mc, rfl, hi3, hb6⟩; replace hi1a := II.below hi1a hb6; replace hi2 := II.below hi2 hb6; obtain ⟨hcc1, hff1, hss1⟩ := old3 hb6; (try simp only [World.size_setCell] at hss1); replace x1 := (hcc1 _ 0 (show w.heap.size < w2.heap.size by omega)).trans x1; replace x2 := (hcc1 _ 1 (show w.heap.size < w2.heap.size by omega)).trans x2; replace hbB := hbB.trans (hb6.mono hbB.size); have hl3 : w.heap.size < w3.heap.size := (by omega); clear hcc1 hff1) | (go_at_call 41; clear tok3; refine (rCompare_c (k := k + 3) hs1.out ((hi1a.mono (by omega)).below (by repeat (first | refine Below.alloc ?_ (by first | omega | (simp <;> omega)) _ | exact Below.refl _ _))).vi ((hi2.mono (by omega)).below (by repeat (first | refine Below.alloc ?_ (by first | omega | (simp <;> omega)) _ | exact Below.refl _ _))).vi (by omega)).mono ?_; rintro e w4 ⟨rfl, hb7⟩; obtain ⟨hcc2, hff2, hss2⟩ := old3 hb7; (try simp only [World.size_alloc] at hss2); have hbC : Below w3.heap.size w3 w4 := Below.trans (by repeat (first | refine Below.alloc ?_ (by first | omega | (simp <;> omega)) _ | exact Below.refl _ _)) (hb7.mono (by simp <;> omega)); have y1 : w4.cell? ⟨w.heap.size, 0, none⟩ = some (.bool neg1) := (hbC.cell (p := ⟨w.heap.size, 0, none⟩) (by dsimp only; omega)).trans x1; have y2 : w4.cell? ⟨w.heap.size, 1, none⟩ = some (.slice A1 n1 c1) := (hbC.cell (p := ⟨w.heap.size, 1, none⟩) (by dsimp only; omega)).trans x2; have y3 : w4.cell? ⟨w3.heap.size + 1, 0, none⟩ = some (.bool mn) := (hcc2 _ _ (by simp <;> omega)).trans (by simp [go_sem]); have y4 : w4.cell? ⟨w3.heap.size + 1, 1, none⟩ = some (.slice mA mN mc) := (hcc2 _ _ (by simp <;> omega)).trans (by simp [go_sem]); have hi1b := hi1a.below hbC; have hi3b := hi3.below hbC; have hbD : Below w.heap.size w w4 := hbB.trans (hbC.mono hbB.size); clear hcc2 hff2))
  go_ret2
  exact ⟨rfl, hbD⟩

set_option maxRecDepth 100000 in
set_option maxHeartbeats 4000000 in
theorem rSmall_over (neg : Bool) (A : Option Addr) (n c : Nat) (z : Int) (k : Nat) (w : World) (h : VI w neg A n c z k) (hk : k ≤ 1000000) (hz : 9223372036854775807 < z) :
    Calls Tryd.prog 30 #[.agg #[.bool neg, .slice A n c]] w fun e w' => e = .returned (.tuple #[.int .i64 0, .bool false]) ∧ Below w.heap.size w w' := by
  have hb1 := (Below.refl w.heap.size w).alloc (Nat.le_refl _) (.cells #[.bool neg, .slice A n c] 24)
  obtain ⟨s1, hs1⟩ : ∃ s1, (z - (-9223372036854775808)).sign = s1 := ⟨_, rfl⟩
  obtain ⟨s2, hs2⟩ : ∃ s2, (z - 9223372036854775807).sign = s2 := ⟨_, rfl⟩
  have t1 : ¬ s1 < 0 := by
    rw [← hs1]
    rcases Int.lt_or_eq_of_le (show 0 ≤ z - (-9223372036854775808) by omega) with h | h
    · rw [sign_pos' h]; decide
    · rw [← h]; decide
  have t2 : 0 < s2 := by rw [← hs2, sign_pos' (by omega)]; decide
  replace hs1 := Lib.hid hs1
  replace hs2 := Lib.hid hs2
  replace hz := Lib.hid hz
  have tok1 : True := trivial
  have tok2 : True := trivial
  have tok3 : True := trivial
  go_enter Tryd.func30, Tryd.ntmps30
  go_wp2_with (first | (go_at_call 13; refine (Value_any _ _ _ _ z k _ (h.below hb1) (by omega)).mono ?_; rintro e w1 ⟨neg1, A1, n1, c1, rfl, hi1, hb3⟩; obtain ⟨⟨d1, d2⟩, ⟨e1, e2⟩, hsz⟩ := box1s hb3; have hb4 := hb1.trans (hb3.mono (by simp)); have hi1a := hi1.store2 d1 d2 (.bool neg1) (.slice A1 n1 c1)) | (go_at_call 29; clear tok1; refine (rOf_any (-9223372036854775808) (by omega) (by omega) _).mono ?_; rintro e w2 ⟨ln, lA, lN, lc, rfl, hi2, hb5⟩; replace hi1a := II.below hi1a hb5; obtain ⟨hcc0, hff0, hss0⟩ := old3 hb5; (try simp only [World.size_setCell] at hss0); have x1 : w2.cell? ⟨w.heap.size, 0, none⟩ = some (.bool neg1) := (hcc0 _ _ (by simp <;> omega)).trans (by simp [go_sem, d1]); have x2 : w2.cell? ⟨w.heap.size, 1, none⟩ = some (.slice A1 n1 c1) := (hcc0 _ _ (by simp <;> omega)).trans (by simp [go_sem, d2]); have hbB : Below w.heap.size w w2 := Below.trans (by repeat (first | exact hb4 | refine Below.setCell ?_ (by first | (dsimp only; omega) | (simp <;> omega)) _)) (hb5.mono (by simp <;> omega)); clear d1 d2 e1 e2 hcc0 hff0) | (go_at_call 29; clear tok2; refine (rOf_any 9223372036854775807 (by omega) (by omega) _).mono ?_; rintro e w3 ⟨mn, mA, mN, mc, rfl, hi3, hb6⟩; replace hi1a := II.below hi1a hb6; replace hi2 := II.below hi2 hb6; obtain ⟨hcc1, hff1, hss1⟩ := old3 hb6; (try simp only [World.size_setCell] at hss1); replace x1 := (hcc1 _ 0 (show w.heap.size < w2.heap.size by omega)).trans x1; replace x2 := (hcc1 _ 1 (show w.heap.size < w2.heap.size by omega)).trans x2; replace hbB := hbB.trans (hb6.mono hbB.size); have hl3 : w.heap.size < w3.heap.size := (by omega); clear hcc1 hff1) | (go_at_call 41; clear tok3; refine (rCompare_c (k := k + 3) hs1.out ((hi1a.mono (by omega)).below (by repeat (first | refine Below.alloc ?_ (by first | omega | (simp <;> omega)) _ | exact Below.refl _ _))).vi ((hi2.mono (by omega)).below (by repeat (first | refine Below.alloc ?_ (by first | omega | (simp <;> omega)) _ | exact Below.refl _ _))).vi (by omega)).mono ?_; rintro e w4 ⟨rfl, hb7⟩; obtain ⟨hcc2, hff2, hss2⟩ := old3 hb7; (try simp only [World.size_alloc] at hss2); have hbC : Below w3.heap.size w3 w4 := Below.trans (by repeat (first | refine Below.alloc ?_ (by first | omega | (simp <;> omega)) _ | exact Below.refl _ _)) (hb7.mono (by simp <;> omega)); have y1 : w4.cell? ⟨w.heap.size, 0, none⟩ = some (.bool neg1) := (hbC.cell (p := ⟨w.heap.size, 0, none⟩) (by dsimp only; omega)).trans x1; have y2 : w4.cell? ⟨w.heap.size, 1, none⟩ = some (.slice A1 n1 c1) := (hbC.cell (p := ⟨w.heap.size, 1, none⟩) (by dsimp only; omega)).trans x2; have y3 : w4.cell? ⟨w3.heap.size + 1, 0, none⟩ = some (.bool mn) := (hcc2 _ _ (by simp <;> omega)).trans (by simp [go_sem]); have y4 : w4.cell? ⟨w3.heap.size + 1, 1, none⟩ = some (.slice mA mN mc) := (hcc2 _ _ (by simp <;> omega)).trans (by simp [go_sem]); have hi1b := hi1a.below hbC; have hi3b := hi3.below hbC; have hbD : Below w.heap.size w w4 := hbB.trans (hbC.mono hbB.size); clear hcc2 hff2) | (go_at_call 41; refine (rCompare_c (k := k + 3) hs2.out (hi1b.mono (by omega)).vi (hi3b.mono (by omega)).vi (by omega)).mono ?_; rintro e w5 ⟨rfl, hb8⟩; have hi1c := hi1b.below hb8; have hz1 := (hb8.cell (p := ⟨w.heap.size, 0, none⟩) (by dsimp only; omega)).trans y1; have hz2 := (hb8.cell (p := ⟨w.heap.size, 1, none⟩) (by dsimp only; omega)).trans y2; have hbE : Below w.heap.size w w5 := hbD.trans (hb8.mono hbD.size)))
  go_ret2
  exact ⟨rfl, hbE⟩

set_option maxRecDepth 100000 in
set_option maxHeartbeats 4000000 in
theorem rSmall_neg (neg : Bool) (A : Option Addr) (n c : Nat) (z : Int) (k : Nat) (w : World) (h : VI w neg A n c z k) (hk : k ≤ 1000000) (hz : z < 0) (h1 : (-9223372036854775808) ≤ z) :
    Calls Tryd.prog 30 #[.agg #[.bool neg, .slice A n c]] w fun e w' => e = .returned (.tuple #[.int .i64 z, .bool true]) ∧ Below w.heap.size w w' := by
  have hb1 := (Below.refl w.heap.size w).alloc (Nat.le_refl _) (.cells #[.bool neg, .slice A n c] 24)
  obtain ⟨s1, hs1⟩ : ∃ s1, (z - (-9223372036854775808)).sign = s1 := ⟨_, rfl⟩
  obtain ⟨s2, hs2⟩ : ∃ s2, (z - 9223372036854775807).sign = s2 := ⟨_, rfl⟩
  have t1 : ¬ s1 < 0 := by
    rw [← hs1]
    rcases Int.lt_or_eq_of_le (show 0 ≤ z - (-9223372036854775808) by omega) with h | h
    · rw [sign_pos' h]; decide
    · rw [← h]; decide
  have t2 : ¬ 0 < s2 := by
    rw [← hs2]
    rcases Int.lt_or_eq_of_le (show z - 9223372036854775807 ≤ 0 by omega) with h | h
    · rw [sign_neg' h]; decide
    · rw [h]; decide
  replace hs1 := Lib.hid hs1
  replace hs2 := Lib.hid hs2
  have hzz := Lib.hid hz
  have hzl := Lib.hid h1
  clear hz h1
  have tok1 : True := trivial
  have tok2 : True := trivial
  have tok3 : True := trivial
  go_enter Tryd.func30, Tryd.ntmps30
  go_upto_region 5 with (first | (go_at_call 13; refine (Value_any _ _ _ _ z k _ (h.below hb1) (by omega)).mono ?_; rintro e w1 ⟨neg1, A1, n1, c1, rfl, hi1, hb3⟩; obtain rfl : neg1 = true := hi1.neg_iff.2 hzz.out; obtain ⟨⟨d1, d2⟩, ⟨e1, e2⟩, hsz⟩ := box1s hb3; have hb4 := hb1.trans (hb3.mono (by simp)); have hi1a := hi1.store2 d1 d2 (.bool true) (.slice A1 n1 c1)) | (go_at_call 29; clear tok1; refine (rOf_any (-9223372036854775808) (by omega) (by omega) _).mono ?_; rintro e w2 ⟨ln, lA, lN, lc, rfl, hi2, hb5⟩; replace hi1a := II.below hi1a hb5; obtain ⟨hcc0, hff0, hss0⟩ := old3 hb5; (try simp only [World.size_setCell] at hss0); have x1 : w2.cell? ⟨w.heap.size, 0, none⟩ = some (.bool true) := (hcc0 _ _ (by simp <;> omega)).trans (by simp [go_sem, d1]); have x2 : w2.cell? ⟨w.heap.size, 1, none⟩ = some (.slice A1 n1 c1) := (hcc0 _ _ (by simp <;> omega)).trans (by simp [go_sem, d2]); have hbB : Below w.heap.size w w2 := Below.trans (by repeat (first | exact hb4 | refine Below.setCell ?_ (by first | (dsimp only; omega) | (simp <;> omega)) _)) (hb5.mono (by simp <;> omega)); clear d1 d2 e1 e2 hcc0 hff0) | (go_at_call 29; clear tok2; refine (rOf_any 9223372036854775807 (by omega) (by omega) _).mono ?_; rintro e w3 ⟨mn, mA, mN, mc, rfl, hi3, hb6⟩; replace hi1a := II.below hi1a hb6; replace hi2 := II.below hi2 hb6; obtain ⟨hcc1, hff1, hss1⟩ := old3 hb6; (try simp only [World.size_setCell] at hss1); replace x1 := (hcc1 _ 0 (show w.heap.size < w2.heap.size by omega)).trans x1; replace x2 := (hcc1 _ 1 (show w.heap.size < w2.heap.size by omega)).trans x2; replace hbB := hbB.trans (hb6.mono hbB.size); have hl3 : w.heap.size < w3.heap.size := (by omega); clear hcc1 hff1) | (go_at_call 41; clear tok3; refine (rCompare_c (k := k + 3) hs1.out ((hi1a.mono (by omega)).below (by repeat (first | refine Below.alloc ?_ (by first | omega | (simp <;> omega)) _ | exact Below.refl _ _))).vi ((hi2.mono (by omega)).below (by repeat (first | refine Below.alloc ?_ (by first | omega | (simp <;> omega)) _ | exact Below.refl _ _))).vi (by omega)).mono ?_; rintro e w4 ⟨rfl, hb7⟩; obtain ⟨hcc2, hff2, hss2⟩ := old3 hb7; (try simp only [World.size_alloc] at hss2); have hbC : Below w3.heap.size w3 w4 := Below.trans (by repeat (first | refine Below.alloc ?_ (by first | omega | (simp <;> omega)) _ | exact Below.refl _ _)) (hb7.mono (by simp <;> omega)); have y1 : w4.cell? ⟨w.heap.size, 0, none⟩ = some (.bool true) := (hbC.cell (p := ⟨w.heap.size, 0, none⟩) (by dsimp only; omega)).trans x1; have y2 : w4.cell? ⟨w.heap.size, 1, none⟩ = some (.slice A1 n1 c1) := (hbC.cell (p := ⟨w.heap.size, 1, none⟩) (by dsimp only; omega)).trans x2; have y3 : w4.cell? ⟨w3.heap.size + 1, 0, none⟩ = some (.bool mn) := (hcc2 _ _ (by simp <;> omega)).trans (by simp [go_sem]); have y4 : w4.cell? ⟨w3.heap.size + 1, 1, none⟩ = some (.slice mA mN mc) := (hcc2 _ _ (by simp <;> omega)).trans (by simp [go_sem]); have hi1b := hi1a.below hbC; have hi3b := hi3.below hbC; have hbD : Below w.heap.size w w4 := hbB.trans (hbC.mono hbB.size); clear hcc2 hff2) | (go_at_call 41; refine (rCompare_c (k := k + 3) hs2.out (hi1b.mono (by omega)).vi (hi3b.mono (by omega)).vi (by omega)).mono ?_; rintro e w5 ⟨rfl, hb8⟩; have hi1c := hi1b.below hb8; have hz1 := (hb8.cell (p := ⟨w.heap.size, 0, none⟩) (by dsimp only; omega)).trans y1; have hz2 := (hb8.cell (p := ⟨w.heap.size, 1, none⟩) (by dsimp only; omega)).trans y2; have hbE : Below w.heap.size w w5 := hbD.trans (hb8.mono hbD.size)))
  have hzB : -9223372036854775808 ≤ z := hzl.out
  obtain ⟨l, hsl, hcz, hsv, hnk⟩ := hi1c
  have hlen := hsl.len
  have hG := hcz.1.1
  have hcap := hsl.le_cap
  have hcl := hsl.cap_le
  have hv : z = -(val l : Int) := by rw [← hsv]; unfold sval; simp
  have hvb : val l ≤ 9223372036854775808 := by omega
  have htop : ∀ j, j ≤ n1 → topv l j ≤ val l := fun j hj => topv_le (by rw [← hlen]; exact hj)
  have hstep : ∀ x, x < n1 → topv l (n1 - x) = topv l (n1 - (x + 1)) * 1000000000 + nth l x := fun x hx => by
    have := topv_succ (l := l) (k := n1 - (x + 1)) (by omega)
    rw [show l.length - (n1 - (x + 1) + 1) = x by omega, show n1 - (x + 1) + 1 = n1 - x by omega] at this
    exact this
  have hall : topv l n1 = val l := by rw [hlen]; exact topv_all l
  replace htop := Lib.hid htop
  replace hstep := Lib.hid hstep
  replace hall := Lib.hid hall
  replace hlen := Lib.hid hlen
  replace hsv := Lib.hid hsv
  replace hv := Lib.hid hv
  clear hi1 hb3 hi1a hi2 hi3 hi1b hi3b hb4 hbB hbD x1 x2 y1 y2 y3 y4 hsz hb5 hb6 hb7 hb8 hbC hss0 hss1 hss2 t1 t2 hs1 hs2 hb1 h
  generalize hWW : w5 = W5 at *
  clear hWW
  go_wp2
  go_loopw [6, 7] (fun nv i wr => ∃ (p : Nat) (q t : Int), p ≤ n1 ∧ i = .int .i64 q ∧ q = (p : Int) - 1 ∧ nv = .int .i64 t ∧ t = -(topv l (n1 - p) : Int) ∧ wr = W5) (fun _ i _ => (intOf i + 1).toNat)
  case atStart => exact ⟨n1, _, _, Nat.le_refl _, rfl, rfl, rfl, by rw [Nat.sub_self, topv_zero]; rfl, rfl⟩
  case round =>
    obtain ⟨p, q, t, hp, rfl, hq, rfl, ht, rfl⟩ := hrel
    by_cases hp0 : p = 0
    · subst hp0
      obtain rfl : q = -1 := by omega
      have htz : t = z := by rw [ht, Nat.sub_zero, hall.out, hv.out]
      clear hq ht
      subst htz
      go_wp2
      go_ret2
      exact ⟨rfl, hbE⟩
    · obtain ⟨x, rfl⟩ : ∃ x, p = x + 1 := ⟨p - 1, by omega⟩
      obtain rfl : q = (x : Int) := by omega
      clear hq hp0
      have hxn : x < n1 := by omega
      obtain ⟨b, off, rfl, _, hc⟩ := hsl.at_ (by omega)
      have hcx := hc x hxn
      clear hc
      obtain ⟨u, hu⟩ : ∃ u, nth l x = u := ⟨_, rfl⟩
      have hs1 := hstep.out x hxn
      have hs2 := htop.out (n1 - x) (by omega)
      obtain ⟨T, hT⟩ : ∃ T, topv l (n1 - (x + 1)) = T := ⟨_, rfl⟩
      rw [hT] at ht hs1
      rw [hu] at hs1 hcx
      have hnew : t * 1000000000 - (u : Int) = -(topv l (n1 - x) : Int) := by rw [hs1, ht]; omega
      have hvz := hv.out
      have g1 : -9223372036854775808 ≤ t * 1000000000 := by omega
      have g2 : t * 1000000000 ≤ 9223372036854775807 := by omega
      have g3 : -9223372036854775808 ≤ t * 1000000000 - (u : Int) := by omega
      have g4 : t * 1000000000 - (u : Int) ≤ 9223372036854775807 := by omega
      have hu9 : u < 1000000000 := by rw [← hu]; exact hG.get x
      have hfin : wrap64 (t * 1000000000 - wrap64 (u : Int)) = -(topv l (n1 - x) : Int) := by
        rw [wrap64_in (x := (u : Int)) (by omega) (by omega), wrap64_in g3 g4, hnew]
      replace hfin := Lib.hid hfin
      replace hnew := Lib.hid hnew
      clear hs1 hs2 hT ht hu hvz
      go_wp2
      exact ⟨⟨x, _, _, by omega, rfl, rfl, rfl, (by first | exact hnew.out | exact hfin.out), trivial⟩, (by first | (simp [intOf]; done) | (simp [intOf]; omega))⟩

set_option maxRecDepth 100000 in
set_option maxHeartbeats 4000000 in
theorem rSmall_pos (neg : Bool) (A : Option Addr) (n c : Nat) (z : Int) (k : Nat) (w : World) (h : VI w neg A n c z k) (hk : k ≤ 1000000) (hz : ¬ z < 0) (h1 : z ≤ 9223372036854775807) :
    Calls Tryd.prog 30 #[.agg #[.bool neg, .slice A n c]] w fun e w' => e = .returned (.tuple #[.int .i64 z, .bool true]) ∧ Below w.heap.size w w' := by
  have hb1 := (Below.refl w.heap.size w).alloc (Nat.le_refl _) (.cells #[.bool neg, .slice A n c] 24)
  obtain ⟨s1, hs1⟩ : ∃ s1, (z - (-9223372036854775808)).sign = s1 := ⟨_, rfl⟩
  obtain ⟨s2, hs2⟩ : ∃ s2, (z - 9223372036854775807).sign = s2 := ⟨_, rfl⟩
  have t1 : ¬ s1 < 0 := by
    rw [← hs1]
    rcases Int.lt_or_eq_of_le (show 0 ≤ z - (-9223372036854775808) by omega) with h | h
    · rw [sign_pos' h]; decide
    · rw [← h]; decide
  have t2 : ¬ 0 < s2 := by
    rw [← hs2]
    rcases Int.lt_or_eq_of_le (show z - 9223372036854775807 ≤ 0 by omega) with h | h
    · rw [sign_neg' h]; decide
    · rw [h]; decide
  replace hs1 := Lib.hid hs1
  replace hs2 := Lib.hid hs2
  have hzz := Lib.hid hz
  have hzl := Lib.hid h1
  clear hz h1
  have tok1 : True := trivial
  have tok2 : True := trivial
  have tok3 : True := trivial
  go_enter Tryd.func30, Tryd.ntmps30
  go_upto_region 5 with (first | (go_at_call 13; refine (Value_any _ _ _ _ z k _ (h.below hb1) (by omega)).mono ?_; rintro e w1 ⟨neg1, A1, n1, c1, rfl, hi1, hb3⟩; obtain rfl : neg1 = false := (by cases neg1; rfl; exact (hzz.out (hi1.neg_iff.1 rfl)).elim); obtain ⟨⟨d1, d2⟩, ⟨e1, e2⟩, hsz⟩ := box1s hb3; have hb4 := hb1.trans (hb3.mono (by simp)); have hi1a := hi1.store2 d1 d2 (.bool false) (.slice A1 n1 c1)) | (go_at_call 29; clear tok1; refine (rOf_any (-9223372036854775808) (by omega) (by omega) _).mono ?_; rintro e w2 ⟨ln, lA, lN, lc, rfl, hi2, hb5⟩; replace hi1a := II.below hi1a hb5; obtain ⟨hcc0, hff0, hss0⟩ := old3 hb5; (try simp only [World.size_setCell] at hss0); have x1 : w2.cell? ⟨w.heap.size, 0, none⟩ = some (.bool false) := (hcc0 _ _ (by simp <;> omega)).trans (by simp [go_sem, d1]); have x2 : w2.cell? ⟨w.heap.size, 1, none⟩ = some (.slice A1 n1 c1) := (hcc0 _ _ (by simp <;> omega)).trans (by simp [go_sem, d2]); have hbB : Below w.heap.size w w2 := Below.trans (by repeat (first | exact hb4 | refine Below.setCell ?_ (by first | (dsimp only; omega) | (simp <;> omega)) _)) (hb5.mono (by simp <;> omega)); clear d1 d2 e1 e2 hcc0 hff0) | (go_at_call 29; clear tok2; refine (rOf_any 9223372036854775807 (by omega) (by omega) _).mono ?_; rintro e w3 ⟨mn, mA, mN, mc, rfl, hi3, hb6⟩; replace hi1a := II.below hi1a hb6; replace hi2 := II.below hi2 hb6; obtain ⟨hcc1, hff1, hss1⟩ := old3 hb6; (try simp only [World.size_setCell] at hss1); replace x1 := (hcc1 _ 0 (show w.heap.size < w2.heap.size by omega)).trans x1; replace x2 := (hcc1 _ 1 (show w.heap.size < w2.heap.size by omega)).trans x2; replace hbB := hbB.trans (hb6.mono hbB.size); have hl3 : w.heap.size < w3.heap.size := (by omega); clear hcc1 hff1) | (go_at_call 41; clear tok3; refine (rCompare_c (k := k + 3) hs1.out ((hi1a.mono (by omega)).below (by repeat (first | refine Below.alloc ?_ (by first | omega | (simp <;> omega)) _ | exact Below.refl _ _))).vi ((hi2.mono (by omega)).below (by repeat (first | refine Below.alloc ?_ (by first | omega | (simp <;> omega)) _ | exact Below.refl _ _))).vi (by omega)).mono ?_; rintro e w4 ⟨rfl, hb7⟩; obtain ⟨hcc2, hff2, hss2⟩ := old3 hb7; (try simp only [World.size_alloc] at hss2); have hbC : Below w3.heap.size w3 w4 := Below.trans (by repeat (first | refine Below.alloc ?_ (by first | omega | (simp <;> omega)) _ | exact Below.refl _ _)) (hb7.mono (by simp <;> omega)); have y1 : w4.cell? ⟨w.heap.size, 0, none⟩ = some (.bool false) := (hbC.cell (p := ⟨w.heap.size, 0, none⟩) (by dsimp only; omega)).trans x1; have y2 : w4.cell? ⟨w.heap.size, 1, none⟩ = some (.slice A1 n1 c1) := (hbC.cell (p := ⟨w.heap.size, 1, none⟩) (by dsimp only; omega)).trans x2; have y3 : w4.cell? ⟨w3.heap.size + 1, 0, none⟩ = some (.bool mn) := (hcc2 _ _ (by simp <;> omega)).trans (by simp [go_sem]); have y4 : w4.cell? ⟨w3.heap.size + 1, 1, none⟩ = some (.slice mA mN mc) := (hcc2 _ _ (by simp <;> omega)).trans (by simp [go_sem]); have hi1b := hi1a.below hbC; have hi3b := hi3.below hbC; have hbD : Below w.heap.size w w4 := hbB.trans (hbC.mono hbB.size); clear hcc2 hff2) | (go_at_call 41; refine (rCompare_c (k := k + 3) hs2.out (hi1b.mono (by omega)).vi (hi3b.mono (by omega)).vi (by omega)).mono ?_; rintro e w5 ⟨rfl, hb8⟩; have hi1c := hi1b.below hb8; have hz1 := (hb8.cell (p := ⟨w.heap.size, 0, none⟩) (by dsimp only; omega)).trans y1; have hz2 := (hb8.cell (p := ⟨w.heap.size, 1, none⟩) (by dsimp only; omega)).trans y2; have hbE : Below w.heap.size w w5 := hbD.trans (hb8.mono hbD.size)))
  have hzB : z ≤ 9223372036854775807 := hzl.out
  obtain ⟨l, hsl, hcz, hsv, hnk⟩ := hi1c
  have hlen := hsl.len
  have hG := hcz.1.1
  have hcap := hsl.le_cap
  have hcl := hsl.cap_le
  have hv : z = (val l : Int) := by rw [← hsv]; unfold sval; simp
  have hvb : val l ≤ 9223372036854775808 := by omega
  have htop : ∀ j, j ≤ n1 → topv l j ≤ val l := fun j hj => topv_le (by rw [← hlen]; exact hj)
  have hstep : ∀ x, x < n1 → topv l (n1 - x) = topv l (n1 - (x + 1)) * 1000000000 + nth l x := fun x hx => by
    have := topv_succ (l := l) (k := n1 - (x + 1)) (by omega)
    rw [show l.length - (n1 - (x + 1) + 1) = x by omega, show n1 - (x + 1) + 1 = n1 - x by omega] at this
    exact this
  have hall : topv l n1 = val l := by rw [hlen]; exact topv_all l
  replace htop := Lib.hid htop
  replace hstep := Lib.hid hstep
  replace hall := Lib.hid hall
  replace hlen := Lib.hid hlen
  replace hsv := Lib.hid hsv
  replace hv := Lib.hid hv
  clear hi1 hb3 hi1a hi2 hi3 hi1b hi3b hb4 hbB hbD x1 x2 y1 y2 y3 y4 hsz hb5 hb6 hb7 hb8 hbC hss0 hss1 hss2 t1 t2 hs1 hs2 hb1 h
  generalize hWW : w5 = W5 at *
  clear hWW
  go_wp2
  go_loopw [6, 7] (fun nv i wr => ∃ (p : Nat) (q t : Int), p ≤ n1 ∧ i = .int .i64 q ∧ q = (p : Int) - 1 ∧ nv = .int .i64 t ∧ t = (topv l (n1 - p) : Int) ∧ wr = W5) (fun _ i _ => (intOf i + 1).toNat)
  case atStart => exact ⟨n1, _, _, Nat.le_refl _, rfl, rfl, rfl, by rw [Nat.sub_self, topv_zero]; rfl, rfl⟩
  case round =>
    obtain ⟨p, q, t, hp, rfl, hq, rfl, ht, rfl⟩ := hrel
    by_cases hp0 : p = 0
    · subst hp0
      obtain rfl : q = -1 := by omega
      have htz : t = z := by rw [ht, Nat.sub_zero, hall.out, hv.out]
      clear hq ht
      subst htz
      go_wp2
      go_ret2
      exact ⟨rfl, hbE⟩
    · obtain ⟨x, rfl⟩ : ∃ x, p = x + 1 := ⟨p - 1, by omega⟩
      obtain rfl : q = (x : Int) := by omega
      clear hq hp0
      have hxn : x < n1 := by omega
      obtain ⟨b, off, rfl, _, hc⟩ := hsl.at_ (by omega)
      have hcx := hc x hxn
      clear hc
      obtain ⟨u, hu⟩ : ∃ u, nth l x = u := ⟨_, rfl⟩
      have hs1 := hstep.out x hxn
      have hs2 := htop.out (n1 - x) (by omega)
      obtain ⟨T, hT⟩ : ∃ T, topv l (n1 - (x + 1)) = T := ⟨_, rfl⟩
      rw [hT] at ht hs1
      rw [hu] at hs1 hcx
      have hnew : t * 1000000000 + (u : Int) = (topv l (n1 - x) : Int) := by rw [hs1, ht]; omega
      have hvz := hv.out
      have g1 : -9223372036854775808 ≤ t * 1000000000 := by omega
      have g2 : t * 1000000000 ≤ 9223372036854775807 := by omega
      have g3 : -9223372036854775808 ≤ t * 1000000000 + (u : Int) := by omega
      have g4 : t * 1000000000 + (u : Int) ≤ 9223372036854775807 := by omega
      have hu9 : u < 1000000000 := by rw [← hu]; exact hG.get x
      have hfin : wrap64 (t * 1000000000 + wrap64 (u : Int)) = (topv l (n1 - x) : Int) := by
        rw [wrap64_in (x := (u : Int)) (by omega) (by omega), wrap64_in g3 g4, hnew]
      replace hfin := Lib.hid hfin
      replace hnew := Lib.hid hnew
      clear hs1 hs2 hT ht hu hvz
      go_wp2
      exact ⟨⟨x, _, _, by omega, rfl, rfl, rfl, (by first | exact hnew.out | exact hfin.out), trivial⟩, (by first | (simp [intOf]; done) | (simp [intOf]; omega))⟩

/-- Small of the reference. -/
theorem rSmall_any (neg : Bool) (A : Option Addr) (n c : Nat) (z : Int) (k : Nat) (w : World) (h : VI w neg A n c z k) (hk : k ≤ 1000000) :
    Calls Tryd.prog 30 #[.agg #[.bool neg, .slice A n c]] w fun e w' => e = .returned (.tuple #[.int .i64 (small z), .bool (fits z)]) ∧ Below w.heap.size w w' := by
  by_cases h1 : -9223372036854775808 ≤ z ∧ z ≤ 9223372036854775807
  · have e1 : small z = z := by unfold small; rw [if_pos h1]
    have e2 : fits z = true := by unfold fits; exact decide_eq_true h1
    rw [e1, e2]
    by_cases hz : z < 0
    · exact rSmall_neg neg A n c z k w h hk hz h1.1
    · exact rSmall_pos neg A n c z k w h hk hz h1.2
  · have e1 : small z = 0 := by unfold small; rw [if_neg h1]
    have e2 : fits z = false := by unfold fits; exact decide_eq_false h1
    rw [e1, e2]
    by_cases h2 : z < -9223372036854775808
    · exact rSmall_under neg A n c z k w h hk h2
    · exact rSmall_over neg A n c z k w h hk (by omega)

end Go.Proofs.YtalbdjnanmcoeaaDoor
