/-
  Walk: the law of the histograms of rasters.
-/
import Derived.Test.YtehnemdifkjhcaaRaL
set_option linter.unusedSimpArgs false
set_option linter.unusedVariables false
namespace Go.Proofs.Ytehnemdifkjhcaa
open Go.RowKit

set_option maxRecDepth 100000 in
set_option maxHeartbeats 6400000 in
theorem histograms_many (W H M : Int) (A : Option Addr) (n c : Nat) (P : List Int) (w : World) (h : Sl w A n c P) (hm : 600 < n) :
    Calls Try.prog 8 #[.agg #[.int .i64 W, .int .i64 H, .int .i64 M, .slice A n c]] w fun e w' => e = .returned (.bool true) ∧ Below w.heap.size w w' := by
  have hcap := h.le_cap
  have hcl := h.cap_le
  have hB0 := (Below.refl w.heap.size w).alloc (by first | exact Nat.le_refl _ | (simp <;> omega)) (.cells #[.int .i64 W, .int .i64 H, .int .i64 M, .slice A n c] 24)
  have k0 : KB _ _ _ _ := (KB.new w #[.int .i64 W, .int .i64 H, .int .i64 M, .slice A n c] 24)
  clear h
  go_enter Try.func8, Try.ntmps8
  go_wp2_with (first
    | (go_at_call 11; refine (known_any _).mono ?_; rintro e w1 ⟨rfl, hb1⟩; (try simp only [World.size_alloc] at hb1); have z1 := hb1.size; (try simp only [World.size_alloc] at z1); replace k0 := k0.below hb1 (by omega); have hB1 := Below.trans hB0 (hb1.mono (by omega)); have k0_0 := k0.cell 0 rfl; have k0_1 := k0.cell 1 rfl; have k0_2 := k0.cell 2 rfl; have k0_3 := k0.cell 3 rfl)
    | (go_at_call 12; refine (few_one_no (KB.new w1 _ _) (by omega) hm).mono ?_; rintro e w2 ⟨rfl, hb2⟩; (try simp only [World.size_alloc] at hb2); have z2 := hb2.size; (try simp only [World.size_alloc] at z2); replace k0 := (k0.alloc _).below hb2 (by omega); have hB2 := Below.trans (hB1.alloc (by first | exact hB1.size | (have := hB1.size; simp; omega)) _) (hb2.mono (by omega)); clear k0_0 k0_1 k0_2 k0_3; have k0_0 := k0.cell 0 rfl; have k0_1 := k0.cell 1 rfl; have k0_2 := k0.cell 2 rfl; have k0_3 := k0.cell 3 rfl))
  go_ret
  exact ⟨rfl, hB2⟩

set_option maxRecDepth 100000 in
set_option maxHeartbeats 6400000 in
theorem histograms_grey (W H M : Int) (A : Option Addr) (n c : Nat) (P : List Int) (w : World) (h : Sl w A n c P) (hm : n ≤ 600) (hM : 600 < M) :
    Calls Try.prog 8 #[.agg #[.int .i64 W, .int .i64 H, .int .i64 M, .slice A n c]] w fun e w' => e = .returned (.bool true) ∧ Below w.heap.size w w' := by
  have hcap := h.le_cap
  have hcl := h.cap_le
  have hB0 := (Below.refl w.heap.size w).alloc (by first | exact Nat.le_refl _ | (simp <;> omega)) (.cells #[.int .i64 W, .int .i64 H, .int .i64 M, .slice A n c] 24)
  have k0 : KB _ _ _ _ := (KB.new w #[.int .i64 W, .int .i64 H, .int .i64 M, .slice A n c] 24)
  clear h
  go_enter Try.func8, Try.ntmps8
  go_wp2_with (first
    | (go_at_call 11; refine (known_any _).mono ?_; rintro e w1 ⟨rfl, hb1⟩; (try simp only [World.size_alloc] at hb1); have z1 := hb1.size; (try simp only [World.size_alloc] at z1); replace k0 := k0.below hb1 (by omega); have hB1 := Below.trans hB0 (hb1.mono (by omega)); have k0_0 := k0.cell 0 rfl; have k0_1 := k0.cell 1 rfl; have k0_2 := k0.cell 2 rfl; have k0_3 := k0.cell 3 rfl)
    | (go_at_call 12; refine (few_one_yes (KB.new w1 _ _) hm).mono ?_; rintro e w2 ⟨rfl, hb2⟩; (try simp only [World.size_alloc] at hb2); have z2 := hb2.size; (try simp only [World.size_alloc] at z2); replace k0 := (k0.alloc _).below hb2 (by omega); have hB2 := Below.trans (hB1.alloc (by first | exact hB1.size | (have := hB1.size; simp; omega)) _) (hb2.mono (by omega)); clear k0_0 k0_1 k0_2 k0_3; have k0_0 := k0.cell 0 rfl; have k0_1 := k0.cell 1 rfl; have k0_2 := k0.cell 2 rfl; have k0_3 := k0.cell 3 rfl))
  go_ret
  exact ⟨rfl, hB2⟩

set_option maxRecDepth 100000 in
set_option maxHeartbeats 6400000 in
theorem histograms_bad (W H M : Int) (A : Option Addr) (n c : Nat) (P : List Int) (w : World) (h : Sl w A n c P) (hm : n ≤ 600) (hM : M ≤ 600) (hr : ¬ Ras W H M P) :
    Calls Try.prog 8 #[.agg #[.int .i64 W, .int .i64 H, .int .i64 M, .slice A n c]] w fun e w' => e = .returned (.bool true) ∧ Below w.heap.size w w' := by
  have hcap := h.le_cap
  have hcl := h.cap_le
  have hB0 := (Below.refl w.heap.size w).alloc (by first | exact Nat.le_refl _ | (simp <;> omega)) (.cells #[.int .i64 W, .int .i64 H, .int .i64 M, .slice A n c] 24)
  have k0 : KB _ _ _ _ := (KB.new w #[.int .i64 W, .int .i64 H, .int .i64 M, .slice A n c] 24)
  have hs := Lib.hid (fun w' (hb : Below w.heap.size w w') => h.below hb (Nat.le_refl _))
  replace hr := Lib.hid hr
  go_enter Try.func8, Try.ntmps8
  go_wp2_with (first
    | (go_at_call 11; refine (known_any _).mono ?_; rintro e w1 ⟨rfl, hb1⟩; (try simp only [World.size_alloc] at hb1); have z1 := hb1.size; (try simp only [World.size_alloc] at z1); replace k0 := k0.below hb1 (by omega); have hB1 := Below.trans hB0 (hb1.mono (by omega)); have k0_0 := k0.cell 0 rfl; have k0_1 := k0.cell 1 rfl; have k0_2 := k0.cell 2 rfl; have k0_3 := k0.cell 3 rfl)
    | (go_at_call 12; refine (few_one_yes (KB.new w1 _ _) hm).mono ?_; rintro e w2 ⟨rfl, hb2⟩; (try simp only [World.size_alloc] at hb2); have z2 := hb2.size; (try simp only [World.size_alloc] at z2); replace k0 := (k0.alloc _).below hb2 (by omega); have hB2 := Below.trans (hB1.alloc (by first | exact hB1.size | (have := hB1.size; simp; omega)) _) (hb2.mono (by omega)); clear k0_0 k0_1 k0_2 k0_3; have k0_0 := k0.cell 0 rfl; have k0_1 := k0.cell 1 rfl; have k0_2 := k0.cell 2 rfl; have k0_3 := k0.cell 3 rfl)
    | (go_at_call 34; refine (Histogram_no W H M A n c P _ (hs.out _ hB2) hr.out).mono ?_; rintro e w3 ⟨rfl, hb3⟩; (try simp only [World.size_alloc] at hb3); have z3 := hb3.size; (try simp only [World.size_alloc] at z3); replace k0 := k0.below hb3 (by omega); have hB3 := Below.trans hB2 (hb3.mono (by omega)); clear k0_0 k0_1 k0_2 k0_3; have k0_0 := k0.cell 0 rfl; have k0_1 := k0.cell 1 rfl; have k0_2 := k0.cell 2 rfl; have k0_3 := k0.cell 3 rfl)
    | (go_at_call 14; refine (rCheck_no (hs.out _ hB3) hr.out).mono ?_; rintro e w4 ⟨rfl, hb4⟩; (try simp only [World.size_alloc] at hb4); have z4 := hb4.size; (try simp only [World.size_alloc] at z4); replace k0 := k0.below hb4 (by omega); have hB4 := Below.trans hB3 (hb4.mono (by omega)); clear k0_0 k0_1 k0_2 k0_3; have k0_0 := k0.cell 0 rfl; have k0_1 := k0.cell 1 rfl; have k0_2 := k0.cell 2 rfl; have k0_3 := k0.cell 3 rfl))
  go_ret
  exact ⟨rfl, hB4⟩

set_option maxRecDepth 100000 in
set_option maxHeartbeats 6400000 in
theorem histograms_ok (a b m : Nat) (A : Option Addr) (n c : Nat) (P : List Int) (w : World) (h : Sl w A n c P) (hm : n ≤ 600) (hM : (m : Int) ≤ 600) (hr : Ras a b m P) :
    Calls Try.prog 8 #[.agg #[.int .i64 a, .int .i64 b, .int .i64 m, .slice A n c]] w fun e w' => e = .returned (.bool true) ∧ Below w.heap.size w w' := by
  have hcap := h.le_cap
  have hcl := h.cap_le
  have hl : P.length = b * a := by have := hr.2.1; rw [← Int.natCast_mul, Nat.mul_comm] at this; omega
  have hht := hist_turned (m := m) hl
  have hrt := hr.turned
  obtain ⟨P1, e1⟩ : ∃ Q, turned a b P = Q := ⟨_, rfl⟩
  rw [e1] at hht hrt
  obtain ⟨D, hD⟩ : ∃ D, hist m P = D := ⟨_, rfl⟩
  have hDn : ∀ j : Nat, j ≤ m → nth D j = cnt P j := fun j hj => by rw [← hD, hist, nth_tab (by omega)]
  rw [hD] at hht
  have hmm : ((m : Int) + 1 != (m : Int) + 1) = false := by simp
  replace hDn := Lib.hid hDn
  replace hD := Lib.hid hD
  replace hht := Lib.hid hht
  replace hrt := Lib.hid hrt
  replace e1 := Lib.hid e1
  replace hr := Lib.hid hr
  replace hl := Lib.hid hl
  have hB0 := (Below.refl w.heap.size w).alloc (by first | exact Nat.le_refl _ | (simp <;> omega)) (.cells #[.int .i64 a, .int .i64 b, .int .i64 m, .slice A n c] 24)
  have k0 : KB _ _ _ _ := (KB.new w #[.int .i64 a, .int .i64 b, .int .i64 m, .slice A n c] 24)
  have hs := Lib.hid (fun w' (hb : Below w.heap.size w w') => h.below hb (Nat.le_refl _))
  go_enter Try.func8, Try.ntmps8
  go_wp2_with (first
    | (go_at_call 11; refine (known_any _).mono ?_; rintro e w1 ⟨rfl, hb1⟩; (try simp only [World.size_alloc] at hb1); have z1 := hb1.size; (try simp only [World.size_alloc] at z1); replace k0 := k0.below hb1 (by omega); have hB1 := Below.trans hB0 (hb1.mono (by omega)); have k0_0 := k0.cell 0 rfl; have k0_1 := k0.cell 1 rfl; have k0_2 := k0.cell 2 rfl; have k0_3 := k0.cell 3 rfl)
    | (go_at_call 12; refine (few_one_yes (KB.new w1 _ _) hm).mono ?_; rintro e w2 ⟨rfl, hb2⟩; (try simp only [World.size_alloc] at hb2); have z2 := hb2.size; (try simp only [World.size_alloc] at z2); replace k0 := (k0.alloc _).below hb2 (by omega); have hB2 := Below.trans (hB1.alloc (by first | exact hB1.size | (have := hB1.size; simp; omega)) _) (hb2.mono (by omega)); clear k0_0 k0_1 k0_2 k0_3; have k0_0 := k0.cell 0 rfl; have k0_1 := k0.cell 1 rfl; have k0_2 := k0.cell 2 rfl; have k0_3 := k0.cell 3 rfl)
    | (go_at_call 34; refine (Histogram_yes a b m A n c P _ (hs.out _ hB2) hr.out).mono ?_; rintro e w3 ⟨Ah, nh, ch, rfl, sh, hb3⟩; (try simp only [World.size_alloc] at hb3); have z3 := hb3.size; (try simp only [World.size_alloc] at z3); replace k0 := k0.below hb3 (by omega); have hB3 := Below.trans hB2 (hb3.mono (by omega)); clear k0_0 k0_1 k0_2 k0_3; have k0_0 := k0.cell 0 rfl; have k0_1 := k0.cell 1 rfl; have k0_2 := k0.cell 2 rfl; have k0_3 := k0.cell 3 rfl; obtain rfl : nh = m + 1 := (by have := sh.len; rw [hist, tab_length] at this; exact this))
    | (go_at_call 14; refine (rCheck_ok (hs.out _ hB3) hr.out).mono ?_; rintro e w4 ⟨rfl, hb4⟩; (try simp only [World.size_alloc] at hb4); have z4 := hb4.size; (try simp only [World.size_alloc] at z4); replace k0 := k0.below hb4 (by omega); have hB4 := Below.trans hB3 (hb4.mono (by omega)); replace sh := sh.below hb4 (by first | exact Nat.le_refl _ | (simp <;> omega)); clear k0_0 k0_1 k0_2 k0_3; have k0_0 := k0.cell 0 rfl; have k0_1 := k0.cell 1 rfl; have k0_2 := k0.cell 2 rfl; have k0_3 := k0.cell 3 rfl))
  rw [hD.out] at sh
  go_loopw [51] (fun i wr => ∃ k : Nat, k ≤ m + 1 ∧ i = .int .i64 (k : Int) ∧ KB wr w.heap.size #[.int .i64 a, .int .i64 b, .int .i64 m, .slice A n c] 24 ∧ Sl wr Ah (m + 1) ch D ∧ Sl wr A n c P ∧ Below w.heap.size w wr) (fun i _ => m + 1 - (intOf i).toNat)
  case atStart => exact ⟨0, Nat.zero_le _, rfl, k0, sh, hs.out _ hB4, hB4⟩
  case round =>
    have hB0' := hB4.size
    clear k0 sh k0_0 k0_1 k0_2 k0_3
    obtain ⟨k, hk, rfl, k0, sh, sp, hBL⟩ := hrel
    have k0_0 := k0.cell 0 rfl
    have k0_1 := k0.cell 1 rfl
    have k0_2 := k0.cell 2 rfl
    have k0_3 := k0.cell 3 rfl
    have hlh : ch ≤ 9223372036854775807 := sh.cap_le
    have hlc := sh.le_cap
    by_cases hlt : k < m + 1
    · obtain ⟨b', off, rfl, hbw, hcc⟩ := sh.at_ (by omega)
      have hcell := hcc k hlt
      clear hcc
      obtain ⟨u, hu⟩ : ∃ u, cnt P k = u := ⟨_, rfl⟩
      rw [hDn.out k (by omega), hu] at hcell
      have huu : (u != u) = false := by simp
      replace hu := Lib.hid hu
      have hlt' : (k : Int) < (m : Int) + 1 := by omega
      go_wp2_with (go_at_call 35; refine (Count_at sp (by omega) hu.out).mono ?_; rintro e w5 ⟨rfl, hb5⟩)
      go_roundw
      case rel => exact ⟨k + 1, hlt, by go_num, k0.below hb5 k0.lt, sh.below hb5 (Nat.le_refl _), sp.below hb5 (Nat.le_refl _), hBL.trans (hb5.mono hBL.size)⟩
      case measure => simp [intOf]; omega
    · have hge : (m : Int) + 1 ≤ (k : Int) := by omega
      have zk := k0.lt
      go_wp2_with (first
    | (go_at_call 30; refine (Turn_nat sp hr.out e1.out).mono ?_; rintro e w11 ⟨At, nt, ct, rfl, st, hb11⟩; (try simp only [World.size_alloc] at hb11); have z11 := hb11.size; (try simp only [World.size_alloc] at z11); replace k0 := k0.below hb11 (by omega); have hB11 := Below.trans hBL (hb11.mono (by omega)); replace sh := sh.below hb11 (by first | exact Nat.le_refl _ | (simp <;> omega)); replace sp := sp.below hb11 (by first | exact Nat.le_refl _ | (simp <;> omega)); replace k0 := k0.alloc (.cells #[.int .i64 b, .int .i64 a, .int .i64 m, .slice At nt ct] 24); have kt : KB _ _ _ _ := KB.new w11 #[.int .i64 b, .int .i64 a, .int .i64 m, .slice At nt ct] 24; replace hB11 := hB11.alloc hB11.size (.cells #[.int .i64 b, .int .i64 a, .int .i64 m, .slice At nt ct] 24); replace sh := sh.alloc (.cells #[.int .i64 b, .int .i64 a, .int .i64 m, .slice At nt ct] 24); replace sp := sp.alloc (.cells #[.int .i64 b, .int .i64 a, .int .i64 m, .slice At nt ct] 24); replace st := st.alloc (.cells #[.int .i64 b, .int .i64 a, .int .i64 m, .slice At nt ct] 24); clear k0_0 k0_1 k0_2 k0_3; have k0_0 := k0.cell 0 rfl; have k0_1 := k0.cell 1 rfl; have k0_2 := k0.cell 2 rfl; have k0_3 := k0.cell 3 rfl; have kt_0 := kt.cell 0 rfl; have kt_1 := kt.cell 1 rfl; have kt_2 := kt.cell 2 rfl; have kt_3 := kt.cell 3 rfl)
    | (go_at_call 34; refine (Histogram_yes b a m At nt ct P1 _ st hrt.out).mono ?_; rintro e w12 ⟨Ag, ng, cg, rfl, sg, hb12⟩; (try simp only [World.size_alloc] at hb12); have z12 := hb12.size; (try simp only [World.size_alloc] at z12); replace k0 := k0.below hb12 (by omega); replace kt := kt.below hb12 (by omega); have hB12 := Below.trans hB11 (hb12.mono (by omega)); replace sh := sh.below hb12 (by first | exact Nat.le_refl _ | (simp <;> omega)); replace sp := sp.below hb12 (by first | exact Nat.le_refl _ | (simp <;> omega)); replace st := st.below hb12 (by first | exact Nat.le_refl _ | (simp <;> omega)); clear k0_0 k0_1 k0_2 k0_3 kt_0 kt_1 kt_2 kt_3; have k0_0 := k0.cell 0 rfl; have k0_1 := k0.cell 1 rfl; have k0_2 := k0.cell 2 rfl; have k0_3 := k0.cell 3 rfl; have kt_0 := kt.cell 0 rfl; have kt_1 := kt.cell 1 rfl; have kt_2 := kt.cell 2 rfl; have kt_3 := kt.cell 3 rfl; rw [hht.out] at sg)
    | (go_at_call 36; refine (sEqual_self sg sh).mono ?_; rintro e w13 ⟨rfl, hb13⟩; (try simp only [World.size_alloc] at hb13); have z13 := hb13.size; (try simp only [World.size_alloc] at z13); replace k0 := k0.below hb13 (by omega); replace kt := kt.below hb13 (by omega); have hB13 := Below.trans hB12 (hb13.mono (by omega)); replace sh := sh.below hb13 (by first | exact Nat.le_refl _ | (simp <;> omega)); replace sp := sp.below hb13 (by first | exact Nat.le_refl _ | (simp <;> omega)); replace st := st.below hb13 (by first | exact Nat.le_refl _ | (simp <;> omega)); replace sg := sg.below hb13 (by first | exact Nat.le_refl _ | (simp <;> omega)); clear k0_0 k0_1 k0_2 k0_3 kt_0 kt_1 kt_2 kt_3; have k0_0 := k0.cell 0 rfl; have k0_1 := k0.cell 1 rfl; have k0_2 := k0.cell 2 rfl; have k0_3 := k0.cell 3 rfl; have kt_0 := kt.cell 0 rfl; have kt_1 := kt.cell 1 rfl; have kt_2 := kt.cell 2 rfl; have kt_3 := kt.cell 3 rfl))
      go_ret
      exact ⟨rfl, hB13⟩

/-- The law of the histograms. -/
theorem histograms_any (W H M : Int) (A : Option Addr) (n c : Nat) (P : List Int) (w : World) (h : Sl w A n c P) :
    Calls Try.prog 8 #[.agg #[.int .i64 W, .int .i64 H, .int .i64 M, .slice A n c]] w fun e w' => e = .returned (.bool true) ∧ Below w.heap.size w w' := by
  by_cases hm : n ≤ 600
  · by_cases hM : M ≤ 600
    · by_cases hr : Ras W H M P
      · obtain ⟨a, b, rfl, rfl, -, -, ⟨hM1, hM2⟩, -⟩ := hr.nat
        obtain ⟨m, rfl⟩ := Int.eq_ofNat_of_zero_le (show 0 ≤ M by omega)
        exact histograms_ok a b m A n c P w h hm hM hr
      · exact histograms_bad W H M A n c P w h hm hM hr
    · exact histograms_grey W H M A n c P w h hm (by omega)
  · exact histograms_many W H M A n c P w h (by omega)

end Go.Proofs.Ytehnemdifkjhcaa
