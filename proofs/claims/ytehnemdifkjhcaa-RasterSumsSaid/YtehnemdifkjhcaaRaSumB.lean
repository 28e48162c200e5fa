/-
  Walk: the law of the sums of rasters.
-/
import Derived.Test.YtehnemdifkjhcaaRaSumA
set_option linter.unusedSimpArgs false
set_option linter.unusedVariables false
namespace Go.Proofs.Ytehnemdifkjhcaa
open Go.RowKit

set_option maxRecDepth 100000 in
set_option maxHeartbeats 12800000 in
theorem sums_most1 (a b : Nat) (M : Int) (A : Option Addr) (n c : Nat) (P : List Int) (x y wd ht most : Int) (w : World) (h : Sl w A n c P) (hx : -9223372036854775808 ≤ x ∧ x ≤ 9223372036854775807) (hy : -9223372036854775808 ≤ y ∧ y ≤ 9223372036854775807) (hm : n ≤ 600) (hr : Ras a b M P) (hq : most < 1) :
    Calls Try.prog 10 #[.agg #[.int .i64 a, .int .i64 b, .int .i64 M, .slice A n c], .agg #[.int .i64 x, .int .i64 y, .int .i64 wd, .int .i64 ht], .int .i64 most] w fun e w' => e = .returned (.bool true) ∧ Below w.heap.size w w' := by
  have hcap := h.le_cap
  have hcl := h.cap_le
  obtain ⟨a', b', ea, eb, ⟨ha1, ha2⟩, ⟨hb1', hb2'⟩, ⟨hM1, hM2⟩, -⟩ := hr.nat
  obtain rfl : a = a' := by omega
  obtain rfl : b = b' := by omega
  have hmm : ((b : Int) + 1 != (b : Int) + 1) = false := by simp
  have haa : ((a : Int) + 1 != (a : Int) + 1) = false := by simp
  replace hr := Lib.hid hr
  replace hx := Lib.hid hx
  replace hy := Lib.hid hy
  clear ea eb
  have hwv : win most 1 65535 = false := win_no.2 (by omega)
  replace hwv := Lib.hid hwv
  have hB0 := ((Below.refl w.heap.size w).alloc (by first | exact Nat.le_refl _ | (simp <;> omega)) (.cells #[.int .i64 a, .int .i64 b, .int .i64 M, .slice A n c] 24)).alloc (by first | exact Nat.le_refl _ | (simp <;> omega)) (.cells #[.int .i64 x, .int .i64 y, .int .i64 wd, .int .i64 ht] 45)
  have k0 : KB _ _ _ _ := ((KB.new w #[.int .i64 a, .int .i64 b, .int .i64 M, .slice A n c] 24).alloc (.cells #[.int .i64 x, .int .i64 y, .int .i64 wd, .int .i64 ht] 45))
  have k1 : KB _ _ _ _ := (KB.new (w.alloc (.cells #[.int .i64 a, .int .i64 b, .int .i64 M, .slice A n c] 24)) #[.int .i64 x, .int .i64 y, .int .i64 wd, .int .i64 ht] 45)
  simp only [World.size_alloc] at k1
  have hs := Lib.hid (fun w' (hb : Below w.heap.size w w') => h.below hb (Nat.le_refl _))
  go_enter Try.func10, Try.ntmps10
  go_wp2_with (first
    | (go_at_call 11; refine (known_any _).mono ?_; rintro e w1 ⟨rfl, hb1⟩; (try simp only [World.size_alloc] at hb1); have z1 := hb1.size; (try simp only [World.size_alloc] at z1); replace k0 := k0.below hb1 (by omega); replace k1 := k1.below hb1 (by omega); have hB1 := Below.trans hB0 (hb1.mono (by omega)); have k0_0 := k0.cell 0 rfl; have k0_1 := k0.cell 1 rfl; have k0_2 := k0.cell 2 rfl; have k0_3 := k0.cell 3 rfl; have k1_0 := k1.cell 0 rfl; have k1_1 := k1.cell 1 rfl; have k1_2 := k1.cell 2 rfl; have k1_3 := k1.cell 3 rfl)
    | (go_at_call 12; refine (few_one_yes (KB.new w1 _ _) hm).mono ?_; rintro e w2 ⟨rfl, hb2⟩; (try simp only [World.size_alloc] at hb2); have z2 := hb2.size; (try simp only [World.size_alloc] at z2); replace k0 := (k0.alloc _).below hb2 (by omega); replace k1 := (k1.alloc _).below hb2 (by omega); have hB2 := Below.trans (hB1.alloc (by first | exact hB1.size | (have := hB1.size; simp; omega)) _) (hb2.mono (by omega)); clear k0_0 k0_1 k0_2 k0_3 k1_0 k1_1 k1_2 k1_3; have k0_0 := k0.cell 0 rfl; have k0_1 := k0.cell 1 rfl; have k0_2 := k0.cell 2 rfl; have k0_3 := k0.cell 3 rfl; have k1_0 := k1.cell 0 rfl; have k1_1 := k1.cell 1 rfl; have k1_2 := k1.cell 2 rfl; have k1_3 := k1.cell 3 rfl)
    | (go_at_call 41; refine (Integral_yes a b M A n c P _ (hs.out _ hB2) hr.out).mono ?_; rintro e w3 ⟨T, G, rfl, htb, hG, hT, hrows, hb3⟩; (try simp only [World.size_alloc] at hb3); have z3 := hb3.size; (try simp only [World.size_alloc] at z3); replace k0 := k0.below hb3 (by omega); replace k1 := k1.below hb3 (by omega); have hB3 := Below.trans hB2 (hb3.mono (by omega)); clear k0_0 k0_1 k0_2 k0_3 k1_0 k1_1 k1_2 k1_3; have k0_0 := k0.cell 0 rfl; have k0_1 := k0.cell 1 rfl; have k0_2 := k0.cell 2 rfl; have k0_3 := k0.cell 3 rfl; have k1_0 := k1.cell 0 rfl; have k1_1 := k1.cell 1 rfl; have k1_2 := k1.cell 2 rfl; have k1_3 := k1.cell 3 rfl; have htc := TC.of_tb htb hG; have htv := TV.of_rows hrows hG; simp only [Int.toNat_natCast] at htc htv; replace hG := Lib.hid hG; clear htb hrows hT)
    | (go_at_call 42; refine (Rescale_out a b M A n c P most _ (hs.out _ hB3) hr.out hwv.out).mono ?_; rintro e w4 ⟨rfl, hb4⟩; (try simp only [World.size_alloc] at hb4); have z4 := hb4.size; (try simp only [World.size_alloc] at z4); replace k0 := k0.below hb4 (by omega); replace k1 := k1.below hb4 (by omega); have hB4 := Below.trans hB3 (hb4.mono (by omega)); replace k0 := k0.alloc (.cells #[.int .i64 0, .int .i64 0, .int .i64 0, .slice none 0 0] 24); replace k1 := k1.alloc (.cells #[.int .i64 0, .int .i64 0, .int .i64 0, .slice none 0 0] 24); have k9 : KB _ _ _ _ := KB.new w4 #[.int .i64 0, .int .i64 0, .int .i64 0, .slice none 0 0] 24; replace hB4 := hB4.alloc hB4.size (.cells #[.int .i64 0, .int .i64 0, .int .i64 0, .slice none 0 0] 24); clear k0_0 k0_1 k0_2 k0_3 k1_0 k1_1 k1_2 k1_3; have k0_0 := k0.cell 0 rfl; have k0_1 := k0.cell 1 rfl; have k0_2 := k0.cell 2 rfl; have k0_3 := k0.cell 3 rfl; have k1_0 := k1.cell 0 rfl; have k1_1 := k1.cell 1 rfl; have k1_2 := k1.cell 2 rfl; have k1_3 := k1.cell 3 rfl; have k9_0 := k9.cell 0 rfl; have k9_1 := k9.cell 1 rfl; have k9_2 := k9.cell 2 rfl; have k9_3 := k9.cell 3 rfl; replace htc := htc.below (hb4) (World.block_lt_of_cell? _ _ (htc 0 (by omega))); replace htv := htv.below hb4)
    | (go_at_call 14; refine (rCheck_ok (hs.out _ hB4) hr.out).mono ?_; rintro e w5 ⟨rfl, hb5⟩; (try simp only [World.size_alloc] at hb5); have z5 := hb5.size; (try simp only [World.size_alloc] at z5); replace k0 := k0.below hb5 (by omega); replace k1 := k1.below hb5 (by omega); replace k9 := k9.below hb5 (by omega); have hB5 := Below.trans hB4 (hb5.mono (by omega)); clear k0_0 k0_1 k0_2 k0_3 k1_0 k1_1 k1_2 k1_3 k9_0 k9_1 k9_2 k9_3; have k0_0 := k0.cell 0 rfl; have k0_1 := k0.cell 1 rfl; have k0_2 := k0.cell 2 rfl; have k0_3 := k0.cell 3 rfl; have k1_0 := k1.cell 0 rfl; have k1_1 := k1.cell 1 rfl; have k1_2 := k1.cell 2 rfl; have k1_3 := k1.cell 3 rfl; have k9_0 := k9.cell 0 rfl; have k9_1 := k9.cell 1 rfl; have k9_2 := k9.cell 2 rfl; have k9_3 := k9.cell 3 rfl)
    | (go_at_call 19; refine (empty_yes _).mono ?_; rintro e w6 ⟨rfl, hb6⟩; (try simp only [World.size_alloc] at hb6); have z6 := hb6.size; (try simp only [World.size_alloc] at z6); replace k0 := k0.below hb6 (by omega); replace k1 := k1.below hb6 (by omega); replace k9 := k9.below hb6 (by omega); have hB6 := Below.trans hB5 (hb6.mono (by omega)); clear k0_0 k0_1 k0_2 k0_3 k1_0 k1_1 k1_2 k1_3 k9_0 k9_1 k9_2 k9_3; have k0_0 := k0.cell 0 rfl; have k0_1 := k0.cell 1 rfl; have k0_2 := k0.cell 2 rfl; have k0_3 := k0.cell 3 rfl; have k1_0 := k1.cell 0 rfl; have k1_1 := k1.cell 1 rfl; have k1_2 := k1.cell 2 rfl; have k1_3 := k1.cell 3 rfl; have k9_0 := k9.cell 0 rfl; have k9_1 := k9.cell 1 rfl; have k9_2 := k9.cell 2 rfl; have k9_3 := k9.cell 3 rfl))
  obtain ⟨Gf, hGf⟩ : ∃ Gf : Nat → Nat, (fun j => G.getD j 0) = Gf := ⟨_, rfl⟩
  rw [hGf] at htc htv
  have hL : Below w4.heap.size w4 w6 := (((Below.refl _ w4).alloc (Nat.le_refl _) _).trans (hb5.mono (by omega))).trans (hb6.mono (by omega))
  have I : SI w w6 T a b n c M A P Gf x y wd ht := ⟨k0, k1, htc.below hL (World.block_lt_of_cell? _ _ (htc 0 (by omega))), htv.below hL, hs.out _ hB6, hB6⟩
  clear htc htv k0 k1 k9 hGf k0_0 k0_1 k0_2 k0_3 k1_0 k1_1 k1_2 k1_3 k9_0 k9_1 k9_2 k9_3
  go_loopw [90] (fun i wr => ∃ k : Nat, k ≤ b + 1 ∧ i = .int .i64 (k : Int) ∧ SI w wr T a b n c M A P Gf x y wd ht) (fun i _ => b + 1 - (intOf i).toNat)
  case atStart => exact ⟨0, Nat.zero_le _, rfl, I⟩
  case round =>
    clear I
    obtain ⟨k, hk, rfl, I⟩ := hrel
    have e0 := I.k0.cell 0 rfl
    have e1 := I.k0.cell 1 rfl
    have e2 := I.k0.cell 2 rfl
    have e3 := I.k0.cell 3 rfl
    by_cases hlt : k < b + 1
    · have hrow := I.tc k hlt
      have hlt' : (k : Int) < (b : Int) + 1 := by omega
      obtain ⟨gk, hgk⟩ : ∃ g, Gf k = g := ⟨_, rfl⟩
      rw [hgk] at hrow
      replace hgk := Lib.hid hgk
      go_wp2
      go_loopw [103] (fun i wr => ∃ j : Nat, j ≤ a + 1 ∧ i = .int .i64 (j : Int) ∧ SI w wr T a b n c M A P Gf x y wd ht) (fun i _ => a + 1 - (intOf i).toNat)
      case atStart => exact ⟨0, Nat.zero_le _, rfl, I⟩
      case round =>
        clear I e0 e1 e2 e3 hrow
        obtain ⟨j, hj, rfl, I⟩ := hrel
        have e0 := I.k0.cell 0 rfl
        have e1 := I.k0.cell 1 rfl
        have e2 := I.k0.cell 2 rfl
        have e3 := I.k0.cell 3 rfl
        by_cases hlt2 : j < a + 1
        · have hcell := I.tv k hlt j hlt2
          have hlt2' : (j : Int) < (a : Int) + 1 := by omega
          rw [hgk.out] at hcell
          obtain ⟨u, hu⟩ : ∃ u, psum P a k j = u := ⟨_, rfl⟩
          rw [hu] at hcell
          have huu : (u != u) = false := by simp
          have hbs : bsum P a 0 j 0 k = u := by rw [bsum_corner, hu]
          replace hbs := Lib.hid hbs
          replace hu := Lib.hid hu
          go_wp2_with (go_at_call 44; refine (rSum_at 0 0 j k I.sl hr.out rfl rfl rfl rfl (by omega) (by omega) hbs.out).mono ?_; rintro e w20 ⟨rfl, hb20⟩)
          go_roundw
          case rel => exact ⟨j + 1, hlt2, by go_num, I.later hb20⟩
          case measure => simp [intOf]; omega
        · have hge2 : (a : Int) + 1 ≤ (j : Int) := by omega
          go_wp2
          go_roundw
          case rel => exact ⟨k + 1, hlt, by go_num, I⟩
          case measure => simp [intOf]; omega
    · have hge : (b : Int) + 1 ≤ (k : Int) := by omega
      have f0 := I.k1.cell 0 rfl
      have f1 := I.k1.cell 1 rfl
      have f2 := I.k1.cell 2 rfl
      have f3 := I.k1.cell 3 rfl
      by_cases hin : ((0 ≤ x ∧ x ≤ a) ∧ (0 ≤ y ∧ y ≤ b) ∧ (0 ≤ wd ∧ wd ≤ a - x) ∧ 0 ≤ ht ∧ ht ≤ b - y)
      · obtain ⟨⟨x0, x1⟩, ⟨y0, y1⟩, ⟨z0, z1⟩, v0, v1⟩ := hin
        obtain ⟨xn, hxn⟩ : ∃ m, x.toNat = m := ⟨_, rfl⟩
        obtain ⟨yn, hyn⟩ : ∃ m, y.toNat = m := ⟨_, rfl⟩
        obtain ⟨wn, hwn⟩ : ∃ m, wd.toNat = m := ⟨_, rfl⟩
        obtain ⟨hn, hhn⟩ : ∃ m, ht.toNat = m := ⟨_, rfl⟩
        have q1 : x = (xn : Int) := by omega
        have q2 : y = (yn : Int) := by omega
        have q3 : wd = (wn : Int) := by omega
        have q4 : ht = (hn : Int) := by omega
        have q5 : xn + wn ≤ a := by omega
        have q6 : yn + hn ≤ b := by omega
        obtain ⟨u, hu⟩ : ∃ u, bsum P a xn wn yn hn = u := ⟨_, rfl⟩
        have huu : (u == u) = true := by simp
        clear hxn hyn hwn hhn
        replace q1 := Lib.hid q1
        replace q2 := Lib.hid q2
        replace q3 := Lib.hid q3
        replace q4 := Lib.hid q4
        replace hu := Lib.hid hu
        go_wp2_with (first | (go_at_call 45; refine (Sum_int (by omega) (by omega) ⟨by omega, hM2⟩ hr.out.2.2 I.tc I.tv q1.out q2.out q3.out q4.out q5 q6 hu.out).mono ?_; rintro e w20 ⟨rfl, hb20⟩; have I2 := I.later hb20; clear e0 e1 e2 e3 f0 f1 f2 f3; have e0 := I2.k0.cell 0 rfl; have e1 := I2.k0.cell 1 rfl; have e2 := I2.k0.cell 2 rfl; have e3 := I2.k0.cell 3 rfl; have f0 := I2.k1.cell 0 rfl; have f1 := I2.k1.cell 1 rfl; have f2 := I2.k1.cell 2 rfl; have f3 := I2.k1.cell 3 rfl) | (go_at_call 44; refine (rSum_at xn yn wn hn I2.sl hr.out q1.out q2.out q3.out q4.out q5 q6 hu.out).mono ?_; rintro e w21 ⟨rfl, hb21⟩))
        go_ret
        exact ⟨rfl, (I2.later hb21).below⟩
      · have hbo := box_out hin
        replace hin := Lib.hid hin
        rcases hbo with q1 | ⟨q1, q2⟩ | ⟨q1, q2, q3⟩ | ⟨q1, q2, q3, q4⟩ | ⟨q1, q2, q3, q4, q5⟩ | ⟨q1, q2, q3, q4, q5, q6⟩ | ⟨q1, q2, q3, q4, q5, q6, q7⟩ | ⟨q1, q2, q3, q4, q5, q6, q7, q8⟩
        all_goals
          go_wp2_with (go_at_call 45; refine (Sum_out T a b Gf x y wd ht _ (by omega) (by omega) I.tc hx.out hy.out hin.out).mono ?_; rintro e w20 ⟨rfl, hb20⟩; have I2 := I.later hb20; clear e0 e1 e2 e3 f0 f1 f2 f3; have e0 := I2.k0.cell 0 rfl; have e1 := I2.k0.cell 1 rfl; have e2 := I2.k0.cell 2 rfl; have e3 := I2.k0.cell 3 rfl; have f0 := I2.k1.cell 0 rfl; have f1 := I2.k1.cell 1 rfl; have f2 := I2.k1.cell 2 rfl; have f3 := I2.k1.cell 3 rfl)
          go_ret
          exact ⟨rfl, I2.below⟩

end Go.Proofs.Ytehnemdifkjhcaa
