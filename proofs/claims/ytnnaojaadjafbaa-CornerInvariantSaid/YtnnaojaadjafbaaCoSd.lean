/-
  Walk: score of package corner.
-/
import Derived.Test.YtnnaojaadjafbaaCoSc
set_option linter.unusedSimpArgs false
set_option linter.unusedVariables false
namespace Go.Proofs.Ytnnaojaadjafbaa
open Go.RowKit

theorem gradient_at {a : Nat} {H M : Int} {b off n c : Nat} {x y i : Nat} {P : List Int} {w : World} {u v : Int} (hu : u = (x : Int)) (hv : v = (y : Int)) (h : Sl w (some ⟨b, off, none⟩) n c P) (ha : 1 ≤ a) (ha2 : a ≤ 64) (hx : x ≤ 64) (hy : y ≤ 64) (hi : y * a + x = i) (h1 : a ≤ i) (h2 : i + a < n) (hn : n ≤ 4096) (hg : Grey P) {g1 g2 : Int} (hg1 : gX P i = g1) (hg2 : gY a P i = g2) :
    Calls Try.prog 63 #[.agg #[.int .i64 a, .int .i64 H, .int .i64 M, .slice (some ⟨b, off, none⟩) n c], .int .i64 u, .int .i64 v] w fun e w' => e = .returned (.tuple #[.int .i64 g1, .int .i64 g2]) ∧ Below w.heap.size w w' := by
  subst hu hv hg1 hg2
  exact gradient_any a H M b off n c x y i P w h ha ha2 hx hy hi h1 h2 hn hg

theorem nine_eq {a x y j i : Nat} (hi : i < 3) (hx : 1 ≤ x) (hy : 1 ≤ y) : (y + j - 1) * a + (x + i - 1) = nine a (y * a + x) (3 * j + i) := by
  unfold nine
  have e1 : (3 * j + i) / 3 = j := by omega
  have e2 : (3 * j + i) % 3 = i := by omega
  rw [e1, e2]
  obtain ⟨y', rfl⟩ : ∃ y', y = y' + 1 := ⟨y - 1, by omega⟩
  rw [show y' + 1 + j - 1 = y' + j from by omega, Nat.add_mul, Nat.add_mul, Nat.one_mul]
  omega

theorem nine_in {a b x y j i n : Nat} (hm : Mid a b x y) (hn : a * b = n) (hi : i < 3) (hj : j < 3) : a ≤ (y + j - 1) * a + (x + i - 1) ∧ (y + j - 1) * a + (x + i - 1) + a < n := by
  obtain ⟨⟨h1, h2⟩, h3, h4⟩ := hm
  refine ⟨?_, ?_⟩
  · have := Nat.mul_le_mul_right a (show 1 ≤ y + j - 1 by omega)
    rw [Nat.one_mul] at this
    omega
  · have := row_lt (y := y + j - 1 + 1) (b := a) (a := b) (x := x + i - 1) (by omega) (by omega)
    rw [Nat.add_mul, Nat.one_mul, Nat.mul_comm b a, hn] at this
    omega

set_option maxRecDepth 100000 in
set_option maxHeartbeats 3200000 in
theorem score_any (a b : Nat) (M : Int) (bb off n c x y : Nat) (P : List Int) (w : World) (h : Sl w (some ⟨bb, off, none⟩) n c P) (ha2 : a ≤ 64) (hb2 : b ≤ 64) (hn : a * b = n) (hm : Mid a b x y) (hg : Grey P) {z : Int} (hz : sc a P (y * a + x) = z) :
    Calls Try.prog 56 #[.agg #[.int .i64 a, .int .i64 b, .int .i64 M, .slice (some ⟨bb, off, none⟩) n c], .int .i64 x, .int .i64 y] w fun e w' => e = .returned (.int .i64 z) ∧ Below w.heap.size w w' := by
  have hb0 := (Below.refl w.heap.size w).alloc (Nat.le_refl _) (.cells #[.int .i64 a, .int .i64 b, .int .i64 M, .slice (some ⟨bb, off, none⟩) n c] 24)
  have hs0 := h.alloc (.cells #[.int .i64 a, .int .i64 b, .int .i64 M, .slice (some ⟨bb, off, none⟩) n c] 24)
  have k0 := RB.new w a b M (some ⟨bb, off, none⟩) n c
  obtain ⟨p, hp⟩ : ∃ p, y * a + x = p := ⟨_, rfl⟩
  rw [hp] at hz
  have hn4 : n ≤ 4096 := by rw [← hn]; exact Nat.mul_le_mul ha2 hb2
  have hx1 : 2 ≤ x ∧ x + 3 ≤ a := hm.1
  have hy1 : 2 ≤ y ∧ y + 3 ≤ b := hm.2
  obtain ⟨hx1, hx2⟩ := hx1
  obtain ⟨hy1, hy2⟩ := hy1
  have hbd := Lib.hid (sABC_bd hg p (a := a))
  have hne := Lib.hid (fun (j i : Nat) (hi : i < 3) => (nine_eq (a := a) (j := j) hi (show 1 ≤ x by omega) (show 1 ≤ y by omega)).trans (by rw [hp]))
  have hni := Lib.hid (fun (j i : Nat) (hi : i < 3) (hj : j < 3) => nine_in hm hn hi hj)
  replace hz := Lib.hid hz
  replace hp := Lib.hid hp
  replace hg := Lib.hid hg
  replace hn := Lib.hid hn
  clear h hm
  go_enter Try.func56, Try.ntmps56
  go_wp2
  go_loopw [7, 8, 9, 14] (fun va vb vc i wr => ∃ j : Nat, j ≤ 3 ∧ i = .int .i64 j ∧ va = .int .i64 (sA a P p (3 * j)) ∧ vb = .int .i64 (sB a P p (3 * j)) ∧ vc = .int .i64 (sC a P p (3 * j)) ∧ RB wr w.heap.size a b M (some ⟨bb, off, none⟩) n c ∧ Sl wr (some ⟨bb, off, none⟩) n c P ∧ Below w.heap.size w wr ∧ w.heap.size < wr.heap.size) (fun _ _ _ i _ => 3 - (intOf i).toNat)
  case atStart => exact ⟨0, by omega, rfl, rfl, rfl, rfl, k0, hs0, hb0, by simp⟩
  case round =>
    clear k0 hs0 hb0
    obtain ⟨j, hj, rfl, rfl, rfl, rfl, k0, hs, hB, hzz⟩ := hrel
    by_cases hlt : j < 3
    · have hji : (j : Int) < 3 := by omega
      go_wp2
      obtain ⟨wo, rfl⟩ : ∃ wo, wo = wr := ⟨_, rfl⟩
      go_loopw [7, 8, 9, 17] (fun va vb vc i wr => ∃ i' : Nat, i' ≤ 3 ∧ i = .int .i64 i' ∧ va = .int .i64 (sA a P p (3 * j + i')) ∧ vb = .int .i64 (sB a P p (3 * j + i')) ∧ vc = .int .i64 (sC a P p (3 * j + i')) ∧ RB wr w.heap.size a b M (some ⟨bb, off, none⟩) n c ∧ Sl wr (some ⟨bb, off, none⟩) n c P ∧ Below w.heap.size w wr ∧ w.heap.size < wr.heap.size) (fun _ _ _ i _ => 3 - (intOf i).toNat)
      case atStart => exact ⟨0, by omega, rfl, rfl, rfl, rfl, k0, hs, hB, hzz⟩
      case round =>
        clear k0 hs hB hzz
        obtain ⟨i, hi, rfl, rfl, rfl, rfl, k0, hs, hB, hzz⟩ := hrel
        by_cases hlt2 : i < 3
        · have hii : (i : Int) < 3 := by omega
          obtain ⟨⟨d0, d1, d2, d3⟩, f0, f1, f2, f3⟩ := k0.cells
          obtain ⟨t, ht⟩ : ∃ t, 3 * j + i = t := ⟨_, rfl⟩
          have hq := hne.out j i hlt2
          obtain ⟨r1, r2⟩ := hni.out j i hlt2 hlt
          rw [ht] at hq
          have e1 : 3 * j + (i + 1) = t + 1 := by omega
          obtain ⟨G, hG⟩ : ∃ G, gX P (nine a p t) = G := ⟨_, rfl⟩
          obtain ⟨H, hH⟩ : ∃ G, gY a P (nine a p t) = G := ⟨_, rfl⟩
          have hx := gX_bd hg.out (nine a p t)
          have hy := gY_bd (a := a) hg.out (nine a p t)
          rw [hG] at hx
          rw [hH] at hy
          have g1 := mul_bd (by decide) hx.1 hx.2 hx.1 hx.2
          have g2 := mul_bd (by decide) hx.1 hx.2 hy.1 hy.2
          have g3 := mul_bd (by decide) hy.1 hy.2 hy.1 hy.2
          obtain ⟨⟨b1, b2⟩, ⟨b3, b4⟩, b5, b6⟩ := hbd.out t
          have u1 := Lib.hid (show sA a P p (t + 1) = sA a P p t + G * G from by rw [← hG]; rfl)
          have u2 := Lib.hid (show sB a P p (t + 1) = sB a P p t + G * H from by rw [← hG, ← hH]; rfl)
          have u3 := Lib.hid (show sC a P p (t + 1) = sC a P p t + H * H from by rw [← hH]; rfl)
          obtain ⟨GG, hGG⟩ : ∃ v, G * G = v := ⟨_, rfl⟩
          obtain ⟨GH, hGH⟩ : ∃ v, G * H = v := ⟨_, rfl⟩
          obtain ⟨HH, hHH⟩ : ∃ v, H * H = v := ⟨_, rfl⟩
          rw [hGG] at g1 u1
          rw [hGH] at g2 u2
          rw [hHH] at g3 u3
          obtain ⟨g1, g1'⟩ := g1
          obtain ⟨g2, g2'⟩ := g2
          obtain ⟨g3, g3'⟩ := g3
          obtain ⟨va, hva⟩ : ∃ v, sA a P p t = v := ⟨_, rfl⟩
          obtain ⟨vb, hvb⟩ : ∃ v, sB a P p t = v := ⟨_, rfl⟩
          obtain ⟨vc, hvc⟩ : ∃ v, sC a P p t = v := ⟨_, rfl⟩
          rw [ht, hva, hvb, hvc]
          rw [hva] at u1 b1 b2
          rw [hvb] at u2 b3 b4
          rw [hvc] at u3 b5 b6
          have ht9 : t ≤ 8 := by omega
          have hcall := Lib.hid (fun (u v : Int) (hu : u = ((x + i - 1 : Nat) : Int)) (hv : v = ((y + j - 1 : Nat) : Int)) => gradient_at (H := (b : Int)) (M := M) (g1 := G) (g2 := H) hu hv hs (show 1 ≤ a by omega) ha2 (by omega) (by omega) rfl r1 r2 hn4 hg.out (by rw [hq]; exact hG) (by rw [hq]; exact hH))
          replace hq := Lib.hid hq
          replace hG := Lib.hid hG
          replace hH := Lib.hid hH
          replace hva := Lib.hid hva
          replace hvb := Lib.hid hvb
          replace hvc := Lib.hid hvc
          replace e1 := Lib.hid e1
          replace ht := Lib.hid ht
          clear r1 r2
          go_wp2_with (go_at_call 63; refine (hcall.out _ _ (by omega) (by omega)).mono ?_; rintro e w4 ⟨rfl, hb4⟩)
          go_roundw
          case rel => exact ⟨i + 1, by omega, by first | rfl | go_num, by rw [e1.out, u1.out], by rw [e1.out, u2.out], by rw [e1.out, u3.out], k0.below hb4 hzz, hs.below hb4 (Nat.le_refl _), hB.trans (hb4.mono (by omega)), by have := hb4.size; omega⟩
          case measure => simp [intOf]; omega
        · obtain rfl : i = 3 := by omega
          go_wp2
          go_roundw
          case rel => exact ⟨j + 1, by omega, by first | rfl | go_num, rfl, rfl, rfl, k0, hs, hB, hzz⟩
          case measure => simp [intOf]; omega
    · obtain rfl : j = 3 := by omega
      obtain ⟨⟨b1, b2⟩, ⟨b3, b4⟩, b5, b6⟩ := hbd.out 9
      have hz' : scF (sA a P p 9) (sB a P p 9) (sC a P p 9) = z := hz.out
      obtain ⟨va, hva⟩ : ∃ v, sA a P p 9 = v := ⟨_, rfl⟩
      obtain ⟨vb, hvb⟩ : ∃ v, sB a P p 9 = v := ⟨_, rfl⟩
      obtain ⟨vc, hvc⟩ : ∃ v, sC a P p 9 = v := ⟨_, rfl⟩
      rw [hva] at b1 b2 hz'
      rw [hvb] at b3 b4 hz'
      rw [hvc] at b5 b6 hz'
      simp only [show 3 * 3 = 9 from rfl]
      rw [hva, hvb, hvc]
      have g1 := mul_bd (x := va) (y := vc) (B := 9418761) (by decide) (by omega) (by omega) (by omega) (by omega)
      have g2 := mul_bd (x := vb) (y := vb) (B := 9418761) (by decide) (by omega) (by omega) (by omega) (by omega)
      have g3 := mul_bd (x := va + vc) (y := va + vc) (B := 18837522) (by decide) (by omega) (by omega) (by omega) (by omega)
      unfold scF at hz'
      obtain ⟨AC, hAC⟩ : ∃ v, va * vc = v := ⟨_, rfl⟩
      obtain ⟨BB, hBB⟩ : ∃ v, vb * vb = v := ⟨_, rfl⟩
      obtain ⟨SS, hSS⟩ : ∃ v, (va + vc) * (va + vc) = v := ⟨_, rfl⟩
      rw [hAC] at g1
      rw [hBB] at g2
      rw [hSS] at g3
      rw [hAC, hBB, hSS] at hz'
      obtain ⟨g1, g1'⟩ := g1
      obtain ⟨g2, g2'⟩ := g2
      obtain ⟨g3, g3'⟩ := g3
      replace hz' := Lib.hid hz'
      replace hva := Lib.hid hva
      replace hvb := Lib.hid hvb
      replace hvc := Lib.hid hvc
      go_wp2
      go_ret
      exact ⟨ret_int (by first | exact hz'.out | (rw [← hz'.out]; omega)), hB⟩

end Go.Proofs.Ytnnaojaadjafbaa
