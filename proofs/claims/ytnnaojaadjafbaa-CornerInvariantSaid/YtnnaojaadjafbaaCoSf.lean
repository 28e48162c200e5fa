/-
  Walks: pixel, score of the reference.
-/
import Derived.Test.YtnnaojaadjafbaaCoSe
import Derived.Deep.RegionHeld3
import Derived.Deep.Cut
set_option linter.unusedSimpArgs false
set_option linter.unusedVariables false
namespace Go.Proofs.Ytnnaojaadjafbaa
open Go.RowKit

theorem pixel_at {a b : Nat} {M : Int} {bb off n c x y i : Nat} {P : List Int} {w : World} {u v : Int} (hu : u = (x : Int)) (hv : v = (y : Int)) (h : Sl w (some ⟨bb, off, none⟩) n c P) (ha2 : a ≤ 64) (hx : x ≤ 64) (hy : y ≤ 64) (hi : y * a + x = i) (h2 : i < n) (hn : n ≤ 4096) {g : Int} (hg : nth P i = g) :
    Calls Try.prog 57 #[.agg #[.int .i64 a, .int .i64 b, .int .i64 M, .slice (some ⟨bb, off, none⟩) n c], .int .i64 u, .int .i64 v] w fun e w' => e = .returned (.int .i64 g) ∧ Below w.heap.size w w' := by
  subst hu hv
  have hb0 := (Below.refl w.heap.size w).alloc (Nat.le_refl _) (.cells #[.int .i64 a, .int .i64 b, .int .i64 M, .slice (some ⟨bb, off, none⟩) n c] 24)
  have hcap := h.le_cap
  have hcl := h.cap_le
  obtain ⟨b', off', e, hbw, hc⟩ := (h.alloc (.cells #[.int .i64 a, .int .i64 b, .int .i64 M, .slice (some ⟨bb, off, none⟩) n c] 24)).at_ (by omega)
  cases e
  have c1 := hc i h2
  clear hc
  rw [hg] at c1
  have hm : (y : Int) * (a : Int) + (x : Int) = (i : Int) := by rw [← hi]; simp
  have hm2 : 0 ≤ (y : Int) * (a : Int) ∧ (y : Int) * (a : Int) ≤ 4096 := by
    refine ⟨Int.mul_nonneg (by omega) (by omega), ?_⟩
    have := Int.mul_le_mul (show (y : Int) ≤ 64 by omega) (show (a : Int) ≤ 64 by omega) (by omega) (by omega)
    omega
  obtain ⟨q, hq⟩ : ∃ q : Int, (y : Int) * (a : Int) = q := ⟨_, rfl⟩
  rw [hq] at hm hm2
  obtain ⟨m1, m2⟩ := hm2
  have l1 : (i : Int) < (n : Int) := by omega
  replace hi := Lib.hid hi
  replace hg := Lib.hid hg
  clear h
  go_enter Try.func57, Try.ntmps57
  go_wp2
  go_ret
  exact ⟨rfl, hb0⟩

theorem rscore_out (a b : Nat) (M : Int) (bb off n c x y : Nat) (w : World) (ha1 : 1 ≤ a) (ha2 : a ≤ 64) (hb1 : 1 ≤ b) (hb2 : b ≤ 64) (hx : x < a) (hy : y < b) (hm : ¬ Mid a b x y) :
    Calls Try.prog 36 #[.agg #[.int .i64 a, .int .i64 b, .int .i64 M, .slice (some ⟨bb, off, none⟩) n c], .int .i64 x, .int .i64 y] w fun e w' => e = .returned (.int .i64 0) ∧ Below w.heap.size w w' := by
  have hb0 := (Below.refl w.heap.size w).alloc (Nat.le_refl _) (.cells #[.int .i64 a, .int .i64 b, .int .i64 M, .slice (some ⟨bb, off, none⟩) n c] 24)
  have hcase : (x : Int) < 2 ∨ (2 : Int) ≤ x ∧ ((y : Int) < 2 ∨ (2 : Int) ≤ y ∧ ((a : Int) - 2 ≤ x ∨ (x : Int) < (a : Int) - 2 ∧ (b : Int) - 2 ≤ y)) := by unfold Mid at hm; omega
  rcases hcase with p | ⟨p1, p | ⟨p2, p | ⟨p3, p⟩⟩⟩
  all_goals
    clear hm
    go_enter Try.func36, Try.ntmps36
    go_wp2
    go_ret
    exact ⟨rfl, hb0⟩

set_option maxRecDepth 100000 in
set_option maxHeartbeats 6400000 in
theorem rscore_mid (a b : Nat) (M : Int) (bb off n c x y : Nat) (P : List Int) (w : World) (h : Sl w (some ⟨bb, off, none⟩) n c P) (ha2 : a ≤ 64) (hb2 : b ≤ 64) (hn : a * b = n) (hm : Mid a b x y) (hg : Grey P) {z : Int} (hz : sc a P (y * a + x) = z) :
    Calls Try.prog 36 #[.agg #[.int .i64 a, .int .i64 b, .int .i64 M, .slice (some ⟨bb, off, none⟩) n c], .int .i64 x, .int .i64 y] w fun e w' => e = .returned (.int .i64 z) ∧ Below w.heap.size w w' := by
  have hb0 := (Below.refl w.heap.size w).alloc (Nat.le_refl _) (.cells #[.int .i64 a, .int .i64 b, .int .i64 M, .slice (some ⟨bb, off, none⟩) n c] 24)
  have hs0 := h.alloc (.cells #[.int .i64 a, .int .i64 b, .int .i64 M, .slice (some ⟨bb, off, none⟩) n c] 24)
  have k0 := RB.new w a b M (some ⟨bb, off, none⟩) n c
  obtain ⟨p, hp⟩ : ∃ p, y * a + x = p := ⟨_, rfl⟩
  rw [hp] at hz
  have hn4 : n ≤ 4096 := by rw [← hn]; exact Nat.mul_le_mul ha2 hb2
  have hx1 : 2 ≤ x ∧ x + 3 ≤ a := hm.1
  have hy1 : 2 ≤ y ∧ y + 3 ≤ b := hm.2
  obtain ⟨hx1, hx2⟩ := hx1
  obtain ⟨hy1, hy2⟩ := hy1
  have c1 : ¬ (x : Int) < 2 := by omega
  have c2 : ¬ (y : Int) < 2 := by omega
  have c3 : ¬ (a : Int) - 2 ≤ (x : Int) := by omega
  have c4 : ¬ (b : Int) - 2 ≤ (y : Int) := by omega
  have hbd := Lib.hid (sABC_bd hg p (a := a))
  have hne := Lib.hid (fun (j i : Nat) (hi : i < 3) => (nine_eq (a := a) (j := j) hi (show 1 ≤ x by omega) (show 1 ≤ y by omega)).trans (by rw [hp]))
  have hni := Lib.hid (fun (j i : Nat) (hi : i < 3) (hj : j < 3) => nine_in hm hn hi hj)
  replace hz := Lib.hid hz
  replace hp := Lib.hid hp
  replace hg := Lib.hid hg
  replace hn := Lib.hid hn
  clear h hm
  go_enter Try.func36, Try.ntmps36
  go_wp2
  go_loopw [7, 8, 9, 10] (fun va vb vc i wr => ∃ j : Nat, j ≤ 3 ∧ i = .int .i64 ((y : Int) - 1 + (j : Int)) ∧ va = .int .i64 (sA a P p (3 * j)) ∧ vb = .int .i64 (sB a P p (3 * j)) ∧ vc = .int .i64 (sC a P p (3 * j)) ∧ RB wr w.heap.size a b M (some ⟨bb, off, none⟩) n c ∧ Sl wr (some ⟨bb, off, none⟩) n c P ∧ Below w.heap.size w wr ∧ w.heap.size < wr.heap.size) (fun _ _ _ i _ => ((y : Int) + 2 - intOf i).toNat)
  case atStart => exact ⟨0, by omega, by first | rfl | simp, rfl, rfl, rfl, k0, hs0, hb0, by simp⟩
  case round =>
    clear k0 hs0 hb0
    obtain ⟨j, hj, rfl, rfl, rfl, rfl, k0, hs, hB, hzz⟩ := hrel
    by_cases hlt : j < 3
    · have hji : (y : Int) - 1 + (j : Int) ≤ (y : Int) + 1 := by omega
      go_wp2
      obtain ⟨wo, rfl⟩ : ∃ wo, wo = wr := ⟨_, rfl⟩
      go_loopw [7, 8, 9, 11] (fun va vb vc i wr => ∃ i' : Nat, i' ≤ 3 ∧ i = .int .i64 ((x : Int) - 1 + (i' : Int)) ∧ va = .int .i64 (sA a P p (3 * j + i')) ∧ vb = .int .i64 (sB a P p (3 * j + i')) ∧ vc = .int .i64 (sC a P p (3 * j + i')) ∧ RB wr w.heap.size a b M (some ⟨bb, off, none⟩) n c ∧ Sl wr (some ⟨bb, off, none⟩) n c P ∧ Below w.heap.size w wr ∧ w.heap.size < wr.heap.size) (fun _ _ _ i _ => ((x : Int) + 2 - intOf i).toNat)
      case atStart => exact ⟨0, by omega, by first | rfl | simp, rfl, rfl, rfl, k0, hs, hB, hzz⟩
      case round =>
        clear k0 hs hB hzz
        obtain ⟨i, hi, rfl, rfl, rfl, rfl, k0, hs, hB, hzz⟩ := hrel
        by_cases hlt2 : i < 3
        · have hii : (x : Int) - 1 + (i : Int) ≤ (x : Int) + 1 := by omega
          obtain ⟨⟨d0, d1, d2, d3⟩, f0, f1, f2, f3⟩ := k0.cells
          obtain ⟨t, ht⟩ : ∃ t, 3 * j + i = t := ⟨_, rfl⟩
          have hq := hne.out j i hlt2
          obtain ⟨r1, r2⟩ := hni.out j i hlt2 hlt
          rw [ht] at hq
          have e1 : 3 * j + (i + 1) = t + 1 := by omega
          obtain ⟨Q, hQ⟩ : ∃ Q, nine a p t = Q := ⟨_, rfl⟩
          obtain ⟨b1, b2⟩ := hg.out.at_ (Q + 1)
          obtain ⟨b3, b4⟩ := hg.out.at_ (Q - 1)
          obtain ⟨b5, b6⟩ := hg.out.at_ (Q + a)
          obtain ⟨b7, b8⟩ := hg.out.at_ (Q - a)
          have hx := gX_bd hg.out Q
          have hy := gY_bd (a := a) hg.out Q
          have hGd : gX P Q = nth P (Q + 1) - nth P (Q - 1) := rfl
          have hHd : gY a P Q = nth P (Q + a) - nth P (Q - a) := rfl
          obtain ⟨v1, hv1⟩ : ∃ v, nth P (Q + 1) = v := ⟨_, rfl⟩
          obtain ⟨v2, hv2⟩ : ∃ v, nth P (Q - 1) = v := ⟨_, rfl⟩
          obtain ⟨v3, hv3⟩ : ∃ v, nth P (Q + a) = v := ⟨_, rfl⟩
          obtain ⟨v4, hv4⟩ : ∃ v, nth P (Q - a) = v := ⟨_, rfl⟩
          rw [hv1] at b1 b2 hGd
          rw [hv2] at b3 b4 hGd
          rw [hv3] at b5 b6 hHd
          rw [hv4] at b7 b8 hHd
          obtain ⟨G, hG⟩ : ∃ G, gX P Q = G := ⟨_, rfl⟩
          obtain ⟨H, hH⟩ : ∃ G, gY a P Q = G := ⟨_, rfl⟩
          rw [hG] at hx hGd
          rw [hH] at hy hHd
          have g1 := mul_bd (by decide) hx.1 hx.2 hx.1 hx.2
          have g2 := mul_bd (by decide) hx.1 hx.2 hy.1 hy.2
          have g3 := mul_bd (by decide) hy.1 hy.2 hy.1 hy.2
          obtain ⟨⟨s1, s2⟩, ⟨s3, s4⟩, s5, s6⟩ := hbd.out t
          have u1 := Lib.hid (show sA a P p (t + 1) = sA a P p t + G * G from by rw [← hG, ← hQ]; rfl)
          have u2 := Lib.hid (show sB a P p (t + 1) = sB a P p t + G * H from by rw [← hG, ← hH, ← hQ]; rfl)
          have u3 := Lib.hid (show sC a P p (t + 1) = sC a P p t + H * H from by rw [← hH, ← hQ]; rfl)
          obtain ⟨GG, hGG⟩ : ∃ v, G * G = v := ⟨_, rfl⟩
          obtain ⟨GH, hGH⟩ : ∃ v, G * H = v := ⟨_, rfl⟩
          obtain ⟨HH, hHH⟩ : ∃ v, H * H = v := ⟨_, rfl⟩
          rw [hGG] at g1 u1
          rw [hGH] at g2 u2
          rw [hHH] at g3 u3
          obtain ⟨g1, g1'⟩ := g1
          obtain ⟨g2, g2'⟩ := g2
          obtain ⟨g3, g3'⟩ := g3
          obtain ⟨va, hva⟩ : ∃ v, sA a P p t = v := ⟨_, rfl⟩
          obtain ⟨vb, hvb⟩ : ∃ v, sB a P p t = v := ⟨_, rfl⟩
          obtain ⟨vc, hvc⟩ : ∃ v, sC a P p t = v := ⟨_, rfl⟩
          rw [ht, hva, hvb, hvc]
          rw [hva] at u1 s1 s2
          rw [hvb] at u2 s3 s4
          rw [hvc] at u3 s5 s6
          have ht9 : t ≤ 8 := by omega
          have hq2 : (y + j - 1) * a + (x + i - 1) = Q := hq.trans hQ
          rw [hq2] at r1 r2
          have ha1 : 1 ≤ a := by omega
          have hyj : 1 ≤ y + j - 1 := by omega
          have m1 : (y + j - 1 + 1) * a + (x + i - 1) = Q + a := by rw [Nat.add_mul]; omega
          have m2 : (y + j - 1 - 1) * a + (x + i - 1) = Q - a := by
            obtain ⟨s, hs⟩ : ∃ s, y + j - 1 = s + 1 := ⟨y + j - 2, by omega⟩
            rw [hs] at hq2 ⊢
            rw [Nat.add_mul] at hq2
            rw [Nat.add_sub_cancel]
            omega
          obtain ⟨U, hU⟩ : ∃ U, (x : Int) - 1 + (i : Int) = U := ⟨_, rfl⟩
          obtain ⟨V, hV⟩ : ∃ V, (y : Int) - 1 + (j : Int) = V := ⟨_, rfl⟩
          obtain ⟨U1, hU1⟩ : ∃ U1, U + 1 = U1 := ⟨_, rfl⟩
          obtain ⟨U2, hU2⟩ : ∃ U1, U - 1 = U1 := ⟨_, rfl⟩
          obtain ⟨V1, hV1⟩ : ∃ U1, V + 1 = U1 := ⟨_, rfl⟩
          obtain ⟨V2, hV2⟩ : ∃ U1, V - 1 = U1 := ⟨_, rfl⟩
          have p1 := Lib.hid (fun (W : World) (hb : Below wr.heap.size wr W) => pixel_at (a := a) (b := b) (M := M) (w := W) (x := x + i - 1 + 1) (y := y + j - 1) (i := Q + 1) (u := U1) (v := V) (g := v1) (by omega) (by omega) (hs.below hb (Nat.le_refl _)) ha2 (by omega) (by omega) (by omega) (by omega) hn4 hv1)
          have p2 := Lib.hid (fun (W : World) (hb : Below wr.heap.size wr W) => pixel_at (a := a) (b := b) (M := M) (w := W) (x := x + i - 1 - 1) (y := y + j - 1) (i := Q - 1) (u := U2) (v := V) (g := v2) (by omega) (by omega) (hs.below hb (Nat.le_refl _)) ha2 (by omega) (by omega) (by omega) (by omega) hn4 hv2)
          have p3 := Lib.hid (fun (W : World) (hs' : Sl W (some ⟨bb, off, none⟩) n c P) => pixel_at (a := a) (b := b) (M := M) (w := W) (x := x + i - 1) (y := y + j - 1 + 1) (i := Q + a) (u := U) (v := V1) (g := v3) (by omega) (by omega) hs' ha2 (by omega) (by omega) m1 (by omega) hn4 hv3)
          have p4 := Lib.hid (fun (W : World) (hs' : Sl W (some ⟨bb, off, none⟩) n c P) => pixel_at (a := a) (b := b) (M := M) (w := W) (x := x + i - 1) (y := y + j - 1 - 1) (i := Q - a) (u := U) (v := V2) (g := v4) (by omega) (by omega) hs' ha2 (by omega) (by omega) m2 (by omega) hn4 hv4)
          have keepS_k := k0
          have keepS : ∀ w', Below wr.heap.size wr w' → w'.cell? ⟨w.heap.size, 0, none⟩ = some (.int .i64 a) ∧ w'.cell? ⟨w.heap.size, 1, none⟩ = some (.int .i64 b) ∧ w'.cell? ⟨w.heap.size, 2, none⟩ = some (.int .i64 M) ∧ w'.cell? ⟨w.heap.size, 3, none⟩ = some (.slice (some ⟨bb, off, none⟩) n c) := fun w' hb => ((keepS_k.below hb keepS_k.lt).cells).1
          replace keepS := Lib.hid keepS
          have hG1 : v1 - v2 = G := hGd.symm
          have w1 : IntKind.i64.wrap U1 = U1 := IntWalk.i64_in _ (by omega)
          have w2 : IntKind.i64.wrap U2 = U2 := IntWalk.i64_in _ (by omega)
          have w3 : IntKind.i64.wrap V1 = V1 := IntWalk.i64_in _ (by omega)
          have w4 : IntKind.i64.wrap V2 = V2 := IntWalk.i64_in _ (by omega)
          have w5 : IntKind.i64.wrap G = G := IntWalk.i64_in _ (by omega)
          have w6 : IntKind.i64.wrap H = H := IntWalk.i64_in _ (by omega)
          have hH1 : v3 - v4 = H := hHd.symm
          replace hq := Lib.hid hq
          replace hQ := Lib.hid hQ
          replace hG := Lib.hid hG
          replace hH := Lib.hid hH
          replace hva := Lib.hid hva
          replace hvb := Lib.hid hvb
          replace hvc := Lib.hid hvc
          replace hv1 := Lib.hid hv1
          replace hv2 := Lib.hid hv2
          replace hv3 := Lib.hid hv3
          replace hv4 := Lib.hid hv4
          replace e1 := Lib.hid e1
          replace ht := Lib.hid ht
          replace hq2 := Lib.hid hq2
          replace m1 := Lib.hid m1
          replace m2 := Lib.hid m2
          clear r1 r2 hGd hHd
          rw [hU] at hii ⊢
          rw [hV] at hji ⊢
          have hU' := Lib.hid hU
          have hV' := Lib.hid hV
          have l1 : -1 ≤ U := by omega
          have l2 : U ≤ 100 := by omega
          have l3 : -1 ≤ V := by omega
          have l4 : V ≤ 100 := by omega
          clear hU hV
          go_wp2
          go_region_held3 (fun w' => w'.cell? ⟨w.heap.size, 0, none⟩ = some (.int .i64 a) ∧ w'.cell? ⟨w.heap.size, 1, none⟩ = some (.int .i64 b) ∧ w'.cell? ⟨w.heap.size, 2, none⟩ = some (.int .i64 M) ∧ w'.cell? ⟨w.heap.size, 3, none⟩ = some (.slice (some ⟨bb, off, none⟩) n c))
            (exact keepS.out _ (by repeat (first | refine Below.drew ?_ | exact qB2 | exact qB1 | exact Below.refl _ _)))
            (first | (go_at_call_of 57 (Value.int .i64 U1); refine (p1.out _ (by repeat (first | exact qB2 | exact Below.refl _ _ | refine Below.drew ?_))).mono ?_; rintro e qw1 ⟨rfl, qh1⟩; have qB1 : Below wr.heap.size wr qw1 := Below.trans (by repeat (first | exact qB2 | exact Below.refl _ _ | refine Below.drew ?_)) (qh1.mono (by first | omega | exact Nat.le_refl _ | (simp <;> omega))); have qs1 := qB1.size) | (go_at_call_of 57 (Value.int .i64 U2); refine (p2.out _ (by repeat (first | exact qB1 | exact Below.refl _ _ | refine Below.drew ?_))).mono ?_; rintro e qw2 ⟨rfl, qh2⟩; have qB2 : Below wr.heap.size wr qw2 := Below.trans (by repeat (first | exact qB1 | exact Below.refl _ _ | refine Below.drew ?_)) (qh2.mono (by first | omega | exact Nat.le_refl _ | (simp <;> omega))); have qs2 := qB2.size))
          have hsq := hs.below qB2 (Nat.le_refl _)
          have keepR_k := k0.below qB2 hzz
          have keepR : ∀ w', Below qw2.heap.size qw2 w' → w'.cell? ⟨w.heap.size, 0, none⟩ = some (.int .i64 a) ∧ w'.cell? ⟨w.heap.size, 1, none⟩ = some (.int .i64 b) ∧ w'.cell? ⟨w.heap.size, 2, none⟩ = some (.int .i64 M) ∧ w'.cell? ⟨w.heap.size, 3, none⟩ = some (.slice (some ⟨bb, off, none⟩) n c) := fun w' hb => ((keepR_k.below hb keepR_k.lt).cells).1
          replace keepR := Lib.hid keepR
          replace p3 : Hid (∀ (W : World) (hb : Below qw2.heap.size qw2 W), _) := Lib.hid (fun W hb => p3.out W (hsq.below hb (Nat.le_refl _)))
          replace p4 : Hid (∀ (W : World) (hb : Below qw2.heap.size qw2 W), _) := Lib.hid (fun W hb => p4.out W (hsq.below hb (Nat.le_refl _)))
          clear d0 d1 d2 d3
          obtain ⟨d0, d1, d2, d3⟩ := keepR.out _ (Below.refl _ _)
          have hBq := hB.trans (qB2.mono hB.size)
          have hzq := qB2.size
          go_wp2
          go_region_held3 (fun w' => w'.cell? ⟨w.heap.size, 0, none⟩ = some (.int .i64 a) ∧ w'.cell? ⟨w.heap.size, 1, none⟩ = some (.int .i64 b) ∧ w'.cell? ⟨w.heap.size, 2, none⟩ = some (.int .i64 M) ∧ w'.cell? ⟨w.heap.size, 3, none⟩ = some (.slice (some ⟨bb, off, none⟩) n c))
            (exact keepR.out _ (by repeat (first | refine Below.drew ?_ | exact rB2 | exact rB1 | exact Below.refl _ _)))
            (first | (go_at_call_of 57 (Value.int .i64 V1); refine (p3.out _ (by repeat (first | exact rB2 | exact Below.refl _ _ | refine Below.drew ?_))).mono ?_; rintro e rw1 ⟨rfl, rh1⟩; have rB1 : Below qw2.heap.size qw2 rw1 := Below.trans (by repeat (first | exact rB2 | exact Below.refl _ _ | refine Below.drew ?_)) (rh1.mono (by first | omega | exact Nat.le_refl _ | (simp <;> omega))); have rs1 := rB1.size) | (go_at_call_of 57 (Value.int .i64 V2); refine (p4.out _ (by repeat (first | exact rB1 | exact Below.refl _ _ | refine Below.drew ?_))).mono ?_; rintro e rw2 ⟨rfl, rh2⟩; have rB2 : Below qw2.heap.size qw2 rw2 := Below.trans (by repeat (first | exact rB1 | exact Below.refl _ _ | refine Below.drew ?_)) (rh2.mono (by first | omega | exact Nat.le_refl _ | (simp <;> omega))); have rs2 := rB2.size))
          go_wp2
          go_roundw
          case rel => exact ⟨i + 1, by omega, by first | rfl | (have := hU'.out; congr 1; omega), by rw [e1.out, u1.out], by rw [e1.out, u2.out], by rw [e1.out, u3.out], keepR_k.below rB2 keepR_k.lt, hsq.below rB2 (Nat.le_refl _), hBq.trans (rB2.mono hBq.size), by have := rB2.size; omega⟩
          case measure => have := hU'.out; simp [intOf]; omega
        · obtain rfl : i = 3 := by omega
          have hii : ¬ (x : Int) - 1 + 3 ≤ (x : Int) + 1 := by omega
          go_wp2
          go_roundw
          case rel => exact ⟨j + 1, by omega, by first | rfl | (congr 1; omega), rfl, rfl, rfl, k0, hs, hB, hzz⟩
          case measure => simp [intOf]; omega
    · obtain rfl : j = 3 := by omega
      have hji : ¬ (y : Int) - 1 + 3 ≤ (y : Int) + 1 := by omega
      obtain ⟨⟨b1, b2⟩, ⟨b3, b4⟩, b5, b6⟩ := hbd.out 9
      have hz' : scF (sA a P p 9) (sB a P p 9) (sC a P p 9) = z := hz.out
      obtain ⟨va, hva⟩ : ∃ v, sA a P p 9 = v := ⟨_, rfl⟩
      obtain ⟨vb, hvb⟩ : ∃ v, sB a P p 9 = v := ⟨_, rfl⟩
      obtain ⟨vc, hvc⟩ : ∃ v, sC a P p 9 = v := ⟨_, rfl⟩
      rw [hva] at b1 b2 hz'
      rw [hvb] at b3 b4 hz'
      rw [hvc] at b5 b6 hz'
      simp only [show 3 * 3 = 9 from rfl]
      rw [hva, hvb, hvc]
      have g1 := mul_bd (x := va) (y := vc) (B := 9418761) (by decide) (by omega) (by omega) (by omega) (by omega)
      have g2 := mul_bd (x := vb) (y := vb) (B := 9418761) (by decide) (by omega) (by omega) (by omega) (by omega)
      have g3 := mul_bd (x := va + vc) (y := va + vc) (B := 18837522) (by decide) (by omega) (by omega) (by omega) (by omega)
      unfold scF at hz'
      obtain ⟨AC, hAC⟩ : ∃ v, va * vc = v := ⟨_, rfl⟩
      obtain ⟨BB, hBB⟩ : ∃ v, vb * vb = v := ⟨_, rfl⟩
      obtain ⟨SS, hSS⟩ : ∃ v, (va + vc) * (va + vc) = v := ⟨_, rfl⟩
      rw [hAC] at g1
      rw [hBB] at g2
      rw [hSS] at g3
      rw [hAC, hBB, hSS] at hz'
      obtain ⟨g1, g1'⟩ := g1
      obtain ⟨g2, g2'⟩ := g2
      obtain ⟨g3, g3'⟩ := g3
      replace hz' := Lib.hid hz'
      replace hva := Lib.hid hva
      replace hvb := Lib.hid hvb
      replace hvc := Lib.hid hvc
      go_wp2
      go_ret
      exact ⟨ret_int (by first | exact hz'.out | (rw [← hz'.out]; omega)), hB⟩

end Go.Proofs.Ytnnaojaadjafbaa
