/-
  Walk over the reference: Add.
-/
import Derived.Test.YtabibkhcdamlhaaDoorS
set_option linter.unusedSimpArgs false
set_option linter.unusedVariables false
namespace Go.Proofs.YtabibkhcdamlhaaDoor
open Go.RowKit Num

set_option maxRecDepth 100000 in
set_option maxHeartbeats 4000000 in
/-- Add of the reference. -/
theorem rAdd_any (neg : Bool) (A : Option Addr) (n c : Nat) (x : Int) (neg2 : Bool) (A2 : Option Addr) (n2 c2 : Nat) (y : Int) (k : Nat) (w : World) (hx : VI w neg A n c x k) (hy : VI w neg2 A2 n2 c2 y k) (hk : k ≤ 100000000) :
    Calls Tryd.prog 33 #[.agg #[.bool neg, .slice A n c], .agg #[.bool neg2, .slice A2 n2 c2]] w (RetZ w (x + y) (k + 1)) := by
  have hb1 := ((Below.refl w.heap.size w).alloc (Nat.le_refl _) (.cells #[.bool neg, .slice A n c] 24)).alloc (by simp) (.cells #[.bool neg2, .slice A2 n2 c2] 24)
  have hb0 := hb1.alloc (by simp <;> omega) (.cells #[.bool false, .slice none 0 0] 24)
  clear hb1
  have tok1 : True := trivial
  go_enter Tryd.func33, Tryd.ntmps33
  go_wp2
  go_region_with (first | (go_at_call 13; have _t := tok1; clear tok1 _t; (refine (Value_any _ _ _ _ x k _ (hx.below (by first | exact hb0 | exact hb0.drew)) (by omega)).mono ?_; rintro e w1 ⟨neg1, A1, n1, c1, rfl, hi1, hb2⟩; replace hb2 := undrew hb2; have hbw1 := hb0.trans (hb2.mono (by simp <;> omega)); obtain ⟨⟨d1, d2, d3, d4, d5, d6⟩, ⟨e1, e2, e3, e4, e5, e6⟩, hsz⟩ := box3s hb2)) | (go_at_call 13; refine (Value_any _ _ _ _ y k _ (hy.below (by first | exact hbw1 | exact hbw1.drew)) (by omega)).mono ?_; rintro e w2 ⟨neg3, A3, n3, c3, rfl, hi2, hb3⟩; replace hi1 := hi1.below hb3; have hb4 := btr hb2 hb3; have hbw2 := hb0.trans (hb4.mono (by simp <;> omega)); clear d1 d2 d3 d4 d5 d6 e1 e2 e3 e4 e5 e6 hsz; obtain ⟨⟨d1, d2, d3, d4, d5, d6⟩, ⟨e1, e2, e3, e4, e5, e6⟩, hsz⟩ := box3s hb4))
  all_goals
    have hlt1 : w.heap.size < w2.heap.size := by omega
    have hlt2 : w.heap.size + 1 < w2.heap.size := by omega
    have hlt3 : w.heap.size + 1 + 1 < w2.heap.size := by omega
    obtain ⟨⟨g1, g2, g3, g4, g5, g6⟩, ⟨f1, f2, f3, f4, f5, f6⟩, hsW⟩ := boxes4 (u1 := .bool neg1) (u2 := .slice A1 n1 c1) (u3 := .bool neg3) (u4 := .slice A3 n3 c3) (Below.refl _ _) ⟨d1, d2, d3, d4, d5, d6⟩ ⟨e1, e2, e3, e4, e5, e6⟩ hsz
    have i1 := hi1.store4 d1 d2 d3 d4 (by omega) (.bool neg1) (.slice A1 n1 c1) (.bool neg3) (.slice A3 n3 c3)
    have i2 := hi2.store4 d1 d2 d3 d4 (by omega) (.bool neg1) (.slice A1 n1 c1) (.bool neg3) (.slice A3 n3 c3)
    have hbW : Below w.heap.size w ((((w2.setCell ⟨w.heap.size, 0, none⟩ (.bool neg1)).setCell ⟨w.heap.size, 1, none⟩ (.slice A1 n1 c1)).setCell ⟨w.heap.size + 1, 0, none⟩ (.bool neg3)).setCell ⟨w.heap.size + 1, 1, none⟩ (.slice A3 n3 c3)) := by
      repeat (first | exact hbw2 | refine Below.setCell ?_ (by simp) _)
    clear d1 d2 d3 d4 d5 d6 e1 e2 e3 e4 e5 e6 hsz hi1 hi2 hlt1 hlt2 hlt3
    generalize (((w2.setCell ⟨w.heap.size, 0, none⟩ (.bool neg1)).setCell ⟨w.heap.size, 1, none⟩ (.slice A1 n1 c1)).setCell ⟨w.heap.size + 1, 0, none⟩ (.bool neg3)).setCell ⟨w.heap.size + 1, 1, none⟩ (.slice A3 n3 c3) = W at g1 g2 g3 g4 g5 g6 f1 f2 f3 f4 f5 f6 hsW i1 i2 hbW ⊢
    have m1 := i1.mm
    have m2 := i2.mm
    have z1 := Lib.hid i1.sgnd
    have z2 := Lib.hid i2.sgnd
    clear i1 i2
    have hlt1 : w.heap.size < W.heap.size := by omega
    have hlt2 : w.heap.size + 1 < W.heap.size := by omega
    by_cases hs : neg1 = neg3
    · subst hs
      have ht : (neg1 == neg1) = true := by simp
      go_wp2
      go_region_held3 (fun w' => w'.cell? ⟨w.heap.size, 0, none⟩ = some (.bool neg1) ∧ w'.cell? ⟨w.heap.size, 1, none⟩ = some (.slice A1 n1 c1) ∧ w'.cell? ⟨w.heap.size + 1, 0, none⟩ = some (.bool neg1) ∧ w'.cell? ⟨w.heap.size + 1, 1, none⟩ = some (.slice A3 n3 c3))
        (first | (refine ⟨?_, ?_, ?_, ?_⟩ <;> first | assumption | (simp [go_sem, k1, k2, k3, k4]; done) | (simp [go_sem, g1, g2, g3, g4]; done)) | assumption)
        (first | (go_at_call 66; refine (plus_mm _ _ _ _ _ _ x.natAbs y.natAbs k _ (by first | exact m1 | exact m1.drew) (by first | exact m2 | exact m2.drew) (by omega)).mono ?_; rintro e w5 ⟨A5, n5, c5, rfl, hm5, hb5⟩; replace hb5 := undrew hb5; obtain ⟨⟨h1, h2, h3, h4, h5, h6⟩, ⟨q1, q2, q3, q4, q5, q6⟩, hs5⟩ := boxes6 hb5 ⟨g1, g2, g3, g4, g5, g6⟩ ⟨f1, f2, f3, f4, f5, f6⟩ hsW) | (go_at_call 54; refine (made_mm _ _ _ _ _ _ _ (by first | exact hm5 | exact hm5.drew) (by omega)).mono ?_; rintro e w7 ⟨neg7, A7, n7, c7, rfl, hi7, hb7⟩; replace hb7 := btr hb5 hb7; obtain ⟨⟨k1, k2, k3, k4, k5, k6⟩, ⟨t1, t2, t3, t4, t5, t6⟩, hs7⟩ := boxes6 hb7 ⟨g1, g2, g3, g4, g5, g6⟩ ⟨f1, f2, f3, f4, f5, f6⟩ hsW))
      all_goals
        go_wp2
        refine bodyPost_ret (v := .agg #[.bool neg7, .slice A7 n7 c7]) (by simp [results, Tryd.results33, go_sem, k5, k6]) rfl ?_
        rw [sgnd_add_same z1.out z2.out] at hi7
        exact RetZ.close0 (hi7.mono (by omega)) (hbW.trans (hb7.mono (by omega))) (by omega) k5 k6
    · have ht : (neg1 == neg3) = false := by simpa using hs
      have hneg : neg3 = !neg1 := by cases neg1 <;> cases neg3 <;> simp at hs ⊢
      replace z2 : Hid (sgnd (!neg1) y.natAbs = y) := Lib.hid (by rw [← hneg]; exact z2.out)
      replace hneg := Lib.hid hneg
      clear hs
      by_cases hle : y.natAbs ≤ x.natAbs
      · obtain ⟨q, hq⟩ : ∃ q, cmpi (x.natAbs : Int) (y.natAbs : Int) = q := ⟨_, rfl⟩
        have hq0 : 0 ≤ q := by rw [← hq]; unfold cmpi; rw [if_neg (by omega)]; split <;> omega
        have hqd : decide (0 ≤ q) = true := by simpa using hq0
        replace hq := Lib.hid hq
        replace hq0 := Lib.hid hq0
        replace hle := Lib.hid hle
        go_wp2_with (first | (go_at_call 67; refine (size_any _ _ _ _ _ _ x.natAbs y.natAbs k k _ m1 m2 (by omega)).mono ?_; rintro e W' ⟨rfl, hbs⟩; rw [hq.out]; obtain ⟨⟨r1, r2, r3, r4, r5, r6⟩, ⟨o1, o2, o3, o4, o5, o6⟩, hsW'⟩ := boxes6 hbs ⟨g1, g2, g3, g4, g5, g6⟩ ⟨f1, f2, f3, f4, f5, f6⟩ hsW; replace m1 := m1.below hbs; replace m2 := m2.below hbs; replace hbW := hbW.trans (hbs.mono (by omega)); clear g1 g2 g3 g4 g5 g6 f1 f2 f3 f4 f5 f6 hsW; have g1 := r1; have g2 := r2; have g3 := r3; have g4 := r4; have g5 := r5; have g6 := r6; have f1 := o1; have f2 := o2; have f3 := o3; have f4 := o4; have f5 := o5; have f6 := o6; have hsW := hsW'; clear r1 r2 r3 r4 r5 r6 o1 o2 o3 o4 o5 o6 hsW'))
        go_region_held3 (fun w' => w'.cell? ⟨w.heap.size, 0, none⟩ = some (.bool neg1) ∧ w'.cell? ⟨w.heap.size, 1, none⟩ = some (.slice A1 n1 c1) ∧ w'.cell? ⟨w.heap.size + 1, 0, none⟩ = some (.bool neg3) ∧ w'.cell? ⟨w.heap.size + 1, 1, none⟩ = some (.slice A3 n3 c3))
          (first | (refine ⟨?_, ?_, ?_, ?_⟩ <;> first | assumption | (simp [go_sem, k1, k2, k3, k4]; done) | (simp [go_sem, g1, g2, g3, g4]; done)) | assumption)
          (first | (go_at_call 68; refine (minus_mm _ _ _ _ _ _ x.natAbs y.natAbs k k _ (by first | exact m1 | exact m1.drew) (by first | exact m2 | exact m2.drew) hle.out (by omega)).mono ?_; rintro e w5 ⟨A5, n5, c5, rfl, hm5, hb5⟩; replace hb5 := undrew hb5; obtain ⟨⟨h1, h2, h3, h4, h5, h6⟩, ⟨q1, q2, q3, q4, q5, q6⟩, hs5⟩ := boxes6 hb5 ⟨g1, g2, g3, g4, g5, g6⟩ ⟨f1, f2, f3, f4, f5, f6⟩ hsW) | (go_at_call 54; refine (made_mm _ _ _ _ _ _ _ (by first | exact hm5 | exact hm5.drew) (by omega)).mono ?_; rintro e w7 ⟨neg7, A7, n7, c7, rfl, hi7, hb7⟩; replace hb7 := btr hb5 hb7; obtain ⟨⟨k1, k2, k3, k4, k5, k6⟩, ⟨t1, t2, t3, t4, t5, t6⟩, hs7⟩ := boxes6 hb7 ⟨g1, g2, g3, g4, g5, g6⟩ ⟨f1, f2, f3, f4, f5, f6⟩ hsW))
        all_goals
          go_wp2
          refine bodyPost_ret (v := .agg #[.bool neg7, .slice A7 n7 c7]) (by simp [results, Tryd.results33, go_sem, k5, k6]) rfl ?_
          rw [sgnd_add_left z1.out z2.out hle.out] at hi7
          exact RetZ.close0 (hi7.mono (by omega)) (hbW.trans (hb7.mono (by omega))) (by omega) k5 k6
      · have hq : cmpi (x.natAbs : Int) (y.natAbs : Int) = -1 := by unfold cmpi; rw [if_pos (by omega)]
        have hle2 : x.natAbs ≤ y.natAbs := by omega
        replace hq := Lib.hid hq
        replace hle := Lib.hid hle
        replace hle2 := Lib.hid hle2
        go_wp2_with (first | (go_at_call 67; refine (size_any _ _ _ _ _ _ x.natAbs y.natAbs k k _ m1 m2 (by omega)).mono ?_; rintro e W' ⟨rfl, hbs⟩; rw [hq.out]; obtain ⟨⟨r1, r2, r3, r4, r5, r6⟩, ⟨o1, o2, o3, o4, o5, o6⟩, hsW'⟩ := boxes6 hbs ⟨g1, g2, g3, g4, g5, g6⟩ ⟨f1, f2, f3, f4, f5, f6⟩ hsW; replace m1 := m1.below hbs; replace m2 := m2.below hbs; replace hbW := hbW.trans (hbs.mono (by omega)); clear g1 g2 g3 g4 g5 g6 f1 f2 f3 f4 f5 f6 hsW; have g1 := r1; have g2 := r2; have g3 := r3; have g4 := r4; have g5 := r5; have g6 := r6; have f1 := o1; have f2 := o2; have f3 := o3; have f4 := o4; have f5 := o5; have f6 := o6; have hsW := hsW'; clear r1 r2 r3 r4 r5 r6 o1 o2 o3 o4 o5 o6 hsW'))
        go_region_held3 (fun w' => w'.cell? ⟨w.heap.size, 0, none⟩ = some (.bool neg1) ∧ w'.cell? ⟨w.heap.size, 1, none⟩ = some (.slice A1 n1 c1) ∧ w'.cell? ⟨w.heap.size + 1, 0, none⟩ = some (.bool neg3) ∧ w'.cell? ⟨w.heap.size + 1, 1, none⟩ = some (.slice A3 n3 c3))
          (first | (refine ⟨?_, ?_, ?_, ?_⟩ <;> first | assumption | (simp [go_sem, k1, k2, k3, k4]; done) | (simp [go_sem, g1, g2, g3, g4]; done)) | assumption)
          (first | (go_at_call 68; refine (minus_mm _ _ _ _ _ _ y.natAbs x.natAbs k k _ (by first | exact m2 | exact m2.drew) (by first | exact m1 | exact m1.drew) hle2.out (by omega)).mono ?_; rintro e w5 ⟨A5, n5, c5, rfl, hm5, hb5⟩; replace hb5 := undrew hb5; obtain ⟨⟨h1, h2, h3, h4, h5, h6⟩, ⟨q1, q2, q3, q4, q5, q6⟩, hs5⟩ := boxes6 hb5 ⟨g1, g2, g3, g4, g5, g6⟩ ⟨f1, f2, f3, f4, f5, f6⟩ hsW) | (go_at_call 54; refine (made_mm _ _ _ _ _ _ _ (by first | exact hm5 | exact hm5.drew) (by omega)).mono ?_; rintro e w7 ⟨neg7, A7, n7, c7, rfl, hi7, hb7⟩; replace hb7 := btr hb5 hb7; obtain ⟨⟨k1, k2, k3, k4, k5, k6⟩, ⟨t1, t2, t3, t4, t5, t6⟩, hs7⟩ := boxes6 hb7 ⟨g1, g2, g3, g4, g5, g6⟩ ⟨f1, f2, f3, f4, f5, f6⟩ hsW))
        all_goals
          go_wp2
          refine bodyPost_ret (v := .agg #[.bool neg7, .slice A7 n7 c7]) (by simp [results, Tryd.results33, go_sem, k5, k6]) rfl ?_
          rw [hneg.out, sgnd_add_right z1.out z2.out hle2.out] at hi7
          exact RetZ.close0 (hi7.mono (by omega)) (hbW.trans (hb7.mono (by omega))) (by omega) k5 k6

end Go.Proofs.YtabibkhcdamlhaaDoor

/-
  Walk over the reference: Sub.
-/
namespace Go.Proofs.YtabibkhcdamlhaaDoor
open Go.RowKit Num

set_option maxRecDepth 100000 in
set_option maxHeartbeats 4000000 in
/-- Sub of the reference. -/
theorem rSub_any (neg : Bool) (A : Option Addr) (n c : Nat) (x : Int) (neg2 : Bool) (A2 : Option Addr) (n2 c2 : Nat) (y : Int) (k : Nat) (w : World) (hx : VI w neg A n c x k) (hy : VI w neg2 A2 n2 c2 y k) (hk : k ≤ 100000000) :
    Calls Tryd.prog 34 #[.agg #[.bool neg, .slice A n c], .agg #[.bool neg2, .slice A2 n2 c2]] w (RetZ w (x - y) (k + 1)) := by
  have hb1 := ((Below.refl w.heap.size w).alloc (Nat.le_refl _) (.cells #[.bool neg, .slice A n c] 24)).alloc (by simp) (.cells #[.bool neg2, .slice A2 n2 c2] 24)
  have hb0 := hb1.alloc (by simp <;> omega) (.cells #[.bool false, .slice none 0 0] 24)
  clear hb1
  go_enter Tryd.func34, Tryd.ntmps34
  go_wp2
  go_region_with (first | (go_at_call 20; (refine (rNeg_any _ _ _ _ y k _ (hy.below (by first | exact hb0 | exact hb0.drew)) (by omega)).mono ?_; rintro e w1 ⟨neg1, A1, n1, c1, rfl, hi1, hb2⟩; replace hb2 := undrew hb2; have hbw1 := hb0.trans (hb2.mono (by simp <;> omega)); obtain ⟨⟨d1, d2, d3, d4, d5, d6⟩, ⟨e1, e2, e3, e4, e5, e6⟩, hsz⟩ := box3s hb2)) | (go_at_call 33; refine (rAdd_any _ _ _ _ x _ _ _ _ (-y) k _ (hx.below (by first | exact hbw1 | exact hbw1.drew)) (by exact hi1.vi) hk).mono ?_; rintro e w2 ⟨neg3, A3, n3, c3, rfl, hi3, hb3⟩; have hb4 := btr hb2 hb3; clear d1 d2 d3 d4 d5 d6 e1 e2 e3 e4 e5 e6 hsz; obtain ⟨⟨d1, d2, d3, d4, d5, d6⟩, ⟨e1, e2, e3, e4, e5, e6⟩, hsz⟩ := box3s hb4))
  all_goals
    go_wp2
    refine bodyPost_ret (v := .agg #[.bool neg3, .slice A3 n3 c3]) (by simp [results, Tryd.results34, go_sem, d5, d6]) rfl ?_
    rw [← Int.sub_eq_add_neg] at hi3
    exact RetZ.close0 hi3 (hb0.trans (hb4.mono (by simp <;> omega))) (by omega) d5 d6

end Go.Proofs.YtabibkhcdamlhaaDoor
