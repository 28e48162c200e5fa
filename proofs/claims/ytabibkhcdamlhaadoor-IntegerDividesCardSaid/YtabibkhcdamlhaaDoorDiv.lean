/-
  Walk: Divide of package integer.
-/
import Derived.Test.YtabibkhcdamlhaaDoorDg
import Derived.Test.YtabibkhcdamlhaaDoorS
import Derived.Test.YtabibkhcdamlhaaDoorNum
import Derived.Test.YtabibkhcdamlhaaDoorRingA
import Derived.Test.YtabibkhcdamlhaaDoorInv
set_option linter.unusedSimpArgs false
set_option linter.unusedVariables false
namespace Go.Proofs.YtabibkhcdamlhaaDoor
open Go.RowKit Num

/-- A quotient and a remainder, or the code. -/
def RetV (w : World) (x y : Int) (k k2 : Nat) (e : Ending) (w' : World) : Prop :=
  ∃ neg A n c neg2 A2 n2 c2 cd, e = .returned (.tuple #[.agg #[.bool neg, .slice A n c], .agg #[.bool neg2, .slice A2 n2 c2], .int .i64 cd]) ∧ Below w.heap.size w w' ∧
    ((y = 0 ∧ cd = 14 ∧ II w' neg A n c 0 k ∧ II w' neg2 A2 n2 c2 0 k2) ∨ (y ≠ 0 ∧ cd = 0 ∧ II w' neg A n c (dq x y) k ∧ II w' neg2 A2 n2 c2 (dr x y) k2))

theorem dq_same {x y : Int} (h : decide (x < 0) = decide (y < 0)) : dq x y = sgnd false (x.natAbs / y.natAbs) := by unfold dq; rw [if_pos h]; rfl
theorem dq_zero {x y : Int} (h : ¬ decide (x < 0) = decide (y < 0)) (h0 : x.natAbs % y.natAbs = 0) : dq x y = sgnd true (x.natAbs / y.natAbs) := by unfold dq; rw [if_neg h, if_pos h0]; rfl
theorem dq_diff {x y : Int} (h : ¬ decide (x < 0) = decide (y < 0)) (h0 : x.natAbs % y.natAbs ≠ 0) : dq x y = sgnd true (x.natAbs / y.natAbs + 1) := by unfold dq; rw [if_neg h, if_neg h0]; rfl
theorem neg_dec {w : World} {neg : Bool} {A : Option Addr} {n c k : Nat} {z : Int} (h : II w neg A n c z k) : neg = decide (z < 0) := by
  have := h.neg_iff
  cases neg <;> simp_all

/-- The frame with what the region writes into its slots. -/
def holeRV9 (a : Act) (v46 v47 v48 v49 v50 v51 v52 v6 : Value) : Act := { a with tmps := ((((((((a.tmps.setIfInBounds 46 v46).setIfInBounds 47 v47).setIfInBounds 48 v48).setIfInBounds 49 v49).setIfInBounds 50 v50).setIfInBounds 51 v51).setIfInBounds 52 v52).setIfInBounds 6 v6) }
/-- What stands while the region is under way. -/
def IRV9 (W0 : World) (s kq kr : Nat) (zq zr : Int) (x46 x47 x49 x50 x51 x6 : Value) (a0 : Act) (L : Array Bool) (a : Act) (w : World) : Prop :=
  ∃ v46 v47 v48 v49 v50 v51 v52 v6, a = holeRV9 a0 v46 v47 v48 v49 v50 v51 v52 v6 ∧ L.size = 10 ∧ (L.getD 2 false = false → Below W0.heap.size W0 w) ∧ (L.getD 2 false = true → L.getD 6 false = false → Below W0.heap.size W0 w ∧ IV w v48 zq kq) ∧ (L.getD 6 false = true → L.getD 7 false = false → Below W0.heap.size W0 w ∧ IV w v48 zq kq ∧ IV w v52 zr kr) ∧ (L.getD 7 false = true → L.getD 8 false = false → ∃ w8 b A n c, (Below W0.heap.size W0 w8 ∧ II w8 b A n c zq kq ∧ IV w8 v52 zr kr) ∧ w = (w8.setCell ⟨s + 1 + 1, 0, none⟩ (.bool b)).setCell ⟨s + 1 + 1, 1, none⟩ (.slice A n c)) ∧ (L.getD 8 false = true → ∃ w8 b A n c b2 A2 n2 c2, (Below W0.heap.size W0 w8 ∧ II w8 b A n c zq kq ∧ II w8 b2 A2 n2 c2 zr kr) ∧ w = (((w8.setCell ⟨s + 1 + 1, 0, none⟩ (.bool b)).setCell ⟨s + 1 + 1, 1, none⟩ (.slice A n c)).setCell ⟨s + 1 + 1 + 1, 0, none⟩ (.bool b2)).setCell ⟨s + 1 + 1 + 1, 1, none⟩ (.slice A2 n2 c2)) ∧ (L.getD 2 false = true → L.getD 0 false = true ∧ L.getD 1 false = true) ∧ (L.getD 6 false = true → L.getD 4 false = true ∧ L.getD 5 false = true ∧ L.getD 2 false = true ∧ L.getD 0 false = true ∧ L.getD 1 false = true) ∧ (L.getD 7 false = true → L.getD 2 false = true ∧ L.getD 6 false = true ∧ L.getD 0 false = true ∧ L.getD 1 false = true ∧ L.getD 4 false = true ∧ L.getD 5 false = true) ∧ (L.getD 8 false = true → L.getD 6 false = true ∧ L.getD 7 false = true ∧ L.getD 0 false = true ∧ L.getD 1 false = true ∧ L.getD 2 false = true ∧ L.getD 3 false = true ∧ L.getD 4 false = true ∧ L.getD 5 false = true) ∧ (L.getD 0 false = true → v46 = x46) ∧ (L.getD 1 false = true → v47 = x47) ∧ (L.getD 2 false = true → True) ∧ (L.getD 3 false = true → v49 = x49) ∧ (L.getD 4 false = true → v50 = x50) ∧ (L.getD 5 false = true → v51 = x51) ∧ (L.getD 6 false = true → True) ∧ (L.getD 9 false = true → v6 = x6)

set_option maxRecDepth 100000 in
set_option maxHeartbeats 8000000 in
/-- Divide. -/
theorem Divide_any (neg : Bool) (A : Option Addr) (n c : Nat) (x : Int) (neg2 : Bool) (A2 : Option Addr) (n2 c2 : Nat) (y : Int) (k : Nat) (w : World) (hx : VI w neg A n c x k) (hy : VI w neg2 A2 n2 c2 y k) (hk : k ≤ 100000) :
    Calls Tryd.prog 36 #[.agg #[.bool neg, .slice A n c], .agg #[.bool neg2, .slice A2 n2 c2]] w (RetV w x y (k + 2) (k + 1)) := by
  have hb0 := ((((Below.refl w.heap.size w).alloc (Nat.le_refl _) (.cells #[.bool neg, .slice A n c] 24)).alloc (by simp) (.cells #[.bool neg2, .slice A2 n2 c2] 24)).alloc (by simp <;> omega) (.cells #[.bool false, .slice none 0 0] 24)).alloc (by simp <;> omega) (.cells #[.bool false, .slice none 0 0] 24)
  have tok1 : True := trivial
  go_enter Tryd.func36, Tryd.ntmps36
  go_wp2
  go_region_with (first | (go_at_call 50; have _t := tok1; clear tok1 _t; (refine (counted_old _ _ _ _ _ _ w _ hx (by first | exact hb0 | exact hb0.drew) (by omega)).mono ?_; rintro e w1 ⟨neg1, A1, n1, c1, rfl, hi1, hb2⟩; replace hb2 := undrew hb2; have hbw1 := hb0.trans (hb2.mono (by simp <;> omega)); obtain ⟨⟨d1, d2, e1, e2, hs1⟩, ⟨d3, d4, e3, e4, hs2⟩, ⟨d5, d6, e5, e6, hs3⟩, ⟨d7, d8, e7, e8, hs4⟩⟩ := boxes hb2)) | (go_at_call 50; refine (counted_old _ _ _ _ _ _ w _ hy (by first | exact hbw1 | exact hbw1.drew) (by omega)).mono ?_; rintro e w2 ⟨neg3, A3, n3, c3, rfl, hi2, hb3⟩; have hb4 := btr hb2 hb3; have hbw2 := hb0.trans (hb4.mono (by simp <;> omega)); clear d1 d2 d3 d4 d5 d6 d7 d8 e1 e2 e3 e4 e5 e6 e7 e8 hs1 hs2 hs3 hs4; obtain ⟨⟨d1, d2, e1, e2, hs1⟩, ⟨d3, d4, e3, e4, hs2⟩, ⟨d5, d6, e5, e6, hs3⟩, ⟨d7, d8, e7, e8, hs4⟩⟩ := boxes hb4))
  all_goals
    have q1 : Bx ((((w2.setCell ⟨w.heap.size, 0, none⟩ (.bool neg1)).setCell ⟨w.heap.size, 1, none⟩ (.slice A1 n1 c1)).setCell ⟨w.heap.size + 1, 0, none⟩ (.bool neg3)).setCell ⟨w.heap.size + 1, 1, none⟩ (.slice A3 n3 c3)) w.heap.size (.bool neg1) (.slice A1 n1 c1) :=
      ((Bx.set (show Bx w2 w.heap.size _ _ from ⟨d1, d2, e1, e2, hs1⟩) _ _).far (by simp) _).far (by simp) _
    have q2 : Bx ((((w2.setCell ⟨w.heap.size, 0, none⟩ (.bool neg1)).setCell ⟨w.heap.size, 1, none⟩ (.slice A1 n1 c1)).setCell ⟨w.heap.size + 1, 0, none⟩ (.bool neg3)).setCell ⟨w.heap.size + 1, 1, none⟩ (.slice A3 n3 c3)) (w.heap.size + 1) (.bool neg3) (.slice A3 n3 c3) :=
      Bx.set (((show Bx w2 (w.heap.size + 1) _ _ from ⟨d3, d4, e3, e4, hs2⟩).far (by simp) _).far (by simp) _) _ _
    have q3 : Bx ((((w2.setCell ⟨w.heap.size, 0, none⟩ (.bool neg1)).setCell ⟨w.heap.size, 1, none⟩ (.slice A1 n1 c1)).setCell ⟨w.heap.size + 1, 0, none⟩ (.bool neg3)).setCell ⟨w.heap.size + 1, 1, none⟩ (.slice A3 n3 c3)) (w.heap.size + 1 + 1) (.bool false) (.slice none 0 0) :=
      ((((show Bx w2 (w.heap.size + 1 + 1) _ _ from ⟨d5, d6, e5, e6, hs3⟩).far (by dsimp only; omega) _).far (by dsimp only; omega) _).far (by dsimp only; omega) _).far (by dsimp only; omega) _
    have q4 : Bx ((((w2.setCell ⟨w.heap.size, 0, none⟩ (.bool neg1)).setCell ⟨w.heap.size, 1, none⟩ (.slice A1 n1 c1)).setCell ⟨w.heap.size + 1, 0, none⟩ (.bool neg3)).setCell ⟨w.heap.size + 1, 1, none⟩ (.slice A3 n3 c3)) (w.heap.size + 1 + 1 + 1) (.bool false) (.slice none 0 0) :=
      ((((show Bx w2 (w.heap.size + 1 + 1 + 1) _ _ from ⟨d7, d8, e7, e8, hs4⟩).far (by dsimp only; omega) _).far (by dsimp only; omega) _).far (by dsimp only; omega) _).far (by dsimp only; omega) _
    have hbX : Below w.heap.size w ((((w2.setCell ⟨w.heap.size, 0, none⟩ (.bool neg1)).setCell ⟨w.heap.size, 1, none⟩ (.slice A1 n1 c1)).setCell ⟨w.heap.size + 1, 0, none⟩ (.bool neg3)).setCell ⟨w.heap.size + 1, 1, none⟩ (.slice A3 n3 c3)) := by
      repeat (first | exact hbw2 | refine Below.setCell ?_ (by simp) _)
    clear d1 d2 d3 d4 d5 d6 d7 d8 e1 e2 e3 e4 e5 e6 e7 e8 hs1 hs2 hs3 hs4 hb2 hb3 hb4 hbw1 hbw2 hb0
    generalize (((w2.setCell ⟨w.heap.size, 0, none⟩ (.bool neg1)).setCell ⟨w.heap.size, 1, none⟩ (.slice A1 n1 c1)).setCell ⟨w.heap.size + 1, 0, none⟩ (.bool neg3)).setCell ⟨w.heap.size + 1, 1, none⟩ (.slice A3 n3 c3) = X at q1 q2 q3 q4 hbX ⊢
    have m1 := (hi1.mm).below hbX
    have m2 := (hi2.mm).below hbX
    have s1 := Lib.hid (neg_dec hi1)
    have s2 := Lib.hid (neg_dec hi2)
    have hz := hi2.len_zero
    clear hi1 hi2 w1 w2
    obtain ⟨g1, g2, f1, f2, hsX1⟩ := q1
    obtain ⟨g3, g4, f3, f4, hsX2⟩ := q2
    by_cases hy0 : y = 0
    · have hn0 : n3 = 0 := hz.2 hy0
      subst hn0
      obtain ⟨g5, g6, f5, f6, hsX3⟩ := q3
      obtain ⟨g7, g8, f7, f8, hsX4⟩ := q4
      clear hz
      go_wp2
      refine bodyPost_ret (v := .tuple #[.agg #[.bool false, .slice none 0 0], .agg #[.bool false, .slice none 0 0], .int .i64 14]) (by simp [results, Tryd.results36, go_sem, g5, g6, g7, g8]) rfl ?_
      refine ⟨_, _, _, _, _, _, _, _, _, rfl, ?_, .inl ⟨hy0, rfl, II.zero _ _, II.zero _ _⟩⟩
      repeat (first | exact hbX | refine Below.drew ?_ | refine Below.setCell ?_ (by dsimp only; omega) _)
    · have hn0 : ¬ n3 = 0 := fun h => hy0 (hz.1 h)
      have hn0I : ¬ (n3 : Int) = 0 := by omega
      have hyp : 0 < y.natAbs := by omega
      clear hz
      go_upto_region 5 with (go_at_call 69; refine (divideGroups_any _ _ _ x.natAbs k _ _ _ y.natAbs k _ m1 m2 (by omega) (by omega) hyp).mono ?_; rintro e w3 ⟨A5, n5, c5, A6, n6, c6, rfl, hq, hr, hb5⟩)
      obtain ⟨d1, d2, e1, e2, hs1⟩ := Bx.below (show Bx X w.heap.size _ _ from ⟨g1, g2, f1, f2, hsX1⟩) hb5
      obtain ⟨d3, d4, e3, e4, hs2⟩ := Bx.below (show Bx X (w.heap.size + 1) _ _ from ⟨g3, g4, f3, f4, hsX2⟩) hb5
      replace q3 := q3.below hb5
      replace q4 := q4.below hb5
      have m3 := m2.below hb5
      have hb6 : Below w.heap.size w w3 := hbX.trans (hb5.mono hbX.size)
      have hqm := hq.mm
      have hrm := hr.mm
      clear g1 g2 g3 g4 f1 f2 f3 f4 hsX1 hsX2 hb5 m1 m2 hbX hq hr hn0 hn0I
      clear X
      by_cases hop : neg1 = neg3
      · have hsame : decide (x < 0) = decide (y < 0) := by rw [← s1.out, ← s2.out]; exact hop
        have hq5 : sgnd false (x.natAbs / y.natAbs) = dq x y := (dq_same hsame).symm
        have hr5 : sgnd neg3 (x.natAbs % y.natAbs) = dr x y := by rw [dr_same hsame, ← s2.out]
        subst hop
        clear hsame
        have ht : (neg1 == neg1) = true := by simp
        go_wp2
        rename_i KQ hKQ
        have hcell : ∀ w', Below w3.heap.size w3 w' → w'.cell? ⟨w.heap.size + 1, 0, none⟩ = some (.bool neg1) := fun w' h => (Bx.below (show Bx w3 (w.heap.size + 1) _ _ from ⟨d3, d4, e3, e4, hs2⟩) h).1
        have hbox3 := fun w' (h : Below w3.heap.size w3 w') => q3.below h
        have hbox4 := fun w' (h : Below w3.heap.size w3 w') => q4.below h
        replace hcell := Lib.hid hcell
        replace hbox3 := Lib.hid hbox3
        replace hbox4 := Lib.hid hbox4
        clear d1 d2 d3 d4 e1 e2 e3 e4 q3 q4
        refine wp_region_inv0 (I0 := IRV9 w3 w.heap.size (k + 2) (k + 1) (sgnd false (x.natAbs / y.natAbs)) (sgnd neg1 (x.natAbs % y.natAbs)) (.bool false) (.slice A5 n5 c5) (.pointer (some ⟨w.heap.size + 1, 0, none⟩)) (.bool neg1) (.slice A6 n6 c6) (.int .i64 0)) (by kernel_rfl) (by kernel_rfl) ?_ ?_ ?_ ?_
        · intro L a w1 hI
          unfold IRV9 at hI
          obtain ⟨v46, v47, v48, v49, v50, v51, v52, v6, hae, hsz, -⟩ := hI
          exact hsz
        · exact ⟨undef, undef, undef, undef, undef, undef, undef, (.int .i64 0), (by simp only [holeRV9, Act.put, List.setIfInBounds_toArray, List.set_cons_zero, List.set_cons_succ]), by simp, fun _ => (Below.refl _ _).drew, fun h _ => by simp at h, fun h _ => by simp at h, fun h _ => by simp at h, fun h => by simp at h, fun h => by simp at h, fun h => by simp at h, fun h => by simp at h, fun h => by simp at h, fun h => by simp at h, fun h => by simp at h, fun h => by simp at h, fun h => by simp at h, fun h => by simp at h, fun h => by simp at h, fun h => by simp at h, fun h => by simp at h⟩
        · refine steps_cons ?_ (steps_cons ?_ (steps_cons ?_ (steps_cons ?_ (steps_cons ?_ (steps_cons ?_ (steps_cons ?_ (steps_cons ?_ (steps_cons ?_ (steps_cons ?_ (steps_nil))))))))))
          · unfold StepAt
            intro L a w1 KK hI hi ha hKK
            unfold IRV9 at hI
            obtain ⟨v46, v47, v48, v49, v50, v51, v52, v6, hae, hsz, s0_, s1_, s2_, s3_, s4_, c2_, c6_, c7_, c8_, l0_, l1_, l2_, l3_, l4_, l5_, l6_, l9_⟩ := hI
            replace s0_ := Lib.hid s0_
            replace s1_ := Lib.hid s1_
            replace s2_ := Lib.hid s2_
            replace s3_ := Lib.hid s3_
            replace s4_ := Lib.hid s4_
            replace c2_ := Lib.hid c2_
            replace c6_ := Lib.hid c6_
            replace c7_ := Lib.hid c7_
            replace c8_ := Lib.hid c8_
            replace l0_ := Lib.hid l0_
            replace l1_ := Lib.hid l1_
            replace l2_ := Lib.hid l2_
            replace l3_ := Lib.hid l3_
            replace l4_ := Lib.hid l4_
            replace l5_ := Lib.hid l5_
            replace l6_ := Lib.hid l6_
            replace l9_ := Lib.hid l9_
            rw [hae]
            clear hae
            simp only [holeRV9, List.setIfInBounds_toArray, List.set_cons_zero, List.set_cons_succ]
            go_simp
            exact hKK _ _ ⟨(.bool false), v47, v48, v49, v50, v51, v52, v6, (by simp only [holeRV9, Act.put, List.setIfInBounds_toArray, List.set_cons_zero, List.set_cons_succ]), by simpa using hsz, fun e2 => s0_.out (by rwa [gs_off (by decide)] at e2), fun e e2 => s1_.out (by rwa [gs_off (by decide)] at e) (by rwa [gs_off (by decide)] at e2), fun e e2 => s2_.out (by rwa [gs_off (by decide)] at e) (by rwa [gs_off (by decide)] at e2), fun e e2 => s3_.out (by rwa [gs_off (by decide)] at e) (by rwa [gs_off (by decide)] at e2), fun e => s4_.out (by rwa [gs_off (by decide)] at e), fun e => (not_on hi (c2_.out (by rwa [gs_off (by decide)] at e)).1).elim, fun e => (not_on hi (c6_.out (by rwa [gs_off (by decide)] at e)).2.2.2.1).elim, fun e => (not_on hi (c7_.out (by rwa [gs_off (by decide)] at e)).2.2.1).elim, fun e => (not_on hi (c8_.out (by rwa [gs_off (by decide)] at e)).2.2.1).elim, fun _ => rfl, fun e => l1_.out (by rwa [gs_off (by decide)] at e), fun e => l2_.out (by rwa [gs_off (by decide)] at e), fun e => l3_.out (by rwa [gs_off (by decide)] at e), fun e => l4_.out (by rwa [gs_off (by decide)] at e), fun e => l5_.out (by rwa [gs_off (by decide)] at e), fun e => l6_.out (by rwa [gs_off (by decide)] at e), fun e => l9_.out (by rwa [gs_off (by decide)] at e)⟩
          · unfold StepAt
            intro L a w1 KK hI hi ha hKK
            unfold IRV9 at hI
            obtain ⟨v46, v47, v48, v49, v50, v51, v52, v6, hae, hsz, s0_, s1_, s2_, s3_, s4_, c2_, c6_, c7_, c8_, l0_, l1_, l2_, l3_, l4_, l5_, l6_, l9_⟩ := hI
            replace s0_ := Lib.hid s0_
            replace s1_ := Lib.hid s1_
            replace s2_ := Lib.hid s2_
            replace s3_ := Lib.hid s3_
            replace s4_ := Lib.hid s4_
            replace c2_ := Lib.hid c2_
            replace c6_ := Lib.hid c6_
            replace c7_ := Lib.hid c7_
            replace c8_ := Lib.hid c8_
            replace l0_ := Lib.hid l0_
            replace l1_ := Lib.hid l1_
            replace l2_ := Lib.hid l2_
            replace l3_ := Lib.hid l3_
            replace l4_ := Lib.hid l4_
            replace l5_ := Lib.hid l5_
            replace l6_ := Lib.hid l6_
            replace l9_ := Lib.hid l9_
            rw [hae]
            clear hae
            simp only [holeRV9, List.setIfInBounds_toArray, List.set_cons_zero, List.set_cons_succ]
            go_simp
            exact hKK _ _ ⟨v46, (.slice A5 n5 c5), v48, v49, v50, v51, v52, v6, (by simp only [holeRV9, Act.put, List.setIfInBounds_toArray, List.set_cons_zero, List.set_cons_succ]), by simpa using hsz, fun e2 => s0_.out (by rwa [gs_off (by decide)] at e2), fun e e2 => s1_.out (by rwa [gs_off (by decide)] at e) (by rwa [gs_off (by decide)] at e2), fun e e2 => s2_.out (by rwa [gs_off (by decide)] at e) (by rwa [gs_off (by decide)] at e2), fun e e2 => s3_.out (by rwa [gs_off (by decide)] at e) (by rwa [gs_off (by decide)] at e2), fun e => s4_.out (by rwa [gs_off (by decide)] at e), fun e => (not_on hi (c2_.out (by rwa [gs_off (by decide)] at e)).2).elim, fun e => (not_on hi (c6_.out (by rwa [gs_off (by decide)] at e)).2.2.2.2).elim, fun e => (not_on hi (c7_.out (by rwa [gs_off (by decide)] at e)).2.2.2.1).elim, fun e => (not_on hi (c8_.out (by rwa [gs_off (by decide)] at e)).2.2.2.1).elim, fun e => l0_.out (by rwa [gs_off (by decide)] at e), fun _ => rfl, fun e => l2_.out (by rwa [gs_off (by decide)] at e), fun e => l3_.out (by rwa [gs_off (by decide)] at e), fun e => l4_.out (by rwa [gs_off (by decide)] at e), fun e => l5_.out (by rwa [gs_off (by decide)] at e), fun e => l6_.out (by rwa [gs_off (by decide)] at e), fun e => l9_.out (by rwa [gs_off (by decide)] at e)⟩
          · unfold StepAt
            intro L a w1 KK hI hi ha hKK
            unfold IRV9 at hI
            obtain ⟨v46, v47, v48, v49, v50, v51, v52, v6, hae, hsz, s0_, s1_, s2_, s3_, s4_, c2_, c6_, c7_, c8_, l0_, l1_, l2_, l3_, l4_, l5_, l6_, l9_⟩ := hI
            have hoff : L.getD 2 false = false := by
              cases h : L.getD 2 false
              · rfl
              · exact (not_on hi h).elim
            have hP := s0_ hoff
            have q0 := ha { on := 0, ground := Ground.data } (by simp) rfl
            have e0 := l0_ q0
            subst e0
            have q1 := ha { on := 1, ground := Ground.data } (by simp) rfl
            have e1 := l1_ q1
            subst e1
            replace s0_ := Lib.hid s0_
            replace s1_ := Lib.hid s1_
            replace s2_ := Lib.hid s2_
            replace s3_ := Lib.hid s3_
            replace s4_ := Lib.hid s4_
            replace c2_ := Lib.hid c2_
            replace c6_ := Lib.hid c6_
            replace c7_ := Lib.hid c7_
            replace c8_ := Lib.hid c8_
            replace l0_ := Lib.hid l0_
            replace l1_ := Lib.hid l1_
            replace l2_ := Lib.hid l2_
            replace l3_ := Lib.hid l3_
            replace l4_ := Lib.hid l4_
            replace l5_ := Lib.hid l5_
            replace l6_ := Lib.hid l6_
            replace l9_ := Lib.hid l9_
            rw [hae]
            clear hae
            simp only [holeRV9, List.setIfInBounds_toArray, List.set_cons_zero, List.set_cons_succ]
            replace hKK := Lib.hid hKK
            go_wp2_with (go_at_call 52; refine (signed_mm false _ _ _ _ _ w1 (hqm.below hP) (by omega)).mono ?_; rintro e w7 ⟨neg7, A17, n17, c17, rfl, hi7, hb17⟩)
            exact hKK.out _ _ ⟨(.bool false), (.slice A5 n5 c5), (.agg #[.bool neg7, .slice A17 n17 c17]), v49, v50, v51, v52, v6, (by simp only [holeRV9, Act.put, List.setIfInBounds_toArray, List.set_cons_zero, List.set_cons_succ]), by simpa using hsz, fun e => by (exfalso; revert e; simp [Array.getD_eq_getD_getElem?, hsz]), fun _ _ => ⟨hP.trans (hb17.mono hP.size), _, _, _, _, rfl, hi7.mono (by omega)⟩, fun e _ => (not_on hi (c6_.out (by rwa [gs_off (by decide)] at e)).2.2.1).elim, fun e _ => (not_on hi (c7_.out (by rwa [gs_off (by decide)] at e)).1).elim, fun e => (not_on hi (c8_.out (by rwa [gs_off (by decide)] at e)).2.2.2.2.1).elim, fun _ => ⟨by rw [gs_off (by decide)]; exact ha { on := 0, ground := Ground.data } (by simp) rfl, by rw [gs_off (by decide)]; exact ha { on := 1, ground := Ground.data } (by simp) rfl⟩, fun e => (not_on hi (c6_.out (by rwa [gs_off (by decide)] at e)).2.2.1).elim, fun e => (not_on hi (c7_.out (by rwa [gs_off (by decide)] at e)).1).elim, fun e => (not_on hi (c8_.out (by rwa [gs_off (by decide)] at e)).2.2.2.2.1).elim, fun _ => rfl, fun _ => rfl, fun _ => trivial, fun e => l3_.out (by rwa [gs_off (by decide)] at e), fun e => l4_.out (by rwa [gs_off (by decide)] at e), fun e => l5_.out (by rwa [gs_off (by decide)] at e), fun e => l6_.out (by rwa [gs_off (by decide)] at e), fun e => l9_.out (by rwa [gs_off (by decide)] at e)⟩
          · unfold StepAt
            intro L a w1 KK hI hi ha hKK
            unfold IRV9 at hI
            obtain ⟨v46, v47, v48, v49, v50, v51, v52, v6, hae, hsz, s0_, s1_, s2_, s3_, s4_, c2_, c6_, c7_, c8_, l0_, l1_, l2_, l3_, l4_, l5_, l6_, l9_⟩ := hI
            replace s0_ := Lib.hid s0_
            replace s1_ := Lib.hid s1_
            replace s2_ := Lib.hid s2_
            replace s3_ := Lib.hid s3_
            replace s4_ := Lib.hid s4_
            replace c2_ := Lib.hid c2_
            replace c6_ := Lib.hid c6_
            replace c7_ := Lib.hid c7_
            replace c8_ := Lib.hid c8_
            replace l0_ := Lib.hid l0_
            replace l1_ := Lib.hid l1_
            replace l2_ := Lib.hid l2_
            replace l3_ := Lib.hid l3_
            replace l4_ := Lib.hid l4_
            replace l5_ := Lib.hid l5_
            replace l6_ := Lib.hid l6_
            replace l9_ := Lib.hid l9_
            rw [hae]
            clear hae
            simp only [holeRV9, List.setIfInBounds_toArray, List.set_cons_zero, List.set_cons_succ]
            go_simp
            exact hKK _ _ ⟨v46, v47, v48, (.pointer (some ⟨w.heap.size + 1, 0, none⟩)), v50, v51, v52, v6, (by simp only [holeRV9, Act.put, List.setIfInBounds_toArray, List.set_cons_zero, List.set_cons_succ]), by simpa using hsz, fun e2 => s0_.out (by rwa [gs_off (by decide)] at e2), fun e e2 => s1_.out (by rwa [gs_off (by decide)] at e) (by rwa [gs_off (by decide)] at e2), fun e e2 => s2_.out (by rwa [gs_off (by decide)] at e) (by rwa [gs_off (by decide)] at e2), fun e e2 => s3_.out (by rwa [gs_off (by decide)] at e) (by rwa [gs_off (by decide)] at e2), fun e => s4_.out (by rwa [gs_off (by decide)] at e), fun e => ⟨by rw [gs_off (by decide)]; exact (c2_.out (by rwa [gs_off (by decide)] at e)).1, by rw [gs_off (by decide)]; exact (c2_.out (by rwa [gs_off (by decide)] at e)).2⟩, fun e => ⟨by rw [gs_off (by decide)]; exact (c6_.out (by rwa [gs_off (by decide)] at e)).1, by rw [gs_off (by decide)]; exact (c6_.out (by rwa [gs_off (by decide)] at e)).2.1, by rw [gs_off (by decide)]; exact (c6_.out (by rwa [gs_off (by decide)] at e)).2.2.1, by rw [gs_off (by decide)]; exact (c6_.out (by rwa [gs_off (by decide)] at e)).2.2.2.1, by rw [gs_off (by decide)]; exact (c6_.out (by rwa [gs_off (by decide)] at e)).2.2.2.2⟩, fun e => ⟨by rw [gs_off (by decide)]; exact (c7_.out (by rwa [gs_off (by decide)] at e)).1, by rw [gs_off (by decide)]; exact (c7_.out (by rwa [gs_off (by decide)] at e)).2.1, by rw [gs_off (by decide)]; exact (c7_.out (by rwa [gs_off (by decide)] at e)).2.2.1, by rw [gs_off (by decide)]; exact (c7_.out (by rwa [gs_off (by decide)] at e)).2.2.2.1, by rw [gs_off (by decide)]; exact (c7_.out (by rwa [gs_off (by decide)] at e)).2.2.2.2.1, by rw [gs_off (by decide)]; exact (c7_.out (by rwa [gs_off (by decide)] at e)).2.2.2.2.2⟩, fun e => (not_on hi (c8_.out (by rwa [gs_off (by decide)] at e)).2.2.2.2.2.1).elim, fun e => l0_.out (by rwa [gs_off (by decide)] at e), fun e => l1_.out (by rwa [gs_off (by decide)] at e), fun e => l2_.out (by rwa [gs_off (by decide)] at e), fun _ => rfl, fun e => l4_.out (by rwa [gs_off (by decide)] at e), fun e => l5_.out (by rwa [gs_off (by decide)] at e), fun e => l6_.out (by rwa [gs_off (by decide)] at e), fun e => l9_.out (by rwa [gs_off (by decide)] at e)⟩
          · unfold StepAt
            intro L a w1 KK hI hi ha hKK
            unfold IRV9 at hI
            obtain ⟨v46, v47, v48, v49, v50, v51, v52, v6, hae, hsz, s0_, s1_, s2_, s3_, s4_, c2_, c6_, c7_, c8_, l0_, l1_, l2_, l3_, l4_, l5_, l6_, l9_⟩ := hI
            obtain gld : w1.cell? ⟨w.heap.size + 1, 0, none⟩ = some (.bool neg1) := by
              cases h0 : L.getD 2 false
              · exact hcell.out _ (s0_ h0)
              · cases h1 : L.getD 6 false
                · exact hcell.out _ (s1_ h0 h1).1
                · exact (not_on hi (c6_ h1).1).elim
            have q3 := ha { on := 3, ground := Ground.data } (by simp) rfl
            have e3 := l3_ q3
            subst e3
            replace s0_ := Lib.hid s0_
            replace s1_ := Lib.hid s1_
            replace s2_ := Lib.hid s2_
            replace s3_ := Lib.hid s3_
            replace s4_ := Lib.hid s4_
            replace c2_ := Lib.hid c2_
            replace c6_ := Lib.hid c6_
            replace c7_ := Lib.hid c7_
            replace c8_ := Lib.hid c8_
            replace l0_ := Lib.hid l0_
            replace l1_ := Lib.hid l1_
            replace l2_ := Lib.hid l2_
            replace l3_ := Lib.hid l3_
            replace l4_ := Lib.hid l4_
            replace l5_ := Lib.hid l5_
            replace l6_ := Lib.hid l6_
            replace l9_ := Lib.hid l9_
            rw [hae]
            clear hae
            simp only [holeRV9, List.setIfInBounds_toArray, List.set_cons_zero, List.set_cons_succ]
            go_simp
            exact hKK _ _ ⟨v46, v47, v48, (.pointer (some ⟨w.heap.size + 1, 0, none⟩)), (.bool neg1), v51, v52, v6, (by simp only [holeRV9, Act.put, List.setIfInBounds_toArray, List.set_cons_zero, List.set_cons_succ]), by simpa using hsz, fun e2 => s0_.out (by rwa [gs_off (by decide)] at e2), fun e e2 => s1_.out (by rwa [gs_off (by decide)] at e) (by rwa [gs_off (by decide)] at e2), fun e e2 => s2_.out (by rwa [gs_off (by decide)] at e) (by rwa [gs_off (by decide)] at e2), fun e e2 => s3_.out (by rwa [gs_off (by decide)] at e) (by rwa [gs_off (by decide)] at e2), fun e => s4_.out (by rwa [gs_off (by decide)] at e), fun e => ⟨by rw [gs_off (by decide)]; exact (c2_.out (by rwa [gs_off (by decide)] at e)).1, by rw [gs_off (by decide)]; exact (c2_.out (by rwa [gs_off (by decide)] at e)).2⟩, fun e => (not_on hi (c6_.out (by rwa [gs_off (by decide)] at e)).1).elim, fun e => (not_on hi (c7_.out (by rwa [gs_off (by decide)] at e)).2.2.2.2.1).elim, fun e => (not_on hi (c8_.out (by rwa [gs_off (by decide)] at e)).2.2.2.2.2.2.1).elim, fun e => l0_.out (by rwa [gs_off (by decide)] at e), fun e => l1_.out (by rwa [gs_off (by decide)] at e), fun e => l2_.out (by rwa [gs_off (by decide)] at e), fun _ => rfl, fun _ => rfl, fun e => l5_.out (by rwa [gs_off (by decide)] at e), fun e => l6_.out (by rwa [gs_off (by decide)] at e), fun e => l9_.out (by rwa [gs_off (by decide)] at e)⟩
          · unfold StepAt
            intro L a w1 KK hI hi ha hKK
            unfold IRV9 at hI
            obtain ⟨v46, v47, v48, v49, v50, v51, v52, v6, hae, hsz, s0_, s1_, s2_, s3_, s4_, c2_, c6_, c7_, c8_, l0_, l1_, l2_, l3_, l4_, l5_, l6_, l9_⟩ := hI
            replace s0_ := Lib.hid s0_
            replace s1_ := Lib.hid s1_
            replace s2_ := Lib.hid s2_
            replace s3_ := Lib.hid s3_
            replace s4_ := Lib.hid s4_
            replace c2_ := Lib.hid c2_
            replace c6_ := Lib.hid c6_
            replace c7_ := Lib.hid c7_
            replace c8_ := Lib.hid c8_
            replace l0_ := Lib.hid l0_
            replace l1_ := Lib.hid l1_
            replace l2_ := Lib.hid l2_
            replace l3_ := Lib.hid l3_
            replace l4_ := Lib.hid l4_
            replace l5_ := Lib.hid l5_
            replace l6_ := Lib.hid l6_
            replace l9_ := Lib.hid l9_
            rw [hae]
            clear hae
            simp only [holeRV9, List.setIfInBounds_toArray, List.set_cons_zero, List.set_cons_succ]
            go_simp
            exact hKK _ _ ⟨v46, v47, v48, v49, v50, (.slice A6 n6 c6), v52, v6, (by simp only [holeRV9, Act.put, List.setIfInBounds_toArray, List.set_cons_zero, List.set_cons_succ]), by simpa using hsz, fun e2 => s0_.out (by rwa [gs_off (by decide)] at e2), fun e e2 => s1_.out (by rwa [gs_off (by decide)] at e) (by rwa [gs_off (by decide)] at e2), fun e e2 => s2_.out (by rwa [gs_off (by decide)] at e) (by rwa [gs_off (by decide)] at e2), fun e e2 => s3_.out (by rwa [gs_off (by decide)] at e) (by rwa [gs_off (by decide)] at e2), fun e => s4_.out (by rwa [gs_off (by decide)] at e), fun e => ⟨by rw [gs_off (by decide)]; exact (c2_.out (by rwa [gs_off (by decide)] at e)).1, by rw [gs_off (by decide)]; exact (c2_.out (by rwa [gs_off (by decide)] at e)).2⟩, fun e => (not_on hi (c6_.out (by rwa [gs_off (by decide)] at e)).2.1).elim, fun e => (not_on hi (c7_.out (by rwa [gs_off (by decide)] at e)).2.2.2.2.2).elim, fun e => (not_on hi (c8_.out (by rwa [gs_off (by decide)] at e)).2.2.2.2.2.2.2).elim, fun e => l0_.out (by rwa [gs_off (by decide)] at e), fun e => l1_.out (by rwa [gs_off (by decide)] at e), fun e => l2_.out (by rwa [gs_off (by decide)] at e), fun e => l3_.out (by rwa [gs_off (by decide)] at e), fun e => l4_.out (by rwa [gs_off (by decide)] at e), fun _ => rfl, fun e => l6_.out (by rwa [gs_off (by decide)] at e), fun e => l9_.out (by rwa [gs_off (by decide)] at e)⟩
          · unfold StepAt
            intro L a w1 KK hI hi ha hKK
            unfold IRV9 at hI
            obtain ⟨v46, v47, v48, v49, v50, v51, v52, v6, hae, hsz, s0_, s1_, s2_, s3_, s4_, c2_, c6_, c7_, c8_, l0_, l1_, l2_, l3_, l4_, l5_, l6_, l9_⟩ := hI
            have hoff : L.getD 6 false = false := by
              cases h : L.getD 6 false
              · rfl
              · exact (not_on hi h).elim
            have hon := ha { on := 2, ground := Ground.chain } (by simp) rfl
            have hP := s1_ hon hoff
            have q4 := ha { on := 4, ground := Ground.data } (by simp) rfl
            have e4 := l4_ q4
            subst e4
            have q5 := ha { on := 5, ground := Ground.data } (by simp) rfl
            have e5 := l5_ q5
            subst e5
            obtain ⟨hbl, hiv⟩ := hP
            replace s0_ := Lib.hid s0_
            replace s1_ := Lib.hid s1_
            replace s2_ := Lib.hid s2_
            replace s3_ := Lib.hid s3_
            replace s4_ := Lib.hid s4_
            replace c2_ := Lib.hid c2_
            replace c6_ := Lib.hid c6_
            replace c7_ := Lib.hid c7_
            replace c8_ := Lib.hid c8_
            replace l0_ := Lib.hid l0_
            replace l1_ := Lib.hid l1_
            replace l2_ := Lib.hid l2_
            replace l3_ := Lib.hid l3_
            replace l4_ := Lib.hid l4_
            replace l5_ := Lib.hid l5_
            replace l6_ := Lib.hid l6_
            replace l9_ := Lib.hid l9_
            rw [hae]
            clear hae
            simp only [holeRV9, List.setIfInBounds_toArray, List.set_cons_zero, List.set_cons_succ]
            replace hKK := Lib.hid hKK
            go_wp2_with (go_at_call 52; refine (signed_mm neg1 _ _ _ _ _ w1 (hrm.below hbl) (by omega)).mono ?_; rintro e w7 ⟨neg7, A17, n17, c17, rfl, hi7, hb17⟩)
            exact hKK.out _ _ ⟨v46, v47, v48, v49, (.bool neg1), (.slice A6 n6 c6), (.agg #[.bool neg7, .slice A17 n17 c17]), v6, (by simp only [holeRV9, Act.put, List.setIfInBounds_toArray, List.set_cons_zero, List.set_cons_succ]), by simpa using hsz, fun e => by (have t := ha { on := 2, ground := Ground.chain } (by simp) rfl; rw [gs_off (by decide)] at e; rw [e] at t; cases t), fun _ e => by (exfalso; revert e; simp [Array.getD_eq_getD_getElem?, hsz]), fun _ _ => ⟨hbl.trans (hb17.mono hbl.size), hiv.below hb17, _, _, _, _, rfl, hi7.mono (by omega)⟩, fun e _ => (not_on hi (c7_.out (by rwa [gs_off (by decide)] at e)).2.1).elim, fun e => (not_on hi (c8_.out (by rwa [gs_off (by decide)] at e)).1).elim, fun e => ⟨by rw [gs_off (by decide)]; exact (c2_.out (by rwa [gs_off (by decide)] at e)).1, by rw [gs_off (by decide)]; exact (c2_.out (by rwa [gs_off (by decide)] at e)).2⟩, fun _ => ⟨by rw [gs_off (by decide)]; exact ha { on := 4, ground := Ground.data } (by simp) rfl, by rw [gs_off (by decide)]; exact ha { on := 5, ground := Ground.data } (by simp) rfl, by rw [gs_off (by decide)]; exact ha { on := 2, ground := Ground.chain } (by simp) rfl, by rw [gs_off (by decide)]; exact (c2_.out (ha { on := 2, ground := Ground.chain } (by simp) rfl)).1, by rw [gs_off (by decide)]; exact (c2_.out (ha { on := 2, ground := Ground.chain } (by simp) rfl)).2⟩, fun e => (not_on hi (c7_.out (by rwa [gs_off (by decide)] at e)).2.1).elim, fun e => (not_on hi (c8_.out (by rwa [gs_off (by decide)] at e)).1).elim, fun e => l0_.out (by rwa [gs_off (by decide)] at e), fun e => l1_.out (by rwa [gs_off (by decide)] at e), fun e => l2_.out (by rwa [gs_off (by decide)] at e), fun e => l3_.out (by rwa [gs_off (by decide)] at e), fun _ => rfl, fun _ => rfl, fun _ => trivial, fun e => l9_.out (by rwa [gs_off (by decide)] at e)⟩
          · unfold StepAt
            intro L a w1 KK hI hi ha hKK
            unfold IRV9 at hI
            obtain ⟨v46, v47, v48, v49, v50, v51, v52, v6, hae, hsz, s0_, s1_, s2_, s3_, s4_, c2_, c6_, c7_, c8_, l0_, l1_, l2_, l3_, l4_, l5_, l6_, l9_⟩ := hI
            have hoff : L.getD 7 false = false := by
              cases h : L.getD 7 false
              · rfl
              · exact (not_on hi h).elim
            have hon := ha { on := 6, ground := Ground.chain } (by simp) rfl
            have hP := s2_ hon hoff
            have q2 := ha { on := 2, ground := Ground.data } (by simp) rfl
            have e2 := l2_ q2
            obtain ⟨hbl, ⟨b, A9, n9, c9, e48, hi48⟩, hiv52⟩ := hP
            subst e48
            obtain ⟨x1, x2, x3, x4, x5⟩ := hbox3.out _ hbl
            replace s0_ := Lib.hid s0_
            replace s1_ := Lib.hid s1_
            replace s2_ := Lib.hid s2_
            replace s3_ := Lib.hid s3_
            replace s4_ := Lib.hid s4_
            replace c2_ := Lib.hid c2_
            replace c6_ := Lib.hid c6_
            replace c7_ := Lib.hid c7_
            replace c8_ := Lib.hid c8_
            replace l0_ := Lib.hid l0_
            replace l1_ := Lib.hid l1_
            replace l2_ := Lib.hid l2_
            replace l3_ := Lib.hid l3_
            replace l4_ := Lib.hid l4_
            replace l5_ := Lib.hid l5_
            replace l6_ := Lib.hid l6_
            replace l9_ := Lib.hid l9_
            rw [hae]
            clear hae
            simp only [holeRV9, List.setIfInBounds_toArray, List.set_cons_zero, List.set_cons_succ]
            go_simp
            exact hKK _ _ ⟨v46, v47, (.agg #[.bool b, .slice A9 n9 c9]), v49, v50, v51, v52, v6, (by simp only [holeRV9, Act.put, List.setIfInBounds_toArray, List.set_cons_zero, List.set_cons_succ]), by simpa using hsz, fun e => by (have t := ha { on := 2, ground := Ground.data } (by simp) rfl; rw [gs_off (by decide)] at e; rw [e] at t; cases t), fun _ e => by (have t := ha { on := 6, ground := Ground.chain } (by simp) rfl; rw [gs_off (by decide)] at e; rw [e] at t; cases t), fun _ e => by (exfalso; revert e; simp [Array.getD_eq_getD_getElem?, hsz]), fun _ _ => ⟨w1, b, A9, n9, c9, ⟨hbl, hi48, hiv52⟩, rfl⟩, fun e => (not_on hi (c8_.out (by rwa [gs_off (by decide)] at e)).2.1).elim, fun e => ⟨by rw [gs_off (by decide)]; exact (c2_.out (by rwa [gs_off (by decide)] at e)).1, by rw [gs_off (by decide)]; exact (c2_.out (by rwa [gs_off (by decide)] at e)).2⟩, fun e => ⟨by rw [gs_off (by decide)]; exact (c6_.out (by rwa [gs_off (by decide)] at e)).1, by rw [gs_off (by decide)]; exact (c6_.out (by rwa [gs_off (by decide)] at e)).2.1, by rw [gs_off (by decide)]; exact (c6_.out (by rwa [gs_off (by decide)] at e)).2.2.1, by rw [gs_off (by decide)]; exact (c6_.out (by rwa [gs_off (by decide)] at e)).2.2.2.1, by rw [gs_off (by decide)]; exact (c6_.out (by rwa [gs_off (by decide)] at e)).2.2.2.2⟩, fun _ => ⟨by rw [gs_off (by decide)]; exact ha { on := 2, ground := Ground.data } (by simp) rfl, by rw [gs_off (by decide)]; exact ha { on := 6, ground := Ground.chain } (by simp) rfl, by rw [gs_off (by decide)]; exact ha { on := 0, ground := Ground.phase } (by simp) rfl, by rw [gs_off (by decide)]; exact ha { on := 1, ground := Ground.phase } (by simp) rfl, by rw [gs_off (by decide)]; exact (c6_.out (ha { on := 6, ground := Ground.chain } (by simp) rfl)).1, by rw [gs_off (by decide)]; exact (c6_.out (ha { on := 6, ground := Ground.chain } (by simp) rfl)).2.1⟩, fun e => (not_on hi (c8_.out (by rwa [gs_off (by decide)] at e)).2.1).elim, fun e => l0_.out (by rwa [gs_off (by decide)] at e), fun e => l1_.out (by rwa [gs_off (by decide)] at e), fun _ => trivial, fun e => l3_.out (by rwa [gs_off (by decide)] at e), fun e => l4_.out (by rwa [gs_off (by decide)] at e), fun e => l5_.out (by rwa [gs_off (by decide)] at e), fun e => l6_.out (by rwa [gs_off (by decide)] at e), fun e => l9_.out (by rwa [gs_off (by decide)] at e)⟩
          · unfold StepAt
            intro L a w1 KK hI hi ha hKK
            unfold IRV9 at hI
            obtain ⟨v46, v47, v48, v49, v50, v51, v52, v6, hae, hsz, s0_, s1_, s2_, s3_, s4_, c2_, c6_, c7_, c8_, l0_, l1_, l2_, l3_, l4_, l5_, l6_, l9_⟩ := hI
            have hoff : L.getD 8 false = false := by
              cases h : L.getD 8 false
              · rfl
              · exact (not_on hi h).elim
            have hon := ha { on := 7, ground := Ground.chain } (by simp) rfl
            have hP := s3_ hon hoff
            have q6 := ha { on := 6, ground := Ground.data } (by simp) rfl
            have e6 := l6_ q6
            obtain ⟨w8, b, A9, n9, c9, ⟨hbl, hi48, ⟨b2, A10, n10, c10, e52, hi52⟩⟩, hw1⟩ := hP
            subst e52
            obtain ⟨x1, x2, x3, x4, x5⟩ : Bx w1 (w.heap.size + 1 + 1 + 1) (.bool false) (.slice none 0 0) := by
              rw [hw1]
              exact ((hbox4.out _ hbl).far (by dsimp only; omega) _).far (by dsimp only; omega) _
            replace hw1 := Lib.hid hw1
            replace s0_ := Lib.hid s0_
            replace s1_ := Lib.hid s1_
            replace s2_ := Lib.hid s2_
            replace s3_ := Lib.hid s3_
            replace s4_ := Lib.hid s4_
            replace c2_ := Lib.hid c2_
            replace c6_ := Lib.hid c6_
            replace c7_ := Lib.hid c7_
            replace c8_ := Lib.hid c8_
            replace l0_ := Lib.hid l0_
            replace l1_ := Lib.hid l1_
            replace l2_ := Lib.hid l2_
            replace l3_ := Lib.hid l3_
            replace l4_ := Lib.hid l4_
            replace l5_ := Lib.hid l5_
            replace l6_ := Lib.hid l6_
            replace l9_ := Lib.hid l9_
            rw [hae]
            clear hae
            simp only [holeRV9, List.setIfInBounds_toArray, List.set_cons_zero, List.set_cons_succ]
            go_simp
            exact hKK _ _ ⟨v46, v47, v48, v49, v50, v51, (.agg #[.bool b2, .slice A10 n10 c10]), v6, (by simp only [holeRV9, Act.put, List.setIfInBounds_toArray, List.set_cons_zero, List.set_cons_succ]), by simpa using hsz, fun e => by (have t := ha { on := 2, ground := Ground.phase } (by simp) rfl; rw [gs_off (by decide)] at e; rw [e] at t; cases t), fun _ e => by (have t := ha { on := 6, ground := Ground.data } (by simp) rfl; rw [gs_off (by decide)] at e; rw [e] at t; cases t), fun _ e => by (have t := ha { on := 7, ground := Ground.chain } (by simp) rfl; rw [gs_off (by decide)] at e; rw [e] at t; cases t), fun _ e => by (exfalso; revert e; simp [Array.getD_eq_getD_getElem?, hsz]), fun _ => ⟨w8, b, A9, n9, c9, b2, A10, n10, c10, ⟨hbl, hi48, hi52⟩, by rw [hw1.out]⟩, fun e => ⟨by rw [gs_off (by decide)]; exact (c2_.out (by rwa [gs_off (by decide)] at e)).1, by rw [gs_off (by decide)]; exact (c2_.out (by rwa [gs_off (by decide)] at e)).2⟩, fun e => ⟨by rw [gs_off (by decide)]; exact (c6_.out (by rwa [gs_off (by decide)] at e)).1, by rw [gs_off (by decide)]; exact (c6_.out (by rwa [gs_off (by decide)] at e)).2.1, by rw [gs_off (by decide)]; exact (c6_.out (by rwa [gs_off (by decide)] at e)).2.2.1, by rw [gs_off (by decide)]; exact (c6_.out (by rwa [gs_off (by decide)] at e)).2.2.2.1, by rw [gs_off (by decide)]; exact (c6_.out (by rwa [gs_off (by decide)] at e)).2.2.2.2⟩, fun e => ⟨by rw [gs_off (by decide)]; exact (c7_.out (by rwa [gs_off (by decide)] at e)).1, by rw [gs_off (by decide)]; exact (c7_.out (by rwa [gs_off (by decide)] at e)).2.1, by rw [gs_off (by decide)]; exact (c7_.out (by rwa [gs_off (by decide)] at e)).2.2.1, by rw [gs_off (by decide)]; exact (c7_.out (by rwa [gs_off (by decide)] at e)).2.2.2.1, by rw [gs_off (by decide)]; exact (c7_.out (by rwa [gs_off (by decide)] at e)).2.2.2.2.1, by rw [gs_off (by decide)]; exact (c7_.out (by rwa [gs_off (by decide)] at e)).2.2.2.2.2⟩, fun _ => ⟨by rw [gs_off (by decide)]; exact ha { on := 6, ground := Ground.data } (by simp) rfl, by rw [gs_off (by decide)]; exact ha { on := 7, ground := Ground.chain } (by simp) rfl, by rw [gs_off (by decide)]; exact ha { on := 0, ground := Ground.phase } (by simp) rfl, by rw [gs_off (by decide)]; exact ha { on := 1, ground := Ground.phase } (by simp) rfl, by rw [gs_off (by decide)]; exact ha { on := 2, ground := Ground.phase } (by simp) rfl, by rw [gs_off (by decide)]; exact ha { on := 3, ground := Ground.phase } (by simp) rfl, by rw [gs_off (by decide)]; exact ha { on := 4, ground := Ground.phase } (by simp) rfl, by rw [gs_off (by decide)]; exact ha { on := 5, ground := Ground.phase } (by simp) rfl⟩, fun e => l0_.out (by rwa [gs_off (by decide)] at e), fun e => l1_.out (by rwa [gs_off (by decide)] at e), fun e => l2_.out (by rwa [gs_off (by decide)] at e), fun e => l3_.out (by rwa [gs_off (by decide)] at e), fun e => l4_.out (by rwa [gs_off (by decide)] at e), fun e => l5_.out (by rwa [gs_off (by decide)] at e), fun _ => trivial, fun e => l9_.out (by rwa [gs_off (by decide)] at e)⟩
          · unfold StepAt
            intro L a w1 KK hI hi ha hKK
            unfold IRV9 at hI
            obtain ⟨v46, v47, v48, v49, v50, v51, v52, v6, hae, hsz, s0_, s1_, s2_, s3_, s4_, c2_, c6_, c7_, c8_, l0_, l1_, l2_, l3_, l4_, l5_, l6_, l9_⟩ := hI
            replace s0_ := Lib.hid s0_
            replace s1_ := Lib.hid s1_
            replace s2_ := Lib.hid s2_
            replace s3_ := Lib.hid s3_
            replace s4_ := Lib.hid s4_
            replace c2_ := Lib.hid c2_
            replace c6_ := Lib.hid c6_
            replace c7_ := Lib.hid c7_
            replace c8_ := Lib.hid c8_
            replace l0_ := Lib.hid l0_
            replace l1_ := Lib.hid l1_
            replace l2_ := Lib.hid l2_
            replace l3_ := Lib.hid l3_
            replace l4_ := Lib.hid l4_
            replace l5_ := Lib.hid l5_
            replace l6_ := Lib.hid l6_
            replace l9_ := Lib.hid l9_
            rw [hae]
            clear hae
            simp only [holeRV9, List.setIfInBounds_toArray, List.set_cons_zero, List.set_cons_succ]
            go_simp
            exact hKK _ _ ⟨v46, v47, v48, v49, v50, v51, v52, (.int .i64 0), (by simp only [holeRV9, Act.put, List.setIfInBounds_toArray, List.set_cons_zero, List.set_cons_succ]), by simpa using hsz, fun e2 => s0_.out (by rwa [gs_off (by decide)] at e2), fun e e2 => s1_.out (by rwa [gs_off (by decide)] at e) (by rwa [gs_off (by decide)] at e2), fun e e2 => s2_.out (by rwa [gs_off (by decide)] at e) (by rwa [gs_off (by decide)] at e2), fun e e2 => s3_.out (by rwa [gs_off (by decide)] at e) (by rwa [gs_off (by decide)] at e2), fun e => s4_.out (by rwa [gs_off (by decide)] at e), fun e => ⟨by rw [gs_off (by decide)]; exact (c2_.out (by rwa [gs_off (by decide)] at e)).1, by rw [gs_off (by decide)]; exact (c2_.out (by rwa [gs_off (by decide)] at e)).2⟩, fun e => ⟨by rw [gs_off (by decide)]; exact (c6_.out (by rwa [gs_off (by decide)] at e)).1, by rw [gs_off (by decide)]; exact (c6_.out (by rwa [gs_off (by decide)] at e)).2.1, by rw [gs_off (by decide)]; exact (c6_.out (by rwa [gs_off (by decide)] at e)).2.2.1, by rw [gs_off (by decide)]; exact (c6_.out (by rwa [gs_off (by decide)] at e)).2.2.2.1, by rw [gs_off (by decide)]; exact (c6_.out (by rwa [gs_off (by decide)] at e)).2.2.2.2⟩, fun e => ⟨by rw [gs_off (by decide)]; exact (c7_.out (by rwa [gs_off (by decide)] at e)).1, by rw [gs_off (by decide)]; exact (c7_.out (by rwa [gs_off (by decide)] at e)).2.1, by rw [gs_off (by decide)]; exact (c7_.out (by rwa [gs_off (by decide)] at e)).2.2.1, by rw [gs_off (by decide)]; exact (c7_.out (by rwa [gs_off (by decide)] at e)).2.2.2.1, by rw [gs_off (by decide)]; exact (c7_.out (by rwa [gs_off (by decide)] at e)).2.2.2.2.1, by rw [gs_off (by decide)]; exact (c7_.out (by rwa [gs_off (by decide)] at e)).2.2.2.2.2⟩, fun e => ⟨by rw [gs_off (by decide)]; exact (c8_.out (by rwa [gs_off (by decide)] at e)).1, by rw [gs_off (by decide)]; exact (c8_.out (by rwa [gs_off (by decide)] at e)).2.1, by rw [gs_off (by decide)]; exact (c8_.out (by rwa [gs_off (by decide)] at e)).2.2.1, by rw [gs_off (by decide)]; exact (c8_.out (by rwa [gs_off (by decide)] at e)).2.2.2.1, by rw [gs_off (by decide)]; exact (c8_.out (by rwa [gs_off (by decide)] at e)).2.2.2.2.1, by rw [gs_off (by decide)]; exact (c8_.out (by rwa [gs_off (by decide)] at e)).2.2.2.2.2.1, by rw [gs_off (by decide)]; exact (c8_.out (by rwa [gs_off (by decide)] at e)).2.2.2.2.2.2.1, by rw [gs_off (by decide)]; exact (c8_.out (by rwa [gs_off (by decide)] at e)).2.2.2.2.2.2.2⟩, fun e => l0_.out (by rwa [gs_off (by decide)] at e), fun e => l1_.out (by rwa [gs_off (by decide)] at e), fun e => l2_.out (by rwa [gs_off (by decide)] at e), fun e => l3_.out (by rwa [gs_off (by decide)] at e), fun e => l4_.out (by rwa [gs_off (by decide)] at e), fun e => l5_.out (by rwa [gs_off (by decide)] at e), fun e => l6_.out (by rwa [gs_off (by decide)] at e), fun _ => rfl⟩
        · intro L a w1 hI hall
          unfold IRV9 at hI
          obtain ⟨v46, v47, v48, v49, v50, v51, v52, v6, hae, hsz, s0_, s1_, s2_, s3_, s4_, c2_, c6_, c7_, c8_, l0_, l1_, l2_, l3_, l4_, l5_, l6_, l9_⟩ := hI
          have hP := s4_ (hall 8 (by decide))
          have e9 := l9_ (hall 9 (by decide))
          subst e9
          rw [hae]
          clear hae hsz s0_ s1_ s2_ s3_ s4_ c2_ c6_ c7_ c8_ l0_ l1_ l2_ l3_ l4_ l5_ l6_ hall
          simp only [holeRV9, List.setIfInBounds_toArray, List.set_cons_zero, List.set_cons_succ]
          obtain ⟨w8, b, A9, n9, c9, b2, A10, n10, c10, ⟨hbl, hi48, hi52⟩, hw1⟩ := hP
          have x3 := hbox3.out _ hbl
          have x4 := hbox4.out _ hbl
          have y3 : Bx w1 (w.heap.size + 1 + 1) (.bool b) (.slice A9 n9 c9) := by
            rw [hw1]
            exact ((x3.set _ _).far (by dsimp only; omega) _).far (by dsimp only; omega) _
          have y4 : Bx w1 (w.heap.size + 1 + 1 + 1) (.bool b2) (.slice A10 n10 c10) := by
            rw [hw1]
            exact Bx.set ((x4.far (by dsimp only; omega) _).far (by dsimp only; omega) _) _ _
          have z1 : II w1 b A9 n9 c9 (dq x y) (k + 2) := by
            rw [hw1, ← hq5]
            exact hi48.store4 x3.1 x3.2.1 x4.1 x4.2.1 (by omega) _ _ _ _
          have z2 : II w1 b2 A10 n10 c10 (dr x y) (k + 1) := by
            rw [hw1, ← hr5]
            exact hi52.store4 x3.1 x3.2.1 x4.1 x4.2.1 (by omega) _ _ _ _
          have hbW : Below w.heap.size w w1 := by
            rw [hw1]
            repeat (first | exact hb6.trans (hbl.mono hb6.size) | refine Below.setCell ?_ (by dsimp only; omega) _)
          obtain ⟨k5, k6, -, -, -⟩ := y3
          obtain ⟨k7, k8, -, -, -⟩ := y4
          replace hw1 := Lib.hid hw1
          refine hKQ _ _ ?_
          go_wp2
          refine bodyPost_ret (v := .tuple #[.agg #[.bool b, .slice A9 n9 c9], .agg #[.bool b2, .slice A10 n10 c10], .int .i64 0]) (by simp [results, Tryd.results36, go_sem, k5, k6, k7, k8]) rfl ?_
          exact ⟨_, _, _, _, _, _, _, _, _, rfl, hbW, .inr ⟨hy0, rfl, z1, z2⟩⟩
      · have hdiff : ¬ decide (x < 0) = decide (y < 0) := by rw [← s1.out, ← s2.out]; exact hop
        have ht : (neg1 == neg3) = false := by simpa using hop
        by_cases hr0 : x.natAbs % y.natAbs = 0
        · have hq5 : sgnd true (x.natAbs / y.natAbs) = dq x y := (dq_zero hdiff hr0).symm
          have hr5 : sgnd neg3 (x.natAbs % y.natAbs) = dr x y := by rw [dr_zero hdiff hr0, hr0, sgnd_zero]
          have hn6 : n6 = 0 := hrm.len_zero.2 hr0
          subst hn6
          replace hr0 := Lib.hid hr0
          clear hdiff
          go_wp2
          rename_i KQ hKQ
          have hcell : ∀ w', Below w3.heap.size w3 w' → w'.cell? ⟨w.heap.size + 1, 0, none⟩ = some (.bool neg3) := fun w' h => (Bx.below (show Bx w3 (w.heap.size + 1) _ _ from ⟨d3, d4, e3, e4, hs2⟩) h).1
          have hbox3 := fun w' (h : Below w3.heap.size w3 w') => q3.below h
          have hbox4 := fun w' (h : Below w3.heap.size w3 w') => q4.below h
          replace hcell := Lib.hid hcell
          replace hbox3 := Lib.hid hbox3
          replace hbox4 := Lib.hid hbox4
          clear d1 d2 d3 d4 e1 e2 e3 e4 q3 q4
          refine wp_region_inv0 (I0 := IRV9 w3 w.heap.size (k + 2) (k + 1) (sgnd true (x.natAbs / y.natAbs)) (sgnd neg3 (x.natAbs % y.natAbs)) (.bool true) (.slice A5 n5 c5) (.pointer (some ⟨w.heap.size + 1, 0, none⟩)) (.bool neg3) (.slice A6 0 c6) (.int .i64 0)) (by kernel_rfl) (by kernel_rfl) ?_ ?_ ?_ ?_
          · intro L a w1 hI
            unfold IRV9 at hI
            obtain ⟨v46, v47, v48, v49, v50, v51, v52, v6, hae, hsz, -⟩ := hI
            exact hsz
          · exact ⟨undef, undef, undef, undef, undef, undef, undef, (.int .i64 0), (by simp only [holeRV9, Act.put, List.setIfInBounds_toArray, List.set_cons_zero, List.set_cons_succ]), by simp, fun _ => (Below.refl _ _).drew, fun h _ => by simp at h, fun h _ => by simp at h, fun h _ => by simp at h, fun h => by simp at h, fun h => by simp at h, fun h => by simp at h, fun h => by simp at h, fun h => by simp at h, fun h => by simp at h, fun h => by simp at h, fun h => by simp at h, fun h => by simp at h, fun h => by simp at h, fun h => by simp at h, fun h => by simp at h, fun h => by simp at h⟩
          · refine steps_cons ?_ (steps_cons ?_ (steps_cons ?_ (steps_cons ?_ (steps_cons ?_ (steps_cons ?_ (steps_cons ?_ (steps_cons ?_ (steps_cons ?_ (steps_cons ?_ (steps_nil))))))))))
            · unfold StepAt
              intro L a w1 KK hI hi ha hKK
              unfold IRV9 at hI
              obtain ⟨v46, v47, v48, v49, v50, v51, v52, v6, hae, hsz, s0_, s1_, s2_, s3_, s4_, c2_, c6_, c7_, c8_, l0_, l1_, l2_, l3_, l4_, l5_, l6_, l9_⟩ := hI
              replace s0_ := Lib.hid s0_
              replace s1_ := Lib.hid s1_
              replace s2_ := Lib.hid s2_
              replace s3_ := Lib.hid s3_
              replace s4_ := Lib.hid s4_
              replace c2_ := Lib.hid c2_
              replace c6_ := Lib.hid c6_
              replace c7_ := Lib.hid c7_
              replace c8_ := Lib.hid c8_
              replace l0_ := Lib.hid l0_
              replace l1_ := Lib.hid l1_
              replace l2_ := Lib.hid l2_
              replace l3_ := Lib.hid l3_
              replace l4_ := Lib.hid l4_
              replace l5_ := Lib.hid l5_
              replace l6_ := Lib.hid l6_
              replace l9_ := Lib.hid l9_
              rw [hae]
              clear hae
              simp only [holeRV9, List.setIfInBounds_toArray, List.set_cons_zero, List.set_cons_succ]
              go_simp
              exact hKK _ _ ⟨(.bool true), v47, v48, v49, v50, v51, v52, v6, (by simp only [holeRV9, Act.put, List.setIfInBounds_toArray, List.set_cons_zero, List.set_cons_succ]), by simpa using hsz, fun e2 => s0_.out (by rwa [gs_off (by decide)] at e2), fun e e2 => s1_.out (by rwa [gs_off (by decide)] at e) (by rwa [gs_off (by decide)] at e2), fun e e2 => s2_.out (by rwa [gs_off (by decide)] at e) (by rwa [gs_off (by decide)] at e2), fun e e2 => s3_.out (by rwa [gs_off (by decide)] at e) (by rwa [gs_off (by decide)] at e2), fun e => s4_.out (by rwa [gs_off (by decide)] at e), fun e => (not_on hi (c2_.out (by rwa [gs_off (by decide)] at e)).1).elim, fun e => (not_on hi (c6_.out (by rwa [gs_off (by decide)] at e)).2.2.2.1).elim, fun e => (not_on hi (c7_.out (by rwa [gs_off (by decide)] at e)).2.2.1).elim, fun e => (not_on hi (c8_.out (by rwa [gs_off (by decide)] at e)).2.2.1).elim, fun _ => rfl, fun e => l1_.out (by rwa [gs_off (by decide)] at e), fun e => l2_.out (by rwa [gs_off (by decide)] at e), fun e => l3_.out (by rwa [gs_off (by decide)] at e), fun e => l4_.out (by rwa [gs_off (by decide)] at e), fun e => l5_.out (by rwa [gs_off (by decide)] at e), fun e => l6_.out (by rwa [gs_off (by decide)] at e), fun e => l9_.out (by rwa [gs_off (by decide)] at e)⟩
            · unfold StepAt
              intro L a w1 KK hI hi ha hKK
              unfold IRV9 at hI
              obtain ⟨v46, v47, v48, v49, v50, v51, v52, v6, hae, hsz, s0_, s1_, s2_, s3_, s4_, c2_, c6_, c7_, c8_, l0_, l1_, l2_, l3_, l4_, l5_, l6_, l9_⟩ := hI
              replace s0_ := Lib.hid s0_
              replace s1_ := Lib.hid s1_
              replace s2_ := Lib.hid s2_
              replace s3_ := Lib.hid s3_
              replace s4_ := Lib.hid s4_
              replace c2_ := Lib.hid c2_
              replace c6_ := Lib.hid c6_
              replace c7_ := Lib.hid c7_
              replace c8_ := Lib.hid c8_
              replace l0_ := Lib.hid l0_
              replace l1_ := Lib.hid l1_
              replace l2_ := Lib.hid l2_
              replace l3_ := Lib.hid l3_
              replace l4_ := Lib.hid l4_
              replace l5_ := Lib.hid l5_
              replace l6_ := Lib.hid l6_
              replace l9_ := Lib.hid l9_
              rw [hae]
              clear hae
              simp only [holeRV9, List.setIfInBounds_toArray, List.set_cons_zero, List.set_cons_succ]
              go_simp
              exact hKK _ _ ⟨v46, (.slice A5 n5 c5), v48, v49, v50, v51, v52, v6, (by simp only [holeRV9, Act.put, List.setIfInBounds_toArray, List.set_cons_zero, List.set_cons_succ]), by simpa using hsz, fun e2 => s0_.out (by rwa [gs_off (by decide)] at e2), fun e e2 => s1_.out (by rwa [gs_off (by decide)] at e) (by rwa [gs_off (by decide)] at e2), fun e e2 => s2_.out (by rwa [gs_off (by decide)] at e) (by rwa [gs_off (by decide)] at e2), fun e e2 => s3_.out (by rwa [gs_off (by decide)] at e) (by rwa [gs_off (by decide)] at e2), fun e => s4_.out (by rwa [gs_off (by decide)] at e), fun e => (not_on hi (c2_.out (by rwa [gs_off (by decide)] at e)).2).elim, fun e => (not_on hi (c6_.out (by rwa [gs_off (by decide)] at e)).2.2.2.2).elim, fun e => (not_on hi (c7_.out (by rwa [gs_off (by decide)] at e)).2.2.2.1).elim, fun e => (not_on hi (c8_.out (by rwa [gs_off (by decide)] at e)).2.2.2.1).elim, fun e => l0_.out (by rwa [gs_off (by decide)] at e), fun _ => rfl, fun e => l2_.out (by rwa [gs_off (by decide)] at e), fun e => l3_.out (by rwa [gs_off (by decide)] at e), fun e => l4_.out (by rwa [gs_off (by decide)] at e), fun e => l5_.out (by rwa [gs_off (by decide)] at e), fun e => l6_.out (by rwa [gs_off (by decide)] at e), fun e => l9_.out (by rwa [gs_off (by decide)] at e)⟩
            · unfold StepAt
              intro L a w1 KK hI hi ha hKK
              unfold IRV9 at hI
              obtain ⟨v46, v47, v48, v49, v50, v51, v52, v6, hae, hsz, s0_, s1_, s2_, s3_, s4_, c2_, c6_, c7_, c8_, l0_, l1_, l2_, l3_, l4_, l5_, l6_, l9_⟩ := hI
              have hoff : L.getD 2 false = false := by
                cases h : L.getD 2 false
                · rfl
                · exact (not_on hi h).elim
              have hP := s0_ hoff
              have q0 := ha { on := 0, ground := Ground.data } (by simp) rfl
              have e0 := l0_ q0
              subst e0
              have q1 := ha { on := 1, ground := Ground.data } (by simp) rfl
              have e1 := l1_ q1
              subst e1
              replace s0_ := Lib.hid s0_
              replace s1_ := Lib.hid s1_
              replace s2_ := Lib.hid s2_
              replace s3_ := Lib.hid s3_
              replace s4_ := Lib.hid s4_
              replace c2_ := Lib.hid c2_
              replace c6_ := Lib.hid c6_
              replace c7_ := Lib.hid c7_
              replace c8_ := Lib.hid c8_
              replace l0_ := Lib.hid l0_
              replace l1_ := Lib.hid l1_
              replace l2_ := Lib.hid l2_
              replace l3_ := Lib.hid l3_
              replace l4_ := Lib.hid l4_
              replace l5_ := Lib.hid l5_
              replace l6_ := Lib.hid l6_
              replace l9_ := Lib.hid l9_
              rw [hae]
              clear hae
              simp only [holeRV9, List.setIfInBounds_toArray, List.set_cons_zero, List.set_cons_succ]
              replace hKK := Lib.hid hKK
              go_wp2_with (go_at_call 52; refine (signed_mm true _ _ _ _ _ w1 (hqm.below hP) (by omega)).mono ?_; rintro e w7 ⟨neg7, A17, n17, c17, rfl, hi7, hb17⟩)
              exact hKK.out _ _ ⟨(.bool true), (.slice A5 n5 c5), (.agg #[.bool neg7, .slice A17 n17 c17]), v49, v50, v51, v52, v6, (by simp only [holeRV9, Act.put, List.setIfInBounds_toArray, List.set_cons_zero, List.set_cons_succ]), by simpa using hsz, fun e => by (exfalso; revert e; simp [Array.getD_eq_getD_getElem?, hsz]), fun _ _ => ⟨hP.trans (hb17.mono hP.size), _, _, _, _, rfl, hi7.mono (by omega)⟩, fun e _ => (not_on hi (c6_.out (by rwa [gs_off (by decide)] at e)).2.2.1).elim, fun e _ => (not_on hi (c7_.out (by rwa [gs_off (by decide)] at e)).1).elim, fun e => (not_on hi (c8_.out (by rwa [gs_off (by decide)] at e)).2.2.2.2.1).elim, fun _ => ⟨by rw [gs_off (by decide)]; exact ha { on := 0, ground := Ground.data } (by simp) rfl, by rw [gs_off (by decide)]; exact ha { on := 1, ground := Ground.data } (by simp) rfl⟩, fun e => (not_on hi (c6_.out (by rwa [gs_off (by decide)] at e)).2.2.1).elim, fun e => (not_on hi (c7_.out (by rwa [gs_off (by decide)] at e)).1).elim, fun e => (not_on hi (c8_.out (by rwa [gs_off (by decide)] at e)).2.2.2.2.1).elim, fun _ => rfl, fun _ => rfl, fun _ => trivial, fun e => l3_.out (by rwa [gs_off (by decide)] at e), fun e => l4_.out (by rwa [gs_off (by decide)] at e), fun e => l5_.out (by rwa [gs_off (by decide)] at e), fun e => l6_.out (by rwa [gs_off (by decide)] at e), fun e => l9_.out (by rwa [gs_off (by decide)] at e)⟩
            · unfold StepAt
              intro L a w1 KK hI hi ha hKK
              unfold IRV9 at hI
              obtain ⟨v46, v47, v48, v49, v50, v51, v52, v6, hae, hsz, s0_, s1_, s2_, s3_, s4_, c2_, c6_, c7_, c8_, l0_, l1_, l2_, l3_, l4_, l5_, l6_, l9_⟩ := hI
              replace s0_ := Lib.hid s0_
              replace s1_ := Lib.hid s1_
              replace s2_ := Lib.hid s2_
              replace s3_ := Lib.hid s3_
              replace s4_ := Lib.hid s4_
              replace c2_ := Lib.hid c2_
              replace c6_ := Lib.hid c6_
              replace c7_ := Lib.hid c7_
              replace c8_ := Lib.hid c8_
              replace l0_ := Lib.hid l0_
              replace l1_ := Lib.hid l1_
              replace l2_ := Lib.hid l2_
              replace l3_ := Lib.hid l3_
              replace l4_ := Lib.hid l4_
              replace l5_ := Lib.hid l5_
              replace l6_ := Lib.hid l6_
              replace l9_ := Lib.hid l9_
              rw [hae]
              clear hae
              simp only [holeRV9, List.setIfInBounds_toArray, List.set_cons_zero, List.set_cons_succ]
              go_simp
              exact hKK _ _ ⟨v46, v47, v48, (.pointer (some ⟨w.heap.size + 1, 0, none⟩)), v50, v51, v52, v6, (by simp only [holeRV9, Act.put, List.setIfInBounds_toArray, List.set_cons_zero, List.set_cons_succ]), by simpa using hsz, fun e2 => s0_.out (by rwa [gs_off (by decide)] at e2), fun e e2 => s1_.out (by rwa [gs_off (by decide)] at e) (by rwa [gs_off (by decide)] at e2), fun e e2 => s2_.out (by rwa [gs_off (by decide)] at e) (by rwa [gs_off (by decide)] at e2), fun e e2 => s3_.out (by rwa [gs_off (by decide)] at e) (by rwa [gs_off (by decide)] at e2), fun e => s4_.out (by rwa [gs_off (by decide)] at e), fun e => ⟨by rw [gs_off (by decide)]; exact (c2_.out (by rwa [gs_off (by decide)] at e)).1, by rw [gs_off (by decide)]; exact (c2_.out (by rwa [gs_off (by decide)] at e)).2⟩, fun e => ⟨by rw [gs_off (by decide)]; exact (c6_.out (by rwa [gs_off (by decide)] at e)).1, by rw [gs_off (by decide)]; exact (c6_.out (by rwa [gs_off (by decide)] at e)).2.1, by rw [gs_off (by decide)]; exact (c6_.out (by rwa [gs_off (by decide)] at e)).2.2.1, by rw [gs_off (by decide)]; exact (c6_.out (by rwa [gs_off (by decide)] at e)).2.2.2.1, by rw [gs_off (by decide)]; exact (c6_.out (by rwa [gs_off (by decide)] at e)).2.2.2.2⟩, fun e => ⟨by rw [gs_off (by decide)]; exact (c7_.out (by rwa [gs_off (by decide)] at e)).1, by rw [gs_off (by decide)]; exact (c7_.out (by rwa [gs_off (by decide)] at e)).2.1, by rw [gs_off (by decide)]; exact (c7_.out (by rwa [gs_off (by decide)] at e)).2.2.1, by rw [gs_off (by decide)]; exact (c7_.out (by rwa [gs_off (by decide)] at e)).2.2.2.1, by rw [gs_off (by decide)]; exact (c7_.out (by rwa [gs_off (by decide)] at e)).2.2.2.2.1, by rw [gs_off (by decide)]; exact (c7_.out (by rwa [gs_off (by decide)] at e)).2.2.2.2.2⟩, fun e => (not_on hi (c8_.out (by rwa [gs_off (by decide)] at e)).2.2.2.2.2.1).elim, fun e => l0_.out (by rwa [gs_off (by decide)] at e), fun e => l1_.out (by rwa [gs_off (by decide)] at e), fun e => l2_.out (by rwa [gs_off (by decide)] at e), fun _ => rfl, fun e => l4_.out (by rwa [gs_off (by decide)] at e), fun e => l5_.out (by rwa [gs_off (by decide)] at e), fun e => l6_.out (by rwa [gs_off (by decide)] at e), fun e => l9_.out (by rwa [gs_off (by decide)] at e)⟩
            · unfold StepAt
              intro L a w1 KK hI hi ha hKK
              unfold IRV9 at hI
              obtain ⟨v46, v47, v48, v49, v50, v51, v52, v6, hae, hsz, s0_, s1_, s2_, s3_, s4_, c2_, c6_, c7_, c8_, l0_, l1_, l2_, l3_, l4_, l5_, l6_, l9_⟩ := hI
              obtain gld : w1.cell? ⟨w.heap.size + 1, 0, none⟩ = some (.bool neg3) := by
                cases h0 : L.getD 2 false
                · exact hcell.out _ (s0_ h0)
                · cases h1 : L.getD 6 false
                  · exact hcell.out _ (s1_ h0 h1).1
                  · exact (not_on hi (c6_ h1).1).elim
              have q3 := ha { on := 3, ground := Ground.data } (by simp) rfl
              have e3 := l3_ q3
              subst e3
              replace s0_ := Lib.hid s0_
              replace s1_ := Lib.hid s1_
              replace s2_ := Lib.hid s2_
              replace s3_ := Lib.hid s3_
              replace s4_ := Lib.hid s4_
              replace c2_ := Lib.hid c2_
              replace c6_ := Lib.hid c6_
              replace c7_ := Lib.hid c7_
              replace c8_ := Lib.hid c8_
              replace l0_ := Lib.hid l0_
              replace l1_ := Lib.hid l1_
              replace l2_ := Lib.hid l2_
              replace l3_ := Lib.hid l3_
              replace l4_ := Lib.hid l4_
              replace l5_ := Lib.hid l5_
              replace l6_ := Lib.hid l6_
              replace l9_ := Lib.hid l9_
              rw [hae]
              clear hae
              simp only [holeRV9, List.setIfInBounds_toArray, List.set_cons_zero, List.set_cons_succ]
              go_simp
              exact hKK _ _ ⟨v46, v47, v48, (.pointer (some ⟨w.heap.size + 1, 0, none⟩)), (.bool neg3), v51, v52, v6, (by simp only [holeRV9, Act.put, List.setIfInBounds_toArray, List.set_cons_zero, List.set_cons_succ]), by simpa using hsz, fun e2 => s0_.out (by rwa [gs_off (by decide)] at e2), fun e e2 => s1_.out (by rwa [gs_off (by decide)] at e) (by rwa [gs_off (by decide)] at e2), fun e e2 => s2_.out (by rwa [gs_off (by decide)] at e) (by rwa [gs_off (by decide)] at e2), fun e e2 => s3_.out (by rwa [gs_off (by decide)] at e) (by rwa [gs_off (by decide)] at e2), fun e => s4_.out (by rwa [gs_off (by decide)] at e), fun e => ⟨by rw [gs_off (by decide)]; exact (c2_.out (by rwa [gs_off (by decide)] at e)).1, by rw [gs_off (by decide)]; exact (c2_.out (by rwa [gs_off (by decide)] at e)).2⟩, fun e => (not_on hi (c6_.out (by rwa [gs_off (by decide)] at e)).1).elim, fun e => (not_on hi (c7_.out (by rwa [gs_off (by decide)] at e)).2.2.2.2.1).elim, fun e => (not_on hi (c8_.out (by rwa [gs_off (by decide)] at e)).2.2.2.2.2.2.1).elim, fun e => l0_.out (by rwa [gs_off (by decide)] at e), fun e => l1_.out (by rwa [gs_off (by decide)] at e), fun e => l2_.out (by rwa [gs_off (by decide)] at e), fun _ => rfl, fun _ => rfl, fun e => l5_.out (by rwa [gs_off (by decide)] at e), fun e => l6_.out (by rwa [gs_off (by decide)] at e), fun e => l9_.out (by rwa [gs_off (by decide)] at e)⟩
            · unfold StepAt
              intro L a w1 KK hI hi ha hKK
              unfold IRV9 at hI
              obtain ⟨v46, v47, v48, v49, v50, v51, v52, v6, hae, hsz, s0_, s1_, s2_, s3_, s4_, c2_, c6_, c7_, c8_, l0_, l1_, l2_, l3_, l4_, l5_, l6_, l9_⟩ := hI
              replace s0_ := Lib.hid s0_
              replace s1_ := Lib.hid s1_
              replace s2_ := Lib.hid s2_
              replace s3_ := Lib.hid s3_
              replace s4_ := Lib.hid s4_
              replace c2_ := Lib.hid c2_
              replace c6_ := Lib.hid c6_
              replace c7_ := Lib.hid c7_
              replace c8_ := Lib.hid c8_
              replace l0_ := Lib.hid l0_
              replace l1_ := Lib.hid l1_
              replace l2_ := Lib.hid l2_
              replace l3_ := Lib.hid l3_
              replace l4_ := Lib.hid l4_
              replace l5_ := Lib.hid l5_
              replace l6_ := Lib.hid l6_
              replace l9_ := Lib.hid l9_
              rw [hae]
              clear hae
              simp only [holeRV9, List.setIfInBounds_toArray, List.set_cons_zero, List.set_cons_succ]
              go_simp
              exact hKK _ _ ⟨v46, v47, v48, v49, v50, (.slice A6 0 c6), v52, v6, (by simp only [holeRV9, Act.put, List.setIfInBounds_toArray, List.set_cons_zero, List.set_cons_succ]), by simpa using hsz, fun e2 => s0_.out (by rwa [gs_off (by decide)] at e2), fun e e2 => s1_.out (by rwa [gs_off (by decide)] at e) (by rwa [gs_off (by decide)] at e2), fun e e2 => s2_.out (by rwa [gs_off (by decide)] at e) (by rwa [gs_off (by decide)] at e2), fun e e2 => s3_.out (by rwa [gs_off (by decide)] at e) (by rwa [gs_off (by decide)] at e2), fun e => s4_.out (by rwa [gs_off (by decide)] at e), fun e => ⟨by rw [gs_off (by decide)]; exact (c2_.out (by rwa [gs_off (by decide)] at e)).1, by rw [gs_off (by decide)]; exact (c2_.out (by rwa [gs_off (by decide)] at e)).2⟩, fun e => (not_on hi (c6_.out (by rwa [gs_off (by decide)] at e)).2.1).elim, fun e => (not_on hi (c7_.out (by rwa [gs_off (by decide)] at e)).2.2.2.2.2).elim, fun e => (not_on hi (c8_.out (by rwa [gs_off (by decide)] at e)).2.2.2.2.2.2.2).elim, fun e => l0_.out (by rwa [gs_off (by decide)] at e), fun e => l1_.out (by rwa [gs_off (by decide)] at e), fun e => l2_.out (by rwa [gs_off (by decide)] at e), fun e => l3_.out (by rwa [gs_off (by decide)] at e), fun e => l4_.out (by rwa [gs_off (by decide)] at e), fun _ => rfl, fun e => l6_.out (by rwa [gs_off (by decide)] at e), fun e => l9_.out (by rwa [gs_off (by decide)] at e)⟩
            · unfold StepAt
              intro L a w1 KK hI hi ha hKK
              unfold IRV9 at hI
              obtain ⟨v46, v47, v48, v49, v50, v51, v52, v6, hae, hsz, s0_, s1_, s2_, s3_, s4_, c2_, c6_, c7_, c8_, l0_, l1_, l2_, l3_, l4_, l5_, l6_, l9_⟩ := hI
              have hoff : L.getD 6 false = false := by
                cases h : L.getD 6 false
                · rfl
                · exact (not_on hi h).elim
              have hon := ha { on := 2, ground := Ground.chain } (by simp) rfl
              have hP := s1_ hon hoff
              have q4 := ha { on := 4, ground := Ground.data } (by simp) rfl
              have e4 := l4_ q4
              subst e4
              have q5 := ha { on := 5, ground := Ground.data } (by simp) rfl
              have e5 := l5_ q5
              subst e5
              obtain ⟨hbl, hiv⟩ := hP
              replace s0_ := Lib.hid s0_
              replace s1_ := Lib.hid s1_
              replace s2_ := Lib.hid s2_
              replace s3_ := Lib.hid s3_
              replace s4_ := Lib.hid s4_
              replace c2_ := Lib.hid c2_
              replace c6_ := Lib.hid c6_
              replace c7_ := Lib.hid c7_
              replace c8_ := Lib.hid c8_
              replace l0_ := Lib.hid l0_
              replace l1_ := Lib.hid l1_
              replace l2_ := Lib.hid l2_
              replace l3_ := Lib.hid l3_
              replace l4_ := Lib.hid l4_
              replace l5_ := Lib.hid l5_
              replace l6_ := Lib.hid l6_
              replace l9_ := Lib.hid l9_
              rw [hae]
              clear hae
              simp only [holeRV9, List.setIfInBounds_toArray, List.set_cons_zero, List.set_cons_succ]
              replace hKK := Lib.hid hKK
              go_wp2_with (go_at_call 52; refine (signed_mm neg3 _ _ _ _ _ w1 (hrm.below hbl) (by omega)).mono ?_; rintro e w7 ⟨neg7, A17, n17, c17, rfl, hi7, hb17⟩)
              exact hKK.out _ _ ⟨v46, v47, v48, v49, (.bool neg3), (.slice A6 0 c6), (.agg #[.bool neg7, .slice A17 n17 c17]), v6, (by simp only [holeRV9, Act.put, List.setIfInBounds_toArray, List.set_cons_zero, List.set_cons_succ]), by simpa using hsz, fun e => by (have t := ha { on := 2, ground := Ground.chain } (by simp) rfl; rw [gs_off (by decide)] at e; rw [e] at t; cases t), fun _ e => by (exfalso; revert e; simp [Array.getD_eq_getD_getElem?, hsz]), fun _ _ => ⟨hbl.trans (hb17.mono hbl.size), hiv.below hb17, _, _, _, _, rfl, hi7.mono (by omega)⟩, fun e _ => (not_on hi (c7_.out (by rwa [gs_off (by decide)] at e)).2.1).elim, fun e => (not_on hi (c8_.out (by rwa [gs_off (by decide)] at e)).1).elim, fun e => ⟨by rw [gs_off (by decide)]; exact (c2_.out (by rwa [gs_off (by decide)] at e)).1, by rw [gs_off (by decide)]; exact (c2_.out (by rwa [gs_off (by decide)] at e)).2⟩, fun _ => ⟨by rw [gs_off (by decide)]; exact ha { on := 4, ground := Ground.data } (by simp) rfl, by rw [gs_off (by decide)]; exact ha { on := 5, ground := Ground.data } (by simp) rfl, by rw [gs_off (by decide)]; exact ha { on := 2, ground := Ground.chain } (by simp) rfl, by rw [gs_off (by decide)]; exact (c2_.out (ha { on := 2, ground := Ground.chain } (by simp) rfl)).1, by rw [gs_off (by decide)]; exact (c2_.out (ha { on := 2, ground := Ground.chain } (by simp) rfl)).2⟩, fun e => (not_on hi (c7_.out (by rwa [gs_off (by decide)] at e)).2.1).elim, fun e => (not_on hi (c8_.out (by rwa [gs_off (by decide)] at e)).1).elim, fun e => l0_.out (by rwa [gs_off (by decide)] at e), fun e => l1_.out (by rwa [gs_off (by decide)] at e), fun e => l2_.out (by rwa [gs_off (by decide)] at e), fun e => l3_.out (by rwa [gs_off (by decide)] at e), fun _ => rfl, fun _ => rfl, fun _ => trivial, fun e => l9_.out (by rwa [gs_off (by decide)] at e)⟩
            · unfold StepAt
              intro L a w1 KK hI hi ha hKK
              unfold IRV9 at hI
              obtain ⟨v46, v47, v48, v49, v50, v51, v52, v6, hae, hsz, s0_, s1_, s2_, s3_, s4_, c2_, c6_, c7_, c8_, l0_, l1_, l2_, l3_, l4_, l5_, l6_, l9_⟩ := hI
              have hoff : L.getD 7 false = false := by
                cases h : L.getD 7 false
                · rfl
                · exact (not_on hi h).elim
              have hon := ha { on := 6, ground := Ground.chain } (by simp) rfl
              have hP := s2_ hon hoff
              have q2 := ha { on := 2, ground := Ground.data } (by simp) rfl
              have e2 := l2_ q2
              obtain ⟨hbl, ⟨b, A9, n9, c9, e48, hi48⟩, hiv52⟩ := hP
              subst e48
              obtain ⟨x1, x2, x3, x4, x5⟩ := hbox3.out _ hbl
              replace s0_ := Lib.hid s0_
              replace s1_ := Lib.hid s1_
              replace s2_ := Lib.hid s2_
              replace s3_ := Lib.hid s3_
              replace s4_ := Lib.hid s4_
              replace c2_ := Lib.hid c2_
              replace c6_ := Lib.hid c6_
              replace c7_ := Lib.hid c7_
              replace c8_ := Lib.hid c8_
              replace l0_ := Lib.hid l0_
              replace l1_ := Lib.hid l1_
              replace l2_ := Lib.hid l2_
              replace l3_ := Lib.hid l3_
              replace l4_ := Lib.hid l4_
              replace l5_ := Lib.hid l5_
              replace l6_ := Lib.hid l6_
              replace l9_ := Lib.hid l9_
              rw [hae]
              clear hae
              simp only [holeRV9, List.setIfInBounds_toArray, List.set_cons_zero, List.set_cons_succ]
              go_simp
              exact hKK _ _ ⟨v46, v47, (.agg #[.bool b, .slice A9 n9 c9]), v49, v50, v51, v52, v6, (by simp only [holeRV9, Act.put, List.setIfInBounds_toArray, List.set_cons_zero, List.set_cons_succ]), by simpa using hsz, fun e => by (have t := ha { on := 2, ground := Ground.data } (by simp) rfl; rw [gs_off (by decide)] at e; rw [e] at t; cases t), fun _ e => by (have t := ha { on := 6, ground := Ground.chain } (by simp) rfl; rw [gs_off (by decide)] at e; rw [e] at t; cases t), fun _ e => by (exfalso; revert e; simp [Array.getD_eq_getD_getElem?, hsz]), fun _ _ => ⟨w1, b, A9, n9, c9, ⟨hbl, hi48, hiv52⟩, rfl⟩, fun e => (not_on hi (c8_.out (by rwa [gs_off (by decide)] at e)).2.1).elim, fun e => ⟨by rw [gs_off (by decide)]; exact (c2_.out (by rwa [gs_off (by decide)] at e)).1, by rw [gs_off (by decide)]; exact (c2_.out (by rwa [gs_off (by decide)] at e)).2⟩, fun e => ⟨by rw [gs_off (by decide)]; exact (c6_.out (by rwa [gs_off (by decide)] at e)).1, by rw [gs_off (by decide)]; exact (c6_.out (by rwa [gs_off (by decide)] at e)).2.1, by rw [gs_off (by decide)]; exact (c6_.out (by rwa [gs_off (by decide)] at e)).2.2.1, by rw [gs_off (by decide)]; exact (c6_.out (by rwa [gs_off (by decide)] at e)).2.2.2.1, by rw [gs_off (by decide)]; exact (c6_.out (by rwa [gs_off (by decide)] at e)).2.2.2.2⟩, fun _ => ⟨by rw [gs_off (by decide)]; exact ha { on := 2, ground := Ground.data } (by simp) rfl, by rw [gs_off (by decide)]; exact ha { on := 6, ground := Ground.chain } (by simp) rfl, by rw [gs_off (by decide)]; exact ha { on := 0, ground := Ground.phase } (by simp) rfl, by rw [gs_off (by decide)]; exact ha { on := 1, ground := Ground.phase } (by simp) rfl, by rw [gs_off (by decide)]; exact (c6_.out (ha { on := 6, ground := Ground.chain } (by simp) rfl)).1, by rw [gs_off (by decide)]; exact (c6_.out (ha { on := 6, ground := Ground.chain } (by simp) rfl)).2.1⟩, fun e => (not_on hi (c8_.out (by rwa [gs_off (by decide)] at e)).2.1).elim, fun e => l0_.out (by rwa [gs_off (by decide)] at e), fun e => l1_.out (by rwa [gs_off (by decide)] at e), fun _ => trivial, fun e => l3_.out (by rwa [gs_off (by decide)] at e), fun e => l4_.out (by rwa [gs_off (by decide)] at e), fun e => l5_.out (by rwa [gs_off (by decide)] at e), fun e => l6_.out (by rwa [gs_off (by decide)] at e), fun e => l9_.out (by rwa [gs_off (by decide)] at e)⟩
            · unfold StepAt
              intro L a w1 KK hI hi ha hKK
              unfold IRV9 at hI
              obtain ⟨v46, v47, v48, v49, v50, v51, v52, v6, hae, hsz, s0_, s1_, s2_, s3_, s4_, c2_, c6_, c7_, c8_, l0_, l1_, l2_, l3_, l4_, l5_, l6_, l9_⟩ := hI
              have hoff : L.getD 8 false = false := by
                cases h : L.getD 8 false
                · rfl
                · exact (not_on hi h).elim
              have hon := ha { on := 7, ground := Ground.chain } (by simp) rfl
              have hP := s3_ hon hoff
              have q6 := ha { on := 6, ground := Ground.data } (by simp) rfl
              have e6 := l6_ q6
              obtain ⟨w8, b, A9, n9, c9, ⟨hbl, hi48, ⟨b2, A10, n10, c10, e52, hi52⟩⟩, hw1⟩ := hP
              subst e52
              obtain ⟨x1, x2, x3, x4, x5⟩ : Bx w1 (w.heap.size + 1 + 1 + 1) (.bool false) (.slice none 0 0) := by
                rw [hw1]
                exact ((hbox4.out _ hbl).far (by dsimp only; omega) _).far (by dsimp only; omega) _
              replace hw1 := Lib.hid hw1
              replace s0_ := Lib.hid s0_
              replace s1_ := Lib.hid s1_
              replace s2_ := Lib.hid s2_
              replace s3_ := Lib.hid s3_
              replace s4_ := Lib.hid s4_
              replace c2_ := Lib.hid c2_
              replace c6_ := Lib.hid c6_
              replace c7_ := Lib.hid c7_
              replace c8_ := Lib.hid c8_
              replace l0_ := Lib.hid l0_
              replace l1_ := Lib.hid l1_
              replace l2_ := Lib.hid l2_
              replace l3_ := Lib.hid l3_
              replace l4_ := Lib.hid l4_
              replace l5_ := Lib.hid l5_
              replace l6_ := Lib.hid l6_
              replace l9_ := Lib.hid l9_
              rw [hae]
              clear hae
              simp only [holeRV9, List.setIfInBounds_toArray, List.set_cons_zero, List.set_cons_succ]
              go_simp
              exact hKK _ _ ⟨v46, v47, v48, v49, v50, v51, (.agg #[.bool b2, .slice A10 n10 c10]), v6, (by simp only [holeRV9, Act.put, List.setIfInBounds_toArray, List.set_cons_zero, List.set_cons_succ]), by simpa using hsz, fun e => by (have t := ha { on := 2, ground := Ground.phase } (by simp) rfl; rw [gs_off (by decide)] at e; rw [e] at t; cases t), fun _ e => by (have t := ha { on := 6, ground := Ground.data } (by simp) rfl; rw [gs_off (by decide)] at e; rw [e] at t; cases t), fun _ e => by (have t := ha { on := 7, ground := Ground.chain } (by simp) rfl; rw [gs_off (by decide)] at e; rw [e] at t; cases t), fun _ e => by (exfalso; revert e; simp [Array.getD_eq_getD_getElem?, hsz]), fun _ => ⟨w8, b, A9, n9, c9, b2, A10, n10, c10, ⟨hbl, hi48, hi52⟩, by rw [hw1.out]⟩, fun e => ⟨by rw [gs_off (by decide)]; exact (c2_.out (by rwa [gs_off (by decide)] at e)).1, by rw [gs_off (by decide)]; exact (c2_.out (by rwa [gs_off (by decide)] at e)).2⟩, fun e => ⟨by rw [gs_off (by decide)]; exact (c6_.out (by rwa [gs_off (by decide)] at e)).1, by rw [gs_off (by decide)]; exact (c6_.out (by rwa [gs_off (by decide)] at e)).2.1, by rw [gs_off (by decide)]; exact (c6_.out (by rwa [gs_off (by decide)] at e)).2.2.1, by rw [gs_off (by decide)]; exact (c6_.out (by rwa [gs_off (by decide)] at e)).2.2.2.1, by rw [gs_off (by decide)]; exact (c6_.out (by rwa [gs_off (by decide)] at e)).2.2.2.2⟩, fun e => ⟨by rw [gs_off (by decide)]; exact (c7_.out (by rwa [gs_off (by decide)] at e)).1, by rw [gs_off (by decide)]; exact (c7_.out (by rwa [gs_off (by decide)] at e)).2.1, by rw [gs_off (by decide)]; exact (c7_.out (by rwa [gs_off (by decide)] at e)).2.2.1, by rw [gs_off (by decide)]; exact (c7_.out (by rwa [gs_off (by decide)] at e)).2.2.2.1, by rw [gs_off (by decide)]; exact (c7_.out (by rwa [gs_off (by decide)] at e)).2.2.2.2.1, by rw [gs_off (by decide)]; exact (c7_.out (by rwa [gs_off (by decide)] at e)).2.2.2.2.2⟩, fun _ => ⟨by rw [gs_off (by decide)]; exact ha { on := 6, ground := Ground.data } (by simp) rfl, by rw [gs_off (by decide)]; exact ha { on := 7, ground := Ground.chain } (by simp) rfl, by rw [gs_off (by decide)]; exact ha { on := 0, ground := Ground.phase } (by simp) rfl, by rw [gs_off (by decide)]; exact ha { on := 1, ground := Ground.phase } (by simp) rfl, by rw [gs_off (by decide)]; exact ha { on := 2, ground := Ground.phase } (by simp) rfl, by rw [gs_off (by decide)]; exact ha { on := 3, ground := Ground.phase } (by simp) rfl, by rw [gs_off (by decide)]; exact ha { on := 4, ground := Ground.phase } (by simp) rfl, by rw [gs_off (by decide)]; exact ha { on := 5, ground := Ground.phase } (by simp) rfl⟩, fun e => l0_.out (by rwa [gs_off (by decide)] at e), fun e => l1_.out (by rwa [gs_off (by decide)] at e), fun e => l2_.out (by rwa [gs_off (by decide)] at e), fun e => l3_.out (by rwa [gs_off (by decide)] at e), fun e => l4_.out (by rwa [gs_off (by decide)] at e), fun e => l5_.out (by rwa [gs_off (by decide)] at e), fun _ => trivial, fun e => l9_.out (by rwa [gs_off (by decide)] at e)⟩
            · unfold StepAt
              intro L a w1 KK hI hi ha hKK
              unfold IRV9 at hI
              obtain ⟨v46, v47, v48, v49, v50, v51, v52, v6, hae, hsz, s0_, s1_, s2_, s3_, s4_, c2_, c6_, c7_, c8_, l0_, l1_, l2_, l3_, l4_, l5_, l6_, l9_⟩ := hI
              replace s0_ := Lib.hid s0_
              replace s1_ := Lib.hid s1_
              replace s2_ := Lib.hid s2_
              replace s3_ := Lib.hid s3_
              replace s4_ := Lib.hid s4_
              replace c2_ := Lib.hid c2_
              replace c6_ := Lib.hid c6_
              replace c7_ := Lib.hid c7_
              replace c8_ := Lib.hid c8_
              replace l0_ := Lib.hid l0_
              replace l1_ := Lib.hid l1_
              replace l2_ := Lib.hid l2_
              replace l3_ := Lib.hid l3_
              replace l4_ := Lib.hid l4_
              replace l5_ := Lib.hid l5_
              replace l6_ := Lib.hid l6_
              replace l9_ := Lib.hid l9_
              rw [hae]
              clear hae
              simp only [holeRV9, List.setIfInBounds_toArray, List.set_cons_zero, List.set_cons_succ]
              go_simp
              exact hKK _ _ ⟨v46, v47, v48, v49, v50, v51, v52, (.int .i64 0), (by simp only [holeRV9, Act.put, List.setIfInBounds_toArray, List.set_cons_zero, List.set_cons_succ]), by simpa using hsz, fun e2 => s0_.out (by rwa [gs_off (by decide)] at e2), fun e e2 => s1_.out (by rwa [gs_off (by decide)] at e) (by rwa [gs_off (by decide)] at e2), fun e e2 => s2_.out (by rwa [gs_off (by decide)] at e) (by rwa [gs_off (by decide)] at e2), fun e e2 => s3_.out (by rwa [gs_off (by decide)] at e) (by rwa [gs_off (by decide)] at e2), fun e => s4_.out (by rwa [gs_off (by decide)] at e), fun e => ⟨by rw [gs_off (by decide)]; exact (c2_.out (by rwa [gs_off (by decide)] at e)).1, by rw [gs_off (by decide)]; exact (c2_.out (by rwa [gs_off (by decide)] at e)).2⟩, fun e => ⟨by rw [gs_off (by decide)]; exact (c6_.out (by rwa [gs_off (by decide)] at e)).1, by rw [gs_off (by decide)]; exact (c6_.out (by rwa [gs_off (by decide)] at e)).2.1, by rw [gs_off (by decide)]; exact (c6_.out (by rwa [gs_off (by decide)] at e)).2.2.1, by rw [gs_off (by decide)]; exact (c6_.out (by rwa [gs_off (by decide)] at e)).2.2.2.1, by rw [gs_off (by decide)]; exact (c6_.out (by rwa [gs_off (by decide)] at e)).2.2.2.2⟩, fun e => ⟨by rw [gs_off (by decide)]; exact (c7_.out (by rwa [gs_off (by decide)] at e)).1, by rw [gs_off (by decide)]; exact (c7_.out (by rwa [gs_off (by decide)] at e)).2.1, by rw [gs_off (by decide)]; exact (c7_.out (by rwa [gs_off (by decide)] at e)).2.2.1, by rw [gs_off (by decide)]; exact (c7_.out (by rwa [gs_off (by decide)] at e)).2.2.2.1, by rw [gs_off (by decide)]; exact (c7_.out (by rwa [gs_off (by decide)] at e)).2.2.2.2.1, by rw [gs_off (by decide)]; exact (c7_.out (by rwa [gs_off (by decide)] at e)).2.2.2.2.2⟩, fun e => ⟨by rw [gs_off (by decide)]; exact (c8_.out (by rwa [gs_off (by decide)] at e)).1, by rw [gs_off (by decide)]; exact (c8_.out (by rwa [gs_off (by decide)] at e)).2.1, by rw [gs_off (by decide)]; exact (c8_.out (by rwa [gs_off (by decide)] at e)).2.2.1, by rw [gs_off (by decide)]; exact (c8_.out (by rwa [gs_off (by decide)] at e)).2.2.2.1, by rw [gs_off (by decide)]; exact (c8_.out (by rwa [gs_off (by decide)] at e)).2.2.2.2.1, by rw [gs_off (by decide)]; exact (c8_.out (by rwa [gs_off (by decide)] at e)).2.2.2.2.2.1, by rw [gs_off (by decide)]; exact (c8_.out (by rwa [gs_off (by decide)] at e)).2.2.2.2.2.2.1, by rw [gs_off (by decide)]; exact (c8_.out (by rwa [gs_off (by decide)] at e)).2.2.2.2.2.2.2⟩, fun e => l0_.out (by rwa [gs_off (by decide)] at e), fun e => l1_.out (by rwa [gs_off (by decide)] at e), fun e => l2_.out (by rwa [gs_off (by decide)] at e), fun e => l3_.out (by rwa [gs_off (by decide)] at e), fun e => l4_.out (by rwa [gs_off (by decide)] at e), fun e => l5_.out (by rwa [gs_off (by decide)] at e), fun e => l6_.out (by rwa [gs_off (by decide)] at e), fun _ => rfl⟩
          · intro L a w1 hI hall
            unfold IRV9 at hI
            obtain ⟨v46, v47, v48, v49, v50, v51, v52, v6, hae, hsz, s0_, s1_, s2_, s3_, s4_, c2_, c6_, c7_, c8_, l0_, l1_, l2_, l3_, l4_, l5_, l6_, l9_⟩ := hI
            have hP := s4_ (hall 8 (by decide))
            have e9 := l9_ (hall 9 (by decide))
            subst e9
            rw [hae]
            clear hae hsz s0_ s1_ s2_ s3_ s4_ c2_ c6_ c7_ c8_ l0_ l1_ l2_ l3_ l4_ l5_ l6_ hall
            simp only [holeRV9, List.setIfInBounds_toArray, List.set_cons_zero, List.set_cons_succ]
            obtain ⟨w8, b, A9, n9, c9, b2, A10, n10, c10, ⟨hbl, hi48, hi52⟩, hw1⟩ := hP
            have x3 := hbox3.out _ hbl
            have x4 := hbox4.out _ hbl
            have y3 : Bx w1 (w.heap.size + 1 + 1) (.bool b) (.slice A9 n9 c9) := by
              rw [hw1]
              exact ((x3.set _ _).far (by dsimp only; omega) _).far (by dsimp only; omega) _
            have y4 : Bx w1 (w.heap.size + 1 + 1 + 1) (.bool b2) (.slice A10 n10 c10) := by
              rw [hw1]
              exact Bx.set ((x4.far (by dsimp only; omega) _).far (by dsimp only; omega) _) _ _
            have z1 : II w1 b A9 n9 c9 (dq x y) (k + 2) := by
              rw [hw1, ← hq5]
              exact hi48.store4 x3.1 x3.2.1 x4.1 x4.2.1 (by omega) _ _ _ _
            have z2 : II w1 b2 A10 n10 c10 (dr x y) (k + 1) := by
              rw [hw1, ← hr5]
              exact hi52.store4 x3.1 x3.2.1 x4.1 x4.2.1 (by omega) _ _ _ _
            have hbW : Below w.heap.size w w1 := by
              rw [hw1]
              repeat (first | exact hb6.trans (hbl.mono hb6.size) | refine Below.setCell ?_ (by dsimp only; omega) _)
            obtain ⟨k5, k6, -, -, -⟩ := y3
            obtain ⟨k7, k8, -, -, -⟩ := y4
            replace hw1 := Lib.hid hw1
            refine hKQ _ _ ?_
            go_wp2
            refine bodyPost_ret (v := .tuple #[.agg #[.bool b, .slice A9 n9 c9], .agg #[.bool b2, .slice A10 n10 c10], .int .i64 0]) (by simp [results, Tryd.results36, go_sem, k5, k6, k7, k8]) rfl ?_
            exact ⟨_, _, _, _, _, _, _, _, _, rfl, hbW, .inr ⟨hy0, rfl, z1, z2⟩⟩
        · have hq5 : sgnd true (x.natAbs / y.natAbs + 1) = dq x y := (dq_diff hdiff hr0).symm
          have hr5 : sgnd neg3 (y.natAbs - x.natAbs % y.natAbs) = dr x y := by rw [dr_diff hdiff hy0 hr0, ← s2.out]
          have hn6 : 0 < n6 := Nat.pos_of_ne_zero fun h => hr0 (hrm.len_zero.1 h)
          have hn6I : (0 : Int) < (n6 : Int) := by omega
          have hle : x.natAbs % y.natAbs ≤ y.natAbs := Nat.le_of_lt (Nat.mod_lt _ hyp)
          replace hr0 := Lib.hid hr0
          clear hdiff
          have hone := FM.of_new (B := w3.heap.size) (w := w3) (Nat.le_refl _) [1] (cano_one (by omega) (by omega)) (k := k + 1) (by simp) (by simp)
          have hbo := (Below.refl w3.heap.size w3).alloc (Nat.le_refl _) (.cells (cells [1]).toArray 48)
          go_wp2_with (first | (go_at_call 70; refine (sum_any _ _ _ _ _ _ (x.natAbs / y.natAbs) 1 (k + 1) _ ((hqm.below hbo).mono (by omega)) hone.mm (by omega)).mono ?_; rintro e w4 ⟨A7, n7, c7, rfl, hq7, hb7⟩; replace hb7 := Below.trans hbo (hb7.mono (by simp)); obtain ⟨d1, d2, e1, e2, hs1⟩ := Bx.below (show Bx w3 w.heap.size _ _ from ⟨d1, d2, e1, e2, hs1⟩) hb7; obtain ⟨d3, d4, e3, e4, hs2⟩ := Bx.below (show Bx w3 (w.heap.size + 1) _ _ from ⟨d3, d4, e3, e4, hs2⟩) hb7; replace q3 := q3.below hb7; replace q4 := q4.below hb7; have hb8 := hb6.trans (hb7.mono hb6.size)) | (go_at_call 71; refine (difference_any _ _ _ _ _ _ y.natAbs (x.natAbs % y.natAbs) k k _ (m3.below hb7) (hrm.below hb7) hle (by omega)).mono ?_; rintro e w5 ⟨A8, n8, c8, rfl, hr8, hb9⟩; replace hq7 := (hq7.below hb9).mm; replace hr8 := hr8.mm; obtain ⟨d1, d2, e1, e2, hs1⟩ := Bx.below (show Bx w4 w.heap.size _ _ from ⟨d1, d2, e1, e2, hs1⟩) hb9; obtain ⟨d3, d4, e3, e4, hs2⟩ := Bx.below (show Bx w4 (w.heap.size + 1) _ _ from ⟨d3, d4, e3, e4, hs2⟩) hb9; replace q3 := q3.below hb9; replace q4 := q4.below hb9; have hb10 := hb8.trans (hb9.mono hb8.size)))
          rename_i KQ hKQ
          have hcell : ∀ w', Below w5.heap.size w5 w' → w'.cell? ⟨w.heap.size + 1, 0, none⟩ = some (.bool neg3) := fun w' h => (Bx.below (show Bx w5 (w.heap.size + 1) _ _ from ⟨d3, d4, e3, e4, hs2⟩) h).1
          have hbox3 := fun w' (h : Below w5.heap.size w5 w') => q3.below h
          have hbox4 := fun w' (h : Below w5.heap.size w5 w') => q4.below h
          replace hcell := Lib.hid hcell
          replace hbox3 := Lib.hid hbox3
          replace hbox4 := Lib.hid hbox4
          clear d1 d2 d3 d4 e1 e2 e3 e4 q3 q4
          refine wp_region_inv0 (I0 := IRV9 w5 w.heap.size (k + 2) (k + 1) (sgnd true (x.natAbs / y.natAbs + 1)) (sgnd neg3 (y.natAbs - x.natAbs % y.natAbs)) (.bool true) (.slice A7 n7 c7) (.pointer (some ⟨w.heap.size + 1, 0, none⟩)) (.bool neg3) (.slice A8 n8 c8) (.int .i64 0)) (by kernel_rfl) (by kernel_rfl) ?_ ?_ ?_ ?_
          · intro L a w1 hI
            unfold IRV9 at hI
            obtain ⟨v46, v47, v48, v49, v50, v51, v52, v6, hae, hsz, -⟩ := hI
            exact hsz
          · exact ⟨undef, undef, undef, undef, undef, undef, undef, (.int .i64 0), (by simp only [holeRV9, Act.put, List.setIfInBounds_toArray, List.set_cons_zero, List.set_cons_succ]), by simp, fun _ => (Below.refl _ _).drew, fun h _ => by simp at h, fun h _ => by simp at h, fun h _ => by simp at h, fun h => by simp at h, fun h => by simp at h, fun h => by simp at h, fun h => by simp at h, fun h => by simp at h, fun h => by simp at h, fun h => by simp at h, fun h => by simp at h, fun h => by simp at h, fun h => by simp at h, fun h => by simp at h, fun h => by simp at h, fun h => by simp at h⟩
          · refine steps_cons ?_ (steps_cons ?_ (steps_cons ?_ (steps_cons ?_ (steps_cons ?_ (steps_cons ?_ (steps_cons ?_ (steps_cons ?_ (steps_cons ?_ (steps_cons ?_ (steps_nil))))))))))
            · unfold StepAt
              intro L a w1 KK hI hi ha hKK
              unfold IRV9 at hI
              obtain ⟨v46, v47, v48, v49, v50, v51, v52, v6, hae, hsz, s0_, s1_, s2_, s3_, s4_, c2_, c6_, c7_, c8_, l0_, l1_, l2_, l3_, l4_, l5_, l6_, l9_⟩ := hI
              replace s0_ := Lib.hid s0_
              replace s1_ := Lib.hid s1_
              replace s2_ := Lib.hid s2_
              replace s3_ := Lib.hid s3_
              replace s4_ := Lib.hid s4_
              replace c2_ := Lib.hid c2_
              replace c6_ := Lib.hid c6_
              replace c7_ := Lib.hid c7_
              replace c8_ := Lib.hid c8_
              replace l0_ := Lib.hid l0_
              replace l1_ := Lib.hid l1_
              replace l2_ := Lib.hid l2_
              replace l3_ := Lib.hid l3_
              replace l4_ := Lib.hid l4_
              replace l5_ := Lib.hid l5_
              replace l6_ := Lib.hid l6_
              replace l9_ := Lib.hid l9_
              rw [hae]
              clear hae
              simp only [holeRV9, List.setIfInBounds_toArray, List.set_cons_zero, List.set_cons_succ]
              go_simp
              exact hKK _ _ ⟨(.bool true), v47, v48, v49, v50, v51, v52, v6, (by simp only [holeRV9, Act.put, List.setIfInBounds_toArray, List.set_cons_zero, List.set_cons_succ]), by simpa using hsz, fun e2 => s0_.out (by rwa [gs_off (by decide)] at e2), fun e e2 => s1_.out (by rwa [gs_off (by decide)] at e) (by rwa [gs_off (by decide)] at e2), fun e e2 => s2_.out (by rwa [gs_off (by decide)] at e) (by rwa [gs_off (by decide)] at e2), fun e e2 => s3_.out (by rwa [gs_off (by decide)] at e) (by rwa [gs_off (by decide)] at e2), fun e => s4_.out (by rwa [gs_off (by decide)] at e), fun e => (not_on hi (c2_.out (by rwa [gs_off (by decide)] at e)).1).elim, fun e => (not_on hi (c6_.out (by rwa [gs_off (by decide)] at e)).2.2.2.1).elim, fun e => (not_on hi (c7_.out (by rwa [gs_off (by decide)] at e)).2.2.1).elim, fun e => (not_on hi (c8_.out (by rwa [gs_off (by decide)] at e)).2.2.1).elim, fun _ => rfl, fun e => l1_.out (by rwa [gs_off (by decide)] at e), fun e => l2_.out (by rwa [gs_off (by decide)] at e), fun e => l3_.out (by rwa [gs_off (by decide)] at e), fun e => l4_.out (by rwa [gs_off (by decide)] at e), fun e => l5_.out (by rwa [gs_off (by decide)] at e), fun e => l6_.out (by rwa [gs_off (by decide)] at e), fun e => l9_.out (by rwa [gs_off (by decide)] at e)⟩
            · unfold StepAt
              intro L a w1 KK hI hi ha hKK
              unfold IRV9 at hI
              obtain ⟨v46, v47, v48, v49, v50, v51, v52, v6, hae, hsz, s0_, s1_, s2_, s3_, s4_, c2_, c6_, c7_, c8_, l0_, l1_, l2_, l3_, l4_, l5_, l6_, l9_⟩ := hI
              replace s0_ := Lib.hid s0_
              replace s1_ := Lib.hid s1_
              replace s2_ := Lib.hid s2_
              replace s3_ := Lib.hid s3_
              replace s4_ := Lib.hid s4_
              replace c2_ := Lib.hid c2_
              replace c6_ := Lib.hid c6_
              replace c7_ := Lib.hid c7_
              replace c8_ := Lib.hid c8_
              replace l0_ := Lib.hid l0_
              replace l1_ := Lib.hid l1_
              replace l2_ := Lib.hid l2_
              replace l3_ := Lib.hid l3_
              replace l4_ := Lib.hid l4_
              replace l5_ := Lib.hid l5_
              replace l6_ := Lib.hid l6_
              replace l9_ := Lib.hid l9_
              rw [hae]
              clear hae
              simp only [holeRV9, List.setIfInBounds_toArray, List.set_cons_zero, List.set_cons_succ]
              go_simp
              exact hKK _ _ ⟨v46, (.slice A7 n7 c7), v48, v49, v50, v51, v52, v6, (by simp only [holeRV9, Act.put, List.setIfInBounds_toArray, List.set_cons_zero, List.set_cons_succ]), by simpa using hsz, fun e2 => s0_.out (by rwa [gs_off (by decide)] at e2), fun e e2 => s1_.out (by rwa [gs_off (by decide)] at e) (by rwa [gs_off (by decide)] at e2), fun e e2 => s2_.out (by rwa [gs_off (by decide)] at e) (by rwa [gs_off (by decide)] at e2), fun e e2 => s3_.out (by rwa [gs_off (by decide)] at e) (by rwa [gs_off (by decide)] at e2), fun e => s4_.out (by rwa [gs_off (by decide)] at e), fun e => (not_on hi (c2_.out (by rwa [gs_off (by decide)] at e)).2).elim, fun e => (not_on hi (c6_.out (by rwa [gs_off (by decide)] at e)).2.2.2.2).elim, fun e => (not_on hi (c7_.out (by rwa [gs_off (by decide)] at e)).2.2.2.1).elim, fun e => (not_on hi (c8_.out (by rwa [gs_off (by decide)] at e)).2.2.2.1).elim, fun e => l0_.out (by rwa [gs_off (by decide)] at e), fun _ => rfl, fun e => l2_.out (by rwa [gs_off (by decide)] at e), fun e => l3_.out (by rwa [gs_off (by decide)] at e), fun e => l4_.out (by rwa [gs_off (by decide)] at e), fun e => l5_.out (by rwa [gs_off (by decide)] at e), fun e => l6_.out (by rwa [gs_off (by decide)] at e), fun e => l9_.out (by rwa [gs_off (by decide)] at e)⟩
            · unfold StepAt
              intro L a w1 KK hI hi ha hKK
              unfold IRV9 at hI
              obtain ⟨v46, v47, v48, v49, v50, v51, v52, v6, hae, hsz, s0_, s1_, s2_, s3_, s4_, c2_, c6_, c7_, c8_, l0_, l1_, l2_, l3_, l4_, l5_, l6_, l9_⟩ := hI
              have hoff : L.getD 2 false = false := by
                cases h : L.getD 2 false
                · rfl
                · exact (not_on hi h).elim
              have hP := s0_ hoff
              have q0 := ha { on := 0, ground := Ground.data } (by simp) rfl
              have e0 := l0_ q0
              subst e0
              have q1 := ha { on := 1, ground := Ground.data } (by simp) rfl
              have e1 := l1_ q1
              subst e1
              replace s0_ := Lib.hid s0_
              replace s1_ := Lib.hid s1_
              replace s2_ := Lib.hid s2_
              replace s3_ := Lib.hid s3_
              replace s4_ := Lib.hid s4_
              replace c2_ := Lib.hid c2_
              replace c6_ := Lib.hid c6_
              replace c7_ := Lib.hid c7_
              replace c8_ := Lib.hid c8_
              replace l0_ := Lib.hid l0_
              replace l1_ := Lib.hid l1_
              replace l2_ := Lib.hid l2_
              replace l3_ := Lib.hid l3_
              replace l4_ := Lib.hid l4_
              replace l5_ := Lib.hid l5_
              replace l6_ := Lib.hid l6_
              replace l9_ := Lib.hid l9_
              rw [hae]
              clear hae
              simp only [holeRV9, List.setIfInBounds_toArray, List.set_cons_zero, List.set_cons_succ]
              replace hKK := Lib.hid hKK
              go_wp2_with (go_at_call 52; refine (signed_mm true _ _ _ _ _ w1 (hq7.below hP) (by omega)).mono ?_; rintro e w7 ⟨neg7, A17, n17, c17, rfl, hi7, hb17⟩)
              exact hKK.out _ _ ⟨(.bool true), (.slice A7 n7 c7), (.agg #[.bool neg7, .slice A17 n17 c17]), v49, v50, v51, v52, v6, (by simp only [holeRV9, Act.put, List.setIfInBounds_toArray, List.set_cons_zero, List.set_cons_succ]), by simpa using hsz, fun e => by (exfalso; revert e; simp [Array.getD_eq_getD_getElem?, hsz]), fun _ _ => ⟨hP.trans (hb17.mono hP.size), _, _, _, _, rfl, hi7.mono (by omega)⟩, fun e _ => (not_on hi (c6_.out (by rwa [gs_off (by decide)] at e)).2.2.1).elim, fun e _ => (not_on hi (c7_.out (by rwa [gs_off (by decide)] at e)).1).elim, fun e => (not_on hi (c8_.out (by rwa [gs_off (by decide)] at e)).2.2.2.2.1).elim, fun _ => ⟨by rw [gs_off (by decide)]; exact ha { on := 0, ground := Ground.data } (by simp) rfl, by rw [gs_off (by decide)]; exact ha { on := 1, ground := Ground.data } (by simp) rfl⟩, fun e => (not_on hi (c6_.out (by rwa [gs_off (by decide)] at e)).2.2.1).elim, fun e => (not_on hi (c7_.out (by rwa [gs_off (by decide)] at e)).1).elim, fun e => (not_on hi (c8_.out (by rwa [gs_off (by decide)] at e)).2.2.2.2.1).elim, fun _ => rfl, fun _ => rfl, fun _ => trivial, fun e => l3_.out (by rwa [gs_off (by decide)] at e), fun e => l4_.out (by rwa [gs_off (by decide)] at e), fun e => l5_.out (by rwa [gs_off (by decide)] at e), fun e => l6_.out (by rwa [gs_off (by decide)] at e), fun e => l9_.out (by rwa [gs_off (by decide)] at e)⟩
            · unfold StepAt
              intro L a w1 KK hI hi ha hKK
              unfold IRV9 at hI
              obtain ⟨v46, v47, v48, v49, v50, v51, v52, v6, hae, hsz, s0_, s1_, s2_, s3_, s4_, c2_, c6_, c7_, c8_, l0_, l1_, l2_, l3_, l4_, l5_, l6_, l9_⟩ := hI
              replace s0_ := Lib.hid s0_
              replace s1_ := Lib.hid s1_
              replace s2_ := Lib.hid s2_
              replace s3_ := Lib.hid s3_
              replace s4_ := Lib.hid s4_
              replace c2_ := Lib.hid c2_
              replace c6_ := Lib.hid c6_
              replace c7_ := Lib.hid c7_
              replace c8_ := Lib.hid c8_
              replace l0_ := Lib.hid l0_
              replace l1_ := Lib.hid l1_
              replace l2_ := Lib.hid l2_
              replace l3_ := Lib.hid l3_
              replace l4_ := Lib.hid l4_
              replace l5_ := Lib.hid l5_
              replace l6_ := Lib.hid l6_
              replace l9_ := Lib.hid l9_
              rw [hae]
              clear hae
              simp only [holeRV9, List.setIfInBounds_toArray, List.set_cons_zero, List.set_cons_succ]
              go_simp
              exact hKK _ _ ⟨v46, v47, v48, (.pointer (some ⟨w.heap.size + 1, 0, none⟩)), v50, v51, v52, v6, (by simp only [holeRV9, Act.put, List.setIfInBounds_toArray, List.set_cons_zero, List.set_cons_succ]), by simpa using hsz, fun e2 => s0_.out (by rwa [gs_off (by decide)] at e2), fun e e2 => s1_.out (by rwa [gs_off (by decide)] at e) (by rwa [gs_off (by decide)] at e2), fun e e2 => s2_.out (by rwa [gs_off (by decide)] at e) (by rwa [gs_off (by decide)] at e2), fun e e2 => s3_.out (by rwa [gs_off (by decide)] at e) (by rwa [gs_off (by decide)] at e2), fun e => s4_.out (by rwa [gs_off (by decide)] at e), fun e => ⟨by rw [gs_off (by decide)]; exact (c2_.out (by rwa [gs_off (by decide)] at e)).1, by rw [gs_off (by decide)]; exact (c2_.out (by rwa [gs_off (by decide)] at e)).2⟩, fun e => ⟨by rw [gs_off (by decide)]; exact (c6_.out (by rwa [gs_off (by decide)] at e)).1, by rw [gs_off (by decide)]; exact (c6_.out (by rwa [gs_off (by decide)] at e)).2.1, by rw [gs_off (by decide)]; exact (c6_.out (by rwa [gs_off (by decide)] at e)).2.2.1, by rw [gs_off (by decide)]; exact (c6_.out (by rwa [gs_off (by decide)] at e)).2.2.2.1, by rw [gs_off (by decide)]; exact (c6_.out (by rwa [gs_off (by decide)] at e)).2.2.2.2⟩, fun e => ⟨by rw [gs_off (by decide)]; exact (c7_.out (by rwa [gs_off (by decide)] at e)).1, by rw [gs_off (by decide)]; exact (c7_.out (by rwa [gs_off (by decide)] at e)).2.1, by rw [gs_off (by decide)]; exact (c7_.out (by rwa [gs_off (by decide)] at e)).2.2.1, by rw [gs_off (by decide)]; exact (c7_.out (by rwa [gs_off (by decide)] at e)).2.2.2.1, by rw [gs_off (by decide)]; exact (c7_.out (by rwa [gs_off (by decide)] at e)).2.2.2.2.1, by rw [gs_off (by decide)]; exact (c7_.out (by rwa [gs_off (by decide)] at e)).2.2.2.2.2⟩, fun e => (not_on hi (c8_.out (by rwa [gs_off (by decide)] at e)).2.2.2.2.2.1).elim, fun e => l0_.out (by rwa [gs_off (by decide)] at e), fun e => l1_.out (by rwa [gs_off (by decide)] at e), fun e => l2_.out (by rwa [gs_off (by decide)] at e), fun _ => rfl, fun e => l4_.out (by rwa [gs_off (by decide)] at e), fun e => l5_.out (by rwa [gs_off (by decide)] at e), fun e => l6_.out (by rwa [gs_off (by decide)] at e), fun e => l9_.out (by rwa [gs_off (by decide)] at e)⟩
            · unfold StepAt
              intro L a w1 KK hI hi ha hKK
              unfold IRV9 at hI
              obtain ⟨v46, v47, v48, v49, v50, v51, v52, v6, hae, hsz, s0_, s1_, s2_, s3_, s4_, c2_, c6_, c7_, c8_, l0_, l1_, l2_, l3_, l4_, l5_, l6_, l9_⟩ := hI
              obtain gld : w1.cell? ⟨w.heap.size + 1, 0, none⟩ = some (.bool neg3) := by
                cases h0 : L.getD 2 false
                · exact hcell.out _ (s0_ h0)
                · cases h1 : L.getD 6 false
                  · exact hcell.out _ (s1_ h0 h1).1
                  · exact (not_on hi (c6_ h1).1).elim
              have q3 := ha { on := 3, ground := Ground.data } (by simp) rfl
              have e3 := l3_ q3
              subst e3
              replace s0_ := Lib.hid s0_
              replace s1_ := Lib.hid s1_
              replace s2_ := Lib.hid s2_
              replace s3_ := Lib.hid s3_
              replace s4_ := Lib.hid s4_
              replace c2_ := Lib.hid c2_
              replace c6_ := Lib.hid c6_
              replace c7_ := Lib.hid c7_
              replace c8_ := Lib.hid c8_
              replace l0_ := Lib.hid l0_
              replace l1_ := Lib.hid l1_
              replace l2_ := Lib.hid l2_
              replace l3_ := Lib.hid l3_
              replace l4_ := Lib.hid l4_
              replace l5_ := Lib.hid l5_
              replace l6_ := Lib.hid l6_
              replace l9_ := Lib.hid l9_
              rw [hae]
              clear hae
              simp only [holeRV9, List.setIfInBounds_toArray, List.set_cons_zero, List.set_cons_succ]
              go_simp
              exact hKK _ _ ⟨v46, v47, v48, (.pointer (some ⟨w.heap.size + 1, 0, none⟩)), (.bool neg3), v51, v52, v6, (by simp only [holeRV9, Act.put, List.setIfInBounds_toArray, List.set_cons_zero, List.set_cons_succ]), by simpa using hsz, fun e2 => s0_.out (by rwa [gs_off (by decide)] at e2), fun e e2 => s1_.out (by rwa [gs_off (by decide)] at e) (by rwa [gs_off (by decide)] at e2), fun e e2 => s2_.out (by rwa [gs_off (by decide)] at e) (by rwa [gs_off (by decide)] at e2), fun e e2 => s3_.out (by rwa [gs_off (by decide)] at e) (by rwa [gs_off (by decide)] at e2), fun e => s4_.out (by rwa [gs_off (by decide)] at e), fun e => ⟨by rw [gs_off (by decide)]; exact (c2_.out (by rwa [gs_off (by decide)] at e)).1, by rw [gs_off (by decide)]; exact (c2_.out (by rwa [gs_off (by decide)] at e)).2⟩, fun e => (not_on hi (c6_.out (by rwa [gs_off (by decide)] at e)).1).elim, fun e => (not_on hi (c7_.out (by rwa [gs_off (by decide)] at e)).2.2.2.2.1).elim, fun e => (not_on hi (c8_.out (by rwa [gs_off (by decide)] at e)).2.2.2.2.2.2.1).elim, fun e => l0_.out (by rwa [gs_off (by decide)] at e), fun e => l1_.out (by rwa [gs_off (by decide)] at e), fun e => l2_.out (by rwa [gs_off (by decide)] at e), fun _ => rfl, fun _ => rfl, fun e => l5_.out (by rwa [gs_off (by decide)] at e), fun e => l6_.out (by rwa [gs_off (by decide)] at e), fun e => l9_.out (by rwa [gs_off (by decide)] at e)⟩
            · unfold StepAt
              intro L a w1 KK hI hi ha hKK
              unfold IRV9 at hI
              obtain ⟨v46, v47, v48, v49, v50, v51, v52, v6, hae, hsz, s0_, s1_, s2_, s3_, s4_, c2_, c6_, c7_, c8_, l0_, l1_, l2_, l3_, l4_, l5_, l6_, l9_⟩ := hI
              replace s0_ := Lib.hid s0_
              replace s1_ := Lib.hid s1_
              replace s2_ := Lib.hid s2_
              replace s3_ := Lib.hid s3_
              replace s4_ := Lib.hid s4_
              replace c2_ := Lib.hid c2_
              replace c6_ := Lib.hid c6_
              replace c7_ := Lib.hid c7_
              replace c8_ := Lib.hid c8_
              replace l0_ := Lib.hid l0_
              replace l1_ := Lib.hid l1_
              replace l2_ := Lib.hid l2_
              replace l3_ := Lib.hid l3_
              replace l4_ := Lib.hid l4_
              replace l5_ := Lib.hid l5_
              replace l6_ := Lib.hid l6_
              replace l9_ := Lib.hid l9_
              rw [hae]
              clear hae
              simp only [holeRV9, List.setIfInBounds_toArray, List.set_cons_zero, List.set_cons_succ]
              go_simp
              exact hKK _ _ ⟨v46, v47, v48, v49, v50, (.slice A8 n8 c8), v52, v6, (by simp only [holeRV9, Act.put, List.setIfInBounds_toArray, List.set_cons_zero, List.set_cons_succ]), by simpa using hsz, fun e2 => s0_.out (by rwa [gs_off (by decide)] at e2), fun e e2 => s1_.out (by rwa [gs_off (by decide)] at e) (by rwa [gs_off (by decide)] at e2), fun e e2 => s2_.out (by rwa [gs_off (by decide)] at e) (by rwa [gs_off (by decide)] at e2), fun e e2 => s3_.out (by rwa [gs_off (by decide)] at e) (by rwa [gs_off (by decide)] at e2), fun e => s4_.out (by rwa [gs_off (by decide)] at e), fun e => ⟨by rw [gs_off (by decide)]; exact (c2_.out (by rwa [gs_off (by decide)] at e)).1, by rw [gs_off (by decide)]; exact (c2_.out (by rwa [gs_off (by decide)] at e)).2⟩, fun e => (not_on hi (c6_.out (by rwa [gs_off (by decide)] at e)).2.1).elim, fun e => (not_on hi (c7_.out (by rwa [gs_off (by decide)] at e)).2.2.2.2.2).elim, fun e => (not_on hi (c8_.out (by rwa [gs_off (by decide)] at e)).2.2.2.2.2.2.2).elim, fun e => l0_.out (by rwa [gs_off (by decide)] at e), fun e => l1_.out (by rwa [gs_off (by decide)] at e), fun e => l2_.out (by rwa [gs_off (by decide)] at e), fun e => l3_.out (by rwa [gs_off (by decide)] at e), fun e => l4_.out (by rwa [gs_off (by decide)] at e), fun _ => rfl, fun e => l6_.out (by rwa [gs_off (by decide)] at e), fun e => l9_.out (by rwa [gs_off (by decide)] at e)⟩
            · unfold StepAt
              intro L a w1 KK hI hi ha hKK
              unfold IRV9 at hI
              obtain ⟨v46, v47, v48, v49, v50, v51, v52, v6, hae, hsz, s0_, s1_, s2_, s3_, s4_, c2_, c6_, c7_, c8_, l0_, l1_, l2_, l3_, l4_, l5_, l6_, l9_⟩ := hI
              have hoff : L.getD 6 false = false := by
                cases h : L.getD 6 false
                · rfl
                · exact (not_on hi h).elim
              have hon := ha { on := 2, ground := Ground.chain } (by simp) rfl
              have hP := s1_ hon hoff
              have q4 := ha { on := 4, ground := Ground.data } (by simp) rfl
              have e4 := l4_ q4
              subst e4
              have q5 := ha { on := 5, ground := Ground.data } (by simp) rfl
              have e5 := l5_ q5
              subst e5
              obtain ⟨hbl, hiv⟩ := hP
              replace s0_ := Lib.hid s0_
              replace s1_ := Lib.hid s1_
              replace s2_ := Lib.hid s2_
              replace s3_ := Lib.hid s3_
              replace s4_ := Lib.hid s4_
              replace c2_ := Lib.hid c2_
              replace c6_ := Lib.hid c6_
              replace c7_ := Lib.hid c7_
              replace c8_ := Lib.hid c8_
              replace l0_ := Lib.hid l0_
              replace l1_ := Lib.hid l1_
              replace l2_ := Lib.hid l2_
              replace l3_ := Lib.hid l3_
              replace l4_ := Lib.hid l4_
              replace l5_ := Lib.hid l5_
              replace l6_ := Lib.hid l6_
              replace l9_ := Lib.hid l9_
              rw [hae]
              clear hae
              simp only [holeRV9, List.setIfInBounds_toArray, List.set_cons_zero, List.set_cons_succ]
              replace hKK := Lib.hid hKK
              go_wp2_with (go_at_call 52; refine (signed_mm neg3 _ _ _ _ _ w1 (hr8.below hbl) (by omega)).mono ?_; rintro e w7 ⟨neg7, A17, n17, c17, rfl, hi7, hb17⟩)
              exact hKK.out _ _ ⟨v46, v47, v48, v49, (.bool neg3), (.slice A8 n8 c8), (.agg #[.bool neg7, .slice A17 n17 c17]), v6, (by simp only [holeRV9, Act.put, List.setIfInBounds_toArray, List.set_cons_zero, List.set_cons_succ]), by simpa using hsz, fun e => by (have t := ha { on := 2, ground := Ground.chain } (by simp) rfl; rw [gs_off (by decide)] at e; rw [e] at t; cases t), fun _ e => by (exfalso; revert e; simp [Array.getD_eq_getD_getElem?, hsz]), fun _ _ => ⟨hbl.trans (hb17.mono hbl.size), hiv.below hb17, _, _, _, _, rfl, hi7.mono (by omega)⟩, fun e _ => (not_on hi (c7_.out (by rwa [gs_off (by decide)] at e)).2.1).elim, fun e => (not_on hi (c8_.out (by rwa [gs_off (by decide)] at e)).1).elim, fun e => ⟨by rw [gs_off (by decide)]; exact (c2_.out (by rwa [gs_off (by decide)] at e)).1, by rw [gs_off (by decide)]; exact (c2_.out (by rwa [gs_off (by decide)] at e)).2⟩, fun _ => ⟨by rw [gs_off (by decide)]; exact ha { on := 4, ground := Ground.data } (by simp) rfl, by rw [gs_off (by decide)]; exact ha { on := 5, ground := Ground.data } (by simp) rfl, by rw [gs_off (by decide)]; exact ha { on := 2, ground := Ground.chain } (by simp) rfl, by rw [gs_off (by decide)]; exact (c2_.out (ha { on := 2, ground := Ground.chain } (by simp) rfl)).1, by rw [gs_off (by decide)]; exact (c2_.out (ha { on := 2, ground := Ground.chain } (by simp) rfl)).2⟩, fun e => (not_on hi (c7_.out (by rwa [gs_off (by decide)] at e)).2.1).elim, fun e => (not_on hi (c8_.out (by rwa [gs_off (by decide)] at e)).1).elim, fun e => l0_.out (by rwa [gs_off (by decide)] at e), fun e => l1_.out (by rwa [gs_off (by decide)] at e), fun e => l2_.out (by rwa [gs_off (by decide)] at e), fun e => l3_.out (by rwa [gs_off (by decide)] at e), fun _ => rfl, fun _ => rfl, fun _ => trivial, fun e => l9_.out (by rwa [gs_off (by decide)] at e)⟩
            · unfold StepAt
              intro L a w1 KK hI hi ha hKK
              unfold IRV9 at hI
              obtain ⟨v46, v47, v48, v49, v50, v51, v52, v6, hae, hsz, s0_, s1_, s2_, s3_, s4_, c2_, c6_, c7_, c8_, l0_, l1_, l2_, l3_, l4_, l5_, l6_, l9_⟩ := hI
              have hoff : L.getD 7 false = false := by
                cases h : L.getD 7 false
                · rfl
                · exact (not_on hi h).elim
              have hon := ha { on := 6, ground := Ground.chain } (by simp) rfl
              have hP := s2_ hon hoff
              have q2 := ha { on := 2, ground := Ground.data } (by simp) rfl
              have e2 := l2_ q2
              obtain ⟨hbl, ⟨b, A9, n9, c9, e48, hi48⟩, hiv52⟩ := hP
              subst e48
              obtain ⟨x1, x2, x3, x4, x5⟩ := hbox3.out _ hbl
              replace s0_ := Lib.hid s0_
              replace s1_ := Lib.hid s1_
              replace s2_ := Lib.hid s2_
              replace s3_ := Lib.hid s3_
              replace s4_ := Lib.hid s4_
              replace c2_ := Lib.hid c2_
              replace c6_ := Lib.hid c6_
              replace c7_ := Lib.hid c7_
              replace c8_ := Lib.hid c8_
              replace l0_ := Lib.hid l0_
              replace l1_ := Lib.hid l1_
              replace l2_ := Lib.hid l2_
              replace l3_ := Lib.hid l3_
              replace l4_ := Lib.hid l4_
              replace l5_ := Lib.hid l5_
              replace l6_ := Lib.hid l6_
              replace l9_ := Lib.hid l9_
              rw [hae]
              clear hae
              simp only [holeRV9, List.setIfInBounds_toArray, List.set_cons_zero, List.set_cons_succ]
              go_simp
              exact hKK _ _ ⟨v46, v47, (.agg #[.bool b, .slice A9 n9 c9]), v49, v50, v51, v52, v6, (by simp only [holeRV9, Act.put, List.setIfInBounds_toArray, List.set_cons_zero, List.set_cons_succ]), by simpa using hsz, fun e => by (have t := ha { on := 2, ground := Ground.data } (by simp) rfl; rw [gs_off (by decide)] at e; rw [e] at t; cases t), fun _ e => by (have t := ha { on := 6, ground := Ground.chain } (by simp) rfl; rw [gs_off (by decide)] at e; rw [e] at t; cases t), fun _ e => by (exfalso; revert e; simp [Array.getD_eq_getD_getElem?, hsz]), fun _ _ => ⟨w1, b, A9, n9, c9, ⟨hbl, hi48, hiv52⟩, rfl⟩, fun e => (not_on hi (c8_.out (by rwa [gs_off (by decide)] at e)).2.1).elim, fun e => ⟨by rw [gs_off (by decide)]; exact (c2_.out (by rwa [gs_off (by decide)] at e)).1, by rw [gs_off (by decide)]; exact (c2_.out (by rwa [gs_off (by decide)] at e)).2⟩, fun e => ⟨by rw [gs_off (by decide)]; exact (c6_.out (by rwa [gs_off (by decide)] at e)).1, by rw [gs_off (by decide)]; exact (c6_.out (by rwa [gs_off (by decide)] at e)).2.1, by rw [gs_off (by decide)]; exact (c6_.out (by rwa [gs_off (by decide)] at e)).2.2.1, by rw [gs_off (by decide)]; exact (c6_.out (by rwa [gs_off (by decide)] at e)).2.2.2.1, by rw [gs_off (by decide)]; exact (c6_.out (by rwa [gs_off (by decide)] at e)).2.2.2.2⟩, fun _ => ⟨by rw [gs_off (by decide)]; exact ha { on := 2, ground := Ground.data } (by simp) rfl, by rw [gs_off (by decide)]; exact ha { on := 6, ground := Ground.chain } (by simp) rfl, by rw [gs_off (by decide)]; exact ha { on := 0, ground := Ground.phase } (by simp) rfl, by rw [gs_off (by decide)]; exact ha { on := 1, ground := Ground.phase } (by simp) rfl, by rw [gs_off (by decide)]; exact (c6_.out (ha { on := 6, ground := Ground.chain } (by simp) rfl)).1, by rw [gs_off (by decide)]; exact (c6_.out (ha { on := 6, ground := Ground.chain } (by simp) rfl)).2.1⟩, fun e => (not_on hi (c8_.out (by rwa [gs_off (by decide)] at e)).2.1).elim, fun e => l0_.out (by rwa [gs_off (by decide)] at e), fun e => l1_.out (by rwa [gs_off (by decide)] at e), fun _ => trivial, fun e => l3_.out (by rwa [gs_off (by decide)] at e), fun e => l4_.out (by rwa [gs_off (by decide)] at e), fun e => l5_.out (by rwa [gs_off (by decide)] at e), fun e => l6_.out (by rwa [gs_off (by decide)] at e), fun e => l9_.out (by rwa [gs_off (by decide)] at e)⟩
            · unfold StepAt
              intro L a w1 KK hI hi ha hKK
              unfold IRV9 at hI
              obtain ⟨v46, v47, v48, v49, v50, v51, v52, v6, hae, hsz, s0_, s1_, s2_, s3_, s4_, c2_, c6_, c7_, c8_, l0_, l1_, l2_, l3_, l4_, l5_, l6_, l9_⟩ := hI
              have hoff : L.getD 8 false = false := by
                cases h : L.getD 8 false
                · rfl
                · exact (not_on hi h).elim
              have hon := ha { on := 7, ground := Ground.chain } (by simp) rfl
              have hP := s3_ hon hoff
              have q6 := ha { on := 6, ground := Ground.data } (by simp) rfl
              have e6 := l6_ q6
              obtain ⟨w8, b, A9, n9, c9, ⟨hbl, hi48, ⟨b2, A10, n10, c10, e52, hi52⟩⟩, hw1⟩ := hP
              subst e52
              obtain ⟨x1, x2, x3, x4, x5⟩ : Bx w1 (w.heap.size + 1 + 1 + 1) (.bool false) (.slice none 0 0) := by
                rw [hw1]
                exact ((hbox4.out _ hbl).far (by dsimp only; omega) _).far (by dsimp only; omega) _
              replace hw1 := Lib.hid hw1
              replace s0_ := Lib.hid s0_
              replace s1_ := Lib.hid s1_
              replace s2_ := Lib.hid s2_
              replace s3_ := Lib.hid s3_
              replace s4_ := Lib.hid s4_
              replace c2_ := Lib.hid c2_
              replace c6_ := Lib.hid c6_
              replace c7_ := Lib.hid c7_
              replace c8_ := Lib.hid c8_
              replace l0_ := Lib.hid l0_
              replace l1_ := Lib.hid l1_
              replace l2_ := Lib.hid l2_
              replace l3_ := Lib.hid l3_
              replace l4_ := Lib.hid l4_
              replace l5_ := Lib.hid l5_
              replace l6_ := Lib.hid l6_
              replace l9_ := Lib.hid l9_
              rw [hae]
              clear hae
              simp only [holeRV9, List.setIfInBounds_toArray, List.set_cons_zero, List.set_cons_succ]
              go_simp
              exact hKK _ _ ⟨v46, v47, v48, v49, v50, v51, (.agg #[.bool b2, .slice A10 n10 c10]), v6, (by simp only [holeRV9, Act.put, List.setIfInBounds_toArray, List.set_cons_zero, List.set_cons_succ]), by simpa using hsz, fun e => by (have t := ha { on := 2, ground := Ground.phase } (by simp) rfl; rw [gs_off (by decide)] at e; rw [e] at t; cases t), fun _ e => by (have t := ha { on := 6, ground := Ground.data } (by simp) rfl; rw [gs_off (by decide)] at e; rw [e] at t; cases t), fun _ e => by (have t := ha { on := 7, ground := Ground.chain } (by simp) rfl; rw [gs_off (by decide)] at e; rw [e] at t; cases t), fun _ e => by (exfalso; revert e; simp [Array.getD_eq_getD_getElem?, hsz]), fun _ => ⟨w8, b, A9, n9, c9, b2, A10, n10, c10, ⟨hbl, hi48, hi52⟩, by rw [hw1.out]⟩, fun e => ⟨by rw [gs_off (by decide)]; exact (c2_.out (by rwa [gs_off (by decide)] at e)).1, by rw [gs_off (by decide)]; exact (c2_.out (by rwa [gs_off (by decide)] at e)).2⟩, fun e => ⟨by rw [gs_off (by decide)]; exact (c6_.out (by rwa [gs_off (by decide)] at e)).1, by rw [gs_off (by decide)]; exact (c6_.out (by rwa [gs_off (by decide)] at e)).2.1, by rw [gs_off (by decide)]; exact (c6_.out (by rwa [gs_off (by decide)] at e)).2.2.1, by rw [gs_off (by decide)]; exact (c6_.out (by rwa [gs_off (by decide)] at e)).2.2.2.1, by rw [gs_off (by decide)]; exact (c6_.out (by rwa [gs_off (by decide)] at e)).2.2.2.2⟩, fun e => ⟨by rw [gs_off (by decide)]; exact (c7_.out (by rwa [gs_off (by decide)] at e)).1, by rw [gs_off (by decide)]; exact (c7_.out (by rwa [gs_off (by decide)] at e)).2.1, by rw [gs_off (by decide)]; exact (c7_.out (by rwa [gs_off (by decide)] at e)).2.2.1, by rw [gs_off (by decide)]; exact (c7_.out (by rwa [gs_off (by decide)] at e)).2.2.2.1, by rw [gs_off (by decide)]; exact (c7_.out (by rwa [gs_off (by decide)] at e)).2.2.2.2.1, by rw [gs_off (by decide)]; exact (c7_.out (by rwa [gs_off (by decide)] at e)).2.2.2.2.2⟩, fun _ => ⟨by rw [gs_off (by decide)]; exact ha { on := 6, ground := Ground.data } (by simp) rfl, by rw [gs_off (by decide)]; exact ha { on := 7, ground := Ground.chain } (by simp) rfl, by rw [gs_off (by decide)]; exact ha { on := 0, ground := Ground.phase } (by simp) rfl, by rw [gs_off (by decide)]; exact ha { on := 1, ground := Ground.phase } (by simp) rfl, by rw [gs_off (by decide)]; exact ha { on := 2, ground := Ground.phase } (by simp) rfl, by rw [gs_off (by decide)]; exact ha { on := 3, ground := Ground.phase } (by simp) rfl, by rw [gs_off (by decide)]; exact ha { on := 4, ground := Ground.phase } (by simp) rfl, by rw [gs_off (by decide)]; exact ha { on := 5, ground := Ground.phase } (by simp) rfl⟩, fun e => l0_.out (by rwa [gs_off (by decide)] at e), fun e => l1_.out (by rwa [gs_off (by decide)] at e), fun e => l2_.out (by rwa [gs_off (by decide)] at e), fun e => l3_.out (by rwa [gs_off (by decide)] at e), fun e => l4_.out (by rwa [gs_off (by decide)] at e), fun e => l5_.out (by rwa [gs_off (by decide)] at e), fun _ => trivial, fun e => l9_.out (by rwa [gs_off (by decide)] at e)⟩
            · unfold StepAt
              intro L a w1 KK hI hi ha hKK
              unfold IRV9 at hI
              obtain ⟨v46, v47, v48, v49, v50, v51, v52, v6, hae, hsz, s0_, s1_, s2_, s3_, s4_, c2_, c6_, c7_, c8_, l0_, l1_, l2_, l3_, l4_, l5_, l6_, l9_⟩ := hI
              replace s0_ := Lib.hid s0_
              replace s1_ := Lib.hid s1_
              replace s2_ := Lib.hid s2_
              replace s3_ := Lib.hid s3_
              replace s4_ := Lib.hid s4_
              replace c2_ := Lib.hid c2_
              replace c6_ := Lib.hid c6_
              replace c7_ := Lib.hid c7_
              replace c8_ := Lib.hid c8_
              replace l0_ := Lib.hid l0_
              replace l1_ := Lib.hid l1_
              replace l2_ := Lib.hid l2_
              replace l3_ := Lib.hid l3_
              replace l4_ := Lib.hid l4_
              replace l5_ := Lib.hid l5_
              replace l6_ := Lib.hid l6_
              replace l9_ := Lib.hid l9_
              rw [hae]
              clear hae
              simp only [holeRV9, List.setIfInBounds_toArray, List.set_cons_zero, List.set_cons_succ]
              go_simp
              exact hKK _ _ ⟨v46, v47, v48, v49, v50, v51, v52, (.int .i64 0), (by simp only [holeRV9, Act.put, List.setIfInBounds_toArray, List.set_cons_zero, List.set_cons_succ]), by simpa using hsz, fun e2 => s0_.out (by rwa [gs_off (by decide)] at e2), fun e e2 => s1_.out (by rwa [gs_off (by decide)] at e) (by rwa [gs_off (by decide)] at e2), fun e e2 => s2_.out (by rwa [gs_off (by decide)] at e) (by rwa [gs_off (by decide)] at e2), fun e e2 => s3_.out (by rwa [gs_off (by decide)] at e) (by rwa [gs_off (by decide)] at e2), fun e => s4_.out (by rwa [gs_off (by decide)] at e), fun e => ⟨by rw [gs_off (by decide)]; exact (c2_.out (by rwa [gs_off (by decide)] at e)).1, by rw [gs_off (by decide)]; exact (c2_.out (by rwa [gs_off (by decide)] at e)).2⟩, fun e => ⟨by rw [gs_off (by decide)]; exact (c6_.out (by rwa [gs_off (by decide)] at e)).1, by rw [gs_off (by decide)]; exact (c6_.out (by rwa [gs_off (by decide)] at e)).2.1, by rw [gs_off (by decide)]; exact (c6_.out (by rwa [gs_off (by decide)] at e)).2.2.1, by rw [gs_off (by decide)]; exact (c6_.out (by rwa [gs_off (by decide)] at e)).2.2.2.1, by rw [gs_off (by decide)]; exact (c6_.out (by rwa [gs_off (by decide)] at e)).2.2.2.2⟩, fun e => ⟨by rw [gs_off (by decide)]; exact (c7_.out (by rwa [gs_off (by decide)] at e)).1, by rw [gs_off (by decide)]; exact (c7_.out (by rwa [gs_off (by decide)] at e)).2.1, by rw [gs_off (by decide)]; exact (c7_.out (by rwa [gs_off (by decide)] at e)).2.2.1, by rw [gs_off (by decide)]; exact (c7_.out (by rwa [gs_off (by decide)] at e)).2.2.2.1, by rw [gs_off (by decide)]; exact (c7_.out (by rwa [gs_off (by decide)] at e)).2.2.2.2.1, by rw [gs_off (by decide)]; exact (c7_.out (by rwa [gs_off (by decide)] at e)).2.2.2.2.2⟩, fun e => ⟨by rw [gs_off (by decide)]; exact (c8_.out (by rwa [gs_off (by decide)] at e)).1, by rw [gs_off (by decide)]; exact (c8_.out (by rwa [gs_off (by decide)] at e)).2.1, by rw [gs_off (by decide)]; exact (c8_.out (by rwa [gs_off (by decide)] at e)).2.2.1, by rw [gs_off (by decide)]; exact (c8_.out (by rwa [gs_off (by decide)] at e)).2.2.2.1, by rw [gs_off (by decide)]; exact (c8_.out (by rwa [gs_off (by decide)] at e)).2.2.2.2.1, by rw [gs_off (by decide)]; exact (c8_.out (by rwa [gs_off (by decide)] at e)).2.2.2.2.2.1, by rw [gs_off (by decide)]; exact (c8_.out (by rwa [gs_off (by decide)] at e)).2.2.2.2.2.2.1, by rw [gs_off (by decide)]; exact (c8_.out (by rwa [gs_off (by decide)] at e)).2.2.2.2.2.2.2⟩, fun e => l0_.out (by rwa [gs_off (by decide)] at e), fun e => l1_.out (by rwa [gs_off (by decide)] at e), fun e => l2_.out (by rwa [gs_off (by decide)] at e), fun e => l3_.out (by rwa [gs_off (by decide)] at e), fun e => l4_.out (by rwa [gs_off (by decide)] at e), fun e => l5_.out (by rwa [gs_off (by decide)] at e), fun e => l6_.out (by rwa [gs_off (by decide)] at e), fun _ => rfl⟩
          · intro L a w1 hI hall
            unfold IRV9 at hI
            obtain ⟨v46, v47, v48, v49, v50, v51, v52, v6, hae, hsz, s0_, s1_, s2_, s3_, s4_, c2_, c6_, c7_, c8_, l0_, l1_, l2_, l3_, l4_, l5_, l6_, l9_⟩ := hI
            have hP := s4_ (hall 8 (by decide))
            have e9 := l9_ (hall 9 (by decide))
            subst e9
            rw [hae]
            clear hae hsz s0_ s1_ s2_ s3_ s4_ c2_ c6_ c7_ c8_ l0_ l1_ l2_ l3_ l4_ l5_ l6_ hall
            simp only [holeRV9, List.setIfInBounds_toArray, List.set_cons_zero, List.set_cons_succ]
            obtain ⟨w8, b, A9, n9, c9, b2, A10, n10, c10, ⟨hbl, hi48, hi52⟩, hw1⟩ := hP
            have x3 := hbox3.out _ hbl
            have x4 := hbox4.out _ hbl
            have y3 : Bx w1 (w.heap.size + 1 + 1) (.bool b) (.slice A9 n9 c9) := by
              rw [hw1]
              exact ((x3.set _ _).far (by dsimp only; omega) _).far (by dsimp only; omega) _
            have y4 : Bx w1 (w.heap.size + 1 + 1 + 1) (.bool b2) (.slice A10 n10 c10) := by
              rw [hw1]
              exact Bx.set ((x4.far (by dsimp only; omega) _).far (by dsimp only; omega) _) _ _
            have z1 : II w1 b A9 n9 c9 (dq x y) (k + 2) := by
              rw [hw1, ← hq5]
              exact hi48.store4 x3.1 x3.2.1 x4.1 x4.2.1 (by omega) _ _ _ _
            have z2 : II w1 b2 A10 n10 c10 (dr x y) (k + 1) := by
              rw [hw1, ← hr5]
              exact hi52.store4 x3.1 x3.2.1 x4.1 x4.2.1 (by omega) _ _ _ _
            have hbW : Below w.heap.size w w1 := by
              rw [hw1]
              repeat (first | exact hb10.trans (hbl.mono hb10.size) | refine Below.setCell ?_ (by dsimp only; omega) _)
            obtain ⟨k5, k6, -, -, -⟩ := y3
            obtain ⟨k7, k8, -, -, -⟩ := y4
            replace hw1 := Lib.hid hw1
            refine hKQ _ _ ?_
            go_wp2
            refine bodyPost_ret (v := .tuple #[.agg #[.bool b, .slice A9 n9 c9], .agg #[.bool b2, .slice A10 n10 c10], .int .i64 0]) (by simp [results, Tryd.results36, go_sem, k5, k6, k7, k8]) rfl ?_
            exact ⟨_, _, _, _, _, _, _, _, _, rfl, hbW, .inr ⟨hy0, rfl, z1, z2⟩⟩

end Go.Proofs.YtabibkhcdamlhaaDoor
