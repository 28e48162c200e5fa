/-
  Walk over the reference: Divide.
-/
import Derived.Test.YtabibkhcdamlhaaDoorRpt
import Derived.Test.YtabibkhcdamlhaaDoorDiv
import Derived.Test.YtabibkhcdamlhaaDoorOfR
import Derived.Test.YtabibkhcdamlhaaDoorU
import Derived.Test.YtabibkhcdamlhaaDoorT
set_option linter.unusedSimpArgs false
set_option linter.unusedVariables false
namespace Go.Proofs.YtabibkhcdamlhaaDoor
open Go.RowKit Num

/-- parts. -/
theorem rparts_any (A : Option Addr) (na ca m ka : Nat) (A2 : Option Addr) (n cb d kd : Nat) (w : World) (ha : MM w A na ca m ka) (hb : MM w A2 n cb d kd) (hka : ka ≤ 1000000) (hkd : kd ≤ 1000000) (hd : 0 < d) :
    Calls Tryd.prog 72 #[.slice A na ca, .slice A2 n cb] w (RetP w m d ka kd) := by
  by_cases h1 : n = 1
  · subst h1; exact rparts_one A na ca m ka A2 cb d kd w ha hb hka hd
  · by_cases hlt : m < d
    · exact rparts_less A na ca m ka A2 n cb d kd w ha hb hka h1 hlt
    · exact rparts_long A na ca m ka A2 n cb d kd w ha hb hka hkd h1 hd (by omega)

/-- The frame with what the region writes into its slots. -/
def holeRD7 (a : Act) (v45 v46 v47 : Value) : Act := { a with tmps := (((a.tmps.setIfInBounds 45 v45).setIfInBounds 46 v46).setIfInBounds 47 v47) }
/-- What stands while the region is under way. -/
def IRD7 (W0 : World) (g kq : Nat) (zq : Int) (x45 : Value) (a0 : Act) (L : Array Bool) (a : Act) (w : World) : Prop :=
  ∃ v45 v46 v47, a = holeRD7 a0 v45 v46 v47 ∧ L.size = 4 ∧ (L.getD 1 false = false → Below W0.heap.size W0 w) ∧ (L.getD 1 false = true → L.getD 2 false = false → Below W0.heap.size W0 w ∧ IV w v46 1 3) ∧ (L.getD 2 false = true → L.getD 3 false = false → Below W0.heap.size W0 w ∧ IV w v47 zq kq) ∧ (L.getD 3 false = true → ∃ w8 b A n c, (Below W0.heap.size W0 w8 ∧ II w8 b A n c zq kq) ∧ w = (w8.setCell ⟨g, 0, none⟩ (.bool b)).setCell ⟨g, 1, none⟩ (.slice A n c)) ∧ (L.getD 2 false = true → L.getD 0 false = true ∧ L.getD 1 false = true) ∧ (L.getD 3 false = true → L.getD 2 false = true ∧ L.getD 0 false = true ∧ L.getD 1 false = true) ∧ (L.getD 0 false = true → v45 = x45) ∧ (L.getD 1 false = true → True) ∧ (L.getD 2 false = true → True)

/-- The frame with what the region writes into its slots. -/
def holeRD8 (a : Act) (v48 v49 v50 v51 v52 v53 v6 : Value) : Act := { a with tmps := (((((((a.tmps.setIfInBounds 48 v48).setIfInBounds 49 v49).setIfInBounds 50 v50).setIfInBounds 51 v51).setIfInBounds 52 v52).setIfInBounds 53 v53).setIfInBounds 6 v6) }
/-- What stands while the region is under way. -/
def IRD8 (W0 : World) (s kp kr : Nat) (zp zr : Int) (bq : Bool) (Aq : Option Addr) (nq cq : Nat) (x48 x49 x50 x51 x6 : Value) (a0 : Act) (L : Array Bool) (a : Act) (w : World) : Prop :=
  ∃ v48 v49 v50 v51 v52 v53 v6, a = holeRD8 a0 v48 v49 v50 v51 v52 v53 v6 ∧ L.size = 9 ∧ (L.getD 4 false = false → Below W0.heap.size W0 w) ∧ (L.getD 4 false = true → L.getD 5 false = false → Below W0.heap.size W0 w ∧ IV w v52 zp kp) ∧ (L.getD 5 false = true → L.getD 6 false = false → Below W0.heap.size W0 w ∧ IV w v53 zr kr) ∧ (L.getD 6 false = true → L.getD 7 false = false → ∃ w8, (Below W0.heap.size W0 w8 ∧ IV w8 v53 zr kr) ∧ w = (w8.setCell ⟨s + 1 + 1, 0, none⟩ (.bool bq)).setCell ⟨s + 1 + 1, 1, none⟩ (.slice Aq nq cq)) ∧ (L.getD 7 false = true → ∃ w8 b A n c, (Below W0.heap.size W0 w8 ∧ II w8 b A n c zr kr) ∧ w = (((w8.setCell ⟨s + 1 + 1, 0, none⟩ (.bool bq)).setCell ⟨s + 1 + 1, 1, none⟩ (.slice Aq nq cq)).setCell ⟨s + 1 + 1 + 1, 0, none⟩ (.bool b)).setCell ⟨s + 1 + 1 + 1, 1, none⟩ (.slice A n c)) ∧ (L.getD 4 false = true → L.getD 2 false = true ∧ L.getD 3 false = true) ∧ (L.getD 5 false = true → L.getD 1 false = true ∧ L.getD 4 false = true ∧ L.getD 2 false = true ∧ L.getD 3 false = true) ∧ (L.getD 6 false = true → L.getD 0 false = true ∧ L.getD 5 false = true ∧ L.getD 1 false = true ∧ L.getD 4 false = true ∧ L.getD 2 false = true ∧ L.getD 3 false = true) ∧ (L.getD 7 false = true → L.getD 5 false = true ∧ L.getD 6 false = true ∧ L.getD 0 false = true ∧ L.getD 1 false = true ∧ L.getD 2 false = true ∧ L.getD 3 false = true ∧ L.getD 4 false = true) ∧ (L.getD 0 false = true → v48 = x48) ∧ (L.getD 1 false = true → v49 = x49) ∧ (L.getD 2 false = true → v50 = x50) ∧ (L.getD 3 false = true → v51 = x51) ∧ (L.getD 4 false = true → True) ∧ (L.getD 5 false = true → True) ∧ (L.getD 8 false = true → v6 = x6)

set_option maxRecDepth 100000 in
set_option maxHeartbeats 8000000 in
/-- Divide of the reference. -/
theorem rDivide_any (neg : Bool) (A : Option Addr) (n c : Nat) (x : Int) (neg2 : Bool) (A2 : Option Addr) (n2 c2 : Nat) (y : Int) (k : Nat) (w : World) (hx : VI w neg A n c x k) (hy : VI w neg2 A2 n2 c2 y k) (hk : k ≤ 100000) :
    Calls Tryd.prog 37 #[.agg #[.bool neg, .slice A n c], .agg #[.bool neg2, .slice A2 n2 c2]] w (RetV w x y (k + 4) (2 * k + 8)) := by
  have hb0 := ((((Below.refl w.heap.size w).alloc (Nat.le_refl _) (.cells #[.bool neg, .slice A n c] 24)).alloc (by simp) (.cells #[.bool neg2, .slice A2 n2 c2] 24)).alloc (by simp <;> omega) (.cells #[.bool false, .slice none 0 0] 24)).alloc (by simp <;> omega) (.cells #[.bool false, .slice none 0 0] 24)
  have tok1 : True := trivial
  go_enter Tryd.func37, Tryd.ntmps37
  go_wp2
  go_region_with (first | (go_at_call 13; have _t := tok1; clear tok1 _t; (refine (Value_any _ _ _ _ x k _ (hx.below (by first | exact hb0 | exact hb0.drew)) (by omega)).mono ?_; rintro e w1 ⟨neg1, A1, n1, c1, rfl, hi1, hb2⟩; replace hb2 := undrew hb2; have hbw1 := hb0.trans (hb2.mono (by simp <;> omega)); obtain ⟨⟨d1, d2, e1, e2, hs1⟩, ⟨d3, d4, e3, e4, hs2⟩, ⟨d5, d6, e5, e6, hs3⟩, ⟨d7, d8, e7, e8, hs4⟩⟩ := boxes hb2)) | (go_at_call 13; refine (Value_any _ _ _ _ y k _ (hy.below (by first | exact hbw1 | exact hbw1.drew)) (by omega)).mono ?_; rintro e w2 ⟨neg3, A3, n3, c3, rfl, hi2, hb3⟩; replace hi1 := hi1.below (by first | exact hb3 | exact undrew hb3); have hb4 := btr hb2 hb3; have hbw2 := hb0.trans (hb4.mono (by simp <;> omega)); clear d1 d2 d3 d4 d5 d6 d7 d8 e1 e2 e3 e4 e5 e6 e7 e8 hs1 hs2 hs3 hs4; obtain ⟨⟨d1, d2, e1, e2, hs1⟩, ⟨d3, d4, e3, e4, hs2⟩, ⟨d5, d6, e5, e6, hs3⟩, ⟨d7, d8, e7, e8, hs4⟩⟩ := boxes hb4))
  all_goals
    have z1 : Bx w2 w.heap.size (.bool neg) (.slice A n c) := ⟨d1, d2, e1, e2, hs1⟩
    have z2 : Bx w2 (w.heap.size + 1) (.bool neg2) (.slice A2 n2 c2) := ⟨d3, d4, e3, e4, hs2⟩
    have q1 : Bx ((((w2.setCell ⟨w.heap.size, 0, none⟩ (.bool neg1)).setCell ⟨w.heap.size, 1, none⟩ (.slice A1 n1 c1)).setCell ⟨w.heap.size + 1, 0, none⟩ (.bool neg3)).setCell ⟨w.heap.size + 1, 1, none⟩ (.slice A3 n3 c3)) w.heap.size (.bool neg1) (.slice A1 n1 c1) := ((Bx.set z1 _ _).far (by simp) _).far (by simp) _
    have q2 : Bx ((((w2.setCell ⟨w.heap.size, 0, none⟩ (.bool neg1)).setCell ⟨w.heap.size, 1, none⟩ (.slice A1 n1 c1)).setCell ⟨w.heap.size + 1, 0, none⟩ (.bool neg3)).setCell ⟨w.heap.size + 1, 1, none⟩ (.slice A3 n3 c3)) (w.heap.size + 1) (.bool neg3) (.slice A3 n3 c3) := Bx.set ((z2.far (by simp) _).far (by simp) _) _ _
    have q3 : Bx ((((w2.setCell ⟨w.heap.size, 0, none⟩ (.bool neg1)).setCell ⟨w.heap.size, 1, none⟩ (.slice A1 n1 c1)).setCell ⟨w.heap.size + 1, 0, none⟩ (.bool neg3)).setCell ⟨w.heap.size + 1, 1, none⟩ (.slice A3 n3 c3)) (w.heap.size + 1 + 1) (.bool false) (.slice none 0 0) :=
      ((((show Bx w2 (w.heap.size + 1 + 1) _ _ from ⟨d5, d6, e5, e6, hs3⟩).far (by dsimp only; omega) _).far (by dsimp only; omega) _).far (by dsimp only; omega) _).far (by dsimp only; omega) _
    have q4 : Bx ((((w2.setCell ⟨w.heap.size, 0, none⟩ (.bool neg1)).setCell ⟨w.heap.size, 1, none⟩ (.slice A1 n1 c1)).setCell ⟨w.heap.size + 1, 0, none⟩ (.bool neg3)).setCell ⟨w.heap.size + 1, 1, none⟩ (.slice A3 n3 c3)) (w.heap.size + 1 + 1 + 1) (.bool false) (.slice none 0 0) :=
      ((((show Bx w2 (w.heap.size + 1 + 1 + 1) _ _ from ⟨d7, d8, e7, e8, hs4⟩).far (by dsimp only; omega) _).far (by dsimp only; omega) _).far (by dsimp only; omega) _).far (by dsimp only; omega) _
    have i1 : II ((((w2.setCell ⟨w.heap.size, 0, none⟩ (.bool neg1)).setCell ⟨w.heap.size, 1, none⟩ (.slice A1 n1 c1)).setCell ⟨w.heap.size + 1, 0, none⟩ (.bool neg3)).setCell ⟨w.heap.size + 1, 1, none⟩ (.slice A3 n3 c3)) neg1 A1 n1 c1 x k := (hi1.set z1 _ _).set ((z2.far (by simp) _).far (by simp) _) _ _
    have i3 : II ((((w2.setCell ⟨w.heap.size, 0, none⟩ (.bool neg1)).setCell ⟨w.heap.size, 1, none⟩ (.slice A1 n1 c1)).setCell ⟨w.heap.size + 1, 0, none⟩ (.bool neg3)).setCell ⟨w.heap.size + 1, 1, none⟩ (.slice A3 n3 c3)) neg3 A3 n3 c3 y k := (hi2.set z1 _ _).set ((z2.far (by simp) _).far (by simp) _) _ _
    have hbX : Below w.heap.size w ((((w2.setCell ⟨w.heap.size, 0, none⟩ (.bool neg1)).setCell ⟨w.heap.size, 1, none⟩ (.slice A1 n1 c1)).setCell ⟨w.heap.size + 1, 0, none⟩ (.bool neg3)).setCell ⟨w.heap.size + 1, 1, none⟩ (.slice A3 n3 c3)) := by
      repeat (first | exact hbw2 | refine Below.setCell ?_ (by simp) _)
    clear d1 d2 d3 d4 d5 d6 d7 d8 e1 e2 e3 e4 e5 e6 e7 e8 hs1 hs2 hs3 hs4 hb2 hb3 hb4 hbw1 hbw2 hb0 z1 z2
    generalize (((w2.setCell ⟨w.heap.size, 0, none⟩ (.bool neg1)).setCell ⟨w.heap.size, 1, none⟩ (.slice A1 n1 c1)).setCell ⟨w.heap.size + 1, 0, none⟩ (.bool neg3)).setCell ⟨w.heap.size + 1, 1, none⟩ (.slice A3 n3 c3) = X at q1 q2 q3 q4 i1 i3 hbX ⊢
    have m1 := i1.mm
    have m2 := i3.mm
    have s1 := Lib.hid (neg_dec i1)
    have s2 := Lib.hid (neg_dec i3)
    have hz := i3.len_zero
    clear hi1 hi2 w1 w2 hx hy
    obtain ⟨g1, g2, f1, f2, hsX1⟩ := id q1
    obtain ⟨g3, g4, f3, f4, hsX2⟩ := id q2
    by_cases hy0 : y = 0
    · have hn0 : n3 = 0 := hz.2 hy0
      subst hn0
      obtain ⟨g5, g6, f5, f6, hsX3⟩ := q3
      obtain ⟨g7, g8, f7, f8, hsX4⟩ := q4
      clear hz
      go_wp2
      refine bodyPost_ret (v := .tuple #[.agg #[.bool false, .slice none 0 0], .agg #[.bool false, .slice none 0 0], .int .i64 14]) (by simp [results, Tryd.results37, go_sem, g5, g6, g7, g8]) rfl ?_
      refine ⟨_, _, _, _, _, _, _, _, _, rfl, ?_, .inl ⟨hy0, rfl, II.zero _ _, II.zero _ _⟩⟩
      repeat (first | exact hbX | refine Below.drew ?_ | refine Below.setCell ?_ (by dsimp only; omega) _)
    · have hn0 : ¬ n3 = 0 := fun h => hy0 (hz.1 h)
      have hn0I : ¬ (n3 : Int) = 0 := by omega
      have hyp : 0 < y.natAbs := by omega
      clear hz
      go_upto_region 5 with (go_at_call 72; refine (rparts_any _ _ _ x.natAbs k _ _ _ y.natAbs k _ m1 m2 (by omega) (by omega) hyp).mono ?_; rintro e w3 ⟨A5, n5, c5, A6, n6, c6, rfl, hqm, hrm, hb5⟩)
      replace q1 := q1.below hb5
      replace q2 := q2.below hb5
      replace q3 := q3.below hb5
      replace q4 := q4.below hb5
      replace i1 := i1.below hb5
      replace i3 := i3.below hb5
      have hb6 : Below w.heap.size w w3 := hbX.trans (hb5.mono hbX.size)
      clear g1 g2 g3 g4 f1 f2 f3 f4 hsX1 hsX2 hb5 m1 m2 hbX hn0 hn0I
      clear X
      obtain ⟨g1, g2, -, -, -⟩ := id q1
      obtain ⟨g3, g4, -, -, -⟩ := id q2
      by_cases hop : neg1 = neg3
      · have hsame : decide (x < 0) = decide (y < 0) := by rw [← s1.out, ← s2.out]; exact hop
        have hq5 : sgnd false (x.natAbs / y.natAbs) = dq x y := (dq_same hsame).symm
        subst hop
        clear hsame
        have ht : (neg1 == neg1) = true := by simp
        go_upto_region 6 with (go_at_call 54; refine (made_mm false _ _ _ (x.natAbs / y.natAbs) k _ hqm (by omega)).mono ?_; rintro e w4 ⟨neg9, A9, n9, c9, rfl, i9, hb9⟩)
        have hl3 := q4.2.2.2.2
        have hs34 := hb9.size
        have ha4 := (Below.refl w4.heap.size w4).alloc (Nat.le_refl _) (.cells #[.bool neg9, .slice A9 n9 c9] 24)
        have p1 : Bx (w4.alloc (.cells #[.bool neg9, .slice A9 n9 c9] 24)) w.heap.size (.bool neg1) (.slice A1 n1 c1) := (q1.below hb9).alloc _
        have p2 : Bx (w4.alloc (.cells #[.bool neg9, .slice A9 n9 c9] 24)) (w.heap.size + 1) (.bool neg1) (.slice A3 n3 c3) := (q2.below hb9).alloc _
        have p3 : Bx (w4.alloc (.cells #[.bool neg9, .slice A9 n9 c9] 24)) (w.heap.size + 1 + 1) (.bool false) (.slice none 0 0) := (q3.below hb9).alloc _
        have p4 : Bx (w4.alloc (.cells #[.bool neg9, .slice A9 n9 c9] 24)) (w.heap.size + 1 + 1 + 1) (.bool false) (.slice none 0 0) := (q4.below hb9).alloc _
        have p9 : Bx (w4.alloc (.cells #[.bool neg9, .slice A9 n9 c9] 24)) w4.heap.size (.bool neg9) (.slice A9 n9 c9) := Bx.new w4 _ _ _
        replace i1 : II (w4.alloc (.cells #[.bool neg9, .slice A9 n9 c9] 24)) neg1 A1 n1 c1 x k := (i1.below hb9).below ha4
        replace i3 : II (w4.alloc (.cells #[.bool neg9, .slice A9 n9 c9] 24)) neg1 A3 n3 c3 y k := (i3.below hb9).below ha4
        replace i9 : II (w4.alloc (.cells #[.bool neg9, .slice A9 n9 c9] 24)) neg9 A9 n9 c9 (sgnd false (x.natAbs / y.natAbs)) k := i9.below ha4
        have hbY : Below w.heap.size w (w4.alloc (.cells #[.bool neg9, .slice A9 n9 c9] 24)) := by
          have h4 := hb6.trans (hb9.mono hb6.size)
          exact h4.alloc h4.size _
        have hg9 : w.heap.size + 1 + 1 + 1 < w4.heap.size := by omega
        obtain ⟨k1, k2, -, -, -⟩ := id p1
        obtain ⟨k3, k4, -, -, -⟩ := id p2
        clear q1 q2 q3 q4 hb9 ha4 hqm hb6 hl3 hs34
        generalize w4.alloc (.cells #[.bool neg9, .slice A9 n9 c9] 24) = Y at p1 p2 p3 p4 p9 i1 i3 i9 hbY k1 k2 k3 k4 ⊢
        generalize w4.heap.size = g9 at p9 hg9 ⊢
        clear hrm g1 g2 g3 g4
        go_wp2
        clear k1 k2 k3 k4
        have iQ : II Y neg9 A9 n9 c9 (dq x y) (k + 4) := by rw [← hq5]; exact i9.mono (by omega)
        clear i9
        rename_i KQ hKQ
        have hcell : ∀ w', Below Y.heap.size Y w' → w'.cell? ⟨g9, 0, none⟩ = some (.bool neg9) ∧ w'.cell? ⟨g9, 1, none⟩ = some (.slice A9 n9 c9) ∧ w'.cell? ⟨w.heap.size, 0, none⟩ = some (.bool neg1) ∧ w'.cell? ⟨w.heap.size, 1, none⟩ = some (.slice A1 n1 c1) ∧ w'.cell? ⟨w.heap.size + 1, 0, none⟩ = some (.bool neg1) ∧ w'.cell? ⟨w.heap.size + 1, 1, none⟩ = some (.slice A3 n3 c3) := fun w' h => ⟨(p9.below h).1, (p9.below h).2.1, (p1.below h).1, (p1.below h).2.1, (p2.below h).1, (p2.below h).2.1⟩
        have hbox3 := fun w' (h : Below Y.heap.size Y w') => p3.below h
        have hbox4 := fun w' (h : Below Y.heap.size Y w') => p4.below h
        replace hcell := Lib.hid hcell
        replace hbox3 := Lib.hid hbox3
        replace hbox4 := Lib.hid hbox4
        clear p1 p2 p3 p4 p9
        refine wp_region_inv0 (I0 := IRD8 Y w.heap.size (k + 4 + k) (2 * k + 8) (dq x y * y) (x - dq x y * y) neg9 A9 n9 c9 (.agg #[.bool neg9, .slice A9 n9 c9]) (.agg #[.bool neg1, .slice A1 n1 c1]) (.agg #[.bool neg9, .slice A9 n9 c9]) (.agg #[.bool neg1, .slice A3 n3 c3]) (.int .i64 0)) (by kernel_rfl) (by kernel_rfl) ?_ ?_ ?_ ?_
        · intro L a w1 hI
          unfold IRD8 at hI
          obtain ⟨v48, v49, v50, v51, v52, v53, v6, hae, hsz, -⟩ := hI
          exact hsz
        · exact ⟨undef, undef, undef, undef, undef, undef, (.int .i64 0), (by simp only [holeRD8, Act.put, List.setIfInBounds_toArray, List.set_cons_zero, List.set_cons_succ]), by simp, fun _ => (Below.refl _ _).drew, fun h _ => by simp at h, fun h _ => by simp at h, fun h _ => by simp at h, fun h => by simp at h, fun h => by simp at h, fun h => by simp at h, fun h => by simp at h, fun h => by simp at h, fun h => by simp at h, fun h => by simp at h, fun h => by simp at h, fun h => by simp at h, fun h => by simp at h, fun h => by simp at h, fun h => by simp at h⟩
        · refine steps_cons ?_ (steps_cons ?_ (steps_cons ?_ (steps_cons ?_ (steps_cons ?_ (steps_cons ?_ (steps_cons ?_ (steps_cons ?_ (steps_cons ?_ (steps_nil)))))))))
          · unfold StepAt
            intro L a w1 KK hI hi ha hKK
            unfold IRD8 at hI
            obtain ⟨v48, v49, v50, v51, v52, v53, v6, hae, hsz, s0_, s1_, s2_, s3_, s4_, c4_, c5_, c6_, c7_, l0_, l1_, l2_, l3_, l4_, l5_, l8_⟩ := hI
            obtain ⟨j1, j2, j3, j4, j5, j6⟩ : w1.cell? ⟨g9, 0, none⟩ = some (.bool neg9) ∧ w1.cell? ⟨g9, 1, none⟩ = some (.slice A9 n9 c9) ∧ w1.cell? ⟨w.heap.size, 0, none⟩ = some (.bool neg1) ∧ w1.cell? ⟨w.heap.size, 1, none⟩ = some (.slice A1 n1 c1) ∧ w1.cell? ⟨w.heap.size + 1, 0, none⟩ = some (.bool neg1) ∧ w1.cell? ⟨w.heap.size + 1, 1, none⟩ = some (.slice A3 n3 c3) := by
              cases h0 : L.getD 4 false
              · exact hcell.out _ (s0_ h0)
              · cases h1 : L.getD 5 false
                · exact hcell.out _ (s1_ h0 h1).1
                · cases h2 : L.getD 6 false
                  · exact hcell.out _ (s2_ h1 h2).1
                  · exact (not_on hi (c6_ h2).1).elim
            replace s0_ := Lib.hid s0_
            replace s1_ := Lib.hid s1_
            replace s2_ := Lib.hid s2_
            replace s3_ := Lib.hid s3_
            replace s4_ := Lib.hid s4_
            replace c4_ := Lib.hid c4_
            replace c5_ := Lib.hid c5_
            replace c6_ := Lib.hid c6_
            replace c7_ := Lib.hid c7_
            replace l0_ := Lib.hid l0_
            replace l1_ := Lib.hid l1_
            replace l2_ := Lib.hid l2_
            replace l3_ := Lib.hid l3_
            replace l4_ := Lib.hid l4_
            replace l5_ := Lib.hid l5_
            replace l8_ := Lib.hid l8_
            rw [hae]
            clear hae
            simp only [holeRD8, List.setIfInBounds_toArray, List.set_cons_zero, List.set_cons_succ]
            go_simp
            exact hKK _ _ ⟨(.agg #[.bool neg9, .slice A9 n9 c9]), v49, v50, v51, v52, v53, v6, (by simp only [holeRD8, Act.put, List.setIfInBounds_toArray, List.set_cons_zero, List.set_cons_succ]), by simpa using hsz, fun e2 => s0_.out (by rwa [gs_off (by decide)] at e2), fun e e2 => s1_.out (by rwa [gs_off (by decide)] at e) (by rwa [gs_off (by decide)] at e2), fun e e2 => s2_.out (by rwa [gs_off (by decide)] at e) (by rwa [gs_off (by decide)] at e2), fun e e2 => s3_.out (by rwa [gs_off (by decide)] at e) (by rwa [gs_off (by decide)] at e2), fun e => s4_.out (by rwa [gs_off (by decide)] at e), fun e => ⟨by rw [gs_off (by decide)]; exact (c4_.out (by rwa [gs_off (by decide)] at e)).1, by rw [gs_off (by decide)]; exact (c4_.out (by rwa [gs_off (by decide)] at e)).2⟩, fun e => ⟨by rw [gs_off (by decide)]; exact (c5_.out (by rwa [gs_off (by decide)] at e)).1, by rw [gs_off (by decide)]; exact (c5_.out (by rwa [gs_off (by decide)] at e)).2.1, by rw [gs_off (by decide)]; exact (c5_.out (by rwa [gs_off (by decide)] at e)).2.2.1, by rw [gs_off (by decide)]; exact (c5_.out (by rwa [gs_off (by decide)] at e)).2.2.2⟩, fun e => (not_on hi (c6_.out (by rwa [gs_off (by decide)] at e)).1).elim, fun e => (not_on hi (c7_.out (by rwa [gs_off (by decide)] at e)).2.2.1).elim, fun _ => rfl, fun e => l1_.out (by rwa [gs_off (by decide)] at e), fun e => l2_.out (by rwa [gs_off (by decide)] at e), fun e => l3_.out (by rwa [gs_off (by decide)] at e), fun e => l4_.out (by rwa [gs_off (by decide)] at e), fun e => l5_.out (by rwa [gs_off (by decide)] at e), fun e => l8_.out (by rwa [gs_off (by decide)] at e)⟩
          · unfold StepAt
            intro L a w1 KK hI hi ha hKK
            unfold IRD8 at hI
            obtain ⟨v48, v49, v50, v51, v52, v53, v6, hae, hsz, s0_, s1_, s2_, s3_, s4_, c4_, c5_, c6_, c7_, l0_, l1_, l2_, l3_, l4_, l5_, l8_⟩ := hI
            obtain ⟨j1, j2, j3, j4, j5, j6⟩ : w1.cell? ⟨g9, 0, none⟩ = some (.bool neg9) ∧ w1.cell? ⟨g9, 1, none⟩ = some (.slice A9 n9 c9) ∧ w1.cell? ⟨w.heap.size, 0, none⟩ = some (.bool neg1) ∧ w1.cell? ⟨w.heap.size, 1, none⟩ = some (.slice A1 n1 c1) ∧ w1.cell? ⟨w.heap.size + 1, 0, none⟩ = some (.bool neg1) ∧ w1.cell? ⟨w.heap.size + 1, 1, none⟩ = some (.slice A3 n3 c3) := by
              cases h0 : L.getD 4 false
              · exact hcell.out _ (s0_ h0)
              · cases h1 : L.getD 5 false
                · exact hcell.out _ (s1_ h0 h1).1
                · exact (not_on hi (c5_ h1).1).elim
            replace s0_ := Lib.hid s0_
            replace s1_ := Lib.hid s1_
            replace s2_ := Lib.hid s2_
            replace s3_ := Lib.hid s3_
            replace s4_ := Lib.hid s4_
            replace c4_ := Lib.hid c4_
            replace c5_ := Lib.hid c5_
            replace c6_ := Lib.hid c6_
            replace c7_ := Lib.hid c7_
            replace l0_ := Lib.hid l0_
            replace l1_ := Lib.hid l1_
            replace l2_ := Lib.hid l2_
            replace l3_ := Lib.hid l3_
            replace l4_ := Lib.hid l4_
            replace l5_ := Lib.hid l5_
            replace l8_ := Lib.hid l8_
            rw [hae]
            clear hae
            simp only [holeRD8, List.setIfInBounds_toArray, List.set_cons_zero, List.set_cons_succ]
            go_simp
            exact hKK _ _ ⟨v48, (.agg #[.bool neg1, .slice A1 n1 c1]), v50, v51, v52, v53, v6, (by simp only [holeRD8, Act.put, List.setIfInBounds_toArray, List.set_cons_zero, List.set_cons_succ]), by simpa using hsz, fun e2 => s0_.out (by rwa [gs_off (by decide)] at e2), fun e e2 => s1_.out (by rwa [gs_off (by decide)] at e) (by rwa [gs_off (by decide)] at e2), fun e e2 => s2_.out (by rwa [gs_off (by decide)] at e) (by rwa [gs_off (by decide)] at e2), fun e e2 => s3_.out (by rwa [gs_off (by decide)] at e) (by rwa [gs_off (by decide)] at e2), fun e => s4_.out (by rwa [gs_off (by decide)] at e), fun e => ⟨by rw [gs_off (by decide)]; exact (c4_.out (by rwa [gs_off (by decide)] at e)).1, by rw [gs_off (by decide)]; exact (c4_.out (by rwa [gs_off (by decide)] at e)).2⟩, fun e => (not_on hi (c5_.out (by rwa [gs_off (by decide)] at e)).1).elim, fun e => (not_on hi (c6_.out (by rwa [gs_off (by decide)] at e)).2.2.1).elim, fun e => (not_on hi (c7_.out (by rwa [gs_off (by decide)] at e)).2.2.2.1).elim, fun e => l0_.out (by rwa [gs_off (by decide)] at e), fun _ => rfl, fun e => l2_.out (by rwa [gs_off (by decide)] at e), fun e => l3_.out (by rwa [gs_off (by decide)] at e), fun e => l4_.out (by rwa [gs_off (by decide)] at e), fun e => l5_.out (by rwa [gs_off (by decide)] at e), fun e => l8_.out (by rwa [gs_off (by decide)] at e)⟩
          · unfold StepAt
            intro L a w1 KK hI hi ha hKK
            unfold IRD8 at hI
            obtain ⟨v48, v49, v50, v51, v52, v53, v6, hae, hsz, s0_, s1_, s2_, s3_, s4_, c4_, c5_, c6_, c7_, l0_, l1_, l2_, l3_, l4_, l5_, l8_⟩ := hI
            obtain ⟨j1, j2, j3, j4, j5, j6⟩ : w1.cell? ⟨g9, 0, none⟩ = some (.bool neg9) ∧ w1.cell? ⟨g9, 1, none⟩ = some (.slice A9 n9 c9) ∧ w1.cell? ⟨w.heap.size, 0, none⟩ = some (.bool neg1) ∧ w1.cell? ⟨w.heap.size, 1, none⟩ = some (.slice A1 n1 c1) ∧ w1.cell? ⟨w.heap.size + 1, 0, none⟩ = some (.bool neg1) ∧ w1.cell? ⟨w.heap.size + 1, 1, none⟩ = some (.slice A3 n3 c3) := by
              cases h0 : L.getD 4 false
              · exact hcell.out _ (s0_ h0)
              · exact (not_on hi (c4_ h0).1).elim
            replace s0_ := Lib.hid s0_
            replace s1_ := Lib.hid s1_
            replace s2_ := Lib.hid s2_
            replace s3_ := Lib.hid s3_
            replace s4_ := Lib.hid s4_
            replace c4_ := Lib.hid c4_
            replace c5_ := Lib.hid c5_
            replace c6_ := Lib.hid c6_
            replace c7_ := Lib.hid c7_
            replace l0_ := Lib.hid l0_
            replace l1_ := Lib.hid l1_
            replace l2_ := Lib.hid l2_
            replace l3_ := Lib.hid l3_
            replace l4_ := Lib.hid l4_
            replace l5_ := Lib.hid l5_
            replace l8_ := Lib.hid l8_
            rw [hae]
            clear hae
            simp only [holeRD8, List.setIfInBounds_toArray, List.set_cons_zero, List.set_cons_succ]
            go_simp
            exact hKK _ _ ⟨v48, v49, (.agg #[.bool neg9, .slice A9 n9 c9]), v51, v52, v53, v6, (by simp only [holeRD8, Act.put, List.setIfInBounds_toArray, List.set_cons_zero, List.set_cons_succ]), by simpa using hsz, fun e2 => s0_.out (by rwa [gs_off (by decide)] at e2), fun e e2 => s1_.out (by rwa [gs_off (by decide)] at e) (by rwa [gs_off (by decide)] at e2), fun e e2 => s2_.out (by rwa [gs_off (by decide)] at e) (by rwa [gs_off (by decide)] at e2), fun e e2 => s3_.out (by rwa [gs_off (by decide)] at e) (by rwa [gs_off (by decide)] at e2), fun e => s4_.out (by rwa [gs_off (by decide)] at e), fun e => (not_on hi (c4_.out (by rwa [gs_off (by decide)] at e)).1).elim, fun e => (not_on hi (c5_.out (by rwa [gs_off (by decide)] at e)).2.2.1).elim, fun e => (not_on hi (c6_.out (by rwa [gs_off (by decide)] at e)).2.2.2.2.1).elim, fun e => (not_on hi (c7_.out (by rwa [gs_off (by decide)] at e)).2.2.2.2.1).elim, fun e => l0_.out (by rwa [gs_off (by decide)] at e), fun e => l1_.out (by rwa [gs_off (by decide)] at e), fun _ => rfl, fun e => l3_.out (by rwa [gs_off (by decide)] at e), fun e => l4_.out (by rwa [gs_off (by decide)] at e), fun e => l5_.out (by rwa [gs_off (by decide)] at e), fun e => l8_.out (by rwa [gs_off (by decide)] at e)⟩
          · unfold StepAt
            intro L a w1 KK hI hi ha hKK
            unfold IRD8 at hI
            obtain ⟨v48, v49, v50, v51, v52, v53, v6, hae, hsz, s0_, s1_, s2_, s3_, s4_, c4_, c5_, c6_, c7_, l0_, l1_, l2_, l3_, l4_, l5_, l8_⟩ := hI
            obtain ⟨j1, j2, j3, j4, j5, j6⟩ : w1.cell? ⟨g9, 0, none⟩ = some (.bool neg9) ∧ w1.cell? ⟨g9, 1, none⟩ = some (.slice A9 n9 c9) ∧ w1.cell? ⟨w.heap.size, 0, none⟩ = some (.bool neg1) ∧ w1.cell? ⟨w.heap.size, 1, none⟩ = some (.slice A1 n1 c1) ∧ w1.cell? ⟨w.heap.size + 1, 0, none⟩ = some (.bool neg1) ∧ w1.cell? ⟨w.heap.size + 1, 1, none⟩ = some (.slice A3 n3 c3) := by
              cases h0 : L.getD 4 false
              · exact hcell.out _ (s0_ h0)
              · exact (not_on hi (c4_ h0).2).elim
            replace s0_ := Lib.hid s0_
            replace s1_ := Lib.hid s1_
            replace s2_ := Lib.hid s2_
            replace s3_ := Lib.hid s3_
            replace s4_ := Lib.hid s4_
            replace c4_ := Lib.hid c4_
            replace c5_ := Lib.hid c5_
            replace c6_ := Lib.hid c6_
            replace c7_ := Lib.hid c7_
            replace l0_ := Lib.hid l0_
            replace l1_ := Lib.hid l1_
            replace l2_ := Lib.hid l2_
            replace l3_ := Lib.hid l3_
            replace l4_ := Lib.hid l4_
            replace l5_ := Lib.hid l5_
            replace l8_ := Lib.hid l8_
            rw [hae]
            clear hae
            simp only [holeRD8, List.setIfInBounds_toArray, List.set_cons_zero, List.set_cons_succ]
            go_simp
            exact hKK _ _ ⟨v48, v49, v50, (.agg #[.bool neg1, .slice A3 n3 c3]), v52, v53, v6, (by simp only [holeRD8, Act.put, List.setIfInBounds_toArray, List.set_cons_zero, List.set_cons_succ]), by simpa using hsz, fun e2 => s0_.out (by rwa [gs_off (by decide)] at e2), fun e e2 => s1_.out (by rwa [gs_off (by decide)] at e) (by rwa [gs_off (by decide)] at e2), fun e e2 => s2_.out (by rwa [gs_off (by decide)] at e) (by rwa [gs_off (by decide)] at e2), fun e e2 => s3_.out (by rwa [gs_off (by decide)] at e) (by rwa [gs_off (by decide)] at e2), fun e => s4_.out (by rwa [gs_off (by decide)] at e), fun e => (not_on hi (c4_.out (by rwa [gs_off (by decide)] at e)).2).elim, fun e => (not_on hi (c5_.out (by rwa [gs_off (by decide)] at e)).2.2.2).elim, fun e => (not_on hi (c6_.out (by rwa [gs_off (by decide)] at e)).2.2.2.2.2).elim, fun e => (not_on hi (c7_.out (by rwa [gs_off (by decide)] at e)).2.2.2.2.2.1).elim, fun e => l0_.out (by rwa [gs_off (by decide)] at e), fun e => l1_.out (by rwa [gs_off (by decide)] at e), fun e => l2_.out (by rwa [gs_off (by decide)] at e), fun _ => rfl, fun e => l4_.out (by rwa [gs_off (by decide)] at e), fun e => l5_.out (by rwa [gs_off (by decide)] at e), fun e => l8_.out (by rwa [gs_off (by decide)] at e)⟩
          · unfold StepAt
            intro L a w1 KK hI hi ha hKK
            unfold IRD8 at hI
            obtain ⟨v48, v49, v50, v51, v52, v53, v6, hae, hsz, s0_, s1_, s2_, s3_, s4_, c4_, c5_, c6_, c7_, l0_, l1_, l2_, l3_, l4_, l5_, l8_⟩ := hI
            have hoff : L.getD 4 false = false := by
              cases h : L.getD 4 false
              · rfl
              · exact (not_on hi h).elim
            have hP := s0_ hoff
            have q2 := ha { on := 2, ground := Ground.data } (by simp) rfl
            have e2 := l2_ q2
            subst e2
            have q3 := ha { on := 3, ground := Ground.data } (by simp) rfl
            have e3 := l3_ q3
            subst e3
            replace s0_ := Lib.hid s0_
            replace s1_ := Lib.hid s1_
            replace s2_ := Lib.hid s2_
            replace s3_ := Lib.hid s3_
            replace s4_ := Lib.hid s4_
            replace c4_ := Lib.hid c4_
            replace c5_ := Lib.hid c5_
            replace c6_ := Lib.hid c6_
            replace c7_ := Lib.hid c7_
            replace l0_ := Lib.hid l0_
            replace l1_ := Lib.hid l1_
            replace l2_ := Lib.hid l2_
            replace l3_ := Lib.hid l3_
            replace l4_ := Lib.hid l4_
            replace l5_ := Lib.hid l5_
            replace l8_ := Lib.hid l8_
            rw [hae]
            clear hae
            simp only [holeRD8, List.setIfInBounds_toArray, List.set_cons_zero, List.set_cons_succ]
            replace hKK := Lib.hid hKK
            go_wp2_with (go_at_call 35; refine (rMul_any _ _ _ _ _ _ _ _ _ _ (k + 4) k w1 (iQ.below hP).vi (i3.below hP).vi (by omega) (by omega)).mono ?_; rintro e w7 ⟨neg7, A17, n17, c17, rfl, hi7, hb17⟩)
            exact hKK.out _ _ ⟨v48, v49, (.agg #[.bool neg9, .slice A9 n9 c9]), (.agg #[.bool neg1, .slice A3 n3 c3]), (.agg #[.bool neg7, .slice A17 n17 c17]), v53, v6, (by simp only [holeRD8, Act.put, List.setIfInBounds_toArray, List.set_cons_zero, List.set_cons_succ]), by simpa using hsz, fun e => by (exfalso; revert e; simp [Array.getD_eq_getD_getElem?, hsz]), fun _ _ => ⟨hP.trans (hb17.mono hP.size), _, _, _, _, rfl, hi7⟩, fun e _ => (not_on hi (c5_.out (by rwa [gs_off (by decide)] at e)).2.1).elim, fun e _ => (not_on hi (c6_.out (by rwa [gs_off (by decide)] at e)).2.2.2.1).elim, fun e => (not_on hi (c7_.out (by rwa [gs_off (by decide)] at e)).2.2.2.2.2.2).elim, fun _ => ⟨by rw [gs_off (by decide)]; exact ha { on := 2, ground := Ground.data } (by simp) rfl, by rw [gs_off (by decide)]; exact ha { on := 3, ground := Ground.data } (by simp) rfl⟩, fun e => (not_on hi (c5_.out (by rwa [gs_off (by decide)] at e)).2.1).elim, fun e => (not_on hi (c6_.out (by rwa [gs_off (by decide)] at e)).2.2.2.1).elim, fun e => (not_on hi (c7_.out (by rwa [gs_off (by decide)] at e)).2.2.2.2.2.2).elim, fun e => l0_.out (by rwa [gs_off (by decide)] at e), fun e => l1_.out (by rwa [gs_off (by decide)] at e), fun _ => rfl, fun _ => rfl, fun _ => trivial, fun e => l5_.out (by rwa [gs_off (by decide)] at e), fun e => l8_.out (by rwa [gs_off (by decide)] at e)⟩
          · unfold StepAt
            intro L a w1 KK hI hi ha hKK
            unfold IRD8 at hI
            obtain ⟨v48, v49, v50, v51, v52, v53, v6, hae, hsz, s0_, s1_, s2_, s3_, s4_, c4_, c5_, c6_, c7_, l0_, l1_, l2_, l3_, l4_, l5_, l8_⟩ := hI
            have hoff : L.getD 5 false = false := by
              cases h : L.getD 5 false
              · rfl
              · exact (not_on hi h).elim
            have hon := ha { on := 4, ground := Ground.data } (by simp) rfl
            have hP := s1_ hon hoff
            have q1 := ha { on := 1, ground := Ground.data } (by simp) rfl
            have e1 := l1_ q1
            subst e1
            have q4 := ha { on := 4, ground := Ground.data } (by simp) rfl
            have e4 := l4_ q4
            obtain ⟨hbl, ⟨b5, A15, n15, c15, e52, hi52⟩⟩ := hP
            subst e52
            replace s0_ := Lib.hid s0_
            replace s1_ := Lib.hid s1_
            replace s2_ := Lib.hid s2_
            replace s3_ := Lib.hid s3_
            replace s4_ := Lib.hid s4_
            replace c4_ := Lib.hid c4_
            replace c5_ := Lib.hid c5_
            replace c6_ := Lib.hid c6_
            replace c7_ := Lib.hid c7_
            replace l0_ := Lib.hid l0_
            replace l1_ := Lib.hid l1_
            replace l2_ := Lib.hid l2_
            replace l3_ := Lib.hid l3_
            replace l4_ := Lib.hid l4_
            replace l5_ := Lib.hid l5_
            replace l8_ := Lib.hid l8_
            rw [hae]
            clear hae
            simp only [holeRD8, List.setIfInBounds_toArray, List.set_cons_zero, List.set_cons_succ]
            replace hKK := Lib.hid hKK
            go_wp2_with (go_at_call 34; refine (rSub_any _ _ _ _ x _ _ _ _ (dq x y * y) (k + 4 + k) w1 ((i1.below hbl).mono (by omega)).vi hi52.vi (by omega)).mono ?_; rintro e w7 ⟨neg7, A17, n17, c17, rfl, hi7, hb17⟩)
            exact hKK.out _ _ ⟨v48, (.agg #[.bool neg1, .slice A1 n1 c1]), v50, v51, (.agg #[.bool b5, .slice A15 n15 c15]), (.agg #[.bool neg7, .slice A17 n17 c17]), v6, (by simp only [holeRD8, Act.put, List.setIfInBounds_toArray, List.set_cons_zero, List.set_cons_succ]), by simpa using hsz, fun e => by (have t := ha { on := 4, ground := Ground.data } (by simp) rfl; rw [gs_off (by decide)] at e; rw [e] at t; cases t), fun _ e => by (exfalso; revert e; simp [Array.getD_eq_getD_getElem?, hsz]), fun _ _ => ⟨hbl.trans (hb17.mono hbl.size), _, _, _, _, rfl, hi7.mono (by omega)⟩, fun e _ => (not_on hi (c6_.out (by rwa [gs_off (by decide)] at e)).2.1).elim, fun e => (not_on hi (c7_.out (by rwa [gs_off (by decide)] at e)).1).elim, fun e => ⟨by rw [gs_off (by decide)]; exact (c4_.out (by rwa [gs_off (by decide)] at e)).1, by rw [gs_off (by decide)]; exact (c4_.out (by rwa [gs_off (by decide)] at e)).2⟩, fun _ => ⟨by rw [gs_off (by decide)]; exact ha { on := 1, ground := Ground.data } (by simp) rfl, by rw [gs_off (by decide)]; exact ha { on := 4, ground := Ground.data } (by simp) rfl, by rw [gs_off (by decide)]; exact (c4_.out (ha { on := 4, ground := Ground.data } (by simp) rfl)).1, by rw [gs_off (by decide)]; exact (c4_.out (ha { on := 4, ground := Ground.data } (by simp) rfl)).2⟩, fun e => (not_on hi (c6_.out (by rwa [gs_off (by decide)] at e)).2.1).elim, fun e => (not_on hi (c7_.out (by rwa [gs_off (by decide)] at e)).1).elim, fun e => l0_.out (by rwa [gs_off (by decide)] at e), fun _ => rfl, fun e => l2_.out (by rwa [gs_off (by decide)] at e), fun e => l3_.out (by rwa [gs_off (by decide)] at e), fun _ => trivial, fun _ => trivial, fun e => l8_.out (by rwa [gs_off (by decide)] at e)⟩
          · unfold StepAt
            intro L a w1 KK hI hi ha hKK
            unfold IRD8 at hI
            obtain ⟨v48, v49, v50, v51, v52, v53, v6, hae, hsz, s0_, s1_, s2_, s3_, s4_, c4_, c5_, c6_, c7_, l0_, l1_, l2_, l3_, l4_, l5_, l8_⟩ := hI
            have hoff : L.getD 6 false = false := by
              cases h : L.getD 6 false
              · rfl
              · exact (not_on hi h).elim
            have hon := ha { on := 5, ground := Ground.chain } (by simp) rfl
            have hP := s2_ hon hoff
            have q0 := ha { on := 0, ground := Ground.data } (by simp) rfl
            have e0 := l0_ q0
            subst e0
            obtain ⟨hbl, hiv⟩ := hP
            obtain ⟨x1, x2, x3, x4, x5⟩ := hbox3.out _ hbl
            replace s0_ := Lib.hid s0_
            replace s1_ := Lib.hid s1_
            replace s2_ := Lib.hid s2_
            replace s3_ := Lib.hid s3_
            replace s4_ := Lib.hid s4_
            replace c4_ := Lib.hid c4_
            replace c5_ := Lib.hid c5_
            replace c6_ := Lib.hid c6_
            replace c7_ := Lib.hid c7_
            replace l0_ := Lib.hid l0_
            replace l1_ := Lib.hid l1_
            replace l2_ := Lib.hid l2_
            replace l3_ := Lib.hid l3_
            replace l4_ := Lib.hid l4_
            replace l5_ := Lib.hid l5_
            replace l8_ := Lib.hid l8_
            rw [hae]
            clear hae
            simp only [holeRD8, List.setIfInBounds_toArray, List.set_cons_zero, List.set_cons_succ]
            go_simp
            exact hKK _ _ ⟨(.agg #[.bool neg9, .slice A9 n9 c9]), v49, v50, v51, v52, v53, v6, (by simp only [holeRD8, Act.put, List.setIfInBounds_toArray, List.set_cons_zero, List.set_cons_succ]), by simpa using hsz, fun e => by (have t := (c5_.out (ha { on := 5, ground := Ground.chain } (by simp) rfl)).2.1; rw [gs_off (by decide)] at e; rw [e] at t; cases t), fun _ e => by (have t := ha { on := 5, ground := Ground.chain } (by simp) rfl; rw [gs_off (by decide)] at e; rw [e] at t; cases t), fun _ e => by (exfalso; revert e; simp [Array.getD_eq_getD_getElem?, hsz]), fun _ _ => ⟨w1, ⟨hbl, hiv⟩, rfl⟩, fun e => (not_on hi (c7_.out (by rwa [gs_off (by decide)] at e)).2.1).elim, fun e => ⟨by rw [gs_off (by decide)]; exact (c4_.out (by rwa [gs_off (by decide)] at e)).1, by rw [gs_off (by decide)]; exact (c4_.out (by rwa [gs_off (by decide)] at e)).2⟩, fun e => ⟨by rw [gs_off (by decide)]; exact (c5_.out (by rwa [gs_off (by decide)] at e)).1, by rw [gs_off (by decide)]; exact (c5_.out (by rwa [gs_off (by decide)] at e)).2.1, by rw [gs_off (by decide)]; exact (c5_.out (by rwa [gs_off (by decide)] at e)).2.2.1, by rw [gs_off (by decide)]; exact (c5_.out (by rwa [gs_off (by decide)] at e)).2.2.2⟩, fun _ => ⟨by rw [gs_off (by decide)]; exact ha { on := 0, ground := Ground.data } (by simp) rfl, by rw [gs_off (by decide)]; exact ha { on := 5, ground := Ground.chain } (by simp) rfl, by rw [gs_off (by decide)]; exact (c5_.out (ha { on := 5, ground := Ground.chain } (by simp) rfl)).1, by rw [gs_off (by decide)]; exact (c5_.out (ha { on := 5, ground := Ground.chain } (by simp) rfl)).2.1, by rw [gs_off (by decide)]; exact (c5_.out (ha { on := 5, ground := Ground.chain } (by simp) rfl)).2.2.1, by rw [gs_off (by decide)]; exact (c5_.out (ha { on := 5, ground := Ground.chain } (by simp) rfl)).2.2.2⟩, fun e => (not_on hi (c7_.out (by rwa [gs_off (by decide)] at e)).2.1).elim, fun _ => rfl, fun e => l1_.out (by rwa [gs_off (by decide)] at e), fun e => l2_.out (by rwa [gs_off (by decide)] at e), fun e => l3_.out (by rwa [gs_off (by decide)] at e), fun e => l4_.out (by rwa [gs_off (by decide)] at e), fun e => l5_.out (by rwa [gs_off (by decide)] at e), fun e => l8_.out (by rwa [gs_off (by decide)] at e)⟩
          · unfold StepAt
            intro L a w1 KK hI hi ha hKK
            unfold IRD8 at hI
            obtain ⟨v48, v49, v50, v51, v52, v53, v6, hae, hsz, s0_, s1_, s2_, s3_, s4_, c4_, c5_, c6_, c7_, l0_, l1_, l2_, l3_, l4_, l5_, l8_⟩ := hI
            have hoff : L.getD 7 false = false := by
              cases h : L.getD 7 false
              · rfl
              · exact (not_on hi h).elim
            have hon := ha { on := 6, ground := Ground.chain } (by simp) rfl
            have hP := s3_ hon hoff
            have q5 := ha { on := 5, ground := Ground.data } (by simp) rfl
            have e5 := l5_ q5
            obtain ⟨w8, ⟨hbl, ⟨b9, A10, n10, c10, e53, hi53⟩⟩, hw1⟩ := hP
            subst e53
            obtain ⟨x1, x2, x3, x4, x5⟩ : Bx w1 (w.heap.size + 1 + 1 + 1) (.bool false) (.slice none 0 0) := by
              rw [hw1]
              exact ((hbox4.out _ hbl).far (by dsimp only; omega) _).far (by dsimp only; omega) _
            replace hw1 := Lib.hid hw1
            replace s0_ := Lib.hid s0_
            replace s1_ := Lib.hid s1_
            replace s2_ := Lib.hid s2_
            replace s3_ := Lib.hid s3_
            replace s4_ := Lib.hid s4_
            replace c4_ := Lib.hid c4_
            replace c5_ := Lib.hid c5_
            replace c6_ := Lib.hid c6_
            replace c7_ := Lib.hid c7_
            replace l0_ := Lib.hid l0_
            replace l1_ := Lib.hid l1_
            replace l2_ := Lib.hid l2_
            replace l3_ := Lib.hid l3_
            replace l4_ := Lib.hid l4_
            replace l5_ := Lib.hid l5_
            replace l8_ := Lib.hid l8_
            rw [hae]
            clear hae
            simp only [holeRD8, List.setIfInBounds_toArray, List.set_cons_zero, List.set_cons_succ]
            go_simp
            exact hKK _ _ ⟨v48, v49, v50, v51, v52, (.agg #[.bool b9, .slice A10 n10 c10]), v6, (by simp only [holeRD8, Act.put, List.setIfInBounds_toArray, List.set_cons_zero, List.set_cons_succ]), by simpa using hsz, fun e => by (have t := ha { on := 4, ground := Ground.phase } (by simp) rfl; rw [gs_off (by decide)] at e; rw [e] at t; cases t), fun _ e => by (have t := ha { on := 5, ground := Ground.data } (by simp) rfl; rw [gs_off (by decide)] at e; rw [e] at t; cases t), fun _ e => by (have t := ha { on := 6, ground := Ground.chain } (by simp) rfl; rw [gs_off (by decide)] at e; rw [e] at t; cases t), fun _ e => by (exfalso; revert e; simp [Array.getD_eq_getD_getElem?, hsz]), fun _ => ⟨w8, b9, A10, n10, c10, ⟨hbl, hi53⟩, by rw [hw1.out]⟩, fun e => ⟨by rw [gs_off (by decide)]; exact (c4_.out (by rwa [gs_off (by decide)] at e)).1, by rw [gs_off (by decide)]; exact (c4_.out (by rwa [gs_off (by decide)] at e)).2⟩, fun e => ⟨by rw [gs_off (by decide)]; exact (c5_.out (by rwa [gs_off (by decide)] at e)).1, by rw [gs_off (by decide)]; exact (c5_.out (by rwa [gs_off (by decide)] at e)).2.1, by rw [gs_off (by decide)]; exact (c5_.out (by rwa [gs_off (by decide)] at e)).2.2.1, by rw [gs_off (by decide)]; exact (c5_.out (by rwa [gs_off (by decide)] at e)).2.2.2⟩, fun e => ⟨by rw [gs_off (by decide)]; exact (c6_.out (by rwa [gs_off (by decide)] at e)).1, by rw [gs_off (by decide)]; exact (c6_.out (by rwa [gs_off (by decide)] at e)).2.1, by rw [gs_off (by decide)]; exact (c6_.out (by rwa [gs_off (by decide)] at e)).2.2.1, by rw [gs_off (by decide)]; exact (c6_.out (by rwa [gs_off (by decide)] at e)).2.2.2.1, by rw [gs_off (by decide)]; exact (c6_.out (by rwa [gs_off (by decide)] at e)).2.2.2.2.1, by rw [gs_off (by decide)]; exact (c6_.out (by rwa [gs_off (by decide)] at e)).2.2.2.2.2⟩, fun _ => ⟨by rw [gs_off (by decide)]; exact ha { on := 5, ground := Ground.data } (by simp) rfl, by rw [gs_off (by decide)]; exact ha { on := 6, ground := Ground.chain } (by simp) rfl, by rw [gs_off (by decide)]; exact ha { on := 0, ground := Ground.phase } (by simp) rfl, by rw [gs_off (by decide)]; exact ha { on := 1, ground := Ground.phase } (by simp) rfl, by rw [gs_off (by decide)]; exact ha { on := 2, ground := Ground.phase } (by simp) rfl, by rw [gs_off (by decide)]; exact ha { on := 3, ground := Ground.phase } (by simp) rfl, by rw [gs_off (by decide)]; exact ha { on := 4, ground := Ground.phase } (by simp) rfl⟩, fun e => l0_.out (by rwa [gs_off (by decide)] at e), fun e => l1_.out (by rwa [gs_off (by decide)] at e), fun e => l2_.out (by rwa [gs_off (by decide)] at e), fun e => l3_.out (by rwa [gs_off (by decide)] at e), fun e => l4_.out (by rwa [gs_off (by decide)] at e), fun _ => trivial, fun e => l8_.out (by rwa [gs_off (by decide)] at e)⟩
          · unfold StepAt
            intro L a w1 KK hI hi ha hKK
            unfold IRD8 at hI
            obtain ⟨v48, v49, v50, v51, v52, v53, v6, hae, hsz, s0_, s1_, s2_, s3_, s4_, c4_, c5_, c6_, c7_, l0_, l1_, l2_, l3_, l4_, l5_, l8_⟩ := hI
            replace s0_ := Lib.hid s0_
            replace s1_ := Lib.hid s1_
            replace s2_ := Lib.hid s2_
            replace s3_ := Lib.hid s3_
            replace s4_ := Lib.hid s4_
            replace c4_ := Lib.hid c4_
            replace c5_ := Lib.hid c5_
            replace c6_ := Lib.hid c6_
            replace c7_ := Lib.hid c7_
            replace l0_ := Lib.hid l0_
            replace l1_ := Lib.hid l1_
            replace l2_ := Lib.hid l2_
            replace l3_ := Lib.hid l3_
            replace l4_ := Lib.hid l4_
            replace l5_ := Lib.hid l5_
            replace l8_ := Lib.hid l8_
            rw [hae]
            clear hae
            simp only [holeRD8, List.setIfInBounds_toArray, List.set_cons_zero, List.set_cons_succ]
            go_simp
            exact hKK _ _ ⟨v48, v49, v50, v51, v52, v53, (.int .i64 0), (by simp only [holeRD8, Act.put, List.setIfInBounds_toArray, List.set_cons_zero, List.set_cons_succ]), by simpa using hsz, fun e2 => s0_.out (by rwa [gs_off (by decide)] at e2), fun e e2 => s1_.out (by rwa [gs_off (by decide)] at e) (by rwa [gs_off (by decide)] at e2), fun e e2 => s2_.out (by rwa [gs_off (by decide)] at e) (by rwa [gs_off (by decide)] at e2), fun e e2 => s3_.out (by rwa [gs_off (by decide)] at e) (by rwa [gs_off (by decide)] at e2), fun e => s4_.out (by rwa [gs_off (by decide)] at e), fun e => ⟨by rw [gs_off (by decide)]; exact (c4_.out (by rwa [gs_off (by decide)] at e)).1, by rw [gs_off (by decide)]; exact (c4_.out (by rwa [gs_off (by decide)] at e)).2⟩, fun e => ⟨by rw [gs_off (by decide)]; exact (c5_.out (by rwa [gs_off (by decide)] at e)).1, by rw [gs_off (by decide)]; exact (c5_.out (by rwa [gs_off (by decide)] at e)).2.1, by rw [gs_off (by decide)]; exact (c5_.out (by rwa [gs_off (by decide)] at e)).2.2.1, by rw [gs_off (by decide)]; exact (c5_.out (by rwa [gs_off (by decide)] at e)).2.2.2⟩, fun e => ⟨by rw [gs_off (by decide)]; exact (c6_.out (by rwa [gs_off (by decide)] at e)).1, by rw [gs_off (by decide)]; exact (c6_.out (by rwa [gs_off (by decide)] at e)).2.1, by rw [gs_off (by decide)]; exact (c6_.out (by rwa [gs_off (by decide)] at e)).2.2.1, by rw [gs_off (by decide)]; exact (c6_.out (by rwa [gs_off (by decide)] at e)).2.2.2.1, by rw [gs_off (by decide)]; exact (c6_.out (by rwa [gs_off (by decide)] at e)).2.2.2.2.1, by rw [gs_off (by decide)]; exact (c6_.out (by rwa [gs_off (by decide)] at e)).2.2.2.2.2⟩, fun e => ⟨by rw [gs_off (by decide)]; exact (c7_.out (by rwa [gs_off (by decide)] at e)).1, by rw [gs_off (by decide)]; exact (c7_.out (by rwa [gs_off (by decide)] at e)).2.1, by rw [gs_off (by decide)]; exact (c7_.out (by rwa [gs_off (by decide)] at e)).2.2.1, by rw [gs_off (by decide)]; exact (c7_.out (by rwa [gs_off (by decide)] at e)).2.2.2.1, by rw [gs_off (by decide)]; exact (c7_.out (by rwa [gs_off (by decide)] at e)).2.2.2.2.1, by rw [gs_off (by decide)]; exact (c7_.out (by rwa [gs_off (by decide)] at e)).2.2.2.2.2.1, by rw [gs_off (by decide)]; exact (c7_.out (by rwa [gs_off (by decide)] at e)).2.2.2.2.2.2⟩, fun e => l0_.out (by rwa [gs_off (by decide)] at e), fun e => l1_.out (by rwa [gs_off (by decide)] at e), fun e => l2_.out (by rwa [gs_off (by decide)] at e), fun e => l3_.out (by rwa [gs_off (by decide)] at e), fun e => l4_.out (by rwa [gs_off (by decide)] at e), fun e => l5_.out (by rwa [gs_off (by decide)] at e), fun _ => rfl⟩
        · intro L a w1 hI hall
          unfold IRD8 at hI
          obtain ⟨v48, v49, v50, v51, v52, v53, v6, hae, hsz, s0_, s1_, s2_, s3_, s4_, c4_, c5_, c6_, c7_, l0_, l1_, l2_, l3_, l4_, l5_, l8_⟩ := hI
          have hP := s4_ (hall 7 (by decide))
          have e8 := l8_ (hall 8 (by decide))
          subst e8
          rw [hae]
          clear hae hsz s0_ s1_ s2_ s3_ s4_ c4_ c5_ c6_ c7_ l0_ l1_ l2_ l3_ l4_ l5_ hall
          simp only [holeRD8, List.setIfInBounds_toArray, List.set_cons_zero, List.set_cons_succ]
          obtain ⟨w8, b9, A10, n10, c10, ⟨hbl, hi53⟩, hw1⟩ := hP
          have x3 := hbox3.out _ hbl
          have x4 := hbox4.out _ hbl
          have y3 : Bx w1 (w.heap.size + 1 + 1) (.bool neg9) (.slice A9 n9 c9) := by
            rw [hw1]
            exact ((x3.set _ _).far (by dsimp only; omega) _).far (by dsimp only; omega) _
          have y4 : Bx w1 (w.heap.size + 1 + 1 + 1) (.bool b9) (.slice A10 n10 c10) := by
            rw [hw1]
            exact Bx.set ((x4.far (by dsimp only; omega) _).far (by dsimp only; omega) _) _ _
          have z1 : II w1 neg9 A9 n9 c9 (dq x y) (k + 4) := by
            rw [hw1]
            exact (iQ.below hbl).store4 x3.1 x3.2.1 x4.1 x4.2.1 (by omega) _ _ _ _
          have z2 : II w1 b9 A10 n10 c10 (dr x y) (2 * k + 8) := by
            rw [hw1]
            exact hi53.store4 x3.1 x3.2.1 x4.1 x4.2.1 (by omega) _ _ _ _
          have hbW : Below w.heap.size w w1 := by
            rw [hw1]
            repeat (first | exact hbY.trans (hbl.mono hbY.size) | refine Below.setCell ?_ (by dsimp only; omega) _)
          obtain ⟨k5, k6, -, -, -⟩ := y3
          obtain ⟨k7, k8, -, -, -⟩ := y4
          replace hw1 := Lib.hid hw1
          refine hKQ _ _ ?_
          go_wp2
          refine bodyPost_ret (v := .tuple #[.agg #[.bool neg9, .slice A9 n9 c9], .agg #[.bool b9, .slice A10 n10 c10], .int .i64 0]) (by simp [results, Tryd.results37, go_sem, k5, k6, k7, k8]) rfl ?_
          exact ⟨_, _, _, _, _, _, _, _, _, rfl, hbW, .inr ⟨hy0, rfl, z1, z2⟩⟩
      · have hdiff : ¬ decide (x < 0) = decide (y < 0) := by rw [← s1.out, ← s2.out]; exact hop
        have ht : (neg1 == neg3) = false := by simpa using hop
        by_cases hr0 : x.natAbs % y.natAbs = 0
        · have hq5 : sgnd true (x.natAbs / y.natAbs) = dq x y := (dq_zero hdiff hr0).symm
          have hn6 : n6 = 0 := hrm.len_zero.2 hr0
          subst hn6
          replace hr0 := Lib.hid hr0
          clear hdiff
          go_upto_region 6 with (go_at_call 54; refine (made_mm true _ _ _ (x.natAbs / y.natAbs) k _ hqm (by omega)).mono ?_; rintro e w4 ⟨neg9, A9, n9, c9, rfl, i9, hb9⟩)
          have hl3 := q4.2.2.2.2
          have hs34 := hb9.size
          have ha4 := (Below.refl w4.heap.size w4).alloc (Nat.le_refl _) (.cells #[.bool neg9, .slice A9 n9 c9] 24)
          have p1 : Bx (w4.alloc (.cells #[.bool neg9, .slice A9 n9 c9] 24)) w.heap.size (.bool neg1) (.slice A1 n1 c1) := (q1.below hb9).alloc _
          have p2 : Bx (w4.alloc (.cells #[.bool neg9, .slice A9 n9 c9] 24)) (w.heap.size + 1) (.bool neg3) (.slice A3 n3 c3) := (q2.below hb9).alloc _
          have p3 : Bx (w4.alloc (.cells #[.bool neg9, .slice A9 n9 c9] 24)) (w.heap.size + 1 + 1) (.bool false) (.slice none 0 0) := (q3.below hb9).alloc _
          have p4 : Bx (w4.alloc (.cells #[.bool neg9, .slice A9 n9 c9] 24)) (w.heap.size + 1 + 1 + 1) (.bool false) (.slice none 0 0) := (q4.below hb9).alloc _
          have p9 : Bx (w4.alloc (.cells #[.bool neg9, .slice A9 n9 c9] 24)) w4.heap.size (.bool neg9) (.slice A9 n9 c9) := Bx.new w4 _ _ _
          replace i1 : II (w4.alloc (.cells #[.bool neg9, .slice A9 n9 c9] 24)) neg1 A1 n1 c1 x k := (i1.below hb9).below ha4
          replace i3 : II (w4.alloc (.cells #[.bool neg9, .slice A9 n9 c9] 24)) neg3 A3 n3 c3 y k := (i3.below hb9).below ha4
          replace i9 : II (w4.alloc (.cells #[.bool neg9, .slice A9 n9 c9] 24)) neg9 A9 n9 c9 (sgnd true (x.natAbs / y.natAbs)) k := i9.below ha4
          have hbY : Below w.heap.size w (w4.alloc (.cells #[.bool neg9, .slice A9 n9 c9] 24)) := by
            have h4 := hb6.trans (hb9.mono hb6.size)
            exact h4.alloc h4.size _
          have hg9 : w.heap.size + 1 + 1 + 1 < w4.heap.size := by omega
          obtain ⟨k1, k2, -, -, -⟩ := id p1
          obtain ⟨k3, k4, -, -, -⟩ := id p2
          clear q1 q2 q3 q4 hb9 ha4 hqm hb6 hl3 hs34
          generalize w4.alloc (.cells #[.bool neg9, .slice A9 n9 c9] 24) = Y at p1 p2 p3 p4 p9 i1 i3 i9 hbY k1 k2 k3 k4 ⊢
          generalize w4.heap.size = g9 at p9 hg9 ⊢
          clear hrm g1 g2 g3 g4
          go_wp2
          clear k1 k2 k3 k4
          have iQ : II Y neg9 A9 n9 c9 (dq x y) (k + 4) := by rw [← hq5]; exact i9.mono (by omega)
          clear i9
          rename_i KQ hKQ
          have hcell : ∀ w', Below Y.heap.size Y w' → w'.cell? ⟨g9, 0, none⟩ = some (.bool neg9) ∧ w'.cell? ⟨g9, 1, none⟩ = some (.slice A9 n9 c9) ∧ w'.cell? ⟨w.heap.size, 0, none⟩ = some (.bool neg1) ∧ w'.cell? ⟨w.heap.size, 1, none⟩ = some (.slice A1 n1 c1) ∧ w'.cell? ⟨w.heap.size + 1, 0, none⟩ = some (.bool neg3) ∧ w'.cell? ⟨w.heap.size + 1, 1, none⟩ = some (.slice A3 n3 c3) := fun w' h => ⟨(p9.below h).1, (p9.below h).2.1, (p1.below h).1, (p1.below h).2.1, (p2.below h).1, (p2.below h).2.1⟩
          have hbox3 := fun w' (h : Below Y.heap.size Y w') => p3.below h
          have hbox4 := fun w' (h : Below Y.heap.size Y w') => p4.below h
          replace hcell := Lib.hid hcell
          replace hbox3 := Lib.hid hbox3
          replace hbox4 := Lib.hid hbox4
          clear p1 p2 p3 p4 p9
          refine wp_region_inv0 (I0 := IRD8 Y w.heap.size (k + 4 + k) (2 * k + 8) (dq x y * y) (x - dq x y * y) neg9 A9 n9 c9 (.agg #[.bool neg9, .slice A9 n9 c9]) (.agg #[.bool neg1, .slice A1 n1 c1]) (.agg #[.bool neg9, .slice A9 n9 c9]) (.agg #[.bool neg3, .slice A3 n3 c3]) (.int .i64 0)) (by kernel_rfl) (by kernel_rfl) ?_ ?_ ?_ ?_
          · intro L a w1 hI
            unfold IRD8 at hI
            obtain ⟨v48, v49, v50, v51, v52, v53, v6, hae, hsz, -⟩ := hI
            exact hsz
          · exact ⟨undef, undef, undef, undef, undef, undef, (.int .i64 0), (by simp only [holeRD8, Act.put, List.setIfInBounds_toArray, List.set_cons_zero, List.set_cons_succ]), by simp, fun _ => (Below.refl _ _).drew, fun h _ => by simp at h, fun h _ => by simp at h, fun h _ => by simp at h, fun h => by simp at h, fun h => by simp at h, fun h => by simp at h, fun h => by simp at h, fun h => by simp at h, fun h => by simp at h, fun h => by simp at h, fun h => by simp at h, fun h => by simp at h, fun h => by simp at h, fun h => by simp at h, fun h => by simp at h⟩
          · refine steps_cons ?_ (steps_cons ?_ (steps_cons ?_ (steps_cons ?_ (steps_cons ?_ (steps_cons ?_ (steps_cons ?_ (steps_cons ?_ (steps_cons ?_ (steps_nil)))))))))
            · unfold StepAt
              intro L a w1 KK hI hi ha hKK
              unfold IRD8 at hI
              obtain ⟨v48, v49, v50, v51, v52, v53, v6, hae, hsz, s0_, s1_, s2_, s3_, s4_, c4_, c5_, c6_, c7_, l0_, l1_, l2_, l3_, l4_, l5_, l8_⟩ := hI
              obtain ⟨j1, j2, j3, j4, j5, j6⟩ : w1.cell? ⟨g9, 0, none⟩ = some (.bool neg9) ∧ w1.cell? ⟨g9, 1, none⟩ = some (.slice A9 n9 c9) ∧ w1.cell? ⟨w.heap.size, 0, none⟩ = some (.bool neg1) ∧ w1.cell? ⟨w.heap.size, 1, none⟩ = some (.slice A1 n1 c1) ∧ w1.cell? ⟨w.heap.size + 1, 0, none⟩ = some (.bool neg3) ∧ w1.cell? ⟨w.heap.size + 1, 1, none⟩ = some (.slice A3 n3 c3) := by
                cases h0 : L.getD 4 false
                · exact hcell.out _ (s0_ h0)
                · cases h1 : L.getD 5 false
                  · exact hcell.out _ (s1_ h0 h1).1
                  · cases h2 : L.getD 6 false
                    · exact hcell.out _ (s2_ h1 h2).1
                    · exact (not_on hi (c6_ h2).1).elim
              replace s0_ := Lib.hid s0_
              replace s1_ := Lib.hid s1_
              replace s2_ := Lib.hid s2_
              replace s3_ := Lib.hid s3_
              replace s4_ := Lib.hid s4_
              replace c4_ := Lib.hid c4_
              replace c5_ := Lib.hid c5_
              replace c6_ := Lib.hid c6_
              replace c7_ := Lib.hid c7_
              replace l0_ := Lib.hid l0_
              replace l1_ := Lib.hid l1_
              replace l2_ := Lib.hid l2_
              replace l3_ := Lib.hid l3_
              replace l4_ := Lib.hid l4_
              replace l5_ := Lib.hid l5_
              replace l8_ := Lib.hid l8_
              rw [hae]
              clear hae
              simp only [holeRD8, List.setIfInBounds_toArray, List.set_cons_zero, List.set_cons_succ]
              go_simp
              exact hKK _ _ ⟨(.agg #[.bool neg9, .slice A9 n9 c9]), v49, v50, v51, v52, v53, v6, (by simp only [holeRD8, Act.put, List.setIfInBounds_toArray, List.set_cons_zero, List.set_cons_succ]), by simpa using hsz, fun e2 => s0_.out (by rwa [gs_off (by decide)] at e2), fun e e2 => s1_.out (by rwa [gs_off (by decide)] at e) (by rwa [gs_off (by decide)] at e2), fun e e2 => s2_.out (by rwa [gs_off (by decide)] at e) (by rwa [gs_off (by decide)] at e2), fun e e2 => s3_.out (by rwa [gs_off (by decide)] at e) (by rwa [gs_off (by decide)] at e2), fun e => s4_.out (by rwa [gs_off (by decide)] at e), fun e => ⟨by rw [gs_off (by decide)]; exact (c4_.out (by rwa [gs_off (by decide)] at e)).1, by rw [gs_off (by decide)]; exact (c4_.out (by rwa [gs_off (by decide)] at e)).2⟩, fun e => ⟨by rw [gs_off (by decide)]; exact (c5_.out (by rwa [gs_off (by decide)] at e)).1, by rw [gs_off (by decide)]; exact (c5_.out (by rwa [gs_off (by decide)] at e)).2.1, by rw [gs_off (by decide)]; exact (c5_.out (by rwa [gs_off (by decide)] at e)).2.2.1, by rw [gs_off (by decide)]; exact (c5_.out (by rwa [gs_off (by decide)] at e)).2.2.2⟩, fun e => (not_on hi (c6_.out (by rwa [gs_off (by decide)] at e)).1).elim, fun e => (not_on hi (c7_.out (by rwa [gs_off (by decide)] at e)).2.2.1).elim, fun _ => rfl, fun e => l1_.out (by rwa [gs_off (by decide)] at e), fun e => l2_.out (by rwa [gs_off (by decide)] at e), fun e => l3_.out (by rwa [gs_off (by decide)] at e), fun e => l4_.out (by rwa [gs_off (by decide)] at e), fun e => l5_.out (by rwa [gs_off (by decide)] at e), fun e => l8_.out (by rwa [gs_off (by decide)] at e)⟩
            · unfold StepAt
              intro L a w1 KK hI hi ha hKK
              unfold IRD8 at hI
              obtain ⟨v48, v49, v50, v51, v52, v53, v6, hae, hsz, s0_, s1_, s2_, s3_, s4_, c4_, c5_, c6_, c7_, l0_, l1_, l2_, l3_, l4_, l5_, l8_⟩ := hI
              obtain ⟨j1, j2, j3, j4, j5, j6⟩ : w1.cell? ⟨g9, 0, none⟩ = some (.bool neg9) ∧ w1.cell? ⟨g9, 1, none⟩ = some (.slice A9 n9 c9) ∧ w1.cell? ⟨w.heap.size, 0, none⟩ = some (.bool neg1) ∧ w1.cell? ⟨w.heap.size, 1, none⟩ = some (.slice A1 n1 c1) ∧ w1.cell? ⟨w.heap.size + 1, 0, none⟩ = some (.bool neg3) ∧ w1.cell? ⟨w.heap.size + 1, 1, none⟩ = some (.slice A3 n3 c3) := by
                cases h0 : L.getD 4 false
                · exact hcell.out _ (s0_ h0)
                · cases h1 : L.getD 5 false
                  · exact hcell.out _ (s1_ h0 h1).1
                  · exact (not_on hi (c5_ h1).1).elim
              replace s0_ := Lib.hid s0_
              replace s1_ := Lib.hid s1_
              replace s2_ := Lib.hid s2_
              replace s3_ := Lib.hid s3_
              replace s4_ := Lib.hid s4_
              replace c4_ := Lib.hid c4_
              replace c5_ := Lib.hid c5_
              replace c6_ := Lib.hid c6_
              replace c7_ := Lib.hid c7_
              replace l0_ := Lib.hid l0_
              replace l1_ := Lib.hid l1_
              replace l2_ := Lib.hid l2_
              replace l3_ := Lib.hid l3_
              replace l4_ := Lib.hid l4_
              replace l5_ := Lib.hid l5_
              replace l8_ := Lib.hid l8_
              rw [hae]
              clear hae
              simp only [holeRD8, List.setIfInBounds_toArray, List.set_cons_zero, List.set_cons_succ]
              go_simp
              exact hKK _ _ ⟨v48, (.agg #[.bool neg1, .slice A1 n1 c1]), v50, v51, v52, v53, v6, (by simp only [holeRD8, Act.put, List.setIfInBounds_toArray, List.set_cons_zero, List.set_cons_succ]), by simpa using hsz, fun e2 => s0_.out (by rwa [gs_off (by decide)] at e2), fun e e2 => s1_.out (by rwa [gs_off (by decide)] at e) (by rwa [gs_off (by decide)] at e2), fun e e2 => s2_.out (by rwa [gs_off (by decide)] at e) (by rwa [gs_off (by decide)] at e2), fun e e2 => s3_.out (by rwa [gs_off (by decide)] at e) (by rwa [gs_off (by decide)] at e2), fun e => s4_.out (by rwa [gs_off (by decide)] at e), fun e => ⟨by rw [gs_off (by decide)]; exact (c4_.out (by rwa [gs_off (by decide)] at e)).1, by rw [gs_off (by decide)]; exact (c4_.out (by rwa [gs_off (by decide)] at e)).2⟩, fun e => (not_on hi (c5_.out (by rwa [gs_off (by decide)] at e)).1).elim, fun e => (not_on hi (c6_.out (by rwa [gs_off (by decide)] at e)).2.2.1).elim, fun e => (not_on hi (c7_.out (by rwa [gs_off (by decide)] at e)).2.2.2.1).elim, fun e => l0_.out (by rwa [gs_off (by decide)] at e), fun _ => rfl, fun e => l2_.out (by rwa [gs_off (by decide)] at e), fun e => l3_.out (by rwa [gs_off (by decide)] at e), fun e => l4_.out (by rwa [gs_off (by decide)] at e), fun e => l5_.out (by rwa [gs_off (by decide)] at e), fun e => l8_.out (by rwa [gs_off (by decide)] at e)⟩
            · unfold StepAt
              intro L a w1 KK hI hi ha hKK
              unfold IRD8 at hI
              obtain ⟨v48, v49, v50, v51, v52, v53, v6, hae, hsz, s0_, s1_, s2_, s3_, s4_, c4_, c5_, c6_, c7_, l0_, l1_, l2_, l3_, l4_, l5_, l8_⟩ := hI
              obtain ⟨j1, j2, j3, j4, j5, j6⟩ : w1.cell? ⟨g9, 0, none⟩ = some (.bool neg9) ∧ w1.cell? ⟨g9, 1, none⟩ = some (.slice A9 n9 c9) ∧ w1.cell? ⟨w.heap.size, 0, none⟩ = some (.bool neg1) ∧ w1.cell? ⟨w.heap.size, 1, none⟩ = some (.slice A1 n1 c1) ∧ w1.cell? ⟨w.heap.size + 1, 0, none⟩ = some (.bool neg3) ∧ w1.cell? ⟨w.heap.size + 1, 1, none⟩ = some (.slice A3 n3 c3) := by
                cases h0 : L.getD 4 false
                · exact hcell.out _ (s0_ h0)
                · exact (not_on hi (c4_ h0).1).elim
              replace s0_ := Lib.hid s0_
              replace s1_ := Lib.hid s1_
              replace s2_ := Lib.hid s2_
              replace s3_ := Lib.hid s3_
              replace s4_ := Lib.hid s4_
              replace c4_ := Lib.hid c4_
              replace c5_ := Lib.hid c5_
              replace c6_ := Lib.hid c6_
              replace c7_ := Lib.hid c7_
              replace l0_ := Lib.hid l0_
              replace l1_ := Lib.hid l1_
              replace l2_ := Lib.hid l2_
              replace l3_ := Lib.hid l3_
              replace l4_ := Lib.hid l4_
              replace l5_ := Lib.hid l5_
              replace l8_ := Lib.hid l8_
              rw [hae]
              clear hae
              simp only [holeRD8, List.setIfInBounds_toArray, List.set_cons_zero, List.set_cons_succ]
              go_simp
              exact hKK _ _ ⟨v48, v49, (.agg #[.bool neg9, .slice A9 n9 c9]), v51, v52, v53, v6, (by simp only [holeRD8, Act.put, List.setIfInBounds_toArray, List.set_cons_zero, List.set_cons_succ]), by simpa using hsz, fun e2 => s0_.out (by rwa [gs_off (by decide)] at e2), fun e e2 => s1_.out (by rwa [gs_off (by decide)] at e) (by rwa [gs_off (by decide)] at e2), fun e e2 => s2_.out (by rwa [gs_off (by decide)] at e) (by rwa [gs_off (by decide)] at e2), fun e e2 => s3_.out (by rwa [gs_off (by decide)] at e) (by rwa [gs_off (by decide)] at e2), fun e => s4_.out (by rwa [gs_off (by decide)] at e), fun e => (not_on hi (c4_.out (by rwa [gs_off (by decide)] at e)).1).elim, fun e => (not_on hi (c5_.out (by rwa [gs_off (by decide)] at e)).2.2.1).elim, fun e => (not_on hi (c6_.out (by rwa [gs_off (by decide)] at e)).2.2.2.2.1).elim, fun e => (not_on hi (c7_.out (by rwa [gs_off (by decide)] at e)).2.2.2.2.1).elim, fun e => l0_.out (by rwa [gs_off (by decide)] at e), fun e => l1_.out (by rwa [gs_off (by decide)] at e), fun _ => rfl, fun e => l3_.out (by rwa [gs_off (by decide)] at e), fun e => l4_.out (by rwa [gs_off (by decide)] at e), fun e => l5_.out (by rwa [gs_off (by decide)] at e), fun e => l8_.out (by rwa [gs_off (by decide)] at e)⟩
            · unfold StepAt
              intro L a w1 KK hI hi ha hKK
              unfold IRD8 at hI
              obtain ⟨v48, v49, v50, v51, v52, v53, v6, hae, hsz, s0_, s1_, s2_, s3_, s4_, c4_, c5_, c6_, c7_, l0_, l1_, l2_, l3_, l4_, l5_, l8_⟩ := hI
              obtain ⟨j1, j2, j3, j4, j5, j6⟩ : w1.cell? ⟨g9, 0, none⟩ = some (.bool neg9) ∧ w1.cell? ⟨g9, 1, none⟩ = some (.slice A9 n9 c9) ∧ w1.cell? ⟨w.heap.size, 0, none⟩ = some (.bool neg1) ∧ w1.cell? ⟨w.heap.size, 1, none⟩ = some (.slice A1 n1 c1) ∧ w1.cell? ⟨w.heap.size + 1, 0, none⟩ = some (.bool neg3) ∧ w1.cell? ⟨w.heap.size + 1, 1, none⟩ = some (.slice A3 n3 c3) := by
                cases h0 : L.getD 4 false
                · exact hcell.out _ (s0_ h0)
                · exact (not_on hi (c4_ h0).2).elim
              replace s0_ := Lib.hid s0_
              replace s1_ := Lib.hid s1_
              replace s2_ := Lib.hid s2_
              replace s3_ := Lib.hid s3_
              replace s4_ := Lib.hid s4_
              replace c4_ := Lib.hid c4_
              replace c5_ := Lib.hid c5_
              replace c6_ := Lib.hid c6_
              replace c7_ := Lib.hid c7_
              replace l0_ := Lib.hid l0_
              replace l1_ := Lib.hid l1_
              replace l2_ := Lib.hid l2_
              replace l3_ := Lib.hid l3_
              replace l4_ := Lib.hid l4_
              replace l5_ := Lib.hid l5_
              replace l8_ := Lib.hid l8_
              rw [hae]
              clear hae
              simp only [holeRD8, List.setIfInBounds_toArray, List.set_cons_zero, List.set_cons_succ]
              go_simp
              exact hKK _ _ ⟨v48, v49, v50, (.agg #[.bool neg3, .slice A3 n3 c3]), v52, v53, v6, (by simp only [holeRD8, Act.put, List.setIfInBounds_toArray, List.set_cons_zero, List.set_cons_succ]), by simpa using hsz, fun e2 => s0_.out (by rwa [gs_off (by decide)] at e2), fun e e2 => s1_.out (by rwa [gs_off (by decide)] at e) (by rwa [gs_off (by decide)] at e2), fun e e2 => s2_.out (by rwa [gs_off (by decide)] at e) (by rwa [gs_off (by decide)] at e2), fun e e2 => s3_.out (by rwa [gs_off (by decide)] at e) (by rwa [gs_off (by decide)] at e2), fun e => s4_.out (by rwa [gs_off (by decide)] at e), fun e => (not_on hi (c4_.out (by rwa [gs_off (by decide)] at e)).2).elim, fun e => (not_on hi (c5_.out (by rwa [gs_off (by decide)] at e)).2.2.2).elim, fun e => (not_on hi (c6_.out (by rwa [gs_off (by decide)] at e)).2.2.2.2.2).elim, fun e => (not_on hi (c7_.out (by rwa [gs_off (by decide)] at e)).2.2.2.2.2.1).elim, fun e => l0_.out (by rwa [gs_off (by decide)] at e), fun e => l1_.out (by rwa [gs_off (by decide)] at e), fun e => l2_.out (by rwa [gs_off (by decide)] at e), fun _ => rfl, fun e => l4_.out (by rwa [gs_off (by decide)] at e), fun e => l5_.out (by rwa [gs_off (by decide)] at e), fun e => l8_.out (by rwa [gs_off (by decide)] at e)⟩
            · unfold StepAt
              intro L a w1 KK hI hi ha hKK
              unfold IRD8 at hI
              obtain ⟨v48, v49, v50, v51, v52, v53, v6, hae, hsz, s0_, s1_, s2_, s3_, s4_, c4_, c5_, c6_, c7_, l0_, l1_, l2_, l3_, l4_, l5_, l8_⟩ := hI
              have hoff : L.getD 4 false = false := by
                cases h : L.getD 4 false
                · rfl
                · exact (not_on hi h).elim
              have hP := s0_ hoff
              have q2 := ha { on := 2, ground := Ground.data } (by simp) rfl
              have e2 := l2_ q2
              subst e2
              have q3 := ha { on := 3, ground := Ground.data } (by simp) rfl
              have e3 := l3_ q3
              subst e3
              replace s0_ := Lib.hid s0_
              replace s1_ := Lib.hid s1_
              replace s2_ := Lib.hid s2_
              replace s3_ := Lib.hid s3_
              replace s4_ := Lib.hid s4_
              replace c4_ := Lib.hid c4_
              replace c5_ := Lib.hid c5_
              replace c6_ := Lib.hid c6_
              replace c7_ := Lib.hid c7_
              replace l0_ := Lib.hid l0_
              replace l1_ := Lib.hid l1_
              replace l2_ := Lib.hid l2_
              replace l3_ := Lib.hid l3_
              replace l4_ := Lib.hid l4_
              replace l5_ := Lib.hid l5_
              replace l8_ := Lib.hid l8_
              rw [hae]
              clear hae
              simp only [holeRD8, List.setIfInBounds_toArray, List.set_cons_zero, List.set_cons_succ]
              replace hKK := Lib.hid hKK
              go_wp2_with (go_at_call 35; refine (rMul_any _ _ _ _ _ _ _ _ _ _ (k + 4) k w1 (iQ.below hP).vi (i3.below hP).vi (by omega) (by omega)).mono ?_; rintro e w7 ⟨neg7, A17, n17, c17, rfl, hi7, hb17⟩)
              exact hKK.out _ _ ⟨v48, v49, (.agg #[.bool neg9, .slice A9 n9 c9]), (.agg #[.bool neg3, .slice A3 n3 c3]), (.agg #[.bool neg7, .slice A17 n17 c17]), v53, v6, (by simp only [holeRD8, Act.put, List.setIfInBounds_toArray, List.set_cons_zero, List.set_cons_succ]), by simpa using hsz, fun e => by (exfalso; revert e; simp [Array.getD_eq_getD_getElem?, hsz]), fun _ _ => ⟨hP.trans (hb17.mono hP.size), _, _, _, _, rfl, hi7⟩, fun e _ => (not_on hi (c5_.out (by rwa [gs_off (by decide)] at e)).2.1).elim, fun e _ => (not_on hi (c6_.out (by rwa [gs_off (by decide)] at e)).2.2.2.1).elim, fun e => (not_on hi (c7_.out (by rwa [gs_off (by decide)] at e)).2.2.2.2.2.2).elim, fun _ => ⟨by rw [gs_off (by decide)]; exact ha { on := 2, ground := Ground.data } (by simp) rfl, by rw [gs_off (by decide)]; exact ha { on := 3, ground := Ground.data } (by simp) rfl⟩, fun e => (not_on hi (c5_.out (by rwa [gs_off (by decide)] at e)).2.1).elim, fun e => (not_on hi (c6_.out (by rwa [gs_off (by decide)] at e)).2.2.2.1).elim, fun e => (not_on hi (c7_.out (by rwa [gs_off (by decide)] at e)).2.2.2.2.2.2).elim, fun e => l0_.out (by rwa [gs_off (by decide)] at e), fun e => l1_.out (by rwa [gs_off (by decide)] at e), fun _ => rfl, fun _ => rfl, fun _ => trivial, fun e => l5_.out (by rwa [gs_off (by decide)] at e), fun e => l8_.out (by rwa [gs_off (by decide)] at e)⟩
            · unfold StepAt
              intro L a w1 KK hI hi ha hKK
              unfold IRD8 at hI
              obtain ⟨v48, v49, v50, v51, v52, v53, v6, hae, hsz, s0_, s1_, s2_, s3_, s4_, c4_, c5_, c6_, c7_, l0_, l1_, l2_, l3_, l4_, l5_, l8_⟩ := hI
              have hoff : L.getD 5 false = false := by
                cases h : L.getD 5 false
                · rfl
                · exact (not_on hi h).elim
              have hon := ha { on := 4, ground := Ground.data } (by simp) rfl
              have hP := s1_ hon hoff
              have q1 := ha { on := 1, ground := Ground.data } (by simp) rfl
              have e1 := l1_ q1
              subst e1
              have q4 := ha { on := 4, ground := Ground.data } (by simp) rfl
              have e4 := l4_ q4
              obtain ⟨hbl, ⟨b5, A15, n15, c15, e52, hi52⟩⟩ := hP
              subst e52
              replace s0_ := Lib.hid s0_
              replace s1_ := Lib.hid s1_
              replace s2_ := Lib.hid s2_
              replace s3_ := Lib.hid s3_
              replace s4_ := Lib.hid s4_
              replace c4_ := Lib.hid c4_
              replace c5_ := Lib.hid c5_
              replace c6_ := Lib.hid c6_
              replace c7_ := Lib.hid c7_
              replace l0_ := Lib.hid l0_
              replace l1_ := Lib.hid l1_
              replace l2_ := Lib.hid l2_
              replace l3_ := Lib.hid l3_
              replace l4_ := Lib.hid l4_
              replace l5_ := Lib.hid l5_
              replace l8_ := Lib.hid l8_
              rw [hae]
              clear hae
              simp only [holeRD8, List.setIfInBounds_toArray, List.set_cons_zero, List.set_cons_succ]
              replace hKK := Lib.hid hKK
              go_wp2_with (go_at_call 34; refine (rSub_any _ _ _ _ x _ _ _ _ (dq x y * y) (k + 4 + k) w1 ((i1.below hbl).mono (by omega)).vi hi52.vi (by omega)).mono ?_; rintro e w7 ⟨neg7, A17, n17, c17, rfl, hi7, hb17⟩)
              exact hKK.out _ _ ⟨v48, (.agg #[.bool neg1, .slice A1 n1 c1]), v50, v51, (.agg #[.bool b5, .slice A15 n15 c15]), (.agg #[.bool neg7, .slice A17 n17 c17]), v6, (by simp only [holeRD8, Act.put, List.setIfInBounds_toArray, List.set_cons_zero, List.set_cons_succ]), by simpa using hsz, fun e => by (have t := ha { on := 4, ground := Ground.data } (by simp) rfl; rw [gs_off (by decide)] at e; rw [e] at t; cases t), fun _ e => by (exfalso; revert e; simp [Array.getD_eq_getD_getElem?, hsz]), fun _ _ => ⟨hbl.trans (hb17.mono hbl.size), _, _, _, _, rfl, hi7.mono (by omega)⟩, fun e _ => (not_on hi (c6_.out (by rwa [gs_off (by decide)] at e)).2.1).elim, fun e => (not_on hi (c7_.out (by rwa [gs_off (by decide)] at e)).1).elim, fun e => ⟨by rw [gs_off (by decide)]; exact (c4_.out (by rwa [gs_off (by decide)] at e)).1, by rw [gs_off (by decide)]; exact (c4_.out (by rwa [gs_off (by decide)] at e)).2⟩, fun _ => ⟨by rw [gs_off (by decide)]; exact ha { on := 1, ground := Ground.data } (by simp) rfl, by rw [gs_off (by decide)]; exact ha { on := 4, ground := Ground.data } (by simp) rfl, by rw [gs_off (by decide)]; exact (c4_.out (ha { on := 4, ground := Ground.data } (by simp) rfl)).1, by rw [gs_off (by decide)]; exact (c4_.out (ha { on := 4, ground := Ground.data } (by simp) rfl)).2⟩, fun e => (not_on hi (c6_.out (by rwa [gs_off (by decide)] at e)).2.1).elim, fun e => (not_on hi (c7_.out (by rwa [gs_off (by decide)] at e)).1).elim, fun e => l0_.out (by rwa [gs_off (by decide)] at e), fun _ => rfl, fun e => l2_.out (by rwa [gs_off (by decide)] at e), fun e => l3_.out (by rwa [gs_off (by decide)] at e), fun _ => trivial, fun _ => trivial, fun e => l8_.out (by rwa [gs_off (by decide)] at e)⟩
            · unfold StepAt
              intro L a w1 KK hI hi ha hKK
              unfold IRD8 at hI
              obtain ⟨v48, v49, v50, v51, v52, v53, v6, hae, hsz, s0_, s1_, s2_, s3_, s4_, c4_, c5_, c6_, c7_, l0_, l1_, l2_, l3_, l4_, l5_, l8_⟩ := hI
              have hoff : L.getD 6 false = false := by
                cases h : L.getD 6 false
                · rfl
                · exact (not_on hi h).elim
              have hon := ha { on := 5, ground := Ground.chain } (by simp) rfl
              have hP := s2_ hon hoff
              have q0 := ha { on := 0, ground := Ground.data } (by simp) rfl
              have e0 := l0_ q0
              subst e0
              obtain ⟨hbl, hiv⟩ := hP
              obtain ⟨x1, x2, x3, x4, x5⟩ := hbox3.out _ hbl
              replace s0_ := Lib.hid s0_
              replace s1_ := Lib.hid s1_
              replace s2_ := Lib.hid s2_
              replace s3_ := Lib.hid s3_
              replace s4_ := Lib.hid s4_
              replace c4_ := Lib.hid c4_
              replace c5_ := Lib.hid c5_
              replace c6_ := Lib.hid c6_
              replace c7_ := Lib.hid c7_
              replace l0_ := Lib.hid l0_
              replace l1_ := Lib.hid l1_
              replace l2_ := Lib.hid l2_
              replace l3_ := Lib.hid l3_
              replace l4_ := Lib.hid l4_
              replace l5_ := Lib.hid l5_
              replace l8_ := Lib.hid l8_
              rw [hae]
              clear hae
              simp only [holeRD8, List.setIfInBounds_toArray, List.set_cons_zero, List.set_cons_succ]
              go_simp
              exact hKK _ _ ⟨(.agg #[.bool neg9, .slice A9 n9 c9]), v49, v50, v51, v52, v53, v6, (by simp only [holeRD8, Act.put, List.setIfInBounds_toArray, List.set_cons_zero, List.set_cons_succ]), by simpa using hsz, fun e => by (have t := (c5_.out (ha { on := 5, ground := Ground.chain } (by simp) rfl)).2.1; rw [gs_off (by decide)] at e; rw [e] at t; cases t), fun _ e => by (have t := ha { on := 5, ground := Ground.chain } (by simp) rfl; rw [gs_off (by decide)] at e; rw [e] at t; cases t), fun _ e => by (exfalso; revert e; simp [Array.getD_eq_getD_getElem?, hsz]), fun _ _ => ⟨w1, ⟨hbl, hiv⟩, rfl⟩, fun e => (not_on hi (c7_.out (by rwa [gs_off (by decide)] at e)).2.1).elim, fun e => ⟨by rw [gs_off (by decide)]; exact (c4_.out (by rwa [gs_off (by decide)] at e)).1, by rw [gs_off (by decide)]; exact (c4_.out (by rwa [gs_off (by decide)] at e)).2⟩, fun e => ⟨by rw [gs_off (by decide)]; exact (c5_.out (by rwa [gs_off (by decide)] at e)).1, by rw [gs_off (by decide)]; exact (c5_.out (by rwa [gs_off (by decide)] at e)).2.1, by rw [gs_off (by decide)]; exact (c5_.out (by rwa [gs_off (by decide)] at e)).2.2.1, by rw [gs_off (by decide)]; exact (c5_.out (by rwa [gs_off (by decide)] at e)).2.2.2⟩, fun _ => ⟨by rw [gs_off (by decide)]; exact ha { on := 0, ground := Ground.data } (by simp) rfl, by rw [gs_off (by decide)]; exact ha { on := 5, ground := Ground.chain } (by simp) rfl, by rw [gs_off (by decide)]; exact (c5_.out (ha { on := 5, ground := Ground.chain } (by simp) rfl)).1, by rw [gs_off (by decide)]; exact (c5_.out (ha { on := 5, ground := Ground.chain } (by simp) rfl)).2.1, by rw [gs_off (by decide)]; exact (c5_.out (ha { on := 5, ground := Ground.chain } (by simp) rfl)).2.2.1, by rw [gs_off (by decide)]; exact (c5_.out (ha { on := 5, ground := Ground.chain } (by simp) rfl)).2.2.2⟩, fun e => (not_on hi (c7_.out (by rwa [gs_off (by decide)] at e)).2.1).elim, fun _ => rfl, fun e => l1_.out (by rwa [gs_off (by decide)] at e), fun e => l2_.out (by rwa [gs_off (by decide)] at e), fun e => l3_.out (by rwa [gs_off (by decide)] at e), fun e => l4_.out (by rwa [gs_off (by decide)] at e), fun e => l5_.out (by rwa [gs_off (by decide)] at e), fun e => l8_.out (by rwa [gs_off (by decide)] at e)⟩
            · unfold StepAt
              intro L a w1 KK hI hi ha hKK
              unfold IRD8 at hI
              obtain ⟨v48, v49, v50, v51, v52, v53, v6, hae, hsz, s0_, s1_, s2_, s3_, s4_, c4_, c5_, c6_, c7_, l0_, l1_, l2_, l3_, l4_, l5_, l8_⟩ := hI
              have hoff : L.getD 7 false = false := by
                cases h : L.getD 7 false
                · rfl
                · exact (not_on hi h).elim
              have hon := ha { on := 6, ground := Ground.chain } (by simp) rfl
              have hP := s3_ hon hoff
              have q5 := ha { on := 5, ground := Ground.data } (by simp) rfl
              have e5 := l5_ q5
              obtain ⟨w8, ⟨hbl, ⟨b9, A10, n10, c10, e53, hi53⟩⟩, hw1⟩ := hP
              subst e53
              obtain ⟨x1, x2, x3, x4, x5⟩ : Bx w1 (w.heap.size + 1 + 1 + 1) (.bool false) (.slice none 0 0) := by
                rw [hw1]
                exact ((hbox4.out _ hbl).far (by dsimp only; omega) _).far (by dsimp only; omega) _
              replace hw1 := Lib.hid hw1
              replace s0_ := Lib.hid s0_
              replace s1_ := Lib.hid s1_
              replace s2_ := Lib.hid s2_
              replace s3_ := Lib.hid s3_
              replace s4_ := Lib.hid s4_
              replace c4_ := Lib.hid c4_
              replace c5_ := Lib.hid c5_
              replace c6_ := Lib.hid c6_
              replace c7_ := Lib.hid c7_
              replace l0_ := Lib.hid l0_
              replace l1_ := Lib.hid l1_
              replace l2_ := Lib.hid l2_
              replace l3_ := Lib.hid l3_
              replace l4_ := Lib.hid l4_
              replace l5_ := Lib.hid l5_
              replace l8_ := Lib.hid l8_
              rw [hae]
              clear hae
              simp only [holeRD8, List.setIfInBounds_toArray, List.set_cons_zero, List.set_cons_succ]
              go_simp
              exact hKK _ _ ⟨v48, v49, v50, v51, v52, (.agg #[.bool b9, .slice A10 n10 c10]), v6, (by simp only [holeRD8, Act.put, List.setIfInBounds_toArray, List.set_cons_zero, List.set_cons_succ]), by simpa using hsz, fun e => by (have t := ha { on := 4, ground := Ground.phase } (by simp) rfl; rw [gs_off (by decide)] at e; rw [e] at t; cases t), fun _ e => by (have t := ha { on := 5, ground := Ground.data } (by simp) rfl; rw [gs_off (by decide)] at e; rw [e] at t; cases t), fun _ e => by (have t := ha { on := 6, ground := Ground.chain } (by simp) rfl; rw [gs_off (by decide)] at e; rw [e] at t; cases t), fun _ e => by (exfalso; revert e; simp [Array.getD_eq_getD_getElem?, hsz]), fun _ => ⟨w8, b9, A10, n10, c10, ⟨hbl, hi53⟩, by rw [hw1.out]⟩, fun e => ⟨by rw [gs_off (by decide)]; exact (c4_.out (by rwa [gs_off (by decide)] at e)).1, by rw [gs_off (by decide)]; exact (c4_.out (by rwa [gs_off (by decide)] at e)).2⟩, fun e => ⟨by rw [gs_off (by decide)]; exact (c5_.out (by rwa [gs_off (by decide)] at e)).1, by rw [gs_off (by decide)]; exact (c5_.out (by rwa [gs_off (by decide)] at e)).2.1, by rw [gs_off (by decide)]; exact (c5_.out (by rwa [gs_off (by decide)] at e)).2.2.1, by rw [gs_off (by decide)]; exact (c5_.out (by rwa [gs_off (by decide)] at e)).2.2.2⟩, fun e => ⟨by rw [gs_off (by decide)]; exact (c6_.out (by rwa [gs_off (by decide)] at e)).1, by rw [gs_off (by decide)]; exact (c6_.out (by rwa [gs_off (by decide)] at e)).2.1, by rw [gs_off (by decide)]; exact (c6_.out (by rwa [gs_off (by decide)] at e)).2.2.1, by rw [gs_off (by decide)]; exact (c6_.out (by rwa [gs_off (by decide)] at e)).2.2.2.1, by rw [gs_off (by decide)]; exact (c6_.out (by rwa [gs_off (by decide)] at e)).2.2.2.2.1, by rw [gs_off (by decide)]; exact (c6_.out (by rwa [gs_off (by decide)] at e)).2.2.2.2.2⟩, fun _ => ⟨by rw [gs_off (by decide)]; exact ha { on := 5, ground := Ground.data } (by simp) rfl, by rw [gs_off (by decide)]; exact ha { on := 6, ground := Ground.chain } (by simp) rfl, by rw [gs_off (by decide)]; exact ha { on := 0, ground := Ground.phase } (by simp) rfl, by rw [gs_off (by decide)]; exact ha { on := 1, ground := Ground.phase } (by simp) rfl, by rw [gs_off (by decide)]; exact ha { on := 2, ground := Ground.phase } (by simp) rfl, by rw [gs_off (by decide)]; exact ha { on := 3, ground := Ground.phase } (by simp) rfl, by rw [gs_off (by decide)]; exact ha { on := 4, ground := Ground.phase } (by simp) rfl⟩, fun e => l0_.out (by rwa [gs_off (by decide)] at e), fun e => l1_.out (by rwa [gs_off (by decide)] at e), fun e => l2_.out (by rwa [gs_off (by decide)] at e), fun e => l3_.out (by rwa [gs_off (by decide)] at e), fun e => l4_.out (by rwa [gs_off (by decide)] at e), fun _ => trivial, fun e => l8_.out (by rwa [gs_off (by decide)] at e)⟩
            · unfold StepAt
              intro L a w1 KK hI hi ha hKK
              unfold IRD8 at hI
              obtain ⟨v48, v49, v50, v51, v52, v53, v6, hae, hsz, s0_, s1_, s2_, s3_, s4_, c4_, c5_, c6_, c7_, l0_, l1_, l2_, l3_, l4_, l5_, l8_⟩ := hI
              replace s0_ := Lib.hid s0_
              replace s1_ := Lib.hid s1_
              replace s2_ := Lib.hid s2_
              replace s3_ := Lib.hid s3_
              replace s4_ := Lib.hid s4_
              replace c4_ := Lib.hid c4_
              replace c5_ := Lib.hid c5_
              replace c6_ := Lib.hid c6_
              replace c7_ := Lib.hid c7_
              replace l0_ := Lib.hid l0_
              replace l1_ := Lib.hid l1_
              replace l2_ := Lib.hid l2_
              replace l3_ := Lib.hid l3_
              replace l4_ := Lib.hid l4_
              replace l5_ := Lib.hid l5_
              replace l8_ := Lib.hid l8_
              rw [hae]
              clear hae
              simp only [holeRD8, List.setIfInBounds_toArray, List.set_cons_zero, List.set_cons_succ]
              go_simp
              exact hKK _ _ ⟨v48, v49, v50, v51, v52, v53, (.int .i64 0), (by simp only [holeRD8, Act.put, List.setIfInBounds_toArray, List.set_cons_zero, List.set_cons_succ]), by simpa using hsz, fun e2 => s0_.out (by rwa [gs_off (by decide)] at e2), fun e e2 => s1_.out (by rwa [gs_off (by decide)] at e) (by rwa [gs_off (by decide)] at e2), fun e e2 => s2_.out (by rwa [gs_off (by decide)] at e) (by rwa [gs_off (by decide)] at e2), fun e e2 => s3_.out (by rwa [gs_off (by decide)] at e) (by rwa [gs_off (by decide)] at e2), fun e => s4_.out (by rwa [gs_off (by decide)] at e), fun e => ⟨by rw [gs_off (by decide)]; exact (c4_.out (by rwa [gs_off (by decide)] at e)).1, by rw [gs_off (by decide)]; exact (c4_.out (by rwa [gs_off (by decide)] at e)).2⟩, fun e => ⟨by rw [gs_off (by decide)]; exact (c5_.out (by rwa [gs_off (by decide)] at e)).1, by rw [gs_off (by decide)]; exact (c5_.out (by rwa [gs_off (by decide)] at e)).2.1, by rw [gs_off (by decide)]; exact (c5_.out (by rwa [gs_off (by decide)] at e)).2.2.1, by rw [gs_off (by decide)]; exact (c5_.out (by rwa [gs_off (by decide)] at e)).2.2.2⟩, fun e => ⟨by rw [gs_off (by decide)]; exact (c6_.out (by rwa [gs_off (by decide)] at e)).1, by rw [gs_off (by decide)]; exact (c6_.out (by rwa [gs_off (by decide)] at e)).2.1, by rw [gs_off (by decide)]; exact (c6_.out (by rwa [gs_off (by decide)] at e)).2.2.1, by rw [gs_off (by decide)]; exact (c6_.out (by rwa [gs_off (by decide)] at e)).2.2.2.1, by rw [gs_off (by decide)]; exact (c6_.out (by rwa [gs_off (by decide)] at e)).2.2.2.2.1, by rw [gs_off (by decide)]; exact (c6_.out (by rwa [gs_off (by decide)] at e)).2.2.2.2.2⟩, fun e => ⟨by rw [gs_off (by decide)]; exact (c7_.out (by rwa [gs_off (by decide)] at e)).1, by rw [gs_off (by decide)]; exact (c7_.out (by rwa [gs_off (by decide)] at e)).2.1, by rw [gs_off (by decide)]; exact (c7_.out (by rwa [gs_off (by decide)] at e)).2.2.1, by rw [gs_off (by decide)]; exact (c7_.out (by rwa [gs_off (by decide)] at e)).2.2.2.1, by rw [gs_off (by decide)]; exact (c7_.out (by rwa [gs_off (by decide)] at e)).2.2.2.2.1, by rw [gs_off (by decide)]; exact (c7_.out (by rwa [gs_off (by decide)] at e)).2.2.2.2.2.1, by rw [gs_off (by decide)]; exact (c7_.out (by rwa [gs_off (by decide)] at e)).2.2.2.2.2.2⟩, fun e => l0_.out (by rwa [gs_off (by decide)] at e), fun e => l1_.out (by rwa [gs_off (by decide)] at e), fun e => l2_.out (by rwa [gs_off (by decide)] at e), fun e => l3_.out (by rwa [gs_off (by decide)] at e), fun e => l4_.out (by rwa [gs_off (by decide)] at e), fun e => l5_.out (by rwa [gs_off (by decide)] at e), fun _ => rfl⟩
          · intro L a w1 hI hall
            unfold IRD8 at hI
            obtain ⟨v48, v49, v50, v51, v52, v53, v6, hae, hsz, s0_, s1_, s2_, s3_, s4_, c4_, c5_, c6_, c7_, l0_, l1_, l2_, l3_, l4_, l5_, l8_⟩ := hI
            have hP := s4_ (hall 7 (by decide))
            have e8 := l8_ (hall 8 (by decide))
            subst e8
            rw [hae]
            clear hae hsz s0_ s1_ s2_ s3_ s4_ c4_ c5_ c6_ c7_ l0_ l1_ l2_ l3_ l4_ l5_ hall
            simp only [holeRD8, List.setIfInBounds_toArray, List.set_cons_zero, List.set_cons_succ]
            obtain ⟨w8, b9, A10, n10, c10, ⟨hbl, hi53⟩, hw1⟩ := hP
            have x3 := hbox3.out _ hbl
            have x4 := hbox4.out _ hbl
            have y3 : Bx w1 (w.heap.size + 1 + 1) (.bool neg9) (.slice A9 n9 c9) := by
              rw [hw1]
              exact ((x3.set _ _).far (by dsimp only; omega) _).far (by dsimp only; omega) _
            have y4 : Bx w1 (w.heap.size + 1 + 1 + 1) (.bool b9) (.slice A10 n10 c10) := by
              rw [hw1]
              exact Bx.set ((x4.far (by dsimp only; omega) _).far (by dsimp only; omega) _) _ _
            have z1 : II w1 neg9 A9 n9 c9 (dq x y) (k + 4) := by
              rw [hw1]
              exact (iQ.below hbl).store4 x3.1 x3.2.1 x4.1 x4.2.1 (by omega) _ _ _ _
            have z2 : II w1 b9 A10 n10 c10 (dr x y) (2 * k + 8) := by
              rw [hw1]
              exact hi53.store4 x3.1 x3.2.1 x4.1 x4.2.1 (by omega) _ _ _ _
            have hbW : Below w.heap.size w w1 := by
              rw [hw1]
              repeat (first | exact hbY.trans (hbl.mono hbY.size) | refine Below.setCell ?_ (by dsimp only; omega) _)
            obtain ⟨k5, k6, -, -, -⟩ := y3
            obtain ⟨k7, k8, -, -, -⟩ := y4
            replace hw1 := Lib.hid hw1
            refine hKQ _ _ ?_
            go_wp2
            refine bodyPost_ret (v := .tuple #[.agg #[.bool neg9, .slice A9 n9 c9], .agg #[.bool b9, .slice A10 n10 c10], .int .i64 0]) (by simp [results, Tryd.results37, go_sem, k5, k6, k7, k8]) rfl ?_
            exact ⟨_, _, _, _, _, _, _, _, _, rfl, hbW, .inr ⟨hy0, rfl, z1, z2⟩⟩
        · have hq5 : sgnd true (x.natAbs / y.natAbs) - 1 = dq x y := by
            rw [dq_diff hdiff hr0]
            obtain ⟨Q, hQ⟩ : ∃ Q, x.natAbs / y.natAbs = Q := ⟨_, rfl⟩
            rw [hQ]
            unfold sgnd
            simp only [if_true]
            omega
          have hn6 : 0 < n6 := Nat.pos_of_ne_zero fun h => hr0 (hrm.len_zero.1 h)
          have hn6I : (0 : Int) < (n6 : Int) := by omega
          replace hr0 := Lib.hid hr0
          clear hdiff
          go_upto_region 6 with (go_at_call 54; refine (made_mm true _ _ _ (x.natAbs / y.natAbs) k _ hqm (by omega)).mono ?_; rintro e w4 ⟨neg9, A9, n9, c9, rfl, i9, hb9⟩)
          have hl3 := q4.2.2.2.2
          have hs34 := hb9.size
          have ha4 := (Below.refl w4.heap.size w4).alloc (Nat.le_refl _) (.cells #[.bool neg9, .slice A9 n9 c9] 24)
          have p1 : Bx (w4.alloc (.cells #[.bool neg9, .slice A9 n9 c9] 24)) w.heap.size (.bool neg1) (.slice A1 n1 c1) := (q1.below hb9).alloc _
          have p2 : Bx (w4.alloc (.cells #[.bool neg9, .slice A9 n9 c9] 24)) (w.heap.size + 1) (.bool neg3) (.slice A3 n3 c3) := (q2.below hb9).alloc _
          have p3 : Bx (w4.alloc (.cells #[.bool neg9, .slice A9 n9 c9] 24)) (w.heap.size + 1 + 1) (.bool false) (.slice none 0 0) := (q3.below hb9).alloc _
          have p4 : Bx (w4.alloc (.cells #[.bool neg9, .slice A9 n9 c9] 24)) (w.heap.size + 1 + 1 + 1) (.bool false) (.slice none 0 0) := (q4.below hb9).alloc _
          have p9 : Bx (w4.alloc (.cells #[.bool neg9, .slice A9 n9 c9] 24)) w4.heap.size (.bool neg9) (.slice A9 n9 c9) := Bx.new w4 _ _ _
          replace i1 : II (w4.alloc (.cells #[.bool neg9, .slice A9 n9 c9] 24)) neg1 A1 n1 c1 x k := (i1.below hb9).below ha4
          replace i3 : II (w4.alloc (.cells #[.bool neg9, .slice A9 n9 c9] 24)) neg3 A3 n3 c3 y k := (i3.below hb9).below ha4
          replace i9 : II (w4.alloc (.cells #[.bool neg9, .slice A9 n9 c9] 24)) neg9 A9 n9 c9 (sgnd true (x.natAbs / y.natAbs)) k := i9.below ha4
          have hbY : Below w.heap.size w (w4.alloc (.cells #[.bool neg9, .slice A9 n9 c9] 24)) := by
            have h4 := hb6.trans (hb9.mono hb6.size)
            exact h4.alloc h4.size _
          have hg9 : w.heap.size + 1 + 1 + 1 < w4.heap.size := by omega
          obtain ⟨k1, k2, -, -, -⟩ := id p1
          obtain ⟨k3, k4, -, -, -⟩ := id p2
          clear q1 q2 q3 q4 hb9 ha4 hqm hb6 hl3 hs34
          generalize w4.alloc (.cells #[.bool neg9, .slice A9 n9 c9] 24) = Y at p1 p2 p3 p4 p9 i1 i3 i9 hbY k1 k2 k3 k4 ⊢
          generalize w4.heap.size = g9 at p9 hg9 ⊢
          clear hrm g1 g2 g3 g4
          go_wp2
          rename_i KQ hKQ
          clear k1 k2 k3 k4
          have hcell : ∀ w', Below Y.heap.size Y w' → w'.cell? ⟨g9, 0, none⟩ = some (.bool neg9) ∧ w'.cell? ⟨g9, 1, none⟩ = some (.slice A9 n9 c9) := fun w' h => ⟨(p9.below h).1, (p9.below h).2.1⟩
          have hbox9 := fun w' (h : Below Y.heap.size Y w') => p9.below h
          replace hcell := Lib.hid hcell
          replace hbox9 := Lib.hid hbox9
          obtain ⟨zm, hzm⟩ : ∃ z, sgnd true (x.natAbs / y.natAbs) = z := ⟨_, rfl⟩
          rw [hzm] at i9 hq5
          replace hzm := Lib.hid hzm
          replace hq5 := Lib.hid hq5
          refine wp_region_inv0 (I0 := IRD7 Y g9 (k + 3 + 1) (zm - 1) (.agg #[.bool neg9, .slice A9 n9 c9])) (by kernel_rfl) (by kernel_rfl) ?_ ?_ ?_ ?_
          · intro L a w1 hI
            unfold IRD7 at hI
            obtain ⟨v45, v46, v47, hae, hsz, -⟩ := hI
            exact hsz
          · exact ⟨undef, undef, undef, (by simp only [holeRD7, Act.put, List.setIfInBounds_toArray, List.set_cons_zero, List.set_cons_succ]), by simp, fun _ => (Below.refl _ _).drew, fun h _ => by simp at h, fun h _ => by simp at h, fun h => by simp at h, fun h => by simp at h, fun h => by simp at h, fun h => by simp at h, fun h => by simp at h, fun h => by simp at h⟩
          · refine steps_cons ?_ (steps_cons ?_ (steps_cons ?_ (steps_cons ?_ (steps_nil))))
            · unfold StepAt
              intro L a w1 KK hI hi ha hKK
              unfold IRD7 at hI
              obtain ⟨v45, v46, v47, hae, hsz, s0_, s1_, s2_, s3_, c2_, c3_, l0_, l1_, l2_⟩ := hI
              obtain ⟨j1, j2⟩ : w1.cell? ⟨g9, 0, none⟩ = some (.bool neg9) ∧ w1.cell? ⟨g9, 1, none⟩ = some (.slice A9 n9 c9) := by
                cases h0 : L.getD 1 false
                · exact hcell.out _ (s0_ h0)
                · cases h1 : L.getD 2 false
                  · exact hcell.out _ (s1_ h0 h1).1
                  · exact (not_on hi (c2_ h1).1).elim
              replace s0_ := Lib.hid s0_
              replace s1_ := Lib.hid s1_
              replace s2_ := Lib.hid s2_
              replace s3_ := Lib.hid s3_
              replace c2_ := Lib.hid c2_
              replace c3_ := Lib.hid c3_
              replace l0_ := Lib.hid l0_
              replace l1_ := Lib.hid l1_
              replace l2_ := Lib.hid l2_
              rw [hae]
              clear hae
              simp only [holeRD7, List.setIfInBounds_toArray, List.set_cons_zero, List.set_cons_succ]
              go_simp
              exact hKK _ _ ⟨(.agg #[.bool neg9, .slice A9 n9 c9]), v46, v47, (by simp only [holeRD7, Act.put, List.setIfInBounds_toArray, List.set_cons_zero, List.set_cons_succ]), by simpa using hsz, fun e2 => s0_.out (by rwa [gs_off (by decide)] at e2), fun e e2 => s1_.out (by rwa [gs_off (by decide)] at e) (by rwa [gs_off (by decide)] at e2), fun e e2 => s2_.out (by rwa [gs_off (by decide)] at e) (by rwa [gs_off (by decide)] at e2), fun e => s3_.out (by rwa [gs_off (by decide)] at e), fun e => (not_on hi (c2_.out (by rwa [gs_off (by decide)] at e)).1).elim, fun e => (not_on hi (c3_.out (by rwa [gs_off (by decide)] at e)).2.1).elim, fun _ => rfl, fun e => l1_.out (by rwa [gs_off (by decide)] at e), fun e => l2_.out (by rwa [gs_off (by decide)] at e)⟩
            · unfold StepAt
              intro L a w1 KK hI hi ha hKK
              unfold IRD7 at hI
              obtain ⟨v45, v46, v47, hae, hsz, s0_, s1_, s2_, s3_, c2_, c3_, l0_, l1_, l2_⟩ := hI
              have hoff : L.getD 1 false = false := by
                cases h : L.getD 1 false
                · rfl
                · exact (not_on hi h).elim
              have hP := s0_ hoff
              replace s0_ := Lib.hid s0_
              replace s1_ := Lib.hid s1_
              replace s2_ := Lib.hid s2_
              replace s3_ := Lib.hid s3_
              replace c2_ := Lib.hid c2_
              replace c3_ := Lib.hid c3_
              replace l0_ := Lib.hid l0_
              replace l1_ := Lib.hid l1_
              replace l2_ := Lib.hid l2_
              rw [hae]
              clear hae
              simp only [holeRD7, List.setIfInBounds_toArray, List.set_cons_zero, List.set_cons_succ]
              replace hKK := Lib.hid hKK
              go_wp2_with (go_at_call 29; refine (rOf_any 1 (by omega) (by omega) w1).mono ?_; rintro e w7 ⟨neg7, A17, n17, c17, rfl, hi7, hb17⟩)
              exact hKK.out _ _ ⟨v45, (.agg #[.bool neg7, .slice A17 n17 c17]), v47, (by simp only [holeRD7, Act.put, List.setIfInBounds_toArray, List.set_cons_zero, List.set_cons_succ]), by simpa using hsz, fun e => by (exfalso; revert e; simp [Array.getD_eq_getD_getElem?, hsz]), fun _ _ => ⟨hP.trans (hb17.mono hP.size), _, _, _, _, rfl, hi7⟩, fun e _ => (not_on hi (c2_.out (by rwa [gs_off (by decide)] at e)).2).elim, fun e => (not_on hi (c3_.out (by rwa [gs_off (by decide)] at e)).2.2).elim, fun e => (not_on hi (c2_.out (by rwa [gs_off (by decide)] at e)).2).elim, fun e => (not_on hi (c3_.out (by rwa [gs_off (by decide)] at e)).2.2).elim, fun e => l0_.out (by rwa [gs_off (by decide)] at e), fun _ => trivial, fun e => l2_.out (by rwa [gs_off (by decide)] at e)⟩
            · unfold StepAt
              intro L a w1 KK hI hi ha hKK
              unfold IRD7 at hI
              obtain ⟨v45, v46, v47, hae, hsz, s0_, s1_, s2_, s3_, c2_, c3_, l0_, l1_, l2_⟩ := hI
              have hoff : L.getD 2 false = false := by
                cases h : L.getD 2 false
                · rfl
                · exact (not_on hi h).elim
              have hon := ha { on := 1, ground := Ground.data } (by simp) rfl
              have hP := s1_ hon hoff
              have q0 := ha { on := 0, ground := Ground.data } (by simp) rfl
              have e0 := l0_ q0
              subst e0
              have q1 := ha { on := 1, ground := Ground.data } (by simp) rfl
              have e1 := l1_ q1
              obtain ⟨hbl, ⟨b5, A15, n15, c15, e46, hi46⟩⟩ := hP
              subst e46
              replace s0_ := Lib.hid s0_
              replace s1_ := Lib.hid s1_
              replace s2_ := Lib.hid s2_
              replace s3_ := Lib.hid s3_
              replace c2_ := Lib.hid c2_
              replace c3_ := Lib.hid c3_
              replace l0_ := Lib.hid l0_
              replace l1_ := Lib.hid l1_
              replace l2_ := Lib.hid l2_
              rw [hae]
              clear hae
              simp only [holeRD7, List.setIfInBounds_toArray, List.set_cons_zero, List.set_cons_succ]
              replace hKK := Lib.hid hKK
              go_wp2_with (go_at_call 34; refine (rSub_any _ _ _ _ zm _ _ _ _ 1 (k + 3) w1 ((i9.below hbl).mono (by omega)).vi (hi46.mono (by omega)).vi (by omega)).mono ?_; rintro e w7 ⟨neg7, A17, n17, c17, rfl, hi7, hb17⟩)
              exact hKK.out _ _ ⟨(.agg #[.bool neg9, .slice A9 n9 c9]), (.agg #[.bool b5, .slice A15 n15 c15]), (.agg #[.bool neg7, .slice A17 n17 c17]), (by simp only [holeRD7, Act.put, List.setIfInBounds_toArray, List.set_cons_zero, List.set_cons_succ]), by simpa using hsz, fun e => by (have t := ha { on := 1, ground := Ground.data } (by simp) rfl; rw [gs_off (by decide)] at e; rw [e] at t; cases t), fun _ e => by (exfalso; revert e; simp [Array.getD_eq_getD_getElem?, hsz]), fun _ _ => ⟨hbl.trans (hb17.mono hbl.size), _, _, _, _, rfl, hi7⟩, fun e => (not_on hi (c3_.out (by rwa [gs_off (by decide)] at e)).1).elim, fun _ => ⟨by rw [gs_off (by decide)]; exact ha { on := 0, ground := Ground.data } (by simp) rfl, by rw [gs_off (by decide)]; exact ha { on := 1, ground := Ground.data } (by simp) rfl⟩, fun e => (not_on hi (c3_.out (by rwa [gs_off (by decide)] at e)).1).elim, fun _ => rfl, fun _ => trivial, fun _ => trivial⟩
            · unfold StepAt
              intro L a w1 KK hI hi ha hKK
              unfold IRD7 at hI
              obtain ⟨v45, v46, v47, hae, hsz, s0_, s1_, s2_, s3_, c2_, c3_, l0_, l1_, l2_⟩ := hI
              have hoff : L.getD 3 false = false := by
                cases h : L.getD 3 false
                · rfl
                · exact (not_on hi h).elim
              have hon := ha { on := 2, ground := Ground.data } (by simp) rfl
              have hP := s2_ hon hoff
              have q2 := ha { on := 2, ground := Ground.data } (by simp) rfl
              have e2 := l2_ q2
              obtain ⟨hbl, ⟨b9, A10, n10, c10, e47, hi47⟩⟩ := hP
              subst e47
              obtain ⟨x1, x2, x3, x4, x5⟩ := hbox9.out _ hbl
              replace s0_ := Lib.hid s0_
              replace s1_ := Lib.hid s1_
              replace s2_ := Lib.hid s2_
              replace s3_ := Lib.hid s3_
              replace c2_ := Lib.hid c2_
              replace c3_ := Lib.hid c3_
              replace l0_ := Lib.hid l0_
              replace l1_ := Lib.hid l1_
              replace l2_ := Lib.hid l2_
              rw [hae]
              clear hae
              simp only [holeRD7, List.setIfInBounds_toArray, List.set_cons_zero, List.set_cons_succ]
              go_simp
              exact hKK _ _ ⟨v45, v46, (.agg #[.bool b9, .slice A10 n10 c10]), (by simp only [holeRD7, Act.put, List.setIfInBounds_toArray, List.set_cons_zero, List.set_cons_succ]), by simpa using hsz, fun e => by (have t := ha { on := 1, ground := Ground.phase } (by simp) rfl; rw [gs_off (by decide)] at e; rw [e] at t; cases t), fun _ e => by (have t := ha { on := 2, ground := Ground.data } (by simp) rfl; rw [gs_off (by decide)] at e; rw [e] at t; cases t), fun _ e => by (exfalso; revert e; simp [Array.getD_eq_getD_getElem?, hsz]), fun _ => ⟨w1, b9, A10, n10, c10, ⟨hbl, hi47⟩, rfl⟩, fun e => ⟨by rw [gs_off (by decide)]; exact (c2_.out (by rwa [gs_off (by decide)] at e)).1, by rw [gs_off (by decide)]; exact (c2_.out (by rwa [gs_off (by decide)] at e)).2⟩, fun _ => ⟨by rw [gs_off (by decide)]; exact ha { on := 2, ground := Ground.data } (by simp) rfl, by rw [gs_off (by decide)]; exact ha { on := 0, ground := Ground.phase } (by simp) rfl, by rw [gs_off (by decide)]; exact ha { on := 1, ground := Ground.phase } (by simp) rfl⟩, fun e => l0_.out (by rwa [gs_off (by decide)] at e), fun e => l1_.out (by rwa [gs_off (by decide)] at e), fun _ => trivial⟩
          · intro L a w1 hI hall
            unfold IRD7 at hI
            obtain ⟨v45, v46, v47, hae, hsz, s0_, s1_, s2_, s3_, c2_, c3_, l0_, l1_, l2_⟩ := hI
            have hP := s3_ (hall 3 (by decide))
            rw [hae]
            clear hae hsz s0_ s1_ s2_ s3_ c2_ c3_ l0_ l1_ l2_ hall
            simp only [holeRD7, List.setIfInBounds_toArray, List.set_cons_zero, List.set_cons_succ]
            obtain ⟨w8, b7, A7, n7, c7, ⟨hbl, hi10⟩, hw1⟩ := hP
            have x9 := hbox9.out _ hbl
            replace p1 : Bx w1 w.heap.size (.bool neg1) (.slice A1 n1 c1) := by
              rw [hw1]; exact ((p1.below hbl).far (by dsimp only; omega) _).far (by dsimp only; omega) _
            replace p2 : Bx w1 (w.heap.size + 1) (.bool neg3) (.slice A3 n3 c3) := by
              rw [hw1]; exact ((p2.below hbl).far (by dsimp only; omega) _).far (by dsimp only; omega) _
            replace p3 : Bx w1 (w.heap.size + 1 + 1) (.bool false) (.slice none 0 0) := by
              rw [hw1]; exact ((p3.below hbl).far (by dsimp only; omega) _).far (by dsimp only; omega) _
            replace p4 : Bx w1 (w.heap.size + 1 + 1 + 1) (.bool false) (.slice none 0 0) := by
              rw [hw1]; exact ((p4.below hbl).far (by dsimp only; omega) _).far (by dsimp only; omega) _
            replace p9 : Bx w1 g9 (.bool b7) (.slice A7 n7 c7) := by
              rw [hw1]; exact x9.set _ _
            replace i1 : II w1 neg1 A1 n1 c1 x k := by
              rw [hw1]; exact (i1.below hbl).set x9 _ _
            replace i3 : II w1 neg3 A3 n3 c3 y k := by
              rw [hw1]; exact (i3.below hbl).set x9 _ _
            have iQ : II w1 b7 A7 n7 c7 (dq x y) (k + 4) := by
              rw [hw1, ← hq5.out]; exact hi10.set x9 _ _
            replace hbY : Below w.heap.size w w1 := by
              rw [hw1]
              exact ((hbY.trans (hbl.mono hbY.size)).setCell (by dsimp only; omega) _).setCell (by dsimp only; omega) _
            clear hi10 hw1 x9 hcell hbox9 hbl w8 i9
            clear Y
            refine hKQ _ _ ?_
            clear hKQ KQ
            go_wp2
            rename_i KQ hKQ
            have hcell : ∀ w', Below w1.heap.size w1 w' → w'.cell? ⟨g9, 0, none⟩ = some (.bool b7) ∧ w'.cell? ⟨g9, 1, none⟩ = some (.slice A7 n7 c7) ∧ w'.cell? ⟨w.heap.size, 0, none⟩ = some (.bool neg1) ∧ w'.cell? ⟨w.heap.size, 1, none⟩ = some (.slice A1 n1 c1) ∧ w'.cell? ⟨w.heap.size + 1, 0, none⟩ = some (.bool neg3) ∧ w'.cell? ⟨w.heap.size + 1, 1, none⟩ = some (.slice A3 n3 c3) := fun w' h => ⟨(p9.below h).1, (p9.below h).2.1, (p1.below h).1, (p1.below h).2.1, (p2.below h).1, (p2.below h).2.1⟩
            have hbox3 := fun w' (h : Below w1.heap.size w1 w') => p3.below h
            have hbox4 := fun w' (h : Below w1.heap.size w1 w') => p4.below h
            replace hcell := Lib.hid hcell
            replace hbox3 := Lib.hid hbox3
            replace hbox4 := Lib.hid hbox4
            clear p1 p2 p3 p4 p9
            refine wp_region_inv0 (I0 := IRD8 w1 w.heap.size (k + 4 + k) (2 * k + 8) (dq x y * y) (x - dq x y * y) b7 A7 n7 c7 (.agg #[.bool b7, .slice A7 n7 c7]) (.agg #[.bool neg1, .slice A1 n1 c1]) (.agg #[.bool b7, .slice A7 n7 c7]) (.agg #[.bool neg3, .slice A3 n3 c3]) (.int .i64 0)) (by kernel_rfl) (by kernel_rfl) ?_ ?_ ?_ ?_
            · intro L a w1 hI
              unfold IRD8 at hI
              obtain ⟨v48, v49, v50, v51, v52, v53, v6, hae, hsz, -⟩ := hI
              exact hsz
            · exact ⟨undef, undef, undef, undef, undef, undef, (.int .i64 0), (by simp only [holeRD8, Act.put, List.setIfInBounds_toArray, List.set_cons_zero, List.set_cons_succ]), by simp, fun _ => (Below.refl _ _).drew, fun h _ => by simp at h, fun h _ => by simp at h, fun h _ => by simp at h, fun h => by simp at h, fun h => by simp at h, fun h => by simp at h, fun h => by simp at h, fun h => by simp at h, fun h => by simp at h, fun h => by simp at h, fun h => by simp at h, fun h => by simp at h, fun h => by simp at h, fun h => by simp at h, fun h => by simp at h⟩
            · refine steps_cons ?_ (steps_cons ?_ (steps_cons ?_ (steps_cons ?_ (steps_cons ?_ (steps_cons ?_ (steps_cons ?_ (steps_cons ?_ (steps_cons ?_ (steps_nil)))))))))
              · unfold StepAt
                intro L a w1 KK hI hi ha hKK
                unfold IRD8 at hI
                obtain ⟨v48, v49, v50, v51, v52, v53, v6, hae, hsz, s0_, s1_, s2_, s3_, s4_, c4_, c5_, c6_, c7_, l0_, l1_, l2_, l3_, l4_, l5_, l8_⟩ := hI
                obtain ⟨j1, j2, j3, j4, j5, j6⟩ : w1.cell? ⟨g9, 0, none⟩ = some (.bool b7) ∧ w1.cell? ⟨g9, 1, none⟩ = some (.slice A7 n7 c7) ∧ w1.cell? ⟨w.heap.size, 0, none⟩ = some (.bool neg1) ∧ w1.cell? ⟨w.heap.size, 1, none⟩ = some (.slice A1 n1 c1) ∧ w1.cell? ⟨w.heap.size + 1, 0, none⟩ = some (.bool neg3) ∧ w1.cell? ⟨w.heap.size + 1, 1, none⟩ = some (.slice A3 n3 c3) := by
                  cases h0 : L.getD 4 false
                  · exact hcell.out _ (s0_ h0)
                  · cases h1 : L.getD 5 false
                    · exact hcell.out _ (s1_ h0 h1).1
                    · cases h2 : L.getD 6 false
                      · exact hcell.out _ (s2_ h1 h2).1
                      · exact (not_on hi (c6_ h2).1).elim
                replace s0_ := Lib.hid s0_
                replace s1_ := Lib.hid s1_
                replace s2_ := Lib.hid s2_
                replace s3_ := Lib.hid s3_
                replace s4_ := Lib.hid s4_
                replace c4_ := Lib.hid c4_
                replace c5_ := Lib.hid c5_
                replace c6_ := Lib.hid c6_
                replace c7_ := Lib.hid c7_
                replace l0_ := Lib.hid l0_
                replace l1_ := Lib.hid l1_
                replace l2_ := Lib.hid l2_
                replace l3_ := Lib.hid l3_
                replace l4_ := Lib.hid l4_
                replace l5_ := Lib.hid l5_
                replace l8_ := Lib.hid l8_
                rw [hae]
                clear hae
                simp only [holeRD8, List.setIfInBounds_toArray, List.set_cons_zero, List.set_cons_succ]
                go_simp
                exact hKK _ _ ⟨(.agg #[.bool b7, .slice A7 n7 c7]), v49, v50, v51, v52, v53, v6, (by simp only [holeRD8, Act.put, List.setIfInBounds_toArray, List.set_cons_zero, List.set_cons_succ]), by simpa using hsz, fun e2 => s0_.out (by rwa [gs_off (by decide)] at e2), fun e e2 => s1_.out (by rwa [gs_off (by decide)] at e) (by rwa [gs_off (by decide)] at e2), fun e e2 => s2_.out (by rwa [gs_off (by decide)] at e) (by rwa [gs_off (by decide)] at e2), fun e e2 => s3_.out (by rwa [gs_off (by decide)] at e) (by rwa [gs_off (by decide)] at e2), fun e => s4_.out (by rwa [gs_off (by decide)] at e), fun e => ⟨by rw [gs_off (by decide)]; exact (c4_.out (by rwa [gs_off (by decide)] at e)).1, by rw [gs_off (by decide)]; exact (c4_.out (by rwa [gs_off (by decide)] at e)).2⟩, fun e => ⟨by rw [gs_off (by decide)]; exact (c5_.out (by rwa [gs_off (by decide)] at e)).1, by rw [gs_off (by decide)]; exact (c5_.out (by rwa [gs_off (by decide)] at e)).2.1, by rw [gs_off (by decide)]; exact (c5_.out (by rwa [gs_off (by decide)] at e)).2.2.1, by rw [gs_off (by decide)]; exact (c5_.out (by rwa [gs_off (by decide)] at e)).2.2.2⟩, fun e => (not_on hi (c6_.out (by rwa [gs_off (by decide)] at e)).1).elim, fun e => (not_on hi (c7_.out (by rwa [gs_off (by decide)] at e)).2.2.1).elim, fun _ => rfl, fun e => l1_.out (by rwa [gs_off (by decide)] at e), fun e => l2_.out (by rwa [gs_off (by decide)] at e), fun e => l3_.out (by rwa [gs_off (by decide)] at e), fun e => l4_.out (by rwa [gs_off (by decide)] at e), fun e => l5_.out (by rwa [gs_off (by decide)] at e), fun e => l8_.out (by rwa [gs_off (by decide)] at e)⟩
              · unfold StepAt
                intro L a w1 KK hI hi ha hKK
                unfold IRD8 at hI
                obtain ⟨v48, v49, v50, v51, v52, v53, v6, hae, hsz, s0_, s1_, s2_, s3_, s4_, c4_, c5_, c6_, c7_, l0_, l1_, l2_, l3_, l4_, l5_, l8_⟩ := hI
                obtain ⟨j1, j2, j3, j4, j5, j6⟩ : w1.cell? ⟨g9, 0, none⟩ = some (.bool b7) ∧ w1.cell? ⟨g9, 1, none⟩ = some (.slice A7 n7 c7) ∧ w1.cell? ⟨w.heap.size, 0, none⟩ = some (.bool neg1) ∧ w1.cell? ⟨w.heap.size, 1, none⟩ = some (.slice A1 n1 c1) ∧ w1.cell? ⟨w.heap.size + 1, 0, none⟩ = some (.bool neg3) ∧ w1.cell? ⟨w.heap.size + 1, 1, none⟩ = some (.slice A3 n3 c3) := by
                  cases h0 : L.getD 4 false
                  · exact hcell.out _ (s0_ h0)
                  · cases h1 : L.getD 5 false
                    · exact hcell.out _ (s1_ h0 h1).1
                    · exact (not_on hi (c5_ h1).1).elim
                replace s0_ := Lib.hid s0_
                replace s1_ := Lib.hid s1_
                replace s2_ := Lib.hid s2_
                replace s3_ := Lib.hid s3_
                replace s4_ := Lib.hid s4_
                replace c4_ := Lib.hid c4_
                replace c5_ := Lib.hid c5_
                replace c6_ := Lib.hid c6_
                replace c7_ := Lib.hid c7_
                replace l0_ := Lib.hid l0_
                replace l1_ := Lib.hid l1_
                replace l2_ := Lib.hid l2_
                replace l3_ := Lib.hid l3_
                replace l4_ := Lib.hid l4_
                replace l5_ := Lib.hid l5_
                replace l8_ := Lib.hid l8_
                rw [hae]
                clear hae
                simp only [holeRD8, List.setIfInBounds_toArray, List.set_cons_zero, List.set_cons_succ]
                go_simp
                exact hKK _ _ ⟨v48, (.agg #[.bool neg1, .slice A1 n1 c1]), v50, v51, v52, v53, v6, (by simp only [holeRD8, Act.put, List.setIfInBounds_toArray, List.set_cons_zero, List.set_cons_succ]), by simpa using hsz, fun e2 => s0_.out (by rwa [gs_off (by decide)] at e2), fun e e2 => s1_.out (by rwa [gs_off (by decide)] at e) (by rwa [gs_off (by decide)] at e2), fun e e2 => s2_.out (by rwa [gs_off (by decide)] at e) (by rwa [gs_off (by decide)] at e2), fun e e2 => s3_.out (by rwa [gs_off (by decide)] at e) (by rwa [gs_off (by decide)] at e2), fun e => s4_.out (by rwa [gs_off (by decide)] at e), fun e => ⟨by rw [gs_off (by decide)]; exact (c4_.out (by rwa [gs_off (by decide)] at e)).1, by rw [gs_off (by decide)]; exact (c4_.out (by rwa [gs_off (by decide)] at e)).2⟩, fun e => (not_on hi (c5_.out (by rwa [gs_off (by decide)] at e)).1).elim, fun e => (not_on hi (c6_.out (by rwa [gs_off (by decide)] at e)).2.2.1).elim, fun e => (not_on hi (c7_.out (by rwa [gs_off (by decide)] at e)).2.2.2.1).elim, fun e => l0_.out (by rwa [gs_off (by decide)] at e), fun _ => rfl, fun e => l2_.out (by rwa [gs_off (by decide)] at e), fun e => l3_.out (by rwa [gs_off (by decide)] at e), fun e => l4_.out (by rwa [gs_off (by decide)] at e), fun e => l5_.out (by rwa [gs_off (by decide)] at e), fun e => l8_.out (by rwa [gs_off (by decide)] at e)⟩
              · unfold StepAt
                intro L a w1 KK hI hi ha hKK
                unfold IRD8 at hI
                obtain ⟨v48, v49, v50, v51, v52, v53, v6, hae, hsz, s0_, s1_, s2_, s3_, s4_, c4_, c5_, c6_, c7_, l0_, l1_, l2_, l3_, l4_, l5_, l8_⟩ := hI
                obtain ⟨j1, j2, j3, j4, j5, j6⟩ : w1.cell? ⟨g9, 0, none⟩ = some (.bool b7) ∧ w1.cell? ⟨g9, 1, none⟩ = some (.slice A7 n7 c7) ∧ w1.cell? ⟨w.heap.size, 0, none⟩ = some (.bool neg1) ∧ w1.cell? ⟨w.heap.size, 1, none⟩ = some (.slice A1 n1 c1) ∧ w1.cell? ⟨w.heap.size + 1, 0, none⟩ = some (.bool neg3) ∧ w1.cell? ⟨w.heap.size + 1, 1, none⟩ = some (.slice A3 n3 c3) := by
                  cases h0 : L.getD 4 false
                  · exact hcell.out _ (s0_ h0)
                  · exact (not_on hi (c4_ h0).1).elim
                replace s0_ := Lib.hid s0_
                replace s1_ := Lib.hid s1_
                replace s2_ := Lib.hid s2_
                replace s3_ := Lib.hid s3_
                replace s4_ := Lib.hid s4_
                replace c4_ := Lib.hid c4_
                replace c5_ := Lib.hid c5_
                replace c6_ := Lib.hid c6_
                replace c7_ := Lib.hid c7_
                replace l0_ := Lib.hid l0_
                replace l1_ := Lib.hid l1_
                replace l2_ := Lib.hid l2_
                replace l3_ := Lib.hid l3_
                replace l4_ := Lib.hid l4_
                replace l5_ := Lib.hid l5_
                replace l8_ := Lib.hid l8_
                rw [hae]
                clear hae
                simp only [holeRD8, List.setIfInBounds_toArray, List.set_cons_zero, List.set_cons_succ]
                go_simp
                exact hKK _ _ ⟨v48, v49, (.agg #[.bool b7, .slice A7 n7 c7]), v51, v52, v53, v6, (by simp only [holeRD8, Act.put, List.setIfInBounds_toArray, List.set_cons_zero, List.set_cons_succ]), by simpa using hsz, fun e2 => s0_.out (by rwa [gs_off (by decide)] at e2), fun e e2 => s1_.out (by rwa [gs_off (by decide)] at e) (by rwa [gs_off (by decide)] at e2), fun e e2 => s2_.out (by rwa [gs_off (by decide)] at e) (by rwa [gs_off (by decide)] at e2), fun e e2 => s3_.out (by rwa [gs_off (by decide)] at e) (by rwa [gs_off (by decide)] at e2), fun e => s4_.out (by rwa [gs_off (by decide)] at e), fun e => (not_on hi (c4_.out (by rwa [gs_off (by decide)] at e)).1).elim, fun e => (not_on hi (c5_.out (by rwa [gs_off (by decide)] at e)).2.2.1).elim, fun e => (not_on hi (c6_.out (by rwa [gs_off (by decide)] at e)).2.2.2.2.1).elim, fun e => (not_on hi (c7_.out (by rwa [gs_off (by decide)] at e)).2.2.2.2.1).elim, fun e => l0_.out (by rwa [gs_off (by decide)] at e), fun e => l1_.out (by rwa [gs_off (by decide)] at e), fun _ => rfl, fun e => l3_.out (by rwa [gs_off (by decide)] at e), fun e => l4_.out (by rwa [gs_off (by decide)] at e), fun e => l5_.out (by rwa [gs_off (by decide)] at e), fun e => l8_.out (by rwa [gs_off (by decide)] at e)⟩
              · unfold StepAt
                intro L a w1 KK hI hi ha hKK
                unfold IRD8 at hI
                obtain ⟨v48, v49, v50, v51, v52, v53, v6, hae, hsz, s0_, s1_, s2_, s3_, s4_, c4_, c5_, c6_, c7_, l0_, l1_, l2_, l3_, l4_, l5_, l8_⟩ := hI
                obtain ⟨j1, j2, j3, j4, j5, j6⟩ : w1.cell? ⟨g9, 0, none⟩ = some (.bool b7) ∧ w1.cell? ⟨g9, 1, none⟩ = some (.slice A7 n7 c7) ∧ w1.cell? ⟨w.heap.size, 0, none⟩ = some (.bool neg1) ∧ w1.cell? ⟨w.heap.size, 1, none⟩ = some (.slice A1 n1 c1) ∧ w1.cell? ⟨w.heap.size + 1, 0, none⟩ = some (.bool neg3) ∧ w1.cell? ⟨w.heap.size + 1, 1, none⟩ = some (.slice A3 n3 c3) := by
                  cases h0 : L.getD 4 false
                  · exact hcell.out _ (s0_ h0)
                  · exact (not_on hi (c4_ h0).2).elim
                replace s0_ := Lib.hid s0_
                replace s1_ := Lib.hid s1_
                replace s2_ := Lib.hid s2_
                replace s3_ := Lib.hid s3_
                replace s4_ := Lib.hid s4_
                replace c4_ := Lib.hid c4_
                replace c5_ := Lib.hid c5_
                replace c6_ := Lib.hid c6_
                replace c7_ := Lib.hid c7_
                replace l0_ := Lib.hid l0_
                replace l1_ := Lib.hid l1_
                replace l2_ := Lib.hid l2_
                replace l3_ := Lib.hid l3_
                replace l4_ := Lib.hid l4_
                replace l5_ := Lib.hid l5_
                replace l8_ := Lib.hid l8_
                rw [hae]
                clear hae
                simp only [holeRD8, List.setIfInBounds_toArray, List.set_cons_zero, List.set_cons_succ]
                go_simp
                exact hKK _ _ ⟨v48, v49, v50, (.agg #[.bool neg3, .slice A3 n3 c3]), v52, v53, v6, (by simp only [holeRD8, Act.put, List.setIfInBounds_toArray, List.set_cons_zero, List.set_cons_succ]), by simpa using hsz, fun e2 => s0_.out (by rwa [gs_off (by decide)] at e2), fun e e2 => s1_.out (by rwa [gs_off (by decide)] at e) (by rwa [gs_off (by decide)] at e2), fun e e2 => s2_.out (by rwa [gs_off (by decide)] at e) (by rwa [gs_off (by decide)] at e2), fun e e2 => s3_.out (by rwa [gs_off (by decide)] at e) (by rwa [gs_off (by decide)] at e2), fun e => s4_.out (by rwa [gs_off (by decide)] at e), fun e => (not_on hi (c4_.out (by rwa [gs_off (by decide)] at e)).2).elim, fun e => (not_on hi (c5_.out (by rwa [gs_off (by decide)] at e)).2.2.2).elim, fun e => (not_on hi (c6_.out (by rwa [gs_off (by decide)] at e)).2.2.2.2.2).elim, fun e => (not_on hi (c7_.out (by rwa [gs_off (by decide)] at e)).2.2.2.2.2.1).elim, fun e => l0_.out (by rwa [gs_off (by decide)] at e), fun e => l1_.out (by rwa [gs_off (by decide)] at e), fun e => l2_.out (by rwa [gs_off (by decide)] at e), fun _ => rfl, fun e => l4_.out (by rwa [gs_off (by decide)] at e), fun e => l5_.out (by rwa [gs_off (by decide)] at e), fun e => l8_.out (by rwa [gs_off (by decide)] at e)⟩
              · unfold StepAt
                intro L a w1 KK hI hi ha hKK
                unfold IRD8 at hI
                obtain ⟨v48, v49, v50, v51, v52, v53, v6, hae, hsz, s0_, s1_, s2_, s3_, s4_, c4_, c5_, c6_, c7_, l0_, l1_, l2_, l3_, l4_, l5_, l8_⟩ := hI
                have hoff : L.getD 4 false = false := by
                  cases h : L.getD 4 false
                  · rfl
                  · exact (not_on hi h).elim
                have hP := s0_ hoff
                have q2 := ha { on := 2, ground := Ground.data } (by simp) rfl
                have e2 := l2_ q2
                subst e2
                have q3 := ha { on := 3, ground := Ground.data } (by simp) rfl
                have e3 := l3_ q3
                subst e3
                replace s0_ := Lib.hid s0_
                replace s1_ := Lib.hid s1_
                replace s2_ := Lib.hid s2_
                replace s3_ := Lib.hid s3_
                replace s4_ := Lib.hid s4_
                replace c4_ := Lib.hid c4_
                replace c5_ := Lib.hid c5_
                replace c6_ := Lib.hid c6_
                replace c7_ := Lib.hid c7_
                replace l0_ := Lib.hid l0_
                replace l1_ := Lib.hid l1_
                replace l2_ := Lib.hid l2_
                replace l3_ := Lib.hid l3_
                replace l4_ := Lib.hid l4_
                replace l5_ := Lib.hid l5_
                replace l8_ := Lib.hid l8_
                rw [hae]
                clear hae
                simp only [holeRD8, List.setIfInBounds_toArray, List.set_cons_zero, List.set_cons_succ]
                replace hKK := Lib.hid hKK
                go_wp2_with (go_at_call 35; refine (rMul_any _ _ _ _ _ _ _ _ _ _ (k + 4) k w1 (iQ.below hP).vi (i3.below hP).vi (by omega) (by omega)).mono ?_; rintro e w7 ⟨neg7, A17, n17, c17, rfl, hi7, hb17⟩)
                exact hKK.out _ _ ⟨v48, v49, (.agg #[.bool b7, .slice A7 n7 c7]), (.agg #[.bool neg3, .slice A3 n3 c3]), (.agg #[.bool neg7, .slice A17 n17 c17]), v53, v6, (by simp only [holeRD8, Act.put, List.setIfInBounds_toArray, List.set_cons_zero, List.set_cons_succ]), by simpa using hsz, fun e => by (exfalso; revert e; simp [Array.getD_eq_getD_getElem?, hsz]), fun _ _ => ⟨hP.trans (hb17.mono hP.size), _, _, _, _, rfl, hi7⟩, fun e _ => (not_on hi (c5_.out (by rwa [gs_off (by decide)] at e)).2.1).elim, fun e _ => (not_on hi (c6_.out (by rwa [gs_off (by decide)] at e)).2.2.2.1).elim, fun e => (not_on hi (c7_.out (by rwa [gs_off (by decide)] at e)).2.2.2.2.2.2).elim, fun _ => ⟨by rw [gs_off (by decide)]; exact ha { on := 2, ground := Ground.data } (by simp) rfl, by rw [gs_off (by decide)]; exact ha { on := 3, ground := Ground.data } (by simp) rfl⟩, fun e => (not_on hi (c5_.out (by rwa [gs_off (by decide)] at e)).2.1).elim, fun e => (not_on hi (c6_.out (by rwa [gs_off (by decide)] at e)).2.2.2.1).elim, fun e => (not_on hi (c7_.out (by rwa [gs_off (by decide)] at e)).2.2.2.2.2.2).elim, fun e => l0_.out (by rwa [gs_off (by decide)] at e), fun e => l1_.out (by rwa [gs_off (by decide)] at e), fun _ => rfl, fun _ => rfl, fun _ => trivial, fun e => l5_.out (by rwa [gs_off (by decide)] at e), fun e => l8_.out (by rwa [gs_off (by decide)] at e)⟩
              · unfold StepAt
                intro L a w1 KK hI hi ha hKK
                unfold IRD8 at hI
                obtain ⟨v48, v49, v50, v51, v52, v53, v6, hae, hsz, s0_, s1_, s2_, s3_, s4_, c4_, c5_, c6_, c7_, l0_, l1_, l2_, l3_, l4_, l5_, l8_⟩ := hI
                have hoff : L.getD 5 false = false := by
                  cases h : L.getD 5 false
                  · rfl
                  · exact (not_on hi h).elim
                have hon := ha { on := 4, ground := Ground.data } (by simp) rfl
                have hP := s1_ hon hoff
                have q1 := ha { on := 1, ground := Ground.data } (by simp) rfl
                have e1 := l1_ q1
                subst e1
                have q4 := ha { on := 4, ground := Ground.data } (by simp) rfl
                have e4 := l4_ q4
                obtain ⟨hbl, ⟨b5, A15, n15, c15, e52, hi52⟩⟩ := hP
                subst e52
                replace s0_ := Lib.hid s0_
                replace s1_ := Lib.hid s1_
                replace s2_ := Lib.hid s2_
                replace s3_ := Lib.hid s3_
                replace s4_ := Lib.hid s4_
                replace c4_ := Lib.hid c4_
                replace c5_ := Lib.hid c5_
                replace c6_ := Lib.hid c6_
                replace c7_ := Lib.hid c7_
                replace l0_ := Lib.hid l0_
                replace l1_ := Lib.hid l1_
                replace l2_ := Lib.hid l2_
                replace l3_ := Lib.hid l3_
                replace l4_ := Lib.hid l4_
                replace l5_ := Lib.hid l5_
                replace l8_ := Lib.hid l8_
                rw [hae]
                clear hae
                simp only [holeRD8, List.setIfInBounds_toArray, List.set_cons_zero, List.set_cons_succ]
                replace hKK := Lib.hid hKK
                go_wp2_with (go_at_call 34; refine (rSub_any _ _ _ _ x _ _ _ _ (dq x y * y) (k + 4 + k) w1 ((i1.below hbl).mono (by omega)).vi hi52.vi (by omega)).mono ?_; rintro e w7 ⟨neg7, A17, n17, c17, rfl, hi7, hb17⟩)
                exact hKK.out _ _ ⟨v48, (.agg #[.bool neg1, .slice A1 n1 c1]), v50, v51, (.agg #[.bool b5, .slice A15 n15 c15]), (.agg #[.bool neg7, .slice A17 n17 c17]), v6, (by simp only [holeRD8, Act.put, List.setIfInBounds_toArray, List.set_cons_zero, List.set_cons_succ]), by simpa using hsz, fun e => by (have t := ha { on := 4, ground := Ground.data } (by simp) rfl; rw [gs_off (by decide)] at e; rw [e] at t; cases t), fun _ e => by (exfalso; revert e; simp [Array.getD_eq_getD_getElem?, hsz]), fun _ _ => ⟨hbl.trans (hb17.mono hbl.size), _, _, _, _, rfl, hi7.mono (by omega)⟩, fun e _ => (not_on hi (c6_.out (by rwa [gs_off (by decide)] at e)).2.1).elim, fun e => (not_on hi (c7_.out (by rwa [gs_off (by decide)] at e)).1).elim, fun e => ⟨by rw [gs_off (by decide)]; exact (c4_.out (by rwa [gs_off (by decide)] at e)).1, by rw [gs_off (by decide)]; exact (c4_.out (by rwa [gs_off (by decide)] at e)).2⟩, fun _ => ⟨by rw [gs_off (by decide)]; exact ha { on := 1, ground := Ground.data } (by simp) rfl, by rw [gs_off (by decide)]; exact ha { on := 4, ground := Ground.data } (by simp) rfl, by rw [gs_off (by decide)]; exact (c4_.out (ha { on := 4, ground := Ground.data } (by simp) rfl)).1, by rw [gs_off (by decide)]; exact (c4_.out (ha { on := 4, ground := Ground.data } (by simp) rfl)).2⟩, fun e => (not_on hi (c6_.out (by rwa [gs_off (by decide)] at e)).2.1).elim, fun e => (not_on hi (c7_.out (by rwa [gs_off (by decide)] at e)).1).elim, fun e => l0_.out (by rwa [gs_off (by decide)] at e), fun _ => rfl, fun e => l2_.out (by rwa [gs_off (by decide)] at e), fun e => l3_.out (by rwa [gs_off (by decide)] at e), fun _ => trivial, fun _ => trivial, fun e => l8_.out (by rwa [gs_off (by decide)] at e)⟩
              · unfold StepAt
                intro L a w1 KK hI hi ha hKK
                unfold IRD8 at hI
                obtain ⟨v48, v49, v50, v51, v52, v53, v6, hae, hsz, s0_, s1_, s2_, s3_, s4_, c4_, c5_, c6_, c7_, l0_, l1_, l2_, l3_, l4_, l5_, l8_⟩ := hI
                have hoff : L.getD 6 false = false := by
                  cases h : L.getD 6 false
                  · rfl
                  · exact (not_on hi h).elim
                have hon := ha { on := 5, ground := Ground.chain } (by simp) rfl
                have hP := s2_ hon hoff
                have q0 := ha { on := 0, ground := Ground.data } (by simp) rfl
                have e0 := l0_ q0
                subst e0
                obtain ⟨hbl, hiv⟩ := hP
                obtain ⟨x1, x2, x3, x4, x5⟩ := hbox3.out _ hbl
                replace s0_ := Lib.hid s0_
                replace s1_ := Lib.hid s1_
                replace s2_ := Lib.hid s2_
                replace s3_ := Lib.hid s3_
                replace s4_ := Lib.hid s4_
                replace c4_ := Lib.hid c4_
                replace c5_ := Lib.hid c5_
                replace c6_ := Lib.hid c6_
                replace c7_ := Lib.hid c7_
                replace l0_ := Lib.hid l0_
                replace l1_ := Lib.hid l1_
                replace l2_ := Lib.hid l2_
                replace l3_ := Lib.hid l3_
                replace l4_ := Lib.hid l4_
                replace l5_ := Lib.hid l5_
                replace l8_ := Lib.hid l8_
                rw [hae]
                clear hae
                simp only [holeRD8, List.setIfInBounds_toArray, List.set_cons_zero, List.set_cons_succ]
                go_simp
                exact hKK _ _ ⟨(.agg #[.bool b7, .slice A7 n7 c7]), v49, v50, v51, v52, v53, v6, (by simp only [holeRD8, Act.put, List.setIfInBounds_toArray, List.set_cons_zero, List.set_cons_succ]), by simpa using hsz, fun e => by (have t := (c5_.out (ha { on := 5, ground := Ground.chain } (by simp) rfl)).2.1; rw [gs_off (by decide)] at e; rw [e] at t; cases t), fun _ e => by (have t := ha { on := 5, ground := Ground.chain } (by simp) rfl; rw [gs_off (by decide)] at e; rw [e] at t; cases t), fun _ e => by (exfalso; revert e; simp [Array.getD_eq_getD_getElem?, hsz]), fun _ _ => ⟨w1, ⟨hbl, hiv⟩, rfl⟩, fun e => (not_on hi (c7_.out (by rwa [gs_off (by decide)] at e)).2.1).elim, fun e => ⟨by rw [gs_off (by decide)]; exact (c4_.out (by rwa [gs_off (by decide)] at e)).1, by rw [gs_off (by decide)]; exact (c4_.out (by rwa [gs_off (by decide)] at e)).2⟩, fun e => ⟨by rw [gs_off (by decide)]; exact (c5_.out (by rwa [gs_off (by decide)] at e)).1, by rw [gs_off (by decide)]; exact (c5_.out (by rwa [gs_off (by decide)] at e)).2.1, by rw [gs_off (by decide)]; exact (c5_.out (by rwa [gs_off (by decide)] at e)).2.2.1, by rw [gs_off (by decide)]; exact (c5_.out (by rwa [gs_off (by decide)] at e)).2.2.2⟩, fun _ => ⟨by rw [gs_off (by decide)]; exact ha { on := 0, ground := Ground.data } (by simp) rfl, by rw [gs_off (by decide)]; exact ha { on := 5, ground := Ground.chain } (by simp) rfl, by rw [gs_off (by decide)]; exact (c5_.out (ha { on := 5, ground := Ground.chain } (by simp) rfl)).1, by rw [gs_off (by decide)]; exact (c5_.out (ha { on := 5, ground := Ground.chain } (by simp) rfl)).2.1, by rw [gs_off (by decide)]; exact (c5_.out (ha { on := 5, ground := Ground.chain } (by simp) rfl)).2.2.1, by rw [gs_off (by decide)]; exact (c5_.out (ha { on := 5, ground := Ground.chain } (by simp) rfl)).2.2.2⟩, fun e => (not_on hi (c7_.out (by rwa [gs_off (by decide)] at e)).2.1).elim, fun _ => rfl, fun e => l1_.out (by rwa [gs_off (by decide)] at e), fun e => l2_.out (by rwa [gs_off (by decide)] at e), fun e => l3_.out (by rwa [gs_off (by decide)] at e), fun e => l4_.out (by rwa [gs_off (by decide)] at e), fun e => l5_.out (by rwa [gs_off (by decide)] at e), fun e => l8_.out (by rwa [gs_off (by decide)] at e)⟩
              · unfold StepAt
                intro L a w1 KK hI hi ha hKK
                unfold IRD8 at hI
                obtain ⟨v48, v49, v50, v51, v52, v53, v6, hae, hsz, s0_, s1_, s2_, s3_, s4_, c4_, c5_, c6_, c7_, l0_, l1_, l2_, l3_, l4_, l5_, l8_⟩ := hI
                have hoff : L.getD 7 false = false := by
                  cases h : L.getD 7 false
                  · rfl
                  · exact (not_on hi h).elim
                have hon := ha { on := 6, ground := Ground.chain } (by simp) rfl
                have hP := s3_ hon hoff
                have q5 := ha { on := 5, ground := Ground.data } (by simp) rfl
                have e5 := l5_ q5
                obtain ⟨w8, ⟨hbl, ⟨b9, A10, n10, c10, e53, hi53⟩⟩, hw1⟩ := hP
                subst e53
                obtain ⟨x1, x2, x3, x4, x5⟩ : Bx w1 (w.heap.size + 1 + 1 + 1) (.bool false) (.slice none 0 0) := by
                  rw [hw1]
                  exact ((hbox4.out _ hbl).far (by dsimp only; omega) _).far (by dsimp only; omega) _
                replace hw1 := Lib.hid hw1
                replace s0_ := Lib.hid s0_
                replace s1_ := Lib.hid s1_
                replace s2_ := Lib.hid s2_
                replace s3_ := Lib.hid s3_
                replace s4_ := Lib.hid s4_
                replace c4_ := Lib.hid c4_
                replace c5_ := Lib.hid c5_
                replace c6_ := Lib.hid c6_
                replace c7_ := Lib.hid c7_
                replace l0_ := Lib.hid l0_
                replace l1_ := Lib.hid l1_
                replace l2_ := Lib.hid l2_
                replace l3_ := Lib.hid l3_
                replace l4_ := Lib.hid l4_
                replace l5_ := Lib.hid l5_
                replace l8_ := Lib.hid l8_
                rw [hae]
                clear hae
                simp only [holeRD8, List.setIfInBounds_toArray, List.set_cons_zero, List.set_cons_succ]
                go_simp
                exact hKK _ _ ⟨v48, v49, v50, v51, v52, (.agg #[.bool b9, .slice A10 n10 c10]), v6, (by simp only [holeRD8, Act.put, List.setIfInBounds_toArray, List.set_cons_zero, List.set_cons_succ]), by simpa using hsz, fun e => by (have t := ha { on := 4, ground := Ground.phase } (by simp) rfl; rw [gs_off (by decide)] at e; rw [e] at t; cases t), fun _ e => by (have t := ha { on := 5, ground := Ground.data } (by simp) rfl; rw [gs_off (by decide)] at e; rw [e] at t; cases t), fun _ e => by (have t := ha { on := 6, ground := Ground.chain } (by simp) rfl; rw [gs_off (by decide)] at e; rw [e] at t; cases t), fun _ e => by (exfalso; revert e; simp [Array.getD_eq_getD_getElem?, hsz]), fun _ => ⟨w8, b9, A10, n10, c10, ⟨hbl, hi53⟩, by rw [hw1.out]⟩, fun e => ⟨by rw [gs_off (by decide)]; exact (c4_.out (by rwa [gs_off (by decide)] at e)).1, by rw [gs_off (by decide)]; exact (c4_.out (by rwa [gs_off (by decide)] at e)).2⟩, fun e => ⟨by rw [gs_off (by decide)]; exact (c5_.out (by rwa [gs_off (by decide)] at e)).1, by rw [gs_off (by decide)]; exact (c5_.out (by rwa [gs_off (by decide)] at e)).2.1, by rw [gs_off (by decide)]; exact (c5_.out (by rwa [gs_off (by decide)] at e)).2.2.1, by rw [gs_off (by decide)]; exact (c5_.out (by rwa [gs_off (by decide)] at e)).2.2.2⟩, fun e => ⟨by rw [gs_off (by decide)]; exact (c6_.out (by rwa [gs_off (by decide)] at e)).1, by rw [gs_off (by decide)]; exact (c6_.out (by rwa [gs_off (by decide)] at e)).2.1, by rw [gs_off (by decide)]; exact (c6_.out (by rwa [gs_off (by decide)] at e)).2.2.1, by rw [gs_off (by decide)]; exact (c6_.out (by rwa [gs_off (by decide)] at e)).2.2.2.1, by rw [gs_off (by decide)]; exact (c6_.out (by rwa [gs_off (by decide)] at e)).2.2.2.2.1, by rw [gs_off (by decide)]; exact (c6_.out (by rwa [gs_off (by decide)] at e)).2.2.2.2.2⟩, fun _ => ⟨by rw [gs_off (by decide)]; exact ha { on := 5, ground := Ground.data } (by simp) rfl, by rw [gs_off (by decide)]; exact ha { on := 6, ground := Ground.chain } (by simp) rfl, by rw [gs_off (by decide)]; exact ha { on := 0, ground := Ground.phase } (by simp) rfl, by rw [gs_off (by decide)]; exact ha { on := 1, ground := Ground.phase } (by simp) rfl, by rw [gs_off (by decide)]; exact ha { on := 2, ground := Ground.phase } (by simp) rfl, by rw [gs_off (by decide)]; exact ha { on := 3, ground := Ground.phase } (by simp) rfl, by rw [gs_off (by decide)]; exact ha { on := 4, ground := Ground.phase } (by simp) rfl⟩, fun e => l0_.out (by rwa [gs_off (by decide)] at e), fun e => l1_.out (by rwa [gs_off (by decide)] at e), fun e => l2_.out (by rwa [gs_off (by decide)] at e), fun e => l3_.out (by rwa [gs_off (by decide)] at e), fun e => l4_.out (by rwa [gs_off (by decide)] at e), fun _ => trivial, fun e => l8_.out (by rwa [gs_off (by decide)] at e)⟩
              · unfold StepAt
                intro L a w1 KK hI hi ha hKK
                unfold IRD8 at hI
                obtain ⟨v48, v49, v50, v51, v52, v53, v6, hae, hsz, s0_, s1_, s2_, s3_, s4_, c4_, c5_, c6_, c7_, l0_, l1_, l2_, l3_, l4_, l5_, l8_⟩ := hI
                replace s0_ := Lib.hid s0_
                replace s1_ := Lib.hid s1_
                replace s2_ := Lib.hid s2_
                replace s3_ := Lib.hid s3_
                replace s4_ := Lib.hid s4_
                replace c4_ := Lib.hid c4_
                replace c5_ := Lib.hid c5_
                replace c6_ := Lib.hid c6_
                replace c7_ := Lib.hid c7_
                replace l0_ := Lib.hid l0_
                replace l1_ := Lib.hid l1_
                replace l2_ := Lib.hid l2_
                replace l3_ := Lib.hid l3_
                replace l4_ := Lib.hid l4_
                replace l5_ := Lib.hid l5_
                replace l8_ := Lib.hid l8_
                rw [hae]
                clear hae
                simp only [holeRD8, List.setIfInBounds_toArray, List.set_cons_zero, List.set_cons_succ]
                go_simp
                exact hKK _ _ ⟨v48, v49, v50, v51, v52, v53, (.int .i64 0), (by simp only [holeRD8, Act.put, List.setIfInBounds_toArray, List.set_cons_zero, List.set_cons_succ]), by simpa using hsz, fun e2 => s0_.out (by rwa [gs_off (by decide)] at e2), fun e e2 => s1_.out (by rwa [gs_off (by decide)] at e) (by rwa [gs_off (by decide)] at e2), fun e e2 => s2_.out (by rwa [gs_off (by decide)] at e) (by rwa [gs_off (by decide)] at e2), fun e e2 => s3_.out (by rwa [gs_off (by decide)] at e) (by rwa [gs_off (by decide)] at e2), fun e => s4_.out (by rwa [gs_off (by decide)] at e), fun e => ⟨by rw [gs_off (by decide)]; exact (c4_.out (by rwa [gs_off (by decide)] at e)).1, by rw [gs_off (by decide)]; exact (c4_.out (by rwa [gs_off (by decide)] at e)).2⟩, fun e => ⟨by rw [gs_off (by decide)]; exact (c5_.out (by rwa [gs_off (by decide)] at e)).1, by rw [gs_off (by decide)]; exact (c5_.out (by rwa [gs_off (by decide)] at e)).2.1, by rw [gs_off (by decide)]; exact (c5_.out (by rwa [gs_off (by decide)] at e)).2.2.1, by rw [gs_off (by decide)]; exact (c5_.out (by rwa [gs_off (by decide)] at e)).2.2.2⟩, fun e => ⟨by rw [gs_off (by decide)]; exact (c6_.out (by rwa [gs_off (by decide)] at e)).1, by rw [gs_off (by decide)]; exact (c6_.out (by rwa [gs_off (by decide)] at e)).2.1, by rw [gs_off (by decide)]; exact (c6_.out (by rwa [gs_off (by decide)] at e)).2.2.1, by rw [gs_off (by decide)]; exact (c6_.out (by rwa [gs_off (by decide)] at e)).2.2.2.1, by rw [gs_off (by decide)]; exact (c6_.out (by rwa [gs_off (by decide)] at e)).2.2.2.2.1, by rw [gs_off (by decide)]; exact (c6_.out (by rwa [gs_off (by decide)] at e)).2.2.2.2.2⟩, fun e => ⟨by rw [gs_off (by decide)]; exact (c7_.out (by rwa [gs_off (by decide)] at e)).1, by rw [gs_off (by decide)]; exact (c7_.out (by rwa [gs_off (by decide)] at e)).2.1, by rw [gs_off (by decide)]; exact (c7_.out (by rwa [gs_off (by decide)] at e)).2.2.1, by rw [gs_off (by decide)]; exact (c7_.out (by rwa [gs_off (by decide)] at e)).2.2.2.1, by rw [gs_off (by decide)]; exact (c7_.out (by rwa [gs_off (by decide)] at e)).2.2.2.2.1, by rw [gs_off (by decide)]; exact (c7_.out (by rwa [gs_off (by decide)] at e)).2.2.2.2.2.1, by rw [gs_off (by decide)]; exact (c7_.out (by rwa [gs_off (by decide)] at e)).2.2.2.2.2.2⟩, fun e => l0_.out (by rwa [gs_off (by decide)] at e), fun e => l1_.out (by rwa [gs_off (by decide)] at e), fun e => l2_.out (by rwa [gs_off (by decide)] at e), fun e => l3_.out (by rwa [gs_off (by decide)] at e), fun e => l4_.out (by rwa [gs_off (by decide)] at e), fun e => l5_.out (by rwa [gs_off (by decide)] at e), fun _ => rfl⟩
            · intro L a w1 hI hall
              unfold IRD8 at hI
              obtain ⟨v48, v49, v50, v51, v52, v53, v6, hae, hsz, s0_, s1_, s2_, s3_, s4_, c4_, c5_, c6_, c7_, l0_, l1_, l2_, l3_, l4_, l5_, l8_⟩ := hI
              have hP := s4_ (hall 7 (by decide))
              have e8 := l8_ (hall 8 (by decide))
              subst e8
              rw [hae]
              clear hae hsz s0_ s1_ s2_ s3_ s4_ c4_ c5_ c6_ c7_ l0_ l1_ l2_ l3_ l4_ l5_ hall
              simp only [holeRD8, List.setIfInBounds_toArray, List.set_cons_zero, List.set_cons_succ]
              obtain ⟨w8, b9, A10, n10, c10, ⟨hbl, hi53⟩, hw1⟩ := hP
              have x3 := hbox3.out _ hbl
              have x4 := hbox4.out _ hbl
              have y3 : Bx w1 (w.heap.size + 1 + 1) (.bool b7) (.slice A7 n7 c7) := by
                rw [hw1]
                exact ((x3.set _ _).far (by dsimp only; omega) _).far (by dsimp only; omega) _
              have y4 : Bx w1 (w.heap.size + 1 + 1 + 1) (.bool b9) (.slice A10 n10 c10) := by
                rw [hw1]
                exact Bx.set ((x4.far (by dsimp only; omega) _).far (by dsimp only; omega) _) _ _
              have z1 : II w1 b7 A7 n7 c7 (dq x y) (k + 4) := by
                rw [hw1]
                exact (iQ.below hbl).store4 x3.1 x3.2.1 x4.1 x4.2.1 (by omega) _ _ _ _
              have z2 : II w1 b9 A10 n10 c10 (dr x y) (2 * k + 8) := by
                rw [hw1]
                exact hi53.store4 x3.1 x3.2.1 x4.1 x4.2.1 (by omega) _ _ _ _
              have hbW : Below w.heap.size w w1 := by
                rw [hw1]
                repeat (first | exact hbY.trans (hbl.mono hbY.size) | refine Below.setCell ?_ (by dsimp only; omega) _)
              obtain ⟨k5, k6, -, -, -⟩ := y3
              obtain ⟨k7, k8, -, -, -⟩ := y4
              replace hw1 := Lib.hid hw1
              refine hKQ _ _ ?_
              go_wp2
              refine bodyPost_ret (v := .tuple #[.agg #[.bool b7, .slice A7 n7 c7], .agg #[.bool b9, .slice A10 n10 c10], .int .i64 0]) (by simp [results, Tryd.results37, go_sem, k5, k6, k7, k8]) rfl ?_
              exact ⟨_, _, _, _, _, _, _, _, _, rfl, hbW, .inr ⟨hy0, rfl, z1, z2⟩⟩
end Go.Proofs.YtabibkhcdamlhaaDoor
