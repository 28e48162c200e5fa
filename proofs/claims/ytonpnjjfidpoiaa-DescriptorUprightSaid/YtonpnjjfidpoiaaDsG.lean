/-
  Walks: fits, word of the law.
-/
import Derived.Test.YtonpnjjfidpoiaaDsE
set_option linter.unusedSimpArgs false
set_option linter.unusedVariables false
namespace Go.Proofs.Ytonpnjjfidpoiaa
open Go.RowKit

theorem btr3 {a b c : World} {B : Nat} (h : Below B a b) (k : Below b.heap.size b c) (hs : B ≤ b.heap.size) : Below B a c := h.trans (k.mono hs)
theorem rInside_at {W H M : Int} {A : Option Addr} {n c : Nat} {x y : Int} {r : Bool} (hr : ins W H x y = r) (w : World) :
    Calls Try.prog 20 #[.agg #[.int .i64 W, .int .i64 H, .int .i64 M, .slice A n c], .int .i64 x, .int .i64 y] w fun e w' => e = .returned (.bool r) ∧ Below w.heap.size w w' := hr ▸ rInside_any W H M A n c x y w

set_option maxHeartbeats 1600000 in
theorem fits_at {a b : Nat} {M : Int} {A : Option Addr} {n c : Nat} {q1 q2 q3 q4 x y : Int} (hab : (1 ≤ a ∧ a ≤ 64) ∧ 1 ≤ b ∧ b ≤ 64) (hx : 0 ≤ x ∧ x < 64) (hy : 0 ≤ y ∧ y < 64) (hq : Bxs (q1, q2, q3, q4)) {f : Bool} (hf : bfit a b (q1, q2, q3, q4) x y = f) (w : World) :
    Calls Try.prog 44 #[.agg #[.int .i64 a, .int .i64 b, .int .i64 M, .slice A n c], .agg #[.int .i64 q1, .int .i64 q2, .int .i64 q3, .int .i64 q4], .int .i64 x, .int .i64 y] w fun e w' => e = .returned (.bool f) ∧ Below w.heap.size w w' := by
  have hB := ((Below.refl w.heap.size w).alloc (Nat.le_refl _) (.cells #[.int .i64 a, .int .i64 b, .int .i64 M, .slice A n c] 37)).alloc (by simp) (.cells #[.int .i64 q1, .int .i64 q2, .int .i64 q3, .int .i64 q4] 28)
  have kr : KB _ _ _ _ := (KB.new w #[.int .i64 a, .int .i64 b, .int .i64 M, .slice A n c] 37).alloc (.cells #[.int .i64 q1, .int .i64 q2, .int .i64 q3, .int .i64 q4] 28)
  have kq : KB _ _ _ _ := KB.new (w.alloc (.cells #[.int .i64 a, .int .i64 b, .int .i64 M, .slice A n c] 37)) #[.int .i64 q1, .int .i64 q2, .int .i64 q3, .int .i64 q4] 28
  simp only [World.size_alloc] at kq
  obtain ⟨⟨r1, r2⟩, ⟨r3, r4⟩, ⟨r5, r6⟩, r7, r8⟩ := hq
  obtain ⟨x1, x2⟩ := hx
  obtain ⟨y1, y2⟩ := hy
  simp only at r1 r2 r3 r4 r5 r6 r7 r8
  obtain ⟨i1, h1⟩ : ∃ t, ins a b (x + q1) (y + q2) = t := ⟨_, rfl⟩
  obtain ⟨i2, h2⟩ : ∃ t, ins a b (x + q1 + q3 - 1) (y + q2 + q4 - 1) = t := ⟨_, rfl⟩
  have hfi : f = (i1 && i2) := by
    rw [← hf, ← h1, ← h2, Bool.eq_iff_iff, bfit_iff, Bool.and_eq_true, ins_iff, ins_iff]
    simp only
    omega
  replace h1 := Lib.hid h1
  replace h2 := Lib.hid h2
  clear hf
  cases i1
  · subst hfi
    go_enter Try.func44, Try.ntmps44
    go_wp2_with (go_at_call 20; refine (rInside_at h1.out _).mono ?_; rintro e w1 ⟨rfl, hb1⟩; simp only [World.size_alloc] at hb1)
    go_ret
    exact ⟨rfl, hB.trans (hb1.mono (by omega))⟩
  · cases i2
    all_goals
      subst hfi
      have tok1 : True := trivial
      go_enter Try.func44, Try.ntmps44
      go_wp2_with (first | (go_at_call 20; clear tok1; refine (rInside_at h1.out _).mono ?_; rintro e w1 ⟨rfl, hb1⟩; simp only [World.size_alloc] at hb1; have zz1 := hb1.size; (try simp only [World.size_alloc] at zz1); have kr1 := kr.below hb1 (by omega); have kq1 := kq.below hb1 (by omega); have c0 := kr1.cell 0 rfl; have c1 := kr1.cell 1 rfl; have c2 := kr1.cell 2 rfl; have c3 := kr1.cell 3 rfl; have d0 := kq1.cell 0 rfl; have d1 := kq1.cell 1 rfl; have d2 := kq1.cell 2 rfl; have d3 := kq1.cell 3 rfl) | (go_at_call 20; refine (rInside_at h2.out _).mono ?_; rintro e w2 ⟨rfl, hb2⟩))
      go_ret
      exact ⟨rfl, (hB.trans (hb1.mono (by omega))).trans (hb2.mono (by omega))⟩

theorem mul_small1 {v z : Int} (h1 : -1000000000 ≤ v ∧ v ≤ 1000000000) (h2 : 1 ≤ z ∧ z ≤ 100) : -100000000000 ≤ v * z ∧ v * z ≤ 100000000000 := by
  constructor
  · have h3 : -1000000000 * z ≤ v * z := Int.mul_le_mul_of_nonneg_right h1.1 (by omega)
    omega
  · have h3 : v * z ≤ 1000000000 * z := Int.mul_le_mul_of_nonneg_right h1.2 (by omega)
    omega
theorem mul_small2 {v z : Int} (h1 : -100000000000 ≤ v ∧ v ≤ 100000000000) (h2 : 1 ≤ z ∧ z ≤ 100) : -10000000000000 ≤ v * z ∧ v * z ≤ 10000000000000 := by
  constructor
  · have h3 : -100000000000 * z ≤ v * z := Int.mul_le_mul_of_nonneg_right h1.1 (by omega)
    omega
  · have h3 : v * z ≤ 100000000000 * z := Int.mul_le_mul_of_nonneg_right h1.2 (by omega)
    omega

set_option maxRecDepth 100000 in
set_option maxHeartbeats 12800000 in
theorem lword_at (a b : Nat) (M : Int) (A : Option Addr) (n c : Nat) (P : List Int) (A2 : Option Addr) (n2 cp : Nat) (l : List Tst) {x y : Int} {w : World} (h : Sl w A n c P) (hr : Ras a b M P) (h2 : PS w A2 n2 cp l) (hp : pat l = true) (hx : 0 ≤ x ∧ x < 64) (hy : 0 ≤ y ∧ y < 64)
    {R : Value} (hR1 : pfit a b l x y = true → R = .tuple #[.int .u64 (wordOf P a l x y : Int), .bool true]) (hR0 : pfit a b l x y = false → R = .tuple #[.int .u64 0, .bool false]) :
    Calls Try.prog 21 #[.agg #[.int .i64 a, .int .i64 b, .int .i64 M, .slice A n c], .slice A2 n2 cp, .int .i64 x, .int .i64 y] w fun e w' => e = .returned R ∧ Below w.heap.size w w' := by
  have hcap := h2.le_cap
  have hcl := h2.cap_le
  have hlen := Lib.hid h2.len
  obtain ⟨⟨hn1, hn2⟩, hpk⟩ := pat_iff.1 hp
  rw [← hlen.out] at hn1 hn2 hpk
  replace hpk := Lib.hid hpk
  replace hR1 := Lib.hid hR1
  replace hR0 := Lib.hid hR0
  obtain ⟨a', b', ea, eb, hw1, hw2, ⟨hM1, hM2⟩, -, -, -⟩ := hr.nat
  obtain rfl : a = a' := by omega
  obtain rfl : b = b' := by omega
  have hP := Lib.hid hr.2.2
  have ha : a ≤ 64 := by omega
  have hb : b ≤ 64 := by omega
  obtain ⟨F, hF⟩ : ∃ F : Nat → Bool, (fun i => tbit P a (tstAt l i) x y) = F := ⟨_, rfl⟩
  have hW : Hid (wordOf P a l x y = wordF F n2) := Lib.hid (by rw [← hF, hlen.out]; rfl)
  replace hF := Lib.hid hF
  have hs := Lib.hid (fun w' (hb : Below w.heap.size w w') => h.below hb (Nat.le_refl _))
  have hr' := Lib.hid hr
  have h' := Lib.hid (fun w' (hb : Below w.heap.size w w') => h2.below hb (Nat.le_refl _))
  have hB0 := (Below.refl w.heap.size w).alloc (Nat.le_refl _) (.cells #[.int .i64 a, .int .i64 b, .int .i64 M, .slice A n c] 37)
  have kr0 : KB _ _ _ _ := KB.new w #[.int .i64 a, .int .i64 b, .int .i64 M, .slice A n c] 37
  have c0 := kr0.cell 0 rfl
  have c1 := kr0.cell 1 rfl
  have c2 := kr0.cell 2 rfl
  have c3 := kr0.cell 3 rfl
  obtain ⟨W0, hW0⟩ : ∃ W0, w.alloc (.cells #[.int .i64 a, .int .i64 b, .int .i64 M, .slice A n c] 37) = W0 := ⟨_, rfl⟩
  have hz0 : W0.heap.size = w.heap.size + 1 := by rw [← hW0]; simp
  rw [hW0] at hB0 kr0 c0 c1 c2 c3
  have hW0' := Lib.hid hW0
  clear hW0
  obtain ⟨xa, xb⟩ := hx
  obtain ⟨ya, yb⟩ := hy
  clear hp h h2 hr ea eb
  go_enter Try.func21, Try.ntmps21
  go_wp2
  rw [hW0'.out]
  go_loopw [10, 17] (fun s i wr => ∃ k : Nat, k ≤ n2 ∧ s = .int .u64 (wordF F k : Int) ∧ i = .int .i64 k ∧ KB wr w.heap.size #[.int .i64 a, .int .i64 b, .int .i64 M, .slice A n c] 37 ∧ Below w.heap.size w wr ∧ Hid (∀ j, j < k → tfit a b (tstAt l j) x y = true)) (fun _ i _ => n2 - (intOf i).toNat)
  case atStart => exact ⟨0, Nat.zero_le _, rfl, rfl, kr0, hB0, Lib.hid fun j hj => absurd hj (Nat.not_lt_zero _)⟩
  case round =>
    clear c0 c1 c2 c3 kr0 hB0
    obtain ⟨k, hk, rfl, rfl, krr, hB, HA⟩ := hrel
    by_cases hlt : k < n2
    · obtain ⟨bb, off, rfl, hbw, hc⟩ := PS.at_ (h'.out _ hB) (by omega)
      obtain ⟨⟨q0, q1, q2, q3⟩, q4, q5, q6, q7⟩ := hc k hlt
      clear hc
      have htk := hpk.out k hlt
      obtain ⟨⟨⟨x1, x2, x3, x4⟩, x5, x6, x7, x8⟩, ht⟩ : ∃ t, tstAt l k = t := ⟨_, rfl⟩
      rw [ht] at q0 q1 q2 q3 q4 q5 q6 q7 htk
      obtain ⟨m, hm⟩ : ∃ m, k * 8 = m := ⟨_, rfl⟩
      simp only [hm] at q0 q1 q2 q3 q4 q5 q6 q7
      obtain ⟨ok1, ok2⟩ := tok_iff.1 htk
      have bx1 : Bxs (x1, x2, x3, x4) := Bxs.of_ok ok1
      have bx2 : Bxs (x5, x6, x7, x8) := Bxs.of_ok ok2
      have hlt' : (k : Int) < (n2 : Int) := by omega
      have hkl := krr.lt
      have hB1 := hB.alloc hB.size (.cells #[.int .i64 x1, .int .i64 x2, .int .i64 x3, .int .i64 x4, .int .i64 x5, .int .i64 x6, .int .i64 x7, .int .i64 x8] 30)
      have kt : KB _ _ _ _ := KB.new wr #[.int .i64 x1, .int .i64 x2, .int .i64 x3, .int .i64 x4, .int .i64 x5, .int .i64 x6, .int .i64 x7, .int .i64 x8] 30
      have kr := krr.alloc (.cells #[.int .i64 x1, .int .i64 x2, .int .i64 x3, .int .i64 x4, .int .i64 x5, .int .i64 x6, .int .i64 x7, .int .i64 x8] 30)
      have c0 := kr.cell 0 rfl
      have c1 := kr.cell 1 rfl
      have c2 := kr.cell 2 rfl
      have c3 := kr.cell 3 rfl
      obtain ⟨f1, hf1⟩ : ∃ t, bfit a b (x1, x2, x3, x4) x y = t := ⟨_, rfl⟩
      obtain ⟨f2, hf2⟩ : ∃ t, bfit a b (x5, x6, x7, x8) x y = t := ⟨_, rfl⟩
      have hft : Hid (tfit a b (tstAt l k) x y = (f1 && f2)) := Lib.hid (by rw [ht, ← hf1, ← hf2]; rfl)
      have hno : Hid ((f1 && f2) = false → R = .tuple #[.int .u64 0, .bool false]) := Lib.hid fun e => hR0.out (by
        rw [← Bool.not_eq_true, pfit_iff]
        intro hall
        have := hall k (by rw [← hlen.out]; exact hlt)
        rw [hft.out, e] at this
        cases this)
      have hz := hB1.size
      simp only [World.size_alloc] at hz
      have ht' := Lib.hid ht
      clear ok1 ok2 htk ht
      have tok1 : True := trivial
      cases f1
      · replace hf1 := Lib.hid hf1
        clear hf2
        have hno := Lib.hid (hno.out rfl)
        go_wp2_with (go_at_call 44; clear tok1; refine (fits_at ⟨hw1, hw2⟩ ⟨xa, xb⟩ ⟨ya, yb⟩ bx1 hf1.out _).mono ?_; rintro e w1 ⟨rfl, hb1⟩; simp only [World.size_alloc] at hb1; have zz1 := hb1.size; (try simp only [World.size_alloc] at zz1); have kr1 := kr.below hb1 (by omega); have kt1 := kt.below hb1 (by omega); have hB2 := hB1.trans (hb1.mono (by omega)); clear c0 c1 c2 c3; have c0 := kr1.cell 0 rfl; have c1 := kr1.cell 1 rfl; have c2 := kr1.cell 2 rfl; have c3 := kr1.cell 3 rfl; have t0 := kt1.cell 0 rfl; have t1 := kt1.cell 1 rfl; have t2 := kt1.cell 2 rfl; have t3 := kt1.cell 3 rfl; have t4 := kt1.cell 4 rfl; have t5 := kt1.cell 5 rfl; have t6 := kt1.cell 6 rfl; have t7 := kt1.cell 7 rfl)
        go_ret2
        exact ⟨(congrArg Ending.returned hno.out).symm, hB2⟩
      cases f2
      · replace hf1 := Lib.hid hf1
        replace hf2 := Lib.hid hf2
        have hno := Lib.hid (hno.out rfl)
        go_wp2_with (first | (go_at_call 44; clear tok1; refine (fits_at ⟨hw1, hw2⟩ ⟨xa, xb⟩ ⟨ya, yb⟩ bx1 hf1.out _).mono ?_; rintro e w1 ⟨rfl, hb1⟩; simp only [World.size_alloc] at hb1; have zz1 := hb1.size; (try simp only [World.size_alloc] at zz1); have kr1 := kr.below hb1 (by omega); have kt1 := kt.below hb1 (by omega); have hB2 := hB1.trans (hb1.mono (by omega)); clear c0 c1 c2 c3; have c0 := kr1.cell 0 rfl; have c1 := kr1.cell 1 rfl; have c2 := kr1.cell 2 rfl; have c3 := kr1.cell 3 rfl; have t0 := kt1.cell 0 rfl; have t1 := kt1.cell 1 rfl; have t2 := kt1.cell 2 rfl; have t3 := kt1.cell 3 rfl; have t4 := kt1.cell 4 rfl; have t5 := kt1.cell 5 rfl; have t6 := kt1.cell 6 rfl; have t7 := kt1.cell 7 rfl) | (go_at_call 44; refine (fits_at ⟨hw1, hw2⟩ ⟨xa, xb⟩ ⟨ya, yb⟩ bx2 hf2.out _).mono ?_; rintro e w2 ⟨rfl, hb2⟩; have zz2 := hb2.size; have kr2 := kr1.below hb2 (by omega); have kt2 := kt1.below hb2 (by omega); have hB3 := hB2.trans (hb2.mono (by omega)); clear c0 c1 c2 c3 t0 t1 t2 t3 t4 t5 t6 t7))
        go_ret2
        exact ⟨(congrArg Ending.returned hno.out).symm, hB3⟩
      obtain ⟨va, hva⟩ : ∃ t, bval P a (x1, x2, x3, x4) x y = t := ⟨_, rfl⟩
      obtain ⟨vb, hvb⟩ : ∃ t, bval P a (x5, x6, x7, x8) x y = t := ⟨_, rfl⟩
      have ba := bval_small ⟨by omega, hM2⟩ hP.out ha hb hf1 bx1
      have bb' := bval_small ⟨by omega, hM2⟩ hP.out ha hb hf2 bx2
      rw [hva] at ba
      rw [hvb] at bb'
      have hfi1 := bfit_iff.1 hf1
      have hfi2 := bfit_iff.1 hf2
      simp only at hfi1 hfi2
      have bx1' := bx1
      have bx2' := bx2
      unfold Bxs at bx1' bx2'
      simp only at bx1' bx2'
      have hsum1 := Lib.hid (fun w' (hb' : Below w.heap.size w w') => rSum_at (x := (x + x1).toNat) (y := (y + x2).toNat) (wd := x3.toNat) (ht := x4.toNat) (X := x + x1) (Y := y + x2) (WD := x3) (HT := x4) (hs.out w' hb') hr'.out (by omega) (by omega) (by omega) (by omega) (by omega) (by omega) hva)
      have hsum2 := Lib.hid (fun w' (hb' : Below w.heap.size w w') => rSum_at (x := (x + x5).toNat) (y := (y + x6).toNat) (wd := x7.toNat) (ht := x8.toNat) (X := x + x5) (Y := y + x6) (WD := x7) (HT := x8) (hs.out w' hb') hr'.out (by omega) (by omega) (by omega) (by omega) (by omega) (by omega) hvb)
      obtain ⟨s1, hs1⟩ : ∃ p, va * x7 = p := ⟨_, rfl⟩
      obtain ⟨p1, hp1⟩ : ∃ p, s1 * x8 = p := ⟨_, rfl⟩
      obtain ⟨s2, hs2⟩ : ∃ p, vb * x3 = p := ⟨_, rfl⟩
      obtain ⟨p2, hp2⟩ : ∃ p, s2 * x4 = p := ⟨_, rfl⟩
      have bs1 := mul_small1 ba (show 1 ≤ x7 ∧ x7 ≤ 100 by omega)
      rw [hs1] at bs1
      have bs2 := mul_small1 bb' (show 1 ≤ x3 ∧ x3 ≤ 100 by omega)
      rw [hs2] at bs2
      have bp1 := mul_small2 bs1 (show 1 ≤ x8 ∧ x8 ≤ 100 by omega)
      rw [hp1] at bp1
      have bp2 := mul_small2 bs2 (show 1 ≤ x4 ∧ x4 ≤ 100 by omega)
      rw [hp2] at bp2
      have hFk : Hid (F k = decide (p1 < p2)) := Lib.hid (by
        rw [← hF.out, ← hp1, ← hp2, ← hs1, ← hs2, ← hva, ← hvb, Int.mul_assoc, Int.mul_assoc]
        show tbit P a (tstAt l k) x y = _
        rw [ht'.out]; rfl)
      have j0 : IntKind.i64.wrap s1 = s1 := IntWalk.i64_in _ (by omega)
      have j1 : IntKind.i64.wrap p1 = p1 := IntWalk.i64_in _ (by omega)
      have j2 : IntKind.i64.wrap s2 = s2 := IntWalk.i64_in _ (by omega)
      have j3 : IntKind.i64.wrap p2 = p2 := IntWalk.i64_in _ (by omega)
      have j4 : IntKind.i64.wrap (x + x1) = x + x1 := IntWalk.i64_in _ (by omega)
      have j5 : IntKind.i64.wrap (y + x2) = y + x2 := IntWalk.i64_in _ (by omega)
      have j6 : IntKind.i64.wrap (x + x5) = x + x5 := IntWalk.i64_in _ (by omega)
      have j7 : IntKind.i64.wrap (y + x6) = y + x6 := IntWalk.i64_in _ (by omega)
      have HA' : Hid (∀ j, j < k + 1 → tfit a b (tstAt l j) x y = true) := Lib.hid fun j hj => by
        by_cases e : j = k
        · rw [e, hft.out]; rfl
        · exact HA.out j (by omega)
      replace hf1 := Lib.hid hf1
      replace hf2 := Lib.hid hf2
      replace hva := Lib.hid hva
      replace hvb := Lib.hid hvb
      clear bx1' bx2' hfi1 hfi2 ba bb' bs1 bs2 bp1 bp2 HA hno
      go_wp2_with (first | (go_at_call 44; clear tok1; refine (fits_at ⟨hw1, hw2⟩ ⟨xa, xb⟩ ⟨ya, yb⟩ bx1 hf1.out _).mono ?_; rintro e w1 ⟨rfl, hb1⟩; simp only [World.size_alloc] at hb1; have zz1 := hb1.size; (try simp only [World.size_alloc] at zz1); have kr1 := kr.below hb1 (by omega); have kt1 := kt.below hb1 (by omega); have hB2 := hB1.trans (hb1.mono (by omega)); clear c0 c1 c2 c3; have c0 := kr1.cell 0 rfl; have c1 := kr1.cell 1 rfl; have c2 := kr1.cell 2 rfl; have c3 := kr1.cell 3 rfl; have t0 := kt1.cell 0 rfl; have t1 := kt1.cell 1 rfl; have t2 := kt1.cell 2 rfl; have t3 := kt1.cell 3 rfl; have t4 := kt1.cell 4 rfl; have t5 := kt1.cell 5 rfl; have t6 := kt1.cell 6 rfl; have t7 := kt1.cell 7 rfl) | (go_at_call 44; refine (fits_at ⟨hw1, hw2⟩ ⟨xa, xb⟩ ⟨ya, yb⟩ bx2 hf2.out _).mono ?_; rintro e w2 ⟨rfl, hb2⟩; have zz2 := hb2.size; have kr2 := kr1.below hb2 (by omega); have kt2 := kt1.below hb2 (by omega); have hB3 := hB2.trans (hb2.mono (by omega)); clear c0 c1 c2 c3 t0 t1 t2 t3 t4 t5 t6 t7))
      have qkeep : ∀ w', Below w2.heap.size w2 w' → w'.cell? ⟨w.heap.size, 0, none⟩ = some (.int .i64 (a : Int)) ∧ w'.cell? ⟨w.heap.size, 1, none⟩ = some (.int .i64 (b : Int)) ∧ w'.cell? ⟨w.heap.size, 2, none⟩ = some (.int .i64 M) ∧ w'.cell? ⟨w.heap.size, 3, none⟩ = some (.slice A n c) ∧ w'.cell? ⟨wr.heap.size, 0, none⟩ = some (.int .i64 x1) ∧ w'.cell? ⟨wr.heap.size, 1, none⟩ = some (.int .i64 x2) ∧ w'.cell? ⟨wr.heap.size, 2, none⟩ = some (.int .i64 x3) ∧ w'.cell? ⟨wr.heap.size, 3, none⟩ = some (.int .i64 x4) ∧ w'.cell? ⟨wr.heap.size, 4, none⟩ = some (.int .i64 x5) ∧ w'.cell? ⟨wr.heap.size, 5, none⟩ = some (.int .i64 x6) ∧ w'.cell? ⟨wr.heap.size, 6, none⟩ = some (.int .i64 x7) ∧ w'.cell? ⟨wr.heap.size, 7, none⟩ = some (.int .i64 x8) := by
        intro w' hb
        have r1 := kr2.below hb (by omega)
        have r2 := kt2.below hb (by omega)
        exact ⟨r1.cell 0 rfl, r1.cell 1 rfl, r1.cell 2 rfl, r1.cell 3 rfl, r2.cell 0 rfl, r2.cell 1 rfl, r2.cell 2 rfl, r2.cell 3 rfl, r2.cell 4 rfl, r2.cell 5 rfl, r2.cell 6 rfl, r2.cell 7 rfl⟩
      replace qkeep := Lib.hid qkeep
      have qtok1 : True := trivial
      go_region_held3 (fun w' => w'.cell? ⟨w.heap.size, 0, none⟩ = some (.int .i64 (a : Int)) ∧ w'.cell? ⟨w.heap.size, 1, none⟩ = some (.int .i64 (b : Int)) ∧ w'.cell? ⟨w.heap.size, 2, none⟩ = some (.int .i64 M) ∧ w'.cell? ⟨w.heap.size, 3, none⟩ = some (.slice A n c) ∧ w'.cell? ⟨wr.heap.size, 0, none⟩ = some (.int .i64 x1) ∧ w'.cell? ⟨wr.heap.size, 1, none⟩ = some (.int .i64 x2) ∧ w'.cell? ⟨wr.heap.size, 2, none⟩ = some (.int .i64 x3) ∧ w'.cell? ⟨wr.heap.size, 3, none⟩ = some (.int .i64 x4) ∧ w'.cell? ⟨wr.heap.size, 4, none⟩ = some (.int .i64 x5) ∧ w'.cell? ⟨wr.heap.size, 5, none⟩ = some (.int .i64 x6) ∧ w'.cell? ⟨wr.heap.size, 6, none⟩ = some (.int .i64 x7) ∧ w'.cell? ⟨wr.heap.size, 7, none⟩ = some (.int .i64 x8))
        (exact qkeep.out _ (by repeat (first | exact qB1 | exact (Below.refl w2.heap.size w2) | refine Below.drew ?_ | refine Below.drewN ?_ _ | refine Below.alloc ?_ (by first | omega | (simp <;> omega)) _)))
        (first | (go_at_call 45; clear qtok1; refine (hsum1.out _ (btr3 hB3 (by repeat (first | exact (Below.refl w2.heap.size w2) | refine Below.drew ?_ | refine Below.drewN ?_ _ | refine Below.alloc ?_ (by first | omega | (simp <;> omega)) _)) (by omega))).mono ?_; rintro e qw1 ⟨rfl, qh1⟩; have qB1 : Below w2.heap.size w2 qw1 := Below.trans (by repeat (first | exact (Below.refl w2.heap.size w2) | refine Below.drew ?_ | refine Below.drewN ?_ _ | refine Below.alloc ?_ (by first | omega | (simp <;> omega)) _)) (qh1.mono (by first | omega | (simp <;> omega))); have qs1 := qB1.size))
      have kr3 := kr2.below qB1 (by omega)
      have kt3 := kt2.below qB1 (by omega)
      have hB4 := hB3.trans (qB1.mono (by omega))
      go_wp2
      have pkeep : ∀ w', Below qw1.heap.size qw1 w' → w'.cell? ⟨w.heap.size, 0, none⟩ = some (.int .i64 (a : Int)) ∧ w'.cell? ⟨w.heap.size, 1, none⟩ = some (.int .i64 (b : Int)) ∧ w'.cell? ⟨w.heap.size, 2, none⟩ = some (.int .i64 M) ∧ w'.cell? ⟨w.heap.size, 3, none⟩ = some (.slice A n c) ∧ w'.cell? ⟨wr.heap.size, 0, none⟩ = some (.int .i64 x1) ∧ w'.cell? ⟨wr.heap.size, 1, none⟩ = some (.int .i64 x2) ∧ w'.cell? ⟨wr.heap.size, 2, none⟩ = some (.int .i64 x3) ∧ w'.cell? ⟨wr.heap.size, 3, none⟩ = some (.int .i64 x4) ∧ w'.cell? ⟨wr.heap.size, 4, none⟩ = some (.int .i64 x5) ∧ w'.cell? ⟨wr.heap.size, 5, none⟩ = some (.int .i64 x6) ∧ w'.cell? ⟨wr.heap.size, 6, none⟩ = some (.int .i64 x7) ∧ w'.cell? ⟨wr.heap.size, 7, none⟩ = some (.int .i64 x8) := by
        intro w' hb
        have r1 := kr3.below hb (by omega)
        have r2 := kt3.below hb (by omega)
        exact ⟨r1.cell 0 rfl, r1.cell 1 rfl, r1.cell 2 rfl, r1.cell 3 rfl, r2.cell 0 rfl, r2.cell 1 rfl, r2.cell 2 rfl, r2.cell 3 rfl, r2.cell 4 rfl, r2.cell 5 rfl, r2.cell 6 rfl, r2.cell 7 rfl⟩
      replace pkeep := Lib.hid pkeep
      have ptok1 : True := trivial
      go_region_held3 (fun w' => w'.cell? ⟨w.heap.size, 0, none⟩ = some (.int .i64 (a : Int)) ∧ w'.cell? ⟨w.heap.size, 1, none⟩ = some (.int .i64 (b : Int)) ∧ w'.cell? ⟨w.heap.size, 2, none⟩ = some (.int .i64 M) ∧ w'.cell? ⟨w.heap.size, 3, none⟩ = some (.slice A n c) ∧ w'.cell? ⟨wr.heap.size, 0, none⟩ = some (.int .i64 x1) ∧ w'.cell? ⟨wr.heap.size, 1, none⟩ = some (.int .i64 x2) ∧ w'.cell? ⟨wr.heap.size, 2, none⟩ = some (.int .i64 x3) ∧ w'.cell? ⟨wr.heap.size, 3, none⟩ = some (.int .i64 x4) ∧ w'.cell? ⟨wr.heap.size, 4, none⟩ = some (.int .i64 x5) ∧ w'.cell? ⟨wr.heap.size, 5, none⟩ = some (.int .i64 x6) ∧ w'.cell? ⟨wr.heap.size, 6, none⟩ = some (.int .i64 x7) ∧ w'.cell? ⟨wr.heap.size, 7, none⟩ = some (.int .i64 x8))
        (exact pkeep.out _ (by repeat (first | exact pB1 | exact (Below.refl qw1.heap.size qw1) | refine Below.drew ?_ | refine Below.drewN ?_ _ | refine Below.alloc ?_ (by first | omega | (simp <;> omega)) _)))
        (first | (go_at_call 45; clear ptok1; refine (hsum2.out _ (btr3 hB4 (by repeat (first | exact (Below.refl qw1.heap.size qw1) | refine Below.drew ?_ | refine Below.drewN ?_ _ | refine Below.alloc ?_ (by first | omega | (simp <;> omega)) _)) (by omega))).mono ?_; rintro e pw1 ⟨rfl, ph1⟩; have pB1 : Below qw1.heap.size qw1 pw1 := Below.trans (by repeat (first | exact (Below.refl qw1.heap.size qw1) | refine Below.drew ?_ | refine Below.drewN ?_ _ | refine Below.alloc ?_ (by first | omega | (simp <;> omega)) _)) (ph1.mono (by first | omega | (simp <;> omega))); have ps1 := pB1.size))
      have hB5 := hB4.trans (pB1.mono (by omega))
      have kr4 := kr3.below pB1 (by omega)
      by_cases hlt2 : p1 < p2
      · have hFt : Hid (F k = true) := Lib.hid (by rw [hFk.out]; exact decide_eq_true hlt2)
        have hwn : Hid (((wordF F (k + 1) : Nat) : Int) = bits .or .u64 (wordF F k : Int) (IntKind.u64.wrap ((2 : Int) ^ k))) := Lib.hid (by rw [or_bit' (by omega)]; show (((if F k then _ else _) : Nat) : Int) = _; rw [hFt.out]; rfl)
        go_wp2
        exact ⟨⟨k + 1, hlt, by rw [hwn.out], by go_num, kr4, hB5, HA'⟩, by simp [intOf]; omega⟩
      · have hFt : Hid (F k = false) := Lib.hid (by rw [hFk.out]; exact decide_eq_false hlt2)
        have hlt3 : p2 ≤ p1 := by omega
        have hwn : Hid (wordF F (k + 1) = wordF F k) := Lib.hid (by show (if F k then _ else _) = _; rw [hFt.out]; rfl)
        go_wp2
        exact ⟨⟨k + 1, hlt, by rw [hwn.out], by go_num, kr4, hB5, HA'⟩, by simp [intOf]; omega⟩
    · obtain rfl : k = n2 := by omega
      have hyes : Hid (R = .tuple #[.int .u64 (wordF F k : Int), .bool true]) := Lib.hid ((hR1.out (pfit_iff.2 (by rw [← hlen.out]; exact HA.out))).trans (by rw [hW.out]))
      go_wp2
      go_ret2
      exact ⟨(congrArg Ending.returned hyes.out).symm, hB⟩

end Go.Proofs.Ytonpnjjfidpoiaa
