/-
  Walk: the word of a feature, from the table of a raster.
-/
import Derived.Test.YtonpnjjfidpoiaaDsD
set_option linter.unusedSimpArgs false
set_option linter.unusedVariables false
namespace Go.Proofs.Ytonpnjjfidpoiaa
open Go.RowKit

theorem mul_small {v z : Int} (h1 : -1000000000 ≤ v ∧ v ≤ 1000000000) (h2 : 1 ≤ z ∧ z ≤ 10000) : -10000000000000 ≤ v * z ∧ v * z ≤ 10000000000000 := by
  constructor
  · have h3 : -1000000000 * z ≤ v * z := Int.mul_le_mul_of_nonneg_right h1.1 (by omega)
    omega
  · have h3 : v * z ≤ 1000000000 * z := Int.mul_le_mul_of_nonneg_right h1.2 (by omega)
    omega
theorem tok_iff {t : Tst} : tok t = true ↔ bxok t.1 = true ∧ bxok t.2 = true := by simp [tok]
theorem tfit_iff {a b : Nat} {t : Tst} {x y : Int} : tfit a b t x y = true ↔ bfit a b t.1 x y = true ∧ bfit a b t.2 x y = true := by simp [tfit]
/-- A bit more. -/
theorem or_bit {f : Nat → Bool} {k : Nat} (hk : k < 64) : bits .or .u64 (wordF f k : Int) ((2 ^ k : Nat) : Int) = ((wordF f k ||| 2 ^ k : Nat) : Int) := by
  have h2 : 2 ^ k < 2 ^ 64 := Nat.pow_lt_pow_right (by omega) hk
  have h1 := wordF_lt f k
  have hx : wordF f k ||| 2 ^ k < 2 ^ 64 := Nat.or_lt_two_pow (by omega) h2
  show IntKind.u64.wrap ((BitVec.ofInt 64 (wordF f k : Int) ||| BitVec.ofInt 64 ((2 ^ k : Nat) : Int)).toNat : Int) = _
  rw [BitVec.toNat_or, BitVec.ofInt_natCast, BitVec.ofInt_natCast, BitVec.toNat_ofNat, BitVec.toNat_ofNat, Nat.mod_eq_of_lt (by omega), Nat.mod_eq_of_lt h2, IntKind.wrap_u64]
  omega
theorem or_bit' {f : Nat → Bool} {k : Nat} (hk : k < 64) : bits .or .u64 (wordF f k : Int) (IntKind.u64.wrap ((2 : Int) ^ k)) = ((wordF f k ||| 2 ^ k : Nat) : Int) := by
  have h2 : 2 ^ k < 2 ^ 64 := Nat.pow_lt_pow_right (by omega) hk
  have e : IntKind.u64.wrap ((2 : Int) ^ k) = ((2 ^ k : Nat) : Int) := by
    rw [show ((2 : Int) ^ k) = ((2 ^ k : Nat) : Int) from by simp, IntKind.wrap_u64]
    generalize 2 ^ k = q at h2
    omega
  rw [e]
  exact or_bit hk

set_option maxRecDepth 100000 in
set_option maxHeartbeats 6400000 in
theorem sword_at (T a b : Nat) (P : List Int) (M : Int) (A : Option Addr) (n c : Nat) (l : List Tst) {x y : Int} {w : World} (ha : a ≤ 64) (hb : b ≤ 64) (hM : 0 ≤ M ∧ M ≤ 65535) (hP : ∀ g ∈ P, 0 ≤ g ∧ g ≤ M) (hT : Tb w T a b P) (h : PS w A n c l) (hp : pat l = true) (hx : 0 ≤ x ∧ x < 64) (hy : 0 ≤ y ∧ y < 64)
    {R : Value} (hR1 : pfit a b l x y = true → R = .tuple #[.int .u64 (wordOf P a l x y : Int), .int .i64 0]) (hR0 : pfit a b l x y = false → R = .tuple #[.int .u64 0, .int .i64 15]) :
    Calls Try.prog 43 #[.slice (some ⟨T, 0, none⟩) (b + 1) (b + 1), .slice A n c, .int .i64 x, .int .i64 y] w fun e w' => e = .returned R ∧ Below w.heap.size w w' := by
  have hcap := h.le_cap
  have hcl := h.cap_le
  have hlen := Lib.hid h.len
  obtain ⟨⟨hn1, hn2⟩, hpk⟩ := pat_iff.1 hp
  rw [← hlen.out] at hn1 hn2 hpk
  replace hpk := Lib.hid hpk
  replace hR1 := Lib.hid hR1
  replace hR0 := Lib.hid hR0
  replace hP := Lib.hid hP
  obtain ⟨F, hF⟩ : ∃ F : Nat → Bool, (fun i => tbit P a (tstAt l i) x y) = F := ⟨_, rfl⟩
  have hW : Hid (wordOf P a l x y = wordF F n) := Lib.hid (by rw [← hF, hlen.out]; rfl)
  replace hF := Lib.hid hF
  have hT' := Lib.hid (fun w' (hb : Below w.heap.size w w') => hT.below hb)
  have h' := Lib.hid (fun w' (hb : Below w.heap.size w w') => h.below hb (Nat.le_refl _))
  obtain ⟨xa, xb⟩ := hx
  obtain ⟨ya, yb⟩ := hy
  obtain ⟨hM1, hM2⟩ := hM
  clear hp hT h
  go_enter Try.func43, Try.ntmps43
  go_wp2
  go_loopw [10, 19] (fun s i wr => ∃ k : Nat, k ≤ n ∧ s = .int .u64 (wordF F k : Int) ∧ i = .int .i64 k ∧ Below w.heap.size w wr ∧ Hid (∀ j, j < k → tfit a b (tstAt l j) x y = true)) (fun _ i _ => n - (intOf i).toNat)
  case atStart => exact ⟨0, Nat.zero_le _, rfl, rfl, Below.refl _ _, Lib.hid fun j hj => absurd hj (Nat.not_lt_zero _)⟩
  case round =>
    obtain ⟨k, hk, rfl, rfl, hB, HA⟩ := hrel
    by_cases hlt : k < n
    · obtain ⟨bb, off, rfl, hbw, hc⟩ := PS.at_ (h'.out _ hB) (by omega)
      obtain ⟨⟨q0, q1, q2, q3⟩, q4, q5, q6, q7⟩ := hc k hlt
      clear hc
      have htk := hpk.out k hlt
      obtain ⟨⟨⟨x1, x2, x3, x4⟩, x5, x6, x7, x8⟩, ht⟩ : ∃ t, tstAt l k = t := ⟨_, rfl⟩
      rw [ht] at q0 q1 q2 q3 q4 q5 q6 q7 htk
      obtain ⟨m, hm⟩ : ∃ m, k * 8 = m := ⟨_, rfl⟩
      simp only [hm] at q0 q1 q2 q3 q4 q5 q6 q7
      obtain ⟨ok1, ok2⟩ := tok_iff.1 htk
      have bx1 : Bxs (x1, x2, x3, x4) := Bxs.of_ok ok1
      have bx2 : Bxs (x5, x6, x7, x8) := Bxs.of_ok ok2
      have hlt' : (k : Int) < (n : Int) := by omega
      have hB1 := hB.alloc hB.size (.cells #[.int .i64 x1, .int .i64 x2, .int .i64 x3, .int .i64 x4, .int .i64 x5, .int .i64 x6, .int .i64 x7, .int .i64 x8] 30)
      have k0 : KB _ _ _ _ := KB.new wr #[.int .i64 x1, .int .i64 x2, .int .i64 x3, .int .i64 x4, .int .i64 x5, .int .i64 x6, .int .i64 x7, .int .i64 x8] 30
      obtain ⟨f1, hf1⟩ : ∃ t, bfit a b (x1, x2, x3, x4) x y = t := ⟨_, rfl⟩
      obtain ⟨f2, hf2⟩ : ∃ t, bfit a b (x5, x6, x7, x8) x y = t := ⟨_, rfl⟩
      obtain ⟨va, hva⟩ : ∃ t, bvalf f1 P a (x1, x2, x3, x4) x y = t := ⟨_, rfl⟩
      obtain ⟨vb, hvb⟩ : ∃ t, bvalf f2 P a (x5, x6, x7, x8) x y = t := ⟨_, rfl⟩
      have hft : Hid (tfit a b (tstAt l k) x y = (f1 && f2)) := Lib.hid (by rw [ht, ← hf1, ← hf2]; rfl)
      have hno : Hid ((f1 && f2) = false → R = .tuple #[.int .u64 0, .int .i64 15]) := Lib.hid fun e => hR0.out (by
        rw [← Bool.not_eq_true, pfit_iff]
        intro hall
        have := hall k (by rw [← hlen.out]; exact hlt)
        rw [hft.out, e] at this
        cases this)
      have hz := hB1.size
      simp only [World.size_alloc] at hz
      have ht' := Lib.hid ht
      clear ok1 ok2 htk ht
      have tok1 : True := trivial
      obtain ⟨kc2, hkc2⟩ : ∃ t, cod f2 15 = t := ⟨_, rfl⟩
      cases f1
      · replace hf1 := Lib.hid hf1
        replace hf2 := Lib.hid hf2
        replace hva := Lib.hid hva
        replace hvb := Lib.hid hvb
        replace hkc2 := Lib.hid hkc2
        have hno := Lib.hid (hno.out rfl)
        go_wp2_with (first | (go_at_call 56; clear tok1; refine (sbox_at T a b P M ha hb ⟨hM1, hM2⟩ hP.out (hT'.out _ hB1) ⟨xa, xb⟩ ⟨ya, yb⟩ bx1 hf1.out hva.out (show cod false 15 = 15 from rfl)).mono ?_; rintro e w1 ⟨rfl, hb1⟩; simp only [World.size_alloc] at hb1; have zz1 := hb1.size; (try simp only [World.size_alloc] at zz1); have k1 := k0.below hb1 (by omega); have hB2 := hB1.trans (hb1.mono (by omega)); have c0 := k1.cell 0 rfl; have c1 := k1.cell 1 rfl; have c2 := k1.cell 2 rfl; have c3 := k1.cell 3 rfl; have c4 := k1.cell 4 rfl; have c5 := k1.cell 5 rfl; have c6 := k1.cell 6 rfl; have c7 := k1.cell 7 rfl) | (go_at_call 56; refine (sbox_at T a b P M ha hb ⟨hM1, hM2⟩ hP.out (hT'.out _ hB2) ⟨xa, xb⟩ ⟨ya, yb⟩ bx2 hf2.out hvb.out hkc2.out).mono ?_; rintro e w2 ⟨rfl, hb2⟩; have zz2 := hb2.size; have k2 := k1.below hb2 (by omega); have hB3 := hB2.trans (hb2.mono (by omega)); clear c0 c1 c2 c3 c4 c5 c6 c7; have d0 := k2.cell 0 rfl; have d1 := k2.cell 1 rfl; have d2 := k2.cell 2 rfl; have d3 := k2.cell 3 rfl; have d4 := k2.cell 4 rfl; have d5 := k2.cell 5 rfl; have d6 := k2.cell 6 rfl; have d7 := k2.cell 7 rfl))
        go_ret2
        exact ⟨(congrArg Ending.returned hno.out).symm, hB3⟩
      clear hkc2
      cases f2
      · replace hf1 := Lib.hid hf1
        replace hf2 := Lib.hid hf2
        replace hva := Lib.hid hva
        replace hvb := Lib.hid hvb
        have hno := Lib.hid (hno.out rfl)
        go_wp2_with (first | (go_at_call 56; clear tok1; refine (sbox_at T a b P M ha hb ⟨hM1, hM2⟩ hP.out (hT'.out _ hB1) ⟨xa, xb⟩ ⟨ya, yb⟩ bx1 hf1.out hva.out (show cod true 15 = 0 from rfl)).mono ?_; rintro e w1 ⟨rfl, hb1⟩; simp only [World.size_alloc] at hb1; have zz1 := hb1.size; (try simp only [World.size_alloc] at zz1); have k1 := k0.below hb1 (by omega); have hB2 := hB1.trans (hb1.mono (by omega)); have c0 := k1.cell 0 rfl; have c1 := k1.cell 1 rfl; have c2 := k1.cell 2 rfl; have c3 := k1.cell 3 rfl; have c4 := k1.cell 4 rfl; have c5 := k1.cell 5 rfl; have c6 := k1.cell 6 rfl; have c7 := k1.cell 7 rfl) | (go_at_call 56; refine (sbox_at T a b P M ha hb ⟨hM1, hM2⟩ hP.out (hT'.out _ hB2) ⟨xa, xb⟩ ⟨ya, yb⟩ bx2 hf2.out hvb.out (show cod false 15 = 15 from rfl)).mono ?_; rintro e w2 ⟨rfl, hb2⟩; have zz2 := hb2.size; have k2 := k1.below hb2 (by omega); have hB3 := hB2.trans (hb2.mono (by omega)); clear c0 c1 c2 c3 c4 c5 c6 c7; have d0 := k2.cell 0 rfl; have d1 := k2.cell 1 rfl; have d2 := k2.cell 2 rfl; have d3 := k2.cell 3 rfl; have d4 := k2.cell 4 rfl; have d5 := k2.cell 5 rfl; have d6 := k2.cell 6 rfl; have d7 := k2.cell 7 rfl))
        go_ret2
        exact ⟨(congrArg Ending.returned hno.out).symm, hB3⟩
      have ba := bval_small ⟨hM1, hM2⟩ hP.out ha hb hf1 bx1
      have bb' := bval_small ⟨hM1, hM2⟩ hP.out ha hb hf2 bx2
      have hva' : bval P a (x1, x2, x3, x4) x y = va := hva
      have hvb' : bval P a (x5, x6, x7, x8) x y = vb := hvb
      rw [hva'] at ba
      rw [hvb'] at bb'
      obtain ⟨z1, hz1⟩ : ∃ z, bsz (x1, x2, x3, x4) = z := ⟨_, rfl⟩
      obtain ⟨z2, hz2⟩ : ∃ z, bsz (x5, x6, x7, x8) = z := ⟨_, rfl⟩
      have bz1 := bsz_bounds bx1
      have bz2 := bsz_bounds bx2
      rw [hz1] at bz1
      rw [hz2] at bz2
      obtain ⟨p1, hp1⟩ : ∃ p, va * z2 = p := ⟨_, rfl⟩
      obtain ⟨p2, hp2⟩ : ∃ p, vb * z1 = p := ⟨_, rfl⟩
      have bp1 : -10000000000000 ≤ p1 ∧ p1 ≤ 10000000000000 := hp1 ▸ mul_small ba bz2
      have bp2 : -10000000000000 ≤ p2 ∧ p2 ≤ 10000000000000 := hp2 ▸ mul_small bb' bz1
      have hFk : Hid (F k = decide (p1 < p2)) := Lib.hid (by rw [← hF.out, ← hp1, ← hp2, ← hz1, ← hz2, ← hva', ← hvb']; show tbit P a (tstAt l k) x y = _; rw [ht'.out]; rfl)
      obtain ⟨bp1a, bp1b⟩ := bp1
      obtain ⟨bp2a, bp2b⟩ := bp2
      have HA' : Hid (∀ j, j < k + 1 → tfit a b (tstAt l j) x y = true) := Lib.hid fun j hj => by
        by_cases e : j = k
        · rw [e, hft.out]; rfl
        · exact HA.out j (by omega)
      replace hf1 := Lib.hid hf1
      replace hf2 := Lib.hid hf2
      replace hva := Lib.hid hva
      replace hvb := Lib.hid hvb
      replace hz1 := Lib.hid hz1
      replace hz2 := Lib.hid hz2
      have j1 : IntKind.i64.wrap p1 = p1 := IntWalk.i64_in _ (by omega)
      have j2 : IntKind.i64.wrap p2 = p2 := IntWalk.i64_in _ (by omega)
      clear hva' hvb' ba bb' bz1 bz2 HA hno
      go_wp2_with (first | (go_at_call 56; clear tok1; refine (sbox_at T a b P M ha hb ⟨hM1, hM2⟩ hP.out (hT'.out _ hB1) ⟨xa, xb⟩ ⟨ya, yb⟩ bx1 hf1.out hva.out (show cod true 15 = 0 from rfl)).mono ?_; rintro e w1 ⟨rfl, hb1⟩; simp only [World.size_alloc] at hb1; have zz1 := hb1.size; (try simp only [World.size_alloc] at zz1); have k1 := k0.below hb1 (by omega); have hB2 := hB1.trans (hb1.mono (by omega)); have c0 := k1.cell 0 rfl; have c1 := k1.cell 1 rfl; have c2 := k1.cell 2 rfl; have c3 := k1.cell 3 rfl; have c4 := k1.cell 4 rfl; have c5 := k1.cell 5 rfl; have c6 := k1.cell 6 rfl; have c7 := k1.cell 7 rfl) | (go_at_call 56; refine (sbox_at T a b P M ha hb ⟨hM1, hM2⟩ hP.out (hT'.out _ hB2) ⟨xa, xb⟩ ⟨ya, yb⟩ bx2 hf2.out hvb.out (show cod true 15 = 0 from rfl)).mono ?_; rintro e w2 ⟨rfl, hb2⟩; have zz2 := hb2.size; have k2 := k1.below hb2 (by omega); have hB3 := hB2.trans (hb2.mono (by omega)); clear c0 c1 c2 c3 c4 c5 c6 c7; have d0 := k2.cell 0 rfl; have d1 := k2.cell 1 rfl; have d2 := k2.cell 2 rfl; have d3 := k2.cell 3 rfl; have d4 := k2.cell 4 rfl; have d5 := k2.cell 5 rfl; have d6 := k2.cell 6 rfl; have d7 := k2.cell 7 rfl))
      have keepS : ∀ w', Below w2.heap.size w2 w' → w'.cell? ⟨wr.heap.size, 0, none⟩ = some (.int .i64 x1) ∧ w'.cell? ⟨wr.heap.size, 1, none⟩ = some (.int .i64 x2) ∧ w'.cell? ⟨wr.heap.size, 2, none⟩ = some (.int .i64 x3) ∧ w'.cell? ⟨wr.heap.size, 3, none⟩ = some (.int .i64 x4) ∧ w'.cell? ⟨wr.heap.size, 4, none⟩ = some (.int .i64 x5) ∧ w'.cell? ⟨wr.heap.size, 5, none⟩ = some (.int .i64 x6) ∧ w'.cell? ⟨wr.heap.size, 6, none⟩ = some (.int .i64 x7) ∧ w'.cell? ⟨wr.heap.size, 7, none⟩ = some (.int .i64 x8) := by
        intro w' hb
        have kk : ∀ ok : Nat, w'.cell? ⟨wr.heap.size, ok, none⟩ = w2.cell? ⟨wr.heap.size, ok, none⟩ := fun ok => hb.cell (p := ⟨wr.heap.size, ok, none⟩) (by show wr.heap.size < _; omega)
        exact ⟨(kk 0).trans d0, (kk 1).trans d1, (kk 2).trans d2, (kk 3).trans d3, (kk 4).trans d4, (kk 5).trans d5, (kk 6).trans d6, (kk 7).trans d7⟩
      replace keepS := Lib.hid keepS
      clear d0 d1 d2 d3 d4 d5 d6 d7
      have qtok1 : True := trivial
      have qtok2 : True := trivial
      go_region_held3 (fun w' => w'.cell? ⟨wr.heap.size, 0, none⟩ = some (.int .i64 x1) ∧ w'.cell? ⟨wr.heap.size, 1, none⟩ = some (.int .i64 x2) ∧ w'.cell? ⟨wr.heap.size, 2, none⟩ = some (.int .i64 x3) ∧ w'.cell? ⟨wr.heap.size, 3, none⟩ = some (.int .i64 x4) ∧ w'.cell? ⟨wr.heap.size, 4, none⟩ = some (.int .i64 x5) ∧ w'.cell? ⟨wr.heap.size, 5, none⟩ = some (.int .i64 x6) ∧ w'.cell? ⟨wr.heap.size, 6, none⟩ = some (.int .i64 x7) ∧ w'.cell? ⟨wr.heap.size, 7, none⟩ = some (.int .i64 x8))
        (exact keepS.out _ (by repeat (first | exact qB2 | exact qB1 | exact (Below.refl w2.heap.size w2) | refine Below.drew ?_ | refine Below.drewN ?_ _ | refine Below.alloc ?_ (by first | omega | (simp <;> omega)) _)))
        (first | (go_at_call 57; clear qtok1; refine (size_at bx2 hz2.out _).mono ?_; rintro e qw1 ⟨rfl, qh1⟩; have qB1 : Below w2.heap.size w2 qw1 := Below.trans (by repeat (first | exact (Below.refl w2.heap.size w2) | refine Below.drew ?_ | refine Below.drewN ?_ _ | refine Below.alloc ?_ (by first | omega | (simp <;> omega)) _)) (qh1.mono (by first | omega | (simp <;> omega))); have qs1 := qB1.size) | (go_at_call 57; clear qtok2; refine (size_at bx1 hz1.out _).mono ?_; rintro e qw2 ⟨rfl, qh2⟩; have qB2 : Below w2.heap.size w2 qw2 := Below.trans (by repeat (first | exact qB1 | refine Below.drew ?_ | refine Below.drewN ?_ _ | refine Below.alloc ?_ (by first | omega | (simp <;> omega)) _)) (qh2.mono (by first | omega | (simp <;> omega))); have qs2 := qB2.size))
      by_cases hlt2 : p1 < p2
      · have hFt : Hid (F k = true) := Lib.hid (by rw [hFk.out]; exact decide_eq_true hlt2)
        have hwn : Hid (((wordF F (k + 1) : Nat) : Int) = bits .or .u64 (wordF F k : Int) (IntKind.u64.wrap ((2 : Int) ^ k))) := Lib.hid (by rw [or_bit' (by omega)]; show (((if F k then _ else _) : Nat) : Int) = _; rw [hFt.out]; rfl)
        go_wp2
        exact ⟨⟨k + 1, hlt, by rw [hwn.out], by go_num, hB3.trans (qB2.mono (by omega)), HA'⟩, by simp [intOf]; omega⟩
      · have hFt : Hid (F k = false) := Lib.hid (by rw [hFk.out]; exact decide_eq_false hlt2)
        have hlt3 : p2 ≤ p1 := by omega
        have hwn : Hid (wordF F (k + 1) = wordF F k) := Lib.hid (by show (if F k then _ else _) = _; rw [hFt.out]; rfl)
        go_wp2
        exact ⟨⟨k + 1, hlt, by rw [hwn.out], by go_num, hB3.trans (qB2.mono (by omega)), HA'⟩, by simp [intOf]; omega⟩
    · obtain rfl : k = n := by omega
      have hyes : Hid (R = .tuple #[.int .u64 (wordF F k : Int), .int .i64 0]) := Lib.hid ((hR1.out (pfit_iff.2 (by rw [← hlen.out]; exact HA.out))).trans (by rw [hW.out]))
      go_wp2
      go_ret2
      exact ⟨(congrArg Ending.returned hyes.out).symm, hB⟩

end Go.Proofs.Ytonpnjjfidpoiaa
