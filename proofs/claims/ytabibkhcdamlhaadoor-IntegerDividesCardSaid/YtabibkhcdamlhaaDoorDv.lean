/-
  Walk: math/bits.Div64, the high part not 0.
-/
import Derived.Test.YtabibkhcdamlhaaDoorNum
import Derived.Test.YtabibkhcdamlhaaDoorI
import Derived.Test.YtabibkhcdamlhaaDoorShelf
import Derived.Test.YtabibkhcdamlhaaDoorLog
import Derived.Laws.Bits64b
set_option linter.unusedSimpArgs false
set_option linter.unusedVariables false
namespace Go.Proofs.YtabibkhcdamlhaaDoor
open Go.RowKit Num

theorem bitLen_facts {y : Nat} (h0 : 0 < y) (h : y < 18446744073709551616) : 1 ≤ Lib.bitLen y ∧ Lib.bitLen y ≤ 64 ∧ 2 ^ (Lib.bitLen y - 1) ≤ y ∧ y < 2 ^ Lib.bitLen y := by
  obtain ⟨a, b, c⟩ := bitLenAux_ok 64 y (by simpa using h) (by omega)
  have : ∀ f x, Lib.bitLenAux f x ≤ f := by
    intro f
    induction f with
    | zero => intro x; simp [Lib.bitLenAux]
    | succ f ih =>
      intro x
      have h1 := ih (x / 2)
      rw [Lib.bitLenAux]
      split <;> omega
  exact ⟨c, this 64 y, a, b⟩

theorem and32 (x : Nat) (hx : x < 18446744073709551616) : bits .and .u64 (x : Int) 4294967295 = ((x % 4294967296 : Nat) : Int) := by
  have := bits_and_u64_nat x 4294967295 hx (by decide)
  rw [show ((4294967295 : Nat) : Int) = 4294967295 from rfl] at this
  rw [this]
  have e := Nat.and_two_pow_sub_one_eq_mod x 32
  simp only [Nat.reducePow, Nat.reduceSub] at e
  rw [e]

theorem wrap_nat {x : Int} {n : Nat} (h : x % 18446744073709551616 = (n : Int)) : IntKind.u64.wrap x = (n : Int) := by rw [IntKind.wrap_u64]; exact h
theorem wrap_ex (x : Int) : ∃ n : Nat, IntKind.u64.wrap x = (n : Int) ∧ n < 18446744073709551616 ∧ x % 18446744073709551616 = (n : Int) := by
  refine ⟨(x % 18446744073709551616).toNat, ?_, by omega, by omega⟩
  rw [IntKind.wrap_u64]
  omega

/-- The rest of a step, reckoned with 64 bits. -/
theorem rest64 {u u1 q Y A B C D v : Nat} (hv : u * 4294967296 + u1 = Y * q + v) (hvl : v < 18446744073709551616)
    (hA : ((u : Int) * 4294967296) % 18446744073709551616 = (A : Int)) (hB : ((A : Int) + (u1 : Int)) % 18446744073709551616 = (B : Int)) (hC : ((q : Int) * (Y : Int)) % 18446744073709551616 = (C : Int)) (hD : ((B : Int) - (C : Int)) % 18446744073709551616 = (D : Int)) : D = v := by
  have e : (u : Int) * 4294967296 + (u1 : Int) = (q : Int) * (Y : Int) + (v : Int) := by
    have := congrArg (fun n : Nat => (n : Int)) hv
    simp only [Int.natCast_add, Int.natCast_mul] at this
    rw [Int.mul_comm (Y : Int)] at this
    exact this
  generalize (q : Int) * (Y : Int) = P at *
  omega

/-- The call returns a quotient, and something else. -/
def RetQ (w : World) (n : Nat) (e : Ending) (w' : World) : Prop := ∃ r : Int, e = .returned (.tuple #[.int .u64 (n : Int), .int .u64 r]) ∧ ∃ q, w' = w.drewN q
theorem RetQ.mk {w : World} {Q R : Nat} {r : Int} {k : Nat} : RetQ w (Q * 4294967296 + R) (.returned (.tuple #[.int .u64 ((Q : Int) * 4294967296 + (R : Int)), .int .u64 r])) (w.drewN k) := ⟨r, by simp, k, rfl⟩

set_option maxRecDepth 100000 in
set_option maxHeartbeats 16000000 in
/-- Div64, the high part not 0. -/
theorem Div64_hi (hi lo y : Nat) (h0 : 0 < hi) (hlt : hi < y) (hlo : lo < 18446744073709551616) (hy2 : y < 18446744073709551616) (w : World) :
    Calls Tryd.prog 107 #[.int .u64 (hi : Int), .int .u64 (lo : Int), .int .u64 (y : Int)] w (RetQ w ((hi * 18446744073709551616 + lo) / y)) := by
  obtain ⟨b1, b2, b3, b4⟩ := bitLen_facts (by omega) hy2
  have hlz := fun w => Tryd.bits_LeadingZeros64 (y : Int) w (by omega) (by omega)
  rw [Int.toNat_natCast] at hlz
  obtain ⟨Y, yn1, yn0, u, u1, u0, hN⟩ := Norm.ex hlt hlo b1 b2 b3 b4
  obtain ⟨s, hs⟩ : ∃ s, 64 - Lib.bitLen y = s := ⟨_, rfl⟩
  have hsI : (64 : Int) - (Lib.bitLen y : Int) = (s : Int) := by omega
  rw [hs] at hN
  rw [hsI] at hlz
  clear b3 b4
  obtain ⟨e1, e2, e3, e4, e5, e6, e7, e8, e9, e10, e11, e12, e13, e14, e15, e16⟩ := hN
  obtain ⟨t, ht⟩ : ∃ t, 64 - s = t := ⟨_, rfl⟩
  rw [ht] at e8 e9 e11
  obtain ⟨a, ha⟩ : ∃ a, hi * 2 ^ s = a := ⟨_, rfl⟩
  obtain ⟨l1, hl1⟩ : ∃ l1, lo / 2 ^ t = l1 := ⟨_, rfl⟩
  obtain ⟨L, hL⟩ : ∃ L, lo * 2 ^ s % 18446744073709551616 = L := ⟨_, rfl⟩
  rw [ha] at e8 e9 e10
  rw [hl1] at e8 e9 e11
  rw [hL] at e13
  have k1 : ((y : Int) == 0) = false := by rw [beq_eq_false_iff_ne]; omega
  have k2 : ¬ (y : Int) ≤ (hi : Int) := by omega
  have k3 : ((hi : Int) == 0) = false := by rw [beq_eq_false_iff_ne]; omega
  have k4 : (s : Int) ≤ 63 := by omega
  have k5 : IntKind.u64.wrap ((y : Int) * 2 ^ s) = (Y : Int) := wrap_nat (by rw [← e2]; have := e3; rw [← e2] at this; rw [show (y : Int) * 2 ^ s = ((y * 2 ^ s : Nat) : Int) by simp]; generalize y * 2 ^ s = z at *; omega)
  have k6 : (Y : Int) / 4294967296 = (yn1 : Int) := by omega
  have k7 : bits .and .u64 (Y : Int) 4294967295 = (yn0 : Int) := by rw [and32 Y e3]; congr 1; omega
  have k8 : IntKind.u64.wrap ((hi : Int) * 2 ^ s) = (a : Int) := wrap_nat (by rw [show (hi : Int) * 2 ^ s = ((hi * 2 ^ s : Nat) : Int) by simp, ha]; omega)
  have k9 : (64 : Int) - (s : Int) = (t : Int) := by omega
  have k10 : (lo : Int) / 2 ^ t = (l1 : Int) := by rw [← hl1]; simp
  have k11 : bits .or .u64 (a : Int) (l1 : Int) = (u : Int) := by rw [bits_or_u64_nat a l1 e10 e11, e9]
  have k12 : IntKind.u64.wrap ((lo : Int) * 2 ^ s) = (L : Int) := wrap_nat (by rw [← hL, show (lo : Int) * 2 ^ s = ((lo * 2 ^ s : Nat) : Int) by simp]; generalize lo * 2 ^ s = z; omega)
  have hLl : L < 18446744073709551616 := by rw [← hL]; exact Nat.mod_lt _ (by decide)
  have k13 : (L : Int) / 4294967296 = (u1 : Int) := by omega
  have k14 : bits .and .u64 (L : Int) 4294967295 = (u0 : Int) := by rw [and32 L hLl]; congr 1; omega
  have k15 : (t : Int) ≤ 64 := by omega
  have k16 : ((yn1 : Int) == 0) = false := by rw [beq_eq_false_iff_ne]; omega
  have k17 : (2147483648 : Int) ≤ (yn1 : Int) := by omega
  have k18 : (yn1 : Int) ≤ 4294967295 := by omega
  have k19 : (u1 : Int) ≤ 4294967295 := by omega
  have k20 : (u0 : Int) ≤ 4294967295 := by omega
  have k21 : (Y : Int) ≤ 18446744073709551615 := by omega
  have k22 : (u : Int) ≤ 18446744073709551614 := by omega
  have k23 : (hi : Int) ≤ 18446744073709551614 := by omega
  have k24 : (lo : Int) ≤ 18446744073709551615 := by omega
  have k25 : (a : Int) ≤ 18446744073709551615 := by omega
  have k26 : (L : Int) ≤ 18446744073709551615 := by omega
  have k27 : (l1 : Int) ≤ 18446744073709551615 := by omega
  have hY0 : 0 < Y := by omega
  obtain ⟨Q, hQ⟩ : ∃ Q, (u * 4294967296 + u1) / Y = Q := ⟨_, rfl⟩
  have hQs : Q < 4294967296 := hQ ▸ est_small e12 e14
  have hQi : Q ≤ u / yn1 := hQ ▸ est_init e4 (by omega) e14
  have hum := est_most e4 e12 e5 e7
  obtain ⟨v, hv⟩ : ∃ v, (u * 4294967296 + u1) % Y = v := ⟨_, rfl⟩
  have hvY : v < Y := hv ▸ Nat.mod_lt _ hY0
  have hdm := Nat.div_add_mod (u * 4294967296 + u1) Y
  rw [hQ, hv] at hdm
  have hfin := long_div (u * 4294967296 + u1) 4294967296 u0 Y hY0
  rw [hQ, hv, e16] at hfin
  have hle := fun q r (h : q * yn1 + r = u) (h1 : q * yn0 ≤ 4294967296 * r + u1) => (est_le e4 h h1).resolve_right (by omega)
  have hltq := fun q r (h : q * yn1 + r = u) (h1 : 4294967296 * r + u1 < q * yn0) => est_lt e4 hY0 h h1
  rw [hQ] at hle hltq
  obtain ⟨R, hR⟩ : ∃ R, (v * 4294967296 + u0) / Y = R := ⟨_, rfl⟩
  have hRs : R < 4294967296 := hR ▸ est_small hvY e15
  have hRi : R ≤ v / yn1 := hR ▸ est_init e4 (by omega) e15
  have hvm := est_most e4 hvY e5 e7
  have hle2 := fun q r (h : q * yn1 + r = v) (h1 : q * yn0 ≤ 4294967296 * r + u0) => (est_le e4 h h1).resolve_right (by omega)
  have hltq2 := fun q r (h : q * yn1 + r = v) (h1 : 4294967296 * r + u0 < q * yn0) => est_lt e4 hY0 h h1
  rw [hR] at hle2 hltq2 hfin
  have hbig : ∀ q, q ≤ 4294967297 → q * yn0 ≤ 18446744073709551615 := fun q hq => by
    have := Nat.mul_le_mul hq (show yn0 ≤ 4294967295 by omega)
    omega
  obtain ⟨q0, hq0⟩ : ∃ q0, u / yn1 = q0 := ⟨_, rfl⟩
  rw [hq0] at hQi hum
  have hqI : (u : Int) / (yn1 : Int) = (q0 : Int) := by rw [← hq0]; exact (Int.natCast_ediv u yn1).symm
  have hdq := Nat.div_add_mod u yn1
  have hmq := Nat.mod_lt u (show 0 < yn1 by omega)
  rw [hq0, Nat.mul_comm] at hdq
  obtain ⟨r0, hr0⟩ : ∃ r0, u % yn1 = r0 := ⟨_, rfl⟩
  rw [hr0] at hdq hmq
  obtain ⟨p0, hp0⟩ : ∃ p0, q0 * yn1 = p0 := ⟨_, rfl⟩
  have hp0' : p0 + r0 = u := by rw [← hp0]; exact hdq
  have hpw : IntKind.u64.wrap ((q0 : Int) * (yn1 : Int)) = (p0 : Int) := wrap_nat (by rw [← hp0, Int.natCast_mul]; have : (q0 : Int) * (yn1 : Int) = (p0 : Int) := (by rw [← hp0, Int.natCast_mul]); rw [this]; omega)
  have hru : (u : Int) - (p0 : Int) = (r0 : Int) := by omega
  have hr0b : (r0 : Int) ≤ 4294967294 := by omega
  have hq0b : (q0 : Int) ≤ 4294967298 := by omega
  have hQsI : (Q : Int) ≤ 4294967295 := by omega
  have hRsI : (R : Int) ≤ 4294967295 := by omega
  have hyn0I : (yn0 : Int) ≤ 4294967295 := by omega
  have hvmI : ((v / yn1 : Nat) : Int) ≤ 4294967298 := by omega
  clear hQs hRs hum hvm e5 e6 e7 e14 e15 hlo hy2 b1 b2 hLl
  clear e1 e2 e3 e8 e9 e10 e11 e13 e16 hs hsI ht ha hl1 hL hlt h0 hQ hv hR hq0 hr0 hp0
  replace hle := Lib.hid hle
  replace hltq := Lib.hid hltq
  replace hle2 := Lib.hid hle2
  replace hltq2 := Lib.hid hltq2
  replace hbig := Lib.hid hbig
  replace hdm := Lib.hid hdm
  replace hfin := Lib.hid hfin
  replace e4 := Lib.hid e4
  replace hlz := Lib.hid hlz
  rw [← hfin.out]
  go_enter Tryd.func107, Tryd.ntmps107
  go_wp2_with (go_at_call 119; refine (hlz.out _).mono ?_; rintro e w1 ⟨rfl, hw1⟩; have hw2 := hw1.symm; clear hw1; subst hw2)
  go_loopw [15, 16] (fun qv rv wr => ∃ q r : Nat, qv = .int .u64 (q : Int) ∧ rv = .int .u64 (r : Int) ∧ q * yn1 + r = u ∧ Q ≤ q ∧ q ≤ 4294967298 ∧ r ≤ 4294967295 ∧ ∃ k, wr = w.drewN k) (fun qv _ _ => (intOf qv).toNat)
  case atStart => exact ⟨q0, r0, rfl, rfl, hdq, hQi, by omega, by omega, 0, rfl⟩
  case round =>
    obtain ⟨q, r, rfl, rfl, hqr, hQq, hqm, hrm, k1, rfl⟩ := hrel
    have hqmI : (q : Int) ≤ 4294967298 := by omega
    have hrmI : (r : Int) ≤ 4294967295 := by omega
    clear hqm hrm
    by_cases hbq : 4294967296 ≤ q
    · have hbqI : decide ((4294967296 : Int) ≤ (q : Int)) = true := decide_eq_true (by omega)
      have hQlt : Q < q := by omega
      obtain ⟨q', hq'⟩ : ∃ q', q = q' + 1 := ⟨q - 1, by omega⟩
      have hqI1 : (q : Int) - 1 = (q' : Int) := by omega
      obtain ⟨r2, hr2⟩ : ∃ r2, r + yn1 = r2 := ⟨_, rfl⟩
      have hrI2 : (r : Int) + (yn1 : Int) = (r2 : Int) := by omega
      have hqr2 : q' * yn1 + r2 = u := by
        have h9 := hqr
        rw [hq', Nat.add_mul, Nat.one_mul] at h9
        omega
      have hq1 : (1 : Int) ≤ (q : Int) := by omega
      have hr2b : (r2 : Int) ≤ 8589934590 := by omega
      have hfa : Q ≤ q' ∧ q' ≤ 4294967298 := by omega
      by_cases hbr : 4294967296 ≤ r2
      · obtain rfl : q' = Q := by
          have h8 := hbig.out q' (by omega)
          have h7 := hle.out q' r2 hqr2 (by omega)
          omega
        have hbrD : decide ((4294967296 : Int) ≤ (r2 : Int)) = true := decide_eq_true (by omega)
        replace hq' := Lib.hid hq'; replace hr2 := Lib.hid hr2; replace hqr := Lib.hid hqr; replace hqr2 := Lib.hid hqr2; replace hbr := Lib.hid hbr; replace hfa := Lib.hid hfa; replace hbq := Lib.hid hbq; try (replace hP1 := Lib.hid hP1); try (replace hPt := Lib.hid hPt)
        have hdmq := hdm.out
        obtain ⟨A, hA1, hA2, hA3⟩ := wrap_ex ((u : Int) * 4294967296)
        obtain ⟨B, hB1, hB2, hB3⟩ := wrap_ex ((A : Int) + (u1 : Int))
        obtain ⟨C, hC1, hC2, hC3⟩ := wrap_ex ((q' : Int) * (Y : Int))
        obtain ⟨D, hD1, hD2, hD3⟩ := wrap_ex ((B : Int) - (C : Int))
        obtain rfl : D = v := rest64 hdmq.symm (by omega) hA3 hB3 hC3 hD3
        obtain ⟨qs, hqs⟩ : ∃ qs, D / yn1 = qs := ⟨_, rfl⟩
        rw [hqs] at hRi hvmI
        have hqsI : (D : Int) / (yn1 : Int) = (qs : Int) := by rw [← hqs]; exact (Int.natCast_ediv D yn1).symm
        have hds := Nat.div_add_mod D yn1
        have hms := Nat.mod_lt D (show 0 < yn1 by omega)
        rw [hqs, Nat.mul_comm] at hds
        obtain ⟨rs, hrs⟩ : ∃ rs, D % yn1 = rs := ⟨_, rfl⟩
        rw [hrs] at hds hms
        obtain ⟨ps, hps⟩ : ∃ ps, qs * yn1 = ps := ⟨_, rfl⟩
        have hps' : ps + rs = D := by rw [← hps]; exact hds
        have hpws : IntKind.u64.wrap ((qs : Int) * (yn1 : Int)) = (ps : Int) := wrap_nat (by have h9 : (qs : Int) * (yn1 : Int) = (ps : Int) := (by rw [← hps, Int.natCast_mul]); rw [h9]; omega)
        have hrus : (D : Int) - (ps : Int) = (rs : Int) := by omega
        have hrsb : (rs : Int) ≤ 4294967294 := by omega
        have hqsb : (qs : Int) ≤ 4294967298 := by omega
        have hq'b : (q' : Int) ≤ 4294967295 := by omega
        have hDb : (D : Int) ≤ 18446744073709551614 := by omega
        clear hqs hrs hA2 hA3 hB2 hB3 hC2 hC3 hD3 hdmq hdm hps hD2
        go_wp2
        go_loopw [18, 16] (fun qv rv wr => ∃ q r : Nat, qv = .int .u64 (q : Int) ∧ rv = .int .u64 (r : Int) ∧ q * yn1 + r = D ∧ R ≤ q ∧ q ≤ 4294967298 ∧ r ≤ 4294967295 ∧ ∃ k, wr = w.drewN k) (fun qv _ _ => (intOf qv).toNat)
        case atStart => exact ⟨qs, rs, rfl, rfl, hds, hRi, by omega, by omega, _, rfl⟩
        case round =>
          obtain ⟨q, r, rfl, rfl, hqr, hQq, hqm, hrm, k2, rfl⟩ := hrel
          have hqmI : (q : Int) ≤ 4294967298 := by omega
          have hrmI : (r : Int) ≤ 4294967295 := by omega
          clear hqm hrm
          by_cases hbq : 4294967296 ≤ q
          · have hbqI : decide ((4294967296 : Int) ≤ (q : Int)) = true := decide_eq_true (by omega)
            have hQlt : R < q := by omega
            obtain ⟨q', hq'⟩ : ∃ q', q = q' + 1 := ⟨q - 1, by omega⟩
            have hqI1 : (q : Int) - 1 = (q' : Int) := by omega
            obtain ⟨r2, hr2⟩ : ∃ r2, r + yn1 = r2 := ⟨_, rfl⟩
            have hrI2 : (r : Int) + (yn1 : Int) = (r2 : Int) := by omega
            have hqr2 : q' * yn1 + r2 = D := by
              have h9 := hqr
              rw [hq', Nat.add_mul, Nat.one_mul] at h9
              omega
            have hq1 : (1 : Int) ≤ (q : Int) := by omega
            have hr2b : (r2 : Int) ≤ 8589934590 := by omega
            have hfa : R ≤ q' ∧ q' ≤ 4294967298 := by omega
            by_cases hbr : 4294967296 ≤ r2
            · obtain rfl : q' = R := by
                have h8 := hbig.out q' (by omega)
                have h7 := hle2.out q' r2 hqr2 (by omega)
                omega
              have hbrD : decide ((4294967296 : Int) ≤ (r2 : Int)) = true := decide_eq_true (by omega)
              replace hq' := Lib.hid hq'; replace hr2 := Lib.hid hr2; replace hqr := Lib.hid hqr; replace hqr2 := Lib.hid hqr2; replace hbr := Lib.hid hbr; replace hfa := Lib.hid hfa; replace hbq := Lib.hid hbq; try (replace hP1 := Lib.hid hP1); try (replace hPt := Lib.hid hPt)
              go_wp2
              go_ret2
              exact RetQ.mk
            · have hbrD : decide ((4294967296 : Int) ≤ (r2 : Int)) = false := decide_eq_false (by omega)
              have hr3 := Lib.hid (show r2 ≤ 4294967295 by omega)
              replace hq' := Lib.hid hq'; replace hr2 := Lib.hid hr2; replace hqr := Lib.hid hqr; replace hqr2 := Lib.hid hqr2; replace hbr := Lib.hid hbr; replace hfa := Lib.hid hfa; replace hbq := Lib.hid hbq; try (replace hP1 := Lib.hid hP1); try (replace hPt := Lib.hid hPt)
              go_wp2
              go_roundw
              case rel => exact ⟨q', r2, rfl, rfl, hqr2.out, hfa.out.1, hfa.out.2, hr3.out, _, rfl⟩
              case measure => simp [intOf]; omega
          · have hbqI : decide ((4294967296 : Int) ≤ (q : Int)) = false := decide_eq_false (by omega)
            obtain ⟨P, hP⟩ : ∃ P, q * yn0 = P := ⟨_, rfl⟩
            have hP1 := hbig.out q (by omega)
            rw [hP] at hP1
            have hPI : (q : Int) * (yn0 : Int) = (P : Int) := by rw [← hP, Int.natCast_mul]
            have hPw : IntKind.u64.wrap ((q : Int) * (yn0 : Int)) = (P : Int) := wrap_nat (by rw [hPI]; omega)
            by_cases hPt : 4294967296 * r + u0 < P
            · have hPtI : 4294967296 * (r : Int) + (u0 : Int) < (P : Int) := by omega
              have hQlt := hltq2.out q r hqr (by rw [hP]; exact hPt)
              replace hP := Lib.hid hP
              clear hPI
              obtain ⟨q', hq'⟩ : ∃ q', q = q' + 1 := ⟨q - 1, by omega⟩
              have hqI1 : (q : Int) - 1 = (q' : Int) := by omega
              obtain ⟨r2, hr2⟩ : ∃ r2, r + yn1 = r2 := ⟨_, rfl⟩
              have hrI2 : (r : Int) + (yn1 : Int) = (r2 : Int) := by omega
              have hqr2 : q' * yn1 + r2 = D := by
                have h9 := hqr
                rw [hq', Nat.add_mul, Nat.one_mul] at h9
                omega
              have hq1 : (1 : Int) ≤ (q : Int) := by omega
              have hr2b : (r2 : Int) ≤ 8589934590 := by omega
              have hfa : R ≤ q' ∧ q' ≤ 4294967298 := by omega
              by_cases hbr : 4294967296 ≤ r2
              · obtain rfl : q' = R := by
                  have h8 := hbig.out q' (by omega)
                  have h7 := hle2.out q' r2 hqr2 (by omega)
                  omega
                have hbrD : decide ((4294967296 : Int) ≤ (r2 : Int)) = true := decide_eq_true (by omega)
                replace hq' := Lib.hid hq'; replace hr2 := Lib.hid hr2; replace hqr := Lib.hid hqr; replace hqr2 := Lib.hid hqr2; replace hbr := Lib.hid hbr; replace hfa := Lib.hid hfa; replace hbq := Lib.hid hbq; try (replace hP1 := Lib.hid hP1); try (replace hPt := Lib.hid hPt)
                go_wp2
                go_ret2
                exact RetQ.mk
              · have hbrD : decide ((4294967296 : Int) ≤ (r2 : Int)) = false := decide_eq_false (by omega)
                have hr3 := Lib.hid (show r2 ≤ 4294967295 by omega)
                replace hq' := Lib.hid hq'; replace hr2 := Lib.hid hr2; replace hqr := Lib.hid hqr; replace hqr2 := Lib.hid hqr2; replace hbr := Lib.hid hbr; replace hfa := Lib.hid hfa; replace hbq := Lib.hid hbq; try (replace hP1 := Lib.hid hP1); try (replace hPt := Lib.hid hPt)
                go_wp2
                go_roundw
                case rel => exact ⟨q', r2, rfl, rfl, hqr2.out, hfa.out.1, hfa.out.2, hr3.out, _, rfl⟩
                case measure => simp [intOf]; omega
            · have hPtI : ¬ 4294967296 * (r : Int) + (u0 : Int) < (P : Int) := by omega
              have hQe := hle2.out q r hqr (by rw [hP]; omega)
              obtain rfl : q = R := by omega
              replace hP := Lib.hid hP
              clear hPI hQe
              replace hqr := Lib.hid hqr; replace hbq := Lib.hid hbq; replace hP1 := Lib.hid hP1; replace hPt := Lib.hid hPt
              go_wp2
              go_ret2
              exact RetQ.mk
      · have hbrD : decide ((4294967296 : Int) ≤ (r2 : Int)) = false := decide_eq_false (by omega)
        have hr3 := Lib.hid (show r2 ≤ 4294967295 by omega)
        replace hq' := Lib.hid hq'; replace hr2 := Lib.hid hr2; replace hqr := Lib.hid hqr; replace hqr2 := Lib.hid hqr2; replace hbr := Lib.hid hbr; replace hfa := Lib.hid hfa; replace hbq := Lib.hid hbq; try (replace hP1 := Lib.hid hP1); try (replace hPt := Lib.hid hPt)
        go_wp2
        go_roundw
        case rel => exact ⟨q', r2, rfl, rfl, hqr2.out, hfa.out.1, hfa.out.2, hr3.out, _, rfl⟩
        case measure => simp [intOf]; omega
    · have hbqI : decide ((4294967296 : Int) ≤ (q : Int)) = false := decide_eq_false (by omega)
      obtain ⟨P, hP⟩ : ∃ P, q * yn0 = P := ⟨_, rfl⟩
      have hP1 := hbig.out q (by omega)
      rw [hP] at hP1
      have hPI : (q : Int) * (yn0 : Int) = (P : Int) := by rw [← hP, Int.natCast_mul]
      have hPw : IntKind.u64.wrap ((q : Int) * (yn0 : Int)) = (P : Int) := wrap_nat (by rw [hPI]; omega)
      by_cases hPt : 4294967296 * r + u1 < P
      · have hPtI : 4294967296 * (r : Int) + (u1 : Int) < (P : Int) := by omega
        have hQlt := hltq.out q r hqr (by rw [hP]; exact hPt)
        replace hP := Lib.hid hP
        clear hPI
        obtain ⟨q', hq'⟩ : ∃ q', q = q' + 1 := ⟨q - 1, by omega⟩
        have hqI1 : (q : Int) - 1 = (q' : Int) := by omega
        obtain ⟨r2, hr2⟩ : ∃ r2, r + yn1 = r2 := ⟨_, rfl⟩
        have hrI2 : (r : Int) + (yn1 : Int) = (r2 : Int) := by omega
        have hqr2 : q' * yn1 + r2 = u := by
          have h9 := hqr
          rw [hq', Nat.add_mul, Nat.one_mul] at h9
          omega
        have hq1 : (1 : Int) ≤ (q : Int) := by omega
        have hr2b : (r2 : Int) ≤ 8589934590 := by omega
        have hfa : Q ≤ q' ∧ q' ≤ 4294967298 := by omega
        by_cases hbr : 4294967296 ≤ r2
        · obtain rfl : q' = Q := by
            have h8 := hbig.out q' (by omega)
            have h7 := hle.out q' r2 hqr2 (by omega)
            omega
          have hbrD : decide ((4294967296 : Int) ≤ (r2 : Int)) = true := decide_eq_true (by omega)
          replace hq' := Lib.hid hq'; replace hr2 := Lib.hid hr2; replace hqr := Lib.hid hqr; replace hqr2 := Lib.hid hqr2; replace hbr := Lib.hid hbr; replace hfa := Lib.hid hfa; replace hbq := Lib.hid hbq; try (replace hP1 := Lib.hid hP1); try (replace hPt := Lib.hid hPt)
          have hdmq := hdm.out
          obtain ⟨A, hA1, hA2, hA3⟩ := wrap_ex ((u : Int) * 4294967296)
          obtain ⟨B, hB1, hB2, hB3⟩ := wrap_ex ((A : Int) + (u1 : Int))
          obtain ⟨C, hC1, hC2, hC3⟩ := wrap_ex ((q' : Int) * (Y : Int))
          obtain ⟨D, hD1, hD2, hD3⟩ := wrap_ex ((B : Int) - (C : Int))
          obtain rfl : D = v := rest64 hdmq.symm (by omega) hA3 hB3 hC3 hD3
          obtain ⟨qs, hqs⟩ : ∃ qs, D / yn1 = qs := ⟨_, rfl⟩
          rw [hqs] at hRi hvmI
          have hqsI : (D : Int) / (yn1 : Int) = (qs : Int) := by rw [← hqs]; exact (Int.natCast_ediv D yn1).symm
          have hds := Nat.div_add_mod D yn1
          have hms := Nat.mod_lt D (show 0 < yn1 by omega)
          rw [hqs, Nat.mul_comm] at hds
          obtain ⟨rs, hrs⟩ : ∃ rs, D % yn1 = rs := ⟨_, rfl⟩
          rw [hrs] at hds hms
          obtain ⟨ps, hps⟩ : ∃ ps, qs * yn1 = ps := ⟨_, rfl⟩
          have hps' : ps + rs = D := by rw [← hps]; exact hds
          have hpws : IntKind.u64.wrap ((qs : Int) * (yn1 : Int)) = (ps : Int) := wrap_nat (by have h9 : (qs : Int) * (yn1 : Int) = (ps : Int) := (by rw [← hps, Int.natCast_mul]); rw [h9]; omega)
          have hrus : (D : Int) - (ps : Int) = (rs : Int) := by omega
          have hrsb : (rs : Int) ≤ 4294967294 := by omega
          have hqsb : (qs : Int) ≤ 4294967298 := by omega
          have hq'b : (q' : Int) ≤ 4294967295 := by omega
          have hDb : (D : Int) ≤ 18446744073709551614 := by omega
          clear hqs hrs hA2 hA3 hB2 hB3 hC2 hC3 hD3 hdmq hdm hps hD2
          go_wp2
          go_loopw [18, 16] (fun qv rv wr => ∃ q r : Nat, qv = .int .u64 (q : Int) ∧ rv = .int .u64 (r : Int) ∧ q * yn1 + r = D ∧ R ≤ q ∧ q ≤ 4294967298 ∧ r ≤ 4294967295 ∧ ∃ k, wr = w.drewN k) (fun qv _ _ => (intOf qv).toNat)
          case atStart => exact ⟨qs, rs, rfl, rfl, hds, hRi, by omega, by omega, _, rfl⟩
          case round =>
            obtain ⟨q, r, rfl, rfl, hqr, hQq, hqm, hrm, k2, rfl⟩ := hrel
            have hqmI : (q : Int) ≤ 4294967298 := by omega
            have hrmI : (r : Int) ≤ 4294967295 := by omega
            clear hqm hrm
            by_cases hbq : 4294967296 ≤ q
            · have hbqI : decide ((4294967296 : Int) ≤ (q : Int)) = true := decide_eq_true (by omega)
              have hQlt : R < q := by omega
              obtain ⟨q', hq'⟩ : ∃ q', q = q' + 1 := ⟨q - 1, by omega⟩
              have hqI1 : (q : Int) - 1 = (q' : Int) := by omega
              obtain ⟨r2, hr2⟩ : ∃ r2, r + yn1 = r2 := ⟨_, rfl⟩
              have hrI2 : (r : Int) + (yn1 : Int) = (r2 : Int) := by omega
              have hqr2 : q' * yn1 + r2 = D := by
                have h9 := hqr
                rw [hq', Nat.add_mul, Nat.one_mul] at h9
                omega
              have hq1 : (1 : Int) ≤ (q : Int) := by omega
              have hr2b : (r2 : Int) ≤ 8589934590 := by omega
              have hfa : R ≤ q' ∧ q' ≤ 4294967298 := by omega
              by_cases hbr : 4294967296 ≤ r2
              · obtain rfl : q' = R := by
                  have h8 := hbig.out q' (by omega)
                  have h7 := hle2.out q' r2 hqr2 (by omega)
                  omega
                have hbrD : decide ((4294967296 : Int) ≤ (r2 : Int)) = true := decide_eq_true (by omega)
                replace hq' := Lib.hid hq'; replace hr2 := Lib.hid hr2; replace hqr := Lib.hid hqr; replace hqr2 := Lib.hid hqr2; replace hbr := Lib.hid hbr; replace hfa := Lib.hid hfa; replace hbq := Lib.hid hbq; try (replace hP1 := Lib.hid hP1); try (replace hPt := Lib.hid hPt)
                go_wp2
                go_ret2
                exact RetQ.mk
              · have hbrD : decide ((4294967296 : Int) ≤ (r2 : Int)) = false := decide_eq_false (by omega)
                have hr3 := Lib.hid (show r2 ≤ 4294967295 by omega)
                replace hq' := Lib.hid hq'; replace hr2 := Lib.hid hr2; replace hqr := Lib.hid hqr; replace hqr2 := Lib.hid hqr2; replace hbr := Lib.hid hbr; replace hfa := Lib.hid hfa; replace hbq := Lib.hid hbq; try (replace hP1 := Lib.hid hP1); try (replace hPt := Lib.hid hPt)
                go_wp2
                go_roundw
                case rel => exact ⟨q', r2, rfl, rfl, hqr2.out, hfa.out.1, hfa.out.2, hr3.out, _, rfl⟩
                case measure => simp [intOf]; omega
            · have hbqI : decide ((4294967296 : Int) ≤ (q : Int)) = false := decide_eq_false (by omega)
              obtain ⟨P, hP⟩ : ∃ P, q * yn0 = P := ⟨_, rfl⟩
              have hP1 := hbig.out q (by omega)
              rw [hP] at hP1
              have hPI : (q : Int) * (yn0 : Int) = (P : Int) := by rw [← hP, Int.natCast_mul]
              have hPw : IntKind.u64.wrap ((q : Int) * (yn0 : Int)) = (P : Int) := wrap_nat (by rw [hPI]; omega)
              by_cases hPt : 4294967296 * r + u0 < P
              · have hPtI : 4294967296 * (r : Int) + (u0 : Int) < (P : Int) := by omega
                have hQlt := hltq2.out q r hqr (by rw [hP]; exact hPt)
                replace hP := Lib.hid hP
                clear hPI
                obtain ⟨q', hq'⟩ : ∃ q', q = q' + 1 := ⟨q - 1, by omega⟩
                have hqI1 : (q : Int) - 1 = (q' : Int) := by omega
                obtain ⟨r2, hr2⟩ : ∃ r2, r + yn1 = r2 := ⟨_, rfl⟩
                have hrI2 : (r : Int) + (yn1 : Int) = (r2 : Int) := by omega
                have hqr2 : q' * yn1 + r2 = D := by
                  have h9 := hqr
                  rw [hq', Nat.add_mul, Nat.one_mul] at h9
                  omega
                have hq1 : (1 : Int) ≤ (q : Int) := by omega
                have hr2b : (r2 : Int) ≤ 8589934590 := by omega
                have hfa : R ≤ q' ∧ q' ≤ 4294967298 := by omega
                by_cases hbr : 4294967296 ≤ r2
                · obtain rfl : q' = R := by
                    have h8 := hbig.out q' (by omega)
                    have h7 := hle2.out q' r2 hqr2 (by omega)
                    omega
                  have hbrD : decide ((4294967296 : Int) ≤ (r2 : Int)) = true := decide_eq_true (by omega)
                  replace hq' := Lib.hid hq'; replace hr2 := Lib.hid hr2; replace hqr := Lib.hid hqr; replace hqr2 := Lib.hid hqr2; replace hbr := Lib.hid hbr; replace hfa := Lib.hid hfa; replace hbq := Lib.hid hbq; try (replace hP1 := Lib.hid hP1); try (replace hPt := Lib.hid hPt)
                  go_wp2
                  go_ret2
                  exact RetQ.mk
                · have hbrD : decide ((4294967296 : Int) ≤ (r2 : Int)) = false := decide_eq_false (by omega)
                  have hr3 := Lib.hid (show r2 ≤ 4294967295 by omega)
                  replace hq' := Lib.hid hq'; replace hr2 := Lib.hid hr2; replace hqr := Lib.hid hqr; replace hqr2 := Lib.hid hqr2; replace hbr := Lib.hid hbr; replace hfa := Lib.hid hfa; replace hbq := Lib.hid hbq; try (replace hP1 := Lib.hid hP1); try (replace hPt := Lib.hid hPt)
                  go_wp2
                  go_roundw
                  case rel => exact ⟨q', r2, rfl, rfl, hqr2.out, hfa.out.1, hfa.out.2, hr3.out, _, rfl⟩
                  case measure => simp [intOf]; omega
              · have hPtI : ¬ 4294967296 * (r : Int) + (u0 : Int) < (P : Int) := by omega
                have hQe := hle2.out q r hqr (by rw [hP]; omega)
                obtain rfl : q = R := by omega
                replace hP := Lib.hid hP
                clear hPI hQe
                replace hqr := Lib.hid hqr; replace hbq := Lib.hid hbq; replace hP1 := Lib.hid hP1; replace hPt := Lib.hid hPt
                go_wp2
                go_ret2
                exact RetQ.mk
        · have hbrD : decide ((4294967296 : Int) ≤ (r2 : Int)) = false := decide_eq_false (by omega)
          have hr3 := Lib.hid (show r2 ≤ 4294967295 by omega)
          replace hq' := Lib.hid hq'; replace hr2 := Lib.hid hr2; replace hqr := Lib.hid hqr; replace hqr2 := Lib.hid hqr2; replace hbr := Lib.hid hbr; replace hfa := Lib.hid hfa; replace hbq := Lib.hid hbq; try (replace hP1 := Lib.hid hP1); try (replace hPt := Lib.hid hPt)
          go_wp2
          go_roundw
          case rel => exact ⟨q', r2, rfl, rfl, hqr2.out, hfa.out.1, hfa.out.2, hr3.out, _, rfl⟩
          case measure => simp [intOf]; omega
      · have hPtI : ¬ 4294967296 * (r : Int) + (u1 : Int) < (P : Int) := by omega
        have hQe := hle.out q r hqr (by rw [hP]; omega)
        obtain rfl : q = Q := by omega
        replace hP := Lib.hid hP
        clear hPI hQe
        replace hqr := Lib.hid hqr; replace hbq := Lib.hid hbq; replace hP1 := Lib.hid hP1; replace hPt := Lib.hid hPt
        have hdmq := hdm.out
        obtain ⟨A, hA1, hA2, hA3⟩ := wrap_ex ((u : Int) * 4294967296)
        obtain ⟨B, hB1, hB2, hB3⟩ := wrap_ex ((A : Int) + (u1 : Int))
        obtain ⟨C, hC1, hC2, hC3⟩ := wrap_ex ((q : Int) * (Y : Int))
        obtain ⟨D, hD1, hD2, hD3⟩ := wrap_ex ((B : Int) - (C : Int))
        obtain rfl : D = v := rest64 hdmq.symm (by omega) hA3 hB3 hC3 hD3
        obtain ⟨qs, hqs⟩ : ∃ qs, D / yn1 = qs := ⟨_, rfl⟩
        rw [hqs] at hRi hvmI
        have hqsI : (D : Int) / (yn1 : Int) = (qs : Int) := by rw [← hqs]; exact (Int.natCast_ediv D yn1).symm
        have hds := Nat.div_add_mod D yn1
        have hms := Nat.mod_lt D (show 0 < yn1 by omega)
        rw [hqs, Nat.mul_comm] at hds
        obtain ⟨rs, hrs⟩ : ∃ rs, D % yn1 = rs := ⟨_, rfl⟩
        rw [hrs] at hds hms
        obtain ⟨ps, hps⟩ : ∃ ps, qs * yn1 = ps := ⟨_, rfl⟩
        have hps' : ps + rs = D := by rw [← hps]; exact hds
        have hpws : IntKind.u64.wrap ((qs : Int) * (yn1 : Int)) = (ps : Int) := wrap_nat (by have h9 : (qs : Int) * (yn1 : Int) = (ps : Int) := (by rw [← hps, Int.natCast_mul]); rw [h9]; omega)
        have hrus : (D : Int) - (ps : Int) = (rs : Int) := by omega
        have hrsb : (rs : Int) ≤ 4294967294 := by omega
        have hqsb : (qs : Int) ≤ 4294967298 := by omega
        have hqb : (q : Int) ≤ 4294967295 := by omega
        have hDb : (D : Int) ≤ 18446744073709551614 := by omega
        clear hqs hrs hA2 hA3 hB2 hB3 hC2 hC3 hD3 hdmq hdm hps hD2
        go_wp2
        go_loopw [18, 16] (fun qv rv wr => ∃ q r : Nat, qv = .int .u64 (q : Int) ∧ rv = .int .u64 (r : Int) ∧ q * yn1 + r = D ∧ R ≤ q ∧ q ≤ 4294967298 ∧ r ≤ 4294967295 ∧ ∃ k, wr = w.drewN k) (fun qv _ _ => (intOf qv).toNat)
        case atStart => exact ⟨qs, rs, rfl, rfl, hds, hRi, by omega, by omega, _, rfl⟩
        case round =>
          obtain ⟨q, r, rfl, rfl, hqr, hQq, hqm, hrm, k2, rfl⟩ := hrel
          have hqmI : (q : Int) ≤ 4294967298 := by omega
          have hrmI : (r : Int) ≤ 4294967295 := by omega
          clear hqm hrm
          by_cases hbq : 4294967296 ≤ q
          · have hbqI : decide ((4294967296 : Int) ≤ (q : Int)) = true := decide_eq_true (by omega)
            have hQlt : R < q := by omega
            obtain ⟨q', hq'⟩ : ∃ q', q = q' + 1 := ⟨q - 1, by omega⟩
            have hqI1 : (q : Int) - 1 = (q' : Int) := by omega
            obtain ⟨r2, hr2⟩ : ∃ r2, r + yn1 = r2 := ⟨_, rfl⟩
            have hrI2 : (r : Int) + (yn1 : Int) = (r2 : Int) := by omega
            have hqr2 : q' * yn1 + r2 = D := by
              have h9 := hqr
              rw [hq', Nat.add_mul, Nat.one_mul] at h9
              omega
            have hq1 : (1 : Int) ≤ (q : Int) := by omega
            have hr2b : (r2 : Int) ≤ 8589934590 := by omega
            have hfa : R ≤ q' ∧ q' ≤ 4294967298 := by omega
            by_cases hbr : 4294967296 ≤ r2
            · obtain rfl : q' = R := by
                have h8 := hbig.out q' (by omega)
                have h7 := hle2.out q' r2 hqr2 (by omega)
                omega
              have hbrD : decide ((4294967296 : Int) ≤ (r2 : Int)) = true := decide_eq_true (by omega)
              replace hq' := Lib.hid hq'; replace hr2 := Lib.hid hr2; replace hqr := Lib.hid hqr; replace hqr2 := Lib.hid hqr2; replace hbr := Lib.hid hbr; replace hfa := Lib.hid hfa; replace hbq := Lib.hid hbq; try (replace hP1 := Lib.hid hP1); try (replace hPt := Lib.hid hPt)
              go_wp2
              go_ret2
              exact RetQ.mk
            · have hbrD : decide ((4294967296 : Int) ≤ (r2 : Int)) = false := decide_eq_false (by omega)
              have hr3 := Lib.hid (show r2 ≤ 4294967295 by omega)
              replace hq' := Lib.hid hq'; replace hr2 := Lib.hid hr2; replace hqr := Lib.hid hqr; replace hqr2 := Lib.hid hqr2; replace hbr := Lib.hid hbr; replace hfa := Lib.hid hfa; replace hbq := Lib.hid hbq; try (replace hP1 := Lib.hid hP1); try (replace hPt := Lib.hid hPt)
              go_wp2
              go_roundw
              case rel => exact ⟨q', r2, rfl, rfl, hqr2.out, hfa.out.1, hfa.out.2, hr3.out, _, rfl⟩
              case measure => simp [intOf]; omega
          · have hbqI : decide ((4294967296 : Int) ≤ (q : Int)) = false := decide_eq_false (by omega)
            obtain ⟨P, hP⟩ : ∃ P, q * yn0 = P := ⟨_, rfl⟩
            have hP1 := hbig.out q (by omega)
            rw [hP] at hP1
            have hPI : (q : Int) * (yn0 : Int) = (P : Int) := by rw [← hP, Int.natCast_mul]
            have hPw : IntKind.u64.wrap ((q : Int) * (yn0 : Int)) = (P : Int) := wrap_nat (by rw [hPI]; omega)
            by_cases hPt : 4294967296 * r + u0 < P
            · have hPtI : 4294967296 * (r : Int) + (u0 : Int) < (P : Int) := by omega
              have hQlt := hltq2.out q r hqr (by rw [hP]; exact hPt)
              replace hP := Lib.hid hP
              clear hPI
              obtain ⟨q', hq'⟩ : ∃ q', q = q' + 1 := ⟨q - 1, by omega⟩
              have hqI1 : (q : Int) - 1 = (q' : Int) := by omega
              obtain ⟨r2, hr2⟩ : ∃ r2, r + yn1 = r2 := ⟨_, rfl⟩
              have hrI2 : (r : Int) + (yn1 : Int) = (r2 : Int) := by omega
              have hqr2 : q' * yn1 + r2 = D := by
                have h9 := hqr
                rw [hq', Nat.add_mul, Nat.one_mul] at h9
                omega
              have hq1 : (1 : Int) ≤ (q : Int) := by omega
              have hr2b : (r2 : Int) ≤ 8589934590 := by omega
              have hfa : R ≤ q' ∧ q' ≤ 4294967298 := by omega
              by_cases hbr : 4294967296 ≤ r2
              · obtain rfl : q' = R := by
                  have h8 := hbig.out q' (by omega)
                  have h7 := hle2.out q' r2 hqr2 (by omega)
                  omega
                have hbrD : decide ((4294967296 : Int) ≤ (r2 : Int)) = true := decide_eq_true (by omega)
                replace hq' := Lib.hid hq'; replace hr2 := Lib.hid hr2; replace hqr := Lib.hid hqr; replace hqr2 := Lib.hid hqr2; replace hbr := Lib.hid hbr; replace hfa := Lib.hid hfa; replace hbq := Lib.hid hbq; try (replace hP1 := Lib.hid hP1); try (replace hPt := Lib.hid hPt)
                go_wp2
                go_ret2
                exact RetQ.mk
              · have hbrD : decide ((4294967296 : Int) ≤ (r2 : Int)) = false := decide_eq_false (by omega)
                have hr3 := Lib.hid (show r2 ≤ 4294967295 by omega)
                replace hq' := Lib.hid hq'; replace hr2 := Lib.hid hr2; replace hqr := Lib.hid hqr; replace hqr2 := Lib.hid hqr2; replace hbr := Lib.hid hbr; replace hfa := Lib.hid hfa; replace hbq := Lib.hid hbq; try (replace hP1 := Lib.hid hP1); try (replace hPt := Lib.hid hPt)
                go_wp2
                go_roundw
                case rel => exact ⟨q', r2, rfl, rfl, hqr2.out, hfa.out.1, hfa.out.2, hr3.out, _, rfl⟩
                case measure => simp [intOf]; omega
            · have hPtI : ¬ 4294967296 * (r : Int) + (u0 : Int) < (P : Int) := by omega
              have hQe := hle2.out q r hqr (by rw [hP]; omega)
              obtain rfl : q = R := by omega
              replace hP := Lib.hid hP
              clear hPI hQe
              replace hqr := Lib.hid hqr; replace hbq := Lib.hid hbq; replace hP1 := Lib.hid hP1; replace hPt := Lib.hid hPt
              go_wp2
              go_ret2
              exact RetQ.mk
end Go.Proofs.YtabibkhcdamlhaaDoor
