/-
  A reader reads what a writer has written: bits, numbers, rows.
-/
import Derived.Test.YtcnlghkdhpgnmaaFrRf
import Derived.Test.YtcnlghkdhpgnmaaFrSz
set_option linter.unusedSimpArgs false
set_option linter.unusedVariables false
namespace Go.Proofs.Ytcnlghkdhpgnmaa
open Go.RowKit Go.Shelf

/-- A reader that stands at a place of packed bits, behind which other bytes lie. -/
def Ats (bs T : List Int) (o : Nat) (s : RS) : Prop := s.R = (pack bs).drop ((o + 7) / 8) ++ T ∧ s.left = 8 * ((o + 7) / 8) - o ∧ (s.left ≠ 0 → s.last = byteAt bs (8 * (o / 8)))

theorem byteAt_bit {bs : List Int} (h : IsBits bs) (q r : Nat) (hr : r < 8) : byteAt bs (8 * q) / ((2 ^ (7 - r) : Nat) : Int) % 2 = nth bs (8 * q + r) := by
  unfold byteAt
  have hh : ∀ i, 0 ≤ nth bs i ∧ nth bs i ≤ 1 := fun i => by have := h.nth i; omega
  have h0 := hh (8 * q); have h1 := hh (8 * q + 1); have h2 := hh (8 * q + 2); have h3 := hh (8 * q + 3); have h4 := hh (8 * q + 4); have h5 := hh (8 * q + 5); have h6 := hh (8 * q + 6); have h7 := hh (8 * q + 7)
  clear h
  have hc : r = 0 ∨ r = 1 ∨ r = 2 ∨ r = 3 ∨ r = 4 ∨ r = 5 ∨ r = 6 ∨ r = 7 := by omega
  rcases hc with rfl | rfl | rfl | rfl | rfl | rfl | rfl | rfl
  all_goals simp only [Nat.reduceSub, Nat.reducePow, Nat.add_zero]
  all_goals generalize nth bs (8 * q) = x0 at *
  all_goals generalize nth bs (8 * q + 1) = x1 at *
  all_goals generalize nth bs (8 * q + 2) = x2 at *
  all_goals generalize nth bs (8 * q + 3) = x3 at *
  all_goals generalize nth bs (8 * q + 4) = x4 at *
  all_goals generalize nth bs (8 * q + 5) = x5 at *
  all_goals generalize nth bs (8 * q + 6) = x6 at *
  all_goals generalize nth bs (8 * q + 7) = x7 at *
  all_goals clear hh hr
  all_goals omega

/-- The next bit is read. -/
theorem Ats.bit {bs T : List Int} {o : Nat} {s : RS} (h : Ats bs T o s) (hb : IsBits bs) (ho : o < bs.length) : s.bit = nth bs o ∧ Ats bs T (o + 1) s.next := by
  obtain ⟨h1, h2, h3⟩ := h
  obtain ⟨q, r, hq, hr⟩ : ∃ q r, o = 8 * q + r ∧ r < 8 := ⟨o / 8, o % 8, by omega, by omega⟩
  by_cases h0 : s.left = 0
  · obtain rfl : r = 0 := by omega
    have e1 : (o + 7) / 8 = q := by omega
    rw [e1] at h1
    have hpl : q < (pack bs).length := by rw [pack_length]; omega
    have hR : s.R = nth (pack bs) q :: ((pack bs).drop (q + 1) ++ T) := by
      rw [h1, List.drop_eq_getElem_cons hpl, nth_eq hpl]; rfl
    have hnp : nth (pack bs) q = byteAt bs (8 * q) := nth_pack (by omega)
    have hf : s.full = ⟨(pack bs).drop (q + 1) ++ T, byteAt bs (8 * q), 8⟩ := by
      unfold RS.full
      rw [if_pos h0, hR, ← hnp]
      rfl
    refine ⟨?_, ?_, ?_, ?_⟩
    · unfold RS.bit RS.next
      rw [hf]
      have := byteAt_bit hb q 0 (by omega)
      rw [hq]
      exact this
    · unfold RS.next; rw [hf]
      show (pack bs).drop (q + 1) ++ T = _
      rw [show (o + 1 + 7) / 8 = q + 1 from by omega]
    · unfold RS.next; rw [hf]
      show 8 - 1 = _
      omega
    · intro _
      unfold RS.next; rw [hf]
      show byteAt bs (8 * q) = _
      rw [show (o + 1) / 8 = q from by omega]
  · have hr0 : r ≠ 0 := by rintro rfl; omega
    have e1 : (o + 7) / 8 = q + 1 := by omega
    have hl : s.left = 8 - r := by omega
    have hlast := h3 h0
    rw [show o / 8 = q from by omega] at hlast
    have hf : s.full = s := by unfold RS.full; rw [if_neg h0]
    refine ⟨?_, ?_, ?_, ?_⟩
    · unfold RS.bit RS.next
      rw [hf]
      show s.last / ((2 ^ (s.left - 1) : Nat) : Int) % 2 = _
      rw [hlast, hl, show 8 - r - 1 = 7 - r from by omega, byteAt_bit hb q r hr, hq]
    · unfold RS.next; rw [hf]
      show s.R = _
      rw [h1, e1, show (o + 1 + 7) / 8 = q + 1 from by omega]
    · unfold RS.next; rw [hf]
      show s.left - 1 = _
      omega
    · intro hne
      unfold RS.next; rw [hf]
      show s.last = _
      rw [hlast]
      have : s.next.left = s.left - 1 := by unfold RS.next; rw [hf]
      rw [this] at hne
      rw [show (o + 1) / 8 = q from by omega]

theorem shb_eq {v b : Int} (h0 : 0 ≤ v) (h1 : v ≤ 65535) (hb : b = 0 ∨ b = 1) : shb v b = 2 * v + b := by
  obtain ⟨a, rfl⟩ : ∃ a : Nat, v = (a : Int) := ⟨v.toNat, by omega⟩
  obtain ⟨c, rfl⟩ : ∃ c : Nat, b = (c : Int) := ⟨b.toNat, by omega⟩
  have hc : c < 2 := by omega
  unfold shb
  rw [IntWalk.wrap64_in _ (by omega)]
  have e1 : (BitVec.ofInt 64 ((a : Int) * 2)).toNat = 2 ^ 1 * a := by
    rw [show (a : Int) * 2 = ((2 ^ 1 * a : Nat) : Int) from by omega, BitVec.ofInt_natCast, BitVec.toNat_ofNat]; exact Nat.mod_eq_of_lt (by omega)
  have e2 : (BitVec.ofInt 64 (c : Int)).toNat = c := by
    rw [BitVec.ofInt_natCast, BitVec.toNat_ofNat]; exact Nat.mod_eq_of_lt (by omega)
  show IntKind.i64.wrap ((BitVec.ofInt 64 ((a : Int) * 2) ||| BitVec.ofInt 64 (c : Int)).toNat : Int) = _
  rw [BitVec.toNat_or, e1, e2, ← Nat.two_pow_add_eq_or_of_lt (i := 1) (by omega), IntWalk.i64_left, IntWalk.wrap64_in _ (by omega)]
  omega
theorem orb_eq {n x : Int} (h0 : 0 ≤ n) (h1 : n ≤ 16777215) (hx : 0 ≤ x) (hx2 : x ≤ 255) : orb n x = 256 * n + x := by
  obtain ⟨a, rfl⟩ : ∃ a : Nat, n = (a : Int) := ⟨n.toNat, by omega⟩
  obtain ⟨c, rfl⟩ : ∃ c : Nat, x = (c : Int) := ⟨x.toNat, by omega⟩
  unfold orb
  rw [IntWalk.wrap64_in _ (by omega)]
  have e1 : (BitVec.ofInt 64 ((a : Int) * 256)).toNat = 2 ^ 8 * a := by
    rw [show (a : Int) * 256 = ((2 ^ 8 * a : Nat) : Int) from by omega, BitVec.ofInt_natCast, BitVec.toNat_ofNat]; exact Nat.mod_eq_of_lt (by omega)
  have e2 : (BitVec.ofInt 64 (c : Int)).toNat = c := by
    rw [BitVec.ofInt_natCast, BitVec.toNat_ofNat]; exact Nat.mod_eq_of_lt (by omega)
  show IntKind.i64.wrap ((BitVec.ofInt 64 ((a : Int) * 256) ||| BitVec.ofInt 64 (c : Int)).toNat : Int) = _
  rw [BitVec.toNat_or, e1, e2, ← Nat.two_pow_add_eq_or_of_lt (i := 8) (by omega), IntWalk.i64_left, IntWalk.wrap64_in _ (by omega)]
  omega

/-- Ones, and the bit 0 behind them. -/
theorem Ats.ones {bs T : List Int} (hb : IsBits bs) : ∀ (q o : Nat) (s : RS), Ats bs T o s → o + q < bs.length → (∀ i, i < q → nth bs (o + i) = 1) → nth bs (o + q) = 0 → (Go.Proofs.Ytcnlghkdhpgnmaa.ones s.room s).1 = q ∧ Ats bs T (o + q + 1) (Go.Proofs.Ytcnlghkdhpgnmaa.ones s.room s).2
  | 0, o, s, h, hl, h1, h0 => by
    obtain ⟨e, hn⟩ := h.bit hb (by omega)
    rw [Nat.add_zero] at h0
    rw [ones_none (by rw [e, h0]; decide)]
    exact ⟨rfl, hn⟩
  | q + 1, o, s, h, hl, h1, h0 => by
    obtain ⟨e, hn⟩ := h.bit hb (by omega)
    have e1 := h1 0 (by omega)
    rw [Nat.add_zero] at e1
    obtain ⟨-, ho⟩ := ones_one (s := s) (by rw [e, e1])
    rw [ho]
    obtain ⟨a1, a2⟩ := Ats.ones hb q (o + 1) s.next hn (by omega) (fun i hi => by have := h1 (i + 1) (by omega); rw [show o + 1 + i = o + (i + 1) from by omega]; exact this) (by rw [show o + 1 + q = o + (q + 1) from by omega]; exact h0)
    refine ⟨by rw [a1], ?_⟩
    rw [show o + (q + 1) + 1 = o + 1 + q + 1 from by omega]
    exact a2

/-- The low bits of a number. -/
theorem Ats.lows {bs T : List Int} (hb : IsBits bs) (v : Int) (hv : 0 ≤ v) (hv2 : v ≤ 65535) : ∀ (k o : Nat) (s : RS), Ats bs T o s → o + k ≤ bs.length → (∀ i, i < k → nth bs (o + i) = v / ((2 ^ (k - 1 - i) : Nat) : Int) % 2) →
    (Go.Proofs.Ytcnlghkdhpgnmaa.lows k (v / ((2 ^ k : Nat) : Int)) s).1 = v ∧ Ats bs T (o + k) (Go.Proofs.Ytcnlghkdhpgnmaa.lows k (v / ((2 ^ k : Nat) : Int)) s).2
  | 0, o, s, h, hl, h1 => ⟨by simp [Go.Proofs.Ytcnlghkdhpgnmaa.lows], h⟩
  | k + 1, o, s, h, hl, h1 => by
    obtain ⟨e, hn⟩ := h.bit hb (by omega)
    have e1 := h1 0 (by omega)
    rw [Nat.add_zero, show k + 1 - 1 - 0 = k from by omega] at e1
    have hp : 0 < ((2 ^ k : Nat) : Int) := by have := Nat.two_pow_pos k; omega
    have hd : v / ((2 ^ (k + 1) : Nat) : Int) = v / ((2 ^ k : Nat) : Int) / 2 := by
      rw [Int.ediv_ediv_of_nonneg (Int.le_of_lt hp), Nat.pow_succ]; simp
    have hq0 : 0 ≤ v / ((2 ^ k : Nat) : Int) := Int.ediv_nonneg hv (Int.le_of_lt hp)
    have hq1 : v / ((2 ^ k : Nat) : Int) ≤ v := Int.ediv_le_self _ hv
    have hs : shb (v / ((2 ^ (k + 1) : Nat) : Int)) s.bit = v / ((2 ^ k : Nat) : Int) := by
      rw [hd, e, e1, shb_eq (by omega) (by omega) (by omega)]
      omega
    show (Go.Proofs.Ytcnlghkdhpgnmaa.lows k (shb (v / ((2 ^ (k + 1) : Nat) : Int)) s.bit) s.next).1 = v ∧ _
    have ih := Ats.lows hb v hv hv2 k (o + 1) s.next hn (by omega) (fun i hi => by
      have := h1 (i + 1) (by omega)
      rw [show o + 1 + i = o + (i + 1) from by omega, this, show k + 1 - 1 - (i + 1) = k - 1 - i from by omega])
    have eq2 : Go.Proofs.Ytcnlghkdhpgnmaa.lows (k + 1) (v / ((2 ^ (k + 1) : Nat) : Int)) s = Go.Proofs.Ytcnlghkdhpgnmaa.lows k (v / ((2 ^ k : Nat) : Int)) s.next := by
      show Go.Proofs.Ytcnlghkdhpgnmaa.lows k (shb (v / ((2 ^ (k + 1) : Nat) : Int)) s.bit) s.next = _
      rw [hs]
    rw [hs, eq2, show o + (k + 1) = o + 1 + k from by omega]
    exact ih

end Go.Proofs.Ytcnlghkdhpgnmaa
