/-
  Walks: decode, row and number of a reader.
-/
import Derived.Test.YtfkoboljobghkaaFrRb
set_option linter.unusedSimpArgs false
set_option linter.unusedVariables false
namespace Go.Proofs.Ytfkoboljobghkaa
open Go.RowKit

set_option maxHeartbeats 1600000 in
set_option maxRecDepth 100000 in
theorem rdec_any (g k : Nat) (s : RS) (w : World) (h : Rd w g s) (hk : k ≤ 255) (hr : s.room ≤ 100000000) :
    Calls Try.prog 98 #[.int .i64 (k : Int), .func (.func 99) #[.pointer (some ⟨g, 0, none⟩)] #[]] w fun e w' => e = .returned (.int .i64 (deco k s).1) ∧ Rd w' g (deco k s).2 ∧ Only w w' g := by
  have eg := enters_rbit
  replace h := Lib.hid h
  go_enter Try.func98, Try.ntmps98
  go_wp2
  go_loopw [5] (fun v wr => ∃ (j : Nat) (t : RS), j + t.room ≤ s.room ∧ v = .int .i64 (j : Int) ∧ Hid (Rd wr g t) ∧ Hid (((ones s.room s).1 = (ones t.room t).1 + j) ∧ (ones s.room s).2 = (ones t.room t).2) ∧ Only w wr g) (fun v _ => s.room - (intOf v).toNat)
  case atStart => exact ⟨0, s, by omega, rfl, h, Lib.hid ⟨rfl, rfl⟩, Only.refl _ _⟩
  case round =>
    obtain ⟨j, t, hj, rfl, hR, ho, hO⟩ := hrel
    have hcall := Lib.hid (rbit_any g t wr hR.out)
    obtain ⟨b, hb⟩ : ∃ b, t.bit = b := ⟨_, rfl⟩
    rw [hb] at hcall
    by_cases h1 : b = 1
    · subst h1
      obtain ⟨hr0, ho1⟩ := ones_one hb
      have hrn := RS.room_next t hr0
      have hnew : Hid (((ones s.room s).1 = (ones t.next.room t.next).1 + (j + 1)) ∧ (ones s.room s).2 = (ones t.next.room t.next).2) := Lib.hid (by
        rw [ho.out.1, ho.out.2, ho1]; exact ⟨by simp only; omega, rfl⟩)
      have hjj : Hid (j + 1 + t.next.room ≤ s.room) := Lib.hid (by omega)
      have hmm : Hid (s.room - (j + 1) < s.room - j) := Lib.hid (by omega)
      have hj2 : j ≤ 100000000 := by omega
      replace hrn := Lib.hid hrn
      replace ho1 := Lib.hid ho1
      replace hb := Lib.hid hb
      go_wp2_with (go_at_fn 99; refine hcall.out.mono ?_; rintro e w2 ⟨rfl, hR2, hO2⟩; replace hR2 := Lib.hid hR2)
      exact ⟨⟨j + 1, t.next, hjj.out, by go_num, hR2, hnew, hO.trans hO2⟩, by simp [intOf]; exact hmm.out⟩
    · have hb1 : (b == 1) = false := by rw [beq_eq_false_iff_ne]; exact h1
      have ho1 := ones_none (s := t) (by rw [hb]; exact h1)
      have hfin : Hid ((ones s.room s).1 = j ∧ (ones s.room s).2 = t.next) := Lib.hid (by
        rw [ho.out.1, ho.out.2, ho1]; exact ⟨by simp, rfl⟩)
      replace ho1 := Lib.hid ho1
      replace hb := Lib.hid hb
      replace h1 := Lib.hid h1
      go_wp2_with (go_at_fn 99; refine hcall.out.mono ?_; rintro e w2 ⟨rfl, hR2, hO2⟩; replace hR2 := Lib.hid hR2)
      have hO3 := hO.trans hO2
      have hdec : Hid (deco k s = lows k (j : Int) t.next) := Lib.hid (by unfold deco; rw [hfin.out.1, hfin.out.2])
      clear hcall hO hO2 hR
      go_loopw [5, 12] (fun v i wr => ∃ (p : Nat) (x : Int) (u : RS), p ≤ k ∧ i = .int .i64 (p : Int) ∧ v = .int .i64 x ∧ Hid (Rd wr g u) ∧ Hid (lows k (j : Int) t.next = lows (k - p) x u) ∧ Only w wr g) (fun _ i _ => k - (intOf i).toNat)
      case atStart => exact ⟨0, _, t.next, Nat.zero_le _, rfl, rfl, hR2, Lib.hid rfl, hO3⟩
      case round =>
        obtain ⟨p, x, u, hp, rfl, rfl, hR, hl, hO⟩ := hrel
        by_cases hlt : p < k
        · have hcall := Lib.hid (rbit_any g u _ hR.out)
          have hlnew : Hid (lows k (j : Int) t.next = lows (k - (p + 1)) (shb x u.bit) u.next) := Lib.hid (by
            rw [hl.out, show k - p = k - (p + 1) + 1 from by omega]
            rfl)
          go_wp2_with (go_at_fn 99; refine hcall.out.mono ?_; rintro e w4 ⟨rfl, hR4, hO4⟩; replace hR4 := Lib.hid hR4)
          exact ⟨⟨p + 1, _, u.next, hlt, by go_num, rfl, hR4, hlnew, hO.trans hO4⟩, by simp [intOf]; omega⟩
        · obtain rfl : p = k := by omega
          have hfin2 : Hid (deco p s = (x, u)) := Lib.hid (by rw [hdec.out, hl.out, Nat.sub_self]; rfl)
          go_wp2
          go_ret
          rw [hfin2.out]
          exact ⟨rfl, hR.out, hO⟩

end Go.Proofs.Ytfkoboljobghkaa
