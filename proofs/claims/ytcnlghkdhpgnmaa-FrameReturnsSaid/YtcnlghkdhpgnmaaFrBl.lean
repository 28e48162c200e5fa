/-
  Walks: bits and best of the law.
-/
import Derived.Test.YtcnlghkdhpgnmaaFrEn
set_option linter.unusedSimpArgs false
set_option linter.unusedVariables false
namespace Go.Proofs.Ytcnlghkdhpgnmaa
open Go.RowKit

set_option maxHeartbeats 1600000 in
theorem lbits_any (A : Option Addr) (n c k : Nat) (l : List Int) (w : World) (h : Sl w A n c l) (hn : n ≤ 1000) (hl : Row l) (hk : k ≤ 16) :
    Calls Try.prog 28 #[.slice A n c, .int .i64 (k : Int)] w fun e w' => e = .returned (.int .i64 (bitsOf l k)) ∧ Below w.heap.size w w' := by
  have hcap := h.le_cap
  have hcl := h.cap_le
  have hlen := Lib.hid h.len
  replace hl := Lib.hid hl
  go_enter Try.func28, Try.ntmps28
  go_wp2
  go_loopw [5, 10] (fun a i wr => ∃ (j : Nat) (s : Int), j ≤ n ∧ i = .int .i64 (j : Int) ∧ a = .int .i64 s ∧ Hid (s = bitsOf (l.take j) k) ∧ Below w.heap.size w wr) (fun a i _ => n - (intOf i).toNat)
  case atStart => exact ⟨0, _, Nat.zero_le _, rfl, rfl, Lib.hid (by simp [bitsOf]), Below.refl _ _⟩
  case round =>
    obtain ⟨j, s, hj, rfl, rfl, hs, hB⟩ := hrel
    by_cases hlt : j < n
    · obtain ⟨b, off, rfl, hbw, hc⟩ := (h.below hB (Nat.le_refl _)).at_ (by omega)
      have hcell := hc j hlt
      clear hc h
      have hr := bitsOf_range hl.out k hk j (by have := hlen.out; omega)
      rw [← hs.out] at hr
      obtain ⟨y, hy⟩ : ∃ y, nth l j = y := ⟨_, rfl⟩
      have hy2 := hl.out.nth j
      rw [hy] at hcell hy2
      have hq := shr_range hy2.1 k
      have hnext := bitsOf_take k (l := l) (j := j) (by have := hlen.out; omega)
      rw [hy, ← shr_pow, ← hs.out] at hnext
      replace hy := Lib.hid hy
      replace hnext := Lib.hid hnext
      go_wp2
      refine ⟨⟨j + 1, _, hlt, by go_num, rfl, Lib.hid ?_, hB⟩, by simp [intOf]; omega⟩
      rw [hnext.out]
    · obtain rfl : j = n := by omega
      have hfin : s = bitsOf l k := by rw [hs.out, List.take_of_length_le (by rw [← hlen.out]; exact Nat.le_refl _)]
      replace hfin := Lib.hid hfin
      go_wp2
      go_ret
      exact ⟨ret_int hfin.out, hB⟩

theorem lbits_at {A : Option Addr} {n c : Nat} (k : Nat) {l : List Int} {w : World} {u s : Int} (h : Sl w A n c l) (hn : n ≤ 1000) (hl : Row l) (hk : k ≤ 16) (hu : u = (k : Int)) (hs : bitsOf l k = s) :
    Calls Try.prog 28 #[.slice A n c, .int .i64 u] w fun e w' => e = .returned (.int .i64 s) ∧ Below w.heap.size w w' := by
  subst hu
  subst hs
  exact lbits_any A n c k l w h hn hl hk

set_option maxHeartbeats 1600000 in
theorem lbest_any (A : Option Addr) (n c : Nat) (l : List Int) (w : World) (h : Sl w A n c l) (hn : n ≤ 1000) (hl : Row l) :
    Calls Try.prog 29 #[.slice A n c] w fun e w' => e = .returned (.int .i64 (best l : Int)) ∧ Below w.heap.size w w' := by
  have hl' := Lib.hid hl
  have h' := Lib.hid h
  clear hl h
  go_enter Try.func29, Try.ntmps29
  go_wp2
  go_loopw [3, 5] (fun a o wr => ∃ (m : Nat) (x z : Int), m ≤ 17 ∧ o = .int .i64 z ∧ Hid (z = (m : Int)) ∧ 0 ≤ z ∧ z ≤ 17 ∧ a = .int .i64 x ∧ Hid (x = bestTo l (m - 1)) ∧ Below w.heap.size w wr) (fun _ o _ => 17 - (intOf o).toNat)
  case atStart => exact ⟨0, 0, 0, by omega, rfl, Lib.hid rfl, by omega, by omega, rfl, Lib.hid rfl, Below.refl _ _⟩
  case round =>
    obtain ⟨m, x, z, hm, rfl, hz, hz0, hz17, rfl, hx, hB⟩ := hrel
    by_cases hlt : z < 17
    · obtain ⟨s1, hs1⟩ : ∃ s, bitsOf l m = s := ⟨_, rfl⟩
      obtain ⟨s2, hs2⟩ : ∃ s, bitsOf l (bestTo l (m - 1)) = s := ⟨_, rfl⟩
      have hm16 : m ≤ 16 := by have := hz.out; omega
      have hle : bestTo l (m - 1) ≤ 16 := by have := bestTo_le l (m - 1); omega
      have hc1 := Lib.hid (fun W hW => lbits_at (A := A) (n := n) (c := c) (w := W) (u := z) m hW hn hl'.out hm16 hz.out hs1)
      have hc2 := Lib.hid (fun W hW => lbits_at (A := A) (n := n) (c := c) (w := W) (u := x) (bestTo l (m - 1)) hW hn hl'.out hle hx.out hs2)
      have hnext : Hid ((if s1 < s2 then z else x) = (bestTo l (m + 1 - 1) : Nat)) := Lib.hid (by
        cases m with
        | zero =>
          have : s1 = s2 := by rw [← hs1, ← hs2]; rfl
          rw [if_neg (by omega)]; exact hx.out
        | succ k =>
          simp only [Nat.add_sub_cancel] at hs2 hx ⊢
          unfold bestTo
          rw [hs1, hs2]
          by_cases hq : s1 < s2
          · rw [if_pos hq, if_pos hq]; exact hz.out
          · rw [if_neg hq, if_neg hq]; exact hx.out)
      have hz2 : Hid (z + 1 = ((m + 1 : Nat) : Int)) := Lib.hid (by have := hz.out; omega)
      have hm17 : Hid (m + 1 ≤ 17) := Lib.hid (by omega)
      have hmm : Hid (17 - (z + 1).toNat < 17 - z.toNat) := Lib.hid (by omega)
      replace hs1 := Lib.hid hs1
      replace hs2 := Lib.hid hs2
      clear hm16 hle hm
      by_cases hq : s1 < s2
      · have hn1 : Hid (z = (bestTo l (m + 1 - 1) : Nat)) := Lib.hid (by have := hnext.out; rw [if_pos hq] at this; exact this)
        go_wp2_with (go_at_call 28; first | (refine (hc1.out _ (h'.out.below hB (Nat.le_refl _))).mono ?_; clear hc1; rintro e w1 ⟨rfl, hb1⟩) | (refine (hc2.out _ ((h'.out.below hB (Nat.le_refl _)).below hb1 (Nat.le_refl _))).mono ?_; rintro e w2 ⟨rfl, hb2⟩))
        refine ⟨⟨m + 1, _, _, hm17.out, rfl, hz2, by omega, by omega, rfl, hn1, (hB.trans (hb1.mono hB.size)).trans (hb2.mono (Nat.le_trans hB.size hb1.size))⟩, by simpa [intOf] using hmm.out⟩
      · have hn1 : Hid (x = (bestTo l (m + 1 - 1) : Nat)) := Lib.hid (by have := hnext.out; rw [if_neg hq] at this; exact this)
        go_wp2_with (go_at_call 28; first | (refine (hc1.out _ (h'.out.below hB (Nat.le_refl _))).mono ?_; clear hc1; rintro e w1 ⟨rfl, hb1⟩) | (refine (hc2.out _ ((h'.out.below hB (Nat.le_refl _)).below hb1 (Nat.le_refl _))).mono ?_; rintro e w2 ⟨rfl, hb2⟩))
        refine ⟨⟨m + 1, _, _, hm17.out, rfl, hz2, by omega, by omega, rfl, hn1, (hB.trans (hb1.mono hB.size)).trans (hb2.mono (Nat.le_trans hB.size hb1.size))⟩, by simpa [intOf] using hmm.out⟩
    · have hfin : x = (best l : Nat) := by
        have h17 : m = 17 := by have := hz.out; omega
        have := hx.out
        rw [h17] at this
        exact this
      replace hfin := Lib.hid hfin
      go_wp2
      go_ret
      exact ⟨ret_int hfin.out, hB⟩

end Go.Proofs.Ytcnlghkdhpgnmaa
