/-
  Walks: checkRow, Bits and Best of package frame; the law's bits.
-/
import Derived.Test.YtkndfojebpbnfaaFrEn
import Derived.Test.YtkndfojebpbnfaaFrSk
set_option linter.unusedSimpArgs false
set_option linter.unusedVariables false
namespace Go.Proofs.Ytkndfojebpbnfaa
open Go.RowKit

theorem isOut_any (x : Int) (w : World) :
    Calls Try.prog 78 (#[.int .i64 x] ++ #[]) w fun e w' => e = .returned (.bool (!win x 0 65535)) ∧ Below w.heap.size w w' := by
  obtain ⟨b, hb⟩ : ∃ b, win x 0 65535 = b := ⟨_, rfl⟩
  have hc := Lib.hid (fwithin_at hb)
  replace hb := Lib.hid hb
  cases b
  all_goals
    go_enter Try.func78, Try.ntmps78
    go_wp2_with (go_at_call 53; refine (hc.out _).mono ?_; rintro e w' ⟨rfl, rfl⟩)
    go_ret
    exact ⟨ret_bool (by rw [hb.out]; rfl), Below.refl _ _⟩
theorem enters_isOut : ∀ args w, (callFunc 78 args).run Try.prog w = .ok (.enter 78 args) w := enters_of Try.func78 (by kernel_rfl) rfl

/-- The code of a row. -/
def rowC (l : List Int) : Int := if 64 < l.length then 3 else if (l.any fun x => !win x 0 65535) = true then 2 else 0
theorem rowC_row {l : List Int} (h : rowC l = 0) : Row l := by
  unfold rowC at h
  by_cases h1 : 64 < l.length
  · rw [if_pos h1] at h; simp at h
  · rw [if_neg h1] at h
    cases h2 : (l.any fun x => !win x 0 65535)
    · intro v hv
      have := List.any_eq_false.1 h2 v hv
      simpa [win] using this
    · rw [h2] at h; simp at h
theorem rowC_len {l : List Int} (h : rowC l = 0) : l.length ≤ 64 := by
  unfold rowC at h
  by_cases h1 : 64 < l.length
  · rw [if_pos h1] at h; simp at h
  · omega

set_option maxHeartbeats 800000 in
theorem checkRow_any (A : Option Addr) (n c : Nat) (l : List Int) (w : World) (h : Sl w A n c l) {r : Int} (hr : rowC l = r) :
    Calls Try.prog 58 #[.slice A n c] w fun e w' => e = .returned (.int .i64 r) ∧ Below w.heap.size w w' := by
  have hlen := h.len
  by_cases h1 : 64 < n
  · have hv : Hid (r = 3) := Lib.hid (by rw [← hr]; unfold rowC; rw [if_pos (by omega)])
    clear hr hlen
    go_enter Try.func58, Try.ntmps58
    go_wp2
    go_ret
    exact ⟨ret_int hv.out.symm, Below.refl _ _⟩
  · obtain ⟨b, hb⟩ : ∃ b, (l.any fun x => !win x 0 65535) = b := ⟨_, rfl⟩
    have hcon := Lib.hid (ContainsFunc_ints 78 #[] (fun x => !win x 0 65535) enters_isOut A n c l w h (fun W x _ => isOut_any x W) hb)
    have hv : Hid (r = if b = true then 2 else 0) := Lib.hid (by rw [← hr]; unfold rowC; rw [if_neg (by omega), hb])
    clear hr hlen hb
    cases b
    all_goals
      go_enter Try.func58, Try.ntmps58
      go_wp2_with (go_at_call 22; refine hcon.out.mono ?_; rintro e w' ⟨rfl, hb2⟩)
      go_ret
      exact ⟨ret_int hv.out.symm, hb2⟩

/-- Bits: the number and the code. -/
def bitsC (l : List Int) (k : Int) : Int × Int := if win k 0 16 = false then (0, 2) else if rowC l = 0 then (bitsOf l k.toNat, 0) else (0, rowC l)

set_option maxHeartbeats 1600000 in
theorem Bits_any (A : Option Addr) (n c : Nat) (l : List Int) (k : Int) (w : World) (h : Sl w A n c l) {s r : Int} (hs : bitsC l k = (s, r)) :
    Calls Try.prog 25 #[.slice A n c, .int .i64 k] w fun e w' => e = .returned (.tuple #[.int .i64 s, .int .i64 r]) ∧ Below w.heap.size w w' := by
  obtain ⟨b, hb⟩ : ∃ b, win k 0 16 = b := ⟨_, rfl⟩
  have hc := Lib.hid (fwithin_at hb)
  cases b
  · have hv : Hid (s = 0 ∧ r = 2) := Lib.hid (by
      unfold bitsC at hs; rw [if_pos hb] at hs; exact ⟨(congrArg Prod.fst hs).symm, (congrArg Prod.snd hs).symm⟩)
    replace hs := Lib.hid hs
    replace hb := Lib.hid hb
    go_enter Try.func25, Try.ntmps25
    go_wp2_with (go_at_call 53; refine (hc.out _).mono ?_; rintro e w' ⟨rfl, rfl⟩)
    refine bodyPost_ret (v := .tuple #[.int .i64 0, .int .i64 2]) (by simp [results, Try.results25, go_sem]) rfl ?_
    obtain ⟨rfl, rfl⟩ := hv.out
    exact ⟨rfl, Below.refl _ _⟩
  · obtain ⟨q, hq⟩ : ∃ q, rowC l = q := ⟨_, rfl⟩
    have hk := win_iff.1 hb
    unfold bitsC at hs
    rw [if_neg (by rw [hb]; simp)] at hs
    have hcr := Lib.hid (checkRow_any A n c l w h hq)
    by_cases hq0 : q = 0
    · subst hq0
      rw [if_pos hq] at hs
      have hv : Hid (s = bitsOf l k.toNat ∧ r = 0) := Lib.hid ⟨(congrArg Prod.fst hs).symm, (congrArg Prod.snd hs).symm⟩
      have hn : n ≤ 1000 := by have := rowC_len hq; have := h.len; omega
      have hcb := Lib.hid (fun W hW => bitsOf_at (A := A) (n := n) (c := c) (w := W) (u := k) k.toNat hW hn (rowC_row hq) (by omega) (by omega) hv.out.1.symm)
      replace hs := Lib.hid hs
      replace hb := Lib.hid hb
      replace hq := Lib.hid hq
      replace hk := Lib.hid hk
      have h' := Lib.hid h
      clear hn
      go_enter Try.func25, Try.ntmps25
      go_wp2_with (first | (go_at_call 53; refine (hc.out _).mono ?_; rintro e w' ⟨rfl, rfl⟩) | (go_at_call 58; refine hcr.out.mono ?_; rintro e w1 ⟨rfl, hb1⟩) | (go_at_call 59; refine (hcb.out _ (h'.out.below hb1 (Nat.le_refl _))).mono ?_; rintro e w2 ⟨rfl, hb2⟩))
      refine bodyPost_ret (v := .tuple #[.int .i64 s, .int .i64 0]) (by simp [results, Try.results25, go_sem]) rfl ?_
      obtain ⟨_, rfl⟩ := hv.out
      exact ⟨rfl, hb1.trans (hb2.mono hb1.size)⟩
    · rw [if_neg (by rw [hq]; exact hq0), hq] at hs
      have hv : Hid (s = 0 ∧ r = q) := Lib.hid ⟨(congrArg Prod.fst hs).symm, (congrArg Prod.snd hs).symm⟩
      replace hs := Lib.hid hs
      replace hb := Lib.hid hb
      replace hq := Lib.hid hq
      replace hk := Lib.hid hk
      go_enter Try.func25, Try.ntmps25
      go_wp2_with (first | (go_at_call 53; refine (hc.out _).mono ?_; rintro e w' ⟨rfl, rfl⟩) | (go_at_call 58; refine hcr.out.mono ?_; rintro e w1 ⟨rfl, hb1⟩))
      refine bodyPost_ret (v := .tuple #[.int .i64 0, .int .i64 q]) (by simp [results, Try.results25, go_sem]) rfl ?_
      obtain ⟨rfl, rfl⟩ := hv.out
      exact ⟨rfl, hb1⟩

/-- Best: the parameter, the number and the code. -/
def bestC (l : List Int) : Int × Int × Int := if rowC l = 0 then ((best l : Nat), bitsOf l (best l), 0) else (0, 0, rowC l)

set_option maxHeartbeats 1600000 in
theorem Best_any (A : Option Addr) (n c : Nat) (l : List Int) (w : World) (h : Sl w A n c l) {a s r : Int} (hs : bestC l = (a, s, r)) :
    Calls Try.prog 26 #[.slice A n c] w fun e w' => e = .returned (.tuple #[.int .i64 a, .int .i64 s, .int .i64 r]) ∧ Below w.heap.size w w' := by
  obtain ⟨q, hq⟩ : ∃ q, rowC l = q := ⟨_, rfl⟩
  unfold bestC at hs
  have hcr := Lib.hid (checkRow_any A n c l w h hq)
  by_cases hq0 : q = 0
  · subst hq0
    rw [if_pos hq] at hs
    have hv : Hid (((best l : Nat) : Int) = a ∧ bitsOf l (best l) = s ∧ r = 0) := Lib.hid ⟨congrArg Prod.fst hs, congrArg (·.2.1) hs, (congrArg (·.2.2) hs).symm⟩
    have hn : n ≤ 1000 := by have := rowC_len hq; have := h.len; omega
    have hcb : ∀ W, Sl W A n c l → Calls Try.prog 60 #[.slice A n c] W fun e w' => e = .returned (.tuple #[.int .i64 a, .int .i64 s]) ∧ Below W.heap.size W w' := fun W hW => by
      have := best_any A n c l W hW hn (rowC_row hq)
      rw [hv.out.1, hv.out.2.1] at this
      exact this
    replace hcb := Lib.hid hcb
    replace hs := Lib.hid hs
    replace hq := Lib.hid hq
    have h' := Lib.hid h
    clear hn
    go_enter Try.func26, Try.ntmps26
    go_wp2_with (first | (go_at_call 58; refine hcr.out.mono ?_; rintro e w1 ⟨rfl, hb1⟩) | (go_at_call 60; refine (hcb.out _ (h'.out.below hb1 (Nat.le_refl _))).mono ?_; rintro e w2 ⟨rfl, hb2⟩))
    refine bodyPost_ret (v := .tuple #[.int .i64 a, .int .i64 s, .int .i64 0]) (by simp [results, Try.results26, go_sem]) rfl ?_
    obtain ⟨_, _, rfl⟩ := hv.out
    exact ⟨rfl, hb1.trans (hb2.mono hb1.size)⟩
  · rw [if_neg (by rw [hq]; exact hq0), hq] at hs
    have hv : Hid (a = 0 ∧ s = 0 ∧ r = q) := Lib.hid ⟨(congrArg Prod.fst hs).symm, (congrArg (·.2.1) hs).symm, (congrArg (·.2.2) hs).symm⟩
    replace hs := Lib.hid hs
    replace hq := Lib.hid hq
    go_enter Try.func26, Try.ntmps26
    go_wp2_with (go_at_call 58; refine hcr.out.mono ?_; rintro e w1 ⟨rfl, hb1⟩)
    refine bodyPost_ret (v := .tuple #[.int .i64 0, .int .i64 0, .int .i64 q]) (by simp [results, Try.results26, go_sem]) rfl ?_
    obtain ⟨rfl, rfl, rfl⟩ := hv.out
    exact ⟨rfl, hb1⟩

end Go.Proofs.Ytkndfojebpbnfaa
