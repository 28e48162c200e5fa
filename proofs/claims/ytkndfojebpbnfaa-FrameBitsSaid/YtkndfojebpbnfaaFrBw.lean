/-
  Walk: the law of the numbers of bits.
-/
import Derived.Test.YtkndfojebpbnfaaFrKn
import Derived.Test.YtkndfojebpbnfaaFrBi
import Derived.Test.YtkndfojebpbnfaaFrBl
set_option linter.unusedSimpArgs false
set_option linter.unusedVariables false
namespace Go.Proofs.Ytkndfojebpbnfaa
open Go.RowKit

theorem isOutL_any (x : Int) (w : World) :
    Calls Try.prog 27 (#[.int .i64 x] ++ #[]) w fun e w' => e = .returned (.bool (!win x 0 65535)) ∧ Below w.heap.size w w' := by
  by_cases h1 : x < 0
  · have hw : Hid (win x 0 65535 = false) := Lib.hid (win_no.2 (by omega))
    go_enter Try.func27, Try.ntmps27
    go_wp2
    go_ret
    exact ⟨ret_bool (by rw [hw.out]; first | rfl | (simp <;> omega)), Below.refl _ _⟩
  · by_cases h2 : 65535 < x
    · have hw : Hid (win x 0 65535 = false) := Lib.hid (win_no.2 (by omega))
      go_enter Try.func27, Try.ntmps27
      go_wp2
      go_ret
      exact ⟨ret_bool (by rw [hw.out]; first | rfl | (simp <;> omega)), Below.refl _ _⟩
    · have hw : Hid (win x 0 65535 = true) := Lib.hid (win_iff.2 (by omega))
      go_enter Try.func27, Try.ntmps27
      go_wp2
      go_ret
      exact ⟨ret_bool (by rw [hw.out]; first | rfl | (simp <;> omega)), Below.refl _ _⟩
theorem enters_isOutL : ∀ args w, (callFunc 27 args).run Try.prog w = .ok (.enter 27 args) w := enters_of Try.func27 (by kernel_rfl) rfl

set_option maxRecDepth 100000 in
set_option maxHeartbeats 3200000 in
theorem lawBits_many (A : Option Addr) (n c : Nat) (l : List Int) (k : Int) (w : World) (h : Sl w A n c l) (hn : 100 < n) :
    Calls Try.prog 6 #[.slice A n c, .int .i64 k] w fun e w' => e = .returned (.bool true) ∧ Below w.heap.size w w' := by
  have hcap := h.le_cap
  have hcl := h.cap_le
  clear h
  go_enter Try.func6, Try.ntmps6
  go_wp2_with (first
    | (go_at_call 12; refine (known_any _).mono ?_; rintro e w1 ⟨rfl, hb1⟩))
  go_ret
  exact ⟨rfl, hb1⟩

set_option maxRecDepth 100000 in
set_option maxHeartbeats 3200000 in
theorem lawBits_lo_long (A : Option Addr) (n c : Nat) (l : List Int) (k : Int) (w : World) (h : Sl w A n c l) (hk : k < 0) (hn : 64 < n) (hn2 : n ≤ 100) :
    Calls Try.prog 6 #[.slice A n c, .int .i64 k] w fun e w' => e = .returned (.bool true) ∧ Below w.heap.size w w' := by
  have hcap := h.le_cap
  have hcl := h.cap_le
  have hlen := h.len
  have hS := Lib.hid (fun W (hb : Below w.heap.size w W) => h.below hb (Nat.le_refl _))
  have hq : rowC l = 3 := by unfold rowC; rw [if_pos (by omega)]
  have hbC : bitsC l k = (0, 2) := by unfold bitsC; rw [if_pos (win_no.2 (by omega))]
  have hbs : bestC l = (0, 0, 3) := by unfold bestC; rw [if_neg (by rw [hq]; decide), hq]
  have h1 := Lib.hid (fun W hW => Bits_any A n c l k W hW hbC)
  have h2 := Lib.hid (fun W hW => Best_any A n c l W hW hbs)
  replace hq := Lib.hid hq
  replace hbC := Lib.hid hbC
  replace hbs := Lib.hid hbs
  clear h hlen
  go_enter Try.func6, Try.ntmps6
  go_wp2_with (first
    | (go_at_call 12; refine (known_any _).mono ?_; rintro e w1 ⟨rfl, hb1⟩)
    | (go_at_call 25; refine (h1.out _ (hS.out _ hb1)).mono ?_; rintro e w2 ⟨rfl, hb⟩; have hb2 := hb1.trans (hb.mono hb1.size); clear hb)
    | (go_at_call 26; refine (h2.out _ (hS.out _ hb2)).mono ?_; rintro e w3 ⟨rfl, hb⟩; have hb3 := hb2.trans (hb.mono hb2.size); clear hb))
  go_ret
  exact ⟨ret_bool (by first | rfl | simp), hb3⟩

set_option maxRecDepth 100000 in
set_option maxHeartbeats 3200000 in
theorem lawBits_lo_bad (A : Option Addr) (n c : Nat) (l : List Int) (k : Int) (w : World) (h : Sl w A n c l) (hk : k < 0) (hn : n ≤ 64) (ha : (l.any fun x => !win x 0 65535) = true) :
    Calls Try.prog 6 #[.slice A n c, .int .i64 k] w fun e w' => e = .returned (.bool true) ∧ Below w.heap.size w w' := by
  have hcap := h.le_cap
  have hcl := h.cap_le
  have hlen := h.len
  have hS := Lib.hid (fun W (hb : Below w.heap.size w W) => h.below hb (Nat.le_refl _))
  have hq : rowC l = 2 := by unfold rowC; rw [if_neg (by omega), if_pos ha]
  have hbC : bitsC l k = (0, 2) := by unfold bitsC; rw [if_pos (win_no.2 (by omega))]
  have hbs : bestC l = (0, 0, 2) := by unfold bestC; rw [if_neg (by rw [hq]; decide), hq]
  have h1 := Lib.hid (fun W hW => Bits_any A n c l k W hW hbC)
  have h2 := Lib.hid (fun W hW => Best_any A n c l W hW hbs)
  have h3 := Lib.hid (fun W hW => ContainsFunc_ints 27 #[] (fun x => !win x 0 65535) enters_isOutL A n c l W hW (fun W' x _ => isOutL_any x W') ha)
  replace hq := Lib.hid hq
  replace hbC := Lib.hid hbC
  replace hbs := Lib.hid hbs
  replace ha := Lib.hid ha
  clear h hlen
  go_enter Try.func6, Try.ntmps6
  go_wp2_with (first
    | (go_at_call 12; refine (known_any _).mono ?_; rintro e w1 ⟨rfl, hb1⟩)
    | (go_at_call 25; refine (h1.out _ (hS.out _ hb1)).mono ?_; rintro e w2 ⟨rfl, hb⟩; have hb2 := hb1.trans (hb.mono hb1.size); clear hb)
    | (go_at_call 26; refine (h2.out _ (hS.out _ hb2)).mono ?_; rintro e w3 ⟨rfl, hb⟩; have hb3 := hb2.trans (hb.mono hb2.size); clear hb)
    | (go_at_call 22; refine (h3.out _ (hS.out _ hb3)).mono ?_; rintro e w4 ⟨rfl, hb⟩; have hb4 := hb3.trans (hb.mono hb3.size); clear hb))
  go_ret
  exact ⟨ret_bool (by first | rfl | simp), hb4⟩

set_option maxRecDepth 100000 in
set_option maxHeartbeats 3200000 in
theorem lawBits_lo_ok (A : Option Addr) (n c : Nat) (l : List Int) (k : Int) (w : World) (h : Sl w A n c l) (hk : k < 0) (hn : n ≤ 64) (ha : (l.any fun x => !win x 0 65535) = false) :
    Calls Try.prog 6 #[.slice A n c, .int .i64 k] w fun e w' => e = .returned (.bool true) ∧ Below w.heap.size w w' := by
  have hcap := h.le_cap
  have hcl := h.cap_le
  have hlen := h.len
  have hS := Lib.hid (fun W (hb : Below w.heap.size w W) => h.below hb (Nat.le_refl _))
  have hq : rowC l = 0 := by unfold rowC; rw [if_neg (by omega), if_neg (by rw [ha]; simp)]
  have hrow := rowC_row hq
  have hbC : bitsC l k = (0, 2) := by unfold bitsC; rw [if_pos (win_no.2 (by omega))]
  obtain ⟨a, hA⟩ : ∃ a : Int, ((best l : Nat) : Int) = a := ⟨_, rfl⟩
  obtain ⟨m, hM⟩ : ∃ m, bitsOf l (best l) = m := ⟨_, rfl⟩
  have hbs : bestC l = (a, m, 0) := by unfold bestC; rw [if_pos hq, hA, hM]
  have hmm : ((m : Int) == (m : Int)) = true := by simp
  have haa : ((a : Int) == (a : Int)) = true := by simp
  have hcm := Lib.hid (fun W hW => lbits_at (A := A) (n := n) (c := c) (w := W) (u := a) (best l) hW (by omega) hrow (best_le l) hA.symm hM)
  have hcb : ∀ W, Sl W A n c l → Calls Try.prog 29 #[.slice A n c] W fun e w' => e = .returned (.int .i64 a) ∧ Below W.heap.size W w' := fun W hW => hA ▸ lbest_any A n c l W hW (by omega) hrow
  replace hcb := Lib.hid hcb
  have h1 := Lib.hid (fun W hW => Bits_any A n c l k W hW hbC)
  have h2 := Lib.hid (fun W hW => Best_any A n c l W hW hbs)
  have h3 := Lib.hid (fun W hW => ContainsFunc_ints 27 #[] (fun x => !win x 0 65535) enters_isOutL A n c l W hW (fun W' x _ => isOutL_any x W') ha)
  replace hq := Lib.hid hq
  replace hbC := Lib.hid hbC
  replace hbs := Lib.hid hbs
  replace ha := Lib.hid ha
  replace hA := Lib.hid hA
  replace hM := Lib.hid hM
  replace hrow := Lib.hid hrow
  clear h hlen
  go_enter Try.func6, Try.ntmps6
  go_wp2_with (first
    | (go_at_call 12; refine (known_any _).mono ?_; rintro e w1 ⟨rfl, hb1⟩)
    | (go_at_call 25; refine (h1.out _ (hS.out _ hb1)).mono ?_; rintro e w2 ⟨rfl, hb⟩; have hb2 := hb1.trans (hb.mono hb1.size); clear hb)
    | (go_at_call 26; refine (h2.out _ (hS.out _ hb2)).mono ?_; rintro e w3 ⟨rfl, hb⟩; have hb3 := hb2.trans (hb.mono hb2.size); clear hb)
    | (go_at_call 22; refine (h3.out _ (hS.out _ hb3)).mono ?_; rintro e w4 ⟨rfl, hb⟩; have hb4 := hb3.trans (hb.mono hb3.size); clear hb)
    | (go_at_call 29; refine (hcb.out _ (hS.out _ hb4)).mono ?_; rintro e w6 ⟨rfl, hb⟩; have hb6 := hb4.trans (hb.mono hb4.size); clear hb)
    | (go_at_call 28; refine (hcm.out _ (hS.out _ hb6)).mono ?_; rintro e w7 ⟨rfl, hb⟩; have hb7 := hb6.trans (hb.mono hb6.size); clear hb))
  go_ret
  exact ⟨ret_bool (by first | rfl | simp), hb7⟩

set_option maxRecDepth 100000 in
set_option maxHeartbeats 3200000 in
theorem lawBits_hi_long (A : Option Addr) (n c : Nat) (l : List Int) (k : Int) (w : World) (h : Sl w A n c l) (hk : 16 < k) (hn : 64 < n) (hn2 : n ≤ 100) :
    Calls Try.prog 6 #[.slice A n c, .int .i64 k] w fun e w' => e = .returned (.bool true) ∧ Below w.heap.size w w' := by
  have hcap := h.le_cap
  have hcl := h.cap_le
  have hlen := h.len
  have hS := Lib.hid (fun W (hb : Below w.heap.size w W) => h.below hb (Nat.le_refl _))
  have hq : rowC l = 3 := by unfold rowC; rw [if_pos (by omega)]
  have hbC : bitsC l k = (0, 2) := by unfold bitsC; rw [if_pos (win_no.2 (by omega))]
  have hbs : bestC l = (0, 0, 3) := by unfold bestC; rw [if_neg (by rw [hq]; decide), hq]
  have h1 := Lib.hid (fun W hW => Bits_any A n c l k W hW hbC)
  have h2 := Lib.hid (fun W hW => Best_any A n c l W hW hbs)
  replace hq := Lib.hid hq
  replace hbC := Lib.hid hbC
  replace hbs := Lib.hid hbs
  clear h hlen
  go_enter Try.func6, Try.ntmps6
  go_wp2_with (first
    | (go_at_call 12; refine (known_any _).mono ?_; rintro e w1 ⟨rfl, hb1⟩)
    | (go_at_call 25; refine (h1.out _ (hS.out _ hb1)).mono ?_; rintro e w2 ⟨rfl, hb⟩; have hb2 := hb1.trans (hb.mono hb1.size); clear hb)
    | (go_at_call 26; refine (h2.out _ (hS.out _ hb2)).mono ?_; rintro e w3 ⟨rfl, hb⟩; have hb3 := hb2.trans (hb.mono hb2.size); clear hb))
  go_ret
  exact ⟨ret_bool (by first | rfl | simp), hb3⟩

set_option maxRecDepth 100000 in
set_option maxHeartbeats 3200000 in
theorem lawBits_hi_bad (A : Option Addr) (n c : Nat) (l : List Int) (k : Int) (w : World) (h : Sl w A n c l) (hk : 16 < k) (hn : n ≤ 64) (ha : (l.any fun x => !win x 0 65535) = true) :
    Calls Try.prog 6 #[.slice A n c, .int .i64 k] w fun e w' => e = .returned (.bool true) ∧ Below w.heap.size w w' := by
  have hcap := h.le_cap
  have hcl := h.cap_le
  have hlen := h.len
  have hS := Lib.hid (fun W (hb : Below w.heap.size w W) => h.below hb (Nat.le_refl _))
  have hq : rowC l = 2 := by unfold rowC; rw [if_neg (by omega), if_pos ha]
  have hbC : bitsC l k = (0, 2) := by unfold bitsC; rw [if_pos (win_no.2 (by omega))]
  have hbs : bestC l = (0, 0, 2) := by unfold bestC; rw [if_neg (by rw [hq]; decide), hq]
  have h1 := Lib.hid (fun W hW => Bits_any A n c l k W hW hbC)
  have h2 := Lib.hid (fun W hW => Best_any A n c l W hW hbs)
  have h3 := Lib.hid (fun W hW => ContainsFunc_ints 27 #[] (fun x => !win x 0 65535) enters_isOutL A n c l W hW (fun W' x _ => isOutL_any x W') ha)
  replace hq := Lib.hid hq
  replace hbC := Lib.hid hbC
  replace hbs := Lib.hid hbs
  replace ha := Lib.hid ha
  clear h hlen
  go_enter Try.func6, Try.ntmps6
  go_wp2_with (first
    | (go_at_call 12; refine (known_any _).mono ?_; rintro e w1 ⟨rfl, hb1⟩)
    | (go_at_call 25; refine (h1.out _ (hS.out _ hb1)).mono ?_; rintro e w2 ⟨rfl, hb⟩; have hb2 := hb1.trans (hb.mono hb1.size); clear hb)
    | (go_at_call 26; refine (h2.out _ (hS.out _ hb2)).mono ?_; rintro e w3 ⟨rfl, hb⟩; have hb3 := hb2.trans (hb.mono hb2.size); clear hb)
    | (go_at_call 22; refine (h3.out _ (hS.out _ hb3)).mono ?_; rintro e w4 ⟨rfl, hb⟩; have hb4 := hb3.trans (hb.mono hb3.size); clear hb))
  go_ret
  exact ⟨ret_bool (by first | rfl | simp), hb4⟩

set_option maxRecDepth 100000 in
set_option maxHeartbeats 3200000 in
theorem lawBits_hi_ok (A : Option Addr) (n c : Nat) (l : List Int) (k : Int) (w : World) (h : Sl w A n c l) (hk : 16 < k) (hn : n ≤ 64) (ha : (l.any fun x => !win x 0 65535) = false) :
    Calls Try.prog 6 #[.slice A n c, .int .i64 k] w fun e w' => e = .returned (.bool true) ∧ Below w.heap.size w w' := by
  have hcap := h.le_cap
  have hcl := h.cap_le
  have hlen := h.len
  have hS := Lib.hid (fun W (hb : Below w.heap.size w W) => h.below hb (Nat.le_refl _))
  have hq : rowC l = 0 := by unfold rowC; rw [if_neg (by omega), if_neg (by rw [ha]; simp)]
  have hrow := rowC_row hq
  have hbC : bitsC l k = (0, 2) := by unfold bitsC; rw [if_pos (win_no.2 (by omega))]
  obtain ⟨a, hA⟩ : ∃ a : Int, ((best l : Nat) : Int) = a := ⟨_, rfl⟩
  obtain ⟨m, hM⟩ : ∃ m, bitsOf l (best l) = m := ⟨_, rfl⟩
  have hbs : bestC l = (a, m, 0) := by unfold bestC; rw [if_pos hq, hA, hM]
  have hmm : ((m : Int) == (m : Int)) = true := by simp
  have haa : ((a : Int) == (a : Int)) = true := by simp
  have hcm := Lib.hid (fun W hW => lbits_at (A := A) (n := n) (c := c) (w := W) (u := a) (best l) hW (by omega) hrow (best_le l) hA.symm hM)
  have hcb : ∀ W, Sl W A n c l → Calls Try.prog 29 #[.slice A n c] W fun e w' => e = .returned (.int .i64 a) ∧ Below W.heap.size W w' := fun W hW => hA ▸ lbest_any A n c l W hW (by omega) hrow
  replace hcb := Lib.hid hcb
  have h1 := Lib.hid (fun W hW => Bits_any A n c l k W hW hbC)
  have h2 := Lib.hid (fun W hW => Best_any A n c l W hW hbs)
  have h3 := Lib.hid (fun W hW => ContainsFunc_ints 27 #[] (fun x => !win x 0 65535) enters_isOutL A n c l W hW (fun W' x _ => isOutL_any x W') ha)
  replace hq := Lib.hid hq
  replace hbC := Lib.hid hbC
  replace hbs := Lib.hid hbs
  replace ha := Lib.hid ha
  replace hA := Lib.hid hA
  replace hM := Lib.hid hM
  replace hrow := Lib.hid hrow
  clear h hlen
  go_enter Try.func6, Try.ntmps6
  go_wp2_with (first
    | (go_at_call 12; refine (known_any _).mono ?_; rintro e w1 ⟨rfl, hb1⟩)
    | (go_at_call 25; refine (h1.out _ (hS.out _ hb1)).mono ?_; rintro e w2 ⟨rfl, hb⟩; have hb2 := hb1.trans (hb.mono hb1.size); clear hb)
    | (go_at_call 26; refine (h2.out _ (hS.out _ hb2)).mono ?_; rintro e w3 ⟨rfl, hb⟩; have hb3 := hb2.trans (hb.mono hb2.size); clear hb)
    | (go_at_call 22; refine (h3.out _ (hS.out _ hb3)).mono ?_; rintro e w4 ⟨rfl, hb⟩; have hb4 := hb3.trans (hb.mono hb3.size); clear hb)
    | (go_at_call 29; refine (hcb.out _ (hS.out _ hb4)).mono ?_; rintro e w6 ⟨rfl, hb⟩; have hb6 := hb4.trans (hb.mono hb4.size); clear hb)
    | (go_at_call 28; refine (hcm.out _ (hS.out _ hb6)).mono ?_; rintro e w7 ⟨rfl, hb⟩; have hb7 := hb6.trans (hb.mono hb6.size); clear hb))
  go_ret
  exact ⟨ret_bool (by first | rfl | simp), hb7⟩

set_option maxRecDepth 100000 in
set_option maxHeartbeats 3200000 in
theorem lawBits_in_long (A : Option Addr) (n c : Nat) (l : List Int) (k : Int) (w : World) (h : Sl w A n c l) (hk0 : 0 ≤ k) (hk : k ≤ 16) (hn : 64 < n) (hn2 : n ≤ 100) :
    Calls Try.prog 6 #[.slice A n c, .int .i64 k] w fun e w' => e = .returned (.bool true) ∧ Below w.heap.size w w' := by
  have hcap := h.le_cap
  have hcl := h.cap_le
  have hlen := h.len
  have hS := Lib.hid (fun W (hb : Below w.heap.size w W) => h.below hb (Nat.le_refl _))
  have hq : rowC l = 3 := by unfold rowC; rw [if_pos (by omega)]
  have hbC : bitsC l k = (0, 3) := by unfold bitsC; rw [if_neg (by rw [win_iff.2 ⟨hk0, hk⟩]; simp), if_neg (by rw [hq]; decide), hq]
  have hbs : bestC l = (0, 0, 3) := by unfold bestC; rw [if_neg (by rw [hq]; decide), hq]
  have h1 := Lib.hid (fun W hW => Bits_any A n c l k W hW hbC)
  have h2 := Lib.hid (fun W hW => Best_any A n c l W hW hbs)
  replace hq := Lib.hid hq
  replace hbC := Lib.hid hbC
  replace hbs := Lib.hid hbs
  clear h hlen
  go_enter Try.func6, Try.ntmps6
  go_wp2_with (first
    | (go_at_call 12; refine (known_any _).mono ?_; rintro e w1 ⟨rfl, hb1⟩)
    | (go_at_call 25; refine (h1.out _ (hS.out _ hb1)).mono ?_; rintro e w2 ⟨rfl, hb⟩; have hb2 := hb1.trans (hb.mono hb1.size); clear hb)
    | (go_at_call 26; refine (h2.out _ (hS.out _ hb2)).mono ?_; rintro e w3 ⟨rfl, hb⟩; have hb3 := hb2.trans (hb.mono hb2.size); clear hb))
  go_ret
  exact ⟨ret_bool (by first | rfl | simp), hb3⟩

set_option maxRecDepth 100000 in
set_option maxHeartbeats 3200000 in
theorem lawBits_in_bad (A : Option Addr) (n c : Nat) (l : List Int) (k : Int) (w : World) (h : Sl w A n c l) (hk0 : 0 ≤ k) (hk : k ≤ 16) (hn : n ≤ 64) (ha : (l.any fun x => !win x 0 65535) = true) :
    Calls Try.prog 6 #[.slice A n c, .int .i64 k] w fun e w' => e = .returned (.bool true) ∧ Below w.heap.size w w' := by
  have hcap := h.le_cap
  have hcl := h.cap_le
  have hlen := h.len
  have hS := Lib.hid (fun W (hb : Below w.heap.size w W) => h.below hb (Nat.le_refl _))
  have hq : rowC l = 2 := by unfold rowC; rw [if_neg (by omega), if_pos ha]
  have hbC : bitsC l k = (0, 2) := by unfold bitsC; rw [if_neg (by rw [win_iff.2 ⟨hk0, hk⟩]; simp), if_neg (by rw [hq]; decide), hq]
  have hbs : bestC l = (0, 0, 2) := by unfold bestC; rw [if_neg (by rw [hq]; decide), hq]
  have h1 := Lib.hid (fun W hW => Bits_any A n c l k W hW hbC)
  have h2 := Lib.hid (fun W hW => Best_any A n c l W hW hbs)
  have h3 := Lib.hid (fun W hW => ContainsFunc_ints 27 #[] (fun x => !win x 0 65535) enters_isOutL A n c l W hW (fun W' x _ => isOutL_any x W') ha)
  replace hq := Lib.hid hq
  replace hbC := Lib.hid hbC
  replace hbs := Lib.hid hbs
  replace ha := Lib.hid ha
  clear h hlen
  go_enter Try.func6, Try.ntmps6
  go_wp2_with (first
    | (go_at_call 12; refine (known_any _).mono ?_; rintro e w1 ⟨rfl, hb1⟩)
    | (go_at_call 25; refine (h1.out _ (hS.out _ hb1)).mono ?_; rintro e w2 ⟨rfl, hb⟩; have hb2 := hb1.trans (hb.mono hb1.size); clear hb)
    | (go_at_call 26; refine (h2.out _ (hS.out _ hb2)).mono ?_; rintro e w3 ⟨rfl, hb⟩; have hb3 := hb2.trans (hb.mono hb2.size); clear hb)
    | (go_at_call 22; refine (h3.out _ (hS.out _ hb3)).mono ?_; rintro e w4 ⟨rfl, hb⟩; have hb4 := hb3.trans (hb.mono hb3.size); clear hb))
  go_ret
  exact ⟨ret_bool (by first | rfl | simp), hb4⟩

set_option maxRecDepth 100000 in
set_option maxHeartbeats 3200000 in
theorem lawBits_in_ok (A : Option Addr) (n c : Nat) (l : List Int) (k : Int) (w : World) (h : Sl w A n c l) (hk0 : 0 ≤ k) (hk : k ≤ 16) (hn : n ≤ 64) (ha : (l.any fun x => !win x 0 65535) = false) :
    Calls Try.prog 6 #[.slice A n c, .int .i64 k] w fun e w' => e = .returned (.bool true) ∧ Below w.heap.size w w' := by
  have hcap := h.le_cap
  have hcl := h.cap_le
  have hlen := h.len
  have hS := Lib.hid (fun W (hb : Below w.heap.size w W) => h.below hb (Nat.le_refl _))
  have hq : rowC l = 0 := by unfold rowC; rw [if_neg (by omega), if_neg (by rw [ha]; simp)]
  have hrow := rowC_row hq
  obtain ⟨s, hs⟩ : ∃ s, bitsOf l k.toNat = s := ⟨_, rfl⟩
  have hbC : bitsC l k = (s, 0) := by unfold bitsC; rw [if_neg (by rw [win_iff.2 ⟨hk0, hk⟩]; simp), if_pos hq, hs]
  obtain ⟨a, hA⟩ : ∃ a : Int, ((best l : Nat) : Int) = a := ⟨_, rfl⟩
  obtain ⟨m, hM⟩ : ∃ m, bitsOf l (best l) = m := ⟨_, rfl⟩
  have hbs : bestC l = (a, m, 0) := by unfold bestC; rw [if_pos hq, hA, hM]
  have hmm : ((m : Int) == (m : Int)) = true := by simp
  have haa : ((a : Int) == (a : Int)) = true := by simp
  have hss : ((s : Int) != (s : Int)) = false := by simp
  have hms : m ≤ s := by rw [← hM, ← hs]; exact bestTo_least l 16 k.toNat (by omega)
  have hcs := Lib.hid (fun W hW => lbits_at (A := A) (n := n) (c := c) (w := W) (u := k) k.toNat hW (by omega) hrow (by omega) (by omega) hs)
  have hcm := Lib.hid (fun W hW => lbits_at (A := A) (n := n) (c := c) (w := W) (u := a) (best l) hW (by omega) hrow (best_le l) hA.symm hM)
  have hcb : ∀ W, Sl W A n c l → Calls Try.prog 29 #[.slice A n c] W fun e w' => e = .returned (.int .i64 a) ∧ Below W.heap.size W w' := fun W hW => hA ▸ lbest_any A n c l W hW (by omega) hrow
  replace hcb := Lib.hid hcb
  have h1 := Lib.hid (fun W hW => Bits_any A n c l k W hW hbC)
  have h2 := Lib.hid (fun W hW => Best_any A n c l W hW hbs)
  have h3 := Lib.hid (fun W hW => ContainsFunc_ints 27 #[] (fun x => !win x 0 65535) enters_isOutL A n c l W hW (fun W' x _ => isOutL_any x W') ha)
  replace hq := Lib.hid hq
  replace hbC := Lib.hid hbC
  replace hbs := Lib.hid hbs
  replace ha := Lib.hid ha
  replace hA := Lib.hid hA
  replace hM := Lib.hid hM
  replace hrow := Lib.hid hrow
  replace hs := Lib.hid hs
  clear h hlen
  go_enter Try.func6, Try.ntmps6
  go_wp2_with (first
    | (go_at_call 12; refine (known_any _).mono ?_; rintro e w1 ⟨rfl, hb1⟩)
    | (go_at_call 25; refine (h1.out _ (hS.out _ hb1)).mono ?_; rintro e w2 ⟨rfl, hb⟩; have hb2 := hb1.trans (hb.mono hb1.size); clear hb)
    | (go_at_call 26; refine (h2.out _ (hS.out _ hb2)).mono ?_; rintro e w3 ⟨rfl, hb⟩; have hb3 := hb2.trans (hb.mono hb2.size); clear hb)
    | (go_at_call 22; refine (h3.out _ (hS.out _ hb3)).mono ?_; rintro e w4 ⟨rfl, hb⟩; have hb4 := hb3.trans (hb.mono hb3.size); clear hb)
    | (go_at_call 28; refine (hcs.out _ (hS.out _ hb4)).mono ?_; clear hcs; rintro e w5 ⟨rfl, hb⟩; have hb5 := hb4.trans (hb.mono hb4.size); clear hb)
    | (go_at_call 29; refine (hcb.out _ (hS.out _ hb5)).mono ?_; rintro e w6 ⟨rfl, hb⟩; have hb6 := hb5.trans (hb.mono hb5.size); clear hb)
    | (go_at_call 28; refine (hcm.out _ (hS.out _ hb6)).mono ?_; rintro e w7 ⟨rfl, hb⟩; have hb7 := hb6.trans (hb.mono hb6.size); clear hb))
  go_ret
  exact ⟨ret_bool (by first | rfl | simp), hb7⟩

theorem lawBits_any (A : Option Addr) (n c : Nat) (l : List Int) (k : Int) (w : World) (h : Sl w A n c l) :
    Calls Try.prog 6 #[.slice A n c, .int .i64 k] w fun e w' => e = .returned (.bool true) ∧ Below w.heap.size w w' := by
  by_cases h1 : 100 < n
  · exact lawBits_many A n c l k w h h1
  by_cases h2 : 64 < n
  · by_cases h3 : k < 0
    · exact lawBits_lo_long A n c l k w h h3 h2 (by omega)
    by_cases h4 : 16 < k
    · exact lawBits_hi_long A n c l k w h h4 h2 (by omega)
    · exact lawBits_in_long A n c l k w h (by omega) (by omega) h2 (by omega)
  cases ha : (l.any fun x => !win x 0 65535)
  · by_cases h3 : k < 0
    · exact lawBits_lo_ok A n c l k w h h3 (by omega) ha
    by_cases h4 : 16 < k
    · exact lawBits_hi_ok A n c l k w h h4 (by omega) ha
    · exact lawBits_in_ok A n c l k w h (by omega) (by omega) (by omega) ha
  · by_cases h3 : k < 0
    · exact lawBits_lo_bad A n c l k w h h3 (by omega) ha
    by_cases h4 : 16 < k
    · exact lawBits_hi_bad A n c l k w h h4 (by omega) ha
    · exact lawBits_in_bad A n c l k w h (by omega) (by omega) (by omega) ha

end Go.Proofs.Ytkndfojebpbnfaa
