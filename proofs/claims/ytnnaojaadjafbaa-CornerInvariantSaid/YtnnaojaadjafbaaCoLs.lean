/-
  Walk: the law CornerScores.
-/
import Derived.Test.YtnnaojaadjafbaaCoKn
import Derived.Test.YtnnaojaadjafbaaCoSg
set_option linter.unusedSimpArgs false
set_option linter.unusedVariables false
namespace Go.Proofs.Ytnnaojaadjafbaa
open Go.RowKit

theorem kEqI {A A2 : Option Addr} {n c n2 c2 : Nat} {l : List Int} {W : World} (h : Sl W A n c l) (h2 : Sl W A2 n2 c2 l) :
    Calls Try.prog 15 #[.slice A n c, .slice A2 n2 c2] W fun e w' => e = .returned (.bool true) ∧ Below W.heap.size W w' := by
  have := sEqual_any A n c l A2 n2 c2 l W h h2
  rw [show eql l l = true from decide_eq_true rfl] at this
  exact this
theorem few_at {W H M : Int} {A : Option Addr} {n c : Nat} {w : World} (hn : n ≤ 9223372036854775807) {b : Bool} (h : decide (n ≤ 200) = b) :
    Calls Try.prog 12 #[.agg #[.int .i64 W, .int .i64 H, .int .i64 M, .slice A n c]] w fun e w' => e = .returned (.bool b) ∧ Below w.heap.size w w' := h ▸ few_any W H M A n c w hn

set_option maxRecDepth 100000 in
set_option maxHeartbeats 3200000 in
theorem lawScores_any (W H M : Int) (A : Option Addr) (n c : Nat) (P : List Int) (w : World) (h : Sl w A n c P) :
    Calls Try.prog 3 #[.agg #[.int .i64 W, .int .i64 H, .int .i64 M, .slice A n c]] w fun e w' => e = .returned (.bool true) ∧ Below w.heap.size w w' := by
  have hb0 := (Below.refl w.heap.size w).alloc (Nat.le_refl _) (.cells #[.int .i64 W, .int .i64 H, .int .i64 M, .slice A n c] 24)
  have hs0 := h.alloc (.cells #[.int .i64 W, .int .i64 H, .int .i64 M, .slice A n c] 24)
  have k0 := RB.new w W H M A n c
  have hz0 : (w.alloc (.cells #[.int .i64 W, .int .i64 H, .int .i64 M, .slice A n c] 24)).heap.size = w.heap.size + 1 := by simp
  have hn : n ≤ 9223372036854775807 := by have := h.le_cap; have := h.cap_le; omega
  clear h
  by_cases hf : n ≤ 200
  · have cf := Lib.hid (fun W' => few_at (W := W) (H := H) (M := M) (A := A) (c := c) (w := W') hn (decide_eq_true hf))
    obtain ⟨r, hr⟩ := AskR.ex W H M P
    by_cases hr0 : r = 0
    · subst hr0
      have hscr := hr.zero
      obtain ⟨a, b, e1, e2, -, -, -, hab, -, -⟩ := hscr.1.nat
      have hSl : (scoresL W.toNat H.toNat P).length = n := by rw [scoresL, tab_length, e1, e2, Int.toNat_natCast, Int.toNat_natCast, ← hab]; exact hs0.len.symm
      have c1 := Lib.hid (fun W' hW => Scores_ok W H M A n c P W' hW hscr)
      have c2 := Lib.hid (fun W' hW => rScores_ok W H M A n c P W' hW hscr)
      obtain ⟨S, hS⟩ : ∃ S, scoresL W.toNat H.toNat P = S := ⟨_, rfl⟩
      rw [hS] at c1 c2 hSl
      replace hS := Lib.hid hS
      replace hSl := Lib.hid hSl
      replace hr := Lib.hid hr
      replace hscr := Lib.hid hscr
      clear e1 e2 hab
      go_enter Try.func3, Try.ntmps3
      go_wp2_with (first
        | (go_at_call 11; refine (known_any _).mono ?_; rintro e w1 ⟨rfl, hb1⟩; have k1 := k0.below hb1 k0.lt; have hs1 := hs0.below hb1 (Nat.le_refl _); have hB1 := hb0.trans (hb1.mono hb0.size); obtain ⟨⟨d0, d1, d2, d3⟩, f0, f1, f2, f3⟩ := k1.cells)
        | (go_at_call 12; refine (cf.out _).mono ?_; rintro e w2 ⟨rfl, hb2⟩; have k2 := k1.below hb2 k1.lt; have hs2 := hs1.below hb2 (Nat.le_refl _); have hB2 := hB1.trans (hb2.mono hB1.size); clear d0 d1 d2 d3 f0 f1 f2 f3; obtain ⟨⟨d0, d1, d2, d3⟩, f0, f1, f2, f3⟩ := k2.cells)
        | (go_at_call 13; refine (c1.out _ hs2).mono ?_; rintro e w3 ⟨g, rfl, hg, hbl, hb3⟩; have k3 := k2.below hb3 k2.lt; have hs3 := hs2.below hb3 (Nat.le_refl _); have hB3 := hB2.trans (hb3.mono hB2.size); clear d0 d1 d2 d3 f0 f1 f2 f3; obtain ⟨⟨d0, d1, d2, d3⟩, f0, f1, f2, f3⟩ := k3.cells)
        | (go_at_call 14; refine (c2.out _ hs3).mono ?_; rintro e w4 ⟨A4, c4, rfl, hsl4, hb4⟩; replace hbl := hbl.below hb4 hbl.lt; have hB4 := hB3.trans (hb4.mono hB3.size))
        | (go_at_call 15; refine (kEqI (hbl.sl0 hSl.out.symm (Nat.le_refl _) hn) hsl4).mono ?_; rintro e w5 ⟨rfl, hb5⟩))
      go_ret
      exact ⟨rfl, hB4.trans (hb5.mono hB4.size)⟩
    · have c1 := Lib.hid (fun W' hW => Scores_no W H M A n c P W' hW hr hr0)
      have c2 := Lib.hid (fun W' hW => rScores_no W H M A n c P W' hW hr hr0)
      replace hr := Lib.hid hr
      replace hr0 := Lib.hid hr0
      go_enter Try.func3, Try.ntmps3
      go_wp2_with (first
        | (go_at_call 11; refine (known_any _).mono ?_; rintro e w1 ⟨rfl, hb1⟩; have k1 := k0.below hb1 k0.lt; have hs1 := hs0.below hb1 (Nat.le_refl _); have hB1 := hb0.trans (hb1.mono hb0.size); obtain ⟨⟨d0, d1, d2, d3⟩, f0, f1, f2, f3⟩ := k1.cells)
        | (go_at_call 12; refine (cf.out _).mono ?_; rintro e w2 ⟨rfl, hb2⟩; have k2 := k1.below hb2 k1.lt; have hs2 := hs1.below hb2 (Nat.le_refl _); have hB2 := hB1.trans (hb2.mono hB1.size); clear d0 d1 d2 d3 f0 f1 f2 f3; obtain ⟨⟨d0, d1, d2, d3⟩, f0, f1, f2, f3⟩ := k2.cells)
        | (go_at_call 13; refine (c1.out _ hs2).mono ?_; rintro e w3 ⟨rfl, hb3⟩; have k3 := k2.below hb3 k2.lt; have hs3 := hs2.below hb3 (Nat.le_refl _); have hB3 := hB2.trans (hb3.mono hB2.size); clear d0 d1 d2 d3 f0 f1 f2 f3; obtain ⟨⟨d0, d1, d2, d3⟩, f0, f1, f2, f3⟩ := k3.cells)
        | (go_at_call 14; refine (c2.out _ hs3).mono ?_; rintro e w4 ⟨rfl, hb4⟩; have hB4 := hB3.trans (hb4.mono hB3.size))
        | (go_at_call 15; refine (kEqI (Sl.nil _) (Sl.nil _)).mono ?_; rintro e w5 ⟨rfl, hb5⟩))
      go_ret
      exact ⟨rfl, hB4.trans (hb5.mono hB4.size)⟩
  · have cf := Lib.hid (fun W' => few_at (W := W) (H := H) (M := M) (A := A) (c := c) (w := W') hn (decide_eq_false hf))
    go_enter Try.func3, Try.ntmps3
    go_wp2_with (first
      | (go_at_call 11; refine (known_any _).mono ?_; rintro e w1 ⟨rfl, hb1⟩; have k1 := k0.below hb1 k0.lt; have hB1 := hb0.trans (hb1.mono hb0.size); obtain ⟨⟨d0, d1, d2, d3⟩, f0, f1, f2, f3⟩ := k1.cells)
      | (go_at_call 12; refine (cf.out _).mono ?_; rintro e w2 ⟨rfl, hb2⟩; have hB2 := hB1.trans (hb2.mono hB1.size)))
    go_ret
    exact ⟨rfl, hB2⟩

end Go.Proofs.Ytnnaojaadjafbaa
