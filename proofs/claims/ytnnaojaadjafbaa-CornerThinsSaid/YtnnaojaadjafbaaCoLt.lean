/-
  Walk: the law CornerThins.
-/
import Derived.Test.YtnnaojaadjafbaaCoKn
import Derived.Test.YtnnaojaadjafbaaCoR
set_option linter.unusedSimpArgs false
set_option linter.unusedVariables false
namespace Go.Proofs.Ytnnaojaadjafbaa
open Go.RowKit

set_option maxRecDepth 100000 in
set_option maxHeartbeats 3200000 in
theorem lawThins_any (A : Option Addr) (n c : Nat) (l : List Cor) (r : Int) (w : World) (h : CS w A n c l) :
    Calls Try.prog 5 #[.slice A n c, .int .i64 r] w fun e w' => e = .returned (.bool true) ∧ Below w.heap.size w w' := by
  have hcap := h.2.1
  have hcl := h.2.2.1
  by_cases hf : n ≤ 40
  · obtain ⟨k, hk⟩ : ∃ k, thinC r l = k := ⟨_, rfl⟩
    by_cases hk0 : k = 0
    · subst hk0
      have hok := thinC_ok.1 hk
      have c1 := Lib.hid (fun W hW => Thin_ok r A n c l W hW hok)
      have c2 := Lib.hid (fun W hW => rThin_ok r A n c l W hW hok)
      replace hk := Lib.hid hk
      replace hok := Lib.hid hok
      replace h := Lib.hid h
      go_enter Try.func5, Try.ntmps5
      go_wp2_with (first
        | (go_at_call 11; refine (known_any _).mono ?_; rintro e w1 ⟨rfl, hb1⟩; have hs1 := h.out.below hb1 (Nat.le_refl _))
        | (go_at_call 19; refine (c1.out _ hs1).mono ?_; rintro e w2 ⟨v2, rfl, hown2, hb2⟩; obtain ⟨A2, c2', rfl, hcs2, -, -⟩ := own_form hown2; have hs2 := hs1.below hb2 (Nat.le_refl _); have hB2 := hb1.trans (hb2.mono hb1.size))
        | (go_at_call 20; refine (c2.out _ hs2).mono ?_; rintro e w3 ⟨v3, rfl, hown3, hb3⟩; obtain ⟨A3, c3', rfl, hcs3, -, -⟩ := own_form hown3; replace hcs2 := hcs2.below hb3 (Nat.le_refl _); have hB3 := hB2.trans (hb3.mono hB2.size))
        | (go_at_call 18; refine (kEq hcs2 hcs3).mono ?_; rintro e w4 ⟨rfl, hb4⟩))
      go_ret
      exact ⟨rfl, hB3.trans (hb4.mono hB3.size)⟩
    · have c1 := Lib.hid (fun W hW => Thin_no r A n c l W hW hk hk0)
      have c2 := Lib.hid (fun W hW => rThin_no r A n c l W hW hk hk0)
      replace hk := Lib.hid hk
      replace hk0 := Lib.hid hk0
      replace h := Lib.hid h
      go_enter Try.func5, Try.ntmps5
      go_wp2_with (first
        | (go_at_call 11; refine (known_any _).mono ?_; rintro e w1 ⟨rfl, hb1⟩; have hs1 := h.out.below hb1 (Nat.le_refl _))
        | (go_at_call 19; refine (c1.out _ hs1).mono ?_; rintro e w2 ⟨rfl, hb2⟩; have hs2 := hs1.below hb2 (Nat.le_refl _); have hB2 := hb1.trans (hb2.mono hb1.size))
        | (go_at_call 20; refine (c2.out _ hs2).mono ?_; rintro e w3 ⟨rfl, hb3⟩; have hB3 := hB2.trans (hb3.mono hB2.size))
        | (go_at_call 18; refine (kEq (CS.nil _) (CS.nil _)).mono ?_; rintro e w4 ⟨rfl, hb4⟩))
      go_ret
      exact ⟨rfl, hB3.trans (hb4.mono hB3.size)⟩
  · have hf' : (40 : Int) < (n : Int) := by omega
    replace h := Lib.hid h
    go_enter Try.func5, Try.ntmps5
    go_wp2_with (go_at_call 11; refine (known_any _).mono ?_; rintro e w1 ⟨rfl, hb1⟩)
    go_ret
    exact ⟨rfl, hb1⟩

end Go.Proofs.Ytnnaojaadjafbaa
