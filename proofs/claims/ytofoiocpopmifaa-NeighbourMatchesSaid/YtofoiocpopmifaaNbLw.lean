/-
  Walk: the law of the matches, whole.
-/
import Derived.Test.YtofoiocpopmifaaNbLy
set_option linter.unusedSimpArgs false
set_option linter.unusedVariables false
namespace Go.Proofs.Ytofoiocpopmifaa
open Go.RowKit

theorem lawMatches_any (A : Option Addr) (n c : Nat) (a : List Nat) (A2 : Option Addr) (n2 c2 : Nat) (b : List Nat) (u v : Int) (w : World) (h : WS w A n c a) (h2 : WS w A2 n2 c2 b) :
    Calls Try.prog 8 #[.slice A n c, .slice A2 n2 c2, .agg #[.int .i64 u, .int .i64 v]] w fun e w' => e = .returned (.bool true) ∧ Below w.heap.size w w' := by
  have q1 := h.le_cap
  have q2 := h.cap_le
  have q3 := h2.le_cap
  have q4 := h2.cap_le
  cases hf1 : fewB n with
  | false => exact lawMatches_no1 A n c A2 n2 c2 u v w (by omega) (by omega) hf1
  | true =>
    cases hf2 : fewB n2 with
    | false => exact lawMatches_no2 A n c A2 n2 c2 u v w (by omega) (by omega) hf1 hf2
    | true =>
      by_cases hl : 64 < n ∨ 64 < n2
      · exact lawMatches_long A n c A2 n2 c2 u v w (by omega) (by omega) hf1 hf2 hl
      · by_cases hu : u < 1
        · exact lawMatches_range1 A n c A2 n2 c2 u v w (by omega) (by omega) hf1 hf2 hl (.inl (win_no.2 (by omega))) hu
        · by_cases hv : v < 1
          · exact lawMatches_range2 A n c A2 n2 c2 u v w (by omega) (by omega) hf1 hf2 hl (.inr (win_no.2 (by omega))) hv
          · by_cases hu2 : 1000 < u
            · exact lawMatches_range3 A n c A2 n2 c2 u v w (by omega) (by omega) hf1 hf2 hl (.inl (win_no.2 (by omega))) (by omega) (by omega) hu2
            · by_cases hv2 : 1000 < v
              · exact lawMatches_range4 A n c A2 n2 c2 u v w (by omega) (by omega) hf1 hf2 hl (.inr (win_no.2 (by omega))) (by omega) (by omega) hv2
              · obtain ⟨num, rfl⟩ : ∃ t : Nat, u = (t : Int) := ⟨u.toNat, by omega⟩
                obtain ⟨den, rfl⟩ : ∃ t : Nat, v = (t : Int) := ⟨v.toNat, by omega⟩
                by_cases h0 : n = 0 ∨ n2 = 0
                · exact lawMatches_none A n c a A2 n2 c2 b num den w h h2 hf1 hf2 hl (by omega) (by omega) h0
                · exact lawMatches_some A n c a A2 n2 c2 b num den w h h2 hf1 hf2 hl (by omega) (by omega) (by omega) (by omega)

end Go.Proofs.Ytofoiocpopmifaa
