/-
  Walks: Matches of package neighbour; Within.
-/
import Derived.Test.YtofoiocpopmifaaNbMa
set_option linter.unusedSimpArgs false
set_option linter.unusedVariables false
namespace Go.Proofs.Ytofoiocpopmifaa
open Go.RowKit

theorem Matches_long (A : Option Addr) (n c : Nat) (A2 : Option Addr) (n2 c2 : Nat) (u v : Int) (w : World) (hn : n ≤ 9223372036854775807) (hn2 : n2 ≤ 9223372036854775807) (h : 64 < n ∨ 64 < n2) :
    Calls Try.prog 24 #[.slice A n c, .slice A2 n2 c2, .int .i64 u, .int .i64 v] w fun e w' => e = .returned (.tuple #[.slice none 0 0, .int .i64 3]) ∧ w = w' := by
  by_cases h1 : 64 < n
  · have k0 := Lib.hid (isLong_at (b := true) hn (by simp [h1]))
    clear h
    go_enter Try.func24, Try.ntmps24
    go_wp2_with (go_at_call 36; refine (k0.out _ _ _).mono ?_; rintro e w' ⟨rfl, rfl⟩)
    exact bodyPost_ret (v := .tuple #[.slice none 0 0, .int .i64 3]) (by simp [results, Try.results24, go_sem]) rfl ⟨rfl, rfl⟩
  · have h2 : 64 < n2 := by omega
    have k0 := Lib.hid (isLong_at (b := false) hn (by simp; omega) A c)
    have k1 := Lib.hid (isLong_at (b := true) hn2 (by simp [h2]) A2 c2)
    have tok : True := trivial
    clear h
    go_enter Try.func24, Try.ntmps24
    go_wp2_with (first | (go_at_call 36; clear tok; refine (k0.out _).mono ?_; rintro e w' ⟨rfl, rfl⟩) | (go_at_call 36; refine (k1.out _).mono ?_; rintro e w' ⟨rfl, rfl⟩))
    exact bodyPost_ret (v := .tuple #[.slice none 0 0, .int .i64 3]) (by simp [results, Try.results24, go_sem]) rfl ⟨rfl, rfl⟩

theorem Matches_range (A : Option Addr) (n c : Nat) (A2 : Option Addr) (n2 c2 : Nat) (u v : Int) (w : World) (hn : n ≤ 64) (hn2 : n2 ≤ 64) (h : win u 1 1000 = false ∨ win v 1 1000 = false) :
    Calls Try.prog 24 #[.slice A n c, .slice A2 n2 c2, .int .i64 u, .int .i64 v] w fun e w' => e = .returned (.tuple #[.slice none 0 0, .int .i64 2]) ∧ w = w' := by
  have k0 := Lib.hid (isLong_at (n := n) (b := false) (by omega) (by simp; omega) A c)
  have k1 := Lib.hid (isLong_at (n := n2) (b := false) (by omega) (by simp; omega) A2 c2)
  obtain ⟨b1, hb1⟩ : ∃ b, win u 1 1000 = b := ⟨_, rfl⟩
  obtain ⟨b2, hb2⟩ : ∃ b, win v 1 1000 = b := ⟨_, rfl⟩
  rw [hb1, hb2] at h
  have q1 := Lib.hid (nwithin_at hb1)
  have q2 := Lib.hid (nwithin_at hb2)
  clear hb1 hb2
  have tok : True := trivial
  have tok2 : True := trivial
  cases b1
  · clear h
    go_enter Try.func24, Try.ntmps24
    go_wp2_with (first | (go_at_call 36; clear tok; refine (k0.out _).mono ?_; rintro e w' ⟨rfl, rfl⟩) | (go_at_call 36; refine (k1.out _).mono ?_; rintro e w' ⟨rfl, rfl⟩) | (go_at_call 45; refine (q1.out _).mono ?_; rintro e w' ⟨rfl, rfl⟩))
    exact bodyPost_ret (v := .tuple #[.slice none 0 0, .int .i64 2]) (by simp [results, Try.results24, go_sem]) rfl ⟨rfl, rfl⟩
  · have hb2 : b2 = false := by rcases h with h | h; cases h; exact h
    subst hb2
    clear h
    go_enter Try.func24, Try.ntmps24
    go_wp2_with (first | (go_at_call 36; clear tok; refine (k0.out _).mono ?_; rintro e w' ⟨rfl, rfl⟩) | (go_at_call 36; refine (k1.out _).mono ?_; rintro e w' ⟨rfl, rfl⟩) | (go_at_call 45; clear tok2; refine (q1.out _).mono ?_; rintro e w' ⟨rfl, rfl⟩) | (go_at_call 45; refine (q2.out _).mono ?_; rintro e w' ⟨rfl, rfl⟩))
    exact bodyPost_ret (v := .tuple #[.slice none 0 0, .int .i64 2]) (by simp [results, Try.results24, go_sem]) rfl ⟨rfl, rfl⟩

/-- What Matches returns. -/
def RetM (a b : List Nat) (num den : Nat) (l : List Mat) : Prop :=
  (a.length = 0 ∨ b.length = 0) ∧ l = [] ∨ 0 < a.length ∧ 0 < b.length ∧ ∃ Lc Lb, Chosen b a Lc ∧ Chosen a b Lb ∧ l = matF a b num den Lc Lb a.length

theorem Matches_ok (A : Option Addr) (n c : Nat) (a : List Nat) (A2 : Option Addr) (n2 c2 : Nat) (b : List Nat) (num den : Nat) (w : World) (h : WS w A n c a) (h2 : WS w A2 n2 c2 b) (hn : n ≤ 64) (hn2 : n2 ≤ 64) (hnum : 1 ≤ num ∧ num ≤ 1000) (hden : 1 ≤ den ∧ den ≤ 1000) :
    Calls Try.prog 24 #[.slice A n c, .slice A2 n2 c2, .int .i64 (num : Int), .int .i64 (den : Int)] w fun e w' => (∃ (l : List Mat) (A3 : Option Addr) (c3 : Nat), e = .returned (.tuple #[.slice A3 l.length c3, .int .i64 0]) ∧ RetM a b num den l ∧ SR w' A3 l.length c3 3 (mcells l)) ∧ Below w.heap.size w w' := by
  have k0 := Lib.hid (isLong_at (n := n) (b := false) (by omega) (by simp; omega) A c)
  have k1 := Lib.hid (isLong_at (n := n2) (b := false) (by omega) (by simp; omega) A2 c2)
  have q1 := Lib.hid (nwithin_at (a := (num : Int)) (lo := 1) (hi := 1000) (b := true) (win_iff.2 (by omega)))
  have q2 := Lib.hid (nwithin_at (a := (den : Int)) (lo := 1) (hi := 1000) (b := true) (win_iff.2 (by omega)))
  have hlen := Lib.hid h.len
  have hlen2 := Lib.hid h2.len
  have tok : True := trivial
  have tok2 : True := trivial
  by_cases h0 : n = 0 ∨ n2 = 0
  · have hm := Lib.hid (matches_none A n c A2 n2 c2 (num : Int) (den : Int) w h0 hn hn2)
    replace h0 := Lib.hid h0
    clear h h2
    go_enter Try.func24, Try.ntmps24
    go_wp2_with (first | (go_at_call 36; clear tok; refine (k0.out _).mono ?_; rintro e w' ⟨rfl, rfl⟩) | (go_at_call 36; refine (k1.out _).mono ?_; rintro e w' ⟨rfl, rfl⟩) | (go_at_call 45; clear tok2; refine (q1.out _).mono ?_; rintro e w' ⟨rfl, rfl⟩) | (go_at_call 45; refine (q2.out _).mono ?_; rintro e w' ⟨rfl, rfl⟩) | (go_at_call 46; refine hm.out.mono ?_; rintro e w' ⟨rfl, rfl⟩))
    exact bodyPost_ret (v := .tuple #[.slice none 0 0, .int .i64 0]) (by simp [results, Try.results24, go_sem]) rfl ⟨⟨[], none, 0, rfl, .inl ⟨by rw [← hlen.out, ← hlen2.out]; exact h0.out, rfl⟩, SR.nil _ 3⟩, Below.refl _ _⟩
  · have hm := Lib.hid (matches_some A n c a A2 n2 c2 b num den w h h2 hn hn2 (by omega) (by omega) hnum.2 hden.2)
    have hpos : Hid (0 < n ∧ 0 < n2) := Lib.hid (by omega)
    clear h h2 h0
    go_enter Try.func24, Try.ntmps24
    go_wp2_with (first | (go_at_call 36; clear tok; refine (k0.out _).mono ?_; rintro e w' ⟨rfl, rfl⟩) | (go_at_call 36; refine (k1.out _).mono ?_; rintro e w' ⟨rfl, rfl⟩) | (go_at_call 45; clear tok2; refine (q1.out _).mono ?_; rintro e w' ⟨rfl, rfl⟩) | (go_at_call 45; refine (q2.out _).mono ?_; rintro e w' ⟨rfl, rfl⟩) | (go_at_call 46; refine hm.out.mono ?_; rintro e w' ⟨⟨Lc, Lb, v, rfl, hLc, hLb, ho⟩, hb⟩))
    obtain ⟨A3, c3, rfl, hs, -, -⟩ := own_form ho
    exact bodyPost_ret (v := .tuple #[.slice A3 (matF a b num den Lc Lb n).length c3, .int .i64 0]) (by simp [results, Try.results24, go_sem]) rfl ⟨⟨matF a b num den Lc Lb n, A3, c3, rfl, .inr ⟨by rw [← hlen.out]; exact hpos.out.1, by rw [← hlen2.out]; exact hpos.out.2, Lc, Lb, hLc, hLb, by rw [hlen.out]⟩, hs⟩, hb⟩

end Go.Proofs.Ytofoiocpopmifaa
