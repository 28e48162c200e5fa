/-
  Walks: Paste of package raster where it gives an error; both by the name of the result.
-/
import Derived.Test.YtehnemdifkjhcaaRaX
set_option linter.unusedSimpArgs false
set_option linter.unusedVariables false
namespace Go.Proofs.Ytehnemdifkjhcaa
open Go.RowKit

theorem Paste_q {a b a2 b2 : Nat} {M : Int} {A : Option Addr} {n c : Nat} {P : List Int} {A2 : Option Addr} {n2 c2 : Nat} {P2 Q : List Int} {x y : Int} {w : World} (h : Sl w A n c P) (h2 : Sl w A2 n2 c2 P2) (hr : Ras a b M P) (hr2 : Ras a2 b2 M P2) (hx : -64 ≤ x ∧ x ≤ 64) (hy : -64 ≤ y ∧ y ≤ 64) (hQ : pasted a a2 b2 x y P P2 = Q) :
    Calls Try.prog 27 #[.agg #[.int .i64 a, .int .i64 b, .int .i64 M, .slice A n c], .agg #[.int .i64 a2, .int .i64 b2, .int .i64 M, .slice A2 n2 c2], .int .i64 x, .int .i64 y] w (RetR w a b M Q) := hQ ▸ Paste_yes a b a2 b2 M A n c P A2 n2 c2 P2 x y w h h2 hr hr2 hx hy
theorem rPaste_q {a b a2 b2 : Nat} {M : Int} {A : Option Addr} {n c : Nat} {P : List Int} {A2 : Option Addr} {n2 c2 : Nat} {P2 Q : List Int} {x y : Int} {w : World} (h : Sl w A n c P) (hA : A = none → c = 0) (h2 : Sl w A2 n2 c2 P2) (hr : Ras a b M P) (hr2 : Ras a2 b2 M P2) (hx : -64 ≤ x ∧ x ≤ 64) (hy : -64 ≤ y ∧ y ≤ 64) (hQ : pasted a a2 b2 x y P P2 = Q) :
    Calls Try.prog 29 #[.agg #[.int .i64 a, .int .i64 b, .int .i64 M, .slice A n c], .agg #[.int .i64 a2, .int .i64 b2, .int .i64 M, .slice A2 n2 c2], .int .i64 x, .int .i64 y] w (RetF w a b M Q) := hQ ▸ rPaste_any a b a2 b2 M A n c P A2 n2 c2 P2 x y w h hA h2 hr hr2 hx hy

set_option maxHeartbeats 3200000 in
theorem Paste_bad1 (W H M : Int) (A : Option Addr) (n c : Nat) (P : List Int) (W2 H2 M2 : Int) (A2 : Option Addr) (n2 c2 : Nat) (P2 : List Int) (x y : Int) (w : World) (h : Sl w A n c P) (h2 : Sl w A2 n2 c2 P2) (hr : ¬ Ras W H M P) :
    Calls Try.prog 27 #[.agg #[.int .i64 W, .int .i64 H, .int .i64 M, .slice A n c], .agg #[.int .i64 W2, .int .i64 H2, .int .i64 M2, .slice A2 n2 c2], .int .i64 x, .int .i64 y] w (RetE w 1) := by
  obtain ⟨k0, k1, k2, hb0, hz⟩ := pasteW_facts W H M A n c W2 H2 M2 A2 n2 c2 w
  replace hz := Lib.hid hz
  have tok1 : True := trivial
  have tok2 : True := trivial
  have hck := Lib.hid (fun w' (hb : Below w.heap.size w w') => Check_no (h.below hb (Nat.le_refl _)) hr)
  clear h h2 hr
  go_enter Try.func27, Try.ntmps27
  go_wp2_with (first | (go_at_call 13; clear tok1; refine ((hck.out _ hb0)).mono ?_; rintro e w1 ⟨rfl, hb3⟩; rw [hz.out] at hb3; have z1 := hb3.size; rw [hz.out] at z1; replace k0 := k0.below hb3 (by omega); replace k1 := k1.below hb3 (by omega); replace k2 := k2.below hb3 (by omega); have hB1 := hb0.trans (hb3.mono (by omega)); obtain ⟨⟨d0, d1, d2, d3⟩, -⟩ := k0.cells; obtain ⟨⟨d4, d5, d6, d7⟩, -⟩ := k1.cells; obtain ⟨⟨e0, e1, e2, e3⟩, f0, f1, f2, f3⟩ := k2.cells))
  refine bodyPost_ret (v := .tuple #[.agg #[.int .i64 0, .int .i64 0, .int .i64 0, .slice none 0 0], .int .i64 1]) (by simp [results, Try.results27, go_sem, e0, e1, e2, e3, f0, f1, f2, f3]) rfl ⟨rfl, ?_⟩
  repeat (refine Below.setCell ?_ (by simp <;> omega) _)
  exact hB1

set_option maxHeartbeats 3200000 in
theorem Paste_bad2 (W H M : Int) (A : Option Addr) (n c : Nat) (P : List Int) (W2 H2 M2 : Int) (A2 : Option Addr) (n2 c2 : Nat) (P2 : List Int) (x y : Int) (w : World) (h : Sl w A n c P) (h2 : Sl w A2 n2 c2 P2) (hr : Ras W H M P) (hr2 : ¬ Ras W2 H2 M2 P2) :
    Calls Try.prog 27 #[.agg #[.int .i64 W, .int .i64 H, .int .i64 M, .slice A n c], .agg #[.int .i64 W2, .int .i64 H2, .int .i64 M2, .slice A2 n2 c2], .int .i64 x, .int .i64 y] w (RetE w 1) := by
  obtain ⟨k0, k1, k2, hb0, hz⟩ := pasteW_facts W H M A n c W2 H2 M2 A2 n2 c2 w
  replace hz := Lib.hid hz
  have tok1 : True := trivial
  have tok2 : True := trivial
  have hck := Lib.hid (fun w' (hb : Below w.heap.size w w') => Check_ok (h.below hb (Nat.le_refl _)) hr)
  have hck2 := Lib.hid (fun w' (hb : Below w.heap.size w w') => Check_no (h2.below hb (Nat.le_refl _)) hr2)
  clear h h2 hr hr2
  go_enter Try.func27, Try.ntmps27
  go_wp2_with (first | (go_at_call 13; clear tok1; refine ((hck.out _ hb0)).mono ?_; rintro e w1 ⟨rfl, hb3⟩; rw [hz.out] at hb3; have z1 := hb3.size; rw [hz.out] at z1; replace k0 := k0.below hb3 (by omega); replace k1 := k1.below hb3 (by omega); replace k2 := k2.below hb3 (by omega); have hB1 := hb0.trans (hb3.mono (by omega)); obtain ⟨⟨d0, d1, d2, d3⟩, -⟩ := k0.cells; obtain ⟨⟨d4, d5, d6, d7⟩, -⟩ := k1.cells; obtain ⟨⟨e0, e1, e2, e3⟩, f0, f1, f2, f3⟩ := k2.cells) | (go_at_call 13; refine ((hck2.out _ hB1)).mono ?_; rintro e w2 ⟨rfl, hb4⟩; have z2 := hb4.size; replace k0 := k0.below hb4 (by omega); replace k1 := k1.below hb4 (by omega); replace k2 := k2.below hb4 (by omega); have hB2 := hB1.trans (hb4.mono (by omega)); clear d0 d1 d2 d3 d4 d5 d6 d7 e0 e1 e2 e3 f0 f1 f2 f3; obtain ⟨⟨d0, d1, d2, d3⟩, -⟩ := k0.cells; obtain ⟨⟨d4, d5, d6, d7⟩, -⟩ := k1.cells; obtain ⟨⟨e0, e1, e2, e3⟩, f0, f1, f2, f3⟩ := k2.cells))
  refine bodyPost_ret (v := .tuple #[.agg #[.int .i64 0, .int .i64 0, .int .i64 0, .slice none 0 0], .int .i64 1]) (by simp [results, Try.results27, go_sem, e0, e1, e2, e3, f0, f1, f2, f3]) rfl ⟨rfl, ?_⟩
  repeat (refine Below.setCell ?_ (by simp <;> omega) _)
  exact hB2

set_option maxHeartbeats 3200000 in
theorem Paste_mis (W H M : Int) (A : Option Addr) (n c : Nat) (P : List Int) (W2 H2 M2 : Int) (A2 : Option Addr) (n2 c2 : Nat) (P2 : List Int) (x y : Int) (w : World) (h : Sl w A n c P) (h2 : Sl w A2 n2 c2 P2) (hr : Ras W H M P) (hr2 : Ras W2 H2 M2 P2) (hne : M ≠ M2) :
    Calls Try.prog 27 #[.agg #[.int .i64 W, .int .i64 H, .int .i64 M, .slice A n c], .agg #[.int .i64 W2, .int .i64 H2, .int .i64 M2, .slice A2 n2 c2], .int .i64 x, .int .i64 y] w (RetE w 4) := by
  obtain ⟨k0, k1, k2, hb0, hz⟩ := pasteW_facts W H M A n c W2 H2 M2 A2 n2 c2 w
  replace hz := Lib.hid hz
  have tok1 : True := trivial
  have tok2 : True := trivial
  have hck := Lib.hid (fun w' (hb : Below w.heap.size w w') => Check_ok (h.below hb (Nat.le_refl _)) hr)
  have hck2 := Lib.hid (fun w' (hb : Below w.heap.size w w') => Check_ok (h2.below hb (Nat.le_refl _)) hr2)
  have hnm : (M != M2) = true := by rw [bne_iff_ne]; exact hne
  replace hne := Lib.hid hne
  clear h h2 hr hr2
  go_enter Try.func27, Try.ntmps27
  go_wp2_with (first | (go_at_call 13; clear tok1; refine ((hck.out _ hb0)).mono ?_; rintro e w1 ⟨rfl, hb3⟩; rw [hz.out] at hb3; have z1 := hb3.size; rw [hz.out] at z1; replace k0 := k0.below hb3 (by omega); replace k1 := k1.below hb3 (by omega); replace k2 := k2.below hb3 (by omega); have hB1 := hb0.trans (hb3.mono (by omega)); obtain ⟨⟨d0, d1, d2, d3⟩, -⟩ := k0.cells; obtain ⟨⟨d4, d5, d6, d7⟩, -⟩ := k1.cells; obtain ⟨⟨e0, e1, e2, e3⟩, f0, f1, f2, f3⟩ := k2.cells) | (go_at_call 13; refine ((hck2.out _ hB1)).mono ?_; rintro e w2 ⟨rfl, hb4⟩; have z2 := hb4.size; replace k0 := k0.below hb4 (by omega); replace k1 := k1.below hb4 (by omega); replace k2 := k2.below hb4 (by omega); have hB2 := hB1.trans (hb4.mono (by omega)); clear d0 d1 d2 d3 d4 d5 d6 d7 e0 e1 e2 e3 f0 f1 f2 f3; obtain ⟨⟨d0, d1, d2, d3⟩, -⟩ := k0.cells; obtain ⟨⟨d4, d5, d6, d7⟩, -⟩ := k1.cells; obtain ⟨⟨e0, e1, e2, e3⟩, f0, f1, f2, f3⟩ := k2.cells))
  refine bodyPost_ret (v := .tuple #[.agg #[.int .i64 0, .int .i64 0, .int .i64 0, .slice none 0 0], .int .i64 4]) (by simp [results, Try.results27, go_sem, e0, e1, e2, e3, f0, f1, f2, f3]) rfl ⟨rfl, ?_⟩
  repeat (refine Below.setCell ?_ (by simp <;> omega) _)
  exact hB2

set_option maxHeartbeats 3200000 in
theorem Paste_rng (W H M : Int) (A : Option Addr) (n c : Nat) (P : List Int) (W2 H2 M2 : Int) (A2 : Option Addr) (n2 c2 : Nat) (P2 : List Int) (x y : Int) (w : World) (h : Sl w A n c P) (h2 : Sl w A2 n2 c2 P2) (hr : Ras W H M P) (hr2 : Ras W2 H2 M2 P2) (he : M = M2) (hp : win x (-64) 64 = false ∨ win y (-64) 64 = false) :
    Calls Try.prog 27 #[.agg #[.int .i64 W, .int .i64 H, .int .i64 M, .slice A n c], .agg #[.int .i64 W2, .int .i64 H2, .int .i64 M2, .slice A2 n2 c2], .int .i64 x, .int .i64 y] w (RetE w 2) := by
  obtain ⟨k0, k1, k2, hb0, hz⟩ := pasteW_facts W H M A n c W2 H2 M2 A2 n2 c2 w
  replace hz := Lib.hid hz
  have tok1 : True := trivial
  have tok2 : True := trivial
  subst he
  have hck := Lib.hid (fun w' (hb : Below w.heap.size w w') => Check_ok (h.below hb (Nat.le_refl _)) hr)
  have hck2 := Lib.hid (fun w' (hb : Below w.heap.size w w') => Check_ok (h2.below hb (Nat.le_refl _)) hr2)
  have hnm : (M != M) = false := by simp
  obtain ⟨b1, e1'⟩ : ∃ b, win x (-64) 64 = b := ⟨_, rfl⟩
  obtain ⟨b2, e2'⟩ : ∃ b, win y (-64) 64 = b := ⟨_, rfl⟩
  rw [e1', e2'] at hp
  have w1t := Lib.hid (fun w' : World => within_at e1' w')
  have w2t := Lib.hid (fun w' : World => within_at e2' w')
  clear h h2 hr hr2 e1' e2'
  obtain rfl | ⟨rfl, rfl⟩ : b1 = false ∨ (b1 = true ∧ b2 = false) := by
    cases b1
    · exact .inl rfl
    · exact .inr ⟨rfl, by simpa using hp⟩
  all_goals clear hp
  all_goals
    go_enter Try.func27, Try.ntmps27
    go_wp2_with (first | (go_at_call 13; clear tok1; refine ((hck.out _ hb0)).mono ?_; rintro e w1 ⟨rfl, hb3⟩; rw [hz.out] at hb3; have z1 := hb3.size; rw [hz.out] at z1; replace k0 := k0.below hb3 (by omega); replace k1 := k1.below hb3 (by omega); replace k2 := k2.below hb3 (by omega); have hB1 := hb0.trans (hb3.mono (by omega)); obtain ⟨⟨d0, d1, d2, d3⟩, -⟩ := k0.cells; obtain ⟨⟨d4, d5, d6, d7⟩, -⟩ := k1.cells; obtain ⟨⟨e0, e1, e2, e3⟩, f0, f1, f2, f3⟩ := k2.cells) | (go_at_call 13; refine ((hck2.out _ hB1)).mono ?_; rintro e w2 ⟨rfl, hb4⟩; have z2 := hb4.size; replace k0 := k0.below hb4 (by omega); replace k1 := k1.below hb4 (by omega); replace k2 := k2.below hb4 (by omega); have hB2 := hB1.trans (hb4.mono (by omega)); clear d0 d1 d2 d3 d4 d5 d6 d7 e0 e1 e2 e3 f0 f1 f2 f3; obtain ⟨⟨d0, d1, d2, d3⟩, -⟩ := k0.cells; obtain ⟨⟨d4, d5, d6, d7⟩, -⟩ := k1.cells; obtain ⟨⟨e0, e1, e2, e3⟩, f0, f1, f2, f3⟩ := k2.cells) | (go_at_call 49; clear tok2; refine (w1t.out _).mono ?_; rintro e w' ⟨rfl, rfl⟩) | (go_at_call 49; refine (w2t.out _).mono ?_; rintro e w' ⟨rfl, rfl⟩))
    refine bodyPost_ret (v := .tuple #[.agg #[.int .i64 0, .int .i64 0, .int .i64 0, .slice none 0 0], .int .i64 2]) (by simp [results, Try.results27, go_sem, e0, e1, e2, e3, f0, f1, f2, f3]) rfl ⟨rfl, ?_⟩
    repeat (refine Below.setCell ?_ (by simp <;> omega) _)
    exact hB2

end Go.Proofs.Ytehnemdifkjhcaa
