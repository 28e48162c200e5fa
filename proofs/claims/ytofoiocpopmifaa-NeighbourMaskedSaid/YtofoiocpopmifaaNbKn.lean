/-
  Walk: known of the law.
-/
import Derived.Test.YtofoiocpopmifaaNbKq
set_option linter.unusedSimpArgs false
set_option linter.unusedVariables false
namespace Go.Proofs.Ytofoiocpopmifaa
open Go.RowKit

theorem lit3 (W : World) : WS (W.alloc (.cells #[.int .u64 0, .int .u64 3, .int .u64 7] 23)) (some ⟨W.heap.size, 0, none⟩) 3 3 kl := WS.lit W kl 23 (by decide) kl_words
theorem litA (W : World) : WS (W.alloc (.cells #[.int .u64 0, .int .u64 15] 23)) (some ⟨W.heap.size, 0, none⟩) 2 2 [0, 15] := WS.lit W [0, 15] 23 (by decide) ka_words
theorem litB (W : World) : WS (W.alloc (.cells #[.int .u64 1, .int .u64 7] 23)) (some ⟨W.heap.size, 0, none⟩) 2 2 [1, 7] := WS.lit W [1, 7] 23 (by decide) kb_words
theorem litM (W : World) : MS (W.alloc (.cells #[.int .i64 0, .int .i64 0, .int .i64 1, .int .i64 1, .int .i64 1, .int .i64 1] 53)) (some ⟨W.heap.size, 0, none⟩) 2 2 [(0, 0, 1), (1, 1, 1)] := MS.lit W [(0, 0, 1), (1, 1, 1)] (by decide)

set_option maxRecDepth 100000 in
set_option maxHeartbeats 400000 in
theorem known_any (w : World) :
    Calls Try.prog 11 #[] w fun e w' => e = .returned (.bool true) ∧ Below w.heap.size w w' := by
  have tok1 : True := trivial
  have hk0 := Lib.hid (lit3 w)
  have hb0 := (Below.refl w.heap.size w).alloc (Nat.le_refl _) (.cells #[.int .u64 0, .int .u64 3, .int .u64 7] 23)
  have hA := (litA (w.alloc (.cells #[.int .u64 0, .int .u64 3, .int .u64 7] 23))).alloc (.cells #[.int .u64 1, .int .u64 7] 23)
  have hB := litB ((w.alloc (.cells #[.int .u64 0, .int .u64 3, .int .u64 7] 23)).alloc (.cells #[.int .u64 0, .int .u64 15] 23))
  simp only [World.size_alloc] at hA hB
  have hM := Lib.hid (kM _ _ _ _ _ hA hB)
  have hk1 := Lib.hid ((hk0.out.alloc (.cells #[.int .u64 0, .int .u64 15] 23)).alloc (.cells #[.int .u64 1, .int .u64 7] 23))
  have hb1 := (hb0.alloc (by simp) (.cells #[.int .u64 0, .int .u64 15] 23)).alloc (by simp; omega) (.cells #[.int .u64 1, .int .u64 7] 23)
  replace hb1 := Lib.hid hb1
  have hz1 : (((w.alloc (.cells #[.int .u64 0, .int .u64 3, .int .u64 7] 23)).alloc (.cells #[.int .u64 0, .int .u64 15] 23)).alloc (.cells #[.int .u64 1, .int .u64 7] 23)).heap.size = w.heap.size + 1 + 1 + 1 := by simp
  replace hz1 := Lib.hid hz1
  clear hA hB hb0
  go_enter Try.func11, Try.ntmps11
  go_wp2_with (first
    | (go_at_call 13; clear tok1; refine (kN5 _ _ _ hk0.out).mono ?_; rintro e w1 ⟨rfl, rfl⟩)
    | (go_at_call 13; refine (kN1 _ _ _ hk0.out).mono ?_; rintro e w1 ⟨rfl, rfl⟩)
    | (go_at_call 24; refine hM.out.mono ?_; rintro e w2 ⟨⟨A2, c2, rfl, hm2⟩, hb2⟩; have hk2 := Lib.hid (hk1.out.below hb2 (Nat.le_refl _)); replace hm2 := Lib.hid hm2; have hb2' := Lib.hid (hb1.out.trans (hb2.mono (by rw [hz1.out]; omega))); clear hb2)
    | (go_at_call 20; refine (kB _ _ _ hk2.out).mono ?_; rintro e w3 ⟨⟨A3, c3, rfl⟩, hb3⟩; replace hm2 := Lib.hid (hm2.out.below hb3 (Nat.le_refl _)); have hb3' := hb2'.out.trans (hb3.mono hb2'.out.size); clear hb3)
    | (go_at_call 25; refine (kEq (hm2.out.alloc _) (litM _)).mono ?_; rintro e w4 ⟨rfl, hb4⟩; have hb4' := (hb3'.alloc hb3'.size _).trans (hb4.mono (by have := hb3'.size; simp; omega)); clear hb4)
    | (go_at_call 16; refine (kD _).mono ?_; rintro e w5 ⟨rfl, rfl⟩))
  go_ret
  exact ⟨rfl, hb4'⟩

end Go.Proofs.Ytofoiocpopmifaa
