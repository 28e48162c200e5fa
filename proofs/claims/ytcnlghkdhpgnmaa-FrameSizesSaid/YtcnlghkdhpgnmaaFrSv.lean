/-
  Walk: the law of sizes, for every frame.
-/
import Derived.Test.YtcnlghkdhpgnmaaFrSw
set_option linter.unusedSimpArgs false
set_option linter.unusedVariables false
namespace Go.Proofs.Ytcnlghkdhpgnmaa
open Go.RowKit Go.Shelf

set_option maxRecDepth 100000 in
set_option maxHeartbeats 6400000 in
theorem lawSizes_any (A : Option Addr) (n c : Nat) (E : List Ent) (W H M : Int) (A2 : Option Addr) (n2 c2 : Nat) (P : List Int) (d : Int) (w : World) (h : En0 w A n c E) (h2 : Sl w A2 n2 c2 P) (hd : 0 ≤ d ∧ d ≤ 65535) :
    Calls Try.prog 11 #[.agg #[.slice A n c, .int .i64 W, .int .i64 H, .int .i64 M, .slice A2 n2 c2], .int .u16 d] w fun e w' => e = .returned (.bool true) ∧ Below w.heap.size w w' := by
  have hb0 := (Below.refl w.heap.size w).alloc (Nat.le_refl _) (.cells #[.slice A n c, .int .i64 W, .int .i64 H, .int .i64 M, .slice A2 n2 c2] 27)
  have hs := Lib.hid (h2.alloc (.cells #[.slice A n c, .int .i64 W, .int .i64 H, .int .i64 M, .slice A2 n2 c2] 27))
  have hn := Lib.hid (h.alloc (.cells #[.slice A n c, .int .i64 W, .int .i64 H, .int .i64 M, .slice A2 n2 c2] 27))
  obtain ⟨b, hb⟩ : ∃ b, smallB n2 E M = b := ⟨_, rfl⟩
  have hf := fun v (hv : En0 v A n c E) => small_any A n c E W H M A2 n2 c2 v hv (by have := h2.le_cap; have := h2.cap_le; omega)
  rw [hb] at hf
  cases b
  · replace hf := Lib.hid hf
    replace hb := Lib.hid hb
    clear h h2
    go_enter Try.func11, Try.ntmps11
    go_wp2_with (first | (go_at_call 12; refine (known_any _).mono ?_; rintro e w1 ⟨rfl, hb1⟩; obtain ⟨x0, x1, x2, x3, x4⟩ := cell5 ((hb1.block w.heap.size (by simp)).trans (heap_alloc_new w _))) | (go_at_call 30; refine (hf.out _ (hn.out.below hb1 (Nat.le_refl _))).mono ?_; rintro e w2 ⟨rfl, hb2'⟩; have hb2 := hb1.trans (hb2'.mono hb1.size)))
    go_ret
    exact ⟨rfl, hb0.trans (hb2.mono (by simp))⟩
  · by_cases hg : Ras W H M P ∧ metaC E = 0
    · obtain ⟨x, rfl⟩ : ∃ x : Nat, W = (x : Int) := ⟨W.toNat, by have := hg.1.1; omega⟩
      obtain ⟨y, rfl⟩ : ∃ y : Nat, H = (y : Int) := ⟨H.toNat, by have := hg.1.1; omega⟩
      obtain ⟨gA, offA, rfl, -, -⟩ := h2.at_ (by rw [h2.len]; exact hg.1.pos.1)
      exact lawSizes_ok A n c E x y M gA offA n2 c2 P d w h h2 hd hb hg
    · have hnf := Lib.hid (hn.out.few (n2 := n2) (by unfold smallB at hb; rw [Bool.and_eq_true] at hb; exact hb.1))
      obtain ⟨r, hr, hr0⟩ : ∃ r, RasC W H M P E r ∧ r ≠ 0 := by
        by_cases hq : Ras W H M P
        · exact ⟨_, .inr ⟨hq, rfl⟩, fun e => hg ⟨hq, e⟩⟩
        · exact ⟨1, .inl ⟨hq, rfl⟩, by decide⟩
      have hrr : (r == 0) = false := by rw [beq_eq_false_iff_ne]; exact hr0
      have hrn : (r != 0) = true := by rw [bne_iff_ne]; exact hr0
      replace hf := Lib.hid hf
      replace hb := Lib.hid hb
      replace hg := Lib.hid hg
      replace hr := Lib.hid hr
      replace hr0 := Lib.hid hr0
      clear h h2
      go_enter Try.func11, Try.ntmps11
      go_wp2_with (first | (go_at_call 12; refine (known_any _).mono ?_; rintro e w1 ⟨rfl, hb1⟩; obtain ⟨x0, x1, x2, x3, x4⟩ := cell5 ((hb1.block w.heap.size (by simp)).trans (heap_alloc_new w _))) | (go_at_call 30; refine (hf.out _ (hn.out.below hb1 (Nat.le_refl _))).mono ?_; rintro e w2 ⟨rfl, hb2'⟩; have hb2 := hb1.trans (hb2'.mono hb1.size); clear hb2' x0 x1 x2 x3 x4; obtain ⟨x0, x1, x2, x3, x4⟩ := cell5 ((hb2.block w.heap.size (by simp)).trans (heap_alloc_new w _))) | (go_at_call 15; refine (lcheck_any _ _ _ _ _ _ _ _ _ _ _ _ (hnf.out.below hb2 (Nat.le_refl _)) (hs.out.below hb2 (Nat.le_refl _)) hr.out).mono ?_; rintro e w3 ⟨rfl, hb3'⟩; have hb3 := hb2.trans (hb3'.mono hb2.size)))
      go_ret
      exact ⟨rfl, hb0.trans (hb3.mono (by simp))⟩

end Go.Proofs.Ytcnlghkdhpgnmaa
