/-
  Walks: the law's small; the law of sizes.
-/
import Derived.Test.YtcnlghkdhpgnmaaFrSz
import Derived.Test.YtcnlghkdhpgnmaaFrRw
import Derived.Test.YtcnlghkdhpgnmaaFrF0
import Derived.Test.YtcnlghkdhpgnmaaFrLc
set_option linter.unusedSimpArgs false
set_option linter.unusedVariables false
namespace Go.Proofs.Ytcnlghkdhpgnmaa
open Go.RowKit Go.Shelf

def smallB (n2 : Nat) (E : List Ent) (M : Int) : Bool := fewB n2 E && decide (M ≤ 2048)

set_option maxRecDepth 100000 in
set_option maxHeartbeats 3200000 in
theorem small_any (A : Option Addr) (n c : Nat) (E : List Ent) (W H M : Int) (A2 : Option Addr) (n2 c2 : Nat) (w : World) (h : En0 w A n c E) (hc2 : n2 ≤ 9223372036854775807) :
    Calls Try.prog 30 #[.agg #[.slice A n c, .int .i64 W, .int .i64 H, .int .i64 M, .slice A2 n2 c2]] w fun e w' => e = .returned (.bool (smallB n2 E M)) ∧ Below w.heap.size w w' := by
  have hb0 := (Below.refl w.heap.size w).alloc (Nat.le_refl _) (.cells #[.slice A n c, .int .i64 W, .int .i64 H, .int .i64 M, .slice A2 n2 c2] 27)
  obtain ⟨b, hb⟩ : ∃ b, fewB n2 E = b := ⟨_, rfl⟩
  have hf := few0_any A n c E W H M A2 n2 c2 _ (h.alloc (.cells #[.slice A n c, .int .i64 W, .int .i64 H, .int .i64 M, .slice A2 n2 c2] 27)) hc2
  rw [hb] at hf
  have hv : Hid (smallB n2 E M = (b && decide (M ≤ 2048))) := Lib.hid (by unfold smallB; rw [hb])
  replace hb := Lib.hid hb
  replace hf := Lib.hid hf
  clear h
  cases b
  · go_enter Try.func30, Try.ntmps30
    go_wp2_with (go_at_call 13; refine hf.out.mono ?_; rintro e w1 ⟨rfl, hb1⟩; obtain ⟨x0, x1, x2, x3, x4⟩ := cell5 ((hb1.block w.heap.size (by simp)).trans (heap_alloc_new w _)))
    go_ret
    exact ⟨ret_bool (by rw [hv.out]; rfl), hb0.trans (hb1.mono (by simp))⟩
  · by_cases hM : M ≤ 2048
    · go_enter Try.func30, Try.ntmps30
      go_wp2_with (go_at_call 13; refine hf.out.mono ?_; rintro e w1 ⟨rfl, hb1⟩; obtain ⟨x0, x1, x2, x3, x4⟩ := cell5 ((hb1.block w.heap.size (by simp)).trans (heap_alloc_new w _)))
      go_ret
      exact ⟨ret_bool (by rw [hv.out]; simp [hM]), hb0.trans (hb1.mono (by simp))⟩
    · go_enter Try.func30, Try.ntmps30
      go_wp2_with (go_at_call 13; refine hf.out.mono ?_; rintro e w1 ⟨rfl, hb1⟩; obtain ⟨x0, x1, x2, x3, x4⟩ := cell5 ((hb1.block w.heap.size (by simp)).trans (heap_alloc_new w _)))
      go_ret
      exact ⟨ret_bool (by rw [hv.out]; simp [hM]), hb0.trans (hb1.mono (by simp))⟩

end Go.Proofs.Ytcnlghkdhpgnmaa
