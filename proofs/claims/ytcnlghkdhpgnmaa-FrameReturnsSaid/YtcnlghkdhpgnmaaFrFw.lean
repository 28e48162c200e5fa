/-
  Walks: Residuals of package frame; the law's few.
-/
import Derived.Test.YtcnlghkdhpgnmaaFrRs
import Derived.Test.YtcnlghkdhpgnmaaFrCm
import Derived.Test.YtcnlghkdhpgnmaaFrEa
set_option linter.unusedSimpArgs false
set_option linter.unusedVariables false
namespace Go.Proofs.Ytcnlghkdhpgnmaa
open Go.RowKit Go.Shelf

theorem box4 {w : World} {g : Nat} {x0 x1 x2 x3 : Value} {t : TypeId} (h : w.heap[g]? = some (.cells #[x0, x1, x2, x3] t (0, 0))) :
    w.cell? ⟨g, 0, none⟩ = some x0 ∧ w.cell? ⟨g, 1, none⟩ = some x1 ∧ w.cell? ⟨g, 2, none⟩ = some x2 ∧ w.cell? ⟨g, 3, none⟩ = some x3 := by
  refine ⟨?_, ?_, ?_, ?_⟩
  all_goals rw [cell_of_row w g _ _ _ _ h]; rfl

theorem Residuals_no (W H M : Int) (A : Option Addr) (n c : Nat) (P : List Int) (w : World) (h : Sl w A n c P) (hr : ¬ Ras W H M P) :
    Calls Try.prog 16 #[.agg #[.int .i64 W, .int .i64 H, .int .i64 M, .slice A n c]] w fun e w' => e = .returned (.tuple #[.slice none 0 0, .int .i64 1]) ∧ Below w.heap.size w w' := by
  have hb0 := (Below.refl w.heap.size w).alloc (Nat.le_refl _) (.cells #[.int .i64 W, .int .i64 H, .int .i64 M, .slice A n c] 25)
  have hcon := Lib.hid (Check_no (h.alloc (.cells #[.int .i64 W, .int .i64 H, .int .i64 M, .slice A n c] 25)) hr)
  replace hr := Lib.hid hr
  clear h
  go_enter Try.func16, Try.ntmps16
  go_wp2_with (go_at_call 48; refine hcon.out.mono ?_; rintro e w2 ⟨rfl, hb2⟩)
  refine bodyPost_ret (v := .tuple #[.slice none 0 0, .int .i64 1]) (by simp [results, Try.results16, go_sem]) rfl ?_
  exact ⟨rfl, hb0.trans (hb2.mono (by simp))⟩

theorem Residuals_yes (W : Nat) (H M : Int) (b off n c : Nat) (P : List Int) (w : World) (h : Sl w (some ⟨b, off, none⟩) n c P) (hr : Ras W H M P) :
    Calls Try.prog 16 #[.agg #[.int .i64 (W : Int), .int .i64 H, .int .i64 M, .slice (some ⟨b, off, none⟩) n c]] w fun e w' =>
      ∃ g, e = .returned (.tuple #[.slice (some ⟨g, 0, none⟩) n n, .int .i64 0]) ∧ w.heap.size ≤ g ∧ Bl w' g (residuals W M P) ∧ Below w.heap.size w w' := by
  have hb0 := (Below.refl w.heap.size w).alloc (Nat.le_refl _) (.cells #[.int .i64 (W : Int), .int .i64 H, .int .i64 M, .slice (some ⟨b, off, none⟩) n c] 25)
  have hs := h.alloc (.cells #[.int .i64 (W : Int), .int .i64 H, .int .i64 M, .slice (some ⟨b, off, none⟩) n c] 25)
  have hcon := Lib.hid (Check_ok hs hr)
  have hc2 := Lib.hid (fun W' hW => residualsOf_any W H M b off n c P W' hW hr)
  replace hr := Lib.hid hr
  replace hs := Lib.hid hs
  clear h
  go_enter Try.func16, Try.ntmps16
  go_wp2_with (first | (go_at_call 48; refine hcon.out.mono ?_; rintro e w2 ⟨rfl, hb2⟩; have hsz := hb2.size; simp only [World.size_alloc] at hsz; obtain ⟨x0, x1, x2, x3⟩ := box4 ((hb2.block w.heap.size (by simp)).trans (heap_alloc_new w _))) | (go_at_call 50; refine (hc2.out _ (hs.out.below hb2 (Nat.le_refl _))).mono ?_; rintro e w3 ⟨g, rfl, hg, hB, hb3⟩; replace hB := Lib.hid hB))
  refine bodyPost_ret (v := .tuple #[.slice (some ⟨g, 0, none⟩) n n, .int .i64 0]) (by simp [results, Try.results16, go_sem]) rfl ?_
  exact ⟨g, rfl, by omega, hB.out, hb0.trans ((hb2.trans (hb3.mono (by simp; omega))).mono (by simp))⟩

end Go.Proofs.Ytcnlghkdhpgnmaa
