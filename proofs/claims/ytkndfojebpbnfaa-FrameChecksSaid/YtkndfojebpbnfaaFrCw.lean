/-
  Walk: the law of Check.
-/
import Derived.Test.YtkndfojebpbnfaaFrKn
import Derived.Test.YtkndfojebpbnfaaFrF0
import Derived.Test.YtkndfojebpbnfaaFrLc
import Derived.Deep.Cut
import Derived.Deep.RegionHeld3
set_option linter.unusedSimpArgs false
set_option linter.unusedVariables false
namespace Go.Proofs.Ytkndfojebpbnfaa
open Go.RowKit Go.Shelf

set_option maxRecDepth 100000 in
set_option maxHeartbeats 6400000 in
theorem lawChecks_any (A : Option Addr) (n c : Nat) (E : List Ent) (W H M : Int) (A2 : Option Addr) (n2 c2 : Nat) (P : List Int) (w : World) (h : En0 w A n c E) (h2 : Sl w A2 n2 c2 P) :
    Calls Try.prog 3 #[.agg #[.slice A n c, .int .i64 W, .int .i64 H, .int .i64 M, .slice A2 n2 c2]] w fun e w' => e = .returned (.bool true) ∧ Below w.heap.size w w' := by
  have hb0 := (Below.refl w.heap.size w).alloc (Nat.le_refl _) (.cells #[.slice A n c, .int .i64 W, .int .i64 H, .int .i64 M, .slice A2 n2 c2] 27)
  have hs := Lib.hid (h2.alloc (.cells #[.slice A n c, .int .i64 W, .int .i64 H, .int .i64 M, .slice A2 n2 c2] 27))
  have hn := Lib.hid (h.alloc (.cells #[.slice A n c, .int .i64 W, .int .i64 H, .int .i64 M, .slice A2 n2 c2] 27))
  have hc2 : n2 ≤ 9223372036854775807 := by have := h2.le_cap; have := h2.cap_le; omega
  obtain ⟨r, hr⟩ : ∃ r, RasC W H M P E r := by
    by_cases hq : Ras W H M P
    · exact ⟨_, .inr ⟨hq, rfl⟩⟩
    · exact ⟨1, .inl ⟨hq, rfl⟩⟩
  replace hr := Lib.hid hr
  have hrr : ((r : Int) == (r : Int)) = true := by simp
  obtain ⟨b, hb⟩ : ∃ b, fewB n2 E = b := ⟨_, rfl⟩
  have hf := Lib.hid (fun v (hv : En0 v A n c E) => few0_any A n c E W H M A2 n2 c2 v hv hc2)
  rw [hb] at hf
  replace hb := Lib.hid hb
  clear h h2 hc2
  cases b
  · go_enter Try.func3, Try.ntmps3
    go_wp2_with (first | (go_at_call 12; refine (known_any _).mono ?_; rintro e w1 ⟨rfl, hb1⟩; obtain ⟨x0, x1, x2, x3, x4⟩ := cell5 ((hb1.block w.heap.size (by simp)).trans (heap_alloc_new w _))) | (go_at_call 13; refine (hf.out _ (hn.out.below hb1 (Nat.le_refl _))).mono ?_; rintro e w2 ⟨rfl, hb2⟩; have hb2 := hb1.trans (hb2.mono hb1.size)))
    go_ret
    exact ⟨rfl, hb0.trans (hb2.mono (by simp))⟩
  · have hnf := Lib.hid (hn.out.few hb.out)
    go_enter Try.func3, Try.ntmps3
    go_upto_region 5 with (first | (go_at_call 12; refine (known_any _).mono ?_; rintro e w1 ⟨rfl, hb1⟩; obtain ⟨x0, x1, x2, x3, x4⟩ := cell5 ((hb1.block w.heap.size (by simp)).trans (heap_alloc_new w _))) | (go_at_call 13; refine (hf.out _ (hn.out.below hb1 (Nat.le_refl _))).mono ?_; rintro e w2 ⟨rfl, hb2'⟩; have hb2 := hb1.trans (hb2'.mono hb1.size); clear hb2' x0 x1 x2 x3 x4; obtain ⟨x0, x1, x2, x3, x4⟩ := cell5 ((hb2.block w.heap.size (by simp)).trans (heap_alloc_new w _))))
    have hs2 := Lib.hid (fun w' (hx : Below w2.heap.size w2 w') => (hs.out.below hb2 (Nat.le_refl _)).below hx (Nat.le_refl _))
    have hn2 := Lib.hid (fun w' (hx : Below w2.heap.size w2 w') => (hnf.out.below hb2 (Nat.le_refl _)).below hx (Nat.le_refl _))
    have hsz2 := hb2.size
    simp only [World.size_alloc] at hsz2
    have hfin := Lib.hid (fun w' (hx : Below w2.heap.size w2 w') => (hb0.trans (hb2.mono (by simp))).trans (hx.mono (by omega)))
    have keepS : ∀ w', Below w2.heap.size w2 w' → w'.cell? ⟨w.heap.size, 0, none⟩ = some (.slice A n c) ∧ w'.cell? ⟨w.heap.size, 1, none⟩ = some (.int .i64 W) ∧ w'.cell? ⟨w.heap.size, 2, none⟩ = some (.int .i64 H) ∧ w'.cell? ⟨w.heap.size, 3, none⟩ = some (.int .i64 M) ∧ w'.cell? ⟨w.heap.size, 4, none⟩ = some (.slice A2 n2 c2) := by
      intro w' hb
      have kk : ∀ (ok : Nat), w'.cell? ⟨w.heap.size, ok, none⟩ = w2.cell? ⟨w.heap.size, ok, none⟩ := fun ok => hb.cell (p := ⟨w.heap.size, ok, none⟩) (by show w.heap.size < _; omega)
      exact ⟨(kk _).trans x0, (kk _).trans x1, (kk _).trans x2, (kk _).trans x3, (kk _).trans x4⟩
    replace keepS := Lib.hid keepS
    clear hb2 hb1 hb0 hs hn hf hnf
    have qtok1 : True := trivial
    have qtok2 : True := trivial
    go_region_held3 (fun w' => w'.cell? ⟨w.heap.size, 0, none⟩ = some (.slice A n c) ∧ w'.cell? ⟨w.heap.size, 1, none⟩ = some (.int .i64 W) ∧ w'.cell? ⟨w.heap.size, 2, none⟩ = some (.int .i64 H) ∧ w'.cell? ⟨w.heap.size, 3, none⟩ = some (.int .i64 M) ∧ w'.cell? ⟨w.heap.size, 4, none⟩ = some (.slice A2 n2 c2)) (exact keepS.out _ (by repeat (first | exact qB2 | exact qB1 | exact (Below.refl w2.heap.size w2) | refine Below.drew ?_ | refine Below.drewN ?_ _ | refine Below.alloc ?_ (by first | omega | (simp <;> omega)) _))) (first | (go_at_call 14; clear qtok1; refine (fCheck_any _ _ _ _ _ _ _ _ _ _ _ _ (hn2.out _ (by repeat (first | exact (Below.refl w2.heap.size w2) | refine Below.drew ?_ | refine Below.drewN ?_ _ | refine Below.alloc ?_ (by first | omega | (simp <;> omega)) _))) (hs2.out _ (by repeat (first | exact (Below.refl w2.heap.size w2) | refine Below.drew ?_ | refine Below.drewN ?_ _ | refine Below.alloc ?_ (by first | omega | (simp <;> omega)) _))) hr.out).mono ?_; rintro e qw1 ⟨rfl, qh1⟩; have qB1 : Below w2.heap.size w2 qw1 := Below.trans (by repeat (first | exact (Below.refl w2.heap.size w2) | refine Below.drew ?_ | refine Below.drewN ?_ _ | refine Below.alloc ?_ (by first | omega | (simp <;> omega)) _)) (qh1.mono (by first | omega | (simp <;> omega))); have qs1 := qB1.size) | (go_at_call 15; clear qtok2; refine (lcheck_any _ _ _ _ _ _ _ _ _ _ _ _ (hn2.out _ (by repeat (first | exact qB1 | refine Below.drew ?_ | refine Below.drewN ?_ _ | refine Below.alloc ?_ (by first | omega | (simp <;> omega)) _))) (hs2.out _ (by repeat (first | exact qB1 | refine Below.drew ?_ | refine Below.drewN ?_ _ | refine Below.alloc ?_ (by first | omega | (simp <;> omega)) _))) hr.out).mono ?_; rintro e qw2 ⟨rfl, qh2⟩; have qB2 : Below w2.heap.size w2 qw2 := Below.trans (by repeat (first | exact qB1 | refine Below.drew ?_ | refine Below.drewN ?_ _ | refine Below.alloc ?_ (by first | omega | (simp <;> omega)) _)) (qh2.mono (by first | omega | (simp <;> omega))); have qs2 := qB2.size))
    go_wp2
    go_ret
    exact ⟨ret_bool (by first | rfl | simp), hfin.out _ qB2⟩

end Go.Proofs.Ytkndfojebpbnfaa
