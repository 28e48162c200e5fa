/-
  Walk: the law of the residuals.
-/
import Derived.Test.YtcnlghkdhpgnmaaFrKn
import Derived.Test.YtcnlghkdhpgnmaaFrFw
import Derived.Test.YtcnlghkdhpgnmaaFrLr
import Derived.Test.YtcnlghkdhpgnmaaFrMa
set_option linter.unusedSimpArgs false
set_option linter.unusedVariables false
namespace Go.Proofs.Ytcnlghkdhpgnmaa
open Go.RowKit Go.Shelf

theorem eql_self (l : List Int) : eql l l = true := by simp [eql]
theorem eqr_self (W H M : Int) (P : List Int) : eqr W H M P W H M P = true := by simp [eqr]

/-- The residuals of a raster can be restored. -/
theorem restC_residuals {a b : Nat} {M : Int} {P : List Int} (hr : Ras a b M P) : restC a b M (residuals a M P) = 0 := by
  obtain ⟨hf, har, hP⟩ := hr
  unfold restC
  rw [if_neg (by rw [hfm_iff.2 hf]; simp), if_neg (by rw [residuals_length]; exact fun h => h har)]
  have : ((residuals a M P).any fun x => !win x 0 M) = false := outside_iff.2 (fun v hv => by
    obtain ⟨i, hi, rfl⟩ := List.getElem_of_mem hv
    rw [residuals_length] at hi
    rw [← nth_eq, nth_residuals hi]
    unfold residI
    have := resid_range (r := (nth P i - predI a P i + (M + 1)) % (M + 1)) (m := M + 1) (Int.emod_nonneg _ (by omega)) (Int.emod_lt_of_pos _ (by omega))
    omega)
  rw [if_neg (by rw [this]; simp)]

set_option maxRecDepth 100000 in
set_option maxHeartbeats 6400000 in
theorem lawResid_any (W H M : Int) (A : Option Addr) (n c : Nat) (P : List Int) (w : World) (h : Sl w A n c P) :
    Calls Try.prog 4 #[.agg #[.int .i64 W, .int .i64 H, .int .i64 M, .slice A n c]] w fun e w' => e = .returned (.bool true) ∧ Below w.heap.size w w' := by
  have hb0 := (Below.refl w.heap.size w).alloc (Nat.le_refl _) (.cells #[.int .i64 W, .int .i64 H, .int .i64 M, .slice A n c] 25)
  have hs := Lib.hid (h.alloc (.cells #[.int .i64 W, .int .i64 H, .int .i64 M, .slice A n c] 25))
  have hcap := h.le_cap
  have hcl := h.cap_le
  by_cases hn : 200 < n
  · clear h
    go_enter Try.func4, Try.ntmps4
    go_wp2_with (go_at_call 12; refine (known_any _).mono ?_; rintro e w1 ⟨rfl, hb1⟩; obtain ⟨x0, x1, x2, x3⟩ := box4 ((hb1.block w.heap.size (by simp)).trans (heap_alloc_new w _)))
    go_ret
    exact ⟨rfl, hb0.trans (hb1.mono (by simp))⟩
  by_cases hr : Ras W H M P
  · obtain ⟨a, rfl⟩ : ∃ a : Nat, W = (a : Int) := ⟨W.toNat, by have := hr.1; omega⟩
    obtain ⟨b, rfl⟩ : ∃ b : Nat, H = (b : Int) := ⟨H.toNat, by have := hr.1; omega⟩
    have hlen := h.len
    have hn0 : 0 < n := by rw [hlen]; exact hr.pos.1
    obtain ⟨gA, offA, rfl, hgA, -⟩ := h.at_ hn0
    have hM : 1 ≤ M := hr.1.2.2.1
    have ha : 1 ≤ a := by have := hr.1.1.1; omega
    have hR2 := rest_residuals (W := a) (M := M) (P := P) ha (by omega) hr.2.2
    have hcR := fun (W' : World) (g : Nat) (hW : Sl W' (some ⟨g, 0, none⟩) n n (residuals a M P)) => Restore_yes a b M (some ⟨g, 0, none⟩) n n (residuals a M P) W' hW (restC_residuals hr)
    have hcA := Lib.hid (fun (W' : World) hW => Residuals_yes a b M gA offA n c P W' hW hr)
    have hcC := Lib.hid (fun (W' : World) hW => rCheck_ok (A := some ⟨gA, offA, none⟩) (n := n) (c := c) (w := W') hW hr)
    have hcL := fun (W' : World) hW => lresiduals_any a b M (some ⟨gA, offA, none⟩) n c P W' hW hr
    have hRl := Lib.hid (residuals_length a M P)
    rw [hR2] at hcR
    obtain ⟨R, hR⟩ : ∃ R, residuals a M P = R := ⟨_, rfl⟩
    rw [hR] at hcR hcA hcL hRl
    have hcE := fun (W' : World) (g g2 c2 : Nat) hW hW2 => sEqual_any (some ⟨g, 0, none⟩) n n R (some ⟨g2, 0, none⟩) n c2 R W' hW hW2
    have hcS := fun (W' : World) (g : Nat) hW hW2 => sameRas_any (a : Int) (b : Int) M (some ⟨gA, offA, none⟩) n c P (a : Int) (b : Int) M (some ⟨g, 0, none⟩) n n P W' hW hW2
    rw [eql_self] at hcE
    rw [eqr_self] at hcS
    have hRn : Hid (n = R.length) := Lib.hid (by rw [hRl.out, hlen])
    have hPn : Hid (n = P.length) := Lib.hid hlen
    replace hcE := Lib.hid hcE
    replace hcS := Lib.hid hcS
    replace hcR := Lib.hid hcR
    replace hcL := Lib.hid hcL
    replace hr := Lib.hid hr
    replace hR := Lib.hid hR
    replace hR2 := Lib.hid hR2
    clear h hlen
    go_enter Try.func4, Try.ntmps4
    go_wp2_with (first
      | (go_at_call 12; refine (known_any _).mono ?_; rintro e w1 ⟨rfl, hb1⟩; obtain ⟨x0, x1, x2, x3⟩ := box4 ((hb1.block w.heap.size (by simp)).trans (heap_alloc_new w _)))
      | (go_at_call 16; refine (hcA.out _ (hs.out.below hb1 (Nat.le_refl _))).mono ?_; rintro e w2 ⟨g2, rfl, hg2, hbl2, hb2'⟩; have hb2 := hb1.trans (hb2'.mono hb1.size); have hsl2 := Lib.hid (hbl2.sl0 hRn.out (Nat.le_refl _) (by omega)); replace hbl2 := Lib.hid hbl2; clear hb2' x0 x1 x2 x3; obtain ⟨x0, x1, x2, x3⟩ := box4 ((hb2.block w.heap.size (by simp)).trans (heap_alloc_new w _)))
      | (go_at_call 17; refine (hcC.out _ (hs.out.below hb2 (Nat.le_refl _))).mono ?_; rintro e w3 ⟨rfl, hb3'⟩; have hsl3 := Lib.hid (hsl2.out.below hb3' (Nat.le_refl _)); have hb3 := hb2.trans (hb3'.mono hb2.size); clear hb3' x0 x1 x2 x3; obtain ⟨x0, x1, x2, x3⟩ := box4 ((hb3.block w.heap.size (by simp)).trans (heap_alloc_new w _)))
      | (go_at_call 18; refine (hcR.out _ _ hsl3.out).mono ?_; rintro e w4 ⟨g4, rfl, hg4, hbl4, hb4'⟩; have hsl4 := Lib.hid ((hsl3.out.below hb4' (Nat.le_refl _)).alloc (.cells #[.int .i64 (a : Int), .int .i64 (b : Int), .int .i64 M, .slice (some ⟨g4, 0, none⟩) n n] 25)); have hpl4 := Lib.hid ((hbl4.sl0 hPn.out (Nat.le_refl _) (by omega)).alloc (.cells #[.int .i64 (a : Int), .int .i64 (b : Int), .int .i64 M, .slice (some ⟨g4, 0, none⟩) n n] 25)); replace hbl4 := Lib.hid hbl4; have hb4 := (hb3.trans (hb4'.mono hb3.size)).alloc (by have := hb3.size; have := hb4'.size; omega) (.cells #[.int .i64 (a : Int), .int .i64 (b : Int), .int .i64 M, .slice (some ⟨g4, 0, none⟩) n n] 25); clear hb4' x0 x1 x2 x3; obtain ⟨x0, x1, x2, x3⟩ := box4 ((hb4.block w.heap.size (by simp)).trans (heap_alloc_new w _)); obtain ⟨y0, y1, y2, y3⟩ := box4 (heap_alloc_new w4 (.cells #[.int .i64 (a : Int), .int .i64 (b : Int), .int .i64 M, .slice (some ⟨g4, 0, none⟩) n n] 25)))
      | (go_at_call 20; refine (hcL.out _ (hs.out.below hb4 (Nat.le_refl _))).mono ?_; rintro e w5 ⟨g5, c5, rfl, hsl5, hg5, hb5'⟩; replace hsl5 := Lib.hid hsl5; have hsl45 := Lib.hid (hsl4.out.below hb5' (Nat.le_refl _)); have hpl5 := Lib.hid (hpl4.out.below hb5' (Nat.le_refl _)); have hq5 := (hb5'.block w4.heap.size (by simp)).trans (heap_alloc_new w4 _); have hb5 := hb4.trans (hb5'.mono hb4.size); clear hb5' x0 x1 x2 x3 y0 y1 y2 y3; obtain ⟨x0, x1, x2, x3⟩ := box4 ((hb5.block w.heap.size (by simp)).trans (heap_alloc_new w _)); obtain ⟨y0, y1, y2, y3⟩ := box4 hq5)
      | (go_at_call 19; refine (hcE.out _ _ _ _ hsl45.out hsl5.out).mono ?_; rintro e w6 ⟨rfl, hb6'⟩; have hpl6 := Lib.hid (hpl5.out.below hb6' (Nat.le_refl _)); have hq6 := (hb6'.block w4.heap.size (by exact (Array.getElem?_eq_some_iff.1 hq5).1)).trans hq5; have hb6 := hb5.trans (hb6'.mono hb5.size); clear hb6' x0 x1 x2 x3 y0 y1 y2 y3; obtain ⟨x0, x1, x2, x3⟩ := box4 ((hb6.block w.heap.size (by simp)).trans (heap_alloc_new w _)); obtain ⟨y0, y1, y2, y3⟩ := box4 hq6)
      | (go_at_call 21; refine (hcS.out _ _ (hs.out.below hb6 (Nat.le_refl _)) hpl6.out).mono ?_; rintro e w7 ⟨rfl, hb7'⟩; have hb7 := hb6.trans (hb7'.mono hb6.size)))
    go_ret
    exact ⟨rfl, hb0.trans (hb7.mono (by simp))⟩
  · have hcA := Lib.hid (fun (W' : World) hW => Residuals_no W H M A n c P W' hW hr)
    have hcC := Lib.hid (fun (W' : World) hW => rCheck_no (A := A) (n := n) (c := c) (w := W') hW hr)
    replace hr := Lib.hid hr
    clear h
    go_enter Try.func4, Try.ntmps4
    go_wp2_with (first
      | (go_at_call 12; refine (known_any _).mono ?_; rintro e w1 ⟨rfl, hb1⟩; obtain ⟨x0, x1, x2, x3⟩ := box4 ((hb1.block w.heap.size (by simp)).trans (heap_alloc_new w _)))
      | (go_at_call 16; refine (hcA.out _ (hs.out.below hb1 (Nat.le_refl _))).mono ?_; rintro e w2 ⟨rfl, hb2'⟩; have hb2 := hb1.trans (hb2'.mono hb1.size); clear hb2' x0 x1 x2 x3; obtain ⟨x0, x1, x2, x3⟩ := box4 ((hb2.block w.heap.size (by simp)).trans (heap_alloc_new w _)))
      | (go_at_call 17; refine (hcC.out _ (hs.out.below hb2 (Nat.le_refl _))).mono ?_; rintro e w3 ⟨rfl, hb3'⟩; have hb3 := hb2.trans (hb3'.mono hb2.size)))
    go_ret
    exact ⟨rfl, hb0.trans (hb3.mono (by simp))⟩

end Go.Proofs.Ytcnlghkdhpgnmaa
