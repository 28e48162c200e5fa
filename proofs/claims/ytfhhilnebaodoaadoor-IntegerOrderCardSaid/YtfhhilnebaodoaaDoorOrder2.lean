/-
  Walk: the law of the order, for whatever integers.
-/
import Derived.Test.YtfhhilnebaodoaaDoorOrder
namespace Go.Proofs.YtfhhilnebaodoaaDoor
open Go.RowKit Num

set_option maxRecDepth 100000 in
set_option maxHeartbeats 4000000 in
/-- The law of the order, where one has more than 12 groups. -/
theorem order_long (na : Bool) (A : Option Addr) (n p : Nat) (nb : Bool) (B : Option Addr) (m q : Nat) (nc : Bool) (C : Option Addr) (k r : Nat) (w : World)
    (hn1 : n ≤ 9223372036854775807) (hn2 : m ≤ 9223372036854775807) (hn3 : k ≤ 9223372036854775807) (hlong : ¬ (n ≤ 12 ∧ m ≤ 12 ∧ k ≤ 12)) (hp : Pows w) :
    Calls Tryd.prog 8 #[.agg #[.bool na, .slice A n p], .agg #[.bool nb, .slice B m q], .agg #[.bool nc, .slice C k r]] w fun e w' => e = .returned (.bool true) ∧ Below w.heap.size w w' := by
  replace hlong := Lib.hid hlong
  have hb1 := ((Below.refl w.heap.size w).alloc (Nat.le_refl _) (.cells #[.bool na, .slice A n p] 24)).alloc (by simp) (.cells #[.bool nb, .slice B m q] 24)
  have hb0 := hb1.alloc (by simp <;> omega) (.cells #[.bool nc, .slice C k r] 24)
  clear hb1
  go_enter Tryd.func8, Tryd.ntmps8
  go_wp2_with (first | (go_at_call 11; refine (known_any _ (pows_below hp hb0)).mono ?_; rintro e w1 ⟨rfl, hb2⟩; have hbw1 := hb0.trans (hb2.mono (by simp <;> omega)); obtain ⟨⟨d1, d2, d3, d4, d5, d6⟩, ⟨e1, e2, e3, e4, e5, e6⟩, hsz⟩ := box3s hb2) | (go_at_call 12; refine (short_any w1.heap.size 3 3 (tri na nb nc) (tri A B C) (tri n m k) (tri p q r) _ (by omega) (by omega) (by omega) (by simp) (fun i hi => (by rcases (by omega : i = 0 ∨ i = 1 ∨ i = 2) with rfl | rfl | rfl <;> simp [tri] <;> omega)) (tri_cells _ _ na nb nc A B C n m k p q r (heap_alloc_new _ _)).1 (tri_cells _ _ na nb nc A B C n m k p q r (heap_alloc_new _ _)).2).mono ?_; rintro e w2 ⟨⟨b, rfl, hbt⟩, hb3⟩; have hbfa : b = false := (by cases b; rfl; exact (hlong.out ⟨hbt.1 rfl 0 (by omega), hbt.1 rfl 1 (by omega), hbt.1 rfl 2 (by omega)⟩).elim); subst hbfa))
  go_ret
  exact ⟨rfl, hbw1.trans ((((Below.refl _ w1).alloc (Nat.le_refl _) _).trans (hb3.mono (by simp))).mono hbw1.size)⟩

/-- The law of the order. -/
theorem order_any (na : Bool) (A : Option Addr) (n p : Nat) (la : List Nat) (nb : Bool) (B : Option Addr) (m q : Nat) (lb : List Nat) (nc : Bool) (C : Option Addr) (k r : Nat) (lc : List Nat) (w : World)
    (hx : Sl w A n p la) (hy : Sl w B m q lb) (hz : Sl w C k r lc) (hp : Pows w) :
    Calls Tryd.prog 8 #[.agg #[.bool na, .slice A n p], .agg #[.bool nb, .slice B m q], .agg #[.bool nc, .slice C k r]] w fun e w' => e = .returned (.bool true) ∧ Below w.heap.size w w' := by
  by_cases h : n ≤ 12 ∧ m ≤ 12 ∧ k ≤ 12
  · exact order_short na A n p (cnt na la) nb B m q (cnt nb lb) nc C k r (cnt nc lc) w ⟨la, hx, rfl, h.1⟩ ⟨lb, hy, rfl, h.2.1⟩ ⟨lc, hz, rfl, h.2.2⟩ hp
  · exact order_long na A n p nb B m q nc C k r w (Nat.le_trans hx.le_cap hx.cap_le) (Nat.le_trans hy.le_cap hy.cap_le) (Nat.le_trans hz.le_cap hz.cap_le) h hp

end Go.Proofs.YtfhhilnebaodoaaDoor
