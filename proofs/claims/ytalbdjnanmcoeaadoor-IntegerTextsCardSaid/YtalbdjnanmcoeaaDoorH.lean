/-
  Walk: Sub of package integer.
-/
import Derived.Test.YtalbdjnanmcoeaaDoorF
namespace Go.Proofs.YtalbdjnanmcoeaaDoor
open Go.RowKit Num

theorem sgnd_not (b : Bool) (m : Nat) : sgnd (!b) m = -sgnd b m := by unfold sgnd; cases b <;> simp

set_option maxRecDepth 100000 in
set_option maxHeartbeats 4000000 in
/-- Sub. -/
theorem Sub_any (neg : Bool) (A : Option Addr) (n c : Nat) (x : Int) (neg2 : Bool) (A2 : Option Addr) (n2 c2 : Nat) (y : Int) (k : Nat) (w : World) (hx : VI w neg A n c x k) (hy : VI w neg2 A2 n2 c2 y k) (hk : k ≤ 100000000) :
    Calls Tryd.prog 31 #[.agg #[.bool neg, .slice A n c], .agg #[.bool neg2, .slice A2 n2 c2]] w (RetZ w (x - y) (k + 1)) := by
  have hb1 := ((Below.refl w.heap.size w).alloc (Nat.le_refl _) (.cells #[.bool neg, .slice A n c] 24)).alloc (by simp) (.cells #[.bool neg2, .slice A2 n2 c2] 24)
  have hb0 := hb1.alloc (by simp <;> omega) (.cells #[.bool false, .slice none 0 0] 24)
  clear hb1
  have tok1 : True := trivial
  go_enter Tryd.func31, Tryd.ntmps31
  go_wp2
  go_region_with (first | (go_at_call 50; have _t := tok1; clear tok1 _t; (refine (counted_old _ _ _ _ _ _ w _ hx (by first | exact hb0 | exact hb0.drew) (by omega)).mono ?_; rintro e w1 ⟨neg1, A1, n1, c1, rfl, hi1, hb2⟩; replace hb2 := undrew hb2; have hbw1 := hb0.trans (hb2.mono (by simp <;> omega)); obtain ⟨⟨d1, d2, d3, d4, d5, d6⟩, ⟨e1, e2, e3, e4, e5, e6⟩, hsz⟩ := box3s hb2)) | (go_at_call 50; refine (counted_old _ _ _ _ _ _ w _ hy (by first | exact hbw1 | exact hbw1.drew) (by omega)).mono ?_; rintro e w2 ⟨neg3, A3, n3, c3, rfl, hi2, hb3⟩; have hb4 := btr hb2 hb3; have hbw2 := hb0.trans (hb4.mono (by simp <;> omega)); clear d1 d2 d3 d4 d5 d6 e1 e2 e3 e4 e5 e6 hsz; obtain ⟨⟨d1, d2, d3, d4, d5, d6⟩, ⟨e1, e2, e3, e4, e5, e6⟩, hsz⟩ := box3s hb4))
  all_goals
    have hlt1 : w.heap.size < w2.heap.size := by omega
    have hlt2 : w.heap.size + 1 < w2.heap.size := by omega
    have hlt3 : w.heap.size + 1 + 1 < w2.heap.size := by omega
    go_wp2_with (go_at_call 55; refine (added_any _ _ _ _ x _ _ _ _ y.natAbs k _ (by refine hi1.below ?_; repeat (first | exact hbw2 | refine Below.setCell ?_ (by simp) _)) (by refine hi2.mm.below ?_; repeat (first | exact hbw2 | refine Below.setCell ?_ (by simp) _)) hk).mono ?_; rintro e w3 ⟨neg5, A5, n5, c5, rfl, hi5, hb5⟩; obtain ⟨hcc5, hff5, hsz5⟩ := old3 hb5; simp only [World.size_setCell] at hsz5)
    have d7 : w3.cell? ⟨w.heap.size + 1 + 1, 0, none⟩ = some (.bool false) := by rw [hcc5 _ _ (by simp <;> omega)]; simp [go_sem, d5]
    have d8 : w3.cell? ⟨w.heap.size + 1 + 1, 1, none⟩ = some (.slice none 0 0) := by rw [hcc5 _ _ (by simp <;> omega)]; simp [go_sem, d6]
    refine bodyPost_ret (v := .agg #[.bool neg5, .slice A5 n5 c5]) (by simp [results, Tryd.results31, go_sem, d7, d8]) rfl ?_
    rw [sgnd_not, hi2.sgnd, ← Int.sub_eq_add_neg] at hi5
    exact RetZ.close0 hi5 (by refine Below.trans ?_ (hb5.mono (by simp <;> omega)); repeat (first | exact hbw2 | refine Below.setCell ?_ (by simp <;> omega) _)) (by omega) d7 d8

end Go.Proofs.YtalbdjnanmcoeaaDoor
