/-
  Walk over the reference: Sub.
-/
import Derived.Test.YtalbdjnanmcoeaaDoorT
namespace Go.Proofs.YtalbdjnanmcoeaaDoor
open Go.RowKit Num

set_option maxRecDepth 100000 in
set_option maxHeartbeats 4000000 in
/-- Sub of the reference. -/
theorem rSub_any (neg : Bool) (A : Option Addr) (n c : Nat) (x : Int) (neg2 : Bool) (A2 : Option Addr) (n2 c2 : Nat) (y : Int) (k : Nat) (w : World) (hx : VI w neg A n c x k) (hy : VI w neg2 A2 n2 c2 y k) (hk : k ≤ 100000000) :
    Calls Tryd.prog 34 #[.agg #[.bool neg, .slice A n c], .agg #[.bool neg2, .slice A2 n2 c2]] w (RetZ w (x - y) (k + 1)) := by
  have hb1 := ((Below.refl w.heap.size w).alloc (Nat.le_refl _) (.cells #[.bool neg, .slice A n c] 24)).alloc (by simp) (.cells #[.bool neg2, .slice A2 n2 c2] 24)
  have hb0 := hb1.alloc (by simp <;> omega) (.cells #[.bool false, .slice none 0 0] 24)
  clear hb1
  go_enter Tryd.func34, Tryd.ntmps34
  go_wp2
  go_region_with (first | (go_at_call 20; (refine (rNeg_any _ _ _ _ y k _ (hy.below (by first | exact hb0 | exact hb0.drew)) (by omega)).mono ?_; rintro e w1 ⟨neg1, A1, n1, c1, rfl, hi1, hb2⟩; replace hb2 := undrew hb2; have hbw1 := hb0.trans (hb2.mono (by simp <;> omega)); obtain ⟨⟨d1, d2, d3, d4, d5, d6⟩, ⟨e1, e2, e3, e4, e5, e6⟩, hsz⟩ := box3s hb2)) | (go_at_call 33; refine (rAdd_any _ _ _ _ x _ _ _ _ (-y) k _ (hx.below (by first | exact hbw1 | exact hbw1.drew)) (by exact hi1.vi) hk).mono ?_; rintro e w2 ⟨neg3, A3, n3, c3, rfl, hi3, hb3⟩; have hb4 := btr hb2 hb3; clear d1 d2 d3 d4 d5 d6 e1 e2 e3 e4 e5 e6 hsz; obtain ⟨⟨d1, d2, d3, d4, d5, d6⟩, ⟨e1, e2, e3, e4, e5, e6⟩, hsz⟩ := box3s hb4))
  all_goals
    go_wp2
    refine bodyPost_ret (v := .agg #[.bool neg3, .slice A3 n3 c3]) (by simp [results, Tryd.results34, go_sem, d5, d6]) rfl ?_
    rw [← Int.sub_eq_add_neg] at hi3
    exact RetZ.close0 hi3 (hb0.trans (hb4.mono (by simp <;> omega))) (by omega) d5 d6

end Go.Proofs.YtalbdjnanmcoeaaDoor
