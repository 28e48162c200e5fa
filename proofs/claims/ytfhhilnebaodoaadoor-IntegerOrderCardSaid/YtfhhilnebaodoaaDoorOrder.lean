/-
  Walk: the law of the order.
-/
import Derived.Test.YtfhhilnebaodoaaDoorRing2
import Derived.Test.YtfhhilnebaodoaaDoorOrd
namespace Go.Proofs.YtfhhilnebaodoaaDoor
open Go.RowKit Num

set_option maxRecDepth 100000 in
set_option maxHeartbeats 4000000 in
/-- The law of the order, where all have at most 12 groups. -/
theorem order_short (na : Bool) (A : Option Addr) (n p : Nat) (x : Int) (nb : Bool) (B : Option Addr) (m q : Nat) (y : Int) (nc : Bool) (C : Option Addr) (k r : Nat) (z : Int) (w : World)
    (hx : VI w na A n p x 12) (hy : VI w nb B m q y 12) (hz : VI w nc C k r z 12) (hp : Pows w) :
    Calls Tryd.prog 8 #[.agg #[.bool na, .slice A n p], .agg #[.bool nb, .slice B m q], .agg #[.bool nc, .slice C k r]] w fun e w' => e = .returned (.bool true) ∧ Below w.heap.size w w' := by
  have hb1 := ((Below.refl w.heap.size w).alloc (Nat.le_refl _) (.cells #[.bool na, .slice A n p] 24)).alloc (by simp) (.cells #[.bool nb, .slice B m q] 24)
  have hb0 := hb1.alloc (by simp <;> omega) (.cells #[.bool nc, .slice C k r] 24)
  clear hb1
  have hn1 := hx.le
  have hn2 := hy.le
  have hn3 := hz.le
  go_enter Tryd.func8, Tryd.ntmps8
  go_upto_region 5 with (first | (go_at_call 11; refine (known_any _ (pows_below hp hb0)).mono ?_; rintro e w1 ⟨rfl, hb2⟩; have hbw1 := hb0.trans (hb2.mono (by simp <;> omega)); obtain ⟨⟨d1, d2, d3, d4, d5, d6⟩, ⟨e1, e2, e3, e4, e5, e6⟩, hsz⟩ := box3s hb2) | (go_at_call 12; refine (short_any w1.heap.size 3 3 (tri na nb nc) (tri A B C) (tri n m k) (tri p q r) _ (by omega) (by omega) (by omega) (by simp) (fun i hi => (by rcases (by omega : i = 0 ∨ i = 1 ∨ i = 2) with rfl | rfl | rfl <;> simp [tri] <;> omega)) (tri_cells _ _ na nb nc A B C n m k p q r (heap_alloc_new _ _)).1 (tri_cells _ _ na nb nc A B C n m k p q r (heap_alloc_new _ _)).2).mono ?_; rintro e w2 ⟨⟨b, rfl, hbt⟩, hb3⟩; have hbtr : b = true := (hbt.2 (fun i hi => (by rcases (by omega : i = 0 ∨ i = 1 ∨ i = 2) with rfl | rfl | rfl <;> simp [tri] <;> omega))); subst hbtr))
  have hb4 : Below w1.heap.size w1 w2 := ((Below.refl _ w1).alloc (Nat.le_refl _) _).trans (hb3.mono (by simp))
  have hbw2 : Below w.heap.size w w2 := hbw1.trans (hb4.mono (by omega))
  obtain ⟨⟨g1, g2, g3, g4, g5, g6⟩, ⟨f1, f2, f3, f4, f5, f6⟩, hs2⟩ := boxes6 hb4 ⟨d1, d2, d3, d4, d5, d6⟩ ⟨e1, e2, e3, e4, e5, e6⟩ hsz
  clear d1 d2 d3 d4 d5 d6 e1 e2 e3 e4 e5 e6 hsz hbw1 hb3 hb4 hb2 hb0 hbt
  have l1 : w.heap.size < w2.heap.size := by omega
  have l2 : w.heap.size + 1 < w2.heap.size := by omega
  replace hx := hx.below hbw2
  replace hy := hy.below hbw2
  replace hz := hz.below hbw2
  clear f1 f2 f3 f4 f5 f6
  have keepS : ∀ w', Below w2.heap.size w2 w' → w'.cell? ⟨w.heap.size, 0, none⟩ = some (.bool na) ∧ w'.cell? ⟨w.heap.size, 1, none⟩ = some (.slice A n p) ∧ w'.cell? ⟨w.heap.size + 1, 0, none⟩ = some (.bool nb) ∧ w'.cell? ⟨w.heap.size + 1, 1, none⟩ = some (.slice B m q) ∧ w'.cell? ⟨w.heap.size + 1 + 1, 0, none⟩ = some (.bool nc) ∧ w'.cell? ⟨w.heap.size + 1 + 1, 1, none⟩ = some (.slice C k r) := by
    intro w' hb
    obtain ⟨hc, -, -⟩ := old3 hb
    exact ⟨(hc _ _ (by omega)).trans g1, (hc _ _ (by omega)).trans g2, (hc _ _ (by omega)).trans g3, (hc _ _ (by omega)).trans g4, (hc _ _ (by omega)).trans g5, (hc _ _ (by omega)).trans g6⟩
  replace keepS := Lib.hid keepS
  obtain ⟨c, hc⟩ : ∃ c, (x - y).sign = c := ⟨_, rfl⟩
  obtain ⟨c', hc'⟩ : ∃ c', (y - x).sign = c' := ⟨_, rfl⟩
  have hcc : -c' = c := by
    rw [← hc, ← hc']
    rw [show x - y = -(y - x) by omega, Int.sign_neg]
  have hc3 : c = -1 ∨ c = 0 ∨ c = 1 := by
    rw [← hc]
    rcases Int.lt_trichotomy (x - y) 0 with h | h | h
    · rw [sign_neg' h]; simp
    · rw [h]; simp
    · rw [sign_pos' h]; simp
  have hwr : IntKind.i64.wrap (-c') = c := by
    rw [hcc]
    rcases hc3 with rfl | rfl | rfl <;> decide
  have hadd : (x + z - (y + z)).sign = c := by
    rw [← hc]; congr 1; omega
  obtain ⟨d, hd⟩ : ∃ d, (y - z).sign = d := ⟨_, rfl⟩
  obtain ⟨e0, he⟩ : ∃ e0, (x - z).sign = e0 := ⟨_, rfl⟩
  have htr : ¬ 0 < c → ¬ 0 < d → e0 ≤ 0 := by
    intro h1 h2
    rw [← hc] at h1
    rw [← hd] at h2
    rw [← he]
    have h3 : ¬ 0 < x - y := fun h => h1 (by rw [sign_pos' h]; omega)
    have h4 : ¬ 0 < y - z := fun h => h2 (by rw [sign_pos' h]; omega)
    rcases Int.lt_trichotomy (x - z) 0 with h | h | h
    · rw [sign_neg' h]; omega
    · rw [h]; simp
    · omega
  replace hc := Lib.hid hc
  replace hc' := Lib.hid hc'
  replace hcc := Lib.hid hcc
  replace hc3 := Lib.hid hc3
  replace hadd := Lib.hid hadd
  replace hd := Lib.hid hd
  replace he := Lib.hid he
  replace htr := Lib.hid htr
  go_upto_region 6 with (first | (go_at_call 38; refine (Compare_c hc.out hx hy (by omega)).mono ?_; rintro e w3 ⟨rfl, hbr⟩; have hsr := hbr.size; obtain ⟨g1', g2', g3', g4', g5', g6'⟩ := keepS.out _ hbr))
  have qtok1 : True := trivial
  have qtok2 : True := trivial
  have qtok3 : True := trivial
  have qtok4 : True := trivial
  have qtok5 : True := trivial
  have qtok6 : True := trivial
  have qtok7 : True := trivial
  go_region_held3 (fun w' => w'.cell? ⟨w.heap.size, 0, none⟩ = some (.bool na) ∧ w'.cell? ⟨w.heap.size, 1, none⟩ = some (.slice A n p) ∧ w'.cell? ⟨w.heap.size + 1, 0, none⟩ = some (.bool nb) ∧ w'.cell? ⟨w.heap.size + 1, 1, none⟩ = some (.slice B m q) ∧ w'.cell? ⟨w.heap.size + 1 + 1, 0, none⟩ = some (.bool nc) ∧ w'.cell? ⟨w.heap.size + 1 + 1, 1, none⟩ = some (.slice C k r))
    (exact keepS.out _ (by repeat (first | refine Below.drew ?_ | exact qB7 | exact qB6 | exact qB5 | exact qB4 | exact qB3 | exact qB2 | exact qB1 | exact hbr)))
    (first | (go_at_call 31; clear qtok1; refine (Sub_any _ _ _ _ x _ _ _ _ y 12 _ (hx.below (by repeat (first | refine Below.drew ?_ | exact hbr))) (hy.below (by repeat (first | refine Below.drew ?_ | exact hbr))) (by omega)).mono ?_; rintro e qw1 ⟨t1b, t1A, t1n, t1c, rfl, t1I, qh1⟩; have qB1 : Below w2.heap.size w2 qw1 := Below.trans (by repeat (first | refine Below.drew ?_ | exact hbr)) (qh1.mono (by first | omega | (simp <;> omega))); have qs1 := qB1.size) | (go_at_call 16; clear qtok2; refine (Sign_c hc.out (t1I.below (by repeat (first | refine Below.drew ?_ | exact Below.refl _ _))).vi (by omega)).mono ?_; rintro e qw2 ⟨rfl, qh2⟩; have qB2 : Below w2.heap.size w2 qw2 := Below.trans (by repeat (first | refine Below.drew ?_ | exact qB1)) (qh2.mono (by first | omega | (simp <;> omega))); have qs2 := qB2.size; replace t1I := II.below t1I (Below.trans (by repeat (first | refine Below.drew ?_ | exact Below.refl _ _)) (qh2.mono (by first | omega | (simp <;> omega))))) | (go_at_call 38; clear qtok3; refine (Compare_c hc'.out (hy.below (by repeat (first | refine Below.drew ?_ | exact qB2))) (hx.below (by repeat (first | refine Below.drew ?_ | exact qB2))) (by omega)).mono ?_; rintro e qw3 ⟨rfl, qh3⟩; have qB3 : Below w2.heap.size w2 qw3 := Below.trans (by repeat (first | refine Below.drew ?_ | exact qB2)) (qh3.mono (by first | omega | (simp <;> omega))); have qs3 := qB3.size; replace t1I := II.below t1I (Below.trans (by repeat (first | refine Below.drew ?_ | exact Below.refl _ _)) (qh3.mono (by first | omega | (simp <;> omega))))) | (go_at_call 41; clear qtok4; refine (rCompare_c hc.out (hx.below (by repeat (first | refine Below.drew ?_ | exact qB3))) (hy.below (by repeat (first | refine Below.drew ?_ | exact qB3))) (by omega)).mono ?_; rintro e qw4 ⟨rfl, qh4⟩; have qB4 : Below w2.heap.size w2 qw4 := Below.trans (by repeat (first | refine Below.drew ?_ | exact qB3)) (qh4.mono (by first | omega | (simp <;> omega))); have qs4 := qB4.size; replace t1I := II.below t1I (Below.trans (by repeat (first | refine Below.drew ?_ | exact Below.refl _ _)) (qh4.mono (by first | omega | (simp <;> omega))))) | (go_at_call 23; clear qtok5; refine (Add_any _ _ _ _ x _ _ _ _ z 12 _ (hx.below (by repeat (first | refine Below.drew ?_ | exact qB4))) (hz.below (by repeat (first | refine Below.drew ?_ | exact qB4))) (by omega)).mono ?_; rintro e qw5 ⟨t2b, t2A, t2n, t2c, rfl, t2I, qh5⟩; have qB5 : Below w2.heap.size w2 qw5 := Below.trans (by repeat (first | refine Below.drew ?_ | exact qB4)) (qh5.mono (by first | omega | (simp <;> omega))); have qs5 := qB5.size; replace t1I := II.below t1I (Below.trans (by repeat (first | refine Below.drew ?_ | exact Below.refl _ _)) (qh5.mono (by first | omega | (simp <;> omega))))) | (go_at_call 23; clear qtok6; refine (Add_any _ _ _ _ y _ _ _ _ z 12 _ (hy.below (by repeat (first | refine Below.drew ?_ | exact qB5))) (hz.below (by repeat (first | refine Below.drew ?_ | exact qB5))) (by omega)).mono ?_; rintro e qw6 ⟨t3b, t3A, t3n, t3c, rfl, t3I, qh6⟩; have qB6 : Below w2.heap.size w2 qw6 := Below.trans (by repeat (first | refine Below.drew ?_ | exact qB5)) (qh6.mono (by first | omega | (simp <;> omega))); have qs6 := qB6.size; replace t1I := II.below t1I (Below.trans (by repeat (first | refine Below.drew ?_ | exact Below.refl _ _)) (qh6.mono (by first | omega | (simp <;> omega)))); replace t2I := II.below t2I (Below.trans (by repeat (first | refine Below.drew ?_ | exact Below.refl _ _)) (qh6.mono (by first | omega | (simp <;> omega))))) | (go_at_call 38; clear qtok7; refine (Compare_c hadd.out (t2I.below (by repeat (first | refine Below.drew ?_ | exact Below.refl _ _))).vi (t3I.below (by repeat (first | refine Below.drew ?_ | exact Below.refl _ _))).vi (by omega)).mono ?_; rintro e qw7 ⟨rfl, qh7⟩; have qB7 : Below w2.heap.size w2 qw7 := Below.trans (by repeat (first | refine Below.drew ?_ | exact qB6)) (qh7.mono (by first | omega | (simp <;> omega))); have qs7 := qB7.size; replace t1I := II.below t1I (Below.trans (by repeat (first | refine Below.drew ?_ | exact Below.refl _ _)) (qh7.mono (by first | omega | (simp <;> omega)))); replace t2I := II.below t2I (Below.trans (by repeat (first | refine Below.drew ?_ | exact Below.refl _ _)) (qh7.mono (by first | omega | (simp <;> omega)))); replace t3I := II.below t3I (Below.trans (by repeat (first | refine Below.drew ?_ | exact Below.refl _ _)) (qh7.mono (by first | omega | (simp <;> omega))))))
  go_upto_region 8 with fail
  obtain ⟨g1', g2', g3', g4', g5', g6'⟩ := keepS.out _ qB7
  by_cases h0c : 0 < c
  · go_wp2
    go_ret
    exact ⟨rfl, hbw2.trans (qB7.mono hbw2.size)⟩
  · by_cases h0d : 0 < d
    · have etok1 : True := trivial
      go_wp2_with (first | (go_at_call 38; clear etok1; refine (Compare_c hd.out (hy.below (by repeat (first | refine Below.drew ?_ | exact qB7))) (hz.below (by repeat (first | refine Below.drew ?_ | exact qB7))) (by omega)).mono ?_; rintro e ew1 ⟨rfl, eh1⟩; have eB1 : Below w2.heap.size w2 ew1 := Below.trans (by repeat (first | refine Below.drew ?_ | exact qB7)) (eh1.mono (by first | omega | (simp <;> omega))); have es1 := eB1.size; obtain ⟨g1', g2', g3', g4', g5', g6'⟩ := keepS.out _ eB1))
      go_ret
      exact ⟨rfl, hbw2.trans (eB1.mono hbw2.size)⟩
    · have h0e := htr.out (by omega) (by omega)
      have etok1 : True := trivial
      have etok2 : True := trivial
      go_wp2_with (first | (go_at_call 38; clear etok1; refine (Compare_c hd.out (hy.below (by repeat (first | refine Below.drew ?_ | exact qB7))) (hz.below (by repeat (first | refine Below.drew ?_ | exact qB7))) (by omega)).mono ?_; rintro e ew1 ⟨rfl, eh1⟩; have eB1 : Below w2.heap.size w2 ew1 := Below.trans (by repeat (first | refine Below.drew ?_ | exact qB7)) (eh1.mono (by first | omega | (simp <;> omega))); have es1 := eB1.size; obtain ⟨g1', g2', g3', g4', g5', g6'⟩ := keepS.out _ eB1) | (go_at_call 38; clear etok2; refine (Compare_c he.out (hx.below (by repeat (first | refine Below.drew ?_ | exact eB1))) (hz.below (by repeat (first | refine Below.drew ?_ | exact eB1))) (by omega)).mono ?_; rintro e ew2 ⟨rfl, eh2⟩; have eB2 : Below w2.heap.size w2 ew2 := Below.trans (by repeat (first | refine Below.drew ?_ | exact eB1)) (eh2.mono (by first | omega | (simp <;> omega))); have es2 := eB2.size; obtain ⟨g1', g2', g3', g4', g5', g6'⟩ := keepS.out _ eB2))
      go_ret
      exact ⟨rfl, hbw2.trans (eB2.mono hbw2.size)⟩

end Go.Proofs.YtfhhilnebaodoaaDoor
