/-
  Walk: the law of the ints.
-/
import Derived.Test.YtalbdjnanmcoeaaDoorZ
import Derived.Test.YtalbdjnanmcoeaaDoorRSm
import Derived.Deep.RegionHeld3
import Derived.Deep.Cut
namespace Go.Proofs.YtalbdjnanmcoeaaDoor
open Go.RowKit Num

theorem SmallV {neg : Bool} {A : Option Addr} {n c : Nat} {z : Int} {k : Nat} {w : World} {s : Int} {f : Bool} (hs : small z = s) (hf : fits z = f) (h : VI w neg A n c z k) (hk : k ≤ 1000000000) :
    Calls Tryd.prog 28 #[.agg #[.bool neg, .slice A n c]] w fun e w' => e = .returned (.tuple #[.int .i64 s, .bool f]) ∧ Below w.heap.size w w' := hs ▸ hf ▸ Small_any neg A n c z k w h hk
theorem rSmallV {neg : Bool} {A : Option Addr} {n c : Nat} {z : Int} {k : Nat} {w : World} {s : Int} {f : Bool} (hs : small z = s) (hf : fits z = f) (h : VI w neg A n c z k) (hk : k ≤ 1000000) :
    Calls Tryd.prog 30 #[.agg #[.bool neg, .slice A n c]] w fun e w' => e = .returned (.tuple #[.int .i64 s, .bool f]) ∧ Below w.heap.size w w' := hs ▸ hf ▸ rSmall_any neg A n c z k w h hk

/-- The cells of one integer. -/
theorem one_cells (w : World) (g : Nat) (a : Bool) (A : Option Addr) (n p : Nat) (hg : w.heap[g]? = some (.cells #[.bool a, .slice A n p] 24 (0, 0))) :
    (∀ i, i < 1 → w.cell? ⟨g, i * 2, none⟩ = some (.bool a)) ∧ (∀ i, i < 1 → w.cell? ⟨g, i * 2 + 1, none⟩ = some (.slice A n p)) := by
  constructor
  · intro i hi
    obtain rfl : i = 0 := by omega
    simp [World.cell?, hg]
  · intro i hi
    obtain rfl : i = 0 := by omega
    simp [World.cell?, hg]

set_option maxRecDepth 100000 in
set_option maxHeartbeats 4000000 in
/-- The law of the ints, where x has at most 12 groups. -/
theorem ints_short (z0 : Int) (na : Bool) (A : Option Addr) (n p : Nat) (x : Int) (w : World) (h1 : -9223372036854775808 ≤ z0) (h2 : z0 ≤ 9223372036854775807) (hx : VI w na A n p x 12) (hp : Pows w) :
    Calls Tryd.prog 4 #[.int .i64 z0, .agg #[.bool na, .slice A n p]] w fun e w' => e = .returned (.bool true) ∧ Below w.heap.size w w' := by
  have hb0 := (Below.refl w.heap.size w).alloc (Nat.le_refl _) (.cells #[.bool na, .slice A n p] 24)
  have hn1 := hx.le
  obtain ⟨s, hs⟩ : ∃ s, small x = s := ⟨_, rfl⟩
  obtain ⟨f, hf⟩ : ∃ f, fits x = f := ⟨_, rfl⟩
  have hs0 : small z0 = z0 := by unfold small; rw [if_pos ⟨h1, h2⟩]
  have hf0 : fits z0 = true := by unfold fits; exact decide_eq_true ⟨h1, h2⟩
  have hofz := Of_any z0 h1 h2
  have hrof := rOf_any z0 h1 h2
  clear h1 h2
  replace hs := Lib.hid hs
  replace hf := Lib.hid hf
  replace hs0 := Lib.hid hs0
  replace hf0 := Lib.hid hf0
  replace hofz := Lib.hid hofz
  replace hrof := Lib.hid hrof
  go_enter Tryd.func4, Tryd.ntmps4
  go_upto_region 7 with (first | (go_at_call 11; refine (known_any _ (pows_below hp hb0)).mono ?_; rintro e w1 ⟨rfl, hb2⟩; have hbw1 := hb0.trans (hb2.mono (by simp <;> omega)); obtain ⟨⟨d1, d2⟩, ⟨e1, e2⟩, hsz⟩ := box1s hb2) | (go_at_call 12; refine (short_any w1.heap.size 1 1 (fun _ => na) (fun _ => A) (fun _ => n) (fun _ => p) _ (by omega) (by omega) (by omega) (by simp) (fun i hi => (by omega)) (one_cells _ _ na A n p (heap_alloc_new _ _)).1 (one_cells _ _ na A n p (heap_alloc_new _ _)).2).mono ?_; rintro e w2 ⟨⟨b, rfl, hbt⟩, hb3⟩; have hbtr : b = true := hbt.2 (fun i hi => hn1); subst hbtr; have hb4 : Below w1.heap.size w1 w2 := ((Below.refl _ w1).alloc (Nat.le_refl _) _).trans (hb3.mono (by simp)); have g1 := (hb4.cell (p := ⟨w.heap.size, 0, none⟩) (by dsimp only; omega)).trans d1; have g2 := (hb4.cell (p := ⟨w.heap.size, 1, none⟩) (by dsimp only; omega)).trans d2; have hbw2 := hbw1.trans (hb4.mono hbw1.size); clear d1 d2 e1 e2 hbt) | (go_at_call 27; refine (hofz.out _).mono ?_; rintro e w3 ⟨yn, yA, yN, yc, rfl, hi1, hb5⟩; have hl2 : w.heap.size < w2.heap.size := (by have := hb4.size; omega); have g3 := (hb5.cell (p := ⟨w.heap.size, 0, none⟩) hl2).trans g1; have g4 := (hb5.cell (p := ⟨w.heap.size, 1, none⟩) hl2).trans g2; have hbw3 := hbw2.trans (hb5.mono hbw2.size); have hl3 : w.heap.size < w3.heap.size := (by have := hb5.size; omega); clear g1 g2) | (go_at_call 28; refine (SmallV hs0.out hf0.out (hi1.below ((Below.refl _ w3).alloc (Nat.le_refl _) _)).vi (by omega)).mono ?_; rintro e w4 ⟨rfl, hb6⟩; obtain ⟨⟨y1, y2⟩, ⟨e3, e4⟩, hs4⟩ := box1s hb6; have hb7 : Below w3.heap.size w3 w4 := ((Below.refl _ w3).alloc (Nat.le_refl _) _).trans (hb6.mono (by simp)); have hi4 := hi1.below hb7; have k1 := (hb7.cell (p := ⟨w.heap.size, 0, none⟩) hl3).trans g3; have k2 := (hb7.cell (p := ⟨w.heap.size, 1, none⟩) hl3).trans g4; have hbw4 := hbw3.trans (hb7.mono hbw3.size)))
  replace hx := hx.below hbw4
  clear g3 g4 e3 e4 hb0 hb2 hb3 hb4 hb5 hb6 hb7 hi1 hp
  have hl4 : w.heap.size < w4.heap.size := by omega
  have keepS : ∀ w', Below w4.heap.size w4 w' → w'.cell? ⟨w.heap.size, 0, none⟩ = some (.bool na) ∧ w'.cell? ⟨w.heap.size, 1, none⟩ = some (.slice A n p) ∧ w'.cell? ⟨w3.heap.size, 0, none⟩ = some (.bool yn) ∧ w'.cell? ⟨w3.heap.size, 1, none⟩ = some (.slice yA yN yc) := by
    intro w' hb
    obtain ⟨hc, -, -⟩ := old3 hb
    exact ⟨(hc _ _ (by omega)).trans k1, (hc _ _ (by omega)).trans k2, (hc _ _ (by omega)).trans y1, (hc _ _ (by omega)).trans y2⟩
  replace keepS := Lib.hid keepS
  have qtok1 : True := trivial
  have qtok2 : True := trivial
  go_region_held3 (fun w' => w'.cell? ⟨w.heap.size, 0, none⟩ = some (.bool na) ∧ w'.cell? ⟨w.heap.size, 1, none⟩ = some (.slice A n p) ∧ w'.cell? ⟨w3.heap.size, 0, none⟩ = some (.bool yn) ∧ w'.cell? ⟨w3.heap.size, 1, none⟩ = some (.slice yA yN yc))
    (exact keepS.out _ (by repeat (first | refine Below.drew ?_ | exact qB2 | exact qB1 | exact (Below.refl w4.heap.size w4))))
    (first | (go_at_call 29; clear qtok1; refine (hrof.out _).mono ?_; rintro e qw1 ⟨r1b, r1A, r1n, r1c, rfl, r1I, qh1⟩; have qB1 : Below w4.heap.size w4 qw1 := Below.trans (by repeat (first | refine Below.drew ?_ | exact (Below.refl w4.heap.size w4))) (qh1.mono (by first | omega | (simp <;> omega))); have qs1 := qB1.size) | (go_at_call 18; clear qtok2; refine (same_ii _ _ _ _ z0 3 _ _ _ _ 3 _ (hi4.below (by repeat (first | refine Below.drew ?_ | exact qB1))) (r1I.below (by repeat (first | refine Below.drew ?_ | exact Below.refl _ _))) (by omega) (by omega)).mono ?_; rintro e qw2 ⟨rfl, qh2⟩; have qB2 : Below w4.heap.size w4 qw2 := Below.trans (by repeat (first | refine Below.drew ?_ | exact qB1)) (qh2.mono (by first | omega | (simp <;> omega))); have qs2 := qB2.size; replace r1I := II.below r1I (Below.trans (by repeat (first | refine Below.drew ?_ | exact Below.refl _ _)) (qh2.mono (by first | omega | (simp <;> omega))))))
  obtain ⟨k1', k2', y1', y2'⟩ := keepS.out _ qB2
  have etok1 : True := trivial
  have etok2 : True := trivial
  go_wp2_with (first | (go_at_call 28; clear etok1; refine (SmallV hs.out hf.out (hx.below (by repeat (first | refine Below.drew ?_ | exact qB2))) (by omega)).mono ?_; rintro e ew1 ⟨rfl, eh1⟩; have eB1 : Below w4.heap.size w4 ew1 := Below.trans (by repeat (first | refine Below.drew ?_ | exact qB2)) (eh1.mono (by first | omega | (simp <;> omega))); have es1 := eB1.size; obtain ⟨k1', k2', y1', y2'⟩ := keepS.out _ eB1) | (go_at_call 30; clear etok2; refine (rSmallV hs.out hf.out (hx.below (by repeat (first | refine Below.drew ?_ | exact eB1))) (by omega)).mono ?_; rintro e ew2 ⟨rfl, eh2⟩; have eB2 : Below w4.heap.size w4 ew2 := Below.trans (by repeat (first | refine Below.drew ?_ | exact eB1)) (eh2.mono (by first | omega | (simp <;> omega))); have es2 := eB2.size; obtain ⟨k1', k2', y1', y2'⟩ := keepS.out _ eB2))
  go_ret
  exact ⟨rfl, hbw4.trans (eB2.mono hbw4.size)⟩

set_option maxRecDepth 100000 in
set_option maxHeartbeats 4000000 in
/-- The law of the ints, where x has more than 12 groups. -/
theorem ints_long (z0 : Int) (na : Bool) (A : Option Addr) (n p : Nat) (w : World) (hn1 : n ≤ 9223372036854775807) (hlong : ¬ n ≤ 12) (hp : Pows w) :
    Calls Tryd.prog 4 #[.int .i64 z0, .agg #[.bool na, .slice A n p]] w fun e w' => e = .returned (.bool true) ∧ Below w.heap.size w w' := by
  replace hlong := Lib.hid hlong
  have hb0 := (Below.refl w.heap.size w).alloc (Nat.le_refl _) (.cells #[.bool na, .slice A n p] 24)
  go_enter Tryd.func4, Tryd.ntmps4
  go_wp2_with (first | (go_at_call 11; refine (known_any _ (pows_below hp hb0)).mono ?_; rintro e w1 ⟨rfl, hb2⟩; have hbw1 := hb0.trans (hb2.mono (by simp <;> omega)); obtain ⟨⟨d1, d2⟩, ⟨e1, e2⟩, hsz⟩ := box1s hb2) | (go_at_call 12; refine (short_any w1.heap.size 1 1 (fun _ => na) (fun _ => A) (fun _ => n) (fun _ => p) _ (by omega) (by omega) (by omega) (by simp) (fun i hi => (by omega)) (one_cells _ _ na A n p (heap_alloc_new _ _)).1 (one_cells _ _ na A n p (heap_alloc_new _ _)).2).mono ?_; rintro e w2 ⟨⟨b, rfl, hbt⟩, hb3⟩; have hbfa : b = false := (by cases b; rfl; exact (hlong.out (hbt.1 rfl 0 (by omega))).elim); subst hbfa))
  go_ret
  exact ⟨rfl, hbw1.trans ((((Below.refl _ w1).alloc (Nat.le_refl _) _).trans (hb3.mono (by simp))).mono hbw1.size)⟩

/-- The law of the ints. -/
theorem ints_any (z0 : Int) (na : Bool) (A : Option Addr) (n p : Nat) (la : List Nat) (w : World) (h1 : -9223372036854775808 ≤ z0) (h2 : z0 ≤ 9223372036854775807) (hx : Sl w A n p la) (hp : Pows w) :
    Calls Tryd.prog 4 #[.int .i64 z0, .agg #[.bool na, .slice A n p]] w fun e w' => e = .returned (.bool true) ∧ Below w.heap.size w w' := by
  by_cases h : n ≤ 12
  · exact ints_short z0 na A n p (cnt na la) w h1 h2 ⟨la, hx, rfl, h⟩ hp
  · exact ints_long z0 na A n p w (Nat.le_trans hx.le_cap hx.cap_le) h hp

end Go.Proofs.YtalbdjnanmcoeaaDoor
