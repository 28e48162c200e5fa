/-
  Walks: Neg, Abs of package integer; Abs of the reference.
-/
import Derived.Test.YtabibkhcdamlhaaDoorF
import Derived.Test.YtabibkhcdamlhaaDoorS
import Derived.Deep.Cut
import Derived.Deep.RegionHeld3
set_option linter.unusedSimpArgs false
set_option linter.unusedVariables false
namespace Go.Proofs.YtabibkhcdamlhaaDoor
open Go.RowKit Num

theorem kept_sc {w : World} {p a : Addr} {u v : Value} (h : w.cell? a = some v) (hp : p.block ≠ a.block) : (w.setCell p u).cell? a = some v := by
  rw [World.cell?_setCell_far _ _ _ _ hp]; exact h

/-- copied at a canonical magnitude. -/
theorem copied_mm {A : Option Addr} {n c m k : Nat} {w : World} (h : MM w A n c m k) (hk : k ≤ 1000000000) :
    Calls Tryd.prog 53 #[.slice A n c] w fun e w' => ∃ A' c', e = .returned (.slice A' n c') ∧ FM w' w.heap.size A' n c' m k ∧ Below w.heap.size w w' := by
  obtain ⟨l, hs, hc, rfl, hn⟩ := h
  refine (copied_any A n c l w hs (by omega)).mono ?_
  rintro e w' ⟨A', c', rfl, hf, hb⟩
  exact ⟨A', c', rfl, ⟨l, hf, hc, rfl, hn⟩, hb⟩

theorem sgnd_false (m : Nat) : sgnd false m = (m : Int) := rfl

set_option maxRecDepth 100000 in
set_option maxHeartbeats 1600000 in
/-- Abs. -/
theorem Abs_any (neg : Bool) (A : Option Addr) (n c : Nat) (z : Int) (k : Nat) (w : World) (h : VI w neg A n c z k) (hk : k ≤ 1000000000) :
    Calls Tryd.prog 21 #[.agg #[.bool neg, .slice A n c]] w (RetZ w (z.natAbs : Int) k) := by
  have hb1 := (Below.refl w.heap.size w).alloc (Nat.le_refl _) (.cells #[.bool neg, .slice A n c] 24)
  have hb2 := hb1.alloc (by simp) (.cells #[.bool false, .slice none 0 0] 24)
  go_enter Tryd.func21, Tryd.ntmps21
  go_wp2_with (first | (go_at_call 50; refine (counted_any _ _ _ _ z k _ (h.below hb2) hk).mono ?_; rintro e w1 ⟨neg1, A1, n1, c1, rfl, hi1, hb3⟩; obtain ⟨⟨d1, d2, d3, d4⟩, ⟨e1, e2, e3, e4⟩, hsz⟩ := box2s hb3; have hb4 := hb2.trans (hb3.mono (by simp <;> omega)); have hfd := run_groups neg1 A1 n1 c1) | (go_at_call 53; refine (copied_mm hi1.mm hk).mono ?_; rintro e w2 ⟨A2, c2, rfl, hf2, hb5⟩; obtain ⟨hc5, hf5, hs5⟩ := old3 hb5; have x3 := (hc5 _ _ hsz).trans d3; have x4 := (hc5 _ _ hsz).trans d4; have y3 := (hf5 _ _ hsz).trans e3; have y4 := (hf5 _ _ hsz).trans e4; have hb6 := hb4.trans (hb5.mono hb4.size); clear d1 d2 d3 d4 e1 e2 e3 e4 hc5 hf5 hfd; have hsz2 : w.heap.size + 1 < w2.heap.size := (by omega)) | (go_at_call 52; refine (signed_mm _ _ _ _ _ _ _ hf2.mm hk).mono ?_; rintro e w3 ⟨neg3, A3, n3, c3, rfl, hi3, hb7⟩; obtain ⟨hc7, hf7, hs7⟩ := old3 hb7; have u3 := (hc7 _ _ hsz2).trans x3; have u4 := (hc7 _ _ hsz2).trans x4; have v3 := (hf7 _ _ hsz2).trans y3; have v4 := (hf7 _ _ hsz2).trans y4; clear x3 x4 y3 y4 hc7 hf7))
  refine bodyPost_ret (v := .agg #[.bool neg3, .slice A3 n3 c3]) (by simp [results, Tryd.results21, go_sem, u3, u4]) rfl ?_
  rw [sgnd_false] at hi3
  exact RetZ.close0 hi3 (hb6.trans (hb7.mono hb6.size)) (by omega) u3 u4

set_option maxRecDepth 100000 in
set_option maxHeartbeats 1600000 in
/-- Abs of the reference. -/
theorem rAbs_any (neg : Bool) (A : Option Addr) (n c : Nat) (z : Int) (k : Nat) (w : World) (h : VI w neg A n c z k) (hk : k ≤ 1000000000) :
    Calls Tryd.prog 22 #[.agg #[.bool neg, .slice A n c]] w (RetZ w (z.natAbs : Int) k) := by
  have hb1 := (Below.refl w.heap.size w).alloc (Nat.le_refl _) (.cells #[.bool neg, .slice A n c] 24)
  have hb2 := hb1.alloc (by simp) (.cells #[.bool false, .slice none 0 0] 24)
  go_enter Tryd.func22, Tryd.ntmps22
  go_wp2_with (first | (go_at_call 13; refine (Value_any _ _ _ _ z k _ (h.below hb2) hk).mono ?_; rintro e w1 ⟨neg1, A1, n1, c1, rfl, hi1, hb3⟩; obtain ⟨⟨d1, d2, d3, d4⟩, ⟨e1, e2, e3, e4⟩, hsz⟩ := box2s hb3; have hb4 := hb2.trans (hb3.mono (by simp <;> omega)); have hfd := run_groups neg1 A1 n1 c1) | (go_at_call 54; refine (made_mm false _ _ _ _ _ _ hi1.mm hk).mono ?_; rintro e w3 ⟨neg3, A3, n3, c3, rfl, hi3, hb7⟩; obtain ⟨hc7, hf7, hs7⟩ := old3 hb7; have u3 := (hc7 _ _ hsz).trans d3; have u4 := (hc7 _ _ hsz).trans d4; have v3 := (hf7 _ _ hsz).trans e3; have v4 := (hf7 _ _ hsz).trans e4; clear d1 d2 d3 d4 e1 e2 e3 e4 hc7 hf7 hfd))
  refine bodyPost_ret (v := .agg #[.bool neg3, .slice A3 n3 c3]) (by simp [results, Tryd.results22, go_sem, u3, u4]) rfl ?_
  rw [sgnd_false] at hi3
  exact RetZ.close0 hi3 (hb4.trans (hb7.mono hb4.size)) (by omega) u3 u4

set_option maxRecDepth 100000 in
set_option maxHeartbeats 1600000 in
/-- Neg. -/
theorem Neg_any (neg : Bool) (A : Option Addr) (n c : Nat) (z : Int) (k : Nat) (w : World) (h : VI w neg A n c z k) (hk : k ≤ 1000000000) :
    Calls Tryd.prog 19 #[.agg #[.bool neg, .slice A n c]] w (RetZ w (-z) k) := by
  have hb1 := (Below.refl w.heap.size w).alloc (Nat.le_refl _) (.cells #[.bool neg, .slice A n c] 24)
  have hb2 := hb1.alloc (by simp) (.cells #[.bool false, .slice none 0 0] 24)
  go_enter Tryd.func19, Tryd.ntmps19
  go_upto_region 2 with (go_at_call 50; refine (counted_any _ _ _ _ z k _ (h.below hb2) hk).mono ?_; rintro e w1 ⟨neg1, A1, n1, c1, rfl, hi1, hb3⟩; obtain ⟨⟨d1, d2, d3, d4⟩, ⟨e1, e2, e3, e4⟩, hsz⟩ := box2s hb3; have hb4 := hb2.trans (hb3.mono (by simp <;> omega)); have hi2 := hi1.store2 d1 d2 (.bool neg1) (.slice A1 n1 c1))
  have x1 : ((w1.setCell ⟨w.heap.size, 0, none⟩ (.bool neg1)).setCell ⟨w.heap.size, 1, none⟩ (.slice A1 n1 c1)).cell? ⟨w.heap.size, 0, none⟩ = some (.bool neg1) := by simp [go_sem, d1, d2]
  have x2 : ((w1.setCell ⟨w.heap.size, 0, none⟩ (.bool neg1)).setCell ⟨w.heap.size, 1, none⟩ (.slice A1 n1 c1)).cell? ⟨w.heap.size, 1, none⟩ = some (.slice A1 n1 c1) := by simp [go_sem, d1, d2]
  have x3 : ((w1.setCell ⟨w.heap.size, 0, none⟩ (.bool neg1)).setCell ⟨w.heap.size, 1, none⟩ (.slice A1 n1 c1)).cell? ⟨w.heap.size + 1, 0, none⟩ = some (.bool false) := by simp [go_sem, d3]
  have x4 : ((w1.setCell ⟨w.heap.size, 0, none⟩ (.bool neg1)).setCell ⟨w.heap.size, 1, none⟩ (.slice A1 n1 c1)).cell? ⟨w.heap.size + 1, 1, none⟩ = some (.slice none 0 0) := by simp [go_sem, d4]
  have y3 : ((w1.setCell ⟨w.heap.size, 0, none⟩ (.bool neg1)).setCell ⟨w.heap.size, 1, none⟩ (.slice A1 n1 c1)).frozen? ⟨w.heap.size + 1, 0, none⟩ = false := by simp [go_sem, e3]
  have y4 : ((w1.setCell ⟨w.heap.size, 0, none⟩ (.bool neg1)).setCell ⟨w.heap.size, 1, none⟩ (.slice A1 n1 c1)).frozen? ⟨w.heap.size + 1, 1, none⟩ = false := by simp [go_sem, e4]
  have hbX : Below w.heap.size w ((w1.setCell ⟨w.heap.size, 0, none⟩ (.bool neg1)).setCell ⟨w.heap.size, 1, none⟩ (.slice A1 n1 c1)) := (hb4.setCell (p := ⟨w.heap.size, 0, none⟩) (Nat.le_refl _) _).setCell (p := ⟨w.heap.size, 1, none⟩) (Nat.le_refl _) _
  have hsX : w.heap.size + 1 < ((w1.setCell ⟨w.heap.size, 0, none⟩ (.bool neg1)).setCell ⟨w.heap.size, 1, none⟩ (.slice A1 n1 c1)).heap.size := by simp only [World.size_setCell]; exact hsz
  have hsg := hi1.sgnd
  clear d1 d2 d3 d4 e1 e2 e3 e4 hb3 hb4 hi1 hsz hb1 hb2
  generalize (w1.setCell ⟨w.heap.size, 0, none⟩ (.bool neg1)).setCell ⟨w.heap.size, 1, none⟩ (.slice A1 n1 c1) = X at *
  go_region_held3 (fun w' => w'.cell? ⟨w.heap.size, 0, none⟩ = some (.bool neg1) ∧ w'.cell? ⟨w.heap.size, 1, none⟩ = some (.slice A1 n1 c1))
    (refine ⟨?_, ?_⟩ <;> (repeat (first | assumption | refine kept_sc ?_ (by first | (dsimp only; omega) | (simp <;> omega)))))
    (first | (go_at_call 53; refine (copied_mm (hi2.mm.below (by repeat (first | exact Below.refl _ _ | refine Below.drew ?_))) hk).mono ?_; rintro e w2 ⟨A2, c2, rfl, hf2, hb5⟩; replace hb5 := undrew hb5; obtain ⟨hc5, hf5, hs5⟩ := old3 hb5; have hsX0 : w.heap.size < X.heap.size := (by omega); have q1 := (hc5 _ _ hsX0).trans x1; have q2 := (hc5 _ _ hsX0).trans x2; have q3 := (hc5 _ _ hsX).trans x3; have q4 := (hc5 _ _ hsX).trans x4; have r3 := (hf5 _ _ hsX).trans y3; have r4 := (hf5 _ _ hsX).trans y4; have hb6 := hbX.trans (hb5.mono hbX.size); have hs2 : w.heap.size + 1 < w2.heap.size := (by omega); clear hc5 hf5) | (go_at_call 52; refine (signed_mm _ _ _ _ _ _ _ hf2.mm hk).mono ?_; rintro e w3 ⟨neg3, A3, n3, c3, rfl, hi3, hb7⟩; obtain ⟨hc7, hf7, hs7⟩ := old3 hb7; have hs20 : w.heap.size < w2.heap.size := (by omega); have t1 := (hc7 _ _ hs20).trans q1; have t2 := (hc7 _ _ hs20).trans q2; have u3 := (hc7 _ _ hs2).trans q3; have u4 := (hc7 _ _ hs2).trans q4; have v3 := (hf7 _ _ hs2).trans r3; have v4 := (hf7 _ _ hs2).trans r4; clear hc7 hf7))
  go_wp2_with fail
  refine bodyPost_ret (v := .agg #[.bool neg3, .slice A3 n3 c3]) (by simp [results, Tryd.results19, go_sem, u3, u4]) rfl ?_
  rw [sgnd_not, hsg] at hi3
  exact RetZ.close0 hi3 (hb6.trans (hb7.mono hb6.size)) (by omega) u3 u4

end Go.Proofs.YtabibkhcdamlhaaDoor
