/-
  Walk: the law of division.
-/
import Derived.Test.YtabibkhcdamlhaaDoorRdv
import Derived.Test.YtabibkhcdamlhaaDoorZ
import Derived.Test.YtabibkhcdamlhaaDoorOrd
import Derived.Test.YtabibkhcdamlhaaDoorNa
import Derived.Test.YtabibkhcdamlhaaDoorK
import Derived.Test.YtabibkhcdamlhaaDoorF
import Derived.Test.YtabibkhcdamlhaaDoorInv
import Derived.Deep.RegionHeld3
import Derived.Deep.Cut
set_option linter.unusedSimpArgs false
set_option linter.unusedVariables false
namespace Go.Proofs.YtabibkhcdamlhaaDoor
open Go.RowKit Num

/-- Two values in a row. -/
def duo {α : Type} (a b : α) : Nat → α
  | 0 => a
  | _ => b

/-- The cells of two integers in a row. -/
theorem duo_cells (w : World) (g : Nat) (a b : Bool) (A B : Option Addr) (n m p q : Nat) (hg : w.heap[g]? = some (.cells #[.bool a, .slice A n p, .bool b, .slice B m q] 24 (0, 0))) :
    (∀ i, i < 2 → w.cell? ⟨g, i * 2, none⟩ = some (.bool (duo a b i))) ∧ (∀ i, i < 2 → w.cell? ⟨g, i * 2 + 1, none⟩ = some (.slice (duo A B i) (duo n m i) (duo p q i))) := by
  constructor
  · intro i hi
    rcases (by omega : i = 0 ∨ i = 1) with rfl | rfl <;> simp [World.cell?, hg, duo]
  · intro i hi
    rcases (by omega : i = 0 ∨ i = 1) with rfl | rfl <;> simp [World.cell?, hg, duo]

theorem AddV {neg : Bool} {A : Option Addr} {n c : Nat} {x : Int} {neg2 : Bool} {A2 : Option Addr} {n2 c2 : Nat} {y : Int} {k : Nat} {w : World} {z : Int} (hz : x + y = z) (hx : VI w neg A n c x k) (hy : VI w neg2 A2 n2 c2 y k) (hk : k ≤ 100000000) :
    Calls Tryd.prog 23 #[.agg #[.bool neg, .slice A n c], .agg #[.bool neg2, .slice A2 n2 c2]] w (RetZ w z (k + 1)) := hz ▸ Add_any neg A n c x neg2 A2 n2 c2 y k w hx hy hk

/-- The frame with what the region writes into its slots. -/
def holeRL12 (a : Act) (v55 v56 v57 v58 v59 v60 v61 v62 v63 v64 v65 v66 v67 v68 v69 v70 v71 v72 v73 v74 v75 v76 v77 v78 v79 v80 v4 : Value) : Act := { a with tmps := (((((((((((((((((((((((((((a.tmps.setIfInBounds 55 v55).setIfInBounds 56 v56).setIfInBounds 57 v57).setIfInBounds 58 v58).setIfInBounds 59 v59).setIfInBounds 60 v60).setIfInBounds 61 v61).setIfInBounds 62 v62).setIfInBounds 63 v63).setIfInBounds 64 v64).setIfInBounds 65 v65).setIfInBounds 66 v66).setIfInBounds 67 v67).setIfInBounds 68 v68).setIfInBounds 69 v69).setIfInBounds 70 v70).setIfInBounds 71 v71).setIfInBounds 72 v72).setIfInBounds 73 v73).setIfInBounds 74 v74).setIfInBounds 75 v75).setIfInBounds 76 v76).setIfInBounds 77 v77).setIfInBounds 78 v78).setIfInBounds 79 v79).setIfInBounds 80 v80).setIfInBounds 4 v4) }
/-- The stages of the region. -/
def PRL12 (W0 : World) (z57 z59 z61 z75 z77 : Int) (x55 x56 x58 x60 x74 x76 : Value) (w : World) (v57 v59 v61 v75 v77 : Value) : Nat → Prop
  | 0 => Below W0.heap.size W0 w
  | 1 => Below W0.heap.size W0 w ∧ IV w v57 z57 26
  | 2 => Below W0.heap.size W0 w ∧ IV w v59 z59 27
  | 3 => Below W0.heap.size W0 w ∧ IV w v59 z59 27 ∧ IV w v61 z61 12
  | 4 => Below W0.heap.size W0 w
  | 5 => Below W0.heap.size W0 w
  | 6 => Below W0.heap.size W0 w
  | 7 => Below W0.heap.size W0 w
  | 8 => Below W0.heap.size W0 w
  | 9 => Below W0.heap.size W0 w ∧ IV w v75 z75 13
  | 10 => Below W0.heap.size W0 w ∧ IV w v75 z75 13 ∧ IV w v77 z77 12
  | _ => Below W0.heap.size W0 w
abbrev FRL12 (W0 : World) (z57 z59 z61 z75 z77 : Int) (x55 x56 x58 x60 x74 x76 : Value) (L : Array Bool) (v55 v56 v57 v58 v59 v60 v61 v62 v63 v64 v65 v66 v67 v68 v69 v70 v71 v72 v73 v74 v75 v76 v77 v78 v79 v80 v4 : Value) : Prop := FC L 0 (v55 = x55) ∧ FC L 1 (v56 = x56) ∧ FC L 2 (True) ∧ FC L 3 (v58 = x58) ∧ FC L 4 (True) ∧ FC L 5 (v60 = x60) ∧ FC L 6 (True) ∧ FC L 7 (v62 = (.bool true)) ∧ FC L 8 (v63 = (.bool true)) ∧ FC L 9 (v64 = (.int .i64 0)) ∧ FC L 10 (v65 = (.bool true)) ∧ FC L 11 (v66 = (.bool true)) ∧ FC L 12 (v67 = undef) ∧ FC L 13 (v68 = undef) ∧ FC L 14 (v69 = undef) ∧ FC L 15 (v70 = undef) ∧ FC L 16 (v71 = (.bool true)) ∧ FC L 17 (v72 = (.bool true)) ∧ FC L 18 (v73 = (.bool true)) ∧ FC L 19 (v74 = x74) ∧ FC L 20 (True) ∧ FC L 21 (v76 = x76) ∧ FC L 22 (True) ∧ FC L 23 (v78 = (.int .i64 (-1))) ∧ FC L 24 (v79 = (.bool true)) ∧ FC L 25 (v80 = (.bool true)) ∧ FC L 26 (v4 = (.bool true))
abbrev BRL12 (W0 : World) (z57 z59 z61 z75 z77 : Int) (x55 x56 x58 x60 x74 x76 : Value) (a0 : Act) (L : Array Bool) (a : Act) (w : World) (v55 v56 v57 v58 v59 v60 v61 v62 v63 v64 v65 v66 v67 v68 v69 v70 v71 v72 v73 v74 v75 v76 v77 v78 v79 v80 v4 : Value) : Prop := a = holeRL12 a0 v55 v56 v57 v58 v59 v60 v61 v62 v63 v64 v65 v66 v67 v68 v69 v70 v71 v72 v73 v74 v75 v76 v77 v78 v79 v80 v4 ∧ L.size = 27 ∧ (∃ k, Stg [2, 4, 6, 7, 8, 11, 14, 18, 20, 22, 23] k L ∧ PRL12 W0 z57 z59 z61 z75 z77 x55 x56 x58 x60 x74 x76 w v57 v59 v61 v75 v77 k) ∧ FRL12 W0 z57 z59 z61 z75 z77 x55 x56 x58 x60 x74 x76 L v55 v56 v57 v58 v59 v60 v61 v62 v63 v64 v65 v66 v67 v68 v69 v70 v71 v72 v73 v74 v75 v76 v77 v78 v79 v80 v4
/-- What stands while the region is under way. -/
def IRL12 (W0 : World) (z57 z59 z61 z75 z77 : Int) (x55 x56 x58 x60 x74 x76 : Value) (a0 : Act) (L : Array Bool) (a : Act) (w : World) : Prop :=
  ∃ v55 v56 v57 v58 v59 v60 v61 v62 v63 v64 v65 v66 v67 v68 v69 v70 v71 v72 v73 v74 v75 v76 v77 v78 v79 v80 v4, BRL12 W0 z57 z59 z61 z75 z77 x55 x56 x58 x60 x74 x76 a0 L a w v55 v56 v57 v58 v59 v60 v61 v62 v63 v64 v65 v66 v67 v68 v69 v70 v71 v72 v73 v74 v75 v76 v77 v78 v79 v80 v4

set_option maxRecDepth 100000 in
set_option maxHeartbeats 4000000 in
/-- The law of division, where both have at most 12 groups. -/
theorem divides_short (na : Bool) (A : Option Addr) (n p : Nat) (x : Int) (nb : Bool) (B : Option Addr) (m q : Nat) (y : Int) (w : World)
    (hx : VI w na A n p x 12) (hy : VI w nb B m q y 12) (hp : Pows w) :
    Calls Tryd.prog 6 #[.agg #[.bool na, .slice A n p], .agg #[.bool nb, .slice B m q]] w fun e w' => e = .returned (.bool true) ∧ Below w.heap.size w w' := by
  have hb0 := ((Below.refl w.heap.size w).alloc (Nat.le_refl _) (.cells #[.bool na, .slice A n p] 24)).alloc (by simp) (.cells #[.bool nb, .slice B m q] 24)
  have hn1 := hx.le
  have hn2 := hy.le
  go_enter Tryd.func6, Tryd.ntmps6
  go_upto_region 5 with (first | (go_at_call 11; refine (known_any _ (pows_below hp hb0)).mono ?_; rintro e w1 ⟨rfl, hb2⟩; have hbw1 := hb0.trans (hb2.mono (by simp <;> omega)); obtain ⟨⟨d1, d2, d3, d4⟩, ⟨e1, e2, e3, e4⟩, hsz⟩ := box2s hb2) | (go_at_call 12; refine (short_any w1.heap.size 2 2 (duo na nb) (duo A B) (duo n m) (duo p q) _ (by omega) (by omega) (by omega) (by simp) (fun i hi => (by rcases (by omega : i = 0 ∨ i = 1) with rfl | rfl <;> simp [duo] <;> omega)) (duo_cells _ _ na nb A B n m p q (heap_alloc_new _ _)).1 (duo_cells _ _ na nb A B n m p q (heap_alloc_new _ _)).2).mono ?_; rintro e w2 ⟨⟨b, rfl, hbt⟩, hb3⟩; have hbtr : b = true := (hbt.2 (fun i hi => (by rcases (by omega : i = 0 ∨ i = 1) with rfl | rfl <;> simp [duo] <;> omega))); subst hbtr))
  have hb4 : Below w1.heap.size w1 w2 := ((Below.refl _ w1).alloc (Nat.le_refl _) _).trans (hb3.mono (by simp))
  have hbw2 : Below w.heap.size w w2 := hbw1.trans (hb4.mono (by omega))
  have g1 := (hb4.cell (p := ⟨w.heap.size, 0, none⟩) (by dsimp only; omega)).trans d1
  have g2 := (hb4.cell (p := ⟨w.heap.size, 1, none⟩) (by dsimp only; omega)).trans d2
  have g3 := (hb4.cell (p := ⟨w.heap.size + 1, 0, none⟩) (by dsimp only; omega)).trans d3
  have g4 := (hb4.cell (p := ⟨w.heap.size + 1, 1, none⟩) (by dsimp only; omega)).trans d4
  have l2 : w.heap.size + 1 < w2.heap.size := by have := hb4.size; omega
  clear d1 d2 d3 d4 e1 e2 e3 e4 hsz hbw1 hb3 hb4 hb2 hb0 hbt
  replace hx := hx.below hbw2
  replace hy := hy.below hbw2
  go_upto_region 6 with (go_at_call 36; refine (Divide_any _ _ _ _ x _ _ _ _ y 12 _ hx hy (by omega)).mono ?_; rintro e w3 ⟨b1, A1, n1, c1, b2, A2, n2, c2, cd, rfl, hb5, hd5⟩)
  have l3 : w.heap.size + 1 < w3.heap.size := by have := hb5.size; omega
  have a1 := (Below.refl w3.heap.size w3).alloc (Nat.le_refl _) (.cells #[.bool b1, .slice A1 n1 c1] 24)
  have a2 := a1.alloc (by simp) (.cells #[.bool b2, .slice A2 n2 c2] 24)
  have hbZ := hb5.trans (a2.mono hb5.size)
  have z1 := (Bx.new w3 (.bool b1) (.slice A1 n1 c1) 24).alloc (.cells #[.bool b2, .slice A2 n2 c2] 24)
  have z2 := Bx.new (w3.alloc (.cells #[.bool b1, .slice A1 n1 c1] 24)) (.bool b2) (.slice A2 n2 c2) 24
  simp only [World.size_alloc] at z2
  have i1 : ∀ z k, II w3 b1 A1 n1 c1 z k → II ((w3.alloc (.cells #[.bool b1, .slice A1 n1 c1] 24)).alloc (.cells #[.bool b2, .slice A2 n2 c2] 24)) b1 A1 n1 c1 z k := fun z k h => h.below a2
  have i2 : ∀ z k, II w3 b2 A2 n2 c2 z k → II ((w3.alloc (.cells #[.bool b1, .slice A1 n1 c1] 24)).alloc (.cells #[.bool b2, .slice A2 n2 c2] 24)) b2 A2 n2 c2 z k := fun z k h => h.below a2
  replace hd5 : y = 0 ∧ cd = 14 ∧ II ((w3.alloc (.cells #[.bool b1, .slice A1 n1 c1] 24)).alloc (.cells #[.bool b2, .slice A2 n2 c2] 24)) b1 A1 n1 c1 0 (12 + 2) ∧ II ((w3.alloc (.cells #[.bool b1, .slice A1 n1 c1] 24)).alloc (.cells #[.bool b2, .slice A2 n2 c2] 24)) b2 A2 n2 c2 0 (12 + 1) ∨ y ≠ 0 ∧ cd = 0 ∧ II ((w3.alloc (.cells #[.bool b1, .slice A1 n1 c1] 24)).alloc (.cells #[.bool b2, .slice A2 n2 c2] 24)) b1 A1 n1 c1 (dq x y) (12 + 2) ∧ II ((w3.alloc (.cells #[.bool b1, .slice A1 n1 c1] 24)).alloc (.cells #[.bool b2, .slice A2 n2 c2] 24)) b2 A2 n2 c2 (dr x y) (12 + 1) := by
    rcases hd5 with ⟨h1, h2, h3, h4⟩ | ⟨h1, h2, h3, h4⟩
    · exact .inl ⟨h1, h2, i1 _ _ h3, i2 _ _ h4⟩
    · exact .inr ⟨h1, h2, i1 _ _ h3, i2 _ _ h4⟩
  replace hx := hx.below hbZ
  replace hy := hy.below hbZ
  have t1 := (hbZ.cell (p := ⟨w.heap.size, 0, none⟩) (by dsimp only; omega)).trans g1
  have t2 := (hbZ.cell (p := ⟨w.heap.size, 1, none⟩) (by dsimp only; omega)).trans g2
  have t3 := (hbZ.cell (p := ⟨w.heap.size + 1, 0, none⟩) (by dsimp only; omega)).trans g3
  have t4 := (hbZ.cell (p := ⟨w.heap.size + 1, 1, none⟩) (by dsimp only; omega)).trans g4
  have hbw3 : Below w.heap.size w ((w3.alloc (.cells #[.bool b1, .slice A1 n1 c1] 24)).alloc (.cells #[.bool b2, .slice A2 n2 c2] 24)) := hbw2.trans (hbZ.mono (by omega))
  have l4 : w3.heap.size + 1 < ((w3.alloc (.cells #[.bool b1, .slice A1 n1 c1] 24)).alloc (.cells #[.bool b2, .slice A2 n2 c2] 24)).heap.size := by simp <;> omega
  clear g1 g2 g3 g4 a1 a2 i1 i2 hb5 hbZ hbw2
  generalize (w3.alloc (.cells #[.bool b1, .slice A1 n1 c1] 24)).alloc (.cells #[.bool b2, .slice A2 n2 c2] 24) = Z at *
  generalize w3.heap.size = s3 at *
  go_upto_region 7 with (go_at_call 37; refine (rDivide_any _ _ _ _ x _ _ _ _ y 12 _ hx hy (by omega)).mono ?_; rintro e w4 ⟨b3, A3, n3, c3, b4, A4, n4, c4, cd2, rfl, hb5, hd6⟩)
  have l5 : s3 + 1 < w4.heap.size := by have := hb5.size; omega
  have a1 := (Below.refl w4.heap.size w4).alloc (Nat.le_refl _) (.cells #[.bool b3, .slice A3 n3 c3] 24)
  have a2 := a1.alloc (by simp) (.cells #[.bool b4, .slice A4 n4 c4] 24)
  have hbZ := hb5.trans (a2.mono hb5.size)
  have z3 := (Bx.new w4 (.bool b3) (.slice A3 n3 c3) 24).alloc (.cells #[.bool b4, .slice A4 n4 c4] 24)
  have z4 := Bx.new (w4.alloc (.cells #[.bool b3, .slice A3 n3 c3] 24)) (.bool b4) (.slice A4 n4 c4) 24
  simp only [World.size_alloc] at z4
  replace z1 := z1.below hbZ
  replace z2 := z2.below hbZ
  have i1 : ∀ z k, II w4 b3 A3 n3 c3 z k → II ((w4.alloc (.cells #[.bool b3, .slice A3 n3 c3] 24)).alloc (.cells #[.bool b4, .slice A4 n4 c4] 24)) b3 A3 n3 c3 z k := fun z k h => h.below a2
  have i2 : ∀ z k, II w4 b4 A4 n4 c4 z k → II ((w4.alloc (.cells #[.bool b3, .slice A3 n3 c3] 24)).alloc (.cells #[.bool b4, .slice A4 n4 c4] 24)) b4 A4 n4 c4 z k := fun z k h => h.below a2
  have i3 : ∀ z k, II Z b1 A1 n1 c1 z k → II ((w4.alloc (.cells #[.bool b3, .slice A3 n3 c3] 24)).alloc (.cells #[.bool b4, .slice A4 n4 c4] 24)) b1 A1 n1 c1 z k := fun z k h => h.below hbZ
  have i4 : ∀ z k, II Z b2 A2 n2 c2 z k → II ((w4.alloc (.cells #[.bool b3, .slice A3 n3 c3] 24)).alloc (.cells #[.bool b4, .slice A4 n4 c4] 24)) b2 A2 n2 c2 z k := fun z k h => h.below hbZ
  have hd : (y = 0 ∧ cd = 14 ∧ cd2 = 14 ∧ II ((w4.alloc (.cells #[.bool b3, .slice A3 n3 c3] 24)).alloc (.cells #[.bool b4, .slice A4 n4 c4] 24)) b1 A1 n1 c1 0 14 ∧ II ((w4.alloc (.cells #[.bool b3, .slice A3 n3 c3] 24)).alloc (.cells #[.bool b4, .slice A4 n4 c4] 24)) b2 A2 n2 c2 0 13 ∧ II ((w4.alloc (.cells #[.bool b3, .slice A3 n3 c3] 24)).alloc (.cells #[.bool b4, .slice A4 n4 c4] 24)) b3 A3 n3 c3 0 16 ∧ II ((w4.alloc (.cells #[.bool b3, .slice A3 n3 c3] 24)).alloc (.cells #[.bool b4, .slice A4 n4 c4] 24)) b4 A4 n4 c4 0 32) ∨ (y ≠ 0 ∧ cd = 0 ∧ cd2 = 0 ∧ II ((w4.alloc (.cells #[.bool b3, .slice A3 n3 c3] 24)).alloc (.cells #[.bool b4, .slice A4 n4 c4] 24)) b1 A1 n1 c1 (dq x y) 14 ∧ II ((w4.alloc (.cells #[.bool b3, .slice A3 n3 c3] 24)).alloc (.cells #[.bool b4, .slice A4 n4 c4] 24)) b2 A2 n2 c2 (dr x y) 13 ∧ II ((w4.alloc (.cells #[.bool b3, .slice A3 n3 c3] 24)).alloc (.cells #[.bool b4, .slice A4 n4 c4] 24)) b3 A3 n3 c3 (dq x y) 16 ∧ II ((w4.alloc (.cells #[.bool b3, .slice A3 n3 c3] 24)).alloc (.cells #[.bool b4, .slice A4 n4 c4] 24)) b4 A4 n4 c4 (dr x y) 32) := by
    rcases hd5 with ⟨h1, h2, h3, h4⟩ | ⟨h1, h2, h3, h4⟩
    · rcases hd6 with ⟨h5, h6, h7, h8⟩ | ⟨h5, h6, h7, h8⟩
      · exact .inl ⟨h1, h2, h6, i3 _ _ h3, i4 _ _ h4, i1 _ _ h7, i2 _ _ h8⟩
      · exact absurd h1 h5
    · rcases hd6 with ⟨h5, h6, h7, h8⟩ | ⟨h5, h6, h7, h8⟩
      · exact absurd h5 h1
      · exact .inr ⟨h1, h2, h6, i3 _ _ h3, i4 _ _ h4, i1 _ _ h7, i2 _ _ h8⟩
  replace hx := hx.below hbZ
  replace hy := hy.below hbZ
  replace t1 := (hbZ.cell (p := ⟨w.heap.size, 0, none⟩) (by dsimp only; omega)).trans t1
  replace t2 := (hbZ.cell (p := ⟨w.heap.size, 1, none⟩) (by dsimp only; omega)).trans t2
  replace t3 := (hbZ.cell (p := ⟨w.heap.size + 1, 0, none⟩) (by dsimp only; omega)).trans t3
  replace t4 := (hbZ.cell (p := ⟨w.heap.size + 1, 1, none⟩) (by dsimp only; omega)).trans t4
  have hbY : Below w.heap.size w ((w4.alloc (.cells #[.bool b3, .slice A3 n3 c3] 24)).alloc (.cells #[.bool b4, .slice A4 n4 c4] 24)) := hbw3.trans (hbZ.mono (by omega))
  have l6 : w4.heap.size + 1 < ((w4.alloc (.cells #[.bool b3, .slice A3 n3 c3] 24)).alloc (.cells #[.bool b4, .slice A4 n4 c4] 24)).heap.size := by simp <;> omega
  clear hd5 hd6 a1 a2 i1 i2 i3 i4 hb5 hbZ hbw3
  generalize (w4.alloc (.cells #[.bool b3, .slice A3 n3 c3] 24)).alloc (.cells #[.bool b4, .slice A4 n4 c4] 24) = Y at *
  generalize w4.heap.size = s4 at *
  obtain ⟨x1, x2, -, -, -⟩ := z1
  obtain ⟨x3, x4, -, -, -⟩ := z2
  obtain ⟨x5, x6, -, -, -⟩ := z3
  obtain ⟨x7, x8, -, -, -⟩ := z4
  have keepS : ∀ w', Below Y.heap.size Y w' → w'.cell? ⟨w.heap.size, 0, none⟩ = some (.bool na) ∧ w'.cell? ⟨w.heap.size, 1, none⟩ = some (.slice A n p) ∧ w'.cell? ⟨w.heap.size + 1, 0, none⟩ = some (.bool nb) ∧ w'.cell? ⟨w.heap.size + 1, 1, none⟩ = some (.slice B m q) ∧ w'.cell? ⟨s3, 0, none⟩ = some (.bool b1) ∧ w'.cell? ⟨s3, 1, none⟩ = some (.slice A1 n1 c1) ∧ w'.cell? ⟨s3 + 1, 0, none⟩ = some (.bool b2) ∧ w'.cell? ⟨s3 + 1, 1, none⟩ = some (.slice A2 n2 c2) ∧ w'.cell? ⟨s4, 0, none⟩ = some (.bool b3) ∧ w'.cell? ⟨s4, 1, none⟩ = some (.slice A3 n3 c3) ∧ w'.cell? ⟨s4 + 1, 0, none⟩ = some (.bool b4) ∧ w'.cell? ⟨s4 + 1, 1, none⟩ = some (.slice A4 n4 c4) := by
    intro w' hb
    obtain ⟨hc, -, -⟩ := old3 hb
    exact ⟨(hc _ _ (by omega)).trans t1, (hc _ _ (by omega)).trans t2, (hc _ _ (by omega)).trans t3, (hc _ _ (by omega)).trans t4, (hc _ _ (by omega)).trans x1, (hc _ _ (by omega)).trans x2, (hc _ _ (by omega)).trans x3, (hc _ _ (by omega)).trans x4, (hc _ _ (by omega)).trans x5, (hc _ _ (by omega)).trans x6, (hc _ _ (by omega)).trans x7, (hc _ _ (by omega)).trans x8⟩
  replace keepS := Lib.hid keepS
  rcases hd with ⟨hy0, rfl, rfl, hq, hr, ha, hb⟩ | ⟨hy0, rfl, rfl, hq, hr, ha, hb⟩
  · subst hy0
    have tok1 : True := trivial
    have hs0 : (0 : Int).sign = 0 := rfl
    replace hs0 := Lib.hid hs0
    go_wp2_with (first | (go_at_call 18; have _t := tok1; clear tok1 _t; refine (same_ii _ _ _ _ 0 14 _ _ _ _ 16 _ hq ha (by omega) (by omega)).mono ?_; rintro e w5 ⟨rfl, h5⟩; clear t1 t2 t3 t4 x1 x2 x3 x4 x5 x6 x7 x8; obtain ⟨t1, t2, t3, t4, x1, x2, x3, x4, x5, x6, x7, x8⟩ := keepS.out _ h5) | (go_at_call 18; refine (same_ii _ _ _ _ 0 13 _ _ _ _ 32 _ (hr.below h5) (hb.below h5) (by omega) (by omega)).mono ?_; rintro e w6 ⟨rfl, h6⟩; replace h6 := h5.trans (h6.mono h5.size); clear t1 t2 t3 t4 x1 x2 x3 x4 x5 x6 x7 x8; obtain ⟨t1, t2, t3, t4, x1, x2, x3, x4, x5, x6, x7, x8⟩ := keepS.out _ h6) | (go_at_call 17; refine (rSign_c hs0.out (hy.below h6) (by omega)).mono ?_; rintro e w7 ⟨rfl, h7⟩))
    go_ret
    exact ⟨rfl, hbY.trans ((h6.trans (h7.mono h6.size)).mono (by omega))⟩
  · obtain ⟨hsg, habs⟩ := dr_sign (x := x) hy0
    have hsum : dq x y * y + dr x y = x := by unfold dr; omega
    have hcm : (((dr x y).natAbs : Int) - (y.natAbs : Int)).sign = -1 := sign_neg' (by omega)
    replace hsum := Lib.hid hsum
    replace hcm := Lib.hid hcm
    have tok1 : True := trivial
    clear habs
    by_cases hr0 : dr x y = 0
    · have hsr : (dr x y).sign = 0 := by rw [hr0]; rfl
      replace hsr := Lib.hid hsr
      clear hsg hr0
      go_upto_region 12 with (first | (go_at_call 18; have _t := tok1; clear tok1 _t; refine (same_ii _ _ _ _ (dq x y) 14 _ _ _ _ 16 _ hq ha (by omega) (by omega)).mono ?_; rintro e w5 ⟨rfl, h5⟩; clear t1 t2 t3 t4 x1 x2 x3 x4 x5 x6 x7 x8; obtain ⟨t1, t2, t3, t4, x1, x2, x3, x4, x5, x6, x7, x8⟩ := keepS.out _ h5) | (go_at_call 18; refine (same_ii _ _ _ _ (dr x y) 13 _ _ _ _ 32 _ (hr.below h5) (hb.below h5) (by omega) (by omega)).mono ?_; rintro e w6 ⟨rfl, h6⟩; replace h6 := h5.trans (h6.mono h5.size); clear t1 t2 t3 t4 x1 x2 x3 x4 x5 x6 x7 x8; obtain ⟨t1, t2, t3, t4, x1, x2, x3, x4, x5, x6, x7, x8⟩ := keepS.out _ h6) | (go_at_call 16; refine (Sign_c hsr.out (hr.below h6).vi (by omega)).mono ?_; rintro e w7 ⟨rfl, h7⟩; replace h7 := h6.trans (h7.mono h6.size); have hs7 := h7.size; clear t1 t2 t3 t4 x1 x2 x3 x4 x5 x6 x7 x8; obtain ⟨t1, t2, t3, t4, x1, x2, x3, x4, x5, x6, x7, x8⟩ := keepS.out _ h7))
      rename_i KQ hKQ
      have hcell : ∀ w', Below w7.heap.size w7 w' → w'.cell? ⟨w.heap.size, 0, none⟩ = some (.bool na) ∧ w'.cell? ⟨w.heap.size, 1, none⟩ = some (.slice A n p) ∧ w'.cell? ⟨w.heap.size + 1, 0, none⟩ = some (.bool nb) ∧ w'.cell? ⟨w.heap.size + 1, 1, none⟩ = some (.slice B m q) ∧ w'.cell? ⟨s3, 0, none⟩ = some (.bool b1) ∧ w'.cell? ⟨s3, 1, none⟩ = some (.slice A1 n1 c1) ∧ w'.cell? ⟨s3 + 1, 0, none⟩ = some (.bool b2) ∧ w'.cell? ⟨s3 + 1, 1, none⟩ = some (.slice A2 n2 c2) := by
        intro w' hb'
        obtain ⟨hc, -, -⟩ := old3 hb'
        exact ⟨(hc _ _ (by omega)).trans t1, (hc _ _ (by omega)).trans t2, (hc _ _ (by omega)).trans t3, (hc _ _ (by omega)).trans t4, (hc _ _ (by omega)).trans x1, (hc _ _ (by omega)).trans x2, (hc _ _ (by omega)).trans x3, (hc _ _ (by omega)).trans x4⟩
      have hqW := hq.below h7
      have hrW := hr.below h7
      have hxW := hx.below h7
      have hyW := hy.below h7
      replace hcell := Lib.hid hcell
      clear t1 t2 t3 t4 x1 x2 x3 x4 x5 x6 x7 x8
      have hgood : ∀ (wg : World) (v57 v59 v61 v75 v77 : Value) (k : Nat), k ≤ 11 → PRL12 w7 (dq x y * y) x x ((dr x y).natAbs : Int) (y.natAbs : Int) (.agg #[.bool b1, .slice A1 n1 c1]) (.agg #[.bool nb, .slice B m q]) (.agg #[.bool b2, .slice A2 n2 c2]) (.agg #[.bool na, .slice A n p]) (.agg #[.bool b2, .slice A2 n2 c2]) (.agg #[.bool nb, .slice B m q]) wg v57 v59 v61 v75 v77 k → wg.cell? ⟨w.heap.size, 0, none⟩ = some (.bool na) ∧ wg.cell? ⟨w.heap.size, 1, none⟩ = some (.slice A n p) ∧ wg.cell? ⟨w.heap.size + 1, 0, none⟩ = some (.bool nb) ∧ wg.cell? ⟨w.heap.size + 1, 1, none⟩ = some (.slice B m q) ∧ wg.cell? ⟨s3, 0, none⟩ = some (.bool b1) ∧ wg.cell? ⟨s3, 1, none⟩ = some (.slice A1 n1 c1) ∧ wg.cell? ⟨s3 + 1, 0, none⟩ = some (.bool b2) ∧ wg.cell? ⟨s3 + 1, 1, none⟩ = some (.slice A2 n2 c2) := by
        intro wg v57 v59 v61 v75 v77 k hk hg
        rcases (by omega : k = 0 ∨ k = 1 ∨ k = 2 ∨ k = 3 ∨ k = 4 ∨ k = 5 ∨ k = 6 ∨ k = 7 ∨ k = 8 ∨ k = 9 ∨ k = 10 ∨ k = 11) with rfl | rfl | rfl | rfl | rfl | rfl | rfl | rfl | rfl | rfl | rfl | rfl
        · simp only [PRL12] at hg
          exact hcell.out _ (hg)
        · simp only [PRL12] at hg
          exact hcell.out _ (hg).1
        · simp only [PRL12] at hg
          exact hcell.out _ (hg).1
        · simp only [PRL12] at hg
          exact hcell.out _ (hg).1
        · simp only [PRL12] at hg
          exact hcell.out _ (hg)
        · simp only [PRL12] at hg
          exact hcell.out _ (hg)
        · simp only [PRL12] at hg
          exact hcell.out _ (hg)
        · simp only [PRL12] at hg
          exact hcell.out _ (hg)
        · simp only [PRL12] at hg
          exact hcell.out _ (hg)
        · simp only [PRL12] at hg
          exact hcell.out _ (hg).1
        · simp only [PRL12] at hg
          exact hcell.out _ (hg).1
        · simp only [PRL12] at hg
          exact hcell.out _ (hg)
      replace hgood := Lib.hid hgood
      refine wp_region_inv0 (I0 := IRL12 w7 (dq x y * y) x x ((dr x y).natAbs : Int) (y.natAbs : Int) (.agg #[.bool b1, .slice A1 n1 c1]) (.agg #[.bool nb, .slice B m q]) (.agg #[.bool b2, .slice A2 n2 c2]) (.agg #[.bool na, .slice A n p]) (.agg #[.bool b2, .slice A2 n2 c2]) (.agg #[.bool nb, .slice B m q])) (by kernel_rfl) (by kernel_rfl) ?_ ?_ ?_ ?_
      · intro L a w1 hI
        unfold IRL12 at hI
        obtain ⟨v55, v56, v57, v58, v59, v60, v61, v62, v63, v64, v65, v66, v67, v68, v69, v70, v71, v72, v73, v74, v75, v76, v77, v78, v79, v80, v4, hI⟩ := hI
        exact hI.2.1
      · exact ⟨undef, undef, undef, undef, undef, undef, undef, undef, undef, undef, undef, undef, undef, undef, undef, undef, undef, undef, undef, undef, undef, undef, undef, undef, undef, undef, (.bool false), (by simp only [holeRL12, Act.put, List.setIfInBounds_toArray, List.set_cons_zero, List.set_cons_succ]), by simp, ⟨0, stg_start, (by simp only [PRL12]; exact (Below.refl _ _).drew)⟩, FC.start, FC.start, FC.start, FC.start, FC.start, FC.start, FC.start, FC.start, FC.start, FC.start, FC.start, FC.start, FC.start, FC.start, FC.start, FC.start, FC.start, FC.start, FC.start, FC.start, FC.start, FC.start, FC.start, FC.start, FC.start, FC.start, FC.start⟩
      · refine steps_cons ?_ (steps_cons ?_ (steps_cons ?_ (steps_cons ?_ (steps_cons ?_ (steps_cons ?_ (steps_cons ?_ (steps_cons ?_ (steps_cons ?_ (steps_cons ?_ (steps_cons ?_ (steps_cons ?_ (steps_cons ?_ (steps_cons ?_ (steps_cons ?_ (steps_cons ?_ (steps_cons ?_ (steps_cons ?_ (steps_cons ?_ (steps_cons ?_ (steps_cons ?_ (steps_cons ?_ (steps_cons ?_ (steps_cons ?_ (steps_cons ?_ (steps_cons ?_ (steps_cons ?_ (steps_nil)))))))))))))))))))))))))))
        · unfold StepAt
          intro L a w1 KK hI hi ha hKK
          unfold IRL12 at hI
          obtain ⟨v55, v56, v57, v58, v59, v60, v61, v62, v63, v64, v65, v66, v67, v68, v69, v70, v71, v72, v73, v74, v75, v76, v77, v78, v79, v80, v4, hI⟩ := hI
          obtain ⟨hae, hsz, hS, hF⟩ := hI
          obtain ⟨l0_, l1_, l2_, l3_, l4_, l5_, l6_, l7_, l8_, l9_, l10_, l11_, l12_, l13_, l14_, l15_, l16_, l17_, l18_, l19_, l20_, l21_, l22_, l23_, l24_, l25_, l26_⟩ := hF
          obtain ⟨kg_, hkg_, hPg_⟩ := id hS
          obtain ⟨j1, j2, j3, j4, j5, j6, j7, j8⟩ := hgood.out _ _ _ _ _ _ _ hkg_.1 hPg_
          clear hkg_ hPg_
          replace hS := Lib.hid hS
          replace l0_ := Lib.hid l0_
          replace l1_ := Lib.hid l1_
          replace l2_ := Lib.hid l2_
          replace l3_ := Lib.hid l3_
          replace l4_ := Lib.hid l4_
          replace l5_ := Lib.hid l5_
          replace l6_ := Lib.hid l6_
          replace l7_ := Lib.hid l7_
          replace l8_ := Lib.hid l8_
          replace l9_ := Lib.hid l9_
          replace l10_ := Lib.hid l10_
          replace l11_ := Lib.hid l11_
          replace l12_ := Lib.hid l12_
          replace l13_ := Lib.hid l13_
          replace l14_ := Lib.hid l14_
          replace l15_ := Lib.hid l15_
          replace l16_ := Lib.hid l16_
          replace l17_ := Lib.hid l17_
          replace l18_ := Lib.hid l18_
          replace l19_ := Lib.hid l19_
          replace l20_ := Lib.hid l20_
          replace l21_ := Lib.hid l21_
          replace l22_ := Lib.hid l22_
          replace l23_ := Lib.hid l23_
          replace l24_ := Lib.hid l24_
          replace l25_ := Lib.hid l25_
          replace l26_ := Lib.hid l26_
          rw [hae]
          clear hae
          simp only [holeRL12, List.setIfInBounds_toArray, List.set_cons_zero, List.set_cons_succ]
          go_simp
          exact hKK _ _ ⟨(.agg #[.bool b1, .slice A1 n1 c1]), v56, v57, v58, v59, v60, v61, v62, v63, v64, v65, v66, v67, v68, v69, v70, v71, v72, v73, v74, v75, v76, v77, v78, v79, v80, v4, (by simp only [holeRL12, Act.put, List.setIfInBounds_toArray, List.set_cons_zero, List.set_cons_succ]), by simpa using hsz, (by obtain ⟨k_, a_, b_⟩ := hS.out; exact ⟨k_, stg_keep a_ rfl, b_⟩), FC.put rfl, l1_.out.keep (by decide), l2_.out.keep (by decide), l3_.out.keep (by decide), l4_.out.keep (by decide), l5_.out.keep (by decide), l6_.out.keep (by decide), l7_.out.keep (by decide), l8_.out.keep (by decide), l9_.out.keep (by decide), l10_.out.keep (by decide), l11_.out.keep (by decide), l12_.out.keep (by decide), l13_.out.keep (by decide), l14_.out.keep (by decide), l15_.out.keep (by decide), l16_.out.keep (by decide), l17_.out.keep (by decide), l18_.out.keep (by decide), l19_.out.keep (by decide), l20_.out.keep (by decide), l21_.out.keep (by decide), l22_.out.keep (by decide), l23_.out.keep (by decide), l24_.out.keep (by decide), l25_.out.keep (by decide), l26_.out.keep (by decide)⟩
        · unfold StepAt
          intro L a w1 KK hI hi ha hKK
          unfold IRL12 at hI
          obtain ⟨v55, v56, v57, v58, v59, v60, v61, v62, v63, v64, v65, v66, v67, v68, v69, v70, v71, v72, v73, v74, v75, v76, v77, v78, v79, v80, v4, hI⟩ := hI
          obtain ⟨hae, hsz, hS, hF⟩ := hI
          obtain ⟨l0_, l1_, l2_, l3_, l4_, l5_, l6_, l7_, l8_, l9_, l10_, l11_, l12_, l13_, l14_, l15_, l16_, l17_, l18_, l19_, l20_, l21_, l22_, l23_, l24_, l25_, l26_⟩ := hF
          obtain ⟨kg_, hkg_, hPg_⟩ := id hS
          obtain ⟨j1, j2, j3, j4, j5, j6, j7, j8⟩ := hgood.out _ _ _ _ _ _ _ hkg_.1 hPg_
          clear hkg_ hPg_
          replace hS := Lib.hid hS
          replace l0_ := Lib.hid l0_
          replace l1_ := Lib.hid l1_
          replace l2_ := Lib.hid l2_
          replace l3_ := Lib.hid l3_
          replace l4_ := Lib.hid l4_
          replace l5_ := Lib.hid l5_
          replace l6_ := Lib.hid l6_
          replace l7_ := Lib.hid l7_
          replace l8_ := Lib.hid l8_
          replace l9_ := Lib.hid l9_
          replace l10_ := Lib.hid l10_
          replace l11_ := Lib.hid l11_
          replace l12_ := Lib.hid l12_
          replace l13_ := Lib.hid l13_
          replace l14_ := Lib.hid l14_
          replace l15_ := Lib.hid l15_
          replace l16_ := Lib.hid l16_
          replace l17_ := Lib.hid l17_
          replace l18_ := Lib.hid l18_
          replace l19_ := Lib.hid l19_
          replace l20_ := Lib.hid l20_
          replace l21_ := Lib.hid l21_
          replace l22_ := Lib.hid l22_
          replace l23_ := Lib.hid l23_
          replace l24_ := Lib.hid l24_
          replace l25_ := Lib.hid l25_
          replace l26_ := Lib.hid l26_
          rw [hae]
          clear hae
          simp only [holeRL12, List.setIfInBounds_toArray, List.set_cons_zero, List.set_cons_succ]
          go_simp
          exact hKK _ _ ⟨v55, (.agg #[.bool nb, .slice B m q]), v57, v58, v59, v60, v61, v62, v63, v64, v65, v66, v67, v68, v69, v70, v71, v72, v73, v74, v75, v76, v77, v78, v79, v80, v4, (by simp only [holeRL12, Act.put, List.setIfInBounds_toArray, List.set_cons_zero, List.set_cons_succ]), by simpa using hsz, (by obtain ⟨k_, a_, b_⟩ := hS.out; exact ⟨k_, stg_keep a_ rfl, b_⟩), l0_.out.keep (by decide), FC.put rfl, l2_.out.keep (by decide), l3_.out.keep (by decide), l4_.out.keep (by decide), l5_.out.keep (by decide), l6_.out.keep (by decide), l7_.out.keep (by decide), l8_.out.keep (by decide), l9_.out.keep (by decide), l10_.out.keep (by decide), l11_.out.keep (by decide), l12_.out.keep (by decide), l13_.out.keep (by decide), l14_.out.keep (by decide), l15_.out.keep (by decide), l16_.out.keep (by decide), l17_.out.keep (by decide), l18_.out.keep (by decide), l19_.out.keep (by decide), l20_.out.keep (by decide), l21_.out.keep (by decide), l22_.out.keep (by decide), l23_.out.keep (by decide), l24_.out.keep (by decide), l25_.out.keep (by decide), l26_.out.keep (by decide)⟩
        · unfold StepAt
          intro L a w1 KK hI hi ha hKK
          unfold IRL12 at hI
          obtain ⟨v55, v56, v57, v58, v59, v60, v61, v62, v63, v64, v65, v66, v67, v68, v69, v70, v71, v72, v73, v74, v75, v76, v77, v78, v79, v80, v4, hI⟩ := hI
          obtain ⟨hae, hsz, hS, hF⟩ := hI
          obtain ⟨l0_, l1_, l2_, l3_, l4_, l5_, l6_, l7_, l8_, l9_, l10_, l11_, l12_, l13_, l14_, l15_, l16_, l17_, l18_, l19_, l20_, l21_, l22_, l23_, l24_, l25_, l26_⟩ := hF
          obtain ⟨k_, hk_, hP⟩ := hS
          have ek_ := stg_zero hk_ rfl hi (by omega)
          subst ek_
          simp only [PRL12] at hP
          have e0 := l0_ (waits ha 0 rfl)
          subst e0
          have e1 := l1_ (waits ha 1 rfl)
          subst e1
          have hbl := hP
          replace hk_ := Lib.hid hk_
          replace l0_ := Lib.hid l0_
          replace l1_ := Lib.hid l1_
          replace l2_ := Lib.hid l2_
          replace l3_ := Lib.hid l3_
          replace l4_ := Lib.hid l4_
          replace l5_ := Lib.hid l5_
          replace l6_ := Lib.hid l6_
          replace l7_ := Lib.hid l7_
          replace l8_ := Lib.hid l8_
          replace l9_ := Lib.hid l9_
          replace l10_ := Lib.hid l10_
          replace l11_ := Lib.hid l11_
          replace l12_ := Lib.hid l12_
          replace l13_ := Lib.hid l13_
          replace l14_ := Lib.hid l14_
          replace l15_ := Lib.hid l15_
          replace l16_ := Lib.hid l16_
          replace l17_ := Lib.hid l17_
          replace l18_ := Lib.hid l18_
          replace l19_ := Lib.hid l19_
          replace l20_ := Lib.hid l20_
          replace l21_ := Lib.hid l21_
          replace l22_ := Lib.hid l22_
          replace l23_ := Lib.hid l23_
          replace l24_ := Lib.hid l24_
          replace l25_ := Lib.hid l25_
          replace l26_ := Lib.hid l26_
          rw [hae]
          clear hae
          simp only [holeRL12, List.setIfInBounds_toArray, List.set_cons_zero, List.set_cons_succ]
          replace hKK := Lib.hid hKK
          go_wp2_with (go_at_call 32; refine (Mul_any _ _ _ _ (dq x y) _ _ _ _ y 14 12 w1 (hqW.below hbl).vi (hyW.below hbl) (by omega) (by omega) (by omega)).mono ?_; rintro e w7' ⟨neg7, A17, n17, c17, rfl, hi7, hb17⟩)
          exact hKK.out _ _ ⟨(.agg #[.bool b1, .slice A1 n1 c1]), (.agg #[.bool nb, .slice B m q]), (.agg #[.bool neg7, .slice A17 n17 c17]), v58, v59, v60, v61, v62, v63, v64, v65, v66, v67, v68, v69, v70, v71, v72, v73, v74, v75, v76, v77, v78, v79, v80, v4, (by simp only [holeRL12, Act.put, List.setIfInBounds_toArray, List.set_cons_zero, List.set_cons_succ]), by simpa using hsz, ⟨1, stg_next hk_.out rfl (by decide) (by omega), (by simp only [PRL12]; exact ⟨hbl.trans (hb17.mono hbl.size), _, _, _, _, rfl, hi7⟩)⟩, FC.put rfl, FC.put rfl, FC.put trivial, l3_.out.keep (by decide), l4_.out.keep (by decide), l5_.out.keep (by decide), l6_.out.keep (by decide), l7_.out.keep (by decide), l8_.out.keep (by decide), l9_.out.keep (by decide), l10_.out.keep (by decide), l11_.out.keep (by decide), l12_.out.keep (by decide), l13_.out.keep (by decide), l14_.out.keep (by decide), l15_.out.keep (by decide), l16_.out.keep (by decide), l17_.out.keep (by decide), l18_.out.keep (by decide), l19_.out.keep (by decide), l20_.out.keep (by decide), l21_.out.keep (by decide), l22_.out.keep (by decide), l23_.out.keep (by decide), l24_.out.keep (by decide), l25_.out.keep (by decide), l26_.out.keep (by decide)⟩
        · unfold StepAt
          intro L a w1 KK hI hi ha hKK
          unfold IRL12 at hI
          obtain ⟨v55, v56, v57, v58, v59, v60, v61, v62, v63, v64, v65, v66, v67, v68, v69, v70, v71, v72, v73, v74, v75, v76, v77, v78, v79, v80, v4, hI⟩ := hI
          obtain ⟨hae, hsz, hS, hF⟩ := hI
          obtain ⟨l0_, l1_, l2_, l3_, l4_, l5_, l6_, l7_, l8_, l9_, l10_, l11_, l12_, l13_, l14_, l15_, l16_, l17_, l18_, l19_, l20_, l21_, l22_, l23_, l24_, l25_, l26_⟩ := hF
          obtain ⟨kg_, hkg_, hPg_⟩ := id hS
          obtain ⟨j1, j2, j3, j4, j5, j6, j7, j8⟩ := hgood.out _ _ _ _ _ _ _ hkg_.1 hPg_
          clear hkg_ hPg_
          replace hS := Lib.hid hS
          replace l0_ := Lib.hid l0_
          replace l1_ := Lib.hid l1_
          replace l2_ := Lib.hid l2_
          replace l3_ := Lib.hid l3_
          replace l4_ := Lib.hid l4_
          replace l5_ := Lib.hid l5_
          replace l6_ := Lib.hid l6_
          replace l7_ := Lib.hid l7_
          replace l8_ := Lib.hid l8_
          replace l9_ := Lib.hid l9_
          replace l10_ := Lib.hid l10_
          replace l11_ := Lib.hid l11_
          replace l12_ := Lib.hid l12_
          replace l13_ := Lib.hid l13_
          replace l14_ := Lib.hid l14_
          replace l15_ := Lib.hid l15_
          replace l16_ := Lib.hid l16_
          replace l17_ := Lib.hid l17_
          replace l18_ := Lib.hid l18_
          replace l19_ := Lib.hid l19_
          replace l20_ := Lib.hid l20_
          replace l21_ := Lib.hid l21_
          replace l22_ := Lib.hid l22_
          replace l23_ := Lib.hid l23_
          replace l24_ := Lib.hid l24_
          replace l25_ := Lib.hid l25_
          replace l26_ := Lib.hid l26_
          rw [hae]
          clear hae
          simp only [holeRL12, List.setIfInBounds_toArray, List.set_cons_zero, List.set_cons_succ]
          go_simp
          exact hKK _ _ ⟨v55, v56, v57, (.agg #[.bool b2, .slice A2 n2 c2]), v59, v60, v61, v62, v63, v64, v65, v66, v67, v68, v69, v70, v71, v72, v73, v74, v75, v76, v77, v78, v79, v80, v4, (by simp only [holeRL12, Act.put, List.setIfInBounds_toArray, List.set_cons_zero, List.set_cons_succ]), by simpa using hsz, (by obtain ⟨k_, a_, b_⟩ := hS.out; exact ⟨k_, stg_keep a_ rfl, b_⟩), l0_.out.keep (by decide), l1_.out.keep (by decide), l2_.out.keep (by decide), FC.put rfl, l4_.out.keep (by decide), l5_.out.keep (by decide), l6_.out.keep (by decide), l7_.out.keep (by decide), l8_.out.keep (by decide), l9_.out.keep (by decide), l10_.out.keep (by decide), l11_.out.keep (by decide), l12_.out.keep (by decide), l13_.out.keep (by decide), l14_.out.keep (by decide), l15_.out.keep (by decide), l16_.out.keep (by decide), l17_.out.keep (by decide), l18_.out.keep (by decide), l19_.out.keep (by decide), l20_.out.keep (by decide), l21_.out.keep (by decide), l22_.out.keep (by decide), l23_.out.keep (by decide), l24_.out.keep (by decide), l25_.out.keep (by decide), l26_.out.keep (by decide)⟩
        · unfold StepAt
          intro L a w1 KK hI hi ha hKK
          unfold IRL12 at hI
          obtain ⟨v55, v56, v57, v58, v59, v60, v61, v62, v63, v64, v65, v66, v67, v68, v69, v70, v71, v72, v73, v74, v75, v76, v77, v78, v79, v80, v4, hI⟩ := hI
          obtain ⟨hae, hsz, hS, hF⟩ := hI
          obtain ⟨l0_, l1_, l2_, l3_, l4_, l5_, l6_, l7_, l8_, l9_, l10_, l11_, l12_, l13_, l14_, l15_, l16_, l17_, l18_, l19_, l20_, l21_, l22_, l23_, l24_, l25_, l26_⟩ := hF
          obtain ⟨k_, hk_, hP⟩ := hS
          have ek_ := stg_at 0 hk_ rfl rfl hi (by omega) (waits ha 2 rfl)
          subst ek_
          simp only [PRL12] at hP
          have e2 := l2_ (waits ha 2 rfl)
          clear e2
          have e3 := l3_ (waits ha 3 rfl)
          subst e3
          obtain ⟨hbl, ⟨b5, A15, n15, c15, e1_, hi5⟩⟩ := hP
          subst e1_
          replace hk_ := Lib.hid hk_
          replace l0_ := Lib.hid l0_
          replace l1_ := Lib.hid l1_
          replace l2_ := Lib.hid l2_
          replace l3_ := Lib.hid l3_
          replace l4_ := Lib.hid l4_
          replace l5_ := Lib.hid l5_
          replace l6_ := Lib.hid l6_
          replace l7_ := Lib.hid l7_
          replace l8_ := Lib.hid l8_
          replace l9_ := Lib.hid l9_
          replace l10_ := Lib.hid l10_
          replace l11_ := Lib.hid l11_
          replace l12_ := Lib.hid l12_
          replace l13_ := Lib.hid l13_
          replace l14_ := Lib.hid l14_
          replace l15_ := Lib.hid l15_
          replace l16_ := Lib.hid l16_
          replace l17_ := Lib.hid l17_
          replace l18_ := Lib.hid l18_
          replace l19_ := Lib.hid l19_
          replace l20_ := Lib.hid l20_
          replace l21_ := Lib.hid l21_
          replace l22_ := Lib.hid l22_
          replace l23_ := Lib.hid l23_
          replace l24_ := Lib.hid l24_
          replace l25_ := Lib.hid l25_
          replace l26_ := Lib.hid l26_
          rw [hae]
          clear hae
          simp only [holeRL12, List.setIfInBounds_toArray, List.set_cons_zero, List.set_cons_succ]
          replace hKK := Lib.hid hKK
          go_wp2_with (go_at_call 23; refine (AddV hsum.out hi5.vi ((hrW.below hbl).mono (by omega)).vi (by omega)).mono ?_; rintro e w7' ⟨neg7, A17, n17, c17, rfl, hi7, hb17⟩)
          exact hKK.out _ _ ⟨v55, v56, (.agg #[.bool b5, .slice A15 n15 c15]), (.agg #[.bool b2, .slice A2 n2 c2]), (.agg #[.bool neg7, .slice A17 n17 c17]), v60, v61, v62, v63, v64, v65, v66, v67, v68, v69, v70, v71, v72, v73, v74, v75, v76, v77, v78, v79, v80, v4, (by simp only [holeRL12, Act.put, List.setIfInBounds_toArray, List.set_cons_zero, List.set_cons_succ]), by simpa using hsz, ⟨2, stg_next hk_.out rfl (by decide) (by omega), (by simp only [PRL12]; exact ⟨hbl.trans (hb17.mono hbl.size), _, _, _, _, rfl, hi7⟩)⟩, l0_.out.keep (by decide), l1_.out.keep (by decide), FC.put trivial, FC.put rfl, FC.put trivial, l5_.out.keep (by decide), l6_.out.keep (by decide), l7_.out.keep (by decide), l8_.out.keep (by decide), l9_.out.keep (by decide), l10_.out.keep (by decide), l11_.out.keep (by decide), l12_.out.keep (by decide), l13_.out.keep (by decide), l14_.out.keep (by decide), l15_.out.keep (by decide), l16_.out.keep (by decide), l17_.out.keep (by decide), l18_.out.keep (by decide), l19_.out.keep (by decide), l20_.out.keep (by decide), l21_.out.keep (by decide), l22_.out.keep (by decide), l23_.out.keep (by decide), l24_.out.keep (by decide), l25_.out.keep (by decide), l26_.out.keep (by decide)⟩
        · unfold StepAt
          intro L a w1 KK hI hi ha hKK
          unfold IRL12 at hI
          obtain ⟨v55, v56, v57, v58, v59, v60, v61, v62, v63, v64, v65, v66, v67, v68, v69, v70, v71, v72, v73, v74, v75, v76, v77, v78, v79, v80, v4, hI⟩ := hI
          obtain ⟨hae, hsz, hS, hF⟩ := hI
          obtain ⟨l0_, l1_, l2_, l3_, l4_, l5_, l6_, l7_, l8_, l9_, l10_, l11_, l12_, l13_, l14_, l15_, l16_, l17_, l18_, l19_, l20_, l21_, l22_, l23_, l24_, l25_, l26_⟩ := hF
          obtain ⟨kg_, hkg_, hPg_⟩ := id hS
          obtain ⟨j1, j2, j3, j4, j5, j6, j7, j8⟩ := hgood.out _ _ _ _ _ _ _ hkg_.1 hPg_
          clear hkg_ hPg_
          replace hS := Lib.hid hS
          replace l0_ := Lib.hid l0_
          replace l1_ := Lib.hid l1_
          replace l2_ := Lib.hid l2_
          replace l3_ := Lib.hid l3_
          replace l4_ := Lib.hid l4_
          replace l5_ := Lib.hid l5_
          replace l6_ := Lib.hid l6_
          replace l7_ := Lib.hid l7_
          replace l8_ := Lib.hid l8_
          replace l9_ := Lib.hid l9_
          replace l10_ := Lib.hid l10_
          replace l11_ := Lib.hid l11_
          replace l12_ := Lib.hid l12_
          replace l13_ := Lib.hid l13_
          replace l14_ := Lib.hid l14_
          replace l15_ := Lib.hid l15_
          replace l16_ := Lib.hid l16_
          replace l17_ := Lib.hid l17_
          replace l18_ := Lib.hid l18_
          replace l19_ := Lib.hid l19_
          replace l20_ := Lib.hid l20_
          replace l21_ := Lib.hid l21_
          replace l22_ := Lib.hid l22_
          replace l23_ := Lib.hid l23_
          replace l24_ := Lib.hid l24_
          replace l25_ := Lib.hid l25_
          replace l26_ := Lib.hid l26_
          rw [hae]
          clear hae
          simp only [holeRL12, List.setIfInBounds_toArray, List.set_cons_zero, List.set_cons_succ]
          go_simp
          exact hKK _ _ ⟨v55, v56, v57, v58, v59, (.agg #[.bool na, .slice A n p]), v61, v62, v63, v64, v65, v66, v67, v68, v69, v70, v71, v72, v73, v74, v75, v76, v77, v78, v79, v80, v4, (by simp only [holeRL12, Act.put, List.setIfInBounds_toArray, List.set_cons_zero, List.set_cons_succ]), by simpa using hsz, (by obtain ⟨k_, a_, b_⟩ := hS.out; exact ⟨k_, stg_keep a_ rfl, b_⟩), l0_.out.keep (by decide), l1_.out.keep (by decide), l2_.out.keep (by decide), l3_.out.keep (by decide), l4_.out.keep (by decide), FC.put rfl, l6_.out.keep (by decide), l7_.out.keep (by decide), l8_.out.keep (by decide), l9_.out.keep (by decide), l10_.out.keep (by decide), l11_.out.keep (by decide), l12_.out.keep (by decide), l13_.out.keep (by decide), l14_.out.keep (by decide), l15_.out.keep (by decide), l16_.out.keep (by decide), l17_.out.keep (by decide), l18_.out.keep (by decide), l19_.out.keep (by decide), l20_.out.keep (by decide), l21_.out.keep (by decide), l22_.out.keep (by decide), l23_.out.keep (by decide), l24_.out.keep (by decide), l25_.out.keep (by decide), l26_.out.keep (by decide)⟩
        · unfold StepAt
          intro L a w1 KK hI hi ha hKK
          unfold IRL12 at hI
          obtain ⟨v55, v56, v57, v58, v59, v60, v61, v62, v63, v64, v65, v66, v67, v68, v69, v70, v71, v72, v73, v74, v75, v76, v77, v78, v79, v80, v4, hI⟩ := hI
          obtain ⟨hae, hsz, hS, hF⟩ := hI
          obtain ⟨l0_, l1_, l2_, l3_, l4_, l5_, l6_, l7_, l8_, l9_, l10_, l11_, l12_, l13_, l14_, l15_, l16_, l17_, l18_, l19_, l20_, l21_, l22_, l23_, l24_, l25_, l26_⟩ := hF
          obtain ⟨k_, hk_, hP⟩ := hS
          have ek_ := stg_at 1 hk_ rfl rfl hi (by omega) (waits ha 4 rfl)
          subst ek_
          simp only [PRL12] at hP
          have e5 := l5_ (waits ha 5 rfl)
          subst e5
          obtain ⟨hbl, hiv⟩ := hP
          replace hk_ := Lib.hid hk_
          replace l0_ := Lib.hid l0_
          replace l1_ := Lib.hid l1_
          replace l2_ := Lib.hid l2_
          replace l3_ := Lib.hid l3_
          replace l4_ := Lib.hid l4_
          replace l5_ := Lib.hid l5_
          replace l6_ := Lib.hid l6_
          replace l7_ := Lib.hid l7_
          replace l8_ := Lib.hid l8_
          replace l9_ := Lib.hid l9_
          replace l10_ := Lib.hid l10_
          replace l11_ := Lib.hid l11_
          replace l12_ := Lib.hid l12_
          replace l13_ := Lib.hid l13_
          replace l14_ := Lib.hid l14_
          replace l15_ := Lib.hid l15_
          replace l16_ := Lib.hid l16_
          replace l17_ := Lib.hid l17_
          replace l18_ := Lib.hid l18_
          replace l19_ := Lib.hid l19_
          replace l20_ := Lib.hid l20_
          replace l21_ := Lib.hid l21_
          replace l22_ := Lib.hid l22_
          replace l23_ := Lib.hid l23_
          replace l24_ := Lib.hid l24_
          replace l25_ := Lib.hid l25_
          replace l26_ := Lib.hid l26_
          rw [hae]
          clear hae
          simp only [holeRL12, List.setIfInBounds_toArray, List.set_cons_zero, List.set_cons_succ]
          replace hKK := Lib.hid hKK
          go_wp2_with (go_at_call 13; refine (Value_any _ _ _ _ x 12 w1 (hxW.below hbl) (by omega)).mono ?_; rintro e w7' ⟨neg7, A17, n17, c17, rfl, hi7, hb17⟩)
          exact hKK.out _ _ ⟨v55, v56, v57, v58, v59, (.agg #[.bool na, .slice A n p]), (.agg #[.bool neg7, .slice A17 n17 c17]), v62, v63, v64, v65, v66, v67, v68, v69, v70, v71, v72, v73, v74, v75, v76, v77, v78, v79, v80, v4, (by simp only [holeRL12, Act.put, List.setIfInBounds_toArray, List.set_cons_zero, List.set_cons_succ]), by simpa using hsz, ⟨3, stg_next hk_.out rfl (by decide) (by omega), (by simp only [PRL12]; exact ⟨hbl.trans (hb17.mono hbl.size), hiv.below hb17, _, _, _, _, rfl, hi7⟩)⟩, l0_.out.keep (by decide), l1_.out.keep (by decide), l2_.out.keep (by decide), l3_.out.keep (by decide), l4_.out.keep (by decide), FC.put rfl, FC.put trivial, l7_.out.keep (by decide), l8_.out.keep (by decide), l9_.out.keep (by decide), l10_.out.keep (by decide), l11_.out.keep (by decide), l12_.out.keep (by decide), l13_.out.keep (by decide), l14_.out.keep (by decide), l15_.out.keep (by decide), l16_.out.keep (by decide), l17_.out.keep (by decide), l18_.out.keep (by decide), l19_.out.keep (by decide), l20_.out.keep (by decide), l21_.out.keep (by decide), l22_.out.keep (by decide), l23_.out.keep (by decide), l24_.out.keep (by decide), l25_.out.keep (by decide), l26_.out.keep (by decide)⟩
        · unfold StepAt
          intro L a w1 KK hI hi ha hKK
          unfold IRL12 at hI
          obtain ⟨v55, v56, v57, v58, v59, v60, v61, v62, v63, v64, v65, v66, v67, v68, v69, v70, v71, v72, v73, v74, v75, v76, v77, v78, v79, v80, v4, hI⟩ := hI
          obtain ⟨hae, hsz, hS, hF⟩ := hI
          obtain ⟨l0_, l1_, l2_, l3_, l4_, l5_, l6_, l7_, l8_, l9_, l10_, l11_, l12_, l13_, l14_, l15_, l16_, l17_, l18_, l19_, l20_, l21_, l22_, l23_, l24_, l25_, l26_⟩ := hF
          obtain ⟨k_, hk_, hP⟩ := hS
          have ek_ := stg_at 2 hk_ rfl rfl hi (by omega) (waits ha 6 rfl)
          subst ek_
          simp only [PRL12] at hP
          have e4 := l4_ (waits ha 4 rfl)
          clear e4
          have e6 := l6_ (waits ha 6 rfl)
          clear e6
          obtain ⟨hbl, ⟨b5, A15, n15, c15, e1_, hi5⟩, ⟨b6, A16, n16, c16, e2_, hi6⟩⟩ := hP
          subst e1_
          subst e2_
          replace hk_ := Lib.hid hk_
          replace l0_ := Lib.hid l0_
          replace l1_ := Lib.hid l1_
          replace l2_ := Lib.hid l2_
          replace l3_ := Lib.hid l3_
          replace l4_ := Lib.hid l4_
          replace l5_ := Lib.hid l5_
          replace l6_ := Lib.hid l6_
          replace l7_ := Lib.hid l7_
          replace l8_ := Lib.hid l8_
          replace l9_ := Lib.hid l9_
          replace l10_ := Lib.hid l10_
          replace l11_ := Lib.hid l11_
          replace l12_ := Lib.hid l12_
          replace l13_ := Lib.hid l13_
          replace l14_ := Lib.hid l14_
          replace l15_ := Lib.hid l15_
          replace l16_ := Lib.hid l16_
          replace l17_ := Lib.hid l17_
          replace l18_ := Lib.hid l18_
          replace l19_ := Lib.hid l19_
          replace l20_ := Lib.hid l20_
          replace l21_ := Lib.hid l21_
          replace l22_ := Lib.hid l22_
          replace l23_ := Lib.hid l23_
          replace l24_ := Lib.hid l24_
          replace l25_ := Lib.hid l25_
          replace l26_ := Lib.hid l26_
          rw [hae]
          clear hae
          simp only [holeRL12, List.setIfInBounds_toArray, List.set_cons_zero, List.set_cons_succ]
          replace hKK := Lib.hid hKK
          go_wp2_with (go_at_call 18; refine (same_ii _ _ _ _ x 27 _ _ _ _ 12 w1 hi5 hi6 (by omega) (by omega)).mono ?_; rintro e w7' ⟨rfl, hb17⟩)
          exact hKK.out _ _ ⟨v55, v56, v57, v58, (.agg #[.bool b5, .slice A15 n15 c15]), v60, (.agg #[.bool b6, .slice A16 n16 c16]), (.bool true), v63, v64, v65, v66, v67, v68, v69, v70, v71, v72, v73, v74, v75, v76, v77, v78, v79, v80, v4, (by simp only [holeRL12, Act.put, List.setIfInBounds_toArray, List.set_cons_zero, List.set_cons_succ]), by simpa using hsz, ⟨4, stg_next hk_.out rfl (by decide) (by omega), (by simp only [PRL12]; exact hbl.trans (hb17.mono hbl.size))⟩, l0_.out.keep (by decide), l1_.out.keep (by decide), l2_.out.keep (by decide), l3_.out.keep (by decide), FC.put trivial, l5_.out.keep (by decide), FC.put trivial, FC.put rfl, l8_.out.keep (by decide), l9_.out.keep (by decide), l10_.out.keep (by decide), l11_.out.keep (by decide), l12_.out.keep (by decide), l13_.out.keep (by decide), l14_.out.keep (by decide), l15_.out.keep (by decide), l16_.out.keep (by decide), l17_.out.keep (by decide), l18_.out.keep (by decide), l19_.out.keep (by decide), l20_.out.keep (by decide), l21_.out.keep (by decide), l22_.out.keep (by decide), l23_.out.keep (by decide), l24_.out.keep (by decide), l25_.out.keep (by decide), l26_.out.keep (by decide)⟩
        · unfold StepAt
          intro L a w1 KK hI hi ha hKK
          unfold IRL12 at hI
          obtain ⟨v55, v56, v57, v58, v59, v60, v61, v62, v63, v64, v65, v66, v67, v68, v69, v70, v71, v72, v73, v74, v75, v76, v77, v78, v79, v80, v4, hI⟩ := hI
          obtain ⟨hae, hsz, hS, hF⟩ := hI
          obtain ⟨l0_, l1_, l2_, l3_, l4_, l5_, l6_, l7_, l8_, l9_, l10_, l11_, l12_, l13_, l14_, l15_, l16_, l17_, l18_, l19_, l20_, l21_, l22_, l23_, l24_, l25_, l26_⟩ := hF
          obtain ⟨k_, hk_, hP⟩ := hS
          have ek_ := stg_at 3 hk_ rfl rfl hi (by omega) (waits ha 7 rfl)
          subst ek_
          simp only [PRL12] at hP
          have e7 := l7_ (waits ha 7 rfl)
          subst e7
          replace hk_ := Lib.hid hk_
          replace l0_ := Lib.hid l0_
          replace l1_ := Lib.hid l1_
          replace l2_ := Lib.hid l2_
          replace l3_ := Lib.hid l3_
          replace l4_ := Lib.hid l4_
          replace l5_ := Lib.hid l5_
          replace l6_ := Lib.hid l6_
          replace l7_ := Lib.hid l7_
          replace l8_ := Lib.hid l8_
          replace l9_ := Lib.hid l9_
          replace l10_ := Lib.hid l10_
          replace l11_ := Lib.hid l11_
          replace l12_ := Lib.hid l12_
          replace l13_ := Lib.hid l13_
          replace l14_ := Lib.hid l14_
          replace l15_ := Lib.hid l15_
          replace l16_ := Lib.hid l16_
          replace l17_ := Lib.hid l17_
          replace l18_ := Lib.hid l18_
          replace l19_ := Lib.hid l19_
          replace l20_ := Lib.hid l20_
          replace l21_ := Lib.hid l21_
          replace l22_ := Lib.hid l22_
          replace l23_ := Lib.hid l23_
          replace l24_ := Lib.hid l24_
          replace l25_ := Lib.hid l25_
          replace l26_ := Lib.hid l26_
          rw [hae]
          clear hae
          simp only [holeRL12, List.setIfInBounds_toArray, List.set_cons_zero, List.set_cons_succ]
          go_simp
          exact hKK _ _ ⟨v55, v56, v57, v58, v59, v60, v61, (.bool true), (.bool true), v64, v65, v66, v67, v68, v69, v70, v71, v72, v73, v74, v75, v76, v77, v78, v79, v80, v4, (by simp only [holeRL12, Act.put, List.setIfInBounds_toArray, List.set_cons_zero, List.set_cons_succ]), by simpa using hsz, ⟨5, stg_next hk_.out rfl (by decide) (by omega), (by simp only [PRL12]; exact hP)⟩, l0_.out.keep (by decide), l1_.out.keep (by decide), l2_.out.keep (by decide), l3_.out.keep (by decide), l4_.out.keep (by decide), l5_.out.keep (by decide), l6_.out.keep (by decide), FC.put rfl, FC.put rfl, l9_.out.keep (by decide), l10_.out.keep (by decide), l11_.out.keep (by decide), l12_.out.keep (by decide), l13_.out.keep (by decide), l14_.out.keep (by decide), l15_.out.keep (by decide), l16_.out.keep (by decide), l17_.out.keep (by decide), l18_.out.keep (by decide), l19_.out.keep (by decide), l20_.out.keep (by decide), l21_.out.keep (by decide), l22_.out.keep (by decide), l23_.out.keep (by decide), l24_.out.keep (by decide), l25_.out.keep (by decide), l26_.out.keep (by decide)⟩
        · unfold StepAt
          intro L a w1 KK hI hi ha hKK
          unfold IRL12 at hI
          obtain ⟨v55, v56, v57, v58, v59, v60, v61, v62, v63, v64, v65, v66, v67, v68, v69, v70, v71, v72, v73, v74, v75, v76, v77, v78, v79, v80, v4, hI⟩ := hI
          obtain ⟨hae, hsz, hS, hF⟩ := hI
          obtain ⟨l0_, l1_, l2_, l3_, l4_, l5_, l6_, l7_, l8_, l9_, l10_, l11_, l12_, l13_, l14_, l15_, l16_, l17_, l18_, l19_, l20_, l21_, l22_, l23_, l24_, l25_, l26_⟩ := hF
          have e8 := l8_ (waits ha 8 rfl)
          subst e8
          replace hS := Lib.hid hS
          replace l0_ := Lib.hid l0_
          replace l1_ := Lib.hid l1_
          replace l2_ := Lib.hid l2_
          replace l3_ := Lib.hid l3_
          replace l4_ := Lib.hid l4_
          replace l5_ := Lib.hid l5_
          replace l6_ := Lib.hid l6_
          replace l7_ := Lib.hid l7_
          replace l8_ := Lib.hid l8_
          replace l9_ := Lib.hid l9_
          replace l10_ := Lib.hid l10_
          replace l11_ := Lib.hid l11_
          replace l12_ := Lib.hid l12_
          replace l13_ := Lib.hid l13_
          replace l14_ := Lib.hid l14_
          replace l15_ := Lib.hid l15_
          replace l16_ := Lib.hid l16_
          replace l17_ := Lib.hid l17_
          replace l18_ := Lib.hid l18_
          replace l19_ := Lib.hid l19_
          replace l20_ := Lib.hid l20_
          replace l21_ := Lib.hid l21_
          replace l22_ := Lib.hid l22_
          replace l23_ := Lib.hid l23_
          replace l24_ := Lib.hid l24_
          replace l25_ := Lib.hid l25_
          replace l26_ := Lib.hid l26_
          rw [hae]
          clear hae
          simp only [holeRL12, List.setIfInBounds_toArray, List.set_cons_zero, List.set_cons_succ]
          go_simp
          exact hKK _ _ ⟨v55, v56, v57, v58, v59, v60, v61, v62, (.bool true), (.int .i64 0), v65, v66, v67, v68, v69, v70, v71, v72, v73, v74, v75, v76, v77, v78, v79, v80, v4, (by simp only [holeRL12, Act.put, List.setIfInBounds_toArray, List.set_cons_zero, List.set_cons_succ]), by simpa using hsz, (by obtain ⟨k_, a_, b_⟩ := hS.out; exact ⟨k_, stg_keep a_ rfl, b_⟩), l0_.out.keep (by decide), l1_.out.keep (by decide), l2_.out.keep (by decide), l3_.out.keep (by decide), l4_.out.keep (by decide), l5_.out.keep (by decide), l6_.out.keep (by decide), l7_.out.keep (by decide), FC.put rfl, FC.put rfl, l10_.out.keep (by decide), l11_.out.keep (by decide), l12_.out.keep (by decide), l13_.out.keep (by decide), l14_.out.keep (by decide), l15_.out.keep (by decide), l16_.out.keep (by decide), l17_.out.keep (by decide), l18_.out.keep (by decide), l19_.out.keep (by decide), l20_.out.keep (by decide), l21_.out.keep (by decide), l22_.out.keep (by decide), l23_.out.keep (by decide), l24_.out.keep (by decide), l25_.out.keep (by decide), l26_.out.keep (by decide)⟩
        · unfold StepAt
          intro L a w1 KK hI hi ha hKK
          unfold IRL12 at hI
          obtain ⟨v55, v56, v57, v58, v59, v60, v61, v62, v63, v64, v65, v66, v67, v68, v69, v70, v71, v72, v73, v74, v75, v76, v77, v78, v79, v80, v4, hI⟩ := hI
          obtain ⟨hae, hsz, hS, hF⟩ := hI
          obtain ⟨l0_, l1_, l2_, l3_, l4_, l5_, l6_, l7_, l8_, l9_, l10_, l11_, l12_, l13_, l14_, l15_, l16_, l17_, l18_, l19_, l20_, l21_, l22_, l23_, l24_, l25_, l26_⟩ := hF
          have e8 := l8_ (waits ha 8 rfl)
          subst e8
          have e9 := l9_ (waits ha 9 rfl)
          subst e9
          replace hS := Lib.hid hS
          replace l0_ := Lib.hid l0_
          replace l1_ := Lib.hid l1_
          replace l2_ := Lib.hid l2_
          replace l3_ := Lib.hid l3_
          replace l4_ := Lib.hid l4_
          replace l5_ := Lib.hid l5_
          replace l6_ := Lib.hid l6_
          replace l7_ := Lib.hid l7_
          replace l8_ := Lib.hid l8_
          replace l9_ := Lib.hid l9_
          replace l10_ := Lib.hid l10_
          replace l11_ := Lib.hid l11_
          replace l12_ := Lib.hid l12_
          replace l13_ := Lib.hid l13_
          replace l14_ := Lib.hid l14_
          replace l15_ := Lib.hid l15_
          replace l16_ := Lib.hid l16_
          replace l17_ := Lib.hid l17_
          replace l18_ := Lib.hid l18_
          replace l19_ := Lib.hid l19_
          replace l20_ := Lib.hid l20_
          replace l21_ := Lib.hid l21_
          replace l22_ := Lib.hid l22_
          replace l23_ := Lib.hid l23_
          replace l24_ := Lib.hid l24_
          replace l25_ := Lib.hid l25_
          replace l26_ := Lib.hid l26_
          rw [hae]
          clear hae
          simp only [holeRL12, List.setIfInBounds_toArray, List.set_cons_zero, List.set_cons_succ]
          go_simp
          exact hKK _ _ ⟨v55, v56, v57, v58, v59, v60, v61, v62, (.bool true), (.int .i64 0), (.bool true), v66, v67, v68, v69, v70, v71, v72, v73, v74, v75, v76, v77, v78, v79, v80, v4, (by simp only [holeRL12, Act.put, List.setIfInBounds_toArray, List.set_cons_zero, List.set_cons_succ]), by simpa using hsz, (by obtain ⟨k_, a_, b_⟩ := hS.out; exact ⟨k_, stg_keep a_ rfl, b_⟩), l0_.out.keep (by decide), l1_.out.keep (by decide), l2_.out.keep (by decide), l3_.out.keep (by decide), l4_.out.keep (by decide), l5_.out.keep (by decide), l6_.out.keep (by decide), l7_.out.keep (by decide), FC.put rfl, FC.put rfl, FC.put rfl, l11_.out.keep (by decide), l12_.out.keep (by decide), l13_.out.keep (by decide), l14_.out.keep (by decide), l15_.out.keep (by decide), l16_.out.keep (by decide), l17_.out.keep (by decide), l18_.out.keep (by decide), l19_.out.keep (by decide), l20_.out.keep (by decide), l21_.out.keep (by decide), l22_.out.keep (by decide), l23_.out.keep (by decide), l24_.out.keep (by decide), l25_.out.keep (by decide), l26_.out.keep (by decide)⟩
        · unfold StepAt
          intro L a w1 KK hI hi ha hKK
          unfold IRL12 at hI
          obtain ⟨v55, v56, v57, v58, v59, v60, v61, v62, v63, v64, v65, v66, v67, v68, v69, v70, v71, v72, v73, v74, v75, v76, v77, v78, v79, v80, v4, hI⟩ := hI
          obtain ⟨hae, hsz, hS, hF⟩ := hI
          obtain ⟨l0_, l1_, l2_, l3_, l4_, l5_, l6_, l7_, l8_, l9_, l10_, l11_, l12_, l13_, l14_, l15_, l16_, l17_, l18_, l19_, l20_, l21_, l22_, l23_, l24_, l25_, l26_⟩ := hF
          obtain ⟨k_, hk_, hP⟩ := hS
          have ek_ := stg_at 4 hk_ rfl rfl hi (by omega) (waits ha 8 rfl)
          subst ek_
          simp only [PRL12] at hP
          have e8 := l8_ (waits ha 8 rfl)
          subst e8
          have e10 := l10_ (waits ha 10 rfl)
          subst e10
          replace hk_ := Lib.hid hk_
          replace l0_ := Lib.hid l0_
          replace l1_ := Lib.hid l1_
          replace l2_ := Lib.hid l2_
          replace l3_ := Lib.hid l3_
          replace l4_ := Lib.hid l4_
          replace l5_ := Lib.hid l5_
          replace l6_ := Lib.hid l6_
          replace l7_ := Lib.hid l7_
          replace l8_ := Lib.hid l8_
          replace l9_ := Lib.hid l9_
          replace l10_ := Lib.hid l10_
          replace l11_ := Lib.hid l11_
          replace l12_ := Lib.hid l12_
          replace l13_ := Lib.hid l13_
          replace l14_ := Lib.hid l14_
          replace l15_ := Lib.hid l15_
          replace l16_ := Lib.hid l16_
          replace l17_ := Lib.hid l17_
          replace l18_ := Lib.hid l18_
          replace l19_ := Lib.hid l19_
          replace l20_ := Lib.hid l20_
          replace l21_ := Lib.hid l21_
          replace l22_ := Lib.hid l22_
          replace l23_ := Lib.hid l23_
          replace l24_ := Lib.hid l24_
          replace l25_ := Lib.hid l25_
          replace l26_ := Lib.hid l26_
          rw [hae]
          clear hae
          simp only [holeRL12, List.setIfInBounds_toArray, List.set_cons_zero, List.set_cons_succ]
          go_simp
          exact hKK _ _ ⟨v55, v56, v57, v58, v59, v60, v61, v62, (.bool true), v64, (.bool true), (.bool true), v67, v68, v69, v70, v71, v72, v73, v74, v75, v76, v77, v78, v79, v80, v4, (by simp only [holeRL12, Act.put, List.setIfInBounds_toArray, List.set_cons_zero, List.set_cons_succ]), by simpa using hsz, ⟨6, stg_next hk_.out rfl (by decide) (by omega), (by simp only [PRL12]; exact hP)⟩, l0_.out.keep (by decide), l1_.out.keep (by decide), l2_.out.keep (by decide), l3_.out.keep (by decide), l4_.out.keep (by decide), l5_.out.keep (by decide), l6_.out.keep (by decide), l7_.out.keep (by decide), FC.put rfl, l9_.out.keep (by decide), FC.put rfl, FC.put rfl, l12_.out.keep (by decide), l13_.out.keep (by decide), l14_.out.keep (by decide), l15_.out.keep (by decide), l16_.out.keep (by decide), l17_.out.keep (by decide), l18_.out.keep (by decide), l19_.out.keep (by decide), l20_.out.keep (by decide), l21_.out.keep (by decide), l22_.out.keep (by decide), l23_.out.keep (by decide), l24_.out.keep (by decide), l25_.out.keep (by decide), l26_.out.keep (by decide)⟩
        · unfold StepAt
          intro L a w1 KK hI hi ha hKK
          unfold IRL12 at hI
          obtain ⟨v55, v56, v57, v58, v59, v60, v61, v62, v63, v64, v65, v66, v67, v68, v69, v70, v71, v72, v73, v74, v75, v76, v77, v78, v79, v80, v4, hI⟩ := hI
          obtain ⟨hae, hsz, hS, hF⟩ := hI
          obtain ⟨l0_, l1_, l2_, l3_, l4_, l5_, l6_, l7_, l8_, l9_, l10_, l11_, l12_, l13_, l14_, l15_, l16_, l17_, l18_, l19_, l20_, l21_, l22_, l23_, l24_, l25_, l26_⟩ := hF
          have e11 := l11_ (waits ha 11 rfl)
          subst e11
          replace hS := Lib.hid hS
          replace l0_ := Lib.hid l0_
          replace l1_ := Lib.hid l1_
          replace l2_ := Lib.hid l2_
          replace l3_ := Lib.hid l3_
          replace l4_ := Lib.hid l4_
          replace l5_ := Lib.hid l5_
          replace l6_ := Lib.hid l6_
          replace l7_ := Lib.hid l7_
          replace l8_ := Lib.hid l8_
          replace l9_ := Lib.hid l9_
          replace l10_ := Lib.hid l10_
          replace l11_ := Lib.hid l11_
          replace l12_ := Lib.hid l12_
          replace l13_ := Lib.hid l13_
          replace l14_ := Lib.hid l14_
          replace l15_ := Lib.hid l15_
          replace l16_ := Lib.hid l16_
          replace l17_ := Lib.hid l17_
          replace l18_ := Lib.hid l18_
          replace l19_ := Lib.hid l19_
          replace l20_ := Lib.hid l20_
          replace l21_ := Lib.hid l21_
          replace l22_ := Lib.hid l22_
          replace l23_ := Lib.hid l23_
          replace l24_ := Lib.hid l24_
          replace l25_ := Lib.hid l25_
          replace l26_ := Lib.hid l26_
          rw [hae]
          clear hae
          simp only [holeRL12, List.setIfInBounds_toArray, List.set_cons_zero, List.set_cons_succ]
          go_simp
          exact hKK _ _ ⟨v55, v56, v57, v58, v59, v60, v61, v62, v63, v64, v65, (.bool true), undef, v68, v69, v70, v71, v72, v73, v74, v75, v76, v77, v78, v79, v80, v4, (by simp only [holeRL12, Act.put, List.setIfInBounds_toArray, List.set_cons_zero, List.set_cons_succ]), by simpa using hsz, (by obtain ⟨k_, a_, b_⟩ := hS.out; exact ⟨k_, stg_keep a_ rfl, b_⟩), l0_.out.keep (by decide), l1_.out.keep (by decide), l2_.out.keep (by decide), l3_.out.keep (by decide), l4_.out.keep (by decide), l5_.out.keep (by decide), l6_.out.keep (by decide), l7_.out.keep (by decide), l8_.out.keep (by decide), l9_.out.keep (by decide), l10_.out.keep (by decide), FC.put rfl, FC.put rfl, l13_.out.keep (by decide), l14_.out.keep (by decide), l15_.out.keep (by decide), l16_.out.keep (by decide), l17_.out.keep (by decide), l18_.out.keep (by decide), l19_.out.keep (by decide), l20_.out.keep (by decide), l21_.out.keep (by decide), l22_.out.keep (by decide), l23_.out.keep (by decide), l24_.out.keep (by decide), l25_.out.keep (by decide), l26_.out.keep (by decide)⟩
        · unfold StepAt
          intro L a w1 KK hI hi ha hKK
          unfold IRL12 at hI
          obtain ⟨v55, v56, v57, v58, v59, v60, v61, v62, v63, v64, v65, v66, v67, v68, v69, v70, v71, v72, v73, v74, v75, v76, v77, v78, v79, v80, v4, hI⟩ := hI
          obtain ⟨hae, hsz, hS, hF⟩ := hI
          obtain ⟨l0_, l1_, l2_, l3_, l4_, l5_, l6_, l7_, l8_, l9_, l10_, l11_, l12_, l13_, l14_, l15_, l16_, l17_, l18_, l19_, l20_, l21_, l22_, l23_, l24_, l25_, l26_⟩ := hF
          have e11 := l11_ (waits ha 11 rfl)
          subst e11
          replace hS := Lib.hid hS
          replace l0_ := Lib.hid l0_
          replace l1_ := Lib.hid l1_
          replace l2_ := Lib.hid l2_
          replace l3_ := Lib.hid l3_
          replace l4_ := Lib.hid l4_
          replace l5_ := Lib.hid l5_
          replace l6_ := Lib.hid l6_
          replace l7_ := Lib.hid l7_
          replace l8_ := Lib.hid l8_
          replace l9_ := Lib.hid l9_
          replace l10_ := Lib.hid l10_
          replace l11_ := Lib.hid l11_
          replace l12_ := Lib.hid l12_
          replace l13_ := Lib.hid l13_
          replace l14_ := Lib.hid l14_
          replace l15_ := Lib.hid l15_
          replace l16_ := Lib.hid l16_
          replace l17_ := Lib.hid l17_
          replace l18_ := Lib.hid l18_
          replace l19_ := Lib.hid l19_
          replace l20_ := Lib.hid l20_
          replace l21_ := Lib.hid l21_
          replace l22_ := Lib.hid l22_
          replace l23_ := Lib.hid l23_
          replace l24_ := Lib.hid l24_
          replace l25_ := Lib.hid l25_
          replace l26_ := Lib.hid l26_
          rw [hae]
          clear hae
          simp only [holeRL12, List.setIfInBounds_toArray, List.set_cons_zero, List.set_cons_succ]
          go_simp
          exact hKK _ _ ⟨v55, v56, v57, v58, v59, v60, v61, v62, v63, v64, v65, (.bool true), v67, undef, v69, v70, v71, v72, v73, v74, v75, v76, v77, v78, v79, v80, v4, (by simp only [holeRL12, Act.put, List.setIfInBounds_toArray, List.set_cons_zero, List.set_cons_succ]), by simpa using hsz, (by obtain ⟨k_, a_, b_⟩ := hS.out; exact ⟨k_, stg_keep a_ rfl, b_⟩), l0_.out.keep (by decide), l1_.out.keep (by decide), l2_.out.keep (by decide), l3_.out.keep (by decide), l4_.out.keep (by decide), l5_.out.keep (by decide), l6_.out.keep (by decide), l7_.out.keep (by decide), l8_.out.keep (by decide), l9_.out.keep (by decide), l10_.out.keep (by decide), FC.put rfl, l12_.out.keep (by decide), FC.put rfl, l14_.out.keep (by decide), l15_.out.keep (by decide), l16_.out.keep (by decide), l17_.out.keep (by decide), l18_.out.keep (by decide), l19_.out.keep (by decide), l20_.out.keep (by decide), l21_.out.keep (by decide), l22_.out.keep (by decide), l23_.out.keep (by decide), l24_.out.keep (by decide), l25_.out.keep (by decide), l26_.out.keep (by decide)⟩
        · unfold StepAt
          intro L a w1 KK hI hi ha hKK
          unfold IRL12 at hI
          obtain ⟨v55, v56, v57, v58, v59, v60, v61, v62, v63, v64, v65, v66, v67, v68, v69, v70, v71, v72, v73, v74, v75, v76, v77, v78, v79, v80, v4, hI⟩ := hI
          obtain ⟨hae, hsz, hS, hF⟩ := hI
          obtain ⟨l0_, l1_, l2_, l3_, l4_, l5_, l6_, l7_, l8_, l9_, l10_, l11_, l12_, l13_, l14_, l15_, l16_, l17_, l18_, l19_, l20_, l21_, l22_, l23_, l24_, l25_, l26_⟩ := hF
          obtain ⟨k_, hk_, hP⟩ := hS
          have ek_ := stg_at 5 hk_ rfl rfl hi (by omega) (waits ha 11 rfl)
          subst ek_
          simp only [PRL12] at hP
          have e11 := l11_ (waits ha 11 rfl)
          subst e11
          replace hk_ := Lib.hid hk_
          replace l0_ := Lib.hid l0_
          replace l1_ := Lib.hid l1_
          replace l2_ := Lib.hid l2_
          replace l3_ := Lib.hid l3_
          replace l4_ := Lib.hid l4_
          replace l5_ := Lib.hid l5_
          replace l6_ := Lib.hid l6_
          replace l7_ := Lib.hid l7_
          replace l8_ := Lib.hid l8_
          replace l9_ := Lib.hid l9_
          replace l10_ := Lib.hid l10_
          replace l11_ := Lib.hid l11_
          replace l12_ := Lib.hid l12_
          replace l13_ := Lib.hid l13_
          replace l14_ := Lib.hid l14_
          replace l15_ := Lib.hid l15_
          replace l16_ := Lib.hid l16_
          replace l17_ := Lib.hid l17_
          replace l18_ := Lib.hid l18_
          replace l19_ := Lib.hid l19_
          replace l20_ := Lib.hid l20_
          replace l21_ := Lib.hid l21_
          replace l22_ := Lib.hid l22_
          replace l23_ := Lib.hid l23_
          replace l24_ := Lib.hid l24_
          replace l25_ := Lib.hid l25_
          replace l26_ := Lib.hid l26_
          rw [hae]
          clear hae
          simp only [holeRL12, List.setIfInBounds_toArray, List.set_cons_zero, List.set_cons_succ]
          go_simp
          exact hKK _ _ ⟨v55, v56, v57, v58, v59, v60, v61, v62, v63, v64, v65, (.bool true), v67, v68, undef, v70, v71, v72, v73, v74, v75, v76, v77, v78, v79, v80, v4, (by simp only [holeRL12, Act.put, List.setIfInBounds_toArray, List.set_cons_zero, List.set_cons_succ]), by simpa using hsz, ⟨7, stg_next hk_.out rfl (by decide) (by omega), (by simp only [PRL12]; exact hP)⟩, l0_.out.keep (by decide), l1_.out.keep (by decide), l2_.out.keep (by decide), l3_.out.keep (by decide), l4_.out.keep (by decide), l5_.out.keep (by decide), l6_.out.keep (by decide), l7_.out.keep (by decide), l8_.out.keep (by decide), l9_.out.keep (by decide), l10_.out.keep (by decide), FC.put rfl, l12_.out.keep (by decide), l13_.out.keep (by decide), FC.put rfl, l15_.out.keep (by decide), l16_.out.keep (by decide), l17_.out.keep (by decide), l18_.out.keep (by decide), l19_.out.keep (by decide), l20_.out.keep (by decide), l21_.out.keep (by decide), l22_.out.keep (by decide), l23_.out.keep (by decide), l24_.out.keep (by decide), l25_.out.keep (by decide), l26_.out.keep (by decide)⟩
        · unfold StepAt
          intro L a w1 KK hI hi ha hKK
          unfold IRL12 at hI
          obtain ⟨v55, v56, v57, v58, v59, v60, v61, v62, v63, v64, v65, v66, v67, v68, v69, v70, v71, v72, v73, v74, v75, v76, v77, v78, v79, v80, v4, hI⟩ := hI
          obtain ⟨hae, hsz, hS, hF⟩ := hI
          obtain ⟨l0_, l1_, l2_, l3_, l4_, l5_, l6_, l7_, l8_, l9_, l10_, l11_, l12_, l13_, l14_, l15_, l16_, l17_, l18_, l19_, l20_, l21_, l22_, l23_, l24_, l25_, l26_⟩ := hF
          have e11 := l11_ (waits ha 11 rfl)
          subst e11
          replace hS := Lib.hid hS
          replace l0_ := Lib.hid l0_
          replace l1_ := Lib.hid l1_
          replace l2_ := Lib.hid l2_
          replace l3_ := Lib.hid l3_
          replace l4_ := Lib.hid l4_
          replace l5_ := Lib.hid l5_
          replace l6_ := Lib.hid l6_
          replace l7_ := Lib.hid l7_
          replace l8_ := Lib.hid l8_
          replace l9_ := Lib.hid l9_
          replace l10_ := Lib.hid l10_
          replace l11_ := Lib.hid l11_
          replace l12_ := Lib.hid l12_
          replace l13_ := Lib.hid l13_
          replace l14_ := Lib.hid l14_
          replace l15_ := Lib.hid l15_
          replace l16_ := Lib.hid l16_
          replace l17_ := Lib.hid l17_
          replace l18_ := Lib.hid l18_
          replace l19_ := Lib.hid l19_
          replace l20_ := Lib.hid l20_
          replace l21_ := Lib.hid l21_
          replace l22_ := Lib.hid l22_
          replace l23_ := Lib.hid l23_
          replace l24_ := Lib.hid l24_
          replace l25_ := Lib.hid l25_
          replace l26_ := Lib.hid l26_
          rw [hae]
          clear hae
          simp only [holeRL12, List.setIfInBounds_toArray, List.set_cons_zero, List.set_cons_succ]
          go_simp
          exact hKK _ _ ⟨v55, v56, v57, v58, v59, v60, v61, v62, v63, v64, v65, (.bool true), v67, v68, v69, undef, v71, v72, v73, v74, v75, v76, v77, v78, v79, v80, v4, (by simp only [holeRL12, Act.put, List.setIfInBounds_toArray, List.set_cons_zero, List.set_cons_succ]), by simpa using hsz, (by obtain ⟨k_, a_, b_⟩ := hS.out; exact ⟨k_, stg_keep a_ rfl, b_⟩), l0_.out.keep (by decide), l1_.out.keep (by decide), l2_.out.keep (by decide), l3_.out.keep (by decide), l4_.out.keep (by decide), l5_.out.keep (by decide), l6_.out.keep (by decide), l7_.out.keep (by decide), l8_.out.keep (by decide), l9_.out.keep (by decide), l10_.out.keep (by decide), FC.put rfl, l12_.out.keep (by decide), l13_.out.keep (by decide), l14_.out.keep (by decide), FC.put rfl, l16_.out.keep (by decide), l17_.out.keep (by decide), l18_.out.keep (by decide), l19_.out.keep (by decide), l20_.out.keep (by decide), l21_.out.keep (by decide), l22_.out.keep (by decide), l23_.out.keep (by decide), l24_.out.keep (by decide), l25_.out.keep (by decide), l26_.out.keep (by decide)⟩
        · unfold StepAt
          intro L a w1 KK hI hi ha hKK
          unfold IRL12 at hI
          obtain ⟨v55, v56, v57, v58, v59, v60, v61, v62, v63, v64, v65, v66, v67, v68, v69, v70, v71, v72, v73, v74, v75, v76, v77, v78, v79, v80, v4, hI⟩ := hI
          obtain ⟨hae, hsz, hS, hF⟩ := hI
          obtain ⟨l0_, l1_, l2_, l3_, l4_, l5_, l6_, l7_, l8_, l9_, l10_, l11_, l12_, l13_, l14_, l15_, l16_, l17_, l18_, l19_, l20_, l21_, l22_, l23_, l24_, l25_, l26_⟩ := hF
          have e8 := l8_ (waits ha 8 rfl)
          subst e8
          have e11 := l11_ (waits ha 11 rfl)
          subst e11
          have e15 := l15_ (waits ha 15 rfl)
          subst e15
          replace hS := Lib.hid hS
          replace l0_ := Lib.hid l0_
          replace l1_ := Lib.hid l1_
          replace l2_ := Lib.hid l2_
          replace l3_ := Lib.hid l3_
          replace l4_ := Lib.hid l4_
          replace l5_ := Lib.hid l5_
          replace l6_ := Lib.hid l6_
          replace l7_ := Lib.hid l7_
          replace l8_ := Lib.hid l8_
          replace l9_ := Lib.hid l9_
          replace l10_ := Lib.hid l10_
          replace l11_ := Lib.hid l11_
          replace l12_ := Lib.hid l12_
          replace l13_ := Lib.hid l13_
          replace l14_ := Lib.hid l14_
          replace l15_ := Lib.hid l15_
          replace l16_ := Lib.hid l16_
          replace l17_ := Lib.hid l17_
          replace l18_ := Lib.hid l18_
          replace l19_ := Lib.hid l19_
          replace l20_ := Lib.hid l20_
          replace l21_ := Lib.hid l21_
          replace l22_ := Lib.hid l22_
          replace l23_ := Lib.hid l23_
          replace l24_ := Lib.hid l24_
          replace l25_ := Lib.hid l25_
          replace l26_ := Lib.hid l26_
          rw [hae]
          clear hae
          simp only [holeRL12, List.setIfInBounds_toArray, List.set_cons_zero, List.set_cons_succ]
          go_simp
          exact hKK _ _ ⟨v55, v56, v57, v58, v59, v60, v61, v62, (.bool true), v64, v65, (.bool true), v67, v68, v69, undef, (.bool true), v72, v73, v74, v75, v76, v77, v78, v79, v80, v4, (by simp only [holeRL12, Act.put, List.setIfInBounds_toArray, List.set_cons_zero, List.set_cons_succ]), by simpa using hsz, (by obtain ⟨k_, a_, b_⟩ := hS.out; exact ⟨k_, stg_keep a_ rfl, b_⟩), l0_.out.keep (by decide), l1_.out.keep (by decide), l2_.out.keep (by decide), l3_.out.keep (by decide), l4_.out.keep (by decide), l5_.out.keep (by decide), l6_.out.keep (by decide), l7_.out.keep (by decide), FC.put rfl, l9_.out.keep (by decide), l10_.out.keep (by decide), FC.put rfl, l12_.out.keep (by decide), l13_.out.keep (by decide), l14_.out.keep (by decide), FC.put rfl, FC.put rfl, l17_.out.keep (by decide), l18_.out.keep (by decide), l19_.out.keep (by decide), l20_.out.keep (by decide), l21_.out.keep (by decide), l22_.out.keep (by decide), l23_.out.keep (by decide), l24_.out.keep (by decide), l25_.out.keep (by decide), l26_.out.keep (by decide)⟩
        · unfold StepAt
          intro L a w1 KK hI hi ha hKK
          unfold IRL12 at hI
          obtain ⟨v55, v56, v57, v58, v59, v60, v61, v62, v63, v64, v65, v66, v67, v68, v69, v70, v71, v72, v73, v74, v75, v76, v77, v78, v79, v80, v4, hI⟩ := hI
          obtain ⟨hae, hsz, hS, hF⟩ := hI
          obtain ⟨l0_, l1_, l2_, l3_, l4_, l5_, l6_, l7_, l8_, l9_, l10_, l11_, l12_, l13_, l14_, l15_, l16_, l17_, l18_, l19_, l20_, l21_, l22_, l23_, l24_, l25_, l26_⟩ := hF
          have e8 := l8_ (waits ha 8 rfl)
          subst e8
          have e16 := l16_ (waits ha 16 rfl)
          subst e16
          replace hS := Lib.hid hS
          replace l0_ := Lib.hid l0_
          replace l1_ := Lib.hid l1_
          replace l2_ := Lib.hid l2_
          replace l3_ := Lib.hid l3_
          replace l4_ := Lib.hid l4_
          replace l5_ := Lib.hid l5_
          replace l6_ := Lib.hid l6_
          replace l7_ := Lib.hid l7_
          replace l8_ := Lib.hid l8_
          replace l9_ := Lib.hid l9_
          replace l10_ := Lib.hid l10_
          replace l11_ := Lib.hid l11_
          replace l12_ := Lib.hid l12_
          replace l13_ := Lib.hid l13_
          replace l14_ := Lib.hid l14_
          replace l15_ := Lib.hid l15_
          replace l16_ := Lib.hid l16_
          replace l17_ := Lib.hid l17_
          replace l18_ := Lib.hid l18_
          replace l19_ := Lib.hid l19_
          replace l20_ := Lib.hid l20_
          replace l21_ := Lib.hid l21_
          replace l22_ := Lib.hid l22_
          replace l23_ := Lib.hid l23_
          replace l24_ := Lib.hid l24_
          replace l25_ := Lib.hid l25_
          replace l26_ := Lib.hid l26_
          rw [hae]
          clear hae
          simp only [holeRL12, List.setIfInBounds_toArray, List.set_cons_zero, List.set_cons_succ]
          go_simp
          exact hKK _ _ ⟨v55, v56, v57, v58, v59, v60, v61, v62, (.bool true), v64, v65, v66, v67, v68, v69, v70, (.bool true), (.bool true), v73, v74, v75, v76, v77, v78, v79, v80, v4, (by simp only [holeRL12, Act.put, List.setIfInBounds_toArray, List.set_cons_zero, List.set_cons_succ]), by simpa using hsz, (by obtain ⟨k_, a_, b_⟩ := hS.out; exact ⟨k_, stg_keep a_ rfl, b_⟩), l0_.out.keep (by decide), l1_.out.keep (by decide), l2_.out.keep (by decide), l3_.out.keep (by decide), l4_.out.keep (by decide), l5_.out.keep (by decide), l6_.out.keep (by decide), l7_.out.keep (by decide), FC.put rfl, l9_.out.keep (by decide), l10_.out.keep (by decide), l11_.out.keep (by decide), l12_.out.keep (by decide), l13_.out.keep (by decide), l14_.out.keep (by decide), l15_.out.keep (by decide), FC.put rfl, FC.put rfl, l18_.out.keep (by decide), l19_.out.keep (by decide), l20_.out.keep (by decide), l21_.out.keep (by decide), l22_.out.keep (by decide), l23_.out.keep (by decide), l24_.out.keep (by decide), l25_.out.keep (by decide), l26_.out.keep (by decide)⟩
        · unfold StepAt
          intro L a w1 KK hI hi ha hKK
          unfold IRL12 at hI
          obtain ⟨v55, v56, v57, v58, v59, v60, v61, v62, v63, v64, v65, v66, v67, v68, v69, v70, v71, v72, v73, v74, v75, v76, v77, v78, v79, v80, v4, hI⟩ := hI
          obtain ⟨hae, hsz, hS, hF⟩ := hI
          obtain ⟨l0_, l1_, l2_, l3_, l4_, l5_, l6_, l7_, l8_, l9_, l10_, l11_, l12_, l13_, l14_, l15_, l16_, l17_, l18_, l19_, l20_, l21_, l22_, l23_, l24_, l25_, l26_⟩ := hF
          obtain ⟨k_, hk_, hP⟩ := hS
          have ek_ := stg_at 6 hk_ rfl rfl hi (by omega) (waits ha 14 rfl)
          subst ek_
          simp only [PRL12] at hP
          have e17 := l17_ (waits ha 17 rfl)
          subst e17
          replace hk_ := Lib.hid hk_
          replace l0_ := Lib.hid l0_
          replace l1_ := Lib.hid l1_
          replace l2_ := Lib.hid l2_
          replace l3_ := Lib.hid l3_
          replace l4_ := Lib.hid l4_
          replace l5_ := Lib.hid l5_
          replace l6_ := Lib.hid l6_
          replace l7_ := Lib.hid l7_
          replace l8_ := Lib.hid l8_
          replace l9_ := Lib.hid l9_
          replace l10_ := Lib.hid l10_
          replace l11_ := Lib.hid l11_
          replace l12_ := Lib.hid l12_
          replace l13_ := Lib.hid l13_
          replace l14_ := Lib.hid l14_
          replace l15_ := Lib.hid l15_
          replace l16_ := Lib.hid l16_
          replace l17_ := Lib.hid l17_
          replace l18_ := Lib.hid l18_
          replace l19_ := Lib.hid l19_
          replace l20_ := Lib.hid l20_
          replace l21_ := Lib.hid l21_
          replace l22_ := Lib.hid l22_
          replace l23_ := Lib.hid l23_
          replace l24_ := Lib.hid l24_
          replace l25_ := Lib.hid l25_
          replace l26_ := Lib.hid l26_
          rw [hae]
          clear hae
          simp only [holeRL12, List.setIfInBounds_toArray, List.set_cons_zero, List.set_cons_succ]
          go_simp
          exact hKK _ _ ⟨v55, v56, v57, v58, v59, v60, v61, v62, v63, v64, v65, v66, v67, v68, v69, v70, v71, (.bool true), (.bool true), v74, v75, v76, v77, v78, v79, v80, v4, (by simp only [holeRL12, Act.put, List.setIfInBounds_toArray, List.set_cons_zero, List.set_cons_succ]), by simpa using hsz, ⟨8, stg_next hk_.out rfl (by decide) (by omega), (by simp only [PRL12]; exact hP)⟩, l0_.out.keep (by decide), l1_.out.keep (by decide), l2_.out.keep (by decide), l3_.out.keep (by decide), l4_.out.keep (by decide), l5_.out.keep (by decide), l6_.out.keep (by decide), l7_.out.keep (by decide), l8_.out.keep (by decide), l9_.out.keep (by decide), l10_.out.keep (by decide), l11_.out.keep (by decide), l12_.out.keep (by decide), l13_.out.keep (by decide), l14_.out.keep (by decide), l15_.out.keep (by decide), l16_.out.keep (by decide), FC.put rfl, FC.put rfl, l19_.out.keep (by decide), l20_.out.keep (by decide), l21_.out.keep (by decide), l22_.out.keep (by decide), l23_.out.keep (by decide), l24_.out.keep (by decide), l25_.out.keep (by decide), l26_.out.keep (by decide)⟩
        · unfold StepAt
          intro L a w1 KK hI hi ha hKK
          unfold IRL12 at hI
          obtain ⟨v55, v56, v57, v58, v59, v60, v61, v62, v63, v64, v65, v66, v67, v68, v69, v70, v71, v72, v73, v74, v75, v76, v77, v78, v79, v80, v4, hI⟩ := hI
          obtain ⟨hae, hsz, hS, hF⟩ := hI
          obtain ⟨l0_, l1_, l2_, l3_, l4_, l5_, l6_, l7_, l8_, l9_, l10_, l11_, l12_, l13_, l14_, l15_, l16_, l17_, l18_, l19_, l20_, l21_, l22_, l23_, l24_, l25_, l26_⟩ := hF
          obtain ⟨kg_, hkg_, hPg_⟩ := id hS
          obtain ⟨j1, j2, j3, j4, j5, j6, j7, j8⟩ := hgood.out _ _ _ _ _ _ _ hkg_.1 hPg_
          clear hkg_ hPg_
          have e18 := l18_ (waits ha 18 rfl)
          subst e18
          replace hS := Lib.hid hS
          replace l0_ := Lib.hid l0_
          replace l1_ := Lib.hid l1_
          replace l2_ := Lib.hid l2_
          replace l3_ := Lib.hid l3_
          replace l4_ := Lib.hid l4_
          replace l5_ := Lib.hid l5_
          replace l6_ := Lib.hid l6_
          replace l7_ := Lib.hid l7_
          replace l8_ := Lib.hid l8_
          replace l9_ := Lib.hid l9_
          replace l10_ := Lib.hid l10_
          replace l11_ := Lib.hid l11_
          replace l12_ := Lib.hid l12_
          replace l13_ := Lib.hid l13_
          replace l14_ := Lib.hid l14_
          replace l15_ := Lib.hid l15_
          replace l16_ := Lib.hid l16_
          replace l17_ := Lib.hid l17_
          replace l18_ := Lib.hid l18_
          replace l19_ := Lib.hid l19_
          replace l20_ := Lib.hid l20_
          replace l21_ := Lib.hid l21_
          replace l22_ := Lib.hid l22_
          replace l23_ := Lib.hid l23_
          replace l24_ := Lib.hid l24_
          replace l25_ := Lib.hid l25_
          replace l26_ := Lib.hid l26_
          rw [hae]
          clear hae
          simp only [holeRL12, List.setIfInBounds_toArray, List.set_cons_zero, List.set_cons_succ]
          go_simp
          exact hKK _ _ ⟨v55, v56, v57, v58, v59, v60, v61, v62, v63, v64, v65, v66, v67, v68, v69, v70, v71, v72, (.bool true), (.agg #[.bool b2, .slice A2 n2 c2]), v75, v76, v77, v78, v79, v80, v4, (by simp only [holeRL12, Act.put, List.setIfInBounds_toArray, List.set_cons_zero, List.set_cons_succ]), by simpa using hsz, (by obtain ⟨k_, a_, b_⟩ := hS.out; exact ⟨k_, stg_keep a_ rfl, b_⟩), l0_.out.keep (by decide), l1_.out.keep (by decide), l2_.out.keep (by decide), l3_.out.keep (by decide), l4_.out.keep (by decide), l5_.out.keep (by decide), l6_.out.keep (by decide), l7_.out.keep (by decide), l8_.out.keep (by decide), l9_.out.keep (by decide), l10_.out.keep (by decide), l11_.out.keep (by decide), l12_.out.keep (by decide), l13_.out.keep (by decide), l14_.out.keep (by decide), l15_.out.keep (by decide), l16_.out.keep (by decide), l17_.out.keep (by decide), FC.put rfl, FC.put rfl, l20_.out.keep (by decide), l21_.out.keep (by decide), l22_.out.keep (by decide), l23_.out.keep (by decide), l24_.out.keep (by decide), l25_.out.keep (by decide), l26_.out.keep (by decide)⟩
        · unfold StepAt
          intro L a w1 KK hI hi ha hKK
          unfold IRL12 at hI
          obtain ⟨v55, v56, v57, v58, v59, v60, v61, v62, v63, v64, v65, v66, v67, v68, v69, v70, v71, v72, v73, v74, v75, v76, v77, v78, v79, v80, v4, hI⟩ := hI
          obtain ⟨hae, hsz, hS, hF⟩ := hI
          obtain ⟨l0_, l1_, l2_, l3_, l4_, l5_, l6_, l7_, l8_, l9_, l10_, l11_, l12_, l13_, l14_, l15_, l16_, l17_, l18_, l19_, l20_, l21_, l22_, l23_, l24_, l25_, l26_⟩ := hF
          obtain ⟨k_, hk_, hP⟩ := hS
          have ek_ := stg_at 7 hk_ rfl rfl hi (by omega) (waits ha 18 rfl)
          subst ek_
          simp only [PRL12] at hP
          have e18 := l18_ (waits ha 18 rfl)
          subst e18
          have e19 := l19_ (waits ha 19 rfl)
          subst e19
          have hbl := hP
          replace hk_ := Lib.hid hk_
          replace l0_ := Lib.hid l0_
          replace l1_ := Lib.hid l1_
          replace l2_ := Lib.hid l2_
          replace l3_ := Lib.hid l3_
          replace l4_ := Lib.hid l4_
          replace l5_ := Lib.hid l5_
          replace l6_ := Lib.hid l6_
          replace l7_ := Lib.hid l7_
          replace l8_ := Lib.hid l8_
          replace l9_ := Lib.hid l9_
          replace l10_ := Lib.hid l10_
          replace l11_ := Lib.hid l11_
          replace l12_ := Lib.hid l12_
          replace l13_ := Lib.hid l13_
          replace l14_ := Lib.hid l14_
          replace l15_ := Lib.hid l15_
          replace l16_ := Lib.hid l16_
          replace l17_ := Lib.hid l17_
          replace l18_ := Lib.hid l18_
          replace l19_ := Lib.hid l19_
          replace l20_ := Lib.hid l20_
          replace l21_ := Lib.hid l21_
          replace l22_ := Lib.hid l22_
          replace l23_ := Lib.hid l23_
          replace l24_ := Lib.hid l24_
          replace l25_ := Lib.hid l25_
          replace l26_ := Lib.hid l26_
          rw [hae]
          clear hae
          simp only [holeRL12, List.setIfInBounds_toArray, List.set_cons_zero, List.set_cons_succ]
          replace hKK := Lib.hid hKK
          go_wp2_with (go_at_call 21; refine (Abs_any _ _ _ _ (dr x y) 13 w1 (hrW.below hbl).vi (by omega)).mono ?_; rintro e w7' ⟨neg7, A17, n17, c17, rfl, hi7, hb17⟩)
          exact hKK.out _ _ ⟨v55, v56, v57, v58, v59, v60, v61, v62, v63, v64, v65, v66, v67, v68, v69, v70, v71, v72, (.bool true), (.agg #[.bool b2, .slice A2 n2 c2]), (.agg #[.bool neg7, .slice A17 n17 c17]), v76, v77, v78, v79, v80, v4, (by simp only [holeRL12, Act.put, List.setIfInBounds_toArray, List.set_cons_zero, List.set_cons_succ]), by simpa using hsz, ⟨9, stg_next hk_.out rfl (by decide) (by omega), (by simp only [PRL12]; exact ⟨hbl.trans (hb17.mono hbl.size), _, _, _, _, rfl, hi7⟩)⟩, l0_.out.keep (by decide), l1_.out.keep (by decide), l2_.out.keep (by decide), l3_.out.keep (by decide), l4_.out.keep (by decide), l5_.out.keep (by decide), l6_.out.keep (by decide), l7_.out.keep (by decide), l8_.out.keep (by decide), l9_.out.keep (by decide), l10_.out.keep (by decide), l11_.out.keep (by decide), l12_.out.keep (by decide), l13_.out.keep (by decide), l14_.out.keep (by decide), l15_.out.keep (by decide), l16_.out.keep (by decide), l17_.out.keep (by decide), FC.put rfl, FC.put rfl, FC.put trivial, l21_.out.keep (by decide), l22_.out.keep (by decide), l23_.out.keep (by decide), l24_.out.keep (by decide), l25_.out.keep (by decide), l26_.out.keep (by decide)⟩
        · unfold StepAt
          intro L a w1 KK hI hi ha hKK
          unfold IRL12 at hI
          obtain ⟨v55, v56, v57, v58, v59, v60, v61, v62, v63, v64, v65, v66, v67, v68, v69, v70, v71, v72, v73, v74, v75, v76, v77, v78, v79, v80, v4, hI⟩ := hI
          obtain ⟨hae, hsz, hS, hF⟩ := hI
          obtain ⟨l0_, l1_, l2_, l3_, l4_, l5_, l6_, l7_, l8_, l9_, l10_, l11_, l12_, l13_, l14_, l15_, l16_, l17_, l18_, l19_, l20_, l21_, l22_, l23_, l24_, l25_, l26_⟩ := hF
          obtain ⟨kg_, hkg_, hPg_⟩ := id hS
          obtain ⟨j1, j2, j3, j4, j5, j6, j7, j8⟩ := hgood.out _ _ _ _ _ _ _ hkg_.1 hPg_
          clear hkg_ hPg_
          have e18 := l18_ (waits ha 18 rfl)
          subst e18
          replace hS := Lib.hid hS
          replace l0_ := Lib.hid l0_
          replace l1_ := Lib.hid l1_
          replace l2_ := Lib.hid l2_
          replace l3_ := Lib.hid l3_
          replace l4_ := Lib.hid l4_
          replace l5_ := Lib.hid l5_
          replace l6_ := Lib.hid l6_
          replace l7_ := Lib.hid l7_
          replace l8_ := Lib.hid l8_
          replace l9_ := Lib.hid l9_
          replace l10_ := Lib.hid l10_
          replace l11_ := Lib.hid l11_
          replace l12_ := Lib.hid l12_
          replace l13_ := Lib.hid l13_
          replace l14_ := Lib.hid l14_
          replace l15_ := Lib.hid l15_
          replace l16_ := Lib.hid l16_
          replace l17_ := Lib.hid l17_
          replace l18_ := Lib.hid l18_
          replace l19_ := Lib.hid l19_
          replace l20_ := Lib.hid l20_
          replace l21_ := Lib.hid l21_
          replace l22_ := Lib.hid l22_
          replace l23_ := Lib.hid l23_
          replace l24_ := Lib.hid l24_
          replace l25_ := Lib.hid l25_
          replace l26_ := Lib.hid l26_
          rw [hae]
          clear hae
          simp only [holeRL12, List.setIfInBounds_toArray, List.set_cons_zero, List.set_cons_succ]
          go_simp
          exact hKK _ _ ⟨v55, v56, v57, v58, v59, v60, v61, v62, v63, v64, v65, v66, v67, v68, v69, v70, v71, v72, (.bool true), v74, v75, (.agg #[.bool nb, .slice B m q]), v77, v78, v79, v80, v4, (by simp only [holeRL12, Act.put, List.setIfInBounds_toArray, List.set_cons_zero, List.set_cons_succ]), by simpa using hsz, (by obtain ⟨k_, a_, b_⟩ := hS.out; exact ⟨k_, stg_keep a_ rfl, b_⟩), l0_.out.keep (by decide), l1_.out.keep (by decide), l2_.out.keep (by decide), l3_.out.keep (by decide), l4_.out.keep (by decide), l5_.out.keep (by decide), l6_.out.keep (by decide), l7_.out.keep (by decide), l8_.out.keep (by decide), l9_.out.keep (by decide), l10_.out.keep (by decide), l11_.out.keep (by decide), l12_.out.keep (by decide), l13_.out.keep (by decide), l14_.out.keep (by decide), l15_.out.keep (by decide), l16_.out.keep (by decide), l17_.out.keep (by decide), FC.put rfl, l19_.out.keep (by decide), l20_.out.keep (by decide), FC.put rfl, l22_.out.keep (by decide), l23_.out.keep (by decide), l24_.out.keep (by decide), l25_.out.keep (by decide), l26_.out.keep (by decide)⟩
        · unfold StepAt
          intro L a w1 KK hI hi ha hKK
          unfold IRL12 at hI
          obtain ⟨v55, v56, v57, v58, v59, v60, v61, v62, v63, v64, v65, v66, v67, v68, v69, v70, v71, v72, v73, v74, v75, v76, v77, v78, v79, v80, v4, hI⟩ := hI
          obtain ⟨hae, hsz, hS, hF⟩ := hI
          obtain ⟨l0_, l1_, l2_, l3_, l4_, l5_, l6_, l7_, l8_, l9_, l10_, l11_, l12_, l13_, l14_, l15_, l16_, l17_, l18_, l19_, l20_, l21_, l22_, l23_, l24_, l25_, l26_⟩ := hF
          obtain ⟨k_, hk_, hP⟩ := hS
          have ek_ := stg_at 8 hk_ rfl rfl hi (by omega) (waits ha 20 rfl)
          subst ek_
          simp only [PRL12] at hP
          have e18 := l18_ (waits ha 18 rfl)
          subst e18
          have e21 := l21_ (waits ha 21 rfl)
          subst e21
          obtain ⟨hbl, hiv⟩ := hP
          replace hk_ := Lib.hid hk_
          replace l0_ := Lib.hid l0_
          replace l1_ := Lib.hid l1_
          replace l2_ := Lib.hid l2_
          replace l3_ := Lib.hid l3_
          replace l4_ := Lib.hid l4_
          replace l5_ := Lib.hid l5_
          replace l6_ := Lib.hid l6_
          replace l7_ := Lib.hid l7_
          replace l8_ := Lib.hid l8_
          replace l9_ := Lib.hid l9_
          replace l10_ := Lib.hid l10_
          replace l11_ := Lib.hid l11_
          replace l12_ := Lib.hid l12_
          replace l13_ := Lib.hid l13_
          replace l14_ := Lib.hid l14_
          replace l15_ := Lib.hid l15_
          replace l16_ := Lib.hid l16_
          replace l17_ := Lib.hid l17_
          replace l18_ := Lib.hid l18_
          replace l19_ := Lib.hid l19_
          replace l20_ := Lib.hid l20_
          replace l21_ := Lib.hid l21_
          replace l22_ := Lib.hid l22_
          replace l23_ := Lib.hid l23_
          replace l24_ := Lib.hid l24_
          replace l25_ := Lib.hid l25_
          replace l26_ := Lib.hid l26_
          rw [hae]
          clear hae
          simp only [holeRL12, List.setIfInBounds_toArray, List.set_cons_zero, List.set_cons_succ]
          replace hKK := Lib.hid hKK
          go_wp2_with (go_at_call 21; refine (Abs_any _ _ _ _ y 12 w1 (hyW.below hbl) (by omega)).mono ?_; rintro e w7' ⟨neg7, A17, n17, c17, rfl, hi7, hb17⟩)
          exact hKK.out _ _ ⟨v55, v56, v57, v58, v59, v60, v61, v62, v63, v64, v65, v66, v67, v68, v69, v70, v71, v72, (.bool true), v74, v75, (.agg #[.bool nb, .slice B m q]), (.agg #[.bool neg7, .slice A17 n17 c17]), v78, v79, v80, v4, (by simp only [holeRL12, Act.put, List.setIfInBounds_toArray, List.set_cons_zero, List.set_cons_succ]), by simpa using hsz, ⟨10, stg_next hk_.out rfl (by decide) (by omega), (by simp only [PRL12]; exact ⟨hbl.trans (hb17.mono hbl.size), hiv.below hb17, _, _, _, _, rfl, hi7⟩)⟩, l0_.out.keep (by decide), l1_.out.keep (by decide), l2_.out.keep (by decide), l3_.out.keep (by decide), l4_.out.keep (by decide), l5_.out.keep (by decide), l6_.out.keep (by decide), l7_.out.keep (by decide), l8_.out.keep (by decide), l9_.out.keep (by decide), l10_.out.keep (by decide), l11_.out.keep (by decide), l12_.out.keep (by decide), l13_.out.keep (by decide), l14_.out.keep (by decide), l15_.out.keep (by decide), l16_.out.keep (by decide), l17_.out.keep (by decide), FC.put rfl, l19_.out.keep (by decide), l20_.out.keep (by decide), FC.put rfl, FC.put trivial, l23_.out.keep (by decide), l24_.out.keep (by decide), l25_.out.keep (by decide), l26_.out.keep (by decide)⟩
        · unfold StepAt
          intro L a w1 KK hI hi ha hKK
          unfold IRL12 at hI
          obtain ⟨v55, v56, v57, v58, v59, v60, v61, v62, v63, v64, v65, v66, v67, v68, v69, v70, v71, v72, v73, v74, v75, v76, v77, v78, v79, v80, v4, hI⟩ := hI
          obtain ⟨hae, hsz, hS, hF⟩ := hI
          obtain ⟨l0_, l1_, l2_, l3_, l4_, l5_, l6_, l7_, l8_, l9_, l10_, l11_, l12_, l13_, l14_, l15_, l16_, l17_, l18_, l19_, l20_, l21_, l22_, l23_, l24_, l25_, l26_⟩ := hF
          obtain ⟨k_, hk_, hP⟩ := hS
          have ek_ := stg_at 9 hk_ rfl rfl hi (by omega) (waits ha 22 rfl)
          subst ek_
          simp only [PRL12] at hP
          have e18 := l18_ (waits ha 18 rfl)
          subst e18
          have e20 := l20_ (waits ha 20 rfl)
          clear e20
          have e22 := l22_ (waits ha 22 rfl)
          clear e22
          obtain ⟨hbl, ⟨b5, A15, n15, c15, e1_, hi5⟩, ⟨b6, A16, n16, c16, e2_, hi6⟩⟩ := hP
          subst e1_
          subst e2_
          replace hk_ := Lib.hid hk_
          replace l0_ := Lib.hid l0_
          replace l1_ := Lib.hid l1_
          replace l2_ := Lib.hid l2_
          replace l3_ := Lib.hid l3_
          replace l4_ := Lib.hid l4_
          replace l5_ := Lib.hid l5_
          replace l6_ := Lib.hid l6_
          replace l7_ := Lib.hid l7_
          replace l8_ := Lib.hid l8_
          replace l9_ := Lib.hid l9_
          replace l10_ := Lib.hid l10_
          replace l11_ := Lib.hid l11_
          replace l12_ := Lib.hid l12_
          replace l13_ := Lib.hid l13_
          replace l14_ := Lib.hid l14_
          replace l15_ := Lib.hid l15_
          replace l16_ := Lib.hid l16_
          replace l17_ := Lib.hid l17_
          replace l18_ := Lib.hid l18_
          replace l19_ := Lib.hid l19_
          replace l20_ := Lib.hid l20_
          replace l21_ := Lib.hid l21_
          replace l22_ := Lib.hid l22_
          replace l23_ := Lib.hid l23_
          replace l24_ := Lib.hid l24_
          replace l25_ := Lib.hid l25_
          replace l26_ := Lib.hid l26_
          rw [hae]
          clear hae
          simp only [holeRL12, List.setIfInBounds_toArray, List.set_cons_zero, List.set_cons_succ]
          replace hKK := Lib.hid hKK
          go_wp2_with (go_at_call 38; refine (Compare_c hcm.out hi5.vi (hi6.mono (by omega)).vi (by omega)).mono ?_; rintro e w7' ⟨rfl, hb17⟩)
          exact hKK.out _ _ ⟨v55, v56, v57, v58, v59, v60, v61, v62, v63, v64, v65, v66, v67, v68, v69, v70, v71, v72, (.bool true), v74, (.agg #[.bool b5, .slice A15 n15 c15]), v76, (.agg #[.bool b6, .slice A16 n16 c16]), (.int .i64 (-1)), v79, v80, v4, (by simp only [holeRL12, Act.put, List.setIfInBounds_toArray, List.set_cons_zero, List.set_cons_succ]), by simpa using hsz, ⟨11, stg_next hk_.out rfl (by decide) (by omega), (by simp only [PRL12]; exact hbl.trans (hb17.mono hbl.size))⟩, l0_.out.keep (by decide), l1_.out.keep (by decide), l2_.out.keep (by decide), l3_.out.keep (by decide), l4_.out.keep (by decide), l5_.out.keep (by decide), l6_.out.keep (by decide), l7_.out.keep (by decide), l8_.out.keep (by decide), l9_.out.keep (by decide), l10_.out.keep (by decide), l11_.out.keep (by decide), l12_.out.keep (by decide), l13_.out.keep (by decide), l14_.out.keep (by decide), l15_.out.keep (by decide), l16_.out.keep (by decide), l17_.out.keep (by decide), FC.put rfl, l19_.out.keep (by decide), FC.put trivial, l21_.out.keep (by decide), FC.put trivial, FC.put rfl, l24_.out.keep (by decide), l25_.out.keep (by decide), l26_.out.keep (by decide)⟩
        · unfold StepAt
          intro L a w1 KK hI hi ha hKK
          unfold IRL12 at hI
          obtain ⟨v55, v56, v57, v58, v59, v60, v61, v62, v63, v64, v65, v66, v67, v68, v69, v70, v71, v72, v73, v74, v75, v76, v77, v78, v79, v80, v4, hI⟩ := hI
          obtain ⟨hae, hsz, hS, hF⟩ := hI
          obtain ⟨l0_, l1_, l2_, l3_, l4_, l5_, l6_, l7_, l8_, l9_, l10_, l11_, l12_, l13_, l14_, l15_, l16_, l17_, l18_, l19_, l20_, l21_, l22_, l23_, l24_, l25_, l26_⟩ := hF
          have e18 := l18_ (waits ha 18 rfl)
          subst e18
          have e23 := l23_ (waits ha 23 rfl)
          subst e23
          replace hS := Lib.hid hS
          replace l0_ := Lib.hid l0_
          replace l1_ := Lib.hid l1_
          replace l2_ := Lib.hid l2_
          replace l3_ := Lib.hid l3_
          replace l4_ := Lib.hid l4_
          replace l5_ := Lib.hid l5_
          replace l6_ := Lib.hid l6_
          replace l7_ := Lib.hid l7_
          replace l8_ := Lib.hid l8_
          replace l9_ := Lib.hid l9_
          replace l10_ := Lib.hid l10_
          replace l11_ := Lib.hid l11_
          replace l12_ := Lib.hid l12_
          replace l13_ := Lib.hid l13_
          replace l14_ := Lib.hid l14_
          replace l15_ := Lib.hid l15_
          replace l16_ := Lib.hid l16_
          replace l17_ := Lib.hid l17_
          replace l18_ := Lib.hid l18_
          replace l19_ := Lib.hid l19_
          replace l20_ := Lib.hid l20_
          replace l21_ := Lib.hid l21_
          replace l22_ := Lib.hid l22_
          replace l23_ := Lib.hid l23_
          replace l24_ := Lib.hid l24_
          replace l25_ := Lib.hid l25_
          replace l26_ := Lib.hid l26_
          rw [hae]
          clear hae
          simp only [holeRL12, List.setIfInBounds_toArray, List.set_cons_zero, List.set_cons_succ]
          go_simp
          exact hKK _ _ ⟨v55, v56, v57, v58, v59, v60, v61, v62, v63, v64, v65, v66, v67, v68, v69, v70, v71, v72, (.bool true), v74, v75, v76, v77, (.int .i64 (-1)), (.bool true), v80, v4, (by simp only [holeRL12, Act.put, List.setIfInBounds_toArray, List.set_cons_zero, List.set_cons_succ]), by simpa using hsz, (by obtain ⟨k_, a_, b_⟩ := hS.out; exact ⟨k_, stg_keep a_ rfl, b_⟩), l0_.out.keep (by decide), l1_.out.keep (by decide), l2_.out.keep (by decide), l3_.out.keep (by decide), l4_.out.keep (by decide), l5_.out.keep (by decide), l6_.out.keep (by decide), l7_.out.keep (by decide), l8_.out.keep (by decide), l9_.out.keep (by decide), l10_.out.keep (by decide), l11_.out.keep (by decide), l12_.out.keep (by decide), l13_.out.keep (by decide), l14_.out.keep (by decide), l15_.out.keep (by decide), l16_.out.keep (by decide), l17_.out.keep (by decide), FC.put rfl, l19_.out.keep (by decide), l20_.out.keep (by decide), l21_.out.keep (by decide), l22_.out.keep (by decide), FC.put rfl, FC.put rfl, l25_.out.keep (by decide), l26_.out.keep (by decide)⟩
        · unfold StepAt
          intro L a w1 KK hI hi ha hKK
          unfold IRL12 at hI
          obtain ⟨v55, v56, v57, v58, v59, v60, v61, v62, v63, v64, v65, v66, v67, v68, v69, v70, v71, v72, v73, v74, v75, v76, v77, v78, v79, v80, v4, hI⟩ := hI
          obtain ⟨hae, hsz, hS, hF⟩ := hI
          obtain ⟨l0_, l1_, l2_, l3_, l4_, l5_, l6_, l7_, l8_, l9_, l10_, l11_, l12_, l13_, l14_, l15_, l16_, l17_, l18_, l19_, l20_, l21_, l22_, l23_, l24_, l25_, l26_⟩ := hF
          have e18 := l18_ (waits ha 18 rfl)
          subst e18
          have e24 := l24_ (waits ha 24 rfl)
          subst e24
          replace hS := Lib.hid hS
          replace l0_ := Lib.hid l0_
          replace l1_ := Lib.hid l1_
          replace l2_ := Lib.hid l2_
          replace l3_ := Lib.hid l3_
          replace l4_ := Lib.hid l4_
          replace l5_ := Lib.hid l5_
          replace l6_ := Lib.hid l6_
          replace l7_ := Lib.hid l7_
          replace l8_ := Lib.hid l8_
          replace l9_ := Lib.hid l9_
          replace l10_ := Lib.hid l10_
          replace l11_ := Lib.hid l11_
          replace l12_ := Lib.hid l12_
          replace l13_ := Lib.hid l13_
          replace l14_ := Lib.hid l14_
          replace l15_ := Lib.hid l15_
          replace l16_ := Lib.hid l16_
          replace l17_ := Lib.hid l17_
          replace l18_ := Lib.hid l18_
          replace l19_ := Lib.hid l19_
          replace l20_ := Lib.hid l20_
          replace l21_ := Lib.hid l21_
          replace l22_ := Lib.hid l22_
          replace l23_ := Lib.hid l23_
          replace l24_ := Lib.hid l24_
          replace l25_ := Lib.hid l25_
          replace l26_ := Lib.hid l26_
          rw [hae]
          clear hae
          simp only [holeRL12, List.setIfInBounds_toArray, List.set_cons_zero, List.set_cons_succ]
          go_simp
          exact hKK _ _ ⟨v55, v56, v57, v58, v59, v60, v61, v62, v63, v64, v65, v66, v67, v68, v69, v70, v71, v72, (.bool true), v74, v75, v76, v77, v78, (.bool true), (.bool true), v4, (by simp only [holeRL12, Act.put, List.setIfInBounds_toArray, List.set_cons_zero, List.set_cons_succ]), by simpa using hsz, (by obtain ⟨k_, a_, b_⟩ := hS.out; exact ⟨k_, stg_keep a_ rfl, b_⟩), l0_.out.keep (by decide), l1_.out.keep (by decide), l2_.out.keep (by decide), l3_.out.keep (by decide), l4_.out.keep (by decide), l5_.out.keep (by decide), l6_.out.keep (by decide), l7_.out.keep (by decide), l8_.out.keep (by decide), l9_.out.keep (by decide), l10_.out.keep (by decide), l11_.out.keep (by decide), l12_.out.keep (by decide), l13_.out.keep (by decide), l14_.out.keep (by decide), l15_.out.keep (by decide), l16_.out.keep (by decide), l17_.out.keep (by decide), FC.put rfl, l19_.out.keep (by decide), l20_.out.keep (by decide), l21_.out.keep (by decide), l22_.out.keep (by decide), l23_.out.keep (by decide), FC.put rfl, FC.put rfl, l26_.out.keep (by decide)⟩
        · unfold StepAt
          intro L a w1 KK hI hi ha hKK
          unfold IRL12 at hI
          obtain ⟨v55, v56, v57, v58, v59, v60, v61, v62, v63, v64, v65, v66, v67, v68, v69, v70, v71, v72, v73, v74, v75, v76, v77, v78, v79, v80, v4, hI⟩ := hI
          obtain ⟨hae, hsz, hS, hF⟩ := hI
          obtain ⟨l0_, l1_, l2_, l3_, l4_, l5_, l6_, l7_, l8_, l9_, l10_, l11_, l12_, l13_, l14_, l15_, l16_, l17_, l18_, l19_, l20_, l21_, l22_, l23_, l24_, l25_, l26_⟩ := hF
          have e25 := l25_ (waits ha 25 rfl)
          subst e25
          replace hS := Lib.hid hS
          replace l0_ := Lib.hid l0_
          replace l1_ := Lib.hid l1_
          replace l2_ := Lib.hid l2_
          replace l3_ := Lib.hid l3_
          replace l4_ := Lib.hid l4_
          replace l5_ := Lib.hid l5_
          replace l6_ := Lib.hid l6_
          replace l7_ := Lib.hid l7_
          replace l8_ := Lib.hid l8_
          replace l9_ := Lib.hid l9_
          replace l10_ := Lib.hid l10_
          replace l11_ := Lib.hid l11_
          replace l12_ := Lib.hid l12_
          replace l13_ := Lib.hid l13_
          replace l14_ := Lib.hid l14_
          replace l15_ := Lib.hid l15_
          replace l16_ := Lib.hid l16_
          replace l17_ := Lib.hid l17_
          replace l18_ := Lib.hid l18_
          replace l19_ := Lib.hid l19_
          replace l20_ := Lib.hid l20_
          replace l21_ := Lib.hid l21_
          replace l22_ := Lib.hid l22_
          replace l23_ := Lib.hid l23_
          replace l24_ := Lib.hid l24_
          replace l25_ := Lib.hid l25_
          replace l26_ := Lib.hid l26_
          rw [hae]
          clear hae
          simp only [holeRL12, List.setIfInBounds_toArray, List.set_cons_zero, List.set_cons_succ]
          go_simp
          exact hKK _ _ ⟨v55, v56, v57, v58, v59, v60, v61, v62, v63, v64, v65, v66, v67, v68, v69, v70, v71, v72, v73, v74, v75, v76, v77, v78, v79, (.bool true), (.bool true), (by simp only [holeRL12, Act.put, List.setIfInBounds_toArray, List.set_cons_zero, List.set_cons_succ]), by simpa using hsz, (by obtain ⟨k_, a_, b_⟩ := hS.out; exact ⟨k_, stg_keep a_ rfl, b_⟩), l0_.out.keep (by decide), l1_.out.keep (by decide), l2_.out.keep (by decide), l3_.out.keep (by decide), l4_.out.keep (by decide), l5_.out.keep (by decide), l6_.out.keep (by decide), l7_.out.keep (by decide), l8_.out.keep (by decide), l9_.out.keep (by decide), l10_.out.keep (by decide), l11_.out.keep (by decide), l12_.out.keep (by decide), l13_.out.keep (by decide), l14_.out.keep (by decide), l15_.out.keep (by decide), l16_.out.keep (by decide), l17_.out.keep (by decide), l18_.out.keep (by decide), l19_.out.keep (by decide), l20_.out.keep (by decide), l21_.out.keep (by decide), l22_.out.keep (by decide), l23_.out.keep (by decide), l24_.out.keep (by decide), FC.put rfl, FC.put rfl⟩
      · intro L a w1 hI hall
        unfold IRL12 at hI
        obtain ⟨v55, v56, v57, v58, v59, v60, v61, v62, v63, v64, v65, v66, v67, v68, v69, v70, v71, v72, v73, v74, v75, v76, v77, v78, v79, v80, v4, hI⟩ := hI
        obtain ⟨hae, hsz, hS, hF⟩ := hI
        obtain ⟨l0_, l1_, l2_, l3_, l4_, l5_, l6_, l7_, l8_, l9_, l10_, l11_, l12_, l13_, l14_, l15_, l16_, l17_, l18_, l19_, l20_, l21_, l22_, l23_, l24_, l25_, l26_⟩ := hF
        obtain ⟨k_, hk_, hP⟩ := hS
        have ek_ : k_ = 11 := stg_done hk_ hall rfl
        subst ek_
        simp only [PRL12] at hP
        have e26 := l26_ (hall 26 (by decide))
        subst e26
        rw [hae]
        clear hae hsz hk_ l0_ l1_ l2_ l3_ l4_ l5_ l6_ l7_ l8_ l9_ l10_ l11_ l12_ l13_ l14_ l15_ l16_ l17_ l18_ l19_ l20_ l21_ l22_ l23_ l24_ l25_ hall
        simp only [holeRL12, List.setIfInBounds_toArray, List.set_cons_zero, List.set_cons_succ]
        refine hKQ _ _ ?_
        go_wp2_with fail
        go_ret
        exact ⟨rfl, hbY.trans ((h7.trans (hP.mono h7.size)).mono (by omega))⟩
    · rcases Int.lt_or_gt_of_ne hy0 with hyn | hyp
      · have hsy : y.sign = -1 := sign_neg' (by omega)
        have hsr : (dr x y).sign = -1 := by
          rcases hsg with h | h
          · exact absurd h hr0
          · rw [h, hsy]
        replace hsr := Lib.hid hsr
        replace hsy := Lib.hid hsy
        clear hsg hr0
        go_upto_region 12 with (first | (go_at_call 18; have _t := tok1; clear tok1 _t; refine (same_ii _ _ _ _ (dq x y) 14 _ _ _ _ 16 _ hq ha (by omega) (by omega)).mono ?_; rintro e w5 ⟨rfl, h5⟩; clear t1 t2 t3 t4 x1 x2 x3 x4 x5 x6 x7 x8; obtain ⟨t1, t2, t3, t4, x1, x2, x3, x4, x5, x6, x7, x8⟩ := keepS.out _ h5) | (go_at_call 18; refine (same_ii _ _ _ _ (dr x y) 13 _ _ _ _ 32 _ (hr.below h5) (hb.below h5) (by omega) (by omega)).mono ?_; rintro e w6 ⟨rfl, h6⟩; replace h6 := h5.trans (h6.mono h5.size); clear t1 t2 t3 t4 x1 x2 x3 x4 x5 x6 x7 x8; obtain ⟨t1, t2, t3, t4, x1, x2, x3, x4, x5, x6, x7, x8⟩ := keepS.out _ h6) | (go_at_call 16; refine (Sign_c hsr.out (hr.below h6).vi (by omega)).mono ?_; rintro e w7 ⟨rfl, h7⟩; replace h7 := h6.trans (h7.mono h6.size); have hs7 := h7.size; clear t1 t2 t3 t4 x1 x2 x3 x4 x5 x6 x7 x8; obtain ⟨t1, t2, t3, t4, x1, x2, x3, x4, x5, x6, x7, x8⟩ := keepS.out _ h7))
        have qtok1 : True := trivial
        have qtok2 : True := trivial
        have qtok3 : True := trivial
        have qtok4 : True := trivial
        have qtok5 : True := trivial
        have qtok6 : True := trivial
        have qtok7 : True := trivial
        have qtok8 : True := trivial
        go_region_held3 (fun w' => w'.cell? ⟨w.heap.size, 0, none⟩ = some (.bool na) ∧ w'.cell? ⟨w.heap.size, 1, none⟩ = some (.slice A n p) ∧ w'.cell? ⟨w.heap.size + 1, 0, none⟩ = some (.bool nb) ∧ w'.cell? ⟨w.heap.size + 1, 1, none⟩ = some (.slice B m q) ∧ w'.cell? ⟨s3, 0, none⟩ = some (.bool b1) ∧ w'.cell? ⟨s3, 1, none⟩ = some (.slice A1 n1 c1) ∧ w'.cell? ⟨s3 + 1, 0, none⟩ = some (.bool b2) ∧ w'.cell? ⟨s3 + 1, 1, none⟩ = some (.slice A2 n2 c2) ∧ w'.cell? ⟨s4, 0, none⟩ = some (.bool b3) ∧ w'.cell? ⟨s4, 1, none⟩ = some (.slice A3 n3 c3) ∧ w'.cell? ⟨s4 + 1, 0, none⟩ = some (.bool b4) ∧ w'.cell? ⟨s4 + 1, 1, none⟩ = some (.slice A4 n4 c4))
          (exact keepS.out _ (by repeat (first | refine Below.drew ?_ | exact qB8 | exact qB7 | exact qB6 | exact qB5 | exact qB4 | exact qB3 | exact qB2 | exact qB1 | exact h7)))
          (first | (go_at_call 32; clear qtok1; refine (Mul_any _ _ _ _ (dq x y) _ _ _ _ y 14 12 _ (hq.below (by repeat (first | refine Below.drew ?_ | exact h7))).vi (hy.below (by repeat (first | refine Below.drew ?_ | exact h7))) (by omega) (by omega) (by omega)).mono ?_; rintro e qw1 ⟨r1b, r1A, r1n, r1c, rfl, r1I, qh1⟩; have qB1 : Below Y.heap.size Y qw1 := Below.trans (by repeat (first | refine Below.drew ?_ | exact h7)) (qh1.mono (by first | omega | (simp <;> omega))); have qs1 := qB1.size) | (go_at_call 23; clear qtok2; refine (AddV hsum.out (r1I.below (by repeat (first | refine Below.drew ?_ | exact Below.refl _ _))).vi ((hr.below (by repeat (first | refine Below.drew ?_ | exact qB1))).mono (by omega)).vi (by omega)).mono ?_; rintro e qw2 ⟨r2b, r2A, r2n, r2c, rfl, r2I, qh2⟩; have qB2 : Below Y.heap.size Y qw2 := Below.trans (by repeat (first | refine Below.drew ?_ | exact qB1)) (qh2.mono (by first | omega | (simp <;> omega))); have qs2 := qB2.size; replace r1I := II.below r1I (Below.trans (by repeat (first | refine Below.drew ?_ | exact Below.refl _ _)) (qh2.mono (by first | omega | (simp <;> omega))))) | (go_at_call 13; clear qtok3; refine (Value_any _ _ _ _ x 12 _ (hx.below (by repeat (first | refine Below.drew ?_ | exact qB2))) (by omega)).mono ?_; rintro e qw3 ⟨r3b, r3A, r3n, r3c, rfl, r3I, qh3⟩; have qB3 : Below Y.heap.size Y qw3 := Below.trans (by repeat (first | refine Below.drew ?_ | exact qB2)) (qh3.mono (by first | omega | (simp <;> omega))); have qs3 := qB3.size; replace r1I := II.below r1I (Below.trans (by repeat (first | refine Below.drew ?_ | exact Below.refl _ _)) (qh3.mono (by first | omega | (simp <;> omega)))); replace r2I := II.below r2I (Below.trans (by repeat (first | refine Below.drew ?_ | exact Below.refl _ _)) (qh3.mono (by first | omega | (simp <;> omega))))) | (go_at_call 18; clear qtok4; refine (same_ii _ _ _ _ x 27 _ _ _ _ 12 _ (r2I.below (by repeat (first | refine Below.drew ?_ | exact Below.refl _ _))) (r3I.below (by repeat (first | refine Below.drew ?_ | exact Below.refl _ _))) (by omega) (by omega)).mono ?_; rintro e qw4 ⟨rfl, qh4⟩; have qB4 : Below Y.heap.size Y qw4 := Below.trans (by repeat (first | refine Below.drew ?_ | exact qB3)) (qh4.mono (by first | omega | (simp <;> omega))); have qs4 := qB4.size; replace r1I := II.below r1I (Below.trans (by repeat (first | refine Below.drew ?_ | exact Below.refl _ _)) (qh4.mono (by first | omega | (simp <;> omega)))); replace r2I := II.below r2I (Below.trans (by repeat (first | refine Below.drew ?_ | exact Below.refl _ _)) (qh4.mono (by first | omega | (simp <;> omega)))); replace r3I := II.below r3I (Below.trans (by repeat (first | refine Below.drew ?_ | exact Below.refl _ _)) (qh4.mono (by first | omega | (simp <;> omega))))) | (go_at_call 16; clear qtok5; refine (Sign_c hsy.out (hy.below (by repeat (first | refine Below.drew ?_ | exact qB4))) (by omega)).mono ?_; rintro e qw5 ⟨rfl, qh5⟩; have qB5 : Below Y.heap.size Y qw5 := Below.trans (by repeat (first | refine Below.drew ?_ | exact qB4)) (qh5.mono (by first | omega | (simp <;> omega))); have qs5 := qB5.size; replace r1I := II.below r1I (Below.trans (by repeat (first | refine Below.drew ?_ | exact Below.refl _ _)) (qh5.mono (by first | omega | (simp <;> omega)))); replace r2I := II.below r2I (Below.trans (by repeat (first | refine Below.drew ?_ | exact Below.refl _ _)) (qh5.mono (by first | omega | (simp <;> omega)))); replace r3I := II.below r3I (Below.trans (by repeat (first | refine Below.drew ?_ | exact Below.refl _ _)) (qh5.mono (by first | omega | (simp <;> omega))))) | (go_at_call 21; clear qtok6; refine (Abs_any _ _ _ _ (dr x y) 13 _ (hr.below (by repeat (first | refine Below.drew ?_ | exact qB5))).vi (by omega)).mono ?_; rintro e qw6 ⟨r4b, r4A, r4n, r4c, rfl, r4I, qh6⟩; have qB6 : Below Y.heap.size Y qw6 := Below.trans (by repeat (first | refine Below.drew ?_ | exact qB5)) (qh6.mono (by first | omega | (simp <;> omega))); have qs6 := qB6.size; replace r1I := II.below r1I (Below.trans (by repeat (first | refine Below.drew ?_ | exact Below.refl _ _)) (qh6.mono (by first | omega | (simp <;> omega)))); replace r2I := II.below r2I (Below.trans (by repeat (first | refine Below.drew ?_ | exact Below.refl _ _)) (qh6.mono (by first | omega | (simp <;> omega)))); replace r3I := II.below r3I (Below.trans (by repeat (first | refine Below.drew ?_ | exact Below.refl _ _)) (qh6.mono (by first | omega | (simp <;> omega))))) | (go_at_call 21; clear qtok7; refine (Abs_any _ _ _ _ y 12 _ (hy.below (by repeat (first | refine Below.drew ?_ | exact qB6))) (by omega)).mono ?_; rintro e qw7 ⟨r5b, r5A, r5n, r5c, rfl, r5I, qh7⟩; have qB7 : Below Y.heap.size Y qw7 := Below.trans (by repeat (first | refine Below.drew ?_ | exact qB6)) (qh7.mono (by first | omega | (simp <;> omega))); have qs7 := qB7.size; replace r1I := II.below r1I (Below.trans (by repeat (first | refine Below.drew ?_ | exact Below.refl _ _)) (qh7.mono (by first | omega | (simp <;> omega)))); replace r2I := II.below r2I (Below.trans (by repeat (first | refine Below.drew ?_ | exact Below.refl _ _)) (qh7.mono (by first | omega | (simp <;> omega)))); replace r3I := II.below r3I (Below.trans (by repeat (first | refine Below.drew ?_ | exact Below.refl _ _)) (qh7.mono (by first | omega | (simp <;> omega)))); replace r4I := II.below r4I (Below.trans (by repeat (first | refine Below.drew ?_ | exact Below.refl _ _)) (qh7.mono (by first | omega | (simp <;> omega))))) | (go_at_call 38; clear qtok8; refine (Compare_c hcm.out (r4I.below (by repeat (first | refine Below.drew ?_ | exact Below.refl _ _))).vi ((r5I.below (by repeat (first | refine Below.drew ?_ | exact Below.refl _ _))).mono (by omega)).vi (by omega)).mono ?_; rintro e qw8 ⟨rfl, qh8⟩; have qB8 : Below Y.heap.size Y qw8 := Below.trans (by repeat (first | refine Below.drew ?_ | exact qB7)) (qh8.mono (by first | omega | (simp <;> omega))); have qs8 := qB8.size; replace r1I := II.below r1I (Below.trans (by repeat (first | refine Below.drew ?_ | exact Below.refl _ _)) (qh8.mono (by first | omega | (simp <;> omega)))); replace r2I := II.below r2I (Below.trans (by repeat (first | refine Below.drew ?_ | exact Below.refl _ _)) (qh8.mono (by first | omega | (simp <;> omega)))); replace r3I := II.below r3I (Below.trans (by repeat (first | refine Below.drew ?_ | exact Below.refl _ _)) (qh8.mono (by first | omega | (simp <;> omega)))); replace r4I := II.below r4I (Below.trans (by repeat (first | refine Below.drew ?_ | exact Below.refl _ _)) (qh8.mono (by first | omega | (simp <;> omega)))); replace r5I := II.below r5I (Below.trans (by repeat (first | refine Below.drew ?_ | exact Below.refl _ _)) (qh8.mono (by first | omega | (simp <;> omega))))))
        go_wp2_with fail
        go_ret
        exact ⟨rfl, hbY.trans (qB8.mono (by omega))⟩
      · have hsy : y.sign = 1 := sign_pos' (by omega)
        have hsr : (dr x y).sign = 1 := by
          rcases hsg with h | h
          · exact absurd h hr0
          · rw [h, hsy]
        replace hsr := Lib.hid hsr
        replace hsy := Lib.hid hsy
        clear hsg hr0
        go_upto_region 12 with (first | (go_at_call 18; have _t := tok1; clear tok1 _t; refine (same_ii _ _ _ _ (dq x y) 14 _ _ _ _ 16 _ hq ha (by omega) (by omega)).mono ?_; rintro e w5 ⟨rfl, h5⟩; clear t1 t2 t3 t4 x1 x2 x3 x4 x5 x6 x7 x8; obtain ⟨t1, t2, t3, t4, x1, x2, x3, x4, x5, x6, x7, x8⟩ := keepS.out _ h5) | (go_at_call 18; refine (same_ii _ _ _ _ (dr x y) 13 _ _ _ _ 32 _ (hr.below h5) (hb.below h5) (by omega) (by omega)).mono ?_; rintro e w6 ⟨rfl, h6⟩; replace h6 := h5.trans (h6.mono h5.size); clear t1 t2 t3 t4 x1 x2 x3 x4 x5 x6 x7 x8; obtain ⟨t1, t2, t3, t4, x1, x2, x3, x4, x5, x6, x7, x8⟩ := keepS.out _ h6) | (go_at_call 16; refine (Sign_c hsr.out (hr.below h6).vi (by omega)).mono ?_; rintro e w7 ⟨rfl, h7⟩; replace h7 := h6.trans (h7.mono h6.size); have hs7 := h7.size; clear t1 t2 t3 t4 x1 x2 x3 x4 x5 x6 x7 x8; obtain ⟨t1, t2, t3, t4, x1, x2, x3, x4, x5, x6, x7, x8⟩ := keepS.out _ h7))
        have qtok1 : True := trivial
        have qtok2 : True := trivial
        have qtok3 : True := trivial
        have qtok4 : True := trivial
        have qtok5 : True := trivial
        have qtok6 : True := trivial
        have qtok7 : True := trivial
        have qtok8 : True := trivial
        go_region_held3 (fun w' => w'.cell? ⟨w.heap.size, 0, none⟩ = some (.bool na) ∧ w'.cell? ⟨w.heap.size, 1, none⟩ = some (.slice A n p) ∧ w'.cell? ⟨w.heap.size + 1, 0, none⟩ = some (.bool nb) ∧ w'.cell? ⟨w.heap.size + 1, 1, none⟩ = some (.slice B m q) ∧ w'.cell? ⟨s3, 0, none⟩ = some (.bool b1) ∧ w'.cell? ⟨s3, 1, none⟩ = some (.slice A1 n1 c1) ∧ w'.cell? ⟨s3 + 1, 0, none⟩ = some (.bool b2) ∧ w'.cell? ⟨s3 + 1, 1, none⟩ = some (.slice A2 n2 c2) ∧ w'.cell? ⟨s4, 0, none⟩ = some (.bool b3) ∧ w'.cell? ⟨s4, 1, none⟩ = some (.slice A3 n3 c3) ∧ w'.cell? ⟨s4 + 1, 0, none⟩ = some (.bool b4) ∧ w'.cell? ⟨s4 + 1, 1, none⟩ = some (.slice A4 n4 c4))
          (exact keepS.out _ (by repeat (first | refine Below.drew ?_ | exact qB8 | exact qB7 | exact qB6 | exact qB5 | exact qB4 | exact qB3 | exact qB2 | exact qB1 | exact h7)))
          (first | (go_at_call 32; clear qtok1; refine (Mul_any _ _ _ _ (dq x y) _ _ _ _ y 14 12 _ (hq.below (by repeat (first | refine Below.drew ?_ | exact h7))).vi (hy.below (by repeat (first | refine Below.drew ?_ | exact h7))) (by omega) (by omega) (by omega)).mono ?_; rintro e qw1 ⟨r1b, r1A, r1n, r1c, rfl, r1I, qh1⟩; have qB1 : Below Y.heap.size Y qw1 := Below.trans (by repeat (first | refine Below.drew ?_ | exact h7)) (qh1.mono (by first | omega | (simp <;> omega))); have qs1 := qB1.size) | (go_at_call 23; clear qtok2; refine (AddV hsum.out (r1I.below (by repeat (first | refine Below.drew ?_ | exact Below.refl _ _))).vi ((hr.below (by repeat (first | refine Below.drew ?_ | exact qB1))).mono (by omega)).vi (by omega)).mono ?_; rintro e qw2 ⟨r2b, r2A, r2n, r2c, rfl, r2I, qh2⟩; have qB2 : Below Y.heap.size Y qw2 := Below.trans (by repeat (first | refine Below.drew ?_ | exact qB1)) (qh2.mono (by first | omega | (simp <;> omega))); have qs2 := qB2.size; replace r1I := II.below r1I (Below.trans (by repeat (first | refine Below.drew ?_ | exact Below.refl _ _)) (qh2.mono (by first | omega | (simp <;> omega))))) | (go_at_call 13; clear qtok3; refine (Value_any _ _ _ _ x 12 _ (hx.below (by repeat (first | refine Below.drew ?_ | exact qB2))) (by omega)).mono ?_; rintro e qw3 ⟨r3b, r3A, r3n, r3c, rfl, r3I, qh3⟩; have qB3 : Below Y.heap.size Y qw3 := Below.trans (by repeat (first | refine Below.drew ?_ | exact qB2)) (qh3.mono (by first | omega | (simp <;> omega))); have qs3 := qB3.size; replace r1I := II.below r1I (Below.trans (by repeat (first | refine Below.drew ?_ | exact Below.refl _ _)) (qh3.mono (by first | omega | (simp <;> omega)))); replace r2I := II.below r2I (Below.trans (by repeat (first | refine Below.drew ?_ | exact Below.refl _ _)) (qh3.mono (by first | omega | (simp <;> omega))))) | (go_at_call 18; clear qtok4; refine (same_ii _ _ _ _ x 27 _ _ _ _ 12 _ (r2I.below (by repeat (first | refine Below.drew ?_ | exact Below.refl _ _))) (r3I.below (by repeat (first | refine Below.drew ?_ | exact Below.refl _ _))) (by omega) (by omega)).mono ?_; rintro e qw4 ⟨rfl, qh4⟩; have qB4 : Below Y.heap.size Y qw4 := Below.trans (by repeat (first | refine Below.drew ?_ | exact qB3)) (qh4.mono (by first | omega | (simp <;> omega))); have qs4 := qB4.size; replace r1I := II.below r1I (Below.trans (by repeat (first | refine Below.drew ?_ | exact Below.refl _ _)) (qh4.mono (by first | omega | (simp <;> omega)))); replace r2I := II.below r2I (Below.trans (by repeat (first | refine Below.drew ?_ | exact Below.refl _ _)) (qh4.mono (by first | omega | (simp <;> omega)))); replace r3I := II.below r3I (Below.trans (by repeat (first | refine Below.drew ?_ | exact Below.refl _ _)) (qh4.mono (by first | omega | (simp <;> omega))))) | (go_at_call 16; clear qtok5; refine (Sign_c hsy.out (hy.below (by repeat (first | refine Below.drew ?_ | exact qB4))) (by omega)).mono ?_; rintro e qw5 ⟨rfl, qh5⟩; have qB5 : Below Y.heap.size Y qw5 := Below.trans (by repeat (first | refine Below.drew ?_ | exact qB4)) (qh5.mono (by first | omega | (simp <;> omega))); have qs5 := qB5.size; replace r1I := II.below r1I (Below.trans (by repeat (first | refine Below.drew ?_ | exact Below.refl _ _)) (qh5.mono (by first | omega | (simp <;> omega)))); replace r2I := II.below r2I (Below.trans (by repeat (first | refine Below.drew ?_ | exact Below.refl _ _)) (qh5.mono (by first | omega | (simp <;> omega)))); replace r3I := II.below r3I (Below.trans (by repeat (first | refine Below.drew ?_ | exact Below.refl _ _)) (qh5.mono (by first | omega | (simp <;> omega))))) | (go_at_call 21; clear qtok6; refine (Abs_any _ _ _ _ (dr x y) 13 _ (hr.below (by repeat (first | refine Below.drew ?_ | exact qB5))).vi (by omega)).mono ?_; rintro e qw6 ⟨r4b, r4A, r4n, r4c, rfl, r4I, qh6⟩; have qB6 : Below Y.heap.size Y qw6 := Below.trans (by repeat (first | refine Below.drew ?_ | exact qB5)) (qh6.mono (by first | omega | (simp <;> omega))); have qs6 := qB6.size; replace r1I := II.below r1I (Below.trans (by repeat (first | refine Below.drew ?_ | exact Below.refl _ _)) (qh6.mono (by first | omega | (simp <;> omega)))); replace r2I := II.below r2I (Below.trans (by repeat (first | refine Below.drew ?_ | exact Below.refl _ _)) (qh6.mono (by first | omega | (simp <;> omega)))); replace r3I := II.below r3I (Below.trans (by repeat (first | refine Below.drew ?_ | exact Below.refl _ _)) (qh6.mono (by first | omega | (simp <;> omega))))) | (go_at_call 21; clear qtok7; refine (Abs_any _ _ _ _ y 12 _ (hy.below (by repeat (first | refine Below.drew ?_ | exact qB6))) (by omega)).mono ?_; rintro e qw7 ⟨r5b, r5A, r5n, r5c, rfl, r5I, qh7⟩; have qB7 : Below Y.heap.size Y qw7 := Below.trans (by repeat (first | refine Below.drew ?_ | exact qB6)) (qh7.mono (by first | omega | (simp <;> omega))); have qs7 := qB7.size; replace r1I := II.below r1I (Below.trans (by repeat (first | refine Below.drew ?_ | exact Below.refl _ _)) (qh7.mono (by first | omega | (simp <;> omega)))); replace r2I := II.below r2I (Below.trans (by repeat (first | refine Below.drew ?_ | exact Below.refl _ _)) (qh7.mono (by first | omega | (simp <;> omega)))); replace r3I := II.below r3I (Below.trans (by repeat (first | refine Below.drew ?_ | exact Below.refl _ _)) (qh7.mono (by first | omega | (simp <;> omega)))); replace r4I := II.below r4I (Below.trans (by repeat (first | refine Below.drew ?_ | exact Below.refl _ _)) (qh7.mono (by first | omega | (simp <;> omega))))) | (go_at_call 38; clear qtok8; refine (Compare_c hcm.out (r4I.below (by repeat (first | refine Below.drew ?_ | exact Below.refl _ _))).vi ((r5I.below (by repeat (first | refine Below.drew ?_ | exact Below.refl _ _))).mono (by omega)).vi (by omega)).mono ?_; rintro e qw8 ⟨rfl, qh8⟩; have qB8 : Below Y.heap.size Y qw8 := Below.trans (by repeat (first | refine Below.drew ?_ | exact qB7)) (qh8.mono (by first | omega | (simp <;> omega))); have qs8 := qB8.size; replace r1I := II.below r1I (Below.trans (by repeat (first | refine Below.drew ?_ | exact Below.refl _ _)) (qh8.mono (by first | omega | (simp <;> omega)))); replace r2I := II.below r2I (Below.trans (by repeat (first | refine Below.drew ?_ | exact Below.refl _ _)) (qh8.mono (by first | omega | (simp <;> omega)))); replace r3I := II.below r3I (Below.trans (by repeat (first | refine Below.drew ?_ | exact Below.refl _ _)) (qh8.mono (by first | omega | (simp <;> omega)))); replace r4I := II.below r4I (Below.trans (by repeat (first | refine Below.drew ?_ | exact Below.refl _ _)) (qh8.mono (by first | omega | (simp <;> omega)))); replace r5I := II.below r5I (Below.trans (by repeat (first | refine Below.drew ?_ | exact Below.refl _ _)) (qh8.mono (by first | omega | (simp <;> omega))))))
        go_wp2_with fail
        go_ret
        exact ⟨rfl, hbY.trans (qB8.mono (by omega))⟩

set_option maxRecDepth 100000 in
set_option maxHeartbeats 4000000 in
/-- The law of division, where one has more than 12 groups. -/
theorem divides_long (na : Bool) (A : Option Addr) (n p : Nat) (nb : Bool) (B : Option Addr) (m q : Nat) (w : World)
    (hn1 : n ≤ 9223372036854775807) (hn2 : m ≤ 9223372036854775807) (hlong : ¬ (n ≤ 12 ∧ m ≤ 12)) (hp : Pows w) :
    Calls Tryd.prog 6 #[.agg #[.bool na, .slice A n p], .agg #[.bool nb, .slice B m q]] w fun e w' => e = .returned (.bool true) ∧ Below w.heap.size w w' := by
  replace hlong := Lib.hid hlong
  have hb0 := ((Below.refl w.heap.size w).alloc (Nat.le_refl _) (.cells #[.bool na, .slice A n p] 24)).alloc (by simp) (.cells #[.bool nb, .slice B m q] 24)
  go_enter Tryd.func6, Tryd.ntmps6
  go_wp2_with (first | (go_at_call 11; refine (known_any _ (pows_below hp hb0)).mono ?_; rintro e w1 ⟨rfl, hb2⟩; have hbw1 := hb0.trans (hb2.mono (by simp <;> omega)); obtain ⟨⟨d1, d2, d3, d4⟩, ⟨e1, e2, e3, e4⟩, hsz⟩ := box2s hb2) | (go_at_call 12; refine (short_any w1.heap.size 2 2 (duo na nb) (duo A B) (duo n m) (duo p q) _ (by omega) (by omega) (by omega) (by simp) (fun i hi => (by rcases (by omega : i = 0 ∨ i = 1) with rfl | rfl <;> simp [duo] <;> omega)) (duo_cells _ _ na nb A B n m p q (heap_alloc_new _ _)).1 (duo_cells _ _ na nb A B n m p q (heap_alloc_new _ _)).2).mono ?_; rintro e w2 ⟨⟨b, rfl, hbt⟩, hb3⟩; have hbfa : b = false := (by cases b; rfl; exact (hlong.out ⟨hbt.1 rfl 0 (by omega), hbt.1 rfl 1 (by omega)⟩).elim); subst hbfa))
  go_ret
  exact ⟨rfl, hbw1.trans ((((Below.refl _ w1).alloc (Nat.le_refl _) _).trans (hb3.mono (by simp))).mono hbw1.size)⟩

/-- The law of division. -/
theorem divides_any (na : Bool) (A : Option Addr) (n p : Nat) (la : List Nat) (nb : Bool) (B : Option Addr) (m q : Nat) (lb : List Nat) (w : World)
    (hx : Sl w A n p la) (hy : Sl w B m q lb) (hp : Pows w) :
    Calls Tryd.prog 6 #[.agg #[.bool na, .slice A n p], .agg #[.bool nb, .slice B m q]] w fun e w' => e = .returned (.bool true) ∧ Below w.heap.size w w' := by
  by_cases h : n ≤ 12 ∧ m ≤ 12
  · exact divides_short na A n p (cnt na la) nb B m q (cnt nb lb) w ⟨la, hx, rfl, h.1⟩ ⟨lb, hy, rfl, h.2⟩ hp
  · exact divides_long na A n p nb B m q w (Nat.le_trans hx.le_cap hx.cap_le) (Nat.le_trans hy.le_cap hy.cap_le) h hp

end Go.Proofs.YtabibkhcdamlhaaDoor
