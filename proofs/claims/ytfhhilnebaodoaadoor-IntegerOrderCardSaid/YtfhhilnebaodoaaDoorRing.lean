/-
  Walk: the law of the ring.
-/
import Derived.Test.YtfhhilnebaodoaaDoorZ
import Derived.Test.YtfhhilnebaodoaaDoorRingA
import Derived.Test.YtfhhilnebaodoaaDoorG
import Derived.Test.YtfhhilnebaodoaaDoorH
import Derived.Test.YtfhhilnebaodoaaDoorU
import Derived.Test.YtfhhilnebaodoaaDoorV
import Derived.Deep.RegionHeld3
namespace Go.Proofs.YtfhhilnebaodoaaDoor
open Go.RowKit Num

theorem al_some {w : World} {a : Addr} {v : Value} {o : Obj} (h : w.cell? a = some v) : (w.alloc o).cell? a = some v := by
  rw [World.cell?_alloc_some _ _ _ (by rw [h]; rfl)]; exact h
theorem sc_some {w : World} {p a : Addr} {u v : Value} (h : w.cell? a = some v) (hp : p.block ≠ a.block) : (w.setCell p u).cell? a = some v := by
  rw [World.cell?_setCell_far _ _ _ _ hp]; exact h

theorem hid_z {w : World} {neg : Bool} {A : Option Addr} {n c k : Nat} {z z' : Int} (h : II w neg A n c z k) (e : z = z') : II w neg A n c z' k := e ▸ h

/-- Three values of three. -/
def tri {α : Type} (a b c : α) : Nat → α
  | 0 => a
  | 1 => b
  | _ => c

/-- The cells of three integers in a row. -/
theorem tri_cells (w : World) (g : Nat) (a b c : Bool) (A B C : Option Addr) (n m k p q r : Nat) (hg : w.heap[g]? = some (.cells #[.bool a, .slice A n p, .bool b, .slice B m q, .bool c, .slice C k r] 24 (0, 0))) :
    (∀ i, i < 3 → w.cell? ⟨g, i * 2, none⟩ = some (.bool (tri a b c i))) ∧ (∀ i, i < 3 → w.cell? ⟨g, i * 2 + 1, none⟩ = some (.slice (tri A B C i) (tri n m k i) (tri p q r i))) := by
  constructor
  · intro i hi
    rcases (by omega : i = 0 ∨ i = 1 ∨ i = 2) with rfl | rfl | rfl <;> simp [World.cell?, hg, tri]
  · intro i hi
    rcases (by omega : i = 0 ∨ i = 1 ∨ i = 2) with rfl | rfl | rfl <;> simp [World.cell?, hg, tri]

set_option maxRecDepth 100000 in
set_option maxHeartbeats 4000000 in
/-- The law of the ring, where all have at most 12 groups. -/
theorem ring_short (na : Bool) (A : Option Addr) (n p : Nat) (x : Int) (nb : Bool) (B : Option Addr) (m q : Nat) (y : Int) (nc : Bool) (C : Option Addr) (k r : Nat) (z : Int) (w : World)
    (hx : VI w na A n p x 12) (hy : VI w nb B m q y 12) (hz : VI w nc C k r z 12) (hp : Pows w) :
    Calls Tryd.prog 5 #[.agg #[.bool na, .slice A n p], .agg #[.bool nb, .slice B m q], .agg #[.bool nc, .slice C k r]] w fun e w' => e = .returned (.bool true) ∧ Below w.heap.size w w' := by
  have hb1 := ((Below.refl w.heap.size w).alloc (Nat.le_refl _) (.cells #[.bool na, .slice A n p] 24)).alloc (by simp) (.cells #[.bool nb, .slice B m q] 24)
  have hb0 := hb1.alloc (by simp <;> omega) (.cells #[.bool nc, .slice C k r] 24)
  clear hb1
  have hn1 := hx.le
  have hn2 := hy.le
  have hn3 := hz.le
  go_enter Tryd.func5, Tryd.ntmps5
  go_wp2_with (first | (go_at_call 11; refine (known_any _ (pows_below hp hb0)).mono ?_; rintro e w1 ⟨rfl, hb2⟩; have hbw1 := hb0.trans (hb2.mono (by simp <;> omega)); obtain ⟨⟨d1, d2, d3, d4, d5, d6⟩, ⟨e1, e2, e3, e4, e5, e6⟩, hsz⟩ := box3s hb2) | (go_at_call 12; refine (short_any w1.heap.size 3 3 (tri na nb nc) (tri A B C) (tri n m k) (tri p q r) _ (by omega) (by omega) (by omega) (by simp) (fun i hi => (by rcases (by omega : i = 0 ∨ i = 1 ∨ i = 2) with rfl | rfl | rfl <;> simp [tri] <;> omega)) (tri_cells _ _ na nb nc A B C n m k p q r (heap_alloc_new _ _)).1 (tri_cells _ _ na nb nc A B C n m k p q r (heap_alloc_new _ _)).2).mono ?_; rintro e w2 ⟨⟨b, rfl, hbt⟩, hb3⟩; have hbtr : b = true := (hbt.2 (fun i hi => (by rcases (by omega : i = 0 ∨ i = 1 ∨ i = 2) with rfl | rfl | rfl <;> simp [tri] <;> omega))); subst hbtr))
  have hb4 : Below w1.heap.size w1 w2 := ((Below.refl _ w1).alloc (Nat.le_refl _) _).trans (hb3.mono (by simp))
  have hbw2 : Below w.heap.size w w2 := hbw1.trans (hb4.mono (by omega))
  obtain ⟨⟨g1, g2, g3, g4, g5, g6⟩, ⟨f1, f2, f3, f4, f5, f6⟩, hs2⟩ := boxes6 hb4 ⟨d1, d2, d3, d4, d5, d6⟩ ⟨e1, e2, e3, e4, e5, e6⟩ hsz
  clear d1 d2 d3 d4 d5 d6 e1 e2 e3 e4 e5 e6 hsz hbw1 hb3 hb4 hb2 hb0 hbt
  have l1 : w.heap.size < w2.heap.size := by omega
  have l2 : w.heap.size + 1 < w2.heap.size := by omega
  refine wp_region_inv0 (I0 := I5 (.agg #[.bool na, .slice A n p]) (.agg #[.bool nb, .slice B m q]) x y w2) (by kernel_rfl) (by kernel_rfl) ?_ ?_ ?_ ?_
  · intro L a wr hI
    unfold I5 at hI
    obtain ⟨v7, v8, v9, v18, v19, v20, v21, v22, v23, v24, v25, v26, hae, h⟩ := hI
    exact h.sz
  · exact ⟨undef, undef, undef, undef, undef, undef, undef, undef, undef, undef, undef, undef, (by simp only [hole, Act.put, List.setIfInBounds_toArray, List.set_cons_zero, List.set_cons_succ]), R5.start⟩
  · rename_i Q0 K0 hK0
    generalize hQQ : Exit.then K0 Q0 = QQ
    clear hQQ hK0 K0 Q0
    refine steps_cons ?_ (steps_cons ?_ (steps_cons ?_ (steps_cons ?_ (steps_cons ?_ (steps_cons ?_ (steps_cons ?_ (steps_cons ?_ (steps_cons ?_ (steps_cons ?_ (steps_cons ?_ (steps_cons ?_ (steps_cons ?_ (steps_cons ?_ (steps_cons ?_ (steps_nil)))))))))))))))
    · unfold StepAt
      intro L a wr K hI hi ha hK
      unfold I5 at hI
      obtain ⟨v7, v8, v9, v18, v19, v20, v21, v22, v23, v24, v25, v26, hae, h⟩ := hI
      obtain ⟨hcc, hff, hss⟩ := old3 h.bl
      rw [hae]
      clear hae
      simp only [hole, List.setIfInBounds_toArray, List.set_cons_zero, List.set_cons_succ]
      have c0 := (hcc _ 0 l1).trans g1
      have c1 := (hcc _ 1 l1).trans g2
      go_simp
      exact hK _ _ ⟨v7, v8, v9, (.agg #[.bool na, .slice A n p]), v19, v20, v21, v22, v23, v24, v25, v26, (by simp only [hole, Act.put, List.setIfInBounds_toArray, List.set_cons_zero, List.set_cons_succ]), h.at0 hi rfl⟩
    · unfold StepAt
      intro L a wr K hI hi ha hK
      unfold I5 at hI
      obtain ⟨v7, v8, v9, v18, v19, v20, v21, v22, v23, v24, v25, v26, hae, h⟩ := hI
      obtain ⟨hcc, hff, hss⟩ := old3 h.bl
      rw [hae]
      clear hae
      simp only [hole, List.setIfInBounds_toArray, List.set_cons_zero, List.set_cons_succ]
      have c0 := (hcc _ 0 l2).trans g3
      have c1 := (hcc _ 1 l2).trans g4
      go_simp
      exact hK _ _ ⟨v7, v8, v9, v18, (.agg #[.bool nb, .slice B m q]), v20, v21, v22, v23, v24, v25, v26, (by simp only [hole, Act.put, List.setIfInBounds_toArray, List.set_cons_zero, List.set_cons_succ]), h.at1 hi rfl⟩
    · unfold StepAt
      intro L a wr K hI hi ha hK
      unfold I5 at hI
      obtain ⟨v7, v8, v9, v18, v19, v20, v21, v22, v23, v24, v25, v26, hae, h⟩ := hI
      obtain ⟨hcc, hff, hss⟩ := old3 h.bl
      rw [hae]
      clear hae
      simp only [hole, List.setIfInBounds_toArray, List.set_cons_zero, List.set_cons_succ]
      have q0 := ha { on := 0, ground := Ground.data } (by simp) rfl
      have q1 := ha { on := 1, ground := Ground.data } (by simp) rfl
      have e1 := h.l0 q0
      have e2 := h.l1 q1
      subst e1 e2
      go_simp
      go_at_call 23
      refine (Add_any _ _ _ _ x _ _ _ _ y 12 _ (hx.below (hbw2.trans (h.bl.mono hbw2.size))) (hy.below (hbw2.trans (h.bl.mono hbw2.size))) (by omega)).mono ?_
      rintro e w3 ⟨s1, sA, sn, sc, rfl, hi1, hb5⟩
      exact hK _ _ ⟨v7, v8, v9, (.agg #[.bool na, .slice A n p]), (.agg #[.bool nb, .slice B m q]), (.agg #[.bool s1, .slice sA sn sc]), v21, v22, v23, v24, v25, v26, (by simp only [hole, Act.put, List.setIfInBounds_toArray, List.set_cons_zero, List.set_cons_succ]), (h.grow hb5).at2 hi ⟨s1, sA, sn, sc, rfl, hi1⟩⟩
    · unfold StepAt
      intro L a wr K hI hi ha hK
      unfold I5 at hI
      obtain ⟨v7, v8, v9, v18, v19, v20, v21, v22, v23, v24, v25, v26, hae, h⟩ := hI
      obtain ⟨hcc, hff, hss⟩ := old3 h.bl
      rw [hae]
      clear hae
      simp only [hole, List.setIfInBounds_toArray, List.set_cons_zero, List.set_cons_succ]
      have c0 := (hcc _ 0 l1).trans g1
      have c1 := (hcc _ 1 l1).trans g2
      go_simp
      exact hK _ _ ⟨v7, v8, v9, v18, v19, v20, (.agg #[.bool na, .slice A n p]), v22, v23, v24, v25, v26, (by simp only [hole, Act.put, List.setIfInBounds_toArray, List.set_cons_zero, List.set_cons_succ]), h.at3 hi rfl⟩
    · unfold StepAt
      intro L a wr K hI hi ha hK
      unfold I5 at hI
      obtain ⟨v7, v8, v9, v18, v19, v20, v21, v22, v23, v24, v25, v26, hae, h⟩ := hI
      obtain ⟨hcc, hff, hss⟩ := old3 h.bl
      rw [hae]
      clear hae
      simp only [hole, List.setIfInBounds_toArray, List.set_cons_zero, List.set_cons_succ]
      have c0 := (hcc _ 0 l2).trans g3
      have c1 := (hcc _ 1 l2).trans g4
      go_simp
      exact hK _ _ ⟨v7, v8, v9, v18, v19, v20, v21, (.agg #[.bool nb, .slice B m q]), v23, v24, v25, v26, (by simp only [hole, Act.put, List.setIfInBounds_toArray, List.set_cons_zero, List.set_cons_succ]), h.at4 hi rfl⟩
    · unfold StepAt
      intro L a wr K hI hi ha hK
      unfold I5 at hI
      obtain ⟨v7, v8, v9, v18, v19, v20, v21, v22, v23, v24, v25, v26, hae, h⟩ := hI
      obtain ⟨hcc, hff, hss⟩ := old3 h.bl
      rw [hae]
      clear hae
      simp only [hole, List.setIfInBounds_toArray, List.set_cons_zero, List.set_cons_succ]
      have q3 := ha { on := 3, ground := Ground.data } (by simp) rfl
      have q4 := ha { on := 4, ground := Ground.data } (by simp) rfl
      have e1 := h.l3 q3
      have e2 := h.l4 q4
      subst e1 e2
      go_simp
      go_at_call 31
      refine (Sub_any _ _ _ _ x _ _ _ _ y 12 _ (hx.below (hbw2.trans (h.bl.mono hbw2.size))) (hy.below (hbw2.trans (h.bl.mono hbw2.size))) (by omega)).mono ?_
      rintro e w3 ⟨s1, sA, sn, sc, rfl, hi1, hb5⟩
      exact hK _ _ ⟨v7, v8, v9, v18, v19, v20, (.agg #[.bool na, .slice A n p]), (.agg #[.bool nb, .slice B m q]), (.agg #[.bool s1, .slice sA sn sc]), v24, v25, v26, (by simp only [hole, Act.put, List.setIfInBounds_toArray, List.set_cons_zero, List.set_cons_succ]), (h.grow hb5).at5 hi ⟨s1, sA, sn, sc, rfl, hi1⟩⟩
    · unfold StepAt
      intro L a wr K hI hi ha hK
      unfold I5 at hI
      obtain ⟨v7, v8, v9, v18, v19, v20, v21, v22, v23, v24, v25, v26, hae, h⟩ := hI
      obtain ⟨hcc, hff, hss⟩ := old3 h.bl
      rw [hae]
      clear hae
      simp only [hole, List.setIfInBounds_toArray, List.set_cons_zero, List.set_cons_succ]
      have c0 := (hcc _ 0 l1).trans g1
      have c1 := (hcc _ 1 l1).trans g2
      go_simp
      exact hK _ _ ⟨v7, v8, v9, v18, v19, v20, v21, v22, v23, (.agg #[.bool na, .slice A n p]), v25, v26, (by simp only [hole, Act.put, List.setIfInBounds_toArray, List.set_cons_zero, List.set_cons_succ]), h.at6 hi rfl⟩
    · unfold StepAt
      intro L a wr K hI hi ha hK
      unfold I5 at hI
      obtain ⟨v7, v8, v9, v18, v19, v20, v21, v22, v23, v24, v25, v26, hae, h⟩ := hI
      obtain ⟨hcc, hff, hss⟩ := old3 h.bl
      rw [hae]
      clear hae
      simp only [hole, List.setIfInBounds_toArray, List.set_cons_zero, List.set_cons_succ]
      have c0 := (hcc _ 0 l2).trans g3
      have c1 := (hcc _ 1 l2).trans g4
      go_simp
      exact hK _ _ ⟨v7, v8, v9, v18, v19, v20, v21, v22, v23, v24, (.agg #[.bool nb, .slice B m q]), v26, (by simp only [hole, Act.put, List.setIfInBounds_toArray, List.set_cons_zero, List.set_cons_succ]), h.at7 hi rfl⟩
    · unfold StepAt
      intro L a wr K hI hi ha hK
      unfold I5 at hI
      obtain ⟨v7, v8, v9, v18, v19, v20, v21, v22, v23, v24, v25, v26, hae, h⟩ := hI
      obtain ⟨hcc, hff, hss⟩ := old3 h.bl
      rw [hae]
      clear hae
      simp only [hole, List.setIfInBounds_toArray, List.set_cons_zero, List.set_cons_succ]
      have q6 := ha { on := 6, ground := Ground.data } (by simp) rfl
      have q7 := ha { on := 7, ground := Ground.data } (by simp) rfl
      have e1 := h.l6 q6
      have e2 := h.l7 q7
      subst e1 e2
      go_simp
      go_at_call 32
      refine (Mul_any _ _ _ _ x _ _ _ _ y 12 12 _ (hx.below (hbw2.trans (h.bl.mono hbw2.size))) (hy.below (hbw2.trans (h.bl.mono hbw2.size))) (by omega) (by omega) (by omega)).mono ?_
      rintro e w3 ⟨s1, sA, sn, sc, rfl, hi1, hb5⟩
      exact hK _ _ ⟨v7, v8, v9, v18, v19, v20, v21, v22, v23, (.agg #[.bool na, .slice A n p]), (.agg #[.bool nb, .slice B m q]), (.agg #[.bool s1, .slice sA sn sc]), (by simp only [hole, Act.put, List.setIfInBounds_toArray, List.set_cons_zero, List.set_cons_succ]), (h.grow hb5).at8 hi ⟨s1, sA, sn, sc, rfl, hi1⟩⟩
    · unfold StepAt
      intro L a wr K hI hi ha hK
      unfold I5 at hI
      obtain ⟨v7, v8, v9, v18, v19, v20, v21, v22, v23, v24, v25, v26, hae, h⟩ := hI
      obtain ⟨hcc, hff, hss⟩ := old3 h.bl
      rw [hae]
      clear hae
      simp only [hole, List.setIfInBounds_toArray, List.set_cons_zero, List.set_cons_succ]
      go_simp
      exact hK _ _ ⟨(.pointer (some ⟨wr.heap.size, 0, none⟩)), v8, v9, v18, v19, v20, v21, v22, v23, v24, v25, v26, (by simp only [hole, Act.put, List.setIfInBounds_toArray, List.set_cons_zero, List.set_cons_succ]), (h.grow ((Below.refl _ wr).alloc (Nat.le_refl _) _)).at9 hi (BX.new h.bl.size _ _ _ _) (fun e => (h.b10 e).ne_new.symm) (fun e => (h.b11 e).ne_new.symm)⟩
    · unfold StepAt
      intro L a wr K hI hi ha hK
      unfold I5 at hI
      obtain ⟨v7, v8, v9, v18, v19, v20, v21, v22, v23, v24, v25, v26, hae, h⟩ := hI
      obtain ⟨hcc, hff, hss⟩ := old3 h.bl
      rw [hae]
      clear hae
      simp only [hole, List.setIfInBounds_toArray, List.set_cons_zero, List.set_cons_succ]
      go_simp
      exact hK _ _ ⟨v7, (.pointer (some ⟨wr.heap.size, 0, none⟩)), v9, v18, v19, v20, v21, v22, v23, v24, v25, v26, (by simp only [hole, Act.put, List.setIfInBounds_toArray, List.set_cons_zero, List.set_cons_succ]), (h.grow ((Below.refl _ wr).alloc (Nat.le_refl _) _)).at10 hi (BX.new h.bl.size _ _ _ _) (fun e => (h.b9 e).ne_new.symm) (fun e => (h.b11 e).ne_new.symm)⟩
    · unfold StepAt
      intro L a wr K hI hi ha hK
      unfold I5 at hI
      obtain ⟨v7, v8, v9, v18, v19, v20, v21, v22, v23, v24, v25, v26, hae, h⟩ := hI
      obtain ⟨hcc, hff, hss⟩ := old3 h.bl
      rw [hae]
      clear hae
      simp only [hole, List.setIfInBounds_toArray, List.set_cons_zero, List.set_cons_succ]
      go_simp
      exact hK _ _ ⟨v7, v8, (.pointer (some ⟨wr.heap.size, 0, none⟩)), v18, v19, v20, v21, v22, v23, v24, v25, v26, (by simp only [hole, Act.put, List.setIfInBounds_toArray, List.set_cons_zero, List.set_cons_succ]), (h.grow ((Below.refl _ wr).alloc (Nat.le_refl _) _)).at11 hi (BX.new h.bl.size _ _ _ _) (fun e => (h.b9 e).ne_new.symm) (fun e => (h.b10 e).ne_new.symm)⟩
    · unfold StepAt
      intro L a wr K hI hi ha hK
      unfold I5 at hI
      obtain ⟨v7, v8, v9, v18, v19, v20, v21, v22, v23, v24, v25, v26, hae, h⟩ := hI
      obtain ⟨hcc, hff, hss⟩ := old3 h.bl
      rw [hae]
      clear hae
      simp only [hole, List.setIfInBounds_toArray, List.set_cons_zero, List.set_cons_succ]
      have qb := ha { on := 9, ground := Ground.data } (by simp) rfl
      have qc := ha { on := 2, ground := Ground.data } (by simp) rfl
      obtain ⟨s1, sA, sn, sc, hu, hiu⟩ := h.i2 qc
      have hbx := h.b9 qb
      obtain ⟨g, b1, A1, n1, c1, hp, hB, hg, ⟨c0, c1⟩, f0, f1⟩ := h.b9 qb
      subst hp hu
      go_simp
      exact hK _ _ ⟨(.pointer (some ⟨g, 0, none⟩)), v8, v9, v18, v19, (.agg #[.bool s1, .slice sA sn sc]), v21, v22, v23, v24, v25, v26, (by simp only [hole, Act.put, List.setIfInBounds_toArray, List.set_cons_zero, List.set_cons_succ]), h.at12 qb qc rfl hB rfl⟩
    · unfold StepAt
      intro L a wr K hI hi ha hK
      unfold I5 at hI
      obtain ⟨v7, v8, v9, v18, v19, v20, v21, v22, v23, v24, v25, v26, hae, h⟩ := hI
      obtain ⟨hcc, hff, hss⟩ := old3 h.bl
      rw [hae]
      clear hae
      simp only [hole, List.setIfInBounds_toArray, List.set_cons_zero, List.set_cons_succ]
      have qb := ha { on := 10, ground := Ground.data } (by simp) rfl
      have qc := ha { on := 5, ground := Ground.data } (by simp) rfl
      obtain ⟨s1, sA, sn, sc, hu, hiu⟩ := h.i5 qc
      have hbx := h.b10 qb
      obtain ⟨g, b1, A1, n1, c1, hp, hB, hg, ⟨c0, c1⟩, f0, f1⟩ := h.b10 qb
      subst hp hu
      go_simp
      exact hK _ _ ⟨v7, (.pointer (some ⟨g, 0, none⟩)), v9, v18, v19, v20, v21, v22, (.agg #[.bool s1, .slice sA sn sc]), v24, v25, v26, (by simp only [hole, Act.put, List.setIfInBounds_toArray, List.set_cons_zero, List.set_cons_succ]), h.at13 qb qc rfl hB rfl⟩
    · unfold StepAt
      intro L a wr K hI hi ha hK
      unfold I5 at hI
      obtain ⟨v7, v8, v9, v18, v19, v20, v21, v22, v23, v24, v25, v26, hae, h⟩ := hI
      obtain ⟨hcc, hff, hss⟩ := old3 h.bl
      rw [hae]
      clear hae
      simp only [hole, List.setIfInBounds_toArray, List.set_cons_zero, List.set_cons_succ]
      have qb := ha { on := 11, ground := Ground.data } (by simp) rfl
      have qc := ha { on := 8, ground := Ground.data } (by simp) rfl
      obtain ⟨s1, sA, sn, sc, hu, hiu⟩ := h.i8 qc
      have hbx := h.b11 qb
      obtain ⟨g, b1, A1, n1, c1, hp, hB, hg, ⟨c0, c1⟩, f0, f1⟩ := h.b11 qb
      subst hp hu
      go_simp
      exact hK _ _ ⟨v7, v8, (.pointer (some ⟨g, 0, none⟩)), v18, v19, v20, v21, v22, v23, v24, v25, (.agg #[.bool s1, .slice sA sn sc]), (by simp only [hole, Act.put, List.setIfInBounds_toArray, List.set_cons_zero, List.set_cons_succ]), h.at14 qb qc rfl hB rfl⟩
  · intro L a wr hI hall
    unfold I5 at hI
    obtain ⟨v7, v8, v9, v18, v19, v20, v21, v22, v23, v24, v25, v26, hae, h⟩ := hI
    obtain ⟨g7, b7, A7, n7, c7, g8, b8, A8, n8, c8, g9, b9, A9, n9, c9, rfl, rfl, rfl, ⟨d1, d2, d3, d4, d5, d6⟩, ⟨lg7, lg8, lg9⟩, hs, hd, hpr⟩ := h.finish hall
    have hB0 : Below w.heap.size w wr := hbw2.trans (h.bl.mono hbw2.size)
    have hsr := h.bl.size
    replace hx := hx.below hB0
    replace hy := hy.below hB0
    replace hz := hz.below hB0
    obtain ⟨hcc, -, -⟩ := old3 h.bl
    replace g1 := (hcc _ 0 l1).trans g1
    replace g2 := (hcc _ 1 l1).trans g2
    replace g3 := (hcc _ 0 l2).trans g3
    replace g4 := (hcc _ 1 l2).trans g4
    replace g5 := (hcc _ 0 hs2).trans g5
    replace g6 := (hcc _ 1 hs2).trans g6
    clear h hall hcc f1 f2 f3 f4 f5 f6
    rw [hae]
    clear hae
    simp only [hole, List.setIfInBounds_toArray, List.set_cons_zero, List.set_cons_succ]
    have keepS : ∀ w', Below wr.heap.size wr w' → w'.cell? ⟨w.heap.size, 0, none⟩ = some (.bool na) ∧ w'.cell? ⟨w.heap.size, 1, none⟩ = some (.slice A n p) ∧ w'.cell? ⟨w.heap.size + 1, 0, none⟩ = some (.bool nb) ∧ w'.cell? ⟨w.heap.size + 1, 1, none⟩ = some (.slice B m q) ∧ w'.cell? ⟨w.heap.size + 1 + 1, 0, none⟩ = some (.bool nc) ∧ w'.cell? ⟨w.heap.size + 1 + 1, 1, none⟩ = some (.slice C k r) ∧ w'.cell? ⟨g7, 0, none⟩ = some (.bool b7) ∧ w'.cell? ⟨g7, 1, none⟩ = some (.slice A7 n7 c7) ∧ w'.cell? ⟨g8, 0, none⟩ = some (.bool b8) ∧ w'.cell? ⟨g8, 1, none⟩ = some (.slice A8 n8 c8) ∧ w'.cell? ⟨g9, 0, none⟩ = some (.bool b9) ∧ w'.cell? ⟨g9, 1, none⟩ = some (.slice A9 n9 c9) := by
      intro w' hb
      obtain ⟨hc, -, -⟩ := old3 hb
      exact ⟨(hc _ _ (by omega)).trans g1, (hc _ _ (by omega)).trans g2, (hc _ _ (by omega)).trans g3, (hc _ _ (by omega)).trans g4, (hc _ _ (by omega)).trans g5, (hc _ _ (by omega)).trans g6, (hc _ _ (by omega)).trans d1, (hc _ _ (by omega)).trans d2, (hc _ _ (by omega)).trans d3, (hc _ _ (by omega)).trans d4, (hc _ _ (by omega)).trans d5, (hc _ _ (by omega)).trans d6⟩
    replace keepS := Lib.hid keepS
    go_wp2_with fail
    have qtok1 : True := trivial
    have qtok2 : True := trivial
    have qtok3 : True := trivial
    have qtok4 : True := trivial
    have qtok5 : True := trivial
    have qtok6 : True := trivial
    go_region_held3 (fun w' => w'.cell? ⟨w.heap.size, 0, none⟩ = some (.bool na) ∧ w'.cell? ⟨w.heap.size, 1, none⟩ = some (.slice A n p) ∧ w'.cell? ⟨w.heap.size + 1, 0, none⟩ = some (.bool nb) ∧ w'.cell? ⟨w.heap.size + 1, 1, none⟩ = some (.slice B m q) ∧ w'.cell? ⟨w.heap.size + 1 + 1, 0, none⟩ = some (.bool nc) ∧ w'.cell? ⟨w.heap.size + 1 + 1, 1, none⟩ = some (.slice C k r) ∧ w'.cell? ⟨g7, 0, none⟩ = some (.bool b7) ∧ w'.cell? ⟨g7, 1, none⟩ = some (.slice A7 n7 c7) ∧ w'.cell? ⟨g8, 0, none⟩ = some (.bool b8) ∧ w'.cell? ⟨g8, 1, none⟩ = some (.slice A8 n8 c8) ∧ w'.cell? ⟨g9, 0, none⟩ = some (.bool b9) ∧ w'.cell? ⟨g9, 1, none⟩ = some (.slice A9 n9 c9))
      (exact keepS.out _ (by repeat (first | refine Below.drew ?_ | exact qB6 | exact qB5 | exact qB4 | exact qB3 | exact qB2 | exact qB1 | exact Below.refl wr.heap.size wr)))
      (first | (go_at_call 33; clear qtok1; refine (rAdd_any _ _ _ _ x _ _ _ _ y 12 _ (hx.below (by repeat (first | refine Below.drew ?_ | exact (Below.refl wr.heap.size wr)))) (hy.below (by repeat (first | refine Below.drew ?_ | exact (Below.refl wr.heap.size wr)))) (by omega)).mono ?_; rintro e qw1 ⟨r1b, r1A, r1n, r1c, rfl, r1I, qh1⟩; have qB1 : Below wr.heap.size wr qw1 := Below.trans (by repeat (first | refine Below.drew ?_ | exact (Below.refl wr.heap.size wr))) (qh1.mono (by first | omega | (simp <;> omega))); have qs1 := qB1.size) | (go_at_call 18; clear qtok2; refine (same_ii _ _ _ _ (x + y) 13 _ _ _ _ 13 _ (hs.below (by repeat (first | refine Below.drew ?_ | exact qB1))) (r1I.below (by repeat (first | refine Below.drew ?_ | exact Below.refl _ _))) (by omega) (by omega)).mono ?_; rintro e qw2 ⟨rfl, qh2⟩; have qB2 : Below wr.heap.size wr qw2 := Below.trans (by repeat (first | refine Below.drew ?_ | exact qB1)) (qh2.mono (by first | omega | (simp <;> omega))); have qs2 := qB2.size; replace r1I := II.below r1I (Below.trans (by repeat (first | refine Below.drew ?_ | exact Below.refl _ _)) (qh2.mono (by first | omega | (simp <;> omega))))) | (go_at_call 34; clear qtok3; refine (rSub_any _ _ _ _ x _ _ _ _ y 12 _ (hx.below (by repeat (first | refine Below.drew ?_ | exact qB2))) (hy.below (by repeat (first | refine Below.drew ?_ | exact qB2))) (by omega)).mono ?_; rintro e qw3 ⟨r2b, r2A, r2n, r2c, rfl, r2I, qh3⟩; have qB3 : Below wr.heap.size wr qw3 := Below.trans (by repeat (first | refine Below.drew ?_ | exact qB2)) (qh3.mono (by first | omega | (simp <;> omega))); have qs3 := qB3.size; replace r1I := II.below r1I (Below.trans (by repeat (first | refine Below.drew ?_ | exact Below.refl _ _)) (qh3.mono (by first | omega | (simp <;> omega))))) | (go_at_call 18; clear qtok4; refine (same_ii _ _ _ _ (x - y) 13 _ _ _ _ 13 _ (hd.below (by repeat (first | refine Below.drew ?_ | exact qB3))) (r2I.below (by repeat (first | refine Below.drew ?_ | exact Below.refl _ _))) (by omega) (by omega)).mono ?_; rintro e qw4 ⟨rfl, qh4⟩; have qB4 : Below wr.heap.size wr qw4 := Below.trans (by repeat (first | refine Below.drew ?_ | exact qB3)) (qh4.mono (by first | omega | (simp <;> omega))); have qs4 := qB4.size; replace r1I := II.below r1I (Below.trans (by repeat (first | refine Below.drew ?_ | exact Below.refl _ _)) (qh4.mono (by first | omega | (simp <;> omega)))); replace r2I := II.below r2I (Below.trans (by repeat (first | refine Below.drew ?_ | exact Below.refl _ _)) (qh4.mono (by first | omega | (simp <;> omega))))) | (go_at_call 35; clear qtok5; refine (rMul_any _ _ _ _ x _ _ _ _ y 12 12 _ (hx.below (by repeat (first | refine Below.drew ?_ | exact qB4))) (hy.below (by repeat (first | refine Below.drew ?_ | exact qB4))) (by omega) (by omega)).mono ?_; rintro e qw5 ⟨r3b, r3A, r3n, r3c, rfl, r3I, qh5⟩; have qB5 : Below wr.heap.size wr qw5 := Below.trans (by repeat (first | refine Below.drew ?_ | exact qB4)) (qh5.mono (by first | omega | (simp <;> omega))); have qs5 := qB5.size; replace r1I := II.below r1I (Below.trans (by repeat (first | refine Below.drew ?_ | exact Below.refl _ _)) (qh5.mono (by first | omega | (simp <;> omega)))); replace r2I := II.below r2I (Below.trans (by repeat (first | refine Below.drew ?_ | exact Below.refl _ _)) (qh5.mono (by first | omega | (simp <;> omega))))) | (go_at_call 18; clear qtok6; refine (same_ii _ _ _ _ (x * y) 24 _ _ _ _ 24 _ (hpr.below (by repeat (first | refine Below.drew ?_ | exact qB5))) (r3I.below (by repeat (first | refine Below.drew ?_ | exact Below.refl _ _))) (by omega) (by omega)).mono ?_; rintro e qw6 ⟨rfl, qh6⟩; have qB6 : Below wr.heap.size wr qw6 := Below.trans (by repeat (first | refine Below.drew ?_ | exact qB5)) (qh6.mono (by first | omega | (simp <;> omega))); have qs6 := qB6.size; replace r1I := II.below r1I (Below.trans (by repeat (first | refine Below.drew ?_ | exact Below.refl _ _)) (qh6.mono (by first | omega | (simp <;> omega)))); replace r2I := II.below r2I (Below.trans (by repeat (first | refine Below.drew ?_ | exact Below.refl _ _)) (qh6.mono (by first | omega | (simp <;> omega)))); replace r3I := II.below r3I (Below.trans (by repeat (first | refine Below.drew ?_ | exact Below.refl _ _)) (qh6.mono (by first | omega | (simp <;> omega))))))
    go_wp2_with fail
    have etok1 : True := trivial
    have etok2 : True := trivial
    have etok3 : True := trivial
    have etok4 : True := trivial
    have etok5 : True := trivial
    have etok6 : True := trivial
    have etok7 : True := trivial
    have etok8 : True := trivial
    have etok9 : True := trivial
    have etok10 : True := trivial
    have etok11 : True := trivial
    have etok12 : True := trivial
    go_region_held3 (fun w' => w'.cell? ⟨w.heap.size, 0, none⟩ = some (.bool na) ∧ w'.cell? ⟨w.heap.size, 1, none⟩ = some (.slice A n p) ∧ w'.cell? ⟨w.heap.size + 1, 0, none⟩ = some (.bool nb) ∧ w'.cell? ⟨w.heap.size + 1, 1, none⟩ = some (.slice B m q) ∧ w'.cell? ⟨w.heap.size + 1 + 1, 0, none⟩ = some (.bool nc) ∧ w'.cell? ⟨w.heap.size + 1 + 1, 1, none⟩ = some (.slice C k r) ∧ w'.cell? ⟨g7, 0, none⟩ = some (.bool b7) ∧ w'.cell? ⟨g7, 1, none⟩ = some (.slice A7 n7 c7) ∧ w'.cell? ⟨g8, 0, none⟩ = some (.bool b8) ∧ w'.cell? ⟨g8, 1, none⟩ = some (.slice A8 n8 c8) ∧ w'.cell? ⟨g9, 0, none⟩ = some (.bool b9) ∧ w'.cell? ⟨g9, 1, none⟩ = some (.slice A9 n9 c9))
      (exact keepS.out _ (by repeat (first | refine Below.drew ?_ | exact eB12 | exact eB11 | exact eB10 | exact eB9 | exact eB8 | exact eB7 | exact eB6 | exact eB5 | exact eB4 | exact eB3 | exact eB2 | exact eB1 | exact qB6 | exact Below.refl wr.heap.size wr)))
      (first | (go_at_call 23; clear etok1; refine (Add_any _ _ _ _ y _ _ _ _ x 12 _ (hy.below (by repeat (first | refine Below.drew ?_ | exact qB6))) (hx.below (by repeat (first | refine Below.drew ?_ | exact qB6))) (by omega)).mono ?_; rintro e ew1 ⟨e1b, e1A, e1n, e1c, rfl, e1I, eh1⟩; have eB1 : Below wr.heap.size wr ew1 := Below.trans (by repeat (first | refine Below.drew ?_ | exact qB6)) (eh1.mono (by first | omega | (simp <;> omega))); have es1 := eB1.size) | (go_at_call 18; clear etok2; refine (same_ii _ _ _ _ (x + y) 13 _ _ _ _ 13 _ ((hid_z e1I (Int.add_comm y x)).below (by repeat (first | refine Below.drew ?_ | exact Below.refl _ _))) (hs.below (by repeat (first | refine Below.drew ?_ | exact eB1))) (by omega) (by omega)).mono ?_; rintro e ew2 ⟨rfl, eh2⟩; have eB2 : Below wr.heap.size wr ew2 := Below.trans (by repeat (first | refine Below.drew ?_ | exact eB1)) (eh2.mono (by first | omega | (simp <;> omega))); have es2 := eB2.size; replace e1I := II.below e1I (Below.trans (by repeat (first | refine Below.drew ?_ | exact Below.refl _ _)) (eh2.mono (by first | omega | (simp <;> omega))))) | (go_at_call 32; clear etok3; refine (Mul_any _ _ _ _ y _ _ _ _ x 12 12 _ (hy.below (by repeat (first | refine Below.drew ?_ | exact eB2))) (hx.below (by repeat (first | refine Below.drew ?_ | exact eB2))) (by omega) (by omega) (by omega)).mono ?_; rintro e ew3 ⟨e2b, e2A, e2n, e2c, rfl, e2I, eh3⟩; have eB3 : Below wr.heap.size wr ew3 := Below.trans (by repeat (first | refine Below.drew ?_ | exact eB2)) (eh3.mono (by first | omega | (simp <;> omega))); have es3 := eB3.size; replace e1I := II.below e1I (Below.trans (by repeat (first | refine Below.drew ?_ | exact Below.refl _ _)) (eh3.mono (by first | omega | (simp <;> omega))))) | (go_at_call 18; clear etok4; refine (same_ii _ _ _ _ (x * y) 24 _ _ _ _ 24 _ ((hid_z e2I (Int.mul_comm y x)).below (by repeat (first | refine Below.drew ?_ | exact Below.refl _ _))) (hpr.below (by repeat (first | refine Below.drew ?_ | exact eB3))) (by omega) (by omega)).mono ?_; rintro e ew4 ⟨rfl, eh4⟩; have eB4 : Below wr.heap.size wr ew4 := Below.trans (by repeat (first | refine Below.drew ?_ | exact eB3)) (eh4.mono (by first | omega | (simp <;> omega))); have es4 := eB4.size; replace e1I := II.below e1I (Below.trans (by repeat (first | refine Below.drew ?_ | exact Below.refl _ _)) (eh4.mono (by first | omega | (simp <;> omega)))); replace e2I := II.below e2I (Below.trans (by repeat (first | refine Below.drew ?_ | exact Below.refl _ _)) (eh4.mono (by first | omega | (simp <;> omega))))) | (go_at_call 23; clear etok5; refine (Add_any _ _ _ _ (x - y) _ _ _ _ y 13 _ (hd.below (by repeat (first | refine Below.drew ?_ | exact eB4))).vi ((hy.below (by repeat (first | refine Below.drew ?_ | exact eB4))).mono (by omega)) (by omega)).mono ?_; rintro e ew5 ⟨e3b, e3A, e3n, e3c, rfl, e3I, eh5⟩; have eB5 : Below wr.heap.size wr ew5 := Below.trans (by repeat (first | refine Below.drew ?_ | exact eB4)) (eh5.mono (by first | omega | (simp <;> omega))); have es5 := eB5.size; replace e1I := II.below e1I (Below.trans (by repeat (first | refine Below.drew ?_ | exact Below.refl _ _)) (eh5.mono (by first | omega | (simp <;> omega)))); replace e2I := II.below e2I (Below.trans (by repeat (first | refine Below.drew ?_ | exact Below.refl _ _)) (eh5.mono (by first | omega | (simp <;> omega))))) | (go_at_call 13; clear etok6; refine (Value_any _ _ _ _ x 12 _ (hx.below (by repeat (first | refine Below.drew ?_ | exact eB5))) (by omega)).mono ?_; rintro e ew6 ⟨e4b, e4A, e4n, e4c, rfl, e4I, eh6⟩; have eB6 : Below wr.heap.size wr ew6 := Below.trans (by repeat (first | refine Below.drew ?_ | exact eB5)) (eh6.mono (by first | omega | (simp <;> omega))); have es6 := eB6.size; replace e1I := II.below e1I (Below.trans (by repeat (first | refine Below.drew ?_ | exact Below.refl _ _)) (eh6.mono (by first | omega | (simp <;> omega)))); replace e2I := II.below e2I (Below.trans (by repeat (first | refine Below.drew ?_ | exact Below.refl _ _)) (eh6.mono (by first | omega | (simp <;> omega)))); replace e3I := II.below e3I (Below.trans (by repeat (first | refine Below.drew ?_ | exact Below.refl _ _)) (eh6.mono (by first | omega | (simp <;> omega))))) | (go_at_call 18; clear etok7; refine (same_ii _ _ _ _ x 14 _ _ _ _ 12 _ ((hid_z e3I (Int.sub_add_cancel x y)).below (by repeat (first | refine Below.drew ?_ | exact Below.refl _ _))) (e4I.below (by repeat (first | refine Below.drew ?_ | exact Below.refl _ _))) (by omega) (by omega)).mono ?_; rintro e ew7 ⟨rfl, eh7⟩; have eB7 : Below wr.heap.size wr ew7 := Below.trans (by repeat (first | refine Below.drew ?_ | exact eB6)) (eh7.mono (by first | omega | (simp <;> omega))); have es7 := eB7.size; replace e1I := II.below e1I (Below.trans (by repeat (first | refine Below.drew ?_ | exact Below.refl _ _)) (eh7.mono (by first | omega | (simp <;> omega)))); replace e2I := II.below e2I (Below.trans (by repeat (first | refine Below.drew ?_ | exact Below.refl _ _)) (eh7.mono (by first | omega | (simp <;> omega)))); replace e3I := II.below e3I (Below.trans (by repeat (first | refine Below.drew ?_ | exact Below.refl _ _)) (eh7.mono (by first | omega | (simp <;> omega)))); replace e4I := II.below e4I (Below.trans (by repeat (first | refine Below.drew ?_ | exact Below.refl _ _)) (eh7.mono (by first | omega | (simp <;> omega))))) | (go_at_call 23; clear etok8; refine (Add_any _ _ _ _ y _ _ _ _ z 12 _ (hy.below (by repeat (first | refine Below.drew ?_ | exact eB7))) (hz.below (by repeat (first | refine Below.drew ?_ | exact eB7))) (by omega)).mono ?_; rintro e ew8 ⟨e5b, e5A, e5n, e5c, rfl, e5I, eh8⟩; have eB8 : Below wr.heap.size wr ew8 := Below.trans (by repeat (first | refine Below.drew ?_ | exact eB7)) (eh8.mono (by first | omega | (simp <;> omega))); have es8 := eB8.size; replace e1I := II.below e1I (Below.trans (by repeat (first | refine Below.drew ?_ | exact Below.refl _ _)) (eh8.mono (by first | omega | (simp <;> omega)))); replace e2I := II.below e2I (Below.trans (by repeat (first | refine Below.drew ?_ | exact Below.refl _ _)) (eh8.mono (by first | omega | (simp <;> omega)))); replace e3I := II.below e3I (Below.trans (by repeat (first | refine Below.drew ?_ | exact Below.refl _ _)) (eh8.mono (by first | omega | (simp <;> omega)))); replace e4I := II.below e4I (Below.trans (by repeat (first | refine Below.drew ?_ | exact Below.refl _ _)) (eh8.mono (by first | omega | (simp <;> omega))))) | (go_at_call 32; clear etok9; refine (Mul_any _ _ _ _ x _ _ _ _ (y + z) 12 13 _ (hx.below (by repeat (first | refine Below.drew ?_ | exact eB8))) (e5I.below (by repeat (first | refine Below.drew ?_ | exact Below.refl _ _))).vi (by omega) (by omega) (by omega)).mono ?_; rintro e ew9 ⟨e6b, e6A, e6n, e6c, rfl, e6I, eh9⟩; have eB9 : Below wr.heap.size wr ew9 := Below.trans (by repeat (first | refine Below.drew ?_ | exact eB8)) (eh9.mono (by first | omega | (simp <;> omega))); have es9 := eB9.size; replace e1I := II.below e1I (Below.trans (by repeat (first | refine Below.drew ?_ | exact Below.refl _ _)) (eh9.mono (by first | omega | (simp <;> omega)))); replace e2I := II.below e2I (Below.trans (by repeat (first | refine Below.drew ?_ | exact Below.refl _ _)) (eh9.mono (by first | omega | (simp <;> omega)))); replace e3I := II.below e3I (Below.trans (by repeat (first | refine Below.drew ?_ | exact Below.refl _ _)) (eh9.mono (by first | omega | (simp <;> omega)))); replace e4I := II.below e4I (Below.trans (by repeat (first | refine Below.drew ?_ | exact Below.refl _ _)) (eh9.mono (by first | omega | (simp <;> omega)))); replace e5I := II.below e5I (Below.trans (by repeat (first | refine Below.drew ?_ | exact Below.refl _ _)) (eh9.mono (by first | omega | (simp <;> omega))))) | (go_at_call 32; clear etok10; refine (Mul_any _ _ _ _ x _ _ _ _ z 12 12 _ (hx.below (by repeat (first | refine Below.drew ?_ | exact eB9))) (hz.below (by repeat (first | refine Below.drew ?_ | exact eB9))) (by omega) (by omega) (by omega)).mono ?_; rintro e ew10 ⟨e7b, e7A, e7n, e7c, rfl, e7I, eh10⟩; have eB10 : Below wr.heap.size wr ew10 := Below.trans (by repeat (first | refine Below.drew ?_ | exact eB9)) (eh10.mono (by first | omega | (simp <;> omega))); have es10 := eB10.size; replace e1I := II.below e1I (Below.trans (by repeat (first | refine Below.drew ?_ | exact Below.refl _ _)) (eh10.mono (by first | omega | (simp <;> omega)))); replace e2I := II.below e2I (Below.trans (by repeat (first | refine Below.drew ?_ | exact Below.refl _ _)) (eh10.mono (by first | omega | (simp <;> omega)))); replace e3I := II.below e3I (Below.trans (by repeat (first | refine Below.drew ?_ | exact Below.refl _ _)) (eh10.mono (by first | omega | (simp <;> omega)))); replace e4I := II.below e4I (Below.trans (by repeat (first | refine Below.drew ?_ | exact Below.refl _ _)) (eh10.mono (by first | omega | (simp <;> omega)))); replace e5I := II.below e5I (Below.trans (by repeat (first | refine Below.drew ?_ | exact Below.refl _ _)) (eh10.mono (by first | omega | (simp <;> omega)))); replace e6I := II.below e6I (Below.trans (by repeat (first | refine Below.drew ?_ | exact Below.refl _ _)) (eh10.mono (by first | omega | (simp <;> omega))))) | (go_at_call 23; clear etok11; refine (Add_any _ _ _ _ (x * y) _ _ _ _ (x * z) 24 _ (hpr.below (by repeat (first | refine Below.drew ?_ | exact eB10))).vi (e7I.below (by repeat (first | refine Below.drew ?_ | exact Below.refl _ _))).vi (by omega)).mono ?_; rintro e ew11 ⟨e8b, e8A, e8n, e8c, rfl, e8I, eh11⟩; have eB11 : Below wr.heap.size wr ew11 := Below.trans (by repeat (first | refine Below.drew ?_ | exact eB10)) (eh11.mono (by first | omega | (simp <;> omega))); have es11 := eB11.size; replace e1I := II.below e1I (Below.trans (by repeat (first | refine Below.drew ?_ | exact Below.refl _ _)) (eh11.mono (by first | omega | (simp <;> omega)))); replace e2I := II.below e2I (Below.trans (by repeat (first | refine Below.drew ?_ | exact Below.refl _ _)) (eh11.mono (by first | omega | (simp <;> omega)))); replace e3I := II.below e3I (Below.trans (by repeat (first | refine Below.drew ?_ | exact Below.refl _ _)) (eh11.mono (by first | omega | (simp <;> omega)))); replace e4I := II.below e4I (Below.trans (by repeat (first | refine Below.drew ?_ | exact Below.refl _ _)) (eh11.mono (by first | omega | (simp <;> omega)))); replace e5I := II.below e5I (Below.trans (by repeat (first | refine Below.drew ?_ | exact Below.refl _ _)) (eh11.mono (by first | omega | (simp <;> omega)))); replace e6I := II.below e6I (Below.trans (by repeat (first | refine Below.drew ?_ | exact Below.refl _ _)) (eh11.mono (by first | omega | (simp <;> omega)))); replace e7I := II.below e7I (Below.trans (by repeat (first | refine Below.drew ?_ | exact Below.refl _ _)) (eh11.mono (by first | omega | (simp <;> omega))))) | (go_at_call 18; clear etok12; refine (same_ii _ _ _ _ (x * (y + z)) 25 _ _ _ _ 25 _ (e6I.below (by repeat (first | refine Below.drew ?_ | exact Below.refl _ _))) ((hid_z e8I (Int.mul_add x y z).symm).below (by repeat (first | refine Below.drew ?_ | exact Below.refl _ _))) (by omega) (by omega)).mono ?_; rintro e ew12 ⟨rfl, eh12⟩; have eB12 : Below wr.heap.size wr ew12 := Below.trans (by repeat (first | refine Below.drew ?_ | exact eB11)) (eh12.mono (by first | omega | (simp <;> omega))); have es12 := eB12.size; replace e1I := II.below e1I (Below.trans (by repeat (first | refine Below.drew ?_ | exact Below.refl _ _)) (eh12.mono (by first | omega | (simp <;> omega)))); replace e2I := II.below e2I (Below.trans (by repeat (first | refine Below.drew ?_ | exact Below.refl _ _)) (eh12.mono (by first | omega | (simp <;> omega)))); replace e3I := II.below e3I (Below.trans (by repeat (first | refine Below.drew ?_ | exact Below.refl _ _)) (eh12.mono (by first | omega | (simp <;> omega)))); replace e4I := II.below e4I (Below.trans (by repeat (first | refine Below.drew ?_ | exact Below.refl _ _)) (eh12.mono (by first | omega | (simp <;> omega)))); replace e5I := II.below e5I (Below.trans (by repeat (first | refine Below.drew ?_ | exact Below.refl _ _)) (eh12.mono (by first | omega | (simp <;> omega)))); replace e6I := II.below e6I (Below.trans (by repeat (first | refine Below.drew ?_ | exact Below.refl _ _)) (eh12.mono (by first | omega | (simp <;> omega)))); replace e7I := II.below e7I (Below.trans (by repeat (first | refine Below.drew ?_ | exact Below.refl _ _)) (eh12.mono (by first | omega | (simp <;> omega)))); replace e8I := II.below e8I (Below.trans (by repeat (first | refine Below.drew ?_ | exact Below.refl _ _)) (eh12.mono (by first | omega | (simp <;> omega))))))
    go_wp2_with fail
    go_ret
    exact ⟨rfl, hB0.trans (eB12.mono hB0.size)⟩

end Go.Proofs.YtfhhilnebaodoaaDoor
