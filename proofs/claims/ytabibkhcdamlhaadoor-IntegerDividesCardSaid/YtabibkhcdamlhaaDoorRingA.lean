/-
  What stands while the three results of the law of the ring are made.
-/
import Derived.Test.YtabibkhcdamlhaaDoorZ
import Derived.Test.YtabibkhcdamlhaaDoorInv
import Derived.Test.YtabibkhcdamlhaaDoorS
set_option linter.unusedSimpArgs false
set_option linter.unusedVariables false
namespace Go.Proofs.YtabibkhcdamlhaaDoor
open Go.RowKit Num

theorem gs_ne {L : Array Bool} {i j : Nat} (h : i ≠ j) : (L.setIfInBounds i true).getD j false = L.getD j false := by
  simp [Array.getD_eq_getD_getElem?, Array.getElem?_setIfInBounds_ne h]

/-- v is an integer with the value z. -/
def IV (w : World) (v : Value) (z : Int) (k : Nat) : Prop := ∃ neg A n c, v = .agg #[.bool neg, .slice A n c] ∧ II w neg A n c z k
/-- v points to a box of an integer's two cells, from block B on. -/
def BX (B : Nat) (w : World) (v : Value) : Prop :=
  ∃ g b A n c, v = .pointer (some ⟨g, 0, none⟩) ∧ B ≤ g ∧ g < w.heap.size ∧ (w.cell? ⟨g, 0, none⟩ = some (.bool b) ∧ w.cell? ⟨g, 1, none⟩ = some (.slice A n c)) ∧ w.frozen? ⟨g, 0, none⟩ = false ∧ w.frozen? ⟨g, 1, none⟩ = false
/-- What v points to is u. -/
def ST (w : World) (v u : Value) : Prop :=
  ∃ g b A n c, v = .pointer (some ⟨g, 0, none⟩) ∧ u = .agg #[.bool b, .slice A n c] ∧ g < w.heap.size ∧ w.cell? ⟨g, 0, none⟩ = some (.bool b) ∧ w.cell? ⟨g, 1, none⟩ = some (.slice A n c)

theorem IV.below {w w' : World} {v : Value} {z : Int} {k : Nat} (h : IV w v z k) (hb : Below w.heap.size w w') : IV w' v z k := by
  obtain ⟨neg, A, n, c, e, h⟩ := h
  exact ⟨neg, A, n, c, e, h.below hb⟩
theorem BX.below {B : Nat} {w w' : World} {v : Value} (h : BX B w v) (hb : Below w.heap.size w w') : BX B w' v := by
  obtain ⟨g, b, A, n, c, e, hB, hg, ⟨c0, c1⟩, f0, f1⟩ := h
  obtain ⟨hc, hf, hs⟩ := old3 hb
  exact ⟨g, b, A, n, c, e, hB, by omega, ⟨(hc _ _ hg).trans c0, (hc _ _ hg).trans c1⟩, (hf _ _ hg).trans f0, (hf _ _ hg).trans f1⟩
theorem ST.below {w w' : World} {v u : Value} (h : ST w v u) (hb : Below w.heap.size w w') : ST w' v u := by
  obtain ⟨g, b, A, n, c, e, e', hg, c0, c1⟩ := h
  obtain ⟨hc, hf, hs⟩ := old3 hb
  exact ⟨g, b, A, n, c, e, e', by omega, (hc _ _ hg).trans c0, (hc _ _ hg).trans c1⟩
theorem BX.new {B : Nat} {w : World} (hB : B ≤ w.heap.size) (b : Bool) (A : Option Addr) (n c : Nat) : BX B (w.alloc (.cells #[.bool b, .slice A n c] 24)) (.pointer (some ⟨w.heap.size, 0, none⟩)) :=
  ⟨w.heap.size, b, A, n, c, rfl, hB, by simp, ⟨by simp [go_sem], by simp [go_sem]⟩, by simp [go_sem], by simp [go_sem]⟩
theorem BX.ne_new {B : Nat} {w : World} {v : Value} (h : BX B w v) : v ≠ .pointer (some ⟨w.heap.size, 0, none⟩) := by
  obtain ⟨g, b, A, n, c, rfl, hB, hg, _⟩ := h
  intro e
  injection e with e
  injection e with e
  injection e with e
  omega

/-- The two cells of block g are written. -/
def put2 (w : World) (g : Nat) (b : Bool) (A : Option Addr) (n c : Nat) : World := (w.setCell ⟨g, 0, none⟩ (.bool b)).setCell ⟨g, 1, none⟩ (.slice A n c)
theorem IV.put2 {B : Nat} {w : World} {v p : Value} {z : Int} {k : Nat} (h : IV w v z k) {g : Nat} (hp : BX B w p) (e : p = .pointer (some ⟨g, 0, none⟩)) (b : Bool) (A : Option Addr) (n c : Nat) : IV (put2 w g b A n c) v z k := by
  obtain ⟨g', b', A', n', c', rfl, hB, hg, ⟨c0, c1⟩, f0, f1⟩ := hp
  injection e with e; injection e with e; injection e with e; subst e
  obtain ⟨neg, A2, n2, c2, e, h⟩ := h
  exact ⟨neg, A2, n2, c2, e, h.store2 c0 c1 _ _⟩
theorem BX.put2 {B : Nat} {w : World} {p q : Value} (hq : BX B w q) {g : Nat} (hp : BX B w p) (e : p = .pointer (some ⟨g, 0, none⟩)) (b : Bool) (A : Option Addr) (n c : Nat) : BX B (put2 w g b A n c) q := by
  obtain ⟨g', b', A', n', c', rfl, hB, hg, ⟨c0, c1⟩, f0, f1⟩ := hp
  injection e with e; injection e with e; injection e with e; subst e
  obtain ⟨h, b2, A2, n2, c2, rfl, hB2, hg2, ⟨d0, d1⟩, k0, k1⟩ := hq
  unfold Proofs.YtabibkhcdamlhaaDoor.put2
  by_cases hgh : g' = h
  · subst hgh
    exact ⟨g', b, A, n, c, rfl, hB, by simp [World.size_setCell]; exact hg, ⟨by simp [go_sem, c0, c1], by simp [go_sem, c0, c1]⟩, by simp [go_sem, f0, f1], by simp [go_sem, f0, f1]⟩
  · exact ⟨h, b2, A2, n2, c2, rfl, hB2, by simp [World.size_setCell]; exact hg2, ⟨by rw [World.cell?_setCell_other _ _ _ _ (by simp [hgh]), World.cell?_setCell_other _ _ _ _ (by simp [hgh])]; exact d0, by rw [World.cell?_setCell_other _ _ _ _ (by simp [hgh]), World.cell?_setCell_other _ _ _ _ (by simp [hgh])]; exact d1⟩, by simp [go_sem, k0, k1], by simp [go_sem, k0, k1]⟩
theorem ST.put2 {B : Nat} {w : World} {p q u : Value} (hq : ST w q u) {g : Nat} (hp : BX B w p) (e : p = .pointer (some ⟨g, 0, none⟩)) (hne : p ≠ q) (b : Bool) (A : Option Addr) (n c : Nat) : ST (put2 w g b A n c) q u := by
  subst e
  obtain ⟨h, b2, A2, n2, c2, rfl, e, hg2, d0, d1⟩ := hq
  have hgh : g ≠ h := fun e => hne (by rw [e])
  unfold Proofs.YtabibkhcdamlhaaDoor.put2
  exact ⟨h, b2, A2, n2, c2, rfl, e, by simp [World.size_setCell]; exact hg2, by rw [World.cell?_setCell_other _ _ _ _ (by simp [hgh]), World.cell?_setCell_other _ _ _ _ (by simp [hgh])]; exact d0, by rw [World.cell?_setCell_other _ _ _ _ (by simp [hgh]), World.cell?_setCell_other _ _ _ _ (by simp [hgh])]; exact d1⟩
theorem ST.mk2 {B : Nat} {w : World} {p : Value} {g : Nat} (hp : BX B w p) (e : p = .pointer (some ⟨g, 0, none⟩)) (b : Bool) (A : Option Addr) (n c : Nat) : ST (Proofs.YtabibkhcdamlhaaDoor.put2 w g b A n c) p (.agg #[.bool b, .slice A n c]) := by
  obtain ⟨g', b', A', n', c', rfl, hB, hg, ⟨c0, c1⟩, f0, f1⟩ := hp
  injection e with e; injection e with e; injection e with e; subst e
  unfold Proofs.YtabibkhcdamlhaaDoor.put2
  exact ⟨g', b, A, n, c, rfl, rfl, by simp [World.size_setCell]; exact hg, by simp [go_sem, c0, c1], by simp [go_sem, c0, c1]⟩

/-- The frame with what the region writes into its slots. -/
def hole (a : Act) (v7 v8 v9 v18 v19 v20 v21 v22 v23 v24 v25 v26 : Value) : Act :=
  { a with tmps := ((((((((((((a.tmps).setIfInBounds 7 v7).setIfInBounds 8 v8).setIfInBounds 9 v9).setIfInBounds 18 v18).setIfInBounds 19 v19).setIfInBounds 20 v20).setIfInBounds 21 v21).setIfInBounds 22 v22).setIfInBounds 23 v23).setIfInBounds 24 v24).setIfInBounds 25 v25).setIfInBounds 26 v26 }

/-- What stands while the region is under way. -/
structure R5 (X Y : Value) (x y : Int) (W : World) (L : Array Bool) (w : World) (v7 v8 v9 v18 v19 v20 v21 v22 v23 v24 v25 v26 : Value) : Prop where
  sz : L.size = 15
  bl : Below W.heap.size W w
  l0 : L.getD 0 false = true → v18 = X
  l1 : L.getD 1 false = true → v19 = Y
  l3 : L.getD 3 false = true → v21 = X
  l4 : L.getD 4 false = true → v22 = Y
  l6 : L.getD 6 false = true → v24 = X
  l7 : L.getD 7 false = true → v25 = Y
  i2 : L.getD 2 false = true → IV w v20 (x + y) 13
  i5 : L.getD 5 false = true → IV w v23 (x - y) 13
  i8 : L.getD 8 false = true → IV w v26 (x * y) 24
  b9 : L.getD 9 false = true → BX W.heap.size w v7
  b10 : L.getD 10 false = true → BX W.heap.size w v8
  b11 : L.getD 11 false = true → BX W.heap.size w v9
  n1 : L.getD 9 false = true → L.getD 10 false = true → v7 ≠ v8
  n2 : L.getD 9 false = true → L.getD 11 false = true → v7 ≠ v9
  n3 : L.getD 10 false = true → L.getD 11 false = true → v8 ≠ v9
  s12 : L.getD 12 false = true → L.getD 9 false = true ∧ L.getD 2 false = true ∧ ST w v7 v20
  s13 : L.getD 13 false = true → L.getD 10 false = true ∧ L.getD 5 false = true ∧ ST w v8 v23
  s14 : L.getD 14 false = true → L.getD 11 false = true ∧ L.getD 8 false = true ∧ ST w v9 v26

/-- What stands, stands in a world that has grown. -/
theorem R5.grow {X Y : Value} {x y : Int} {W w w' : World} {L : Array Bool} {v7 v8 v9 v18 v19 v20 v21 v22 v23 v24 v25 v26 : Value} (h : R5 X Y x y W L w v7 v8 v9 v18 v19 v20 v21 v22 v23 v24 v25 v26) (hb : Below w.heap.size w w') : R5 X Y x y W L w' v7 v8 v9 v18 v19 v20 v21 v22 v23 v24 v25 v26 :=
  ⟨h.sz, h.bl.trans (hb.mono h.bl.size), h.l0, h.l1, h.l3, h.l4, h.l6, h.l7, fun e => (h.i2 e).below hb, fun e => (h.i5 e).below hb, fun e => (h.i8 e).below hb, fun e => (h.b9 e).below hb, fun e => (h.b10 e).below hb, fun e => (h.b11 e).below hb, h.n1, h.n2, h.n3,
    fun e => ⟨(h.s12 e).1, (h.s12 e).2.1, (h.s12 e).2.2.below hb⟩, fun e => ⟨(h.s13 e).1, (h.s13 e).2.1, (h.s13 e).2.2.below hb⟩, fun e => ⟨(h.s14 e).1, (h.s14 e).2.1, (h.s14 e).2.2.below hb⟩⟩

theorem not_yet {L : Array Bool} {i : Nat} (hi : L.getD i true = false) : L.getD i false = true → False := by
  intro h
  simp only [Array.getD_eq_getD_getElem?] at hi h
  cases hc : L[i]? with
  | none => simp [hc] at hi
  | some b => simp [hc] at hi h; rw [hi] at h; cases h

theorem R5.at0 {X Y : Value} {x y : Int} {W w : World} {L : Array Bool} {v7 v8 v9 v18 v19 v20 v21 v22 v23 v24 v25 v26 : Value} {u : Value} (h : R5 X Y x y W L w v7 v8 v9 v18 v19 v20 v21 v22 v23 v24 v25 v26) (hi : L.getD 0 true = false) (hu : u = X) : R5 X Y x y W (L.setIfInBounds 0 true) w v7 v8 v9 u v19 v20 v21 v22 v23 v24 v25 v26 :=
  ⟨by simpa using h.sz, h.bl, fun _ => hu,
    fun e => h.l1 (by rwa [gs_ne (by decide)] at e),
    fun e => h.l3 (by rwa [gs_ne (by decide)] at e),
    fun e => h.l4 (by rwa [gs_ne (by decide)] at e),
    fun e => h.l6 (by rwa [gs_ne (by decide)] at e),
    fun e => h.l7 (by rwa [gs_ne (by decide)] at e),
    fun e => h.i2 (by rwa [gs_ne (by decide)] at e),
    fun e => h.i5 (by rwa [gs_ne (by decide)] at e),
    fun e => h.i8 (by rwa [gs_ne (by decide)] at e),
    fun e => h.b9 (by rwa [gs_ne (by decide)] at e),
    fun e => h.b10 (by rwa [gs_ne (by decide)] at e),
    fun e => h.b11 (by rwa [gs_ne (by decide)] at e),
    fun e e' => h.n1 (by rwa [gs_ne (by decide)] at e) (by rwa [gs_ne (by decide)] at e'),
    fun e e' => h.n2 (by rwa [gs_ne (by decide)] at e) (by rwa [gs_ne (by decide)] at e'),
    fun e e' => h.n3 (by rwa [gs_ne (by decide)] at e) (by rwa [gs_ne (by decide)] at e'),
    fun e => ⟨by rw [gs_ne (by decide)]; exact (h.s12 (by rwa [gs_ne (by decide)] at e)).1, by rw [gs_ne (by decide)]; exact (h.s12 (by rwa [gs_ne (by decide)] at e)).2.1, (h.s12 (by rwa [gs_ne (by decide)] at e)).2.2⟩,
    fun e => ⟨by rw [gs_ne (by decide)]; exact (h.s13 (by rwa [gs_ne (by decide)] at e)).1, by rw [gs_ne (by decide)]; exact (h.s13 (by rwa [gs_ne (by decide)] at e)).2.1, (h.s13 (by rwa [gs_ne (by decide)] at e)).2.2⟩,
    fun e => ⟨by rw [gs_ne (by decide)]; exact (h.s14 (by rwa [gs_ne (by decide)] at e)).1, by rw [gs_ne (by decide)]; exact (h.s14 (by rwa [gs_ne (by decide)] at e)).2.1, (h.s14 (by rwa [gs_ne (by decide)] at e)).2.2⟩⟩
theorem R5.at1 {X Y : Value} {x y : Int} {W w : World} {L : Array Bool} {v7 v8 v9 v18 v19 v20 v21 v22 v23 v24 v25 v26 : Value} {u : Value} (h : R5 X Y x y W L w v7 v8 v9 v18 v19 v20 v21 v22 v23 v24 v25 v26) (hi : L.getD 1 true = false) (hu : u = Y) : R5 X Y x y W (L.setIfInBounds 1 true) w v7 v8 v9 v18 u v20 v21 v22 v23 v24 v25 v26 :=
  ⟨by simpa using h.sz, h.bl, fun e => h.l0 (by rwa [gs_ne (by decide)] at e),
    fun _ => hu,
    fun e => h.l3 (by rwa [gs_ne (by decide)] at e),
    fun e => h.l4 (by rwa [gs_ne (by decide)] at e),
    fun e => h.l6 (by rwa [gs_ne (by decide)] at e),
    fun e => h.l7 (by rwa [gs_ne (by decide)] at e),
    fun e => h.i2 (by rwa [gs_ne (by decide)] at e),
    fun e => h.i5 (by rwa [gs_ne (by decide)] at e),
    fun e => h.i8 (by rwa [gs_ne (by decide)] at e),
    fun e => h.b9 (by rwa [gs_ne (by decide)] at e),
    fun e => h.b10 (by rwa [gs_ne (by decide)] at e),
    fun e => h.b11 (by rwa [gs_ne (by decide)] at e),
    fun e e' => h.n1 (by rwa [gs_ne (by decide)] at e) (by rwa [gs_ne (by decide)] at e'),
    fun e e' => h.n2 (by rwa [gs_ne (by decide)] at e) (by rwa [gs_ne (by decide)] at e'),
    fun e e' => h.n3 (by rwa [gs_ne (by decide)] at e) (by rwa [gs_ne (by decide)] at e'),
    fun e => ⟨by rw [gs_ne (by decide)]; exact (h.s12 (by rwa [gs_ne (by decide)] at e)).1, by rw [gs_ne (by decide)]; exact (h.s12 (by rwa [gs_ne (by decide)] at e)).2.1, (h.s12 (by rwa [gs_ne (by decide)] at e)).2.2⟩,
    fun e => ⟨by rw [gs_ne (by decide)]; exact (h.s13 (by rwa [gs_ne (by decide)] at e)).1, by rw [gs_ne (by decide)]; exact (h.s13 (by rwa [gs_ne (by decide)] at e)).2.1, (h.s13 (by rwa [gs_ne (by decide)] at e)).2.2⟩,
    fun e => ⟨by rw [gs_ne (by decide)]; exact (h.s14 (by rwa [gs_ne (by decide)] at e)).1, by rw [gs_ne (by decide)]; exact (h.s14 (by rwa [gs_ne (by decide)] at e)).2.1, (h.s14 (by rwa [gs_ne (by decide)] at e)).2.2⟩⟩
theorem R5.at3 {X Y : Value} {x y : Int} {W w : World} {L : Array Bool} {v7 v8 v9 v18 v19 v20 v21 v22 v23 v24 v25 v26 : Value} {u : Value} (h : R5 X Y x y W L w v7 v8 v9 v18 v19 v20 v21 v22 v23 v24 v25 v26) (hi : L.getD 3 true = false) (hu : u = X) : R5 X Y x y W (L.setIfInBounds 3 true) w v7 v8 v9 v18 v19 v20 u v22 v23 v24 v25 v26 :=
  ⟨by simpa using h.sz, h.bl, fun e => h.l0 (by rwa [gs_ne (by decide)] at e),
    fun e => h.l1 (by rwa [gs_ne (by decide)] at e),
    fun _ => hu,
    fun e => h.l4 (by rwa [gs_ne (by decide)] at e),
    fun e => h.l6 (by rwa [gs_ne (by decide)] at e),
    fun e => h.l7 (by rwa [gs_ne (by decide)] at e),
    fun e => h.i2 (by rwa [gs_ne (by decide)] at e),
    fun e => h.i5 (by rwa [gs_ne (by decide)] at e),
    fun e => h.i8 (by rwa [gs_ne (by decide)] at e),
    fun e => h.b9 (by rwa [gs_ne (by decide)] at e),
    fun e => h.b10 (by rwa [gs_ne (by decide)] at e),
    fun e => h.b11 (by rwa [gs_ne (by decide)] at e),
    fun e e' => h.n1 (by rwa [gs_ne (by decide)] at e) (by rwa [gs_ne (by decide)] at e'),
    fun e e' => h.n2 (by rwa [gs_ne (by decide)] at e) (by rwa [gs_ne (by decide)] at e'),
    fun e e' => h.n3 (by rwa [gs_ne (by decide)] at e) (by rwa [gs_ne (by decide)] at e'),
    fun e => ⟨by rw [gs_ne (by decide)]; exact (h.s12 (by rwa [gs_ne (by decide)] at e)).1, by rw [gs_ne (by decide)]; exact (h.s12 (by rwa [gs_ne (by decide)] at e)).2.1, (h.s12 (by rwa [gs_ne (by decide)] at e)).2.2⟩,
    fun e => ⟨by rw [gs_ne (by decide)]; exact (h.s13 (by rwa [gs_ne (by decide)] at e)).1, by rw [gs_ne (by decide)]; exact (h.s13 (by rwa [gs_ne (by decide)] at e)).2.1, (h.s13 (by rwa [gs_ne (by decide)] at e)).2.2⟩,
    fun e => ⟨by rw [gs_ne (by decide)]; exact (h.s14 (by rwa [gs_ne (by decide)] at e)).1, by rw [gs_ne (by decide)]; exact (h.s14 (by rwa [gs_ne (by decide)] at e)).2.1, (h.s14 (by rwa [gs_ne (by decide)] at e)).2.2⟩⟩
theorem R5.at4 {X Y : Value} {x y : Int} {W w : World} {L : Array Bool} {v7 v8 v9 v18 v19 v20 v21 v22 v23 v24 v25 v26 : Value} {u : Value} (h : R5 X Y x y W L w v7 v8 v9 v18 v19 v20 v21 v22 v23 v24 v25 v26) (hi : L.getD 4 true = false) (hu : u = Y) : R5 X Y x y W (L.setIfInBounds 4 true) w v7 v8 v9 v18 v19 v20 v21 u v23 v24 v25 v26 :=
  ⟨by simpa using h.sz, h.bl, fun e => h.l0 (by rwa [gs_ne (by decide)] at e),
    fun e => h.l1 (by rwa [gs_ne (by decide)] at e),
    fun e => h.l3 (by rwa [gs_ne (by decide)] at e),
    fun _ => hu,
    fun e => h.l6 (by rwa [gs_ne (by decide)] at e),
    fun e => h.l7 (by rwa [gs_ne (by decide)] at e),
    fun e => h.i2 (by rwa [gs_ne (by decide)] at e),
    fun e => h.i5 (by rwa [gs_ne (by decide)] at e),
    fun e => h.i8 (by rwa [gs_ne (by decide)] at e),
    fun e => h.b9 (by rwa [gs_ne (by decide)] at e),
    fun e => h.b10 (by rwa [gs_ne (by decide)] at e),
    fun e => h.b11 (by rwa [gs_ne (by decide)] at e),
    fun e e' => h.n1 (by rwa [gs_ne (by decide)] at e) (by rwa [gs_ne (by decide)] at e'),
    fun e e' => h.n2 (by rwa [gs_ne (by decide)] at e) (by rwa [gs_ne (by decide)] at e'),
    fun e e' => h.n3 (by rwa [gs_ne (by decide)] at e) (by rwa [gs_ne (by decide)] at e'),
    fun e => ⟨by rw [gs_ne (by decide)]; exact (h.s12 (by rwa [gs_ne (by decide)] at e)).1, by rw [gs_ne (by decide)]; exact (h.s12 (by rwa [gs_ne (by decide)] at e)).2.1, (h.s12 (by rwa [gs_ne (by decide)] at e)).2.2⟩,
    fun e => ⟨by rw [gs_ne (by decide)]; exact (h.s13 (by rwa [gs_ne (by decide)] at e)).1, by rw [gs_ne (by decide)]; exact (h.s13 (by rwa [gs_ne (by decide)] at e)).2.1, (h.s13 (by rwa [gs_ne (by decide)] at e)).2.2⟩,
    fun e => ⟨by rw [gs_ne (by decide)]; exact (h.s14 (by rwa [gs_ne (by decide)] at e)).1, by rw [gs_ne (by decide)]; exact (h.s14 (by rwa [gs_ne (by decide)] at e)).2.1, (h.s14 (by rwa [gs_ne (by decide)] at e)).2.2⟩⟩
theorem R5.at6 {X Y : Value} {x y : Int} {W w : World} {L : Array Bool} {v7 v8 v9 v18 v19 v20 v21 v22 v23 v24 v25 v26 : Value} {u : Value} (h : R5 X Y x y W L w v7 v8 v9 v18 v19 v20 v21 v22 v23 v24 v25 v26) (hi : L.getD 6 true = false) (hu : u = X) : R5 X Y x y W (L.setIfInBounds 6 true) w v7 v8 v9 v18 v19 v20 v21 v22 v23 u v25 v26 :=
  ⟨by simpa using h.sz, h.bl, fun e => h.l0 (by rwa [gs_ne (by decide)] at e),
    fun e => h.l1 (by rwa [gs_ne (by decide)] at e),
    fun e => h.l3 (by rwa [gs_ne (by decide)] at e),
    fun e => h.l4 (by rwa [gs_ne (by decide)] at e),
    fun _ => hu,
    fun e => h.l7 (by rwa [gs_ne (by decide)] at e),
    fun e => h.i2 (by rwa [gs_ne (by decide)] at e),
    fun e => h.i5 (by rwa [gs_ne (by decide)] at e),
    fun e => h.i8 (by rwa [gs_ne (by decide)] at e),
    fun e => h.b9 (by rwa [gs_ne (by decide)] at e),
    fun e => h.b10 (by rwa [gs_ne (by decide)] at e),
    fun e => h.b11 (by rwa [gs_ne (by decide)] at e),
    fun e e' => h.n1 (by rwa [gs_ne (by decide)] at e) (by rwa [gs_ne (by decide)] at e'),
    fun e e' => h.n2 (by rwa [gs_ne (by decide)] at e) (by rwa [gs_ne (by decide)] at e'),
    fun e e' => h.n3 (by rwa [gs_ne (by decide)] at e) (by rwa [gs_ne (by decide)] at e'),
    fun e => ⟨by rw [gs_ne (by decide)]; exact (h.s12 (by rwa [gs_ne (by decide)] at e)).1, by rw [gs_ne (by decide)]; exact (h.s12 (by rwa [gs_ne (by decide)] at e)).2.1, (h.s12 (by rwa [gs_ne (by decide)] at e)).2.2⟩,
    fun e => ⟨by rw [gs_ne (by decide)]; exact (h.s13 (by rwa [gs_ne (by decide)] at e)).1, by rw [gs_ne (by decide)]; exact (h.s13 (by rwa [gs_ne (by decide)] at e)).2.1, (h.s13 (by rwa [gs_ne (by decide)] at e)).2.2⟩,
    fun e => ⟨by rw [gs_ne (by decide)]; exact (h.s14 (by rwa [gs_ne (by decide)] at e)).1, by rw [gs_ne (by decide)]; exact (h.s14 (by rwa [gs_ne (by decide)] at e)).2.1, (h.s14 (by rwa [gs_ne (by decide)] at e)).2.2⟩⟩
theorem R5.at7 {X Y : Value} {x y : Int} {W w : World} {L : Array Bool} {v7 v8 v9 v18 v19 v20 v21 v22 v23 v24 v25 v26 : Value} {u : Value} (h : R5 X Y x y W L w v7 v8 v9 v18 v19 v20 v21 v22 v23 v24 v25 v26) (hi : L.getD 7 true = false) (hu : u = Y) : R5 X Y x y W (L.setIfInBounds 7 true) w v7 v8 v9 v18 v19 v20 v21 v22 v23 v24 u v26 :=
  ⟨by simpa using h.sz, h.bl, fun e => h.l0 (by rwa [gs_ne (by decide)] at e),
    fun e => h.l1 (by rwa [gs_ne (by decide)] at e),
    fun e => h.l3 (by rwa [gs_ne (by decide)] at e),
    fun e => h.l4 (by rwa [gs_ne (by decide)] at e),
    fun e => h.l6 (by rwa [gs_ne (by decide)] at e),
    fun _ => hu,
    fun e => h.i2 (by rwa [gs_ne (by decide)] at e),
    fun e => h.i5 (by rwa [gs_ne (by decide)] at e),
    fun e => h.i8 (by rwa [gs_ne (by decide)] at e),
    fun e => h.b9 (by rwa [gs_ne (by decide)] at e),
    fun e => h.b10 (by rwa [gs_ne (by decide)] at e),
    fun e => h.b11 (by rwa [gs_ne (by decide)] at e),
    fun e e' => h.n1 (by rwa [gs_ne (by decide)] at e) (by rwa [gs_ne (by decide)] at e'),
    fun e e' => h.n2 (by rwa [gs_ne (by decide)] at e) (by rwa [gs_ne (by decide)] at e'),
    fun e e' => h.n3 (by rwa [gs_ne (by decide)] at e) (by rwa [gs_ne (by decide)] at e'),
    fun e => ⟨by rw [gs_ne (by decide)]; exact (h.s12 (by rwa [gs_ne (by decide)] at e)).1, by rw [gs_ne (by decide)]; exact (h.s12 (by rwa [gs_ne (by decide)] at e)).2.1, (h.s12 (by rwa [gs_ne (by decide)] at e)).2.2⟩,
    fun e => ⟨by rw [gs_ne (by decide)]; exact (h.s13 (by rwa [gs_ne (by decide)] at e)).1, by rw [gs_ne (by decide)]; exact (h.s13 (by rwa [gs_ne (by decide)] at e)).2.1, (h.s13 (by rwa [gs_ne (by decide)] at e)).2.2⟩,
    fun e => ⟨by rw [gs_ne (by decide)]; exact (h.s14 (by rwa [gs_ne (by decide)] at e)).1, by rw [gs_ne (by decide)]; exact (h.s14 (by rwa [gs_ne (by decide)] at e)).2.1, (h.s14 (by rwa [gs_ne (by decide)] at e)).2.2⟩⟩
theorem R5.at2 {X Y : Value} {x y : Int} {W w : World} {L : Array Bool} {v7 v8 v9 v18 v19 v20 v21 v22 v23 v24 v25 v26 : Value} {u : Value} (h : R5 X Y x y W L w v7 v8 v9 v18 v19 v20 v21 v22 v23 v24 v25 v26) (hi : L.getD 2 true = false) (hu : IV w u (x + y) 13) : R5 X Y x y W (L.setIfInBounds 2 true) w v7 v8 v9 v18 v19 u v21 v22 v23 v24 v25 v26 :=
  ⟨by simpa using h.sz, h.bl, fun e => h.l0 (by rwa [gs_ne (by decide)] at e),
    fun e => h.l1 (by rwa [gs_ne (by decide)] at e),
    fun e => h.l3 (by rwa [gs_ne (by decide)] at e),
    fun e => h.l4 (by rwa [gs_ne (by decide)] at e),
    fun e => h.l6 (by rwa [gs_ne (by decide)] at e),
    fun e => h.l7 (by rwa [gs_ne (by decide)] at e),
    fun _ => hu,
    fun e => h.i5 (by rwa [gs_ne (by decide)] at e),
    fun e => h.i8 (by rwa [gs_ne (by decide)] at e),
    fun e => h.b9 (by rwa [gs_ne (by decide)] at e),
    fun e => h.b10 (by rwa [gs_ne (by decide)] at e),
    fun e => h.b11 (by rwa [gs_ne (by decide)] at e),
    fun e e' => h.n1 (by rwa [gs_ne (by decide)] at e) (by rwa [gs_ne (by decide)] at e'),
    fun e e' => h.n2 (by rwa [gs_ne (by decide)] at e) (by rwa [gs_ne (by decide)] at e'),
    fun e e' => h.n3 (by rwa [gs_ne (by decide)] at e) (by rwa [gs_ne (by decide)] at e'),
    fun e => (not_yet hi (h.s12 (by rwa [gs_ne (by decide)] at e)).2.1).elim,
    fun e => ⟨by rw [gs_ne (by decide)]; exact (h.s13 (by rwa [gs_ne (by decide)] at e)).1, by rw [gs_ne (by decide)]; exact (h.s13 (by rwa [gs_ne (by decide)] at e)).2.1, (h.s13 (by rwa [gs_ne (by decide)] at e)).2.2⟩,
    fun e => ⟨by rw [gs_ne (by decide)]; exact (h.s14 (by rwa [gs_ne (by decide)] at e)).1, by rw [gs_ne (by decide)]; exact (h.s14 (by rwa [gs_ne (by decide)] at e)).2.1, (h.s14 (by rwa [gs_ne (by decide)] at e)).2.2⟩⟩
theorem R5.at5 {X Y : Value} {x y : Int} {W w : World} {L : Array Bool} {v7 v8 v9 v18 v19 v20 v21 v22 v23 v24 v25 v26 : Value} {u : Value} (h : R5 X Y x y W L w v7 v8 v9 v18 v19 v20 v21 v22 v23 v24 v25 v26) (hi : L.getD 5 true = false) (hu : IV w u (x - y) 13) : R5 X Y x y W (L.setIfInBounds 5 true) w v7 v8 v9 v18 v19 v20 v21 v22 u v24 v25 v26 :=
  ⟨by simpa using h.sz, h.bl, fun e => h.l0 (by rwa [gs_ne (by decide)] at e),
    fun e => h.l1 (by rwa [gs_ne (by decide)] at e),
    fun e => h.l3 (by rwa [gs_ne (by decide)] at e),
    fun e => h.l4 (by rwa [gs_ne (by decide)] at e),
    fun e => h.l6 (by rwa [gs_ne (by decide)] at e),
    fun e => h.l7 (by rwa [gs_ne (by decide)] at e),
    fun e => h.i2 (by rwa [gs_ne (by decide)] at e),
    fun _ => hu,
    fun e => h.i8 (by rwa [gs_ne (by decide)] at e),
    fun e => h.b9 (by rwa [gs_ne (by decide)] at e),
    fun e => h.b10 (by rwa [gs_ne (by decide)] at e),
    fun e => h.b11 (by rwa [gs_ne (by decide)] at e),
    fun e e' => h.n1 (by rwa [gs_ne (by decide)] at e) (by rwa [gs_ne (by decide)] at e'),
    fun e e' => h.n2 (by rwa [gs_ne (by decide)] at e) (by rwa [gs_ne (by decide)] at e'),
    fun e e' => h.n3 (by rwa [gs_ne (by decide)] at e) (by rwa [gs_ne (by decide)] at e'),
    fun e => ⟨by rw [gs_ne (by decide)]; exact (h.s12 (by rwa [gs_ne (by decide)] at e)).1, by rw [gs_ne (by decide)]; exact (h.s12 (by rwa [gs_ne (by decide)] at e)).2.1, (h.s12 (by rwa [gs_ne (by decide)] at e)).2.2⟩,
    fun e => (not_yet hi (h.s13 (by rwa [gs_ne (by decide)] at e)).2.1).elim,
    fun e => ⟨by rw [gs_ne (by decide)]; exact (h.s14 (by rwa [gs_ne (by decide)] at e)).1, by rw [gs_ne (by decide)]; exact (h.s14 (by rwa [gs_ne (by decide)] at e)).2.1, (h.s14 (by rwa [gs_ne (by decide)] at e)).2.2⟩⟩
theorem R5.at8 {X Y : Value} {x y : Int} {W w : World} {L : Array Bool} {v7 v8 v9 v18 v19 v20 v21 v22 v23 v24 v25 v26 : Value} {u : Value} (h : R5 X Y x y W L w v7 v8 v9 v18 v19 v20 v21 v22 v23 v24 v25 v26) (hi : L.getD 8 true = false) (hu : IV w u (x * y) 24) : R5 X Y x y W (L.setIfInBounds 8 true) w v7 v8 v9 v18 v19 v20 v21 v22 v23 v24 v25 u :=
  ⟨by simpa using h.sz, h.bl, fun e => h.l0 (by rwa [gs_ne (by decide)] at e),
    fun e => h.l1 (by rwa [gs_ne (by decide)] at e),
    fun e => h.l3 (by rwa [gs_ne (by decide)] at e),
    fun e => h.l4 (by rwa [gs_ne (by decide)] at e),
    fun e => h.l6 (by rwa [gs_ne (by decide)] at e),
    fun e => h.l7 (by rwa [gs_ne (by decide)] at e),
    fun e => h.i2 (by rwa [gs_ne (by decide)] at e),
    fun e => h.i5 (by rwa [gs_ne (by decide)] at e),
    fun _ => hu,
    fun e => h.b9 (by rwa [gs_ne (by decide)] at e),
    fun e => h.b10 (by rwa [gs_ne (by decide)] at e),
    fun e => h.b11 (by rwa [gs_ne (by decide)] at e),
    fun e e' => h.n1 (by rwa [gs_ne (by decide)] at e) (by rwa [gs_ne (by decide)] at e'),
    fun e e' => h.n2 (by rwa [gs_ne (by decide)] at e) (by rwa [gs_ne (by decide)] at e'),
    fun e e' => h.n3 (by rwa [gs_ne (by decide)] at e) (by rwa [gs_ne (by decide)] at e'),
    fun e => ⟨by rw [gs_ne (by decide)]; exact (h.s12 (by rwa [gs_ne (by decide)] at e)).1, by rw [gs_ne (by decide)]; exact (h.s12 (by rwa [gs_ne (by decide)] at e)).2.1, (h.s12 (by rwa [gs_ne (by decide)] at e)).2.2⟩,
    fun e => ⟨by rw [gs_ne (by decide)]; exact (h.s13 (by rwa [gs_ne (by decide)] at e)).1, by rw [gs_ne (by decide)]; exact (h.s13 (by rwa [gs_ne (by decide)] at e)).2.1, (h.s13 (by rwa [gs_ne (by decide)] at e)).2.2⟩,
    fun e => (not_yet hi (h.s14 (by rwa [gs_ne (by decide)] at e)).2.1).elim⟩
theorem R5.at9 {X Y : Value} {x y : Int} {W w : World} {L : Array Bool} {v7 v8 v9 v18 v19 v20 v21 v22 v23 v24 v25 v26 : Value} {u : Value} (h : R5 X Y x y W L w v7 v8 v9 v18 v19 v20 v21 v22 v23 v24 v25 v26) (hi : L.getD 9 true = false) (hu : BX W.heap.size w u) (hn10 : L.getD 10 false = true → u ≠ v8) (hn11 : L.getD 11 false = true → u ≠ v9) : R5 X Y x y W (L.setIfInBounds 9 true) w u v8 v9 v18 v19 v20 v21 v22 v23 v24 v25 v26 :=
  ⟨by simpa using h.sz, h.bl, fun e => h.l0 (by rwa [gs_ne (by decide)] at e),
    fun e => h.l1 (by rwa [gs_ne (by decide)] at e),
    fun e => h.l3 (by rwa [gs_ne (by decide)] at e),
    fun e => h.l4 (by rwa [gs_ne (by decide)] at e),
    fun e => h.l6 (by rwa [gs_ne (by decide)] at e),
    fun e => h.l7 (by rwa [gs_ne (by decide)] at e),
    fun e => h.i2 (by rwa [gs_ne (by decide)] at e),
    fun e => h.i5 (by rwa [gs_ne (by decide)] at e),
    fun e => h.i8 (by rwa [gs_ne (by decide)] at e),
    fun _ => hu,
    fun e => h.b10 (by rwa [gs_ne (by decide)] at e),
    fun e => h.b11 (by rwa [gs_ne (by decide)] at e),
    fun _ e' => hn10 (by rwa [gs_ne (by decide)] at e'),
    fun _ e' => hn11 (by rwa [gs_ne (by decide)] at e'),
    fun e e' => h.n3 (by rwa [gs_ne (by decide)] at e) (by rwa [gs_ne (by decide)] at e'),
    fun e => (not_yet hi (h.s12 (by rwa [gs_ne (by decide)] at e)).1).elim,
    fun e => ⟨by rw [gs_ne (by decide)]; exact (h.s13 (by rwa [gs_ne (by decide)] at e)).1, by rw [gs_ne (by decide)]; exact (h.s13 (by rwa [gs_ne (by decide)] at e)).2.1, (h.s13 (by rwa [gs_ne (by decide)] at e)).2.2⟩,
    fun e => ⟨by rw [gs_ne (by decide)]; exact (h.s14 (by rwa [gs_ne (by decide)] at e)).1, by rw [gs_ne (by decide)]; exact (h.s14 (by rwa [gs_ne (by decide)] at e)).2.1, (h.s14 (by rwa [gs_ne (by decide)] at e)).2.2⟩⟩
theorem R5.at10 {X Y : Value} {x y : Int} {W w : World} {L : Array Bool} {v7 v8 v9 v18 v19 v20 v21 v22 v23 v24 v25 v26 : Value} {u : Value} (h : R5 X Y x y W L w v7 v8 v9 v18 v19 v20 v21 v22 v23 v24 v25 v26) (hi : L.getD 10 true = false) (hu : BX W.heap.size w u) (hn9 : L.getD 9 false = true → u ≠ v7) (hn11 : L.getD 11 false = true → u ≠ v9) : R5 X Y x y W (L.setIfInBounds 10 true) w v7 u v9 v18 v19 v20 v21 v22 v23 v24 v25 v26 :=
  ⟨by simpa using h.sz, h.bl, fun e => h.l0 (by rwa [gs_ne (by decide)] at e),
    fun e => h.l1 (by rwa [gs_ne (by decide)] at e),
    fun e => h.l3 (by rwa [gs_ne (by decide)] at e),
    fun e => h.l4 (by rwa [gs_ne (by decide)] at e),
    fun e => h.l6 (by rwa [gs_ne (by decide)] at e),
    fun e => h.l7 (by rwa [gs_ne (by decide)] at e),
    fun e => h.i2 (by rwa [gs_ne (by decide)] at e),
    fun e => h.i5 (by rwa [gs_ne (by decide)] at e),
    fun e => h.i8 (by rwa [gs_ne (by decide)] at e),
    fun e => h.b9 (by rwa [gs_ne (by decide)] at e),
    fun _ => hu,
    fun e => h.b11 (by rwa [gs_ne (by decide)] at e),
    fun e _ => (hn9 (by rwa [gs_ne (by decide)] at e)).symm,
    fun e e' => h.n2 (by rwa [gs_ne (by decide)] at e) (by rwa [gs_ne (by decide)] at e'),
    fun _ e' => hn11 (by rwa [gs_ne (by decide)] at e'),
    fun e => ⟨by rw [gs_ne (by decide)]; exact (h.s12 (by rwa [gs_ne (by decide)] at e)).1, by rw [gs_ne (by decide)]; exact (h.s12 (by rwa [gs_ne (by decide)] at e)).2.1, (h.s12 (by rwa [gs_ne (by decide)] at e)).2.2⟩,
    fun e => (not_yet hi (h.s13 (by rwa [gs_ne (by decide)] at e)).1).elim,
    fun e => ⟨by rw [gs_ne (by decide)]; exact (h.s14 (by rwa [gs_ne (by decide)] at e)).1, by rw [gs_ne (by decide)]; exact (h.s14 (by rwa [gs_ne (by decide)] at e)).2.1, (h.s14 (by rwa [gs_ne (by decide)] at e)).2.2⟩⟩
theorem R5.at11 {X Y : Value} {x y : Int} {W w : World} {L : Array Bool} {v7 v8 v9 v18 v19 v20 v21 v22 v23 v24 v25 v26 : Value} {u : Value} (h : R5 X Y x y W L w v7 v8 v9 v18 v19 v20 v21 v22 v23 v24 v25 v26) (hi : L.getD 11 true = false) (hu : BX W.heap.size w u) (hn9 : L.getD 9 false = true → u ≠ v7) (hn10 : L.getD 10 false = true → u ≠ v8) : R5 X Y x y W (L.setIfInBounds 11 true) w v7 v8 u v18 v19 v20 v21 v22 v23 v24 v25 v26 :=
  ⟨by simpa using h.sz, h.bl, fun e => h.l0 (by rwa [gs_ne (by decide)] at e),
    fun e => h.l1 (by rwa [gs_ne (by decide)] at e),
    fun e => h.l3 (by rwa [gs_ne (by decide)] at e),
    fun e => h.l4 (by rwa [gs_ne (by decide)] at e),
    fun e => h.l6 (by rwa [gs_ne (by decide)] at e),
    fun e => h.l7 (by rwa [gs_ne (by decide)] at e),
    fun e => h.i2 (by rwa [gs_ne (by decide)] at e),
    fun e => h.i5 (by rwa [gs_ne (by decide)] at e),
    fun e => h.i8 (by rwa [gs_ne (by decide)] at e),
    fun e => h.b9 (by rwa [gs_ne (by decide)] at e),
    fun e => h.b10 (by rwa [gs_ne (by decide)] at e),
    fun _ => hu,
    fun e e' => h.n1 (by rwa [gs_ne (by decide)] at e) (by rwa [gs_ne (by decide)] at e'),
    fun e _ => (hn9 (by rwa [gs_ne (by decide)] at e)).symm,
    fun e _ => (hn10 (by rwa [gs_ne (by decide)] at e)).symm,
    fun e => ⟨by rw [gs_ne (by decide)]; exact (h.s12 (by rwa [gs_ne (by decide)] at e)).1, by rw [gs_ne (by decide)]; exact (h.s12 (by rwa [gs_ne (by decide)] at e)).2.1, (h.s12 (by rwa [gs_ne (by decide)] at e)).2.2⟩,
    fun e => ⟨by rw [gs_ne (by decide)]; exact (h.s13 (by rwa [gs_ne (by decide)] at e)).1, by rw [gs_ne (by decide)]; exact (h.s13 (by rwa [gs_ne (by decide)] at e)).2.1, (h.s13 (by rwa [gs_ne (by decide)] at e)).2.2⟩,
    fun e => (not_yet hi (h.s14 (by rwa [gs_ne (by decide)] at e)).1).elim⟩
theorem R5.at12 {X Y : Value} {x y : Int} {W w : World} {L : Array Bool} {v7 v8 v9 v18 v19 v20 v21 v22 v23 v24 v25 v26 : Value} {g : Nat} {b : Bool} {A : Option Addr} {n c : Nat} (h : R5 X Y x y W L w v7 v8 v9 v18 v19 v20 v21 v22 v23 v24 v25 v26) (hb : L.getD 9 false = true) (hl : L.getD 2 false = true) (hp : v7 = .pointer (some ⟨g, 0, none⟩)) (hg : W.heap.size ≤ g) (hu : v20 = .agg #[.bool b, .slice A n c]) : R5 X Y x y W (L.setIfInBounds 12 true) (put2 w g b A n c) v7 v8 v9 v18 v19 v20 v21 v22 v23 v24 v25 v26 :=
  ⟨by simpa using h.sz, (h.bl.setCell (p := ⟨g, 0, none⟩) hg _).setCell (p := ⟨g, 1, none⟩) hg _, fun e => h.l0 (by rwa [gs_ne (by decide)] at e),
    fun e => h.l1 (by rwa [gs_ne (by decide)] at e),
    fun e => h.l3 (by rwa [gs_ne (by decide)] at e),
    fun e => h.l4 (by rwa [gs_ne (by decide)] at e),
    fun e => h.l6 (by rwa [gs_ne (by decide)] at e),
    fun e => h.l7 (by rwa [gs_ne (by decide)] at e),
    fun e => (h.i2 (by rwa [gs_ne (by decide)] at e)).put2 (h.b9 hb) hp b A n c,
    fun e => (h.i5 (by rwa [gs_ne (by decide)] at e)).put2 (h.b9 hb) hp b A n c,
    fun e => (h.i8 (by rwa [gs_ne (by decide)] at e)).put2 (h.b9 hb) hp b A n c,
    fun e => (h.b9 (by rwa [gs_ne (by decide)] at e)).put2 (h.b9 hb) hp b A n c,
    fun e => (h.b10 (by rwa [gs_ne (by decide)] at e)).put2 (h.b9 hb) hp b A n c,
    fun e => (h.b11 (by rwa [gs_ne (by decide)] at e)).put2 (h.b9 hb) hp b A n c,
    fun e e' => h.n1 (by rwa [gs_ne (by decide)] at e) (by rwa [gs_ne (by decide)] at e'),
    fun e e' => h.n2 (by rwa [gs_ne (by decide)] at e) (by rwa [gs_ne (by decide)] at e'),
    fun e e' => h.n3 (by rwa [gs_ne (by decide)] at e) (by rwa [gs_ne (by decide)] at e'),
    fun _ => ⟨by rw [gs_ne (by decide)]; exact hb, by rw [gs_ne (by decide)]; exact hl, hu ▸ ST.mk2 (h.b9 hb) hp b A n c⟩,
    fun e => ⟨by rw [gs_ne (by decide)]; exact (h.s13 (by rwa [gs_ne (by decide)] at e)).1, by rw [gs_ne (by decide)]; exact (h.s13 (by rwa [gs_ne (by decide)] at e)).2.1, (h.s13 (by rwa [gs_ne (by decide)] at e)).2.2.put2 (h.b9 hb) hp (h.n1 hb (h.s13 (by rwa [gs_ne (by decide)] at e)).1) b A n c⟩,
    fun e => ⟨by rw [gs_ne (by decide)]; exact (h.s14 (by rwa [gs_ne (by decide)] at e)).1, by rw [gs_ne (by decide)]; exact (h.s14 (by rwa [gs_ne (by decide)] at e)).2.1, (h.s14 (by rwa [gs_ne (by decide)] at e)).2.2.put2 (h.b9 hb) hp (h.n2 hb (h.s14 (by rwa [gs_ne (by decide)] at e)).1) b A n c⟩⟩
theorem R5.at13 {X Y : Value} {x y : Int} {W w : World} {L : Array Bool} {v7 v8 v9 v18 v19 v20 v21 v22 v23 v24 v25 v26 : Value} {g : Nat} {b : Bool} {A : Option Addr} {n c : Nat} (h : R5 X Y x y W L w v7 v8 v9 v18 v19 v20 v21 v22 v23 v24 v25 v26) (hb : L.getD 10 false = true) (hl : L.getD 5 false = true) (hp : v8 = .pointer (some ⟨g, 0, none⟩)) (hg : W.heap.size ≤ g) (hu : v23 = .agg #[.bool b, .slice A n c]) : R5 X Y x y W (L.setIfInBounds 13 true) (put2 w g b A n c) v7 v8 v9 v18 v19 v20 v21 v22 v23 v24 v25 v26 :=
  ⟨by simpa using h.sz, (h.bl.setCell (p := ⟨g, 0, none⟩) hg _).setCell (p := ⟨g, 1, none⟩) hg _, fun e => h.l0 (by rwa [gs_ne (by decide)] at e),
    fun e => h.l1 (by rwa [gs_ne (by decide)] at e),
    fun e => h.l3 (by rwa [gs_ne (by decide)] at e),
    fun e => h.l4 (by rwa [gs_ne (by decide)] at e),
    fun e => h.l6 (by rwa [gs_ne (by decide)] at e),
    fun e => h.l7 (by rwa [gs_ne (by decide)] at e),
    fun e => (h.i2 (by rwa [gs_ne (by decide)] at e)).put2 (h.b10 hb) hp b A n c,
    fun e => (h.i5 (by rwa [gs_ne (by decide)] at e)).put2 (h.b10 hb) hp b A n c,
    fun e => (h.i8 (by rwa [gs_ne (by decide)] at e)).put2 (h.b10 hb) hp b A n c,
    fun e => (h.b9 (by rwa [gs_ne (by decide)] at e)).put2 (h.b10 hb) hp b A n c,
    fun e => (h.b10 (by rwa [gs_ne (by decide)] at e)).put2 (h.b10 hb) hp b A n c,
    fun e => (h.b11 (by rwa [gs_ne (by decide)] at e)).put2 (h.b10 hb) hp b A n c,
    fun e e' => h.n1 (by rwa [gs_ne (by decide)] at e) (by rwa [gs_ne (by decide)] at e'),
    fun e e' => h.n2 (by rwa [gs_ne (by decide)] at e) (by rwa [gs_ne (by decide)] at e'),
    fun e e' => h.n3 (by rwa [gs_ne (by decide)] at e) (by rwa [gs_ne (by decide)] at e'),
    fun e => ⟨by rw [gs_ne (by decide)]; exact (h.s12 (by rwa [gs_ne (by decide)] at e)).1, by rw [gs_ne (by decide)]; exact (h.s12 (by rwa [gs_ne (by decide)] at e)).2.1, (h.s12 (by rwa [gs_ne (by decide)] at e)).2.2.put2 (h.b10 hb) hp ((h.n1 (h.s12 (by rwa [gs_ne (by decide)] at e)).1 hb).symm) b A n c⟩,
    fun _ => ⟨by rw [gs_ne (by decide)]; exact hb, by rw [gs_ne (by decide)]; exact hl, hu ▸ ST.mk2 (h.b10 hb) hp b A n c⟩,
    fun e => ⟨by rw [gs_ne (by decide)]; exact (h.s14 (by rwa [gs_ne (by decide)] at e)).1, by rw [gs_ne (by decide)]; exact (h.s14 (by rwa [gs_ne (by decide)] at e)).2.1, (h.s14 (by rwa [gs_ne (by decide)] at e)).2.2.put2 (h.b10 hb) hp (h.n3 hb (h.s14 (by rwa [gs_ne (by decide)] at e)).1) b A n c⟩⟩
theorem R5.at14 {X Y : Value} {x y : Int} {W w : World} {L : Array Bool} {v7 v8 v9 v18 v19 v20 v21 v22 v23 v24 v25 v26 : Value} {g : Nat} {b : Bool} {A : Option Addr} {n c : Nat} (h : R5 X Y x y W L w v7 v8 v9 v18 v19 v20 v21 v22 v23 v24 v25 v26) (hb : L.getD 11 false = true) (hl : L.getD 8 false = true) (hp : v9 = .pointer (some ⟨g, 0, none⟩)) (hg : W.heap.size ≤ g) (hu : v26 = .agg #[.bool b, .slice A n c]) : R5 X Y x y W (L.setIfInBounds 14 true) (put2 w g b A n c) v7 v8 v9 v18 v19 v20 v21 v22 v23 v24 v25 v26 :=
  ⟨by simpa using h.sz, (h.bl.setCell (p := ⟨g, 0, none⟩) hg _).setCell (p := ⟨g, 1, none⟩) hg _, fun e => h.l0 (by rwa [gs_ne (by decide)] at e),
    fun e => h.l1 (by rwa [gs_ne (by decide)] at e),
    fun e => h.l3 (by rwa [gs_ne (by decide)] at e),
    fun e => h.l4 (by rwa [gs_ne (by decide)] at e),
    fun e => h.l6 (by rwa [gs_ne (by decide)] at e),
    fun e => h.l7 (by rwa [gs_ne (by decide)] at e),
    fun e => (h.i2 (by rwa [gs_ne (by decide)] at e)).put2 (h.b11 hb) hp b A n c,
    fun e => (h.i5 (by rwa [gs_ne (by decide)] at e)).put2 (h.b11 hb) hp b A n c,
    fun e => (h.i8 (by rwa [gs_ne (by decide)] at e)).put2 (h.b11 hb) hp b A n c,
    fun e => (h.b9 (by rwa [gs_ne (by decide)] at e)).put2 (h.b11 hb) hp b A n c,
    fun e => (h.b10 (by rwa [gs_ne (by decide)] at e)).put2 (h.b11 hb) hp b A n c,
    fun e => (h.b11 (by rwa [gs_ne (by decide)] at e)).put2 (h.b11 hb) hp b A n c,
    fun e e' => h.n1 (by rwa [gs_ne (by decide)] at e) (by rwa [gs_ne (by decide)] at e'),
    fun e e' => h.n2 (by rwa [gs_ne (by decide)] at e) (by rwa [gs_ne (by decide)] at e'),
    fun e e' => h.n3 (by rwa [gs_ne (by decide)] at e) (by rwa [gs_ne (by decide)] at e'),
    fun e => ⟨by rw [gs_ne (by decide)]; exact (h.s12 (by rwa [gs_ne (by decide)] at e)).1, by rw [gs_ne (by decide)]; exact (h.s12 (by rwa [gs_ne (by decide)] at e)).2.1, (h.s12 (by rwa [gs_ne (by decide)] at e)).2.2.put2 (h.b11 hb) hp ((h.n2 (h.s12 (by rwa [gs_ne (by decide)] at e)).1 hb).symm) b A n c⟩,
    fun e => ⟨by rw [gs_ne (by decide)]; exact (h.s13 (by rwa [gs_ne (by decide)] at e)).1, by rw [gs_ne (by decide)]; exact (h.s13 (by rwa [gs_ne (by decide)] at e)).2.1, (h.s13 (by rwa [gs_ne (by decide)] at e)).2.2.put2 (h.b11 hb) hp ((h.n3 (h.s13 (by rwa [gs_ne (by decide)] at e)).1 hb).symm) b A n c⟩,
    fun _ => ⟨by rw [gs_ne (by decide)]; exact hb, by rw [gs_ne (by decide)]; exact hl, hu ▸ ST.mk2 (h.b11 hb) hp b A n c⟩⟩

theorem R5.start {X Y : Value} {x y : Int} {W : World} : R5 X Y x y W (Array.replicate 15 false) W.drew undef undef undef undef undef undef undef undef undef undef undef undef := by
  refine ⟨by simp, (Below.refl _ W).drew, ?_, ?_, ?_, ?_, ?_, ?_, ?_, ?_, ?_, ?_, ?_, ?_, ?_, ?_, ?_, ?_, ?_, ?_⟩ <;> intro h <;> simp at h

/-- All has come up. -/
theorem R5.finish {X Y : Value} {x y : Int} {W w : World} {L : Array Bool} {v7 v8 v9 v18 v19 v20 v21 v22 v23 v24 v25 v26 : Value} (h : R5 X Y x y W L w v7 v8 v9 v18 v19 v20 v21 v22 v23 v24 v25 v26) (hall : ∀ i, i < 15 → L.getD i false = true) :
    ∃ g7 b7 A7 n7 c7 g8 b8 A8 n8 c8 g9 b9 A9 n9 c9, v7 = .pointer (some ⟨g7, 0, none⟩) ∧ v8 = .pointer (some ⟨g8, 0, none⟩) ∧ v9 = .pointer (some ⟨g9, 0, none⟩) ∧
      (w.cell? ⟨g7, 0, none⟩ = some (.bool b7) ∧ w.cell? ⟨g7, 1, none⟩ = some (.slice A7 n7 c7) ∧ w.cell? ⟨g8, 0, none⟩ = some (.bool b8) ∧ w.cell? ⟨g8, 1, none⟩ = some (.slice A8 n8 c8) ∧ w.cell? ⟨g9, 0, none⟩ = some (.bool b9) ∧ w.cell? ⟨g9, 1, none⟩ = some (.slice A9 n9 c9)) ∧
      (g7 < w.heap.size ∧ g8 < w.heap.size ∧ g9 < w.heap.size) ∧ II w b7 A7 n7 c7 (x + y) 13 ∧ II w b8 A8 n8 c8 (x - y) 13 ∧ II w b9 A9 n9 c9 (x * y) 24 := by
  obtain ⟨-, -, g7, b7, A7, n7, c7, e7, u7, l7, d1, d2⟩ := h.s12 (hall 12 (by decide))
  obtain ⟨-, -, g8, b8, A8, n8, c8, e8, u8, l8, d3, d4⟩ := h.s13 (hall 13 (by decide))
  obtain ⟨-, -, g9, b9, A9, n9, c9, e9, u9, l9, d5, d6⟩ := h.s14 (hall 14 (by decide))
  obtain ⟨a1, a2, a3, a4, ea, ha⟩ := h.i2 (hall 2 (by decide))
  obtain ⟨k1, k2, k3, k4, ek, hk⟩ := h.i5 (hall 5 (by decide))
  obtain ⟨m1, m2, m3, m4, em, hm⟩ := h.i8 (hall 8 (by decide))
  rw [u7] at ea; rw [u8] at ek; rw [u9] at em
  injection ea with ea; injection ek with ek; injection em with em
  simp at ea ek em
  obtain ⟨rfl, rfl, rfl, rfl⟩ := ea
  obtain ⟨rfl, rfl, rfl, rfl⟩ := ek
  obtain ⟨rfl, rfl, rfl, rfl⟩ := em
  exact ⟨g7, b7, A7, n7, c7, g8, b8, A8, n8, c8, g9, b9, A9, n9, c9, e7, e8, e9, ⟨d1, d2, d3, d4, d5, d6⟩, ⟨l7, l8, l9⟩, ha, hk, hm⟩

/-- The invariant of region 5. -/
def I5 (X Y : Value) (x y : Int) (W : World) (a0 : Act) (L : Array Bool) (a : Act) (w : World) : Prop :=
  ∃ v7 v8 v9 v18 v19 v20 v21 v22 v23 v24 v25 v26, a = hole a0 v7 v8 v9 v18 v19 v20 v21 v22 v23 v24 v25 v26 ∧ R5 X Y x y W L w v7 v8 v9 v18 v19 v20 v21 v22 v23 v24 v25 v26

end Go.Proofs.YtabibkhcdamlhaaDoor
