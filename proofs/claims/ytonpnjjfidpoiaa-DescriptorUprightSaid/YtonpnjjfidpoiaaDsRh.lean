/-
  Walks: Integral of package raster.
-/
import Derived.Test.YtonpnjjfidpoiaaDsRb
set_option linter.unusedSimpArgs false
set_option linter.unusedVariables false
namespace Go.Proofs.Ytonpnjjfidpoiaa
open Go.RowKit


/-- The sum of the first x pixels of row y; the sum of the first x columns and y rows. -/
def rsum (P : List Int) (a y : Nat) : Nat → Int
  | 0 => 0
  | x + 1 => rsum P a y x + nth P (y * a + x)
def psum (P : List Int) (a : Nat) : Nat → Nat → Int
  | 0, _ => 0
  | y + 1, x => psum P a y x + rsum P a y x
theorem psum_zero (P : List Int) (a y : Nat) : psum P a y 0 = 0 := by
  induction y with
  | zero => rfl
  | succ y ih => show psum P a y 0 + rsum P a y 0 = 0; rw [ih]; rfl

theorem nth_bounds {P : List Int} {M : Int} (hM : 0 ≤ M) (h : ∀ g ∈ P, 0 ≤ g ∧ g ≤ M) (i : Nat) : 0 ≤ nth P i ∧ nth P i ≤ M := by
  by_cases hi : i < P.length
  · rw [nth_eq hi]; exact h _ (List.getElem_mem hi)
  · have : nth P i = 0 := by simp [nth, List.getD, List.getElem?_eq_none (Nat.not_lt.1 hi)]
    rw [this]; exact ⟨Int.le_refl _, hM⟩
theorem rsum_bounds {P : List Int} {M : Int} (hM : 0 ≤ M) (h : ∀ g ∈ P, 0 ≤ g ∧ g ≤ M) (a y x : Nat) : 0 ≤ rsum P a y x ∧ rsum P a y x ≤ x * M := by
  induction x with
  | zero => simp [rsum]
  | succ x ih =>
    have := nth_bounds hM h (y * a + x)
    show 0 ≤ rsum P a y x + nth P (y * a + x) ∧ rsum P a y x + nth P (y * a + x) ≤ ((x + 1 : Nat) : Int) * M
    have e : ((x + 1 : Nat) : Int) * M = x * M + M := by rw [Int.natCast_succ, Int.add_mul, Int.one_mul]
    omega
theorem psum_bounds {P : List Int} {M : Int} (hM : 0 ≤ M) (h : ∀ g ∈ P, 0 ≤ g ∧ g ≤ M) (a y x : Nat) : 0 ≤ psum P a y x ∧ psum P a y x ≤ y * (x * M) := by
  induction y with
  | zero => simp [psum]
  | succ y ih =>
    have := rsum_bounds hM h a y x
    show 0 ≤ psum P a y x + rsum P a y x ∧ psum P a y x + rsum P a y x ≤ ((y + 1 : Nat) : Int) * (x * M)
    have e : ((y + 1 : Nat) : Int) * (x * M) = y * (x * M) + x * M := by rw [Int.natCast_succ, Int.add_mul, Int.one_mul]
    omega
theorem small_mul {x : Nat} {M : Int} {k : Int} (hx : x ≤ 65) (hM : 0 ≤ M) (hk : M ≤ k) : x * M ≤ 65 * k := by
  have h1 : (x : Int) * M ≤ 65 * M := Int.mul_le_mul_of_nonneg_right (by omega) hM
  omega
theorem rsum_small {P : List Int} {M : Int} (hM : 0 ≤ M ∧ M ≤ 65535) (h : ∀ g ∈ P, 0 ≤ g ∧ g ≤ M) (a y : Nat) {x : Nat} (hx : x ≤ 65) : 0 ≤ rsum P a y x ∧ rsum P a y x ≤ 4259775 := by
  have := rsum_bounds hM.1 h a y x
  have := small_mul hx hM.1 hM.2
  omega
theorem psum_small {P : List Int} {M : Int} (hM : 0 ≤ M ∧ M ≤ 65535) (h : ∀ g ∈ P, 0 ≤ g ∧ g ≤ M) (a : Nat) {y x : Nat} (hx : x ≤ 65) (hy : y ≤ 65) : 0 ≤ psum P a y x ∧ psum P a y x ≤ 276885375 := by
  have := psum_bounds hM.1 h a y x
  have h1 := small_mul hx hM.1 hM.2
  have h2 : 0 ≤ (x : Int) * M := Int.mul_nonneg (by omega) hM.1
  have := small_mul hy h2 h1
  omega

/-- A row of a table. -/
def rowV (a g : Nat) : Value := .slice (some ⟨g, 0, none⟩) (a + 1) (a + 1)
/-- A table of b + 1 rows, of which those in the blocks G are made. -/
def TB (w : World) (T a b : Nat) (G : List Nat) : Prop := G.length ≤ b + 1 ∧ w.heap[T]? = some (.cells (G.map (rowV a) ++ List.replicate (b + 1 - G.length) (Value.slice none 0 0)).toArray 35 (0, 0))
section
variable {w w' : World} {T a b : Nat} {G : List Nat}
theorem TB.lt (h : TB w T a b G) : T < w.heap.size := (Array.getElem?_eq_some_iff.1 h.2).1
theorem TB.keep (h : TB w T a b G) (hk : w'.heap[T]? = w.heap[T]?) : TB w' T a b G := ⟨h.1, hk.trans h.2⟩
theorem TB.alloc (h : TB w T a b G) (o : Obj) : TB (w.alloc o) T a b G := h.keep (Below.heap_alloc w o T h.lt)
theorem TB.below (h : TB w T a b G) {B : Nat} (hb : Below B w w') (hT : T < B) : TB w' T a b G := h.keep (hb.block T hT)
theorem TB.far (h : TB w T a b G) {p : Addr} (hp : T ≠ p.block) (u : Value) : TB (w.setCell p u) T a b G := h.keep (Below.heap_setCell w p u T hp)
theorem TB.new (w : World) (a b : Nat) : TB (w.alloc (.cells (List.replicate (b + 1) (Value.slice none 0 0)).toArray 35)) w.heap.size a b [] := ⟨by simp, heap_alloc_new w _⟩
theorem TB.new1 (w : World) (a b g : Nat) : TB (w.alloc (.cells ((List.replicate (b + 1) (Value.slice none 0 0)).toArray.setIfInBounds 0 (rowV a g)) 35)) w.heap.size a b [g] := by
  refine ⟨by simp, ?_⟩
  rw [heap_alloc_new w _, List.setIfInBounds_toArray, List.replicate_succ, List.set_cons_zero]
  simp
theorem TB.cell (h : TB w T a b G) {j : Nat} (hj : j < G.length) : w.cell? ⟨T, j, none⟩ = some (rowV a G[j]) := by
  rw [cell_of_row w T j _ _ _ h.2]
  simp only [List.getElem?_toArray]
  rw [List.getElem?_append_left (by rw [List.length_map]; exact hj), List.getElem?_map, List.getElem?_eq_getElem hj]
  rfl
theorem TB.cellNone (h : TB w T a b G) (hj : G.length < b + 1) : w.cell? ⟨T, G.length, none⟩ = some (.slice none 0 0) := by
  rw [cell_of_row w T _ _ _ _ h.2]
  simp only [List.getElem?_toArray]
  rw [List.getElem?_append_right (by rw [List.length_map]; omega), List.length_map, List.getElem?_replicate, if_pos (by omega)]
theorem TB.frozen (h : TB w T a b G) (i : Nat) : w.frozen? ⟨T, i, none⟩ = false := frozen_of_row w T i _ _ h.2
theorem TB.push (h : TB w T a b G) (hj : G.length < b + 1) (g : Nat) {i : Nat} (hi : i = G.length) : TB (w.setCell ⟨T, i, none⟩ (rowV a g)) T a b (G ++ [g]) := by
  subst hi
  refine ⟨by simp; omega, ?_⟩
  rw [heap_setCell_same w T G.length _ _ (rowV a g) h.2, List.setIfInBounds_toArray, List.set_append_right _ _ (by rw [List.length_map]; omega), List.length_map, Nat.sub_self, List.length_append, List.length_cons, List.length_nil, List.map_append, List.map_cons, List.map_nil, List.append_assoc]
  have e : b + 1 - G.length = (b + 1 - (G.length + 1)) + 1 := by omega
  rw [e, List.replicate_succ, List.set_cons_zero]
  simp
end

theorem infoS : (Try.prog.info? 35).map (fun i => (i.zero, i.size, i.bytes)) = some (some (.slice none 0 0), 1, 24) := by kernel_rfl
/-- make([][]int, n). -/
theorem run_make_rows (k1 k2 : IntKind) (u : Int) (n : Nat) (hu : u = (n : Int)) (hn : n ≤ 1000000) (W : World) :
    (Instr.makeSlice 74 (.int k1 u) (.int k2 u)).run Try.prog W = .ok (.slice (some ⟨W.heap.size, 0, none⟩) n n) (W.alloc (.cells (List.replicate n (Value.slice none 0 0)).toArray 35)) := by
  obtain ⟨i0, hi, hz0, hz1, hz2⟩ := info_parts infoS
  have := run_make (P := Try.prog) W 74 35 i0 (.slice none 0 0) Try.underlying74 hi hz0 k1 k2 u u (by omega) (Int.le_refl _) (by rw [hz2]; omega) (by omega)
  rw [this, hu]
  simp only [Int.toNat_natCast, hz1, Nat.mul_one]
  have e : (Value.slice none 0 0).cells = #[.slice none 0 0] := rfl
  rw [e, madeCells_i64]

/-- The rows of a table that are done: their blocks lie from B on, and are not T. -/
def Rows (w : World) (B T a : Nat) (P : List Int) (G : List Nat) : Prop := ∀ j (h : j < G.length), B ≤ G[j] ∧ G[j] ≠ T ∧ Bl w G[j] (tab (a + 1) (psum P a j))
section
variable {w w' : World} {B T a : Nat} {P : List Int} {G : List Nat}
theorem Rows.keep (h : Rows w B T a P G) (hk : ∀ j (h : j < G.length), w'.heap[G[j]]? = w.heap[G[j]]?) : Rows w' B T a P G := fun j hj => by
  obtain ⟨h1, h2, h3⟩ := h j hj
  exact ⟨h1, h2, h3.keep (hk j hj)⟩
theorem Rows.alloc (h : Rows w B T a P G) (o : Obj) : Rows (w.alloc o) B T a P G := h.keep fun j hj => Below.heap_alloc w o _ (h j hj).2.2.lt
theorem Rows.below (h : Rows w B T a P G) (hb : Below w.heap.size w w') : Rows w' B T a P G := h.keep fun j hj => hb.block _ (h j hj).2.2.lt
theorem Rows.far (h : Rows w B T a P G) {p : Addr} (hp : ∀ j (h : j < G.length), G[j] ≠ p.block) (u : Value) : Rows (w.setCell p u) B T a P G := h.keep fun j hj => Below.heap_setCell w p u _ (hp j hj)
theorem Rows.push (h : Rows w B T a P G) {g : Nat} (hB : B ≤ g) (hT : g ≠ T) (hb : Bl w g (tab (a + 1) (psum P a G.length))) : Rows w B T a P (G ++ [g]) := fun j hj => by
  by_cases e : j < G.length
  · rw [List.getElem_append_left e]; exact h j e
  · have : j = G.length := by simp at hj; omega
    subst this
    rw [List.getElem_append_right (Nat.le_refl _)]
    simp only [Nat.sub_self, List.getElem_cons_zero]
    exact ⟨hB, hT, hb⟩
end

/-- The table of the sums, and OK. -/
def RetT (w : World) (a b : Nat) (P : List Int) (e : Ending) (w' : World) : Prop :=
  ∃ T G, e = .returned (.tuple #[.slice (some ⟨T, 0, none⟩) (b + 1) (b + 1), .int .i64 0]) ∧ TB w' T a b G ∧ G.length = b + 1 ∧ w.heap.size ≤ T ∧ Rows w' w.heap.size T a P G ∧ Below w.heap.size w w'

theorem Integral_no (W H M : Int) (A : Option Addr) (n c : Nat) (P : List Int) (w : World) (h : Sl w A n c P) (hr : ¬ Ras W H M P) :
    Calls Try.prog 55 #[.agg #[.int .i64 W, .int .i64 H, .int .i64 M, .slice A n c]] w fun e w' => e = .returned (.tuple #[.slice none 0 0, .int .i64 1]) ∧ Below w.heap.size w w' := by
  have hb := (Below.refl w.heap.size w).alloc (Nat.le_refl _) (.cells #[.int .i64 W, .int .i64 H, .int .i64 M, .slice A n c] 37)
  have hs := h.alloc (.cells #[.int .i64 W, .int .i64 H, .int .i64 M, .slice A n c] 37)
  have hck := Lib.hid (Check_no hs hr)
  clear h hs hr
  go_enter Try.func55, Try.ntmps55
  go_wp2_with (go_at_call 50; refine (hck.out).mono ?_; rintro e w1 ⟨rfl, hb2⟩)
  go_ret2
  exact ⟨rfl, hb.trans (hb2.mono (by simp))⟩

/-- What holds at the head of Integral's outer loop: y rows of the raster are summed. -/
structure TI (w wr : World) (T bb off n c a b : Nat) (M : Int) (P : List Int) (G : List Nat) (y : Nat) : Prop where
  k0 : RB wr w.heap.size a b M (some ⟨bb, off, none⟩) n c
  sl : Sl wr (some ⟨bb, off, none⟩) n c P
  tb : TB wr T a b G
  len : G.length = y + 1
  rows : Rows wr (w.heap.size + 1) T a P G
  below : Below w.heap.size w wr
  tlo : w.heap.size < T
  bbl : bb < w.heap.size
section
variable {w wr w1 : World} {T bb off n c a b : Nat} {M : Int} {P : List Int} {G : List Nat} {y y' : Nat}
theorem TI.later (h : TI w wr T bb off n c a b M P G y) (hb : Below wr.heap.size wr w1) : TI w w1 T bb off n c a b M P G y :=
  ⟨h.k0.below hb h.k0.lt, h.sl.below hb (Nat.le_refl _), h.tb.below hb h.tb.lt, h.len, h.rows.below hb, h.below.trans (hb.mono h.below.size), h.tlo, h.bbl⟩
end

/-- What holds at the head of the inner loop: x numbers of the next row are made, which lies in the block g. -/
structure UI (w wr : World) (T bb off n c a b : Nat) (M : Int) (P : List Int) (G : List Nat) (y g : Nat) (L : List Int) (x : Nat) : Prop where
  k0 : RB wr w.heap.size a b M (some ⟨bb, off, none⟩) n c
  sl : Sl wr (some ⟨bb, off, none⟩) n c P
  tb : TB wr T a b (G ++ [g])
  len : G.length = y + 1
  rows : Rows wr (w.heap.size + 1) T a P G
  bl : Bl wr g L
  fill : Fill (psum P a (y + 1)) (a + 1) (x + 1) L
  below : Below w.heap.size w wr
  tlo : w.heap.size < T
  bbl : bb < w.heap.size
  glo : w.heap.size < g
  gT : g ≠ T
  gG : ∀ j (h : j < G.length), G[j] ≠ g
section
variable {w wr w1 : World} {T bb off n c a b : Nat} {M : Int} {P : List Int} {G : List Nat} {y g : Nat} {L : List Int} {x : Nat}
theorem TI.start (h : TI w wr T bb off n c a b M P G y) (hy : y < b) {CI : Array Value} (hCI : (cells (List.replicate (a + 1) 0)).toArray = CI) :
    UI w ((wr.setCell ⟨T, y + 1, none⟩ (.slice (some ⟨wr.heap.size, 0, none⟩) (a + 1) (a + 1))).alloc (.cells CI 3)) T bb off n c a b M P G y wr.heap.size (List.replicate (a + 1) 0) 0 := by
  have h1 := h.tlo
  have h2 := h.bbl
  have h3 := h.k0.lt
  have h4 := h.tb.lt
  subst hCI
  refine ⟨(h.k0.far (by simp; omega) _).alloc _, ?_, (h.tb.push (by rw [h.len]; omega) wr.heap.size h.len.symm).alloc _, h.len, (h.rows.far (fun j hj => (h.rows j hj).2.1) _).alloc _, ?_, ⟨by simp, fun i hi => ?_⟩, (h.below.setCell (by simp; omega) _).alloc (by simpa using h.below.size) _, h1, h2, by omega, by omega, fun j hj e => ?_⟩
  · refine Sl.alloc ?_ _
    exact h.sl.keep fun _ b' j ⟨off', e⟩ _ => World.cell?_setCell_other _ _ _ _ (fun e2 => by cases e; cases e2; omega)
  · have := Bl.new (wr.setCell ⟨T, y + 1, none⟩ (.slice (some ⟨wr.heap.size, 0, none⟩) (a + 1) (a + 1))) (List.replicate (a + 1) 0)
    simpa using this
  · obtain rfl : i = 0 := by omega
    rw [psum_zero]
    simp [nth, List.getD]
  · have := (h.rows j hj).2.2.lt
    omega
theorem UI.later (h : UI w wr T bb off n c a b M P G y g L x) (hb : Below wr.heap.size wr w1) : UI w w1 T bb off n c a b M P G y g L x :=
  ⟨h.k0.below hb h.k0.lt, h.sl.below hb (Nat.le_refl _), h.tb.below hb h.tb.lt, h.len, h.rows.below hb, h.bl.below hb h.bl.lt, h.fill, h.below.trans (hb.mono h.below.size), h.tlo, h.bbl, h.glo, h.gT, h.gG⟩
theorem UI.drewN (h : UI w wr T bb off n c a b M P G y g L x) (k : Nat) : UI w (wr.drewN k) T bb off n c a b M P G y g L x := h.later (below_drewN (Below.refl _ _) k)
theorem UI.step (h : UI w wr T bb off n c a b M P G y g L x) (hx : x < a) {v : Int} (hv : psum P a (y + 1) (x + 1) = v) : UI w (wr.setCell ⟨g, x + 1, none⟩ (.int .i64 v)) T bb off n c a b M P G y g (L.set (x + 1) v) (x + 1) := by
  have h1 := h.glo
  have h2 := h.bbl
  refine ⟨h.k0.far (by simp; omega) _, ?_, h.tb.far (Ne.symm h.gT) _, h.len, h.rows.far h.gG _, h.bl.set _ _, h.fill.step (by omega) hv.symm, h.below.setCell (by simp; omega) _, h.tlo, h2, h1, h.gT, h.gG⟩
  exact h.sl.keep fun _ b' j ⟨off', e⟩ _ => World.cell?_setCell_other _ _ _ _ (fun e2 => by cases e; cases e2; omega)
theorem UI.done (h : UI w wr T bb off n c a b M P G y g L a) : TI w wr T bb off n c a b M P (G ++ [g]) (y + 1) := by
  refine ⟨h.k0, h.sl, h.tb, by simp [h.len], h.rows.push h.glo h.gT ?_, h.below, h.tlo, h.bbl⟩
  rw [h.len, ← h.fill.done]
  exact h.bl
end

set_option maxRecDepth 100000 in
set_option maxHeartbeats 6400000 in
theorem Integral_yes (W H M : Int) (A : Option Addr) (n c : Nat) (P : List Int) (w : World) (h : Sl w A n c P) (hr : Ras W H M P) :
    Calls Try.prog 55 #[.agg #[.int .i64 W, .int .i64 H, .int .i64 M, .slice A n c]] w (RetT w W.toNat H.toNat P) := by
  have hb0 := (Below.refl w.heap.size w).alloc (Nat.le_refl _) (.cells #[.int .i64 W, .int .i64 H, .int .i64 M, .slice A n c] 37)
  have hs := h.alloc (.cells #[.int .i64 W, .int .i64 H, .int .i64 M, .slice A n c] 37)
  have k0 := RB.new w W H M A n c
  have hck := Lib.hid (Check_ok hs hr)
  have hgr := Lib.hid hr.2.2
  obtain ⟨a, b, rfl, rfl, ⟨ha1, ha2⟩, ⟨hb1, hb2⟩, ⟨hM1, hM2⟩, hab, hl1, hl2⟩ := hr.nat
  have hnP := hs.len
  obtain ⟨bb, off, rfl, hbbw, -⟩ := h.at_ (by rw [h.len]; exact hl2)
  simp only [Int.toNat_natCast]
  have hncap := hs.le_cap
  have hccap := hs.cap_le
  have hfin : Hid (b * a = n) := Lib.hid (by rw [hnP, hab, Nat.mul_comm])
  have hn4 : n ≤ 4096 := by omega
  have hmkR := run_make_rows .i64 .i64 ((b : Int) + 1) (b + 1) (by omega) (by omega)
  have hmkI := run_make_i64 .i64 .i64 ((a : Int) + 1) (a + 1) (by omega) (by omega)
  have htb := Lib.hid (fun W : World => TB.new W a b)
  have hbl := Lib.hid (fun W : World => Bl.new W (List.replicate (a + 1) 0))
  have htb1 := Lib.hid (fun (W : World) (g : Nat) => TB.new1 W a b g)
  obtain ⟨CR, hCR⟩ : ∃ C, (List.replicate (b + 1) (Value.slice none 0 0)).toArray = C := ⟨_, rfl⟩
  obtain ⟨CI, hCI⟩ : ∃ C, (cells (List.replicate (a + 1) 0)).toArray = C := ⟨_, rfl⟩
  rw [hCR] at hmkR htb htb1
  rw [hCI] at hmkI hbl
  replace hCR := Lib.hid hCR
  replace hCI := Lib.hid hCI
  clear hr hab hnP hl1 hl2 h
  go_enter Try.func55, Try.ntmps55
  go_wp2_with (go_at_call 50; refine (hck.out).mono ?_; rintro e w1 ⟨rfl, hb3⟩; simp only [World.size_alloc] at hb3; replace k0 := k0.below hb3 (by omega); replace hs := hs.below hb3 (by simp); have hsz1 := hb3.size; simp only [World.size_alloc] at hsz1; replace hb0 := hb0.trans (hb3.mono (by omega)); clear hb3; have k2 := k0.alloc (.cells CR 35); have k3 := k2.alloc (.cells CI 3); have k4 := (k0.alloc (.cells (CR.setIfInBounds 0 (.slice (some ⟨w1.heap.size + 1, 0, none⟩) (a + 1) (a + 1))) 35)).alloc (.cells CI 3); have tb4 := (htb1.out w1 (w1.heap.size + 1)).alloc (.cells CI 3); have tb3 := (htb.out w1).alloc (.cells CI 3); have tc := tb3.cellNone (by simp); have tf := tb3.frozen 0; obtain ⟨⟨d0, d1, d2, d3⟩, f0, f1, f2, f3⟩ := k0.cells; obtain ⟨⟨d4, d5, d6, d7⟩, f4, f5, f6, f7⟩ := k2.cells; obtain ⟨⟨d8, d9, d10, d11⟩, f8, f9, f10, f11⟩ := k3.cells; obtain ⟨⟨d12, d13, d14, d15⟩, f12, f13, f14, f15⟩ := k4.cells; simp only [List.length_nil] at tc)
  simp only [rowV] at tb4
  have hTw : w.heap.size < w1.heap.size := by omega
  have hbl4 := hbl.out (w1.alloc (.cells (CR.setIfInBounds 0 (.slice (some ⟨w1.heap.size + 1, 0, none⟩) (a + 1) (a + 1))) 35))
  simp only [World.size_alloc] at hbl4
  have I0 : TI w ((w1.alloc (.cells (CR.setIfInBounds 0 (.slice (some ⟨w1.heap.size + 1, 0, none⟩) (a + 1) (a + 1))) 35)).alloc (.cells CI 3)) w1.heap.size bb off n c a b M P [w1.heap.size + 1] 0 := by
    refine ⟨k4, (hs.alloc _).alloc _, tb4, rfl, ?_, (hb0.alloc hb0.size _).alloc (by simp; omega) _, hTw, hbbw⟩
    intro j hj
    obtain rfl : j = 0 := by simp at hj; exact hj
    refine ⟨by simp; omega, by simp, ?_⟩
    have e : tab (a + 1) (psum P a 0) = List.replicate (a + 1) 0 := nth_ext (by rw [tab_length]; simp) fun i hi => by
      rw [tab_length] at hi
      rw [nth_tab hi]
      simp [psum, nth, List.getD, hi]
    rw [e]
    exact hbl4
  clear k0 k2 k3 k4 tb3 tb4 tc tf hs hb0 hbl4 htb htb1 hmkR hck d0 d1 d2 d3 d4 d5 d6 d7 d8 d9 d10 d11 d12 d13 d14 d15 f0 f1 f2 f3 f4 f5 f6 f7 f8 f9 f10 f11 f12 f13 f14 f15
  go_loopw [27] (fun i wr => ∃ (y : Nat) (G : List Nat), y ≤ b ∧ i = .int .i64 (y : Int) ∧ TI w wr w1.heap.size bb off n c a b M P G y) (fun i _ => b - (intOf i).toNat)
  case atStart => exact ⟨0, _, Nat.zero_le _, rfl, I0⟩
  case round =>
    clear I0
    obtain ⟨wo, rfl⟩ : ∃ wo : World, wo = wr := ⟨_, rfl⟩
    obtain ⟨y, G, hy, rfl, I⟩ := hrel
    obtain ⟨⟨d0, d1, d2, d3⟩, f0, f1, f2, f3⟩ := I.k0.cells
    by_cases hlt : y < b
    · have hTr := I.tb.lt
      have hkr := I.k0.lt
      have tc := (I.tb.alloc (.cells CI 3)).cellNone (by rw [I.len]; omega)
      have tf := (I.tb.alloc (.cells CI 3)).frozen (y + 1)
      rw [I.len] at tc
      have I1 := I.tb.alloc (.cells CI 3)
      have U := I.start hlt hCI.out
      have dU := U.k0.cells
      obtain ⟨⟨e0, e1, e2, e3⟩, -⟩ := dU
      obtain ⟨q, hq⟩ : ∃ q, y * a = q := ⟨_, rfl⟩
      have hl1' : q + a ≤ n := by rw [← hq, ← hfin.out]; exact row_le hlt
      have hq' := Lib.hid hq
      clear hq I1
      go_wp2_with (go_at_call 67; refine (row_at y q rfl hncap hccap hq'.out.symm (by omega) hl1' (by omega) (by omega)).mono ?_; rintro e w2 ⟨rfl, hb5⟩)
      replace U := U.later hb5
      clear I tc tf d0 d1 d2 d3 f0 f1 f2 f3 e0 e1 e2 e3 hb5
      go_loopw [7, 42] (fun s i wr2 => ∃ (x : Nat) (L : List Int), x ≤ a ∧ s = .int .i64 (rsum P a y x) ∧ i = .int .i64 (x : Int) ∧ UI w wr2 w1.heap.size bb off n c a b M P G y wo.heap.size L x) (fun _ i _ => a - (intOf i).toNat)
      case atStart => exact ⟨0, _, Nat.zero_le _, rfl, rfl, U⟩
      case round =>
        clear U
        obtain ⟨x, L, hx, rfl, rfl, U⟩ := hrel
        obtain ⟨s, hs0⟩ : ∃ s, rsum P a y x = s := ⟨_, rfl⟩
        have hsb := rsum_small ⟨by omega, hM2⟩ hgr.out a y (x := x) (by omega)
        rw [hs0] at hsb
        rw [hs0]
        by_cases hltx : x < a
        · obtain ⟨v, hv⟩ : ∃ v, nth P (q + x) = v := ⟨_, rfl⟩
          have hvb := nth_bounds (by omega) hgr.out (q + x)
          rw [hv] at hvb
          obtain ⟨t, ht⟩ : ∃ t, psum P a y (x + 1) = t := ⟨_, rfl⟩
          have htb := psum_small ⟨by omega, hM2⟩ hgr.out a (x := x + 1) (y := y) (by omega) (by omega)
          rw [ht] at htb
          have hs1 : rsum P a y (x + 1) = s + v := by show rsum P a y x + nth P (y * a + x) = _; rw [hs0, hq'.out, hv]
          have ht1 : psum P a (y + 1) (x + 1) = t + (s + v) := by show psum P a y (x + 1) + rsum P a y (x + 1) = _; rw [ht, hs1]
          obtain ⟨bb', off', e, hbbl, hcc⟩ := U.sl.at_ (by omega)
          cases e
          have hpix := hcc (q + x) (by omega)
          rw [hv, ← Nat.add_assoc] at hpix
          have hlen := U.len
          have hT1 := U.tb.cell (j := y) (by simp; omega)
          rw [List.getElem_append_left (by omega)] at hT1
          have hT2 := U.tb.cell (j := y + 1) (by simp; omega)
          rw [List.getElem_append_right (by omega)] at hT2
          simp only [hlen, Nat.sub_self, List.getElem_cons_zero, rowV] at hT1 hT2
          have hrw := U.rows y (by omega)
          have hgGy := U.gG y (by omega)
          obtain ⟨gy, hgy⟩ : ∃ gy, G[y]'(by omega) = gy := ⟨_, rfl⟩
          rw [hgy] at hT1 hrw hgGy
          have hcell := hrw.2.2.cell (i := x + 1) (by rw [tab_length]; omega)
          rw [nth_tab (by omega), ht] at hcell
          have htc := U.bl.cell (i := x + 1) (by rw [U.fill.1]; omega)
          obtain ⟨u, hu⟩ : ∃ u, nth L (x + 1) = u := ⟨_, rfl⟩
          rw [hu] at htc
          have htf := U.bl.frozen (x + 1)
          have hgT := U.gT
          have hn2 : w1.heap.size ≠ wo.heap.size := Ne.symm hgT
          have hn3 : gy ≠ wo.heap.size := hgGy
          have i1 : IntKind.i64.wrap ((y : Int) + 1) = (y : Int) + 1 := IntWalk.i64_in _ (by omega)
          have i2 : IntKind.i64.wrap ((x : Int) + 1) = (x : Int) + 1 := IntWalk.i64_in _ (by omega)
          have i3 : IntKind.i64.wrap (t + (s + v)) = t + (s + v) := IntWalk.i64_in _ (by omega)
          have i4 : (0 : Int) ≤ (y : Int) + 1 := by omega
          have i5 : (0 : Int) ≤ (x : Int) + 1 := by omega
          have i6 : ((y : Int) + 1).toNat = y + 1 := by omega
          have i7 : ((x : Int) + 1).toNat = x + 1 := by omega
          have i8 : (y : Int) + 1 < (b : Int) + 1 := by omega
          have i9 : (x : Int) + 1 < (a : Int) + 1 := by omega
          have i10 : (0 : Int) ≤ (y : Int) := by omega
          have i11 : (y : Int) < (b : Int) + 1 := by omega
          replace hs1 := Lib.hid hs1
          replace ht1 := Lib.hid ht1
          replace hs0 := Lib.hid hs0
          replace ht := Lib.hid ht
          replace hv := Lib.hid hv
          replace hu := Lib.hid hu
          replace hgy := Lib.hid hgy
          replace hlen := Lib.hid hlen
          have keepS : ∀ w', Only wr w' wo.heap.size → w'.cell? ⟨w1.heap.size, y, none⟩ = some (.slice (some ⟨gy, 0, none⟩) (a + 1) (a + 1)) ∧ w'.cell? ⟨w1.heap.size, y + 1, none⟩ = some (.slice (some ⟨wo.heap.size, 0, none⟩) (a + 1) (a + 1)) ∧ w'.cell? ⟨gy, x + 1, none⟩ = some (.int .i64 t) := fun w' ho => ⟨(World.cell?_of_block (ho.block w1.heap.size U.tb.lt (fun e => hn2 (by injection e)))).trans hT1, (World.cell?_of_block (ho.block w1.heap.size U.tb.lt (fun e => hn2 (by injection e)))).trans hT2, (World.cell?_of_block (ho.block gy hrw.2.2.lt (fun e => hn3 (by injection e)))).trans hcell⟩
          replace keepS := Lib.hid keepS
          clear hcc hrw hgGy hgT
          go_wp2
          go_region_held3 (fun w' => w'.cell? ⟨w1.heap.size, y, none⟩ = some (.slice (some ⟨gy, 0, none⟩) (a + 1) (a + 1)) ∧ w'.cell? ⟨w1.heap.size, y + 1, none⟩ = some (.slice (some ⟨wo.heap.size, 0, none⟩) (a + 1) (a + 1)) ∧ w'.cell? ⟨gy, x + 1, none⟩ = some (.int .i64 t))
            (exact keepS.out _ (by repeat (first | refine Only.drew ?_ | refine Only.setCell ?_ rfl _ | exact Only.refl _ _)))
            (fail)
          go_wp2
          go_roundw
          case rel => exact ⟨x + 1, _, hltx, by rw [hs1.out], by go_num, (U.step hltx ht1.out).drewN 1⟩
          case measure => simp [intOf]; omega
        · obtain rfl : x = a := by omega
          go_wp2
          go_roundw
          case rel => exact ⟨y + 1, _, hlt, by go_num, U.done⟩
          case measure => simp [intOf]; omega
    · obtain rfl : y = b := by omega
      have hgoal : RetT w a y P (.returned (.tuple #[.slice (some ⟨w1.heap.size, 0, none⟩) (y + 1) (y + 1), .int .i64 0])) wo :=
        ⟨_, _, rfl, I.tb, I.len, by omega, fun j hj => by have := I.rows j hj; exact ⟨by omega, this.2⟩, I.below⟩
      replace hgoal := Lib.hid hgoal
      go_wp2
      go_ret2
      exact hgoal.out

end Go.Proofs.Ytonpnjjfidpoiaa
