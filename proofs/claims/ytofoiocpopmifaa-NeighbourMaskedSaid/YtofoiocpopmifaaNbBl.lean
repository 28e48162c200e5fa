/-
  Memory: blocks of numbers that are known whole; worlds that differ in one block; appending one element to a row of one's own.
-/
import Derived.Test.YtofoiocpopmifaaNbMem
set_option linter.unusedSimpArgs false
set_option linter.unusedVariables false
namespace Go.Proofs.Ytofoiocpopmifaa
open Go.RowKit

/-- What lay in the heap lies as it lay, but for one block. -/
abbrev Only (w w' : World) (g : Nat) : Prop := w.grownBy w' (some g)
theorem cells_get (l : List Int) (i : Nat) : (cells l)[i]? = l[i]?.map (Value.int .i64) := by simp [cells]

/-- A block whose first cells are known: they hold the numbers L; what lies behind them is spare. -/
def Bl (w : World) (g : Nat) (L : List Int) : Prop := ∃ T : List Value, w.heap[g]? = some (.cells (cells L ++ T).toArray 3 (0, 0))

section
variable {w w' : World} {A : Option Addr} {n c g : Nat} {l L : List Int}
theorem Bl.lt (h : Bl w g L) : g < w.heap.size := by
  obtain ⟨T, h⟩ := h
  exact (Array.getElem?_eq_some_iff.1 h).1
theorem Bl.cell (h : Bl w g L) {i : Nat} (hi : i < L.length) : w.cell? ⟨g, i, none⟩ = some (.int .i64 (nth L i)) := by
  obtain ⟨T, h⟩ := h
  rw [cell_of_row w g i _ _ _ h]
  have := cells_at hi
  simp only [List.getElem?_toArray]
  rw [List.getElem?_append_left (by rw [cells_length]; exact hi)]
  exact this
theorem Bl.frozen (h : Bl w g L) (i : Nat) : w.frozen? ⟨g, i, none⟩ = false := by
  obtain ⟨T, h⟩ := h
  exact frozen_of_row w g i _ _ h
theorem Bl.keep (h : Bl w g L) (hk : w'.heap[g]? = w.heap[g]?) : Bl w' g L := by
  obtain ⟨T, h⟩ := h
  exact ⟨T, hk.trans h⟩
theorem Bl.new (w : World) (L : List Int) : Bl (w.alloc (.cells (cells L).toArray 3)) w.heap.size L := ⟨[], by rw [List.append_nil]; exact heap_alloc_new w _⟩
theorem Bl.drew (h : Bl w g L) : Bl w.drew g L := h
theorem Bl.drewN (h : Bl w g L) (k : Nat) : Bl (w.drewN k) g L := h
theorem Bl.alloc (h : Bl w g L) (o : Obj) : Bl (w.alloc o) g L := h.keep (Below.heap_alloc w o g h.lt)
theorem Bl.set (h : Bl w g L) (i : Nat) (x : Int) : Bl (w.setCell ⟨g, i, none⟩ (.int .i64 x)) g (L.set i x) := by
  obtain ⟨T, h⟩ := h
  have := heap_setCell_same w g i _ _ (.int .i64 x) h
  by_cases hi : i < L.length
  · refine ⟨T, ?_⟩
    rw [this, cells_set, List.setIfInBounds_toArray, List.set_append_left _ _ (by rw [cells_length]; exact hi)]
  · have e1 : L.set i x = L := List.set_eq_of_length_le (by omega)
    refine ⟨T.set (i - L.length) (.int .i64 x), ?_⟩
    rw [this, List.setIfInBounds_toArray, List.set_append_right _ _ (by rw [cells_length]; omega), cells_length, e1]
theorem Bl.set' (h : Bl w g L) (i : Nat) {x : Int} {u : Int} (hu : u = x) : Bl (w.setCell ⟨g, i, none⟩ (.int .i64 u)) g (L.set i x) := by
  rw [hu]; exact h.set i x
theorem Bl.far (h : Bl w g L) {p : Addr} (hp : g ≠ p.block) (u : Value) : Bl (w.setCell p u) g L := h.keep (Below.heap_setCell w p u g hp)
theorem Bl.below (h : Bl w g L) {B : Nat} (hb : Below B w w') (hg : g < B) : Bl w' g L := h.keep (hb.block g hg)
theorem Bl.only (h : Bl w g L) {g' : Nat} (hb : Only w w' g') (hne : g ≠ g') : Bl w' g L := h.keep (hb.block g h.lt (fun e => hne (by injection e)))

theorem Bl.sr (h : Bl w g L) {off n c : Nat} (hn : off + n ≤ L.length) (hnc : n ≤ c) (hc : c ≤ 9223372036854775807) : SR w (some ⟨g, off, none⟩) n c 1 (cells ((L.drop off).take n)) := by
  refine ⟨by rw [cells_length, List.length_take, List.length_drop]; omega, hnc, hc, fun _ => ⟨g, off, rfl, h.lt, fun j u hj => ?_⟩⟩
  rw [cells_get] at hj
  have hlt : j < n := by
    rcases Nat.lt_or_ge j n with h' | h'
    · exact h'
    · rw [List.getElem?_eq_none (by rw [List.length_take]; omega)] at hj; cases hj
  rw [List.getElem?_take_of_lt hlt, List.getElem?_drop] at hj
  have := h.cell (i := off + j) (by omega)
  rw [this, nth_eq (by omega)]
  rw [List.getElem?_eq_getElem (by omega)] at hj
  exact hj
theorem Only.below {B : Nat} (h : Only w w' g) (hB : B ≤ g) (hs : B ≤ w.heap.size) : Below B w w' :=
  (Below.refl B w).grown h hs (fun k e => by cases e; exact hB)
theorem Only.refl (w : World) (g : Nat) : Only w w g := ⟨rfl, rfl, rfl, Nat.le_refl _, fun _ _ _ => rfl⟩
theorem Only.trans {a b c : World} (h : Only a b g) (k : Only b c g) : Only a c g :=
  ⟨k.os.trans h.os, k.tape.trans h.tape, k.output.trans h.output, Nat.le_trans h.size k.size, fun i hi hne => (k.block i (Nat.lt_of_lt_of_le hi h.size) hne).trans (h.block i hi hne)⟩
theorem Only.setCell {a b : World} (h : Only a b g) {p : Addr} (hp : p.block = g) (u : Value) : Only a (b.setCell p u) g :=
  ⟨h.os, h.tape, h.output, by simpa [World.setCell] using h.size, fun i hi hne => (Below.heap_setCell b p u i (by rintro rfl; exact hne (by rw [hp]))).trans (h.block i hi hne)⟩
theorem Only.alloc {a b : World} (h : Only a b g) (o : Obj) : Only a (b.alloc o) g :=
  ⟨h.os, h.tape, h.output, Nat.le_trans h.size (by simp), fun i hi hne => (Below.heap_alloc b o i (Nat.lt_of_lt_of_le hi h.size)).trans (h.block i hi hne)⟩
theorem Only.drew {a b : World} (h : Only a b g) : Only a b.drew g := ⟨h.os, h.tape, h.output, h.size, h.block⟩
theorem Only.drewN {a b : World} (h : Only a b g) (k : Nat) : Only a (b.drewN k) g := ⟨h.os, h.tape, h.output, h.size, h.block⟩
theorem Only.of_below {a b : World} (h : Below a.heap.size a b) (g : Nat) : Only a b g := ⟨h.os, h.tape, h.output, h.size, fun i hi _ => h.block i hi⟩


/-- Behind a call: whatever was there reads as it did. -/
theorem old3 {a b : World} (h : Below a.heap.size a b) :
    (∀ k o, k < a.heap.size → b.cell? ⟨k, o, none⟩ = a.cell? ⟨k, o, none⟩) ∧ (∀ k o, k < a.heap.size → b.frozen? ⟨k, o, none⟩ = a.frozen? ⟨k, o, none⟩) ∧ a.heap.size ≤ b.heap.size :=
  ⟨fun k o hk => h.cell (p := ⟨k, o, none⟩) hk, fun k o hk => h.frozen (p := ⟨k, o, none⟩) hk, h.size⟩
theorem SR.only {k : Nat} {vs : List Value} (h : SR w A n c k vs) (hg : Only w w' g) (hne : 0 < n → ∀ b off, A = some ⟨b, off, none⟩ → b ≠ g) : SR w' A n c k vs :=
  h.keep hg.size fun h0 b i ⟨off, e⟩ hlt => World.cell?_of_block (hg.block b hlt (fun e' => hne h0 b off e (by injection e')))
theorem WS.only {l : List Nat} (h : WS w A n c l) (hg : Only w w' g) (hne : 0 < n → ∀ b off, A = some ⟨b, off, none⟩ → b ≠ g) : WS w' A n c l := ⟨h.1.only hg hne, h.2⟩
theorem Only.cell {a b : World} (h : Only a b g) {q o : Nat} (hq : q < a.heap.size) (hne : q ≠ g) : b.cell? ⟨q, o, none⟩ = a.cell? ⟨q, o, none⟩ := World.cell?_of_block (h.block q hq (fun e => hne (by injection e)))
end

theorem madeCells_i64 (z : Value) (n : Nat) : madeCells #[z] n = (List.replicate n z).toArray := by
  apply Array.ext'
  simp [madeCells]
  apply List.ext_getElem
  · simp
  · intro i h1 h2
    simp [Nat.mod_one]
theorem cells_replicate (n : Nat) : cells (List.replicate n 0) = List.replicate n (.int .i64 0) := by simp [cells]


end Go.Proofs.Ytofoiocpopmifaa
