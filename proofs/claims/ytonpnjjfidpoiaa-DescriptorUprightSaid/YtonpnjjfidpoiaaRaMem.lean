/-
  Memory: slices of int that read as lists of numbers; blocks that are known whole; integers in memory.
-/
import Derived.WalkKit
import Derived.WalkSpells
import Derived.WalkLawsBesides
import Derived.Deep.Draws
import Derived.Lib.Hide
import Derived.Test.YtonpnjjfidpoiaaRows
set_option linter.unusedSimpArgs false
set_option linter.unusedVariables false
namespace Go.Proofs.Ytonpnjjfidpoiaa
open Go.RowKit

/-- The number at a place of a list (0 behind its end). -/
def nth (l : List Int) (i : Nat) : Int := l.getD i 0
theorem nth_eq {l : List Int} {i : Nat} (h : i < l.length) : nth l i = l[i] := by simp [nth, List.getD, List.getElem?_eq_getElem h]
theorem nth_take {l : List Int} {k i : Nat} (h : i < k) : nth (l.take k) i = nth l i := by simp [nth, List.getD, List.getElem?_take, h]
theorem nth_drop {l : List Int} {k i : Nat} : nth (l.drop k) i = nth l (k + i) := by simp [nth, List.getD, List.getElem?_drop]
theorem nth_set_self {l : List Int} {i : Nat} {x : Int} (h : i < l.length) : nth (l.set i x) i = x := by simp [nth, List.getD, h]
theorem nth_set_ne {l : List Int} {i j : Nat} {x : Int} (h : i ≠ j) : nth (l.set i x) j = nth l j := by simp [nth, List.getD, List.getElem?_set_ne h]
theorem nth_ext {l l' : List Int} (h : l.length = l'.length) (hn : ∀ i, i < l.length → nth l i = nth l' i) : l = l' := by
  apply List.ext_getElem h
  intro i h1 h2
  have := hn i h1
  rwa [nth_eq h1, nth_eq h2] at this

/-- What lay in the heap lies as it lay, but for one block. -/
abbrev Only (w w' : World) (g : Nat) : Prop := w.grownBy w' (some g)

def cells (l : List Int) : List Value := l.map (Value.int .i64)

theorem cells_get (l : List Int) (i : Nat) : (cells l)[i]? = l[i]?.map (Value.int .i64) := by simp [cells]
theorem cells_at {l : List Int} {i : Nat} (h : i < l.length) : (cells l)[i]? = some (.int .i64 (nth l i)) := by
  rw [cells_get, List.getElem?_eq_getElem h, nth_eq h]; rfl
theorem cells_length (l : List Int) : (cells l).length = l.length := by simp [cells]
theorem cells_set (l : List Int) (i : Nat) (x : Int) : cells (l.set i x) = (cells l).set i (.int .i64 x) := by simp [cells, List.map_set]
theorem cells_append (a b : List Int) : cells (a ++ b) = cells a ++ cells b := by simp [cells]
theorem cells_one {l : List Int} : ∀ u ∈ cells l, u.oneCell' = true := fun u hu => by
  obtain ⟨d, _, rfl⟩ := List.mem_map.1 hu; rfl

/-- A slice value reads as a list of numbers (nil and empty ones let in). -/
def Sl (w : World) (A : Option Addr) (n c : Nat) (l : List Int) : Prop :=
  n = l.length ∧ n ≤ c ∧ c ≤ 9223372036854775807 ∧
    (0 < n → ∃ b off, A = some ⟨b, off, none⟩ ∧ ∀ i, i < n → w.cell? ⟨b, off + i, none⟩ = some (.int .i64 (nth l i)))

/-- A block whose first cells are known: they hold the numbers L; what lies behind them is spare. -/
def Bl (w : World) (g : Nat) (L : List Int) : Prop := ∃ T : List Value, w.heap[g]? = some (.cells (cells L ++ T).toArray 3 (0, 0))

/-- A slice of the call's own: its block is known whole, from B on. -/
def Fr (w : World) (B : Nat) (A : Option Addr) (n c : Nat) (l : List Int) : Prop :=
  n = l.length ∧ n ≤ c ∧ c ≤ 9223372036854775807 ∧
    (0 < n → ∃ g off L, A = some ⟨g, off, none⟩ ∧ B ≤ g ∧ Bl w g L ∧ off + n ≤ L.length ∧ (L.drop off).take n = l)

section
variable {w w' : World} {A : Option Addr} {n c g : Nat} {l L : List Int}

theorem Sl.len (h : Sl w A n c l) : n = l.length := h.1
theorem Sl.le_cap (h : Sl w A n c l) : n ≤ c := h.2.1
theorem Sl.cap_le (h : Sl w A n c l) : c ≤ 9223372036854775807 := h.2.2.1
theorem Sl.nil (w : World) : Sl w none 0 0 [] := ⟨rfl, Nat.le_refl _, by omega, fun h => by omega⟩
theorem Sl.at_ (h : Sl w A n c l) (h0 : 0 < n) : ∃ b off, A = some ⟨b, off, none⟩ ∧ b < w.heap.size ∧ ∀ i, i < n → w.cell? ⟨b, off + i, none⟩ = some (.int .i64 (nth l i)) := by
  obtain ⟨b, off, e, hc⟩ := h.2.2.2 h0
  exact ⟨b, off, e, World.block_lt_of_cell? w _ (hc 0 h0), hc⟩
theorem Sl.keep (h : Sl w A n c l) (hk : 0 < n → ∀ b i, (∃ off, A = some ⟨b, off, none⟩) → b < w.heap.size → w'.cell? ⟨b, i, none⟩ = w.cell? ⟨b, i, none⟩) : Sl w' A n c l :=
  ⟨h.1, h.2.1, h.2.2.1, fun h0 => by
    obtain ⟨b, off, e, hb, hc⟩ := h.at_ h0
    exact ⟨b, off, e, fun i hi => (hk h0 b _ ⟨off, e⟩ hb).trans (hc i hi)⟩⟩
theorem Sl.below (h : Sl w A n c l) {B : Nat} (hb : Below B w w') (hB : w.heap.size ≤ B) : Sl w' A n c l :=
  h.keep fun _ b i _ hlt => hb.cell (p := ⟨b, i, none⟩) (Nat.lt_of_lt_of_le hlt hB)
theorem Sl.below' (h : Sl w A n c l) {B : Nat} (hb : Below B w w') (hB : 0 < n → ∀ b off, A = some ⟨b, off, none⟩ → b < B) : Sl w' A n c l :=
  h.keep fun h0 b i ⟨off, e⟩ _ => hb.cell (p := ⟨b, i, none⟩) (hB h0 b off e)
theorem Sl.only (h : Sl w A n c l) (hg : Only w w' g) (hne : 0 < n → ∀ b off, A = some ⟨b, off, none⟩ → b ≠ g) : Sl w' A n c l :=
  h.keep fun h0 b i ⟨off, e⟩ hlt => World.cell?_of_block (hg.block b hlt (fun e' => hne h0 b off e (by injection e')))
theorem Sl.old (h : Sl w A n c l) : 0 < n → ∀ b off, A = some ⟨b, off, none⟩ → b < w.heap.size := fun h0 b off e => by
  obtain ⟨b', off', e', hb, _⟩ := h.at_ h0
  rw [e] at e'
  cases e'
  exact hb
theorem Sl.alloc (h : Sl w A n c l) (o : Obj) : Sl (w.alloc o) A n c l :=
  h.keep fun _ b i _ hlt => World.cell?_alloc_lt w o ⟨b, i, none⟩ hlt
theorem Sl.drew (h : Sl w A n c l) : Sl w.drew A n c l := h
theorem Sl.drewN (h : Sl w A n c l) (k : Nat) : Sl (w.drewN k) A n c l := h
theorem Sl.take (h : Sl w A n c l) {k c' : Nat} (hk : k ≤ n) (hkc : k ≤ c') (hc : c' ≤ c) : Sl w A k c' (l.take k) := by
  refine ⟨by rw [List.length_take, ← h.1]; omega, hkc, by have := h.cap_le; omega, fun h0 => ?_⟩
  obtain ⟨b, off, e, _, hcell⟩ := h.at_ (by omega)
  exact ⟨b, off, e, fun i hi => by rw [nth_take (by omega)]; exact hcell i (by omega)⟩
theorem Sl.drop (h : Sl w A n c l) {k : Nat} (hk : k ≤ n) : Sl w (if c = k then A else A.map (·.add k)) (n - k) (c - k) (l.drop k) := by
  refine ⟨by rw [List.length_drop, ← h.1], by have := h.le_cap; omega, by have := h.cap_le; omega, fun h0 => ?_⟩
  obtain ⟨b, off, rfl, _, hcell⟩ := h.at_ (by omega)
  have := h.le_cap
  rw [if_neg (by omega)]
  refine ⟨b, off + k, ?_, fun i hi => ?_⟩
  · simp only [Option.map_some, Addr.add]
    split
    · subst k; simp
    · rfl
  · rw [nth_drop, Nat.add_assoc]; exact hcell _ (by omega)

theorem Bl.lt (h : Bl w g L) : g < w.heap.size := by
  obtain ⟨T, h⟩ := h
  exact (Array.getElem?_eq_some_iff.1 h).1
theorem Bl.cell (h : Bl w g L) {i : Nat} (hi : i < L.length) : w.cell? ⟨g, i, none⟩ = some (.int .i64 (nth L i)) := by
  obtain ⟨T, h⟩ := h
  rw [cell_of_row w g i _ _ _ h]
  have := cells_at hi
  simp only [List.getElem?_toArray]
  rw [List.getElem?_append_left (by rw [cells_length]; exact hi)]
  exact this
theorem Bl.frozen (h : Bl w g L) (i : Nat) : w.frozen? ⟨g, i, none⟩ = false := by
  obtain ⟨T, h⟩ := h
  exact frozen_of_row w g i _ _ h
theorem Bl.keep (h : Bl w g L) (hk : w'.heap[g]? = w.heap[g]?) : Bl w' g L := by
  obtain ⟨T, h⟩ := h
  exact ⟨T, hk.trans h⟩
theorem Bl.new (w : World) (L : List Int) : Bl (w.alloc (.cells (cells L).toArray 3)) w.heap.size L := ⟨[], by rw [List.append_nil]; exact heap_alloc_new w _⟩
theorem Bl.drew (h : Bl w g L) : Bl w.drew g L := h
theorem Bl.drewN (h : Bl w g L) (k : Nat) : Bl (w.drewN k) g L := h
theorem Bl.alloc (h : Bl w g L) (o : Obj) : Bl (w.alloc o) g L := h.keep (Below.heap_alloc w o g h.lt)
theorem Bl.set (h : Bl w g L) (i : Nat) (x : Int) : Bl (w.setCell ⟨g, i, none⟩ (.int .i64 x)) g (L.set i x) := by
  obtain ⟨T, h⟩ := h
  have := heap_setCell_same w g i _ _ (.int .i64 x) h
  by_cases hi : i < L.length
  · refine ⟨T, ?_⟩
    rw [this, cells_set, List.setIfInBounds_toArray, List.set_append_left _ _ (by rw [cells_length]; exact hi)]
  · have e1 : L.set i x = L := List.set_eq_of_length_le (by omega)
    refine ⟨T.set (i - L.length) (.int .i64 x), ?_⟩
    rw [this, List.setIfInBounds_toArray, List.set_append_right _ _ (by rw [cells_length]; omega), cells_length, e1]
theorem Bl.set' (h : Bl w g L) (i : Nat) {x : Int} {u : Int} (hu : u = x) : Bl (w.setCell ⟨g, i, none⟩ (.int .i64 u)) g (L.set i x) := by
  rw [hu]; exact h.set i x
theorem Bl.far (h : Bl w g L) {p : Addr} (hp : g ≠ p.block) (u : Value) : Bl (w.setCell p u) g L := h.keep (Below.heap_setCell w p u g hp)
theorem Bl.below (h : Bl w g L) {B : Nat} (hb : Below B w w') (hg : g < B) : Bl w' g L := h.keep (hb.block g hg)
theorem Bl.only (h : Bl w g L) {g' : Nat} (hb : Only w w' g') (hne : g ≠ g') : Bl w' g L := h.keep (hb.block g h.lt (fun e => hne (by injection e)))
theorem Bl.of_own {B : Nat} {v : Value} (h : w.ownsRow B 3 1 v n (cells l)) (hn : 0 < n) : ∃ g cap, v = .slice (some ⟨g, 0, none⟩) n cap ∧ B ≤ g ∧ Bl w g l ∧ n ≤ cap ∧ cap ≤ 9223372036854775807 ∧ n = l.length := by
  have h1 := h.1
  rw [cells_length, Nat.mul_one] at h1
  rcases h.2 with ⟨_, h0⟩ | ⟨g, cap, cur, rfl, hB, hh, hnc, hcm, hcs, htake⟩
  · omega
  · refine ⟨g, cap, rfl, hB, ⟨cur.toList.drop n, ?_⟩, hnc, by simpa [maxLen] using hcm, h1.symm⟩
    rw [hh, ← htake, Nat.mul_one, List.take_append_drop]
theorem Bl.sl (h : Bl w g L) {off n c : Nat} (hn : off + n ≤ L.length) (hnc : n ≤ c) (hc : c ≤ 9223372036854775807) : Sl w (some ⟨g, off, none⟩) n c ((L.drop off).take n) := by
  refine ⟨by rw [List.length_take, List.length_drop]; omega, hnc, hc, fun _ => ⟨g, off, rfl, fun i hi => ?_⟩⟩
  rw [nth_take hi, nth_drop]
  exact h.cell (by omega)

theorem Fr.len {B : Nat} (h : Fr w B A n c l) : n = l.length := h.1
theorem Fr.sl {B : Nat} (h : Fr w B A n c l) : Sl w A n c l := by
  refine ⟨h.1, h.2.1, h.2.2.1, fun h0 => ?_⟩
  obtain ⟨g, off, L, rfl, _, hb, hn, rfl⟩ := h.2.2.2 h0
  obtain ⟨b, o, e, hc⟩ := (hb.sl hn h.2.1 h.2.2.1).2.2.2 h0
  exact ⟨b, o, e, hc⟩
theorem Fr.nil (w : World) (B : Nat) : Fr w B none 0 0 [] := ⟨rfl, Nat.le_refl _, by omega, fun h => by omega⟩
theorem Fr.mono {B B' : Nat} (h : Fr w B A n c l) (hB : B' ≤ B) : Fr w B' A n c l :=
  ⟨h.1, h.2.1, h.2.2.1, fun h0 => by
    obtain ⟨g, off, L, e, hg, hb, hn, hl⟩ := h.2.2.2 h0
    exact ⟨g, off, L, e, by omega, hb, hn, hl⟩⟩
theorem Fr.of_bl {B off : Nat} (h : Bl w g L) (hB : B ≤ g) (hn : off + n ≤ L.length) (hnc : n ≤ c) (hc : c ≤ 9223372036854775807) : Fr w B (some ⟨g, off, none⟩) n c ((L.drop off).take n) :=
  ⟨by rw [List.length_take, List.length_drop]; omega, hnc, hc, fun _ => ⟨g, off, L, rfl, hB, h, hn, rfl⟩⟩
theorem Fr.take {B : Nat} (h : Fr w B A n c l) {k c' : Nat} (hk : k ≤ n) (hkc : k ≤ c') (hc : c' ≤ c) : Fr w B A k c' (l.take k) := by
  refine ⟨by rw [List.length_take, ← h.1]; omega, hkc, by have := h.2.2.1; omega, fun h0 => ?_⟩
  obtain ⟨g, off, L, e, hg, hb, hn, rfl⟩ := h.2.2.2 (by omega)
  exact ⟨g, off, L, e, hg, hb, by omega, by rw [List.take_take, Nat.min_eq_left hk]⟩
theorem Fr.below {B B' : Nat} (h : Fr w B A n c l) (hb : Below B' w w') (hB : w.heap.size ≤ B') : Fr w' B A n c l :=
  ⟨h.1, h.2.1, h.2.2.1, fun h0 => by
    obtain ⟨g, off, L, e, hg, hbl, hn, hl⟩ := h.2.2.2 h0
    exact ⟨g, off, L, e, hg, hbl.below hb (by have := hbl.lt; omega), hn, hl⟩⟩

theorem Only.below {B : Nat} (h : Only w w' g) (hB : B ≤ g) (hs : B ≤ w.heap.size) : Below B w w' :=
  (Below.refl B w).grown h hs (fun k e => by cases e; exact hB)
theorem Only.refl (w : World) (g : Nat) : Only w w g := ⟨rfl, rfl, rfl, Nat.le_refl _, fun _ _ _ => rfl⟩
theorem Only.trans {a b c : World} (h : Only a b g) (k : Only b c g) : Only a c g :=
  ⟨k.os.trans h.os, k.tape.trans h.tape, k.output.trans h.output, Nat.le_trans h.size k.size, fun i hi hne => (k.block i (Nat.lt_of_lt_of_le hi h.size) hne).trans (h.block i hi hne)⟩
theorem Only.setCell {a b : World} (h : Only a b g) {p : Addr} (hp : p.block = g) (u : Value) : Only a (b.setCell p u) g :=
  ⟨h.os, h.tape, h.output, by simpa [World.setCell] using h.size, fun i hi hne => (Below.heap_setCell b p u i (by rintro rfl; exact hne (by rw [hp]))).trans (h.block i hi hne)⟩
theorem Only.alloc {a b : World} (h : Only a b g) (o : Obj) : Only a (b.alloc o) g :=
  ⟨h.os, h.tape, h.output, Nat.le_trans h.size (by simp), fun i hi hne => (Below.heap_alloc b o i (Nat.lt_of_lt_of_le hi h.size)).trans (h.block i hi hne)⟩
theorem Only.drew {a b : World} (h : Only a b g) : Only a b.drew g := ⟨h.os, h.tape, h.output, h.size, h.block⟩
theorem Only.drewN {a b : World} (h : Only a b g) (k : Nat) : Only a (b.drewN k) g := ⟨h.os, h.tape, h.output, h.size, h.block⟩
theorem Only.of_below {a b : World} (h : Below a.heap.size a b) (g : Nat) : Only a b g := ⟨h.os, h.tape, h.output, h.size, fun i hi _ => h.block i hi⟩

/-- A draw before does not matter. -/
theorem undrew {a b : World} (h : Below a.drew.heap.size a.drew b) : Below a.heap.size a b := ⟨h.os, h.tape, h.output, h.size, h.block⟩
theorem undrewN {k : Nat} {a b : World} (h : Below (a.drewN k).heap.size (a.drewN k) b) : Below a.heap.size a b := ⟨h.os, h.tape, h.output, h.size, h.block⟩

/-- Behind a call: whatever was there reads as it did. -/
theorem old3 {a b : World} (h : Below a.heap.size a b) :
    (∀ k o, k < a.heap.size → b.cell? ⟨k, o, none⟩ = a.cell? ⟨k, o, none⟩) ∧ (∀ k o, k < a.heap.size → b.frozen? ⟨k, o, none⟩ = a.frozen? ⟨k, o, none⟩) ∧ a.heap.size ≤ b.heap.size :=
  ⟨fun k o hk => h.cell (p := ⟨k, o, none⟩) hk, fun k o hk => h.frozen (p := ⟨k, o, none⟩) hk, h.size⟩

/-- Below, where the second world starts later than the first. -/
theorem btr {a b c : World} (h : Below a.heap.size a b) (k : Below b.heap.size b c) : Below a.heap.size a c := h.trans (k.mono h.size)
end

theorem madeCells_i64 (z : Value) (n : Nat) : madeCells #[z] n = (List.replicate n z).toArray := by
  apply Array.ext'
  simp [madeCells]
  apply List.ext_getElem
  · simp
  · intro i h1 h2
    simp [Nat.mod_one]
theorem cells_replicate (n : Nat) : cells (List.replicate n 0) = List.replicate n (.int .i64 0) := by simp [cells]

theorem ret_bool {a b : Bool} (h : a = b) : Ending.returned (.bool a) = .returned (.bool b) := by rw [h]
theorem ret_int {k : IntKind} {a b : Int} (h : a = b) : Ending.returned (.int k a) = .returned (.int k b) := by rw [h]

/-- A box that holds a raster, known whole. -/
def RB (w : World) (g : Nat) (W H M : Int) (A : Option Addr) (n c : Nat) : Prop := w.heap[g]? = some (.cells #[.int .i64 W, .int .i64 H, .int .i64 M, .slice A n c] 37 (0, 0))
section
variable {w w' : World} {g n c : Nat} {W H M : Int} {A : Option Addr}
theorem RB.lt (h : RB w g W H M A n c) : g < w.heap.size := (Array.getElem?_eq_some_iff.1 h).1
theorem RB.new (w : World) (W H M : Int) (A : Option Addr) (n c : Nat) : RB (w.alloc (.cells #[.int .i64 W, .int .i64 H, .int .i64 M, .slice A n c] 37)) w.heap.size W H M A n c := heap_alloc_new w _
theorem RB.keep (h : RB w g W H M A n c) (hk : w'.heap[g]? = w.heap[g]?) : RB w' g W H M A n c := hk.trans h
theorem RB.alloc (h : RB w g W H M A n c) (o : Obj) : RB (w.alloc o) g W H M A n c := h.keep (Below.heap_alloc w o g h.lt)
theorem RB.below (h : RB w g W H M A n c) {B : Nat} (hb : Below B w w') (hg : g < B) : RB w' g W H M A n c := h.keep (hb.block g hg)
theorem RB.far (h : RB w g W H M A n c) {p : Addr} (hp : g ≠ p.block) (u : Value) : RB (w.setCell p u) g W H M A n c := h.keep (Below.heap_setCell w p u g hp)
theorem RB.drew (h : RB w g W H M A n c) : RB w.drew g W H M A n c := h
theorem RB.drewN (h : RB w g W H M A n c) (k : Nat) : RB (w.drewN k) g W H M A n c := h
/-- What a walk reads: plain facts. -/
theorem RB.cells (h : RB w g W H M A n c) :
    (w.cell? ⟨g, 0, none⟩ = some (.int .i64 W) ∧ w.cell? ⟨g, 1, none⟩ = some (.int .i64 H) ∧ w.cell? ⟨g, 2, none⟩ = some (.int .i64 M) ∧ w.cell? ⟨g, 3, none⟩ = some (.slice A n c)) ∧
    (w.frozen? ⟨g, 0, none⟩ = false ∧ w.frozen? ⟨g, 1, none⟩ = false ∧ w.frozen? ⟨g, 2, none⟩ = false ∧ w.frozen? ⟨g, 3, none⟩ = false) := by
  refine ⟨⟨?_, ?_, ?_, ?_⟩, ⟨?_, ?_, ?_, ?_⟩⟩
  all_goals first | (rw [cell_of_row w g _ _ _ _ h]; rfl) | exact frozen_of_row w g _ _ _ h
/-- One cell is set. -/
theorem RB.set3 (h : RB w g W H M A n c) (A' : Option Addr) (n' c' : Nat) : RB (w.setCell ⟨g, 3, none⟩ (.slice A' n' c')) g W H M A' n' c' := by
  have := heap_setCell_same w g 3 _ _ (.slice A' n' c') h
  unfold RB
  rw [this]
  rfl
end

end Go.Proofs.Ytonpnjjfidpoiaa
