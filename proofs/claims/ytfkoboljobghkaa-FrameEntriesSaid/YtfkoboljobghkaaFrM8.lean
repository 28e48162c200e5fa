/-
  Memory: rows of bytes; the box of a writer; what writing leaves as it was.
-/
import Derived.Test.YtfkoboljobghkaaFrB
import Derived.Test.YtfkoboljobghkaaFrSpec
set_option linter.unusedSimpArgs false
set_option linter.unusedVariables false
namespace Go.Proofs.Ytfkoboljobghkaa
open Go.RowKit

theorem infoB : (Try.prog.info? 5).map (fun i => (i.zero, i.size, i.bytes)) = some (some (.int .u8 0), 1, 1) := by kernel_rfl

def cells8 (l : List Int) : List Value := l.map (Value.int .u8)
theorem cells8_length (l : List Int) : (cells8 l).length = l.length := by simp [cells8]
theorem cells8_append (a b : List Int) : cells8 (a ++ b) = cells8 a ++ cells8 b := by simp [cells8]
theorem cells8_at {l : List Int} {i : Nat} (h : i < l.length) : (cells8 l)[i]? = some (.int .u8 (nth l i)) := by
  simp [cells8, List.getElem?_eq_getElem h, nth_eq h]
theorem cells8_set (l : List Int) (i : Nat) (x : Int) : cells8 (l.set i x) = (cells8 l).set i (.int .u8 x) := by simp [cells8, List.map_set]
theorem cells8_one {l : List Int} : ∀ u ∈ cells8 l, u.oneCell' = true := fun u hu => by
  obtain ⟨d, _, rfl⟩ := List.mem_map.1 hu; rfl
theorem cells8_str (s : ByteArray) : Lib.strCells s = cells8 (txt s) := by simp [Lib.strCells, cells8, txt]

/-- A row of bytes of the call's own that holds something. -/
def Ob (w : World) (B r c : Nat) (l : List Int) : Prop := w.ownsRow B 5 1 (.slice (some ⟨r, 0, none⟩) l.length c) l.length (cells8 l)
section
variable {w w' : World} {B r c g : Nat} {l : List Int}
theorem Ob.facts (h : Ob w B r c l) : B ≤ r ∧ r < w.heap.size ∧ l.length ≤ c ∧ c ≤ 9223372036854775807 ∧ ∃ cur, w.heap[r]? = some (.cells cur 5 (0, 0)) := by
  rcases h.2 with ⟨h', _⟩ | ⟨g', cap', cur, h', hb, hg, hnc, hcm, _⟩
  · simp at h'
  · simp only [Value.slice.injEq, Option.some.injEq, Addr.mk.injEq, and_true, true_and] at h'
    obtain ⟨rfl, rfl⟩ := h'
    exact ⟨hb, (Array.getElem?_eq_some_iff.1 hg).1, hnc, by simpa [maxLen] using hcm, cur, hg⟩
theorem Ob.keep (h : Ob w B r c l) (hk : w'.heap[r]? = w.heap[r]?) : Ob w' B r c l := by
  unfold Ob World.ownsRow at *
  refine ⟨h.1, ?_⟩
  rcases h.2 with h' | ⟨g', cap', cur, h', hb, hg, hr⟩
  · exact .inl h'
  · refine .inr ⟨g', cap', cur, h', hb, ?_, hr⟩
    simp only [Value.slice.injEq, Option.some.injEq, Addr.mk.injEq, and_true, true_and] at h'
    obtain ⟨rfl, rfl⟩ := h'
    rw [hk]; exact hg
theorem Ob.far (h : Ob w B r c l) {p : Addr} (hp : r ≠ p.block) (u : Value) : Ob (w.setCell p u) B r c l := h.keep (Below.heap_setCell w p u r hp)
theorem Ob.alloc (h : Ob w B r c l) (o : Obj) : Ob (w.alloc o) B r c l := h.keep (Below.heap_alloc w o r h.facts.2.1)
theorem Ob.cell (h : Ob w B r c l) {i : Nat} (hi : i < l.length) : w.cell? ⟨r, i, none⟩ = some (.int .u8 (nth l i)) := by
  rw [World.ownsRow.cellAt h i (by omega)]; exact cells8_at hi
theorem Ob.frozen (h : Ob w B r c l) (i : Nat) : w.frozen? ⟨r, i, none⟩ = false := World.ownsRow.frozenAt h i
theorem Ob.set (h : Ob w B r c l) (i : Nat) (x : Int) : Ob (w.setCell ⟨r, i, none⟩ (.int .u8 x)) B r c (l.set i x) := by
  have := (World.ownsRow.stored h i (.int .u8 x)).1
  unfold Ob
  rw [List.length_set, cells8_set]
  exact this
/-- A box of two cells that holds a slice and an int. -/
theorem box2 {x y : Value} {t : TypeId} (h : w.heap[g]? = some (.cells #[x, y] t (0, 0))) : (w.cell? ⟨g, 0, none⟩ = some x ∧ w.cell? ⟨g, 1, none⟩ = some y) ∧ w.frozen? ⟨g, 0, none⟩ = false ∧ w.frozen? ⟨g, 1, none⟩ = false := by
  refine ⟨⟨?_, ?_⟩, ?_, ?_⟩
  all_goals first | (rw [cell_of_row w g _ _ _ _ h]; rfl) | exact frozen_of_row w g _ _ _ h

/-- A writer: its box and its bytes. -/
def Wr (w : World) (B g : Nat) (l : List Int) (f : Nat) : Prop :=
  ∃ r c, w.heap[g]? = some (.cells #[.slice (some ⟨r, 0, none⟩) l.length c, .int .i64 (f : Int)] 90 (0, 0)) ∧ B ≤ g ∧ Ob w B r c l ∧ 0 < l.length ∧ r ≠ g

theorem ne_of_types {t t' : TypeId} {cs cs' : Array Value} {fr fr' : Nat × Nat} {a b : Nat} (ha : w.heap[a]? = some (.cells cs t fr)) (hb : w.heap[b]? = some (.cells cs' t' fr')) (ht : t ≠ t') : a ≠ b := by
  rintro rfl
  rw [ha] at hb
  cases hb
  exact ht rfl

/-- What writing leaves as it was: what lay below B; every block but the writer's box and rows of bytes. -/
def Kx (B g : Nat) (w w' : World) : Prop := Below B w w' ∧ w.heap.size ≤ w'.heap.size ∧ ∀ k, k < w.heap.size → k ≠ g → (∀ cs fr, w.heap[k]? ≠ some (.cells cs 5 fr)) → w'.heap[k]? = w.heap[k]?
theorem Kx.refl (B g : Nat) (w : World) : Kx B g w w := ⟨Below.refl _ _, Nat.le_refl _, fun _ _ _ _ => rfl⟩
theorem Kx.trans {a b c : World} (h : Kx B g a b) (k : Kx B g b c) : Kx B g a c :=
  ⟨h.1.trans k.1, Nat.le_trans h.2.1 k.2.1, fun i hi hne hno => by
    have e := h.2.2 i hi hne hno
    rw [← e]
    exact k.2.2 i (Nat.lt_of_lt_of_le hi h.2.1) hne (by rw [e]; exact hno)⟩
theorem Kx.box (h : Kx B g w w') (hg : B ≤ g) (i : Nat) (u : Value) : Kx B g w (w'.setCell ⟨g, i, none⟩ u) :=
  ⟨h.1.setCell hg u, by simpa [World.setCell] using h.2.1, fun k hk hne hno => (Below.heap_setCell w' ⟨g, i, none⟩ u k hne).trans (h.2.2 k hk hne hno)⟩
theorem Kx.below (h : Kx B g w w') : Below B w w' := h.1
theorem Kx.of_below (h : Below w.heap.size w w') (hB : B ≤ w.heap.size) : Kx B g w w' := ⟨h.mono hB, h.size, fun k hk _ _ => h.block k hk⟩
/-- Writing a byte of a row keeps. -/
theorem Kx.row (h : Kx B g w w') (hr : B ≤ r) (hn : ∀ t cs fr, w'.heap[r]? = some (.cells cs t fr) → t = 5) (hc : ∃ t cs fr, w'.heap[r]? = some (.cells cs t fr)) (i : Nat) (u : Value) : Kx B g w (w'.setCell ⟨r, i, none⟩ u) :=
  ⟨h.1.setCell hr u, by simpa [World.setCell] using h.2.1, fun k hk hne hno => by
    have e := h.2.2 k hk hne hno
    refine (Below.heap_setCell w' ⟨r, i, none⟩ u k ?_).trans e
    rintro rfl
    obtain ⟨t, cs, fr, hc⟩ := hc
    obtain rfl := hn t cs fr hc
    rw [e] at hc
    exact hno cs fr hc⟩
/-- So does appending to a row of bytes. -/
theorem Kx.grown (h : w.grownBy w' (some r)) (hs : B ≤ w.heap.size) (hr : B ≤ r) {cur : Array Value} (hc : w.heap[r]? = some (.cells cur 5 (0, 0))) : Kx B g w w' :=
  ⟨(Below.refl B w).grown h hs (fun k e => by cases e; exact hr), h.size, fun k hk _ hno => h.block k hk (fun e => by cases e; exact hno _ _ hc)⟩
theorem Kx.alloc (h : Kx B g w w') (hs : B ≤ w.heap.size) (o : Obj) : Kx B g w (w'.alloc o) :=
  ⟨h.1.alloc (Nat.le_trans hs h.2.1) o, Nat.le_trans h.2.1 (by simp), fun k hk hne hno => (Below.heap_alloc w' o k (Nat.lt_of_lt_of_le hk h.2.1)).trans (h.2.2 k hk hne hno)⟩
theorem Kx.size (h : Kx B g w w') : w.heap.size ≤ w'.heap.size := h.2.1
/-- A row of integers stays. -/
theorem Kx.bl (h : Kx B g w w') {L : List Int} {k : Nat} (hb : Bl w k L) (hne : k ≠ g) : Bl w' k L := by
  have hlt := hb.lt
  obtain ⟨T, hT⟩ := hb
  exact ⟨T, (h.2.2 k hlt hne (fun cs fr e => by rw [hT] at e; cases e)).trans hT⟩
end

end Go.Proofs.Ytfkoboljobghkaa
