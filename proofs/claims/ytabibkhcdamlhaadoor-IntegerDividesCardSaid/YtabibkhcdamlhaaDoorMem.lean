/-
  Memory: slices of uint32 that read as lists of groups; blocks that are known whole; integers in memory.
-/
import Derived.WalkKit
import Derived.WalkSpells
import Derived.WalkLawsBesides
import Derived.Deep.Draws
import Derived.Lib.Hide
import Derived.Test.YtabibkhcdamlhaaDoorNum
set_option linter.unusedSimpArgs false
set_option linter.unusedVariables false
namespace Go.Proofs.YtabibkhcdamlhaaDoor
open Go.RowKit Num

/-- What lay in the heap lies as it lay, but for one block. -/
abbrev Only (w w' : World) (g : Nat) : Prop := w.grownBy w' (some g)

def cells (l : List Nat) : List Value := l.map fun (d : Nat) => Value.int .u32 (d : Int)

theorem cells_get (l : List Nat) (i : Nat) : (cells l)[i]? = l[i]?.map fun (d : Nat) => Value.int .u32 (d : Int) := by simp [cells]
theorem cells_at {l : List Nat} {i : Nat} (h : i < l.length) : (cells l)[i]? = some (.int .u32 (nth l i : Nat)) := by
  rw [cells_get, List.getElem?_eq_getElem h, nth_eq h]; rfl
theorem cells_length (l : List Nat) : (cells l).length = l.length := by simp [cells]
theorem cells_set (l : List Nat) (i x : Nat) : cells (l.set i x) = (cells l).set i (.int .u32 (x : Int)) := by simp [cells, List.map_set]
theorem cells_append (a b : List Nat) : cells (a ++ b) = cells a ++ cells b := by simp [cells]
theorem cells_one {l : List Nat} : ∀ u ∈ cells l, u.oneCell' = true := fun u hu => by
  obtain ⟨d, _, rfl⟩ := List.mem_map.1 hu; rfl

/-- A slice value reads as a list of groups (nil and empty ones let in). -/
def Sl (w : World) (A : Option Addr) (n c : Nat) (l : List Nat) : Prop :=
  n = l.length ∧ n ≤ c ∧ c ≤ 9223372036854775807 ∧
    (0 < n → ∃ b off, A = some ⟨b, off, none⟩ ∧ ∀ i, i < n → w.cell? ⟨b, off + i, none⟩ = some (.int .u32 (nth l i : Nat)))

/-- A block whose first cells are known: they hold the groups L; what lies behind them is spare. -/
def Bl (w : World) (g : Nat) (L : List Nat) : Prop := ∃ T : List Value, w.heap[g]? = some (.cells (cells L ++ T).toArray 48 (0, 0))

/-- A slice of the call's own: its block is known whole, from B on. -/
def Fr (w : World) (B : Nat) (A : Option Addr) (n c : Nat) (l : List Nat) : Prop :=
  n = l.length ∧ n ≤ c ∧ c ≤ 9223372036854775807 ∧
    (0 < n → ∃ g off L, A = some ⟨g, off, none⟩ ∧ B ≤ g ∧ Bl w g L ∧ off + n ≤ L.length ∧ (L.drop off).take n = l)

section
variable {w w' : World} {A : Option Addr} {n c g : Nat} {l L : List Nat}

theorem Sl.len (h : Sl w A n c l) : n = l.length := h.1
theorem Sl.le_cap (h : Sl w A n c l) : n ≤ c := h.2.1
theorem Sl.cap_le (h : Sl w A n c l) : c ≤ 9223372036854775807 := h.2.2.1
theorem Sl.nil (w : World) : Sl w none 0 0 [] := ⟨rfl, Nat.le_refl _, by omega, fun h => by omega⟩
theorem Sl.at_ (h : Sl w A n c l) (h0 : 0 < n) : ∃ b off, A = some ⟨b, off, none⟩ ∧ b < w.heap.size ∧ ∀ i, i < n → w.cell? ⟨b, off + i, none⟩ = some (.int .u32 (nth l i : Nat)) := by
  obtain ⟨b, off, e, hc⟩ := h.2.2.2 h0
  exact ⟨b, off, e, World.block_lt_of_cell? w _ (hc 0 h0), hc⟩
theorem Sl.keep (h : Sl w A n c l) (hk : 0 < n → ∀ b i, (∃ off, A = some ⟨b, off, none⟩) → b < w.heap.size → w'.cell? ⟨b, i, none⟩ = w.cell? ⟨b, i, none⟩) : Sl w' A n c l :=
  ⟨h.1, h.2.1, h.2.2.1, fun h0 => by
    obtain ⟨b, off, e, hb, hc⟩ := h.at_ h0
    exact ⟨b, off, e, fun i hi => (hk h0 b _ ⟨off, e⟩ hb).trans (hc i hi)⟩⟩
theorem Sl.below (h : Sl w A n c l) {B : Nat} (hb : Below B w w') (hB : w.heap.size ≤ B) : Sl w' A n c l :=
  h.keep fun _ b i _ hlt => hb.cell (p := ⟨b, i, none⟩) (Nat.lt_of_lt_of_le hlt hB)
theorem Sl.below' (h : Sl w A n c l) {B : Nat} (hb : Below B w w') (hB : 0 < n → ∀ b off, A = some ⟨b, off, none⟩ → b < B) : Sl w' A n c l :=
  h.keep fun h0 b i ⟨off, e⟩ _ => hb.cell (p := ⟨b, i, none⟩) (hB h0 b off e)
theorem Sl.only (h : Sl w A n c l) (hg : Only w w' g) (hne : 0 < n → ∀ b off, A = some ⟨b, off, none⟩ → b ≠ g) : Sl w' A n c l :=
  h.keep fun h0 b i ⟨off, e⟩ hlt => World.cell?_of_block (hg.block b hlt (fun e' => hne h0 b off e (by injection e')))
theorem Sl.old (h : Sl w A n c l) : 0 < n → ∀ b off, A = some ⟨b, off, none⟩ → b < w.heap.size := fun h0 b off e => by
  obtain ⟨b', off', e', hb, _⟩ := h.at_ h0
  rw [e] at e'
  cases e'
  exact hb
theorem Sl.alloc (h : Sl w A n c l) (o : Obj) : Sl (w.alloc o) A n c l :=
  h.keep fun _ b i _ hlt => World.cell?_alloc_lt w o ⟨b, i, none⟩ hlt
theorem Sl.drew (h : Sl w A n c l) : Sl w.drew A n c l := h
theorem Sl.drewN (h : Sl w A n c l) (k : Nat) : Sl (w.drewN k) A n c l := h
theorem Sl.take (h : Sl w A n c l) {k c' : Nat} (hk : k ≤ n) (hkc : k ≤ c') (hc : c' ≤ c) : Sl w A k c' (l.take k) := by
  refine ⟨by rw [List.length_take, ← h.1]; omega, hkc, by have := h.cap_le; omega, fun h0 => ?_⟩
  obtain ⟨b, off, e, _, hcell⟩ := h.at_ (by omega)
  exact ⟨b, off, e, fun i hi => by rw [nth_take (by omega)]; exact hcell i (by omega)⟩
theorem Sl.drop (h : Sl w A n c l) {k : Nat} (hk : k ≤ n) : Sl w (if c = k then A else A.map (·.add k)) (n - k) (c - k) (l.drop k) := by
  refine ⟨by rw [List.length_drop, ← h.1], by have := h.le_cap; omega, by have := h.cap_le; omega, fun h0 => ?_⟩
  obtain ⟨b, off, rfl, _, hcell⟩ := h.at_ (by omega)
  have := h.le_cap
  rw [if_neg (by omega)]
  refine ⟨b, off + k, ?_, fun i hi => ?_⟩
  · simp only [Option.map_some, Addr.add]
    split
    · subst k; simp
    · rfl
  · rw [nth_drop, Nat.add_assoc]; exact hcell _ (by omega)

theorem Bl.lt (h : Bl w g L) : g < w.heap.size := by
  obtain ⟨T, h⟩ := h
  exact (Array.getElem?_eq_some_iff.1 h).1
theorem Bl.cell (h : Bl w g L) {i : Nat} (hi : i < L.length) : w.cell? ⟨g, i, none⟩ = some (.int .u32 (nth L i : Nat)) := by
  obtain ⟨T, h⟩ := h
  rw [cell_of_row w g i _ _ _ h]
  have := cells_at hi
  simp only [List.getElem?_toArray]
  rw [List.getElem?_append_left (by rw [cells_length]; exact hi)]
  exact this
theorem Bl.frozen (h : Bl w g L) (i : Nat) : w.frozen? ⟨g, i, none⟩ = false := by
  obtain ⟨T, h⟩ := h
  exact frozen_of_row w g i _ _ h
theorem Bl.keep (h : Bl w g L) (hk : w'.heap[g]? = w.heap[g]?) : Bl w' g L := by
  obtain ⟨T, h⟩ := h
  exact ⟨T, hk.trans h⟩
theorem Bl.new (w : World) (L : List Nat) : Bl (w.alloc (.cells (cells L).toArray 48)) w.heap.size L := ⟨[], by rw [List.append_nil]; exact heap_alloc_new w _⟩
theorem Bl.drew (h : Bl w g L) : Bl w.drew g L := h
theorem Bl.drewN (h : Bl w g L) (k : Nat) : Bl (w.drewN k) g L := h
theorem Bl.alloc (h : Bl w g L) (o : Obj) : Bl (w.alloc o) g L := h.keep (Below.heap_alloc w o g h.lt)
theorem Bl.set (h : Bl w g L) (i x : Nat) : Bl (w.setCell ⟨g, i, none⟩ (.int .u32 (x : Int))) g (L.set i x) := by
  obtain ⟨T, h⟩ := h
  have := heap_setCell_same w g i _ _ (.int .u32 (x : Int)) h
  by_cases hi : i < L.length
  · refine ⟨T, ?_⟩
    rw [this, cells_set, List.setIfInBounds_toArray, List.set_append_left _ _ (by rw [cells_length]; exact hi)]
  · have e1 : L.set i x = L := List.set_eq_of_length_le (by omega)
    refine ⟨T.set (i - L.length) (.int .u32 (x : Int)), ?_⟩
    rw [this, List.setIfInBounds_toArray, List.set_append_right _ _ (by rw [cells_length]; omega), cells_length, e1]
theorem Bl.set' (h : Bl w g L) (i : Nat) {x : Nat} {u : Int} (hu : u = (x : Int)) : Bl (w.setCell ⟨g, i, none⟩ (.int .u32 u)) g (L.set i x) := by
  subst hu; exact h.set i x
theorem Bl.far (h : Bl w g L) {p : Addr} (hp : g ≠ p.block) (u : Value) : Bl (w.setCell p u) g L := h.keep (Below.heap_setCell w p u g hp)
theorem Bl.below (h : Bl w g L) {B : Nat} (hb : Below B w w') (hg : g < B) : Bl w' g L := h.keep (hb.block g hg)
theorem Bl.only (h : Bl w g L) {g' : Nat} (hb : Only w w' g') (hne : g ≠ g') : Bl w' g L := h.keep (hb.block g h.lt (fun e => hne (by injection e)))
theorem Bl.of_own {B : Nat} {v : Value} (h : w.ownsRow B 48 1 v n (cells l)) (hn : 0 < n) : ∃ g cap, v = .slice (some ⟨g, 0, none⟩) n cap ∧ B ≤ g ∧ Bl w g l ∧ n ≤ cap ∧ cap ≤ 9223372036854775807 ∧ n = l.length := by
  have h1 := h.1
  rw [cells_length, Nat.mul_one] at h1
  rcases h.2 with ⟨_, h0⟩ | ⟨g, cap, cur, rfl, hB, hh, hnc, hcm, hcs, htake⟩
  · omega
  · refine ⟨g, cap, rfl, hB, ⟨cur.toList.drop n, ?_⟩, hnc, by simpa [maxLen] using hcm, h1.symm⟩
    rw [hh, ← htake, Nat.mul_one, List.take_append_drop]
theorem Bl.sl (h : Bl w g L) {off n c : Nat} (hn : off + n ≤ L.length) (hnc : n ≤ c) (hc : c ≤ 9223372036854775807) : Sl w (some ⟨g, off, none⟩) n c ((L.drop off).take n) := by
  refine ⟨by rw [List.length_take, List.length_drop]; omega, hnc, hc, fun _ => ⟨g, off, rfl, fun i hi => ?_⟩⟩
  rw [nth_take hi, nth_drop]
  exact h.cell (by omega)

theorem Fr.len {B : Nat} (h : Fr w B A n c l) : n = l.length := h.1
theorem Fr.sl {B : Nat} (h : Fr w B A n c l) : Sl w A n c l := by
  refine ⟨h.1, h.2.1, h.2.2.1, fun h0 => ?_⟩
  obtain ⟨g, off, L, rfl, _, hb, hn, rfl⟩ := h.2.2.2 h0
  obtain ⟨b, o, e, hc⟩ := (hb.sl hn h.2.1 h.2.2.1).2.2.2 h0
  exact ⟨b, o, e, hc⟩
theorem Fr.nil (w : World) (B : Nat) : Fr w B none 0 0 [] := ⟨rfl, Nat.le_refl _, by omega, fun h => by omega⟩
theorem Fr.mono {B B' : Nat} (h : Fr w B A n c l) (hB : B' ≤ B) : Fr w B' A n c l :=
  ⟨h.1, h.2.1, h.2.2.1, fun h0 => by
    obtain ⟨g, off, L, e, hg, hb, hn, hl⟩ := h.2.2.2 h0
    exact ⟨g, off, L, e, by omega, hb, hn, hl⟩⟩
theorem Fr.of_bl {B off : Nat} (h : Bl w g L) (hB : B ≤ g) (hn : off + n ≤ L.length) (hnc : n ≤ c) (hc : c ≤ 9223372036854775807) : Fr w B (some ⟨g, off, none⟩) n c ((L.drop off).take n) :=
  ⟨by rw [List.length_take, List.length_drop]; omega, hnc, hc, fun _ => ⟨g, off, L, rfl, hB, h, hn, rfl⟩⟩
theorem Fr.take {B : Nat} (h : Fr w B A n c l) {k c' : Nat} (hk : k ≤ n) (hkc : k ≤ c') (hc : c' ≤ c) : Fr w B A k c' (l.take k) := by
  refine ⟨by rw [List.length_take, ← h.1]; omega, hkc, by have := h.2.2.1; omega, fun h0 => ?_⟩
  obtain ⟨g, off, L, e, hg, hb, hn, rfl⟩ := h.2.2.2 (by omega)
  exact ⟨g, off, L, e, hg, hb, by omega, by rw [List.take_take, Nat.min_eq_left hk]⟩
theorem Fr.below {B B' : Nat} (h : Fr w B A n c l) (hb : Below B' w w') (hB : w.heap.size ≤ B') : Fr w' B A n c l :=
  ⟨h.1, h.2.1, h.2.2.1, fun h0 => by
    obtain ⟨g, off, L, e, hg, hbl, hn, hl⟩ := h.2.2.2 h0
    exact ⟨g, off, L, e, hg, hbl.below hb (by have := hbl.lt; omega), hn, hl⟩⟩

theorem Only.below {B : Nat} (h : Only w w' g) (hB : B ≤ g) (hs : B ≤ w.heap.size) : Below B w w' :=
  (Below.refl B w).grown h hs (fun k e => by cases e; exact hB)
theorem Only.refl (w : World) (g : Nat) : Only w w g := ⟨rfl, rfl, rfl, Nat.le_refl _, fun _ _ _ => rfl⟩
theorem Only.trans {a b c : World} (h : Only a b g) (k : Only b c g) : Only a c g :=
  ⟨k.os.trans h.os, k.tape.trans h.tape, k.output.trans h.output, Nat.le_trans h.size k.size, fun i hi hne => (k.block i (Nat.lt_of_lt_of_le hi h.size) hne).trans (h.block i hi hne)⟩
theorem Only.setCell {a b : World} (h : Only a b g) {p : Addr} (hp : p.block = g) (u : Value) : Only a (b.setCell p u) g :=
  ⟨h.os, h.tape, h.output, by simpa [World.setCell] using h.size, fun i hi hne => (Below.heap_setCell b p u i (by rintro rfl; exact hne (by rw [hp]))).trans (h.block i hi hne)⟩
theorem Only.alloc {a b : World} (h : Only a b g) (o : Obj) : Only a (b.alloc o) g :=
  ⟨h.os, h.tape, h.output, Nat.le_trans h.size (by simp), fun i hi hne => (Below.heap_alloc b o i (Nat.lt_of_lt_of_le hi h.size)).trans (h.block i hi hne)⟩
theorem Only.drew {a b : World} (h : Only a b g) : Only a b.drew g := ⟨h.os, h.tape, h.output, h.size, h.block⟩
theorem Only.drewN {a b : World} (h : Only a b g) (k : Nat) : Only a (b.drewN k) g := ⟨h.os, h.tape, h.output, h.size, h.block⟩
theorem Only.of_below {a b : World} (h : Below a.heap.size a b) (g : Nat) : Only a b g := ⟨h.os, h.tape, h.output, h.size, fun i hi _ => h.block i hi⟩

/-- A draw before does not matter. -/
theorem undrew {a b : World} (h : Below a.drew.heap.size a.drew b) : Below a.heap.size a b := ⟨h.os, h.tape, h.output, h.size, h.block⟩
theorem undrewN {k : Nat} {a b : World} (h : Below (a.drewN k).heap.size (a.drewN k) b) : Below a.heap.size a b := ⟨h.os, h.tape, h.output, h.size, h.block⟩

/-- Behind a call: whatever was there reads as it did. -/
theorem old3 {a b : World} (h : Below a.heap.size a b) :
    (∀ k o, k < a.heap.size → b.cell? ⟨k, o, none⟩ = a.cell? ⟨k, o, none⟩) ∧ (∀ k o, k < a.heap.size → b.frozen? ⟨k, o, none⟩ = a.frozen? ⟨k, o, none⟩) ∧ a.heap.size ≤ b.heap.size :=
  ⟨fun k o hk => h.cell (p := ⟨k, o, none⟩) hk, fun k o hk => h.frozen (p := ⟨k, o, none⟩) hk, h.size⟩

/-- Below, where the second world starts later than the first. -/
theorem btr {a b c : World} (h : Below a.heap.size a b) (k : Below b.heap.size b c) : Below a.heap.size a c := h.trans (k.mono h.size)
end

theorem madeCells_u32 (z : Value) (n : Nat) : madeCells #[z] n = (List.replicate n z).toArray := by
  apply Array.ext'
  simp [madeCells]
  apply List.ext_getElem
  · simp
  · intro i h1 h2
    simp [Nat.mod_one]
theorem cells_replicate (n : Nat) : cells (List.replicate n 0) = List.replicate n (.int .u32 0) := by simp [cells]

/-- An integer of any form in memory that counts as z, with at most k groups. -/
def VI (w : World) (neg : Bool) (A : Option Addr) (n c : Nat) (z : Int) (k : Nat) : Prop := ∃ l, Sl w A n c l ∧ cnt neg l = z ∧ n ≤ k

/-- A canonical integer in memory that is z, with at most k groups. -/
def II (w : World) (neg : Bool) (A : Option Addr) (n c : Nat) (z : Int) (k : Nat) : Prop := ∃ l, Sl w A n c l ∧ CanZ neg l ∧ sval neg l = z ∧ n ≤ k

/-- A canonical magnitude in memory that is m, with at most k groups. -/
def MM (w : World) (A : Option Addr) (n c : Nat) (m k : Nat) : Prop := ∃ l, Sl w A n c l ∧ Cano l ∧ val l = m ∧ n ≤ k

/-- The same, of the call's own, from block B on. -/
def FM (w : World) (B : Nat) (A : Option Addr) (n c : Nat) (m k : Nat) : Prop := ∃ l, Fr w B A n c l ∧ Cano l ∧ val l = m ∧ n ≤ k

section
variable {w w' : World} {neg : Bool} {A : Option Addr} {n c k m B : Nat} {z : Int}
theorem II.vi (h : II w neg A n c z k) : VI w neg A n c z k := by
  obtain ⟨l, hs, hc, hz, hk⟩ := h
  exact ⟨l, hs, by rw [cnt_can hc, hz], hk⟩
theorem FM.mm (h : FM w B A n c m k) : MM w A n c m k := by
  obtain ⟨l, hs, hc, hz, hk⟩ := h
  exact ⟨l, hs.sl, hc, hz, hk⟩
theorem II.below (h : II w neg A n c z k) (hb : Below w.heap.size w w') : II w' neg A n c z k := by
  obtain ⟨l, hs, r⟩ := h
  exact ⟨l, hs.below hb (Nat.le_refl _), r⟩
theorem VI.below (h : VI w neg A n c z k) (hb : Below w.heap.size w w') : VI w' neg A n c z k := by
  obtain ⟨l, hs, r⟩ := h
  exact ⟨l, hs.below hb (Nat.le_refl _), r⟩
theorem MM.below (h : MM w A n c m k) (hb : Below w.heap.size w w') : MM w' A n c m k := by
  obtain ⟨l, hs, r⟩ := h
  exact ⟨l, hs.below hb (Nat.le_refl _), r⟩
theorem FM.below (h : FM w B A n c m k) (hb : Below w.heap.size w w') : FM w' B A n c m k := by
  obtain ⟨l, hs, r⟩ := h
  exact ⟨l, hs.below hb (Nat.le_refl _), r⟩
theorem FM.base (h : FM w B A n c m k) {B' : Nat} (hB : B' ≤ B) : FM w B' A n c m k := by
  obtain ⟨l, hs, r⟩ := h
  exact ⟨l, hs.mono hB, r⟩
theorem II.mono (h : II w neg A n c z k) {k' : Nat} (hk : k ≤ k') : II w neg A n c z k' := by
  obtain ⟨l, h1, h2, h3, h4⟩ := h
  exact ⟨l, h1, h2, h3, Nat.le_trans h4 hk⟩
theorem VI.mono (h : VI w neg A n c z k) {k' : Nat} (hk : k ≤ k') : VI w neg A n c z k' := by
  obtain ⟨l, h1, h2, h4⟩ := h
  exact ⟨l, h1, h2, Nat.le_trans h4 hk⟩
theorem MM.mono (h : MM w A n c m k) {k' : Nat} (hk : k ≤ k') : MM w A n c m k' := by
  obtain ⟨l, h1, h2, h3, h4⟩ := h
  exact ⟨l, h1, h2, h3, Nat.le_trans h4 hk⟩
theorem FM.mono (h : FM w B A n c m k) {k' : Nat} (hk : k ≤ k') : FM w B A n c m k' := by
  obtain ⟨l, h1, h2, h3, h4⟩ := h
  exact ⟨l, h1, h2, h3, Nat.le_trans h4 hk⟩
theorem VI.le (h : VI w neg A n c z k) : n ≤ k := h.choose_spec.2.2
theorem II.le (h : II w neg A n c z k) : n ≤ k := h.choose_spec.2.2.2
theorem MM.le (h : MM w A n c m k) : n ≤ k := h.choose_spec.2.2.2
/-- The magnitude of an integer. -/
theorem II.mm (h : II w neg A n c z k) : MM w A n c z.natAbs k := by
  obtain ⟨l, h1, h2, h3, h4⟩ := h
  exact ⟨l, h1, h2.1, by rw [← h3, sval_natAbs], h4⟩
theorem II.neg_iff (h : II w neg A n c z k) : neg = true ↔ z < 0 := by
  obtain ⟨l, h1, h2, h3, h4⟩ := h
  subst h3
  unfold sval
  cases neg
  · simp
  · have : l ≠ [] := fun e => by have := h2.2 e; simp at this
    have hpos := h2.1.ne_zero (List.length_pos_iff.2 this)
    simp; omega
theorem II.len_zero (h : II w neg A n c z k) : n = 0 ↔ z = 0 := by
  obtain ⟨l, h1, h2, h3, h4⟩ := h
  have := h2.1.val_eq_zero
  have h5 := sval_natAbs neg l
  rw [h3] at h5
  rw [h1.len]
  constructor
  · intro e
    have := this.2 (List.eq_nil_of_length_eq_zero e)
    omega
  · intro e
    subst e
    rw [this.1 (by rw [← h5]; rfl)]
    rfl
theorem MM.len_zero (h : MM w A n c m k) : n = 0 ↔ m = 0 := by
  obtain ⟨l, h1, h2, h3, h4⟩ := h
  rw [h1.len, ← h3, h2.val_eq_zero, List.length_eq_zero_iff]
theorem MM.nil (w : World) (k : Nat) : MM w none 0 0 0 k := ⟨[], Sl.nil w, Cano.nil, rfl, Nat.zero_le _⟩
theorem FM.nil (w : World) (B k : Nat) : FM w B none 0 0 0 k := ⟨[], Fr.nil w B, Cano.nil, rfl, Nat.zero_le _⟩
theorem II.zero (w : World) (k : Nat) : II w false none 0 0 0 k := ⟨[], Sl.nil w, ⟨Cano.nil, fun _ => rfl⟩, rfl, Nat.zero_le _⟩
end

/-- The call returns the integer z with at most k groups; what lay in memory lies as it lay. -/
def RetZ (w : World) (z : Int) (k : Nat) (e : Ending) (w' : World) : Prop :=
  ∃ neg A n c, e = .returned (.agg #[.bool neg, .slice A n c]) ∧ II w' neg A n c z k ∧ Below w.heap.size w w'
theorem Sl.store {w : World} {A : Option Addr} {n c : Nat} {l : List Nat} (h : Sl w A n c l) {p : Addr} {v : Value} (hp : w.cell? p = some v) (hv : ∀ k i, v ≠ .int k i) (u : Value) : Sl (w.setCell p u) A n c l :=
  ⟨h.1, h.2.1, h.2.2.1, fun h0 => by
    obtain ⟨b, off, e, hc⟩ := h.2.2.2 h0
    refine ⟨b, off, e, fun i hi => ?_⟩
    rw [World.cell?_setCell_other w p ⟨b, off + i, none⟩ u (fun e => by subst e; rw [hc i hi] at hp; injection hp with hp; exact hv _ _ hp.symm)]
    exact hc i hi⟩
theorem II.store {w : World} {neg : Bool} {A : Option Addr} {n c k : Nat} {z : Int} (h : II w neg A n c z k) {p : Addr} {v : Value} (hp : w.cell? p = some v) (hv : ∀ k i, v ≠ .int k i) (u : Value) : II (w.setCell p u) neg A n c z k := by
  obtain ⟨l, hs, r⟩ := h
  exact ⟨l, hs.store hp hv u, r⟩
/-- The result is laid into its cells. -/
theorem RetZ.close {w w2 : World} {neg : Bool} {A : Option Addr} {n c k g : Nat} {z : Int} (hi : II w2 neg A n c z k) (hB : Below w.heap.size w w2) (hg : w.heap.size ≤ g) {b0 : Bool} {a0 : Option Addr} {n0 c0 : Nat}
    (h0 : w2.cell? ⟨g, 0, none⟩ = some (.bool b0)) (h1 : w2.cell? ⟨g, 1, none⟩ = some (.slice a0 n0 c0)) :
    RetZ w z k (.returned (.agg #[.bool neg, .slice A n c])) ((w2.setCell ⟨g, 0, none⟩ (.bool neg)).setCell ⟨g, 1, none⟩ (.slice A n c)) := by
  refine ⟨neg, A, n, c, rfl, (hi.store h0 (fun _ _ e => by cases e) _).store (v := .slice a0 n0 c0) ?_ (fun _ _ e => by cases e) _, (hB.setCell (p := ⟨g, 0, none⟩) hg _).setCell (p := ⟨g, 1, none⟩) hg _⟩
  rw [World.cell?_setCell_other _ _ _ _ (by simp)]
  exact h1

theorem RetZ.close0 {w w2 : World} {neg : Bool} {A : Option Addr} {n c k g : Nat} {z : Int} (hi : II w2 neg A n c z k) (hB : Below w.heap.size w w2) (hg : w.heap.size ≤ g)
    (h0 : w2.cell? ⟨g, 0, none⟩ = some (.bool false)) (h1 : w2.cell? ⟨g, 1, none⟩ = some (.slice none 0 0)) :
    RetZ w z k (.returned (.agg #[.bool neg, .slice A n c])) ((w2.setCell ⟨g, 0, none⟩ (.bool neg)).setCell ⟨g, 1, none⟩ (.slice A n c)) := RetZ.close hi hB hg h0 h1

/-- The call returns an integer that was there in the world w0. -/
def RetO (w0 w : World) (z : Int) (k : Nat) (e : Ending) (w' : World) : Prop :=
  ∃ neg A n c, e = .returned (.agg #[.bool neg, .slice A n c]) ∧ II w0 neg A n c z k ∧ Below w.heap.size w w'

/-- The call returns the magnitude m, of the call's own. -/
def RetM (w : World) (m k : Nat) (e : Ending) (w' : World) : Prop :=
  ∃ A n c, e = .returned (.slice A n c) ∧ FM w' w.heap.size A n c m k ∧ Below w.heap.size w w'

theorem ret_bool {a b : Bool} (h : a = b) : Ending.returned (.bool a) = .returned (.bool b) := by rw [h]
theorem ret_int {k : IntKind} {a b : Int} (h : a = b) : Ending.returned (.int k a) = .returned (.int k b) := by rw [h]

/-- Behind a call, what the call's own boxes of two cells hold: plain facts. -/
theorem box1s {w w' : World} {u1 u2 : Value} {t1 : TypeId} (h : Below (w.alloc (.cells #[u1, u2] t1)).heap.size (w.alloc (.cells #[u1, u2] t1)) w') :
    (w'.cell? ⟨w.heap.size, 0, none⟩ = some u1 ∧ w'.cell? ⟨w.heap.size, 1, none⟩ = some u2) ∧
    (w'.frozen? ⟨w.heap.size, 0, none⟩ = false ∧ w'.frozen? ⟨w.heap.size, 1, none⟩ = false) ∧ w.heap.size < w'.heap.size := by
  obtain ⟨hc, hf, hs⟩ := old3 h
  simp only [World.size_alloc] at hs
  refine ⟨⟨?_, ?_⟩, ⟨?_, ?_⟩, by omega⟩
  · rw [hc _ _ (by simp)]; simp [go_sem]
  · rw [hc _ _ (by simp)]; simp [go_sem]
  · rw [hf _ _ (by simp)]; simp [go_sem]
  · rw [hf _ _ (by simp)]; simp [go_sem]
theorem box2s {w w' : World} {u1 u2 u3 u4 : Value} {t1 t2 : TypeId} (h : Below ((w.alloc (.cells #[u1, u2] t1)).alloc (.cells #[u3, u4] t2)).heap.size ((w.alloc (.cells #[u1, u2] t1)).alloc (.cells #[u3, u4] t2)) w') :
    (w'.cell? ⟨w.heap.size, 0, none⟩ = some u1 ∧ w'.cell? ⟨w.heap.size, 1, none⟩ = some u2 ∧ w'.cell? ⟨w.heap.size + 1, 0, none⟩ = some u3 ∧ w'.cell? ⟨w.heap.size + 1, 1, none⟩ = some u4) ∧
    (w'.frozen? ⟨w.heap.size, 0, none⟩ = false ∧ w'.frozen? ⟨w.heap.size, 1, none⟩ = false ∧ w'.frozen? ⟨w.heap.size + 1, 0, none⟩ = false ∧ w'.frozen? ⟨w.heap.size + 1, 1, none⟩ = false) ∧ w.heap.size + 1 < w'.heap.size := by
  obtain ⟨hc, hf, hs⟩ := old3 h
  simp only [World.size_alloc] at hs
  refine ⟨⟨?_, ?_, ?_, ?_⟩, ⟨?_, ?_, ?_, ?_⟩, by omega⟩
  all_goals first | (rw [hc _ _ (by simp <;> omega)]; simp [go_sem]; done) | (rw [hf _ _ (by simp <;> omega)]; simp [go_sem]; done)
theorem box3s {w w' : World} {u1 u2 u3 u4 u5 u6 : Value} {t1 t2 t3 : TypeId}
    (h : Below (((w.alloc (.cells #[u1, u2] t1)).alloc (.cells #[u3, u4] t2)).alloc (.cells #[u5, u6] t3)).heap.size (((w.alloc (.cells #[u1, u2] t1)).alloc (.cells #[u3, u4] t2)).alloc (.cells #[u5, u6] t3)) w') :
    (w'.cell? ⟨w.heap.size, 0, none⟩ = some u1 ∧ w'.cell? ⟨w.heap.size, 1, none⟩ = some u2 ∧ w'.cell? ⟨w.heap.size + 1, 0, none⟩ = some u3 ∧ w'.cell? ⟨w.heap.size + 1, 1, none⟩ = some u4 ∧ w'.cell? ⟨w.heap.size + 1 + 1, 0, none⟩ = some u5 ∧ w'.cell? ⟨w.heap.size + 1 + 1, 1, none⟩ = some u6) ∧
    (w'.frozen? ⟨w.heap.size, 0, none⟩ = false ∧ w'.frozen? ⟨w.heap.size, 1, none⟩ = false ∧ w'.frozen? ⟨w.heap.size + 1, 0, none⟩ = false ∧ w'.frozen? ⟨w.heap.size + 1, 1, none⟩ = false ∧ w'.frozen? ⟨w.heap.size + 1 + 1, 0, none⟩ = false ∧ w'.frozen? ⟨w.heap.size + 1 + 1, 1, none⟩ = false) ∧ w.heap.size + 1 + 1 < w'.heap.size := by
  obtain ⟨hc, hf, hs⟩ := old3 h
  simp only [World.size_alloc] at hs
  refine ⟨⟨?_, ?_, ?_, ?_, ?_, ?_⟩, ⟨?_, ?_, ?_, ?_, ?_, ?_⟩, by omega⟩
  all_goals first | (rw [hc _ _ (by simp <;> omega)]; simp [go_sem]; done) | (rw [hf _ _ (by simp <;> omega)]; simp [go_sem]; done)

end Go.Proofs.YtabibkhcdamlhaaDoor
