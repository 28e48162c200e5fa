/-
  Memory: slices that read as lists of values of any element (words, structs); rows of the call's own.
-/
import Derived.Test.YtonpnjjfidpoiaaDsRb
set_option linter.unusedSimpArgs false
set_option linter.unusedVariables false
namespace Go.Proofs.Ytonpnjjfidpoiaa
open Go.RowKit

/-- A slice value reads as a list of cells, k of them an element. -/
def SR (w : World) (A : Option Addr) (n c k : Nat) (vs : List Value) : Prop :=
  vs.length = n * k ∧ n ≤ c ∧ c ≤ 9223372036854775807 ∧ (0 < n → ∃ b off, A = some ⟨b, off, none⟩ ∧ b < w.heap.size ∧ ∀ j u, vs[j]? = some u → w.cell? ⟨b, off + j, none⟩ = some u)

section
variable {w w' : World} {A : Option Addr} {n c k : Nat} {vs : List Value}
theorem SR.nil (w : World) (k : Nat) : SR w none 0 0 k [] := ⟨by simp, Nat.le_refl _, by omega, fun h => by omega⟩
theorem SR.at_ (h : SR w A n c k vs) (h0 : 0 < n) : ∃ b off, A = some ⟨b, off, none⟩ ∧ b < w.heap.size ∧ ∀ j u, vs[j]? = some u → w.cell? ⟨b, off + j, none⟩ = some u := h.2.2.2 h0
theorem SR.keep (h : SR w A n c k vs) (hs : w.heap.size ≤ w'.heap.size) (hk : 0 < n → ∀ b i, (∃ off, A = some ⟨b, off, none⟩) → b < w.heap.size → w'.cell? ⟨b, i, none⟩ = w.cell? ⟨b, i, none⟩) : SR w' A n c k vs :=
  ⟨h.1, h.2.1, h.2.2.1, fun h0 => by
    obtain ⟨b, off, e, hb, hc⟩ := h.at_ h0
    exact ⟨b, off, e, by omega, fun j u hj => (hk h0 b _ ⟨off, e⟩ hb).trans (hc j u hj)⟩⟩
theorem SR.below (h : SR w A n c k vs) {B : Nat} (hb : Below B w w') (hB : w.heap.size ≤ B) : SR w' A n c k vs :=
  h.keep hb.size fun _ b i _ hlt => hb.cell (p := ⟨b, i, none⟩) (Nat.lt_of_lt_of_le hlt hB)
theorem SR.below' (h : SR w A n c k vs) {B : Nat} (hb : Below B w w') (hB : 0 < n → ∀ b off, A = some ⟨b, off, none⟩ → b < B) : SR w' A n c k vs :=
  h.keep hb.size fun h0 b i ⟨off, e⟩ _ => hb.cell (p := ⟨b, i, none⟩) (hB h0 b off e)
theorem SR.old (h : SR w A n c k vs) : 0 < n → ∀ b off, A = some ⟨b, off, none⟩ → b < w.heap.size := fun h0 b off e => by
  obtain ⟨b', off', e', hb, _⟩ := h.at_ h0
  rw [e] at e'
  cases e'
  exact hb
theorem SR.alloc (h : SR w A n c k vs) (o : Obj) : SR (w.alloc o) A n c k vs :=
  h.keep (by simp) fun _ b i _ hlt => World.cell?_alloc_lt w o ⟨b, i, none⟩ hlt
theorem SR.drew (h : SR w A n c k vs) : SR w.drew A n c k vs := h
theorem SR.drewN (h : SR w A n c k vs) (q : Nat) : SR (w.drewN q) A n c k vs := h
/-- A store elsewhere. -/
theorem SR.far (h : SR w A n c k vs) {p : Addr} (hp : 0 < n → ∀ b off, A = some ⟨b, off, none⟩ → b ≠ p.block) (u : Value) : SR (w.setCell p u) A n c k vs :=
  h.keep (by simp [World.setCell]) fun h0 b i ⟨off, e⟩ hlt => World.cell?_setCell_other _ _ _ _ (fun e2 => hp h0 b off e (by cases e2; rfl))
theorem SR.cells {a : Addr} (h : SR w (some a) n c k vs) (hk : 0 < k) : ∀ j u, vs[j]? = some u → w.cell? (a.add j) = some u := by
  intro j u hj
  have hjl : j < n * k := by rw [← h.1]; exact (List.getElem?_eq_some_iff.1 hj).1
  obtain ⟨b, off, e, -, hc⟩ := h.at_ (Nat.pos_of_ne_zero (by rintro rfl; omega))
  cases e
  rw [Addr.add_lit]
  exact hc j u hj
/-- A literal's row. -/
theorem SR.lit (W : World) (vs : List Value) (t : TypeId) (n k : Nat) (hn : vs.length = n * k) (hm : n ≤ 1000000) : SR (W.alloc (.cells vs.toArray t)) (some ⟨W.heap.size, 0, none⟩) n n k vs := by
  refine ⟨hn, Nat.le_refl _, by omega, fun _ => ⟨W.heap.size, 0, rfl, by simp, fun j u hj => ?_⟩⟩
  rw [cell_of_row _ W.heap.size (0 + j) _ _ _ (heap_alloc_new W (.cells vs.toArray t)), List.getElem?_toArray, Nat.zero_add]
  exact hj
theorem SR.of_own {B : Nat} {t : TypeId} (h : w.ownsRow B t k (.slice A n c) n vs) : SR w A n c k vs := by
  have h1 := h.1
  have hcl := @World.ownsRow.cells
  rcases h.2 with ⟨h2, h0⟩ | ⟨g, cap, cur, h2, hB, hh, hnc, hcm, hcs, htake⟩
  · cases h2
    exact ⟨by omega, Nat.le_refl _, by omega, fun h => by omega⟩
  · cases h2
    refine ⟨by omega, hnc, by simpa [maxLen] using hcm, fun h0 => ⟨g, 0, rfl, (Array.getElem?_eq_some_iff.1 hh).1, fun j u hj => ?_⟩⟩
    have := h.cells (g := g) (by simp [Value.ownBlock]) _ _ hj
    rw [Addr.add_lit] at this
    exact this
theorem own_form {v : Value} {B : Nat} {t : TypeId} (h : w.ownsRow B t k v n vs) : ∃ A c, v = .slice A n c ∧ SR w A n c k vs ∧ (A = none → c = 0) ∧ ∀ b off, A = some ⟨b, off, none⟩ → B ≤ b := by
  rcases h.2 with ⟨h2, h0⟩ | ⟨g, cap, cur, h2, hB, -⟩
  · subst h2 h0
    exact ⟨none, 0, rfl, SR.of_own h, fun _ => rfl, fun b off e => (by cases e)⟩
  · subst h2
    exact ⟨_, cap, rfl, SR.of_own h, fun e => (by cases e), fun b off e => (by cases e; exact hB)⟩
end

section
variable {w w' : World} {B : Nat} {e : TypeId} {k : Nat} {v : Value} {n : Nat} {xs : List Value}
theorem own_far (h : w.ownsRow B e k v n xs) {p : Addr} (hp : ∀ q, v.ownBlock = some q → q ≠ p.block) (u : Value) : (w.setCell p u).ownsRow B e k v n xs := by
  refine h.kept (row := some p.block) ⟨rfl, rfl, rfl, by simp [World.setCell], fun i _ hi => Below.heap_setCell w p u i (fun e => hi (by rw [e]))⟩ ?_
  cases hv : v.ownBlock with
  | none => exact .inl rfl
  | some q => exact .inr fun e => hp q hv (by injection e)
theorem own_bel (h : w.ownsRow B e k v n xs) (hb : Below w.heap.size w w') : w'.ownsRow B e k v n xs := by
  refine h.kept (row := none) ⟨hb.os, hb.tape, hb.output, hb.size, fun i hi _ => hb.block i hi⟩ ?_
  cases hv : v.ownBlock with
  | none => exact .inl rfl
  | some q => exact .inr (by simp)
theorem own_mono (h : w.ownsRow B e k v n xs) {B' : Nat} (hB : B' ≤ B) : w.ownsRow B' e k v n xs := by
  refine ⟨h.1, ?_⟩
  rcases h.2 with h' | ⟨g, cap, cur, h1, h2, h3⟩
  · exact .inl h'
  · exact .inr ⟨g, cap, cur, h1, by omega, h3⟩
end

/-- Words. -/
def nw (l : List Nat) (i : Nat) : Nat := l.getD i 0
theorem nw_eq {l : List Nat} {i : Nat} (h : i < l.length) : nw l i = l[i] := by simp [nw, List.getD, List.getElem?_eq_getElem h]
theorem nw_mem {l : List Nat} {i : Nat} (h : i < l.length) : nw l i ∈ l := by rw [nw_eq h]; exact List.getElem_mem h
def ucells (l : List Nat) : List Value := l.map fun x : Nat => Value.int .u64 (x : Int)
theorem ucells_length (l : List Nat) : (ucells l).length = l.length := by simp [ucells]
theorem ucells_at {l : List Nat} {i : Nat} (h : i < l.length) : (ucells l)[i]? = some (.int .u64 (nw l i : Int)) := by
  simp [ucells, List.getElem?_eq_getElem h, nw_eq h]
theorem ucells_one (l : List Nat) : ∀ u ∈ ucells l, u.oneCell' = true := fun u hu => by
  obtain ⟨d, _, rfl⟩ := List.mem_map.1 hu; rfl
theorem ucells_append (a b : List Nat) : ucells (a ++ b) = ucells a ++ ucells b := by simp [ucells]
def Words (l : List Nat) : Prop := ∀ x ∈ l, x < 2 ^ 64
theorem Words.nw {l : List Nat} (h : Words l) (i : Nat) : nw l i < 2 ^ 64 := by
  by_cases hi : i < l.length
  · exact h _ (nw_mem hi)
  · simp [Go.Proofs.Ytonpnjjfidpoiaa.nw, List.getD, List.getElem?_eq_none (show l.length ≤ i by omega)]
/-- A slice value reads as a list of words. -/
def WS (w : World) (A : Option Addr) (n c : Nat) (l : List Nat) : Prop := SR w A n c 1 (ucells l) ∧ Words l
section
variable {w w' : World} {A : Option Addr} {n c : Nat} {l : List Nat}
theorem WS.len (h : WS w A n c l) : n = l.length := by have := h.1.1; rw [ucells_length] at this; omega
theorem WS.le_cap (h : WS w A n c l) : n ≤ c := h.1.2.1
theorem WS.cap_le (h : WS w A n c l) : c ≤ 9223372036854775807 := h.1.2.2.1
theorem WS.at_ (h : WS w A n c l) (h0 : 0 < n) : ∃ b off, A = some ⟨b, off, none⟩ ∧ b < w.heap.size ∧ ∀ i, i < n → w.cell? ⟨b, off + i, none⟩ = some (.int .u64 (nw l i : Int)) := by
  obtain ⟨b, off, e, hb, hc⟩ := h.1.at_ h0
  exact ⟨b, off, e, hb, fun i hi => hc i _ (ucells_at (by rw [← h.len]; exact hi))⟩
theorem WS.below (h : WS w A n c l) {B : Nat} (hb : Below B w w') (hB : w.heap.size ≤ B) : WS w' A n c l := ⟨h.1.below hb hB, h.2⟩
theorem WS.alloc (h : WS w A n c l) (o : Obj) : WS (w.alloc o) A n c l := ⟨h.1.alloc o, h.2⟩
theorem WS.drew (h : WS w A n c l) : WS w.drew A n c l := h
theorem WS.drewN (h : WS w A n c l) (q : Nat) : WS (w.drewN q) A n c l := h
theorem WS.far (h : WS w A n c l) {p : Addr} (hp : 0 < n → ∀ b off, A = some ⟨b, off, none⟩ → b ≠ p.block) (u : Value) : WS (w.setCell p u) A n c l := ⟨h.1.far hp u, h.2⟩
theorem WS.lit (W : World) (l : List Nat) (t : TypeId) (hm : l.length ≤ 1000000) (hw : Words l) : WS (W.alloc (.cells (ucells l).toArray t)) (some ⟨W.heap.size, 0, none⟩) l.length l.length l := ⟨SR.lit W _ t _ 1 (by rw [ucells_length]; omega) hm, hw⟩
end

end Go.Proofs.Ytonpnjjfidpoiaa
