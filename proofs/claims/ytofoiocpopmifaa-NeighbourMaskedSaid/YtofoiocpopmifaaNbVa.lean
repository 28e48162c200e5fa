/-
  Nodes of trees in memory; planted trees; what building a tree leaves as it lay.
-/
import Derived.Test.YtofoiocpopmifaaNbHb
set_option linter.unusedSimpArgs false
set_option linter.unusedVariables false
namespace Go.Proofs.Ytofoiocpopmifaa
open Go.RowKit

/-- A node: item, radius, near, far. -/
abbrev Van := Int × Int × Int × Int
def vanAt (l : List Van) (i : Nat) : Van := l.getD i (0, 0, 0, 0)
theorem vanAt_eq {l : List Van} {i : Nat} (h : i < l.length) : vanAt l i = l[i] := by simp [vanAt, List.getD, List.getElem?_eq_getElem h]
theorem vanAt_mem {l : List Van} {i : Nat} (h : i < l.length) : vanAt l i ∈ l := by rw [vanAt_eq h]; exact List.getElem_mem h
def vcells (l : List Van) : List Value := l.flatMap fun v => [.int .i64 v.1, .int .i64 v.2.1, .int .i64 v.2.2.1, .int .i64 v.2.2.2]
theorem vcells_length : ∀ l : List Van, (vcells l).length = l.length * 4
  | [] => rfl
  | c :: l => by
    have := vcells_length l
    simp only [vcells, List.flatMap_cons, List.length_append, List.length_cons, List.length_nil] at this ⊢
    omega
theorem vcells_append (a b : List Van) : vcells (a ++ b) = vcells a ++ vcells b := by simp [vcells]
theorem vcells_one (l : List Van) : ∀ u ∈ vcells l, u.oneCell' = true := by
  intro u hu
  unfold vcells at hu
  obtain ⟨e, _, h⟩ := List.mem_flatMap.1 hu
  simp only [List.mem_cons, List.not_mem_nil, or_false] at h
  rcases h with rfl | rfl | rfl | rfl <;> rfl
theorem vcells_at : ∀ {l : List Van} {i : Nat}, i < l.length → (vcells l)[i * 4]? = some (.int .i64 (vanAt l i).1) ∧ (vcells l)[i * 4 + 1]? = some (.int .i64 (vanAt l i).2.1) ∧ (vcells l)[i * 4 + 2]? = some (.int .i64 (vanAt l i).2.2.1) ∧ (vcells l)[i * 4 + 3]? = some (.int .i64 (vanAt l i).2.2.2)
  | [], i, h => by simp at h
  | e :: l, 0, h => ⟨rfl, rfl, rfl, rfl⟩
  | e :: l, i + 1, h => by
    have := vcells_at (l := l) (i := i) (by simpa using h)
    rw [show (i + 1) * 4 = i * 4 + 1 + 1 + 1 + 1 from by omega]
    exact this
/-- One node set, cell by cell. -/
theorem vcells_set : ∀ (T N : List Van) (x v : Van), (((((vcells (T ++ x :: N)).set (T.length * 4) (.int .i64 v.1)).set (T.length * 4 + 1) (.int .i64 v.2.1)).set (T.length * 4 + 2) (.int .i64 v.2.2.1)).set (T.length * 4 + 3) (.int .i64 v.2.2.2)) = vcells (T ++ v :: N) := by
  intro T N x v
  have hl := vcells_length T
  have h : ∀ (k : Nat) (u : Value) (R : List Value), (vcells T ++ R).set (T.length * 4 + k) u = vcells T ++ R.set k u := fun k u R => by
    rw [List.set_append_right _ _ (by omega), hl, Nat.add_sub_cancel_left]
  rw [vcells_append, vcells_append]
  have h0 := h 0
  simp only [Nat.add_zero] at h0
  rw [h0, h 1, h 2, h 3]
  rfl
theorem infoV : (Try.prog.info? 71).map (fun i => (i.zero, i.size, i.bytes)) = some (some (.agg #[.int .i64 0, .int .i64 0, .int .i64 0, .int .i64 0]), 4, 32) := by kernel_rfl

/-- The index of a subtree. -/
def ixOf (m k : Nat) : Int := if m = 0 then -1 else (k : Int)
/-- A planted tree of items, whose first node has the index k. -/
inductive Planted (l : List Nat) : List Int → Nat → List Van → Prop
  | nil (k : Nat) : Planted l [] k []
  | node (t : Nat) (R Mn Mf : List Int) (k r : Nat) (N F : List Van) : (Mn ++ Mf).Perm R → Planted l Mn (k + 1) N → Planted l Mf (k + 1 + Mn.length) F → r ≤ 64 → (∀ i ∈ Mn, keyD l t i ≤ r) → (∀ i ∈ Mf, r < keyD l t i) →
      Planted l ((t : Int) :: R) k (((t : Int), (r : Int), ixOf Mn.length (k + 1), ixOf Mf.length (k + 1 + Mn.length)) :: (N ++ F))
theorem Planted.length {l : List Nat} {M : List Int} {k : Nat} {T : List Van} (h : Planted l M k T) : T.length = M.length := by
  induction h with
  | nil k => rfl
  | node t R Mn Mf k r N F hp _ _ _ _ _ ih1 ih2 =>
    have := hp.length_eq
    simp only [List.length_cons, List.length_append] at this ⊢
    omega

/-- What lay below B lies as it lay, but for the blocks g and q. -/
structure Pl (B g q : Nat) (w w' : World) : Prop where
  os : w'.os = w.os
  tape : w'.tape = w.tape
  output : w'.output = w.output
  size : w.heap.size ≤ w'.heap.size
  block : ∀ i, i < B → i ≠ g → i ≠ q → w'.heap[i]? = w.heap[i]?
section
variable {B g q : Nat} {w w' w2 : World}
theorem Pl.refl (B g q : Nat) (w : World) : Pl B g q w w := ⟨rfl, rfl, rfl, Nat.le_refl _, fun _ _ _ _ => rfl⟩
theorem Pl.trans (h : Pl B g q w w') (k : Pl B g q w' w2) : Pl B g q w w2 := ⟨k.os.trans h.os, k.tape.trans h.tape, k.output.trans h.output, Nat.le_trans h.size k.size, fun i h1 h2 h3 => (k.block i h1 h2 h3).trans (h.block i h1 h2 h3)⟩
theorem Pl.of_only (h : Only w w' g) (hB : B ≤ w.heap.size) : Pl B g q w w' := ⟨h.os, h.tape, h.output, h.size, fun i h1 h2 _ => h.block i (by omega) (fun e => h2 (by injection e))⟩
theorem Pl.of_below (h : Below B w w') : Pl B g q w w' := ⟨h.os, h.tape, h.output, h.size, fun i h1 _ _ => h.block i h1⟩
theorem Pl.setq (w : World) (B g q o : Nat) (u : Value) : Pl B g q w (w.setCell ⟨q, o, none⟩ u) := ⟨rfl, rfl, rfl, by simp [World.setCell], fun i _ _ h3 => Below.heap_setCell w _ u i h3⟩
theorem Pl.setFar (w : World) (B g q : Nat) {p : Addr} (hp : B ≤ p.block) (u : Value) : Pl B g q w (w.setCell p u) := ⟨rfl, rfl, rfl, by simp [World.setCell], fun i h1 _ _ => Below.heap_setCell w _ u i (by omega)⟩
theorem Pl.cell (h : Pl B g q w w') {i o : Nat} (h1 : i < B) (h2 : i ≠ g) (h3 : i ≠ q) : w'.cell? ⟨i, o, none⟩ = w.cell? ⟨i, o, none⟩ := World.cell?_of_block (h.block i h1 h2 h3)
theorem Pl.ws (h : Pl B g q w w') {A : Option Addr} {n c : Nat} {l : List Nat} (hs : WS w A n c l) (hA : 0 < n → ∀ b off, A = some ⟨b, off, none⟩ → b < B ∧ b ≠ g ∧ b ≠ q) : WS w' A n c l :=
  ⟨hs.1.keep h.size fun h0 b i ⟨off, e⟩ _ => h.cell (hA h0 b off e).1 (hA h0 b off e).2.1 (hA h0 b off e).2.2, hs.2⟩
theorem Pl.drew (h : Pl B g q w w') : Pl B g q w w'.drew := ⟨h.os, h.tape, h.output, h.size, h.block⟩
theorem Pl.drewN (h : Pl B g q w w') (k : Nat) : Pl B g q w (w'.drewN k) := ⟨h.os, h.tape, h.output, h.size, h.block⟩
end

end Go.Proofs.Ytofoiocpopmifaa
