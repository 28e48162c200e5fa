/-
  What planting stands on: the boxes, the tree so far; a node set in it.
-/
import Derived.Test.YtofoiocpopmifaaNbVa
set_option linter.unusedSimpArgs false
set_option linter.unusedVariables false
namespace Go.Proofs.Ytofoiocpopmifaa
open Go.RowKit

/-- What planting stands on: the words, the boxes, the blocks. -/
structure Gnd (B g gT gL gP : Nat) (A : Option Addr) (n c : Nat) (l : List Nat) : Prop where
  hn : n ≤ 20
  hA : 0 < n → ∀ b off, A = some ⟨b, off, none⟩ → b < B ∧ b ≠ g ∧ b ≠ gT
  lg : g < B
  lT : gT < B
  lL : gL < B
  lP : gP < B
  neT : g ≠ gT
  neL : gL ≠ g
  neP : gP ≠ g
  nTL : gL ≠ gT
  nTP : gP ≠ gT

/-- The state: the tree so far, the boxes. -/
structure PSt (B gT gL gP : Nat) (A : Option Addr) (n c : Nat) (l : List Nat) (T : List Van) (tv : Value) (w : World) : Prop where
  own : w.ownsRow B 71 4 tv T.length (vcells T)
  kT : w.heap[gT]? = some (.cells #[tv] 39 (0, 0))
  kL : w.cell? ⟨gL, 0, none⟩ = some (.slice A n c)
  kP : w.cell? ⟨gP, 0, none⟩ = some (.func (.func 52) #[] #[.pointer (some ⟨gT, 0, none⟩), .pointer (some ⟨gL, 0, none⟩), .pointer (some ⟨gP, 0, none⟩)])
  ws : WS w A n c l
  sz : B ≤ w.heap.size

/-- Cells of a block from B on are set. -/
def put4 (w : World) (gr j : Nat) (v : Van) : World := (((w.setCell ⟨gr, j, none⟩ (.int .i64 v.1)).setCell ⟨gr, j + 1, none⟩ (.int .i64 v.2.1)).setCell ⟨gr, j + 2, none⟩ (.int .i64 v.2.2.1)).setCell ⟨gr, j + 3, none⟩ (.int .i64 v.2.2.2)
theorem put4_pl {B g q : Nat} (w : World) {gr : Nat} (h : B ≤ gr) (j : Nat) (v : Van) : Pl B g q w (put4 w gr j v) :=
  (((Pl.setFar w B g q (p := ⟨gr, j, none⟩) h _).trans (Pl.setFar _ B g q (p := ⟨gr, j + 1, none⟩) h _)).trans (Pl.setFar _ B g q (p := ⟨gr, j + 2, none⟩) h _)).trans (Pl.setFar _ B g q (p := ⟨gr, j + 3, none⟩) h _)
theorem put4_block (w : World) {gr : Nat} (j : Nat) (v : Van) {i : Nat} (h : i ≠ gr) : (put4 w gr j v).heap[i]? = w.heap[i]? := by
  unfold put4
  rw [Below.heap_setCell _ _ _ i h, Below.heap_setCell _ _ _ i h, Below.heap_setCell _ _ _ i h, Below.heap_setCell _ _ _ i h]
theorem put4_own {w : World} {gr cr L B : Nat} {T N : List Van} {x : Van} (h : w.ownsRow B 71 4 (.slice (some ⟨gr, 0, none⟩) L cr) L (vcells (T ++ x :: N))) (v : Van) : (put4 w gr (T.length * 4) v).ownsRow B 71 4 (.slice (some ⟨gr, 0, none⟩) L cr) L (vcells (T ++ v :: N)) := by
  have e := vcells_set T N x v
  have h1 := (h.stored (T.length * 4) (.int .i64 v.1)).1
  have h2 := (h1.stored (T.length * 4 + 1) (.int .i64 v.2.1)).1
  have h3 := (h2.stored (T.length * 4 + 2) (.int .i64 v.2.2.1)).1
  have h4 := (h3.stored (T.length * 4 + 3) (.int .i64 v.2.2.2)).1
  rw [e] at h4
  exact h4
theorem PSt.put {B g gT gL gP : Nat} {A : Option Addr} {n c : Nat} {l : List Nat} {T N : List Van} {x v : Van} {w : World} {gr cr L : Nat} (h : PSt B gT gL gP A n c l (T ++ x :: N) (.slice (some ⟨gr, 0, none⟩) L cr) w) (G : Gnd B g gT gL gP A n c l) (hL : (T ++ x :: N).length = L) (hgr : B ≤ gr) :
    PSt B gT gL gP A n c l (T ++ v :: N) (.slice (some ⟨gr, 0, none⟩) L cr) (put4 w gr (T.length * 4) v) := by
  have pl : Pl B g g w (put4 w gr (T.length * 4) v) := put4_pl w hgr _ v
  have hb : ∀ i, i < B → (put4 w gr (T.length * 4) v).heap[i]? = w.heap[i]? := fun i hi => put4_block w _ v (by omega)
  have hown := h.own
  rw [hL] at hown
  have hl2 : (T ++ v :: N).length = L := by rw [← hL]; simp
  have h4 := put4_own hown v
  rw [← hl2] at h4
  have h5 : (put4 w gr (T.length * 4) v).ownsRow B 71 4 (.slice (some ⟨gr, 0, none⟩) L cr) (T ++ v :: N).length (vcells (T ++ v :: N)) := by
    rw [hl2] at h4 ⊢
    exact h4
  clear h4 hown
  generalize put4 w gr (T.length * 4) v = w' at *
  exact ⟨h5, (hb gT G.lT).trans h.kT, (World.cell?_of_block (hb gL G.lL)).trans h.kL, (World.cell?_of_block (hb gP G.lP)).trans h.kP, ⟨h.ws.1.keep pl.size fun h0 b i ⟨off, e⟩ _ => World.cell?_of_block (hb b (G.hA h0 b off e).1), h.ws.2⟩, Nat.le_trans h.sz pl.size⟩

end Go.Proofs.Ytofoiocpopmifaa
