/-
  Two rows of one's own, of places and of words; the pixels that have words (pure).
-/
import Derived.Test.YtonpnjjfidpoiaaDsF
import Derived.Maps.AppendAt
set_option linter.unusedSimpArgs false
set_option linter.unusedVariables false
namespace Go.Proofs.Ytonpnjjfidpoiaa
open Go.RowKit

def xcells (l : List (Int × Int)) : List Value := l.flatMap fun z => [.int .i64 z.1, .int .i64 z.2]
theorem xcells_length : ∀ l : List (Int × Int), (xcells l).length = l.length * 2
  | [] => rfl
  | c :: l => by
    have := xcells_length l
    simp only [xcells, List.flatMap_cons, List.length_append, List.length_cons, List.length_nil] at this ⊢
    omega
theorem xcells_append (a b : List (Int × Int)) : xcells (a ++ b) = xcells a ++ xcells b := by simp [xcells]
theorem xcells_one (l : List (Int × Int)) : ∀ u ∈ xcells l, u.oneCell' = true := by
  intro u hu
  unfold xcells at hu
  obtain ⟨e, _, h⟩ := List.mem_flatMap.1 hu
  simp only [List.mem_cons, List.not_mem_nil, or_false] at h
  rcases h with rfl | rfl <;> rfl
def pixAt (l : List (Int × Int)) (i : Nat) : Int × Int := l.getD i (0, 0)
theorem pixAt_eq {l : List (Int × Int)} {i : Nat} (h : i < l.length) : pixAt l i = l[i] := by simp [pixAt, List.getD, List.getElem?_eq_getElem h]
theorem xcells_at : ∀ {l : List (Int × Int)} {i : Nat}, i < l.length → (xcells l)[i * 2]? = some (.int .i64 (pixAt l i).1) ∧ (xcells l)[i * 2 + 1]? = some (.int .i64 (pixAt l i).2)
  | [], i, h => by simp at h
  | e :: l, 0, h => ⟨rfl, rfl⟩
  | e :: l, i + 1, h => by
    have := xcells_at (l := l) (i := i) (by simpa using h)
    rw [show (i + 1) * 2 = i * 2 + 1 + 1 from by omega]
    exact this

theorem infoPx : (Try.prog.info? 52).map (fun i => (i.zero, i.size, i.bytes)) = some (some (.agg #[.int .i64 0, .int .i64 0]), 2, 16) := by kernel_rfl
theorem infoU : (Try.prog.info? 31).map (fun i => (i.zero, i.size, i.bytes)) = some (some (.int .u64 0), 1, 8) := by kernel_rfl

/-- Two rows of one's own, apart from each other. -/
structure TR (B : Nat) (w : World) (v8 v9 : Value) (L : List (Int × Int)) (U : List Nat) (N : Nat) : Prop where
  o8 : w.ownsRow B 52 2 v8 N (xcells L)
  o9 : w.ownsRow B 31 1 v9 N (ucells U)
  ne : ∀ q, v8.ownBlock = some q → v9.ownBlock ≠ some q
theorem TR.nil (B : Nat) (w : World) : TR B w (.slice none 0 0) (.slice none 0 0) [] [] 0 :=
  ⟨World.ownsRow_nil _ _ _ _, World.ownsRow_nil _ _ _ _, fun q h => by simp [Value.ownBlock] at h⟩
theorem TR.bel {B : Nat} {w w' : World} {v8 v9 : Value} {L : List (Int × Int)} {U : List Nat} {N : Nat} (h : TR B w v8 v9 L U N) (hb : Below w.heap.size w w') : TR B w' v8 v9 L U N :=
  ⟨own_bel h.o8 hb, own_bel h.o9 hb, h.ne⟩
theorem TR.alloc {B : Nat} {w : World} {v8 v9 : Value} {L : List (Int × Int)} {U : List Nat} {N : Nat} (h : TR B w v8 v9 L U N) (o : Obj) : TR B (w.alloc o) v8 v9 L U N :=
  h.bel ((Below.refl _ _).alloc (Nat.le_refl _) o)
/-- The row of places has grown. -/
theorem TR.left {B : Nat} {w w' : World} {v8 v9 v' : Value} {L L' : List (Int × Int)} {U : List Nat} {N : Nat} (h : TR B w v8 v9 L U N) (hown : w'.ownsRow B 52 2 v' (N + 1) (xcells L ++ xcells L')) (hg : w.grownBy w' v8.ownBlock) (hv : v'.ownBlock = v8.ownBlock ∨ v'.ownBlock = some w.heap.size) :
    w'.ownsRow B 52 2 v' (N + 1) (xcells (L ++ L')) ∧ w'.ownsRow B 31 1 v9 N (ucells U) ∧ ∀ q, v'.ownBlock = some q → v9.ownBlock ≠ some q := by
  refine ⟨by rw [xcells_append]; exact hown, h.o9.kept (row := v8.ownBlock) hg ?_, fun q hq => ?_⟩
  · cases h9 : v9.ownBlock with
    | none => exact .inl rfl
    | some q => exact .inr fun e => h.ne q e.symm h9
  · rcases hv with e | e
    · exact h.ne q (e ▸ hq)
    · intro h9
      have h1 := (h.o9.lt q h9).2
      rw [e] at hq
      injection hq with hq
      omega
/-- The row of words has grown. -/
theorem TR.right {B : Nat} {w w' : World} {v8 v9 v' : Value} {L : List (Int × Int)} {U U' : List Nat} {N N' : Nat} (h8 : w.ownsRow B 52 2 v8 N' (xcells L)) (h9 : w.ownsRow B 31 1 v9 N (ucells U)) (hne : ∀ q, v8.ownBlock = some q → v9.ownBlock ≠ some q) (hN : N + 1 = N')
    (hown : w'.ownsRow B 31 1 v' (N + 1) (ucells U ++ ucells U')) (hg : w.grownBy w' v9.ownBlock) (hv : v'.ownBlock = v9.ownBlock ∨ v'.ownBlock = some w.heap.size) : TR B w' v8 v' L (U ++ U') N' := by
  subst hN
  refine ⟨h8.kept (row := v9.ownBlock) hg ?_, by rw [ucells_append]; exact hown, fun q hq => ?_⟩
  · cases h : v8.ownBlock with
    | none => exact .inl rfl
    | some q => exact .inr fun e => hne q h e.symm
  · rcases hv with e | e
    · rw [e]; exact hne q hq
    · rw [e]
      intro e2
      injection e2 with e2
      have h1 := (h8.lt q hq).2
      omega

/-- The pixels of the first t that have words. -/
def okAt (a b : Nat) (p : List Tst) (i : Nat) : Bool := pfit a b p ((i % a : Nat) : Int) ((i / a : Nat) : Int)
def gotI (a b : Nat) (p : List Tst) (t : Nat) : List Nat := (List.range t).filter (okAt a b p)
def plc (a : Nat) (I : List Nat) : List (Int × Int) := I.map fun i => (((i % a : Nat) : Int), ((i / a : Nat) : Int))
def wds (P : List Int) (a : Nat) (p : List Tst) (I : List Nat) : List Nat := I.map fun i => wordOf P a p ((i % a : Nat) : Int) ((i / a : Nat) : Int)
theorem gotI_yes {a b : Nat} {p : List Tst} {t : Nat} (h : okAt a b p t = true) : gotI a b p (t + 1) = gotI a b p t ++ [t] := by
  unfold gotI
  rw [List.range_succ, List.filter_append]
  simp [h]
theorem gotI_no {a b : Nat} {p : List Tst} {t : Nat} (h : okAt a b p t = false) : gotI a b p (t + 1) = gotI a b p t := by
  unfold gotI
  rw [List.range_succ, List.filter_append]
  simp [h]
theorem gotI_length (a b : Nat) (p : List Tst) (t : Nat) : (gotI a b p t).length ≤ t := by
  unfold gotI
  exact Nat.le_trans (List.length_filter_le _ _) (by simp)
theorem wordOf_lt {P : List Int} {a : Nat} {p : List Tst} {x y : Int} (h : pat p = true) : wordOf P a p x y < 2 ^ 64 := wordF_64 _ (pat_iff.1 h).1.2
theorem wds_words {P : List Int} {a : Nat} {p : List Tst} {I : List Nat} (h : pat p = true) : Words (wds P a p I) := by
  intro x hx
  obtain ⟨i, _, rfl⟩ := List.mem_map.1 hx
  exact wordOf_lt h
theorem plc_append (a : Nat) (I J : List Nat) : plc a (I ++ J) = plc a I ++ plc a J := by simp [plc]
theorem wds_append (P : List Int) (a : Nat) (p : List Tst) (I J : List Nat) : wds P a p (I ++ J) = wds P a p I ++ wds P a p J := by simp [wds]
theorem okAt_row {a b : Nat} {p : List Tst} {x y : Nat} (hx : x < a) : okAt a b p (y * a + x) = pfit a b p (x : Int) (y : Int) := by
  unfold okAt; rw [row_mod hx, row_div hx]
theorem plc_one {a x y : Nat} (hx : x < a) : plc a [y * a + x] = [((x : Int), (y : Int))] := by
  unfold plc; rw [List.map_cons, row_mod hx, row_div hx]; rfl
theorem wds_one {P : List Int} {a : Nat} {p : List Tst} {x y : Nat} (hx : x < a) : wds P a p [y * a + x] = [wordOf P a p (x : Int) (y : Int)] := by
  unfold wds; rw [List.map_cons, row_mod hx, row_div hx]; rfl

end Go.Proofs.Ytonpnjjfidpoiaa
