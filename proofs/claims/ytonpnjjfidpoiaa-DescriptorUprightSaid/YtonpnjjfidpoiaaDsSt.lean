/-
  Blocks of tests; Standard of package descriptor.
-/
import Derived.Test.YtonpnjjfidpoiaaDsEq
set_option linter.unusedSimpArgs false
set_option linter.unusedVariables false
namespace Go.Proofs.Ytonpnjjfidpoiaa
open Go.RowKit

def tz : Tst := ((0, 0, 0, 0), 0, 0, 0, 0)
theorem pcells_rep (n : Nat) : pcells (List.replicate n tz) = List.replicate (n * 8) (.int .i64 0) := by
  induction n with
  | zero => rfl
  | succ n ih =>
    have h : pcells (List.replicate (n + 1) tz) = tcs tz ++ pcells (List.replicate n tz) := rfl
    rw [h, ih, show (n + 1) * 8 = n * 8 + 1 + 1 + 1 + 1 + 1 + 1 + 1 + 1 from by omega]
    simp only [List.replicate_succ]
    rfl
theorem infoT : (Try.prog.info? 30).map (fun i => (i.zero, i.size, i.bytes)) = some (some (.agg #[.int .i64 0, .int .i64 0, .int .i64 0, .int .i64 0, .int .i64 0, .int .i64 0, .int .i64 0, .int .i64 0]), 8, 64) := by kernel_rfl
theorem madeCells8 (z : Value) (n : Nat) : madeCells #[z, z, z, z, z, z, z, z] n = (List.replicate n z).toArray := by
  apply Array.ext'
  simp only [madeCells, Array.toList_map, Array.toList_range]
  apply List.ext_getElem
  · simp
  · intro i h1 h2
    simp only [List.getElem_map, List.getElem_range, List.getElem_replicate]
    have : i % 8 = 0 ∨ i % 8 = 1 ∨ i % 8 = 2 ∨ i % 8 = 3 ∨ i % 8 = 4 ∨ i % 8 = 5 ∨ i % 8 = 6 ∨ i % 8 = 7 := by omega
    show #[z, z, z, z, z, z, z, z][i % 8]! = z
    rcases this with h | h | h | h | h | h | h | h <;> rw [h] <;> rfl
/-- make([]descriptor.Test, n). -/
theorem run_make_tests (k1 k2 : IntKind) (u : Int) (n : Nat) (hu : u = (n : Int)) (hn : n ≤ 1000000) (W : World) :
    (Instr.makeSlice 22 (.int k1 u) (.int k2 u)).run Try.prog W = .ok (.slice (some ⟨W.heap.size, 0, none⟩) n n) (W.alloc (.cells (pcells (List.replicate n tz)).toArray 30)) := by
  obtain ⟨i0, hi, hz0, hz1, hz2⟩ := info_parts infoT
  have := run_make (P := Try.prog) W 22 30 i0 _ Try.underlying22 hi hz0 k1 k2 u u (by omega) (Int.le_refl _) (by rw [hz2]; omega) (by omega)
  rw [this, hu]
  simp only [Int.toNat_natCast, hz1]
  have e : (Value.agg #[.int .i64 0, .int .i64 0, .int .i64 0, .int .i64 0, .int .i64 0, .int .i64 0, .int .i64 0, .int .i64 0] : Value).cells = #[.int .i64 0, .int .i64 0, .int .i64 0, .int .i64 0, .int .i64 0, .int .i64 0, .int .i64 0, .int .i64 0] := rfl
  rw [e, madeCells8, pcells_rep]

/-- A block of tests. -/
def Pb (w : World) (g : Nat) (L : List Tst) : Prop := w.heap[g]? = some (.cells (pcells L).toArray 30 (0, 0))
/-- One test stored. -/
def put8 (w : World) (g j : Nat) (v : Tst) : World :=
  (((((((w.setCell ⟨g, j, none⟩ (.int .i64 v.1.1)).setCell ⟨g, j + 1, none⟩ (.int .i64 v.1.2.1)).setCell ⟨g, j + 2, none⟩ (.int .i64 v.1.2.2.1)).setCell ⟨g, j + 3, none⟩ (.int .i64 v.1.2.2.2)).setCell ⟨g, j + 4, none⟩ (.int .i64 v.2.1)).setCell ⟨g, j + 5, none⟩ (.int .i64 v.2.2.1)).setCell ⟨g, j + 6, none⟩ (.int .i64 v.2.2.2.1)).setCell ⟨g, j + 7, none⟩ (.int .i64 v.2.2.2.2)
section
variable {w w' : World} {g : Nat} {L : List Tst}
theorem Pb.lt (h : Pb w g L) : g < w.heap.size := (Array.getElem?_eq_some_iff.1 h).1
theorem Pb.new (w : World) (L : List Tst) : Pb (w.alloc (.cells (pcells L).toArray 30)) w.heap.size L := heap_alloc_new w _
theorem Pb.keep (h : Pb w g L) (hk : w'.heap[g]? = w.heap[g]?) : Pb w' g L := hk.trans h
theorem Pb.alloc (h : Pb w g L) (o : Obj) : Pb (w.alloc o) g L := h.keep (Below.heap_alloc w o g h.lt)
theorem Pb.below (h : Pb w g L) {B : Nat} (hb : Below B w w') (hg : g < B) : Pb w' g L := h.keep (hb.block g hg)
theorem Pb.cell (h : Pb w g L) {j : Nat} {u : Value} (hj : (pcells L)[j]? = some u) : w.cell? ⟨g, j, none⟩ = some u := by
  rw [cell_of_row w g j _ _ _ h, List.getElem?_toArray]; exact hj
theorem Pb.cells (h : Pb w g L) {i : Nat} (hi : i < L.length) : TC8 w g (i * 8) (tstAt L i) := by
  obtain ⟨e0, e1, e2, e3, e4, e5, e6, e7⟩ := pcells_at hi
  exact ⟨⟨h.cell e0, h.cell e1, h.cell e2, h.cell e3⟩, h.cell e4, h.cell e5, h.cell e6, h.cell e7⟩
theorem Pb.frozen (h : Pb w g L) (i : Nat) : w.frozen? ⟨g, i, none⟩ = false := frozen_of_row w g i _ _ h
theorem Pb.ps (h : Pb w g L) {n : Nat} (hn : n = L.length) (hm : n ≤ 1000000) : PS w (some ⟨g, 0, none⟩) n n L :=
  ⟨by rw [pcells_length, hn], Nat.le_refl _, by omega, fun _ => ⟨g, 0, rfl, h.lt, fun j u hj => by rw [Nat.zero_add]; exact h.cell hj⟩⟩
theorem pcells_set8 {k : Nat} (hk : k < L.length) (v : Tst) : (((((((((pcells L).set (k * 8) (.int .i64 v.1.1)).set (k * 8 + 1) (.int .i64 v.1.2.1)).set (k * 8 + 2) (.int .i64 v.1.2.2.1)).set (k * 8 + 3) (.int .i64 v.1.2.2.2)).set (k * 8 + 4) (.int .i64 v.2.1)).set (k * 8 + 5) (.int .i64 v.2.2.1)).set (k * 8 + 6) (.int .i64 v.2.2.2.1)).set (k * 8 + 7) (.int .i64 v.2.2.2.2)) = pcells (L.set k v) := by
  have hT : (L.take k).length = k := by rw [List.length_take]; omega
  have := pcells_set (L.take k) (L.drop (k + 1)) L[k] v
  rw [hT] at this
  have e : L.set k v = L.take k ++ v :: L.drop (k + 1) := by rw [List.set_eq_take_append_cons_drop, if_pos hk]
  rw [e, ← this, ← List.drop_eq_getElem_cons hk, List.take_append_drop]
theorem Pb.put (h : Pb w g L) {k : Nat} (hk : k < L.length) (v : Tst) : Pb (put8 w g (k * 8) v) g (L.set k v) := by
  unfold put8 Pb
  have h1 := heap_setCell_same w g (k * 8) _ _ (.int .i64 v.1.1) h
  have h2 := heap_setCell_same _ g (k * 8 + 1) _ _ (.int .i64 v.1.2.1) h1
  have h3 := heap_setCell_same _ g (k * 8 + 2) _ _ (.int .i64 v.1.2.2.1) h2
  have h4 := heap_setCell_same _ g (k * 8 + 3) _ _ (.int .i64 v.1.2.2.2) h3
  have h5 := heap_setCell_same _ g (k * 8 + 4) _ _ (.int .i64 v.2.1) h4
  have h6 := heap_setCell_same _ g (k * 8 + 5) _ _ (.int .i64 v.2.2.1) h5
  have h7 := heap_setCell_same _ g (k * 8 + 6) _ _ (.int .i64 v.2.2.2.1) h6
  have h8 := heap_setCell_same _ g (k * 8 + 7) _ _ (.int .i64 v.2.2.2.2) h7
  rw [h8]
  simp only [List.setIfInBounds_toArray]
  rw [pcells_set8 hk]
theorem put8_below {B : Nat} (h : Below B w w') (hg : B ≤ g) (j : Nat) (v : Tst) : Below B w (put8 w' g j v) := by
  unfold put8
  exact (((((((h.setCell (p := ⟨g, j, none⟩) hg _).setCell (p := ⟨g, j + 1, none⟩) hg _).setCell (p := ⟨g, j + 2, none⟩) hg _).setCell (p := ⟨g, j + 3, none⟩) hg _).setCell (p := ⟨g, j + 4, none⟩) hg _).setCell (p := ⟨g, j + 5, none⟩) hg _).setCell (p := ⟨g, j + 6, none⟩) hg _).setCell (p := ⟨g, j + 7, none⟩) hg _
end

/-- The first k of N tests are those of a rule. -/
def FillT (f : Nat → Tst) (N k : Nat) (L : List Tst) : Prop := L.length = N ∧ ∀ i, i < k → tstAt L i = f i
theorem FillT.step {f : Nat → Tst} {N k : Nat} {L : List Tst} (h : FillT f N k L) (hk : k < N) {v : Tst} (hv : v = f k) : FillT f N (k + 1) (L.set k v) := by
  refine ⟨by rw [List.length_set]; exact h.1, fun i hi => ?_⟩
  by_cases e : i = k
  · subst e
    rw [tstAt_eq (by rw [List.length_set, h.1]; exact hk), List.getElem_set_self]; exact hv
  · have := h.2 i (by omega)
    by_cases hl : i < N
    · rw [tstAt_eq (by rw [List.length_set, h.1]; exact hl), List.getElem_set_ne (by omega), ← tstAt_eq]; exact this
    · omega
theorem FillT.done {f : Nat → Tst} {N : Nat} {L : List Tst} (h : FillT f N N L) : L = (List.range N).map f := tst_ext (by rw [h.1]; simp) fun i hi => by
  rw [h.1] at hi
  rw [h.2 i hi, tstAt_eq (by simp; exact hi)]
  simp

/-- The standard pattern. -/
def stdT (i : Nat) : Tst := (((i : Int) % 8 - 4, (i : Int) / 8 - 4, 1, 1), 4 - (3 * (i : Int) + 1) % 9, 4 - (5 * (i : Int) + 2) % 9, 1, 1)
def stdP : List Tst := (List.range 64).map stdT
theorem stdP_ok : pat stdP = true := by decide +kernel

set_option maxRecDepth 100000 in
set_option maxHeartbeats 3200000 in
theorem Standard_any (w : World) :
    Calls Try.prog 14 #[] w fun e w' => ∃ g, e = .returned (.slice (some ⟨g, 0, none⟩) 64 64) ∧ Pb w' g stdP ∧ w.heap.size ≤ g ∧ Below w.heap.size w w' := by
  have hmk := run_make_tests .i64 .i64 64 64 rfl (by omega)
  obtain ⟨C0, hC0⟩ : ∃ C0, (pcells (List.replicate 64 tz)).toArray = C0 := ⟨_, rfl⟩
  rw [hC0] at hmk
  obtain ⟨W1, hW1⟩ : ∃ W1, w.alloc (.cells C0 30) = W1 := ⟨_, rfl⟩
  have pb1 : Pb W1 w.heap.size (List.replicate 64 tz) := by rw [← hW1, ← hC0]; exact Pb.new _ _
  have hb1 : Below w.heap.size w W1 := by rw [← hW1]; exact (Below.refl _ _).alloc (Nat.le_refl _) _
  obtain ⟨g, hg⟩ : ∃ g, w.heap.size = g := ⟨_, rfl⟩
  rw [hg] at pb1
  have hgB : w.heap.size ≤ g := by omega
  replace hC0 := Lib.hid hC0
  have hW1' := Lib.hid hW1
  have pb1' := Lib.hid pb1
  clear hW1 pb1
  go_enter Try.func14, Try.ntmps14
  go_wp2
  go_loopw [6] (fun i wr => ∃ (k : Nat) (L : List Tst), k ≤ 64 ∧ i = .int .i64 (k : Int) ∧ Pb wr g L ∧ Hid (FillT stdT 64 k L) ∧ Below w.heap.size w wr) (fun i _ => 64 - (intOf i).toNat)
  case atStart =>
    rw [hW1'.out]
    exact ⟨0, _, by omega, rfl, pb1'.out, Lib.hid ⟨by simp, fun i hi => absurd hi (Nat.not_lt_zero _)⟩, hb1⟩
  case round =>
    obtain ⟨k, L, hk, rfl, pb, hf, hB⟩ := hrel
    by_cases hlt : k < 64
    · have hlt' : (k : Int) < 64 := by omega
      have hLl := hf.out.1
      obtain ⟨⟨c0, c1, c2, c3⟩, c4, c5, c6, c7⟩ := pb.cells (i := k) (by omega)
      have f0 := pb.frozen (k * 8)
      have f1 := pb.frozen (k * 8 + 1)
      have f2 := pb.frozen (k * 8 + 2)
      have f3 := pb.frozen (k * 8 + 3)
      have f4 := pb.frozen (k * 8 + 4)
      have f5 := pb.frozen (k * 8 + 5)
      have f6 := pb.frozen (k * 8 + 6)
      have f7 := pb.frozen (k * 8 + 7)
      obtain ⟨m, hm⟩ : ∃ m, k * 8 = m := ⟨_, rfl⟩
      have hput := pb.put (k := k) (by omega) (stdT k)
      rw [hm] at c0 c1 c2 c3 c4 c5 c6 c7 f0 f1 f2 f3 f4 f5 f6 f7 hput
      replace hput := Lib.hid hput
      replace hLl := Lib.hid hLl
      go_wp2
      exact ⟨⟨k + 1, _, by omega, by go_num, hput.out, Lib.hid (hf.out.step hlt rfl), put8_below hB hgB m (stdT k)⟩, by simp [intOf]; omega⟩
    · obtain rfl : k = 64 := by omega
      have hfin := hf.out.done
      subst hfin
      have hpb := Lib.hid pb
      go_wp2
      go_ret
      exact ⟨g, rfl, hpb.out, hgB, hB⟩

end Go.Proofs.Ytonpnjjfidpoiaa
