/-
  Walk: choices of package neighbour.
-/
import Derived.Test.YtofoiocpopmifaaNbCh
import Derived.Test.YtofoiocpopmifaaNbBl
import Derived.Laws.EntriesVeiled
set_option linter.unusedSimpArgs false
set_option linter.unusedVariables false
namespace Go.Proofs.Ytofoiocpopmifaa
open Go.RowKit

theorem infoCh : (Try.prog.info? 92).map (fun i => (i.zero, i.size, i.bytes)) = some (some (.agg #[.int .i64 0, .int .i64 0]), 2, 16) := by kernel_rfl
theorem chcells_append (a b : List Cho) : chcells (a ++ b) = chcells a ++ chcells b := by simp [chcells]
/-- One choice set, cell by cell. -/
theorem chcells_set (T N : List Cho) (x v : Cho) : (((chcells (T ++ x :: N)).set (T.length * 2) (.int .i64 (v.1 : Int))).set (T.length * 2 + 1) (.int .i64 (v.2 : Int))) = chcells (T ++ v :: N) := by
  have hl := chcells_length T
  have h : ∀ (k : Nat) (u : Value) (R : List Value), (chcells T ++ R).set (T.length * 2 + k) u = chcells T ++ R.set k u := fun k u R => by
    rw [List.set_append_right _ _ (by omega), hl, Nat.add_sub_cancel_left]
  rw [chcells_append, chcells_append]
  have h0 := h 0
  simp only [Nat.add_zero] at h0
  rw [h0, h 1]
  rfl
/-- A block of choices. -/
def Cb (w : World) (g : Nat) (L : List Cho) : Prop := w.heap[g]? = some (.cells (chcells L).toArray 92 (0, 0))
theorem Cb.cell {w : World} {g : Nat} {L : List Cho} (h : Cb w g L) {i : Nat} (hi : i < L.length) : w.cell? ⟨g, i * 2, none⟩ = some (.int .i64 ((choAt L i).1 : Int)) ∧ w.cell? ⟨g, i * 2 + 1, none⟩ = some (.int .i64 ((choAt L i).2 : Int)) := by
  obtain ⟨e0, e1⟩ := chcells_at hi
  exact ⟨by rw [cell_of_row w g _ _ _ _ h, List.getElem?_toArray]; exact e0, by rw [cell_of_row w g _ _ _ _ h, List.getElem?_toArray]; exact e1⟩
theorem Cb.frozen {w : World} {g : Nat} {L : List Cho} (h : Cb w g L) (i : Nat) : w.frozen? ⟨g, i, none⟩ = false := frozen_of_row w g i _ _ h
theorem Cb.lt {w : World} {g : Nat} {L : List Cho} (h : Cb w g L) : g < w.heap.size := (Array.getElem?_eq_some_iff.1 h).1
theorem Cb.below {w w' : World} {g : Nat} {L : List Cho} (h : Cb w g L) {B : Nat} (hb : Below B w w') (hg : g < B) : Cb w' g L := (hb.block g hg).trans h
theorem Cb.put {w : World} {g : Nat} {T N : List Cho} {x : Cho} (h : Cb w g (T ++ x :: N)) {k : Nat} (hk : T.length = k) (v : Cho) : Cb ((w.setCell ⟨g, k * 2, none⟩ (.int .i64 (v.1 : Int))).setCell ⟨g, k * 2 + 1, none⟩ (.int .i64 (v.2 : Int))) g (T ++ v :: N) := by
  subst hk
  have e1 := heap_setCell_same w g (T.length * 2) _ _ (.int .i64 (v.1 : Int)) h
  have e2 := heap_setCell_same _ g (T.length * 2 + 1) _ _ (.int .i64 (v.2 : Int)) e1
  unfold Cb
  rw [e2, List.setIfInBounds_toArray, List.setIfInBounds_toArray, chcells_set]
/-- The choices of words. -/
def Chosen (l : List Nat) (ws : List Nat) (L : List Cho) : Prop := L.length = ws.length ∧ ∀ i, i < ws.length → Near l (nw ws i) (choAt L i).1 (choAt L i).2

theorem madeCells_cho (n : Nat) : madeCells #[.int .i64 0, .int .i64 0] (n * 2) = (chcells (List.replicate n ((0, 0) : Cho))).toArray := by
  apply Array.ext'
  apply List.ext_getElem
  · simp [madeCells, chcells_length]
  · intro i h1 h2
    rw [chcells_length, List.length_replicate] at h2
    have hd : i = i / 2 * 2 + i % 2 := by omega
    have hc := chcells_at (l := List.replicate n ((0, 0) : Cho)) (i := i / 2) (by rw [List.length_replicate]; omega)
    have hcz : choAt (List.replicate n ((0, 0) : Cho)) (i / 2) = (0, 0) := by rw [choAt_eq (by rw [List.length_replicate]; omega)]; simp
    rw [hcz] at hc
    rcases Nat.mod_two_eq_zero_or_one i with e | e
    · have e2 : i / 2 * 2 = i := by omega
      rw [e2] at hc
      have := hc.1
      rw [List.getElem?_eq_getElem (by rw [chcells_length, List.length_replicate]; exact h2)] at this
      injection this with this
      simp [madeCells, this, e]
    · have e2 : i / 2 * 2 + 1 = i := by omega
      rw [e2] at hc
      have := hc.2
      rw [List.getElem?_eq_getElem (by rw [chcells_length, List.length_replicate]; exact h2)] at this
      injection this with this
      simp [madeCells, this, e]

theorem run_make_cho (k1 k2 : IntKind) (u : Int) (n : Nat) (hu : u = (n : Int)) (hn : n ≤ 2000000000) (W : World) :
    (Instr.makeSlice 89 (.int k1 u) (.int k2 u)).run Try.prog W = .ok (.slice (some ⟨W.heap.size, 0, none⟩) n n) (W.alloc (.cells (chcells (List.replicate n (0, 0))).toArray 92)) := by
  obtain ⟨i0, hi, hz0, hz1, hz2⟩ := info_parts infoCh
  have := run_make (P := Try.prog) W 89 92 i0 (.agg #[.int .i64 0, .int .i64 0]) Try.underlying89 hi hz0 k1 k2 u u (by omega) (Int.le_refl _) (by rw [hz2]; omega) (by omega)
  rw [this, hu]
  simp only [Int.toNat_natCast, hz1]
  have e : (Value.agg #[.int .i64 0, .int .i64 0]).cells = #[.int .i64 0, .int .i64 0] := rfl
  rw [e]
  rw [madeCells_cho]

/-- The first m choices are made. -/
def ChoTo (l ws : List Nat) (m : Nat) (L : List Cho) : Prop := L.length = ws.length ∧ ∀ i, i < m → Near l (nw ws i) (choAt L i).1 (choAt L i).2
theorem ChoTo.step {l ws : List Nat} {m k d : Nat} {L : List Cho} (h : ChoTo l ws m L) (hm : m < ws.length) (hn : Near l (nw ws m) k d) : ∃ T N x, L = T ++ x :: N ∧ T.length = m ∧ ChoTo l ws (m + 1) (T ++ (k, d) :: N) := by
  have hlen := h.1
  refine ⟨L.take m, L.drop (m + 1), choAt L m, ?_, by rw [List.length_take]; omega, ?_⟩
  · rw [choAt_eq (by omega), ← List.drop_eq_getElem_cons (by omega), List.take_append_drop]
  · refine ⟨by simp; omega, fun i hi => ?_⟩
    have hT : (L.take m).length = m := by rw [List.length_take]; omega
    by_cases e : i = m
    · subst e
      have : choAt (L.take i ++ (k, d) :: L.drop (i + 1)) i = (k, d) := by
        simp only [choAt, List.getD]
        rw [List.getElem?_append_right (by omega), hT, Nat.sub_self]
        rfl
      rw [this]; exact hn
    · have : choAt (L.take m ++ (k, d) :: L.drop (m + 1)) i = choAt L i := by
        simp only [choAt, List.getD]
        rw [List.getElem?_append_left (by omega), List.getElem?_take_of_lt (by omega)]
      rw [this]; exact h.2 i (by omega)

set_option maxRecDepth 100000 in
set_option maxHeartbeats 1600000 in
theorem choices_any (A : Option Addr) (n c : Nat) (ws : List Nat) (A2 : Option Addr) (n2 c2 : Nat) (l : List Nat) (w : World) (h : WS w A n c ws) (h2 : WS w A2 n2 c2 l) (hn : n ≤ 64) (hn2 : n2 ≤ 64) (h0 : 0 < n2) :
    Calls Try.prog 58 #[.slice A n c, .slice A2 n2 c2] w fun e w' => (∃ g L, e = .returned (.slice (some ⟨g, 0, none⟩) n n) ∧ w.heap.size ≤ g ∧ Cb w' g L ∧ Chosen l ws L) ∧ Below w.heap.size w w' := by
  have hcap := h.le_cap
  have hcl := h.cap_le
  have hcap2 := h2.le_cap
  have hcl2 := h2.cap_le
  have hlen := Lib.hid h.len
  have hW := Lib.hid h.2
  have hmk := run_make_cho .i64 .i64 (n : Int) n rfl (by omega)
  obtain ⟨L0, hL0⟩ : ∃ L0 : List Cho, List.replicate n (0, 0) = L0 := ⟨_, rfl⟩
  have hL0l : ChoTo l ws 0 L0 := ⟨by rw [← hL0, ← h.len]; simp, fun i hi => absurd hi (Nat.not_lt_zero _)⟩
  obtain ⟨C0, hC0⟩ : ∃ C0, (chcells L0).toArray = C0 := ⟨_, rfl⟩
  rw [hL0, hC0] at hmk
  obtain ⟨W1, hW1⟩ : ∃ W1, w.alloc (.cells C0 92) = W1 := ⟨_, rfl⟩
  have hb1 : Below w.heap.size w W1 := by rw [← hW1]; exact (Below.refl _ _).alloc (Nat.le_refl _) _
  have hs1 : WS W1 A n c ws := by rw [← hW1]; exact h.alloc _
  have hs2 : WS W1 A2 n2 c2 l := by rw [← hW1]; exact h2.alloc _
  have cb1 : Cb W1 w.heap.size L0 := by rw [← hW1, ← hC0]; exact heap_alloc_new w _
  have z1 : W1.heap.size = w.heap.size + 1 := by rw [← hW1]; simp
  have o1 := h.1.old
  have o2 := h2.1.old
  have hL0l' := Lib.hid hL0l
  have hs1' := Lib.hid hs1
  have hs2' := Lib.hid hs2
  have hW1' := Lib.hid hW1
  have hC0' := Lib.hid hC0
  clear h h2 hs1 hs2 hL0l hL0 hC0 hW1
  go_enter Try.func58, Try.ntmps58
  go_wp2
  go_loopw [13] (fun i wr => ∃ (m : Nat) (L : List Cho), m ≤ n ∧ i = .int .i64 (m : Int) ∧ Cb wr w.heap.size L ∧ Hid (ChoTo l ws m L) ∧ Only W1 wr w.heap.size) (fun i _ => n - (intOf i).toNat)
  case atStart =>
    rw [hW1'.out]
    exact ⟨0, L0, Nat.zero_le _, rfl, cb1, hL0l', Only.refl _ _⟩
  case round =>
    clear cb1
    obtain ⟨m, L, hm, rfl, hcb, hcho, ho⟩ := hrel
    by_cases hlt : m < n
    · have hki : (m : Int) < (n : Int) := by omega
      have hs := hs1'.out.only ho (fun h0 b off e => by have := o1 h0 b off e; omega)
      have ht := hs2'.out.only ho (fun h0 b off e => by have := o2 h0 b off e; omega)
      obtain ⟨bb, off, rfl, hbw, hc⟩ := hs.at_ (by omega)
      obtain ⟨y, hy⟩ : ∃ y, nw ws m = y := ⟨_, rfl⟩
      have hcm := hc m hlt
      rw [hy] at hcm
      have k1 := Lib.hid (nearest_any A2 n2 c2 l y wr ht (by rw [← hy]; exact hW.out.nw m) h0 (by omega))
      obtain ⟨t0, t1⟩ := hcb.cell (i := m) (by rw [hcho.out.1, ← hlen.out]; exact hlt)
      obtain ⟨u0, hu0⟩ : ∃ u0, Value.int .i64 ((choAt L m).1 : Int) = u0 := ⟨_, rfl⟩
      obtain ⟨u1, hu1⟩ : ∃ u1, Value.int .i64 ((choAt L m).2 : Int) = u1 := ⟨_, rfl⟩
      rw [hu0] at t0
      rw [hu1] at t1
      have g0 := hcb.frozen (m * 2)
      have g1 := hcb.frozen (m * 2 + 1)
      replace hu0 := Lib.hid hu0
      replace hu1 := Lib.hid hu1
      replace hy := Lib.hid hy
      clear hc hs ht
      go_wp2_with (go_at_call 37; refine k1.out.mono ?_; rintro e w' ⟨⟨k, d, rfl, hN⟩, rfl⟩; replace hN := Lib.hid hN)
      obtain ⟨T, N, x, hL, hTl, hnx⟩ := hcho.out.step (by rw [← hlen.out]; exact hlt) (by rw [hy.out]; exact hN.out)
      go_roundw
      case rel => exact ⟨m + 1, T ++ (k, d) :: N, hlt, by go_num, Cb.put (x := x) (by rw [← hL]; exact hcb) hTl (k, d), Lib.hid hnx, (ho.setCell rfl _).setCell rfl _⟩
      case measure => simp [intOf]; omega
    · obtain rfl : m = n := by omega
      have hki : ¬ (m : Int) < (m : Int) := by omega
      go_wp2
      go_ret
      exact ⟨⟨w.heap.size, rfl, Nat.le_refl _, L, hcb, hcho.out.1, fun i hi => hcho.out.2 i (by rw [hlen.out]; exact hi)⟩, hb1.trans (ho.below (Nat.le_refl _) (by omega))⟩

end Go.Proofs.Ytofoiocpopmifaa
