/-
  Walks: built, Build of package neighbour, for at most twenty words, or too many.
-/
import Derived.Test.YtofoiocpopmifaaNbPl
set_option linter.unusedSimpArgs false
set_option linter.unusedVariables false
namespace Go.Proofs.Ytofoiocpopmifaa
open Go.RowKit

theorem infoI : (Try.prog.info? 3).map (fun i => (i.zero, i.size, i.bytes)) = some (some (.int .i64 0), 1, 8) := by kernel_rfl
/-- make([]int, n). -/
theorem run_make_i64 (k1 k2 : IntKind) (u : Int) (n : Nat) (hu : u = (n : Int)) (hn : n ≤ 2000000000) (W : World) :
    (Instr.makeSlice 29 (.int k1 u) (.int k2 u)).run Try.prog W = .ok (.slice (some ⟨W.heap.size, 0, none⟩) n n) (W.alloc (.cells (cells (List.replicate n 0)).toArray 3)) := by
  obtain ⟨i0, hi, hz0, hz1, hz2⟩ := info_parts infoI
  have := run_make (P := Try.prog) W 29 3 i0 (.int .i64 0) Try.underlying29 hi hz0 k1 k2 u u (by omega) (Int.le_refl _) (by rw [hz2]; omega) (by omega)
  rw [this, hu]
  simp only [Int.toNat_natCast, hz1, Nat.mul_one]
  have e : (Value.int .i64 0).cells = #[.int .i64 0] := rfl
  rw [e, madeCells_i64, cells_replicate]

theorem plant_all {B g gT gL gP : Nat} {A : Option Addr} {n c : Nat} {l : List Nat} (G : Gnd B g gT gL gP A n c l) : ∀ m, m ≤ 20 → PlantOk B g gT gL gP A n c l m := by
  intro m
  induction m using Nat.strongRecOn with
  | _ m ih =>
    intro hm
    cases m with
    | zero => exact plant_none B g gT gL gP A n c l
    | succ k => exact plant_some B g gT gL gP A n c l k G hm (fun j hj => ih j (by omega) (by omega))

/-- The indices of n words. -/
def idx (n : Nat) : List Int := (List.range n).map fun i : Nat => (i : Int)
theorem idx_length (n : Nat) : (idx n).length = n := by simp [idx]
theorem idx_nth {n i : Nat} (h : i < n) : nth (idx n) i = (i : Int) := by rw [nth_eq (by rw [idx_length]; exact h)]; simp [idx]
theorem idx_item {n : Nat} : ∀ x ∈ idx n, isItem n x := fun x hx => by
  obtain ⟨i, hi, rfl⟩ := List.mem_map.1 hx
  have := List.mem_range.1 hi
  exact ⟨by omega, by omega⟩
/-- The first k are written. -/
def IdTo (n k : Nat) (L : List Int) : Prop := L.length = n ∧ ∀ i, i < k → nth L i = (i : Int)
theorem IdTo.step {n k : Nat} {L : List Int} (h : IdTo n k L) (hk : k < n) : IdTo n (k + 1) (L.set k (k : Int)) := ⟨by rw [List.length_set]; exact h.1, fun i hi => by
  by_cases e : i = k
  · rw [e, nth_set_self (by rw [h.1]; exact hk)]
  · rw [nth_set_ne (Ne.symm e)]; exact h.2 i (by omega)⟩
theorem IdTo.done {n : Nat} {L : List Int} (h : IdTo n n L) : L = idx n := nth_ext (by rw [h.1, idx_length]) fun i hi => by rw [h.2 i (by rw [← h.1]; exact hi), idx_nth (by rw [← h.1]; exact hi)]

set_option maxRecDepth 100000 in
set_option maxHeartbeats 3200000 in
theorem built_any (A : Option Addr) (n c : Nat) (l : List Nat) (w : World) (h : WS w A n c l) (hn : n ≤ 20) :
    Calls Try.prog 41 #[.slice A n c] w fun e w' => (∃ (T : List Van) (v : Value), e = .returned v ∧ Planted l (idx n) 0 T ∧ w'.ownsRow w.heap.size 71 4 v n (vcells T)) ∧ Below w.heap.size w w' := by
  have hcap := h.le_cap
  have hcl := h.cap_le
  have hmk := run_make_i64 .i64 .i64 (n : Int) n rfl (by omega)
  obtain ⟨L0, hL0⟩ : ∃ L0, List.replicate n (0 : Int) = L0 := ⟨_, rfl⟩
  have hL0l : IdTo n 0 L0 := ⟨by rw [← hL0]; simp, fun i hi => absurd hi (Nat.not_lt_zero _)⟩
  obtain ⟨C0, hC0⟩ : ∃ C0, (cells L0).toArray = C0 := ⟨_, rfl⟩
  rw [hL0, hC0] at hmk
  obtain ⟨fv, hfv⟩ : ∃ fv, Value.func (.func 52) #[] #[.pointer (some ⟨w.heap.size + 1, 0, none⟩), .pointer (some ⟨w.heap.size, 0, none⟩), .pointer (some ⟨w.heap.size + 1 + 1, 0, none⟩)] = fv := ⟨_, rfl⟩
  obtain ⟨W1, hW1⟩ : ∃ W1, w.alloc (.cells #[.slice A n c] 22) = W1 := ⟨_, rfl⟩
  obtain ⟨W2, hW2⟩ : ∃ W2, W1.alloc (.cells #[.slice none 0 0] 39) = W2 := ⟨_, rfl⟩
  obtain ⟨W3, hW3⟩ : ∃ W3, W2.alloc (.cells #[fv] 82) = W3 := ⟨_, rfl⟩
  obtain ⟨W4, hW4⟩ : ∃ W4, W3.alloc (.cells C0 3) = W4 := ⟨_, rfl⟩
  have s1 : W1.heap.size = w.heap.size + 1 := by rw [← hW1]; simp
  have s2 : W2.heap.size = w.heap.size + 1 + 1 := by rw [← hW2]; simp [s1]
  have s3 : W3.heap.size = w.heap.size + 1 + 1 + 1 := by rw [← hW3]; simp [s2]
  have s4 : W4.heap.size = w.heap.size + 1 + 1 + 1 + 1 := by rw [← hW4]; simp [s3]
  have hB4 : Below w.heap.size w W4 := by
    rw [← hW4, ← hW3, ← hW2, ← hW1]
    exact ((((Below.refl w.heap.size w).alloc (Nat.le_refl _) _).alloc (by simp) _).alloc (by simp; omega) _).alloc (by simp; omega) _
  have G : Gnd (w.heap.size + 1 + 1 + 1 + 1) (w.heap.size + 1 + 1 + 1) (w.heap.size + 1) w.heap.size (w.heap.size + 1 + 1) A n c l :=
    ⟨hn, fun h0 b off e => by have := h.1.old h0 b off e; omega, by omega, by omega, by omega, by omega, by omega, by omega, by omega, by omega, by omega⟩
  have kT4 : W4.heap[w.heap.size + 1]? = some (.cells #[.slice none 0 0] 39 (0, 0)) := by
    have e := heap_alloc_new W1 (.cells #[.slice none 0 0] 39)
    rw [hW2, s1] at e
    rw [← hW4, Below.heap_alloc _ _ _ (by omega), ← hW3, Below.heap_alloc _ _ _ (by omega)]
    exact e
  have kL4 : W4.cell? ⟨w.heap.size, 0, none⟩ = some (.slice A n c) := by
    have e := cell_of_row _ w.heap.size 0 _ _ _ (heap_alloc_new w (.cells #[.slice A n c] 22))
    rw [hW1] at e
    rw [← hW4, World.cell?_alloc_lt _ _ _ (by simp; omega), ← hW3, World.cell?_alloc_lt _ _ _ (by simp; omega), ← hW2, World.cell?_alloc_lt _ _ _ (by simp; omega)]
    exact e
  have kP4 : W4.cell? ⟨w.heap.size + 1 + 1, 0, none⟩ = some fv := by
    have e := cell_of_row _ _ 0 _ _ _ (heap_alloc_new W2 (.cells #[fv] 82))
    rw [hW3, s2] at e
    rw [← hW4, World.cell?_alloc_lt _ _ _ (by simp; omega)]
    exact e
  have bl4 : Bl W4 (w.heap.size + 1 + 1 + 1) L0 := by
    have e := Bl.new W3 L0
    rw [hC0, hW4, s3] at e
    exact e
  have st4 : PSt (w.heap.size + 1 + 1 + 1 + 1) (w.heap.size + 1) w.heap.size (w.heap.size + 1 + 1) A n c l [] (.slice none 0 0) W4 :=
    ⟨World.ownsRow_nil _ _ _ _, kT4, kL4, by rw [kP4, hfv], h.below hB4 (Nat.le_refl _), by omega⟩
  have hpl := Lib.hid (plant_all G n hn)
  have hG := Lib.hid G
  have hst4 := Lib.hid st4
  have hL0l' := Lib.hid hL0l
  replace hC0 := Lib.hid hC0
  have eg := enters_plant
  have hfv' := Lib.hid hfv
  have hWall := hW4
  rw [← hW3, ← hW2, ← hW1, ← hfv] at hWall
  replace hWall := Lib.hid hWall
  clear G st4 hL0l h hL0 kT4 kL4 kP4 hfv hW1 hW2 hW3 hW4
  go_enter Try.func41, Try.ntmps41
  go_wp2
  go_loopw [13] (fun i wr => ∃ (k : Nat) (L : List Int), k ≤ n ∧ i = .int .i64 (k : Int) ∧ Bl wr (w.heap.size + 1 + 1 + 1) L ∧ Hid (IdTo n k L) ∧ Only W4 wr (w.heap.size + 1 + 1 + 1)) (fun i _ => n - (intOf i).toNat)
  case atStart =>
    rw [hWall.out]
    exact ⟨0, L0, Nat.zero_le _, rfl, bl4, hL0l', Only.refl _ _⟩
  case round =>
    clear bl4
    obtain ⟨k, L, hk, rfl, hbl, hid, ho⟩ := hrel
    by_cases hlt : k < n
    · have hki : (k : Int) < (n : Int) := by omega
      have hnx := Lib.hid (hid.out.step hlt)
      obtain ⟨u, hu⟩ : ∃ u, nth L k = u := ⟨_, rfl⟩
      have htc := hbl.cell (i := k) (by rw [hid.out.1]; exact hlt)
      have htf := hbl.frozen k
      rw [hu] at htc
      replace hu := Lib.hid hu
      go_wp2
      go_roundw
      case rel => exact ⟨k + 1, L.set k (k : Int), hlt, by go_num, hbl.set _ _, hnx, ho.setCell rfl _⟩
      case measure => simp [intOf]; omega
    · obtain rfl : k = n := by omega
      have hki : ¬ (k : Int) < (k : Int) := by omega
      have hdone := hid.out.done
      subst hdone
      have st := hst4.out.keep hG.out ho
      have blk : Bl wr (w.heap.size + 1 + 1 + 1) ([] ++ (idx k ++ [])) := by rw [List.nil_append, List.append_nil]; exact hbl
      have hcall := Lib.hid (hpl.out [] (idx k) [] [] _ wr (some ⟨w.heap.size + 1 + 1 + 1, 0, none⟩) k (idx_length k) (Nat.le_refl _) (by omega) (fun _ => rfl) idx_item st blk (by simp; omega))
      have kP := st.kP
      have htx : (([] : List Van)).length = 0 := rfl
      clear st blk hbl hid
      go_wp2_with (go_at_fn 52; refine hcall.out.mono ?_; rintro e w5 ⟨⟨N, tv5, M5, rfl, hpd, st5, bl5, hM5⟩, pl5⟩; have kT5 := cell_of_row w5 (w.heap.size + 1) 0 _ _ _ st5.kT; simp only [List.getElem?_toArray, List.getElem?_cons_zero] at kT5)
      have hB5 : Below w.heap.size w w5 := by
        have hB4' := hB4.trans (ho.below (B := w.heap.size) (by omega) hB4.size)
        exact ⟨pl5.os.trans hB4'.os, pl5.tape.trans hB4'.tape, pl5.output.trans hB4'.output, Nat.le_trans hB4'.size pl5.size, fun i hi => (pl5.block i (by omega) (by omega) (by omega)).trans (hB4'.block i hi)⟩
      have own5 := st5.own
      have hl5 : ([] ++ N).length = k := by rw [List.nil_append, hpd.length, idx_length]
      rw [hl5, List.nil_append] at own5
      go_ret
      exact ⟨⟨N, tv5, rfl, hpd, own_mono own5 (by omega)⟩, hB5⟩

/-- Build of at most twenty words. -/
theorem Build_ok (A : Option Addr) (n c : Nat) (l : List Nat) (w : World) (h : WS w A n c l) (hn : n ≤ 20) :
    Calls Try.prog 20 #[.slice A n c] w fun e w' => (∃ (T : List Van) (T' : Option Addr) (c' : Nat), e = .returned (.tuple #[.slice T' n c', .int .i64 0]) ∧ Planted l (idx n) 0 T ∧ SR w' T' n c' 4 (vcells T) ∧ T.length = n) ∧ Below w.heap.size w w' := by
  have hcl := h.cap_le
  have hcap := h.le_cap
  have k0 := Lib.hid (isLong_at (n := n) (b := false) (by omega) (by simp; omega))
  have k1 := Lib.hid (built_any A n c l w h hn)
  clear h
  go_enter Try.func20, Try.ntmps20
  go_wp2_with (first | (go_at_call 36; refine (k0.out _ _ _).mono ?_; rintro e w' ⟨rfl, rfl⟩) | (go_at_call 41; refine k1.out.mono ?_; rintro e w' ⟨⟨T, v, rfl, hp, ho⟩, hb⟩))
  obtain ⟨T', c', rfl, hs, -, -⟩ := own_form ho
  exact bodyPost_ret (v := .tuple #[.slice T' n c', .int .i64 0]) (by simp [results, Try.results20, go_sem]) rfl ⟨⟨T, T', c', rfl, hp, hs, by rw [hp.length, idx_length]⟩, hb⟩
theorem Build_long (A : Option Addr) (n c : Nat) (w : World) (hn : n ≤ 9223372036854775807) (h : 64 < n) :
    Calls Try.prog 20 #[.slice A n c] w fun e w' => e = .returned (.tuple #[.slice none 0 0, .int .i64 3]) ∧ w = w' := by
  have k0 := Lib.hid (isLong_at (b := true) hn (by simp [h]))
  go_enter Try.func20, Try.ntmps20
  go_wp2_with (go_at_call 36; refine (k0.out _ _ _).mono ?_; rintro e w' ⟨rfl, rfl⟩)
  exact bodyPost_ret (v := .tuple #[.slice none 0 0, .int .i64 3]) (by simp [results, Try.results20, go_sem]) rfl ⟨rfl, rfl⟩

end Go.Proofs.Ytofoiocpopmifaa
