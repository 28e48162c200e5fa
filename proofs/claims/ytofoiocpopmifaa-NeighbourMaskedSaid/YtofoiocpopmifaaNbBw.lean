/-
  Blocks of words; slices.Clone, Reverse at []uint64.
-/
import Derived.Test.YtofoiocpopmifaaNbMk
set_option linter.unusedSimpArgs false
set_option linter.unusedVariables false
namespace Go.Proofs.Ytofoiocpopmifaa
open Go.RowKit

theorem ucells_set (l : List Nat) (i : Nat) (x : Nat) : ucells (l.set i x) = (ucells l).set i (.int .u64 (x : Int)) := by simp [ucells, List.map_set]
theorem nw_set_self {l : List Nat} {i : Nat} {x : Nat} (h : i < l.length) : nw (l.set i x) i = x := by simp [nw, List.getD, h]
theorem nw_set_ne {l : List Nat} {i j : Nat} {x : Nat} (h : i ≠ j) : nw (l.set i x) j = nw l j := by simp [nw, List.getD, List.getElem?_set_ne h]
/-- A block whose first cells are known: they hold the words L; what lies behind them is spare. -/
def Bw (w : World) (g : Nat) (L : List Nat) : Prop := ∃ T : List Value, w.heap[g]? = some (.cells (ucells L ++ T).toArray 23 (0, 0))

section
variable {w w' : World} {A : Option Addr} {n c g : Nat} {l L : List Nat}
theorem Bw.lt (h : Bw w g L) : g < w.heap.size := by
  obtain ⟨T, h⟩ := h
  exact (Array.getElem?_eq_some_iff.1 h).1
theorem Bw.cell (h : Bw w g L) {i : Nat} (hi : i < L.length) : w.cell? ⟨g, i, none⟩ = some (.int .u64 (nw L i : Int)) := by
  obtain ⟨T, h⟩ := h
  rw [cell_of_row w g i _ _ _ h]
  have := ucells_at hi
  simp only [List.getElem?_toArray]
  rw [List.getElem?_append_left (by rw [ucells_length]; exact hi)]
  exact this
theorem Bw.frozen (h : Bw w g L) (i : Nat) : w.frozen? ⟨g, i, none⟩ = false := by
  obtain ⟨T, h⟩ := h
  exact frozen_of_row w g i _ _ h
theorem Bw.keep (h : Bw w g L) (hk : w'.heap[g]? = w.heap[g]?) : Bw w' g L := by
  obtain ⟨T, h⟩ := h
  exact ⟨T, hk.trans h⟩
theorem Bw.new (w : World) (L : List Nat) : Bw (w.alloc (.cells (ucells L).toArray 23)) w.heap.size L := ⟨[], by rw [List.append_nil]; exact heap_alloc_new w _⟩
theorem Bw.drew (h : Bw w g L) : Bw w.drew g L := h
theorem Bw.drewN (h : Bw w g L) (k : Nat) : Bw (w.drewN k) g L := h
theorem Bw.alloc (h : Bw w g L) (o : Obj) : Bw (w.alloc o) g L := h.keep (Below.heap_alloc w o g h.lt)
theorem Bw.set (h : Bw w g L) (i : Nat) (x : Nat) : Bw (w.setCell ⟨g, i, none⟩ (.int .u64 (x : Int))) g (L.set i x) := by
  obtain ⟨T, h⟩ := h
  have := heap_setCell_same w g i _ _ (.int .u64 (x : Int)) h
  by_cases hi : i < L.length
  · refine ⟨T, ?_⟩
    rw [this, ucells_set, List.setIfInBounds_toArray, List.set_append_left _ _ (by rw [ucells_length]; exact hi)]
  · have e1 : L.set i x = L := List.set_eq_of_length_le (by omega)
    refine ⟨T.set (i - L.length) (.int .u64 (x : Int)), ?_⟩
    rw [this, List.setIfInBounds_toArray, List.set_append_right _ _ (by rw [ucells_length]; omega), ucells_length, e1]
theorem Bw.set' (h : Bw w g L) (i : Nat) {x u : Nat} (hu : u = x) : Bw (w.setCell ⟨g, i, none⟩ (.int .u64 (u : Int))) g (L.set i x) := by
  rw [hu]; exact h.set i x
theorem Bw.far (h : Bw w g L) {p : Addr} (hp : g ≠ p.block) (u : Value) : Bw (w.setCell p u) g L := h.keep (Below.heap_setCell w p u g hp)
theorem Bw.below (h : Bw w g L) {B : Nat} (hb : Below B w w') (hg : g < B) : Bw w' g L := h.keep (hb.block g hg)
theorem Bw.only (h : Bw w g L) {g' : Nat} (hb : Only w w' g') (hne : g ≠ g') : Bw w' g L := h.keep (hb.block g h.lt (fun e => hne (by injection e)))

theorem Bw.of_own {B : Nat} {v : Value} (h : w.ownsRow B 23 1 v n (ucells l)) (hn : 0 < n) : ∃ g cap, v = .slice (some ⟨g, 0, none⟩) n cap ∧ B ≤ g ∧ Bw w g l ∧ n ≤ cap ∧ cap ≤ 9223372036854775807 ∧ n = l.length := by
  have h1 := h.1
  rw [ucells_length, Nat.mul_one] at h1
  rcases h.2 with ⟨_, h0⟩ | ⟨g, cap, cur, rfl, hB, hh, hnc, hcm, hcs, htake⟩
  · omega
  · refine ⟨g, cap, rfl, hB, ⟨cur.toList.drop n, ?_⟩, hnc, by simpa [maxLen] using hcm, h1.symm⟩
    rw [hh, ← htake, Nat.mul_one, List.take_append_drop]
end

/-- The first k and the last k of the n places from off on are exchanged. -/
def RevTo (L0 L : List Nat) (off n k : Nat) : Prop :=
  L.length = L0.length ∧ ∀ i, i < L0.length → nw L i = if (off ≤ i ∧ i < off + k) ∨ (off + n ≤ i + k ∧ i < off + n) then nw L0 (2 * off + n - 1 - i) else nw L0 i
theorem RevTo.start (L : List Nat) (off n : Nat) : RevTo L L off n 0 := ⟨rfl, fun i hi => by rw [if_neg (by omega)]⟩
theorem RevTo.step {L0 L : List Nat} {off n k m : Nat} (h : RevTo L0 L off n k) (hkm : k < m) (hm : k + m + 1 = n) (hn : off + n ≤ L0.length) :
    RevTo L0 ((L.set (off + k) (nw L (off + m))).set (off + m) (nw L (off + k))) off n (k + 1) := by
  refine ⟨by rw [List.length_set, List.length_set]; exact h.1, fun i hi => ?_⟩
  have h1 := h.2 (off + k) (by omega)
  have h2 := h.2 (off + m) (by omega)
  rw [if_neg (by omega)] at h1 h2
  by_cases e1 : i = off + m
  · subst e1
    rw [nw_set_self (by rw [List.length_set, h.1]; omega), if_pos (by omega), h1, show 2 * off + n - 1 - (off + m) = off + k from by omega]
  · rw [nw_set_ne (Ne.symm e1)]
    by_cases e2 : i = off + k
    · subst e2
      rw [nw_set_self (by rw [h.1]; omega), if_pos (by omega), h2, show 2 * off + n - 1 - (off + k) = off + m from by omega]
    · rw [nw_set_ne (Ne.symm e2), h.2 i hi]
      by_cases e3 : (off ≤ i ∧ i < off + k) ∨ (off + n ≤ i + k ∧ i < off + n)
      · rw [if_pos e3, if_pos (by omega)]
      · rw [if_neg e3, if_neg (by omega)]
/-- All of them. -/
def Reved (L0 L : List Nat) (off n : Nat) : Prop := L.length = L0.length ∧ ∀ i, i < L0.length → nw L i = if off ≤ i ∧ i < off + n then nw L0 (2 * off + n - 1 - i) else nw L0 i
theorem RevTo.done {L0 L : List Nat} {off n k : Nat} (h : RevTo L0 L off n k) (hk : n ≤ 2 * k + 1) (hk2 : 2 * k ≤ n) : Reved L0 L off n := by
  refine ⟨h.1, fun i hi => ?_⟩
  rw [h.2 i hi]
  by_cases e : off ≤ i ∧ i < off + n
  · rw [if_pos e]
    by_cases e2 : (off ≤ i ∧ i < off + k) ∨ (off + n ≤ i + k ∧ i < off + n)
    · rw [if_pos e2]
    · rw [if_neg e2, show 2 * off + n - 1 - i = i from by omega]
  · rw [if_neg e, if_neg (by omega)]

set_option maxRecDepth 100000 in
set_option maxHeartbeats 3200000 in
/-- slices.Reverse of a part of a block. -/
theorem Reverse_any (g off n c : Nat) (L0 : List Nat) (w : World) (hbl : Bw w g L0) (h1 : 1 ≤ n) (hn : off + n ≤ L0.length) (hc : n ≤ c) (hcm : c ≤ 9223372036854775807) :
    Calls Try.prog 35 #[.slice (some ⟨g, off, none⟩) n c] w fun e w' => (e = .returned (.tuple #[]) ∧ ∃ L, Bw w' g L ∧ Reved L0 L off n) ∧ Only w w' g := by
  go_enter Try.func35, Try.ntmps35
  go_wp2
  go_loopw [2, 3] (fun i j wr => ∃ (k : Nat) (L : List Nat), 2 * k ≤ n ∧ i = .int .i64 (k : Int) ∧ j = .int .i64 ((n : Int) - 1 - (k : Int)) ∧ Bw wr g L ∧ RevTo L0 L off n k ∧ Only w wr g) (fun i _ _ => n - (intOf i).toNat)
  case atStart => exact ⟨0, L0, by omega, rfl, by simp, hbl, RevTo.start _ _ _, Only.refl _ _⟩
  case round =>
    clear hbl
    obtain ⟨k, L, hk, rfl, rfl, hbl, hrev, ho⟩ := hrel
    by_cases hlt : 2 * k + 1 < n
    · obtain ⟨m, hm⟩ : ∃ m, n - 1 - k = m := ⟨_, rfl⟩
      have hmi : (n : Int) - 1 - (k : Int) = (m : Int) := by omega
      have hkm : k < m := by omega
      have hkm' : (k : Int) < (m : Int) := by omega
      have hsum : k + m + 1 = n := by omega
      have hll := hrev.1
      have hx := hbl.cell (i := off + k) (by omega)
      have hy := hbl.cell (i := off + m) (by omega)
      have fx := hbl.frozen (off + k)
      have fy := hbl.frozen (off + m)
      obtain ⟨x, ex⟩ : ∃ x, nw L (off + k) = x := ⟨_, rfl⟩
      obtain ⟨y, ey⟩ : ∃ y, nw L (off + m) = y := ⟨_, rfl⟩
      rw [ex] at hx
      rw [ey] at hy
      have hstep := hrev.step hkm hsum hn
      rw [ex, ey] at hstep
      replace hstep := Lib.hid hstep
      replace ex := Lib.hid ex
      replace ey := Lib.hid ey
      replace hll := Lib.hid hll
      have i1 : (0 : Int) ≤ (k : Int) := by omega
      have i2 : (k : Int) < (n : Int) := by omega
      have i3 : (0 : Int) ≤ (m : Int) := by omega
      have i4 : (m : Int) < (n : Int) := by omega
      have hne : k ≠ m := by omega
      have hne2 : m ≠ k := by omega
      have hmk : (m : Int) - 1 = (n : Int) - 1 - ((k : Int) + 1) := by omega
      replace hmk := Lib.hid hmk
      clear hm hsum hrev
      rw [hmi]
      clear hmi
      go_wp2
      go_region
      go_wp2
      go_roundw
      case rel => exact ⟨k + 1, _, by omega, by go_num, by show Value.int .i64 ((m : Int) - 1) = _; rw [hmk.out]; simp, ((hbl.set _ _).set _ _).drew, hstep.out, ((ho.setCell rfl _).setCell rfl _).drew⟩
      case measure => simp [intOf]; omega
    · have hge : (n : Int) - 1 - (k : Int) ≤ (k : Int) := by omega
      have hdone := Lib.hid (hrev.done (by omega) hk)
      go_wp2
      go_end0
      exact ⟨⟨rfl, L, hbl, hdone.out⟩, ho⟩


set_option maxHeartbeats 2000000 in
set_option maxRecDepth 100000 in
/-- slices.Clone of a slice that holds something. -/
theorem Clone_some (A : Option Addr) (n c : Nat) (l : List Nat) (w : World) (h : WS w A n c l) (h0 : 0 < n) (hn : n ≤ 1000000) :
    Calls Try.prog 34 #[.slice A n c] w fun e w' => ∃ g c', e = .returned (.slice (some ⟨g, 0, none⟩) n c') ∧ w.heap.size ≤ g ∧ Bw w' g l ∧ n ≤ c' ∧ c' ≤ 9223372036854775807 ∧ Below w.heap.size w w' := by
  obtain ⟨b, off, rfl, hbl, hc⟩ := h.at_ h0
  have hlen := Lib.hid h.len
  have hcap := h.le_cap
  obtain ⟨i0, hi, hz0, hz1, hz2⟩ := info_parts infoU
  have q22 : ∀ (w : World) (a : Option Addr) (n c n' c' : Nat), (binOp .eql 22 (.slice a n c) (.slice none n' c')).run Try.prog w = .ok (.bool a.isNone) w := fun w a n c n' c' => Lib.run_eql_slice_nil w _ _ a n c n' c' Try.underlying22
  replace hc := Lib.hid hc
  clear h
  go_enter Try.func34, Try.ntmps34
  go_wp2_with (at_builtin; refine wpList_append_own _ rfl _ _ 22 rfl w.heap.size 23 i0 (.int .u64 0) 1 8 Try.underlying22 hi hz0 hz1 hz2 rfl (by decide) _ _ _ rfl (World.ownsRow_made w #[] 0 (Nat.le_refl _) (Nat.zero_le _) rfl) ⟨b, off, none⟩ n c (ucells l) rfl ?qc1 ?qc2 ?qc3 ?qc4 ?qc5 ?qc6 ?_)
  case qc1 => rw [ucells_length, ← hlen.out, Nat.mul_one]
  case qc2 =>
    intro j u hj
    have hjn : j < n := by
      have := (List.getElem?_eq_some_iff.1 hj).1
      rw [ucells_length, ← hlen.out] at this
      exact this
    rw [Addr.add_lit]
    refine Lib.cell?_alloc_some _ ?_
    rw [hc.out j hjn]
    rw [ucells_at (by rw [← hlen.out]; exact hjn)] at hj
    exact hj
  case qc3 => exact ucells_one _
  case qc4 => unfold maxLen; omega
  case qc5 => omega
  case qc6 => simp
  intro v' w1 hown hgrow hnil
  obtain ⟨g, c', rfl, hg, hbl', hnc, hcm, -⟩ := Bw.of_own (l := l) (n := 0 + n) (by simpa using hown) (by omega)
  go_wp2
  go_ret
  refine ⟨g, c', ?_, hg, hbl', by omega, hcm, ((Below.refl _ w).alloc (Nat.le_refl _) _).grown hgrow (by simp) (by intro k hk; simp [Value.ownBlock] at hk; omega)⟩
  simp


end Go.Proofs.Ytofoiocpopmifaa
