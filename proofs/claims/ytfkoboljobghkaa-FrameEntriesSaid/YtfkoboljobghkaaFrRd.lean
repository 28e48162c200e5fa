/-
  Memory: slices of bytes; the box of a reader. Walks: a reader's byte and bit.
-/
import Derived.Test.YtfkoboljobghkaaFrWb
import Derived.Test.YtfkoboljobghkaaFrEc
import Derived.BigRegion
set_option linter.unusedSimpArgs false
set_option linter.unusedVariables false
namespace Go.Proofs.Ytfkoboljobghkaa
open Go.RowKit

/-- A slice value reads as a list of bytes (nil and empty ones let in). -/
def Sb (w : World) (A : Option Addr) (n c : Nat) (l : List Int) : Prop :=
  n = l.length ∧ n ≤ c ∧ c ≤ 9223372036854775807 ∧
    (0 < n → ∃ b off, A = some ⟨b, off, none⟩ ∧ ∀ i, i < n → w.cell? ⟨b, off + i, none⟩ = some (.int .u8 (nth l i)))

section
variable {w w' : World} {A : Option Addr} {n c g : Nat} {l L : List Int}

theorem Sb.len (h : Sb w A n c l) : n = l.length := h.1
theorem Sb.le_cap (h : Sb w A n c l) : n ≤ c := h.2.1
theorem Sb.cap_le (h : Sb w A n c l) : c ≤ 9223372036854775807 := h.2.2.1
theorem Sb.nil (w : World) : Sb w none 0 0 [] := ⟨rfl, Nat.le_refl _, by omega, fun h => by omega⟩
theorem Sb.at_ (h : Sb w A n c l) (h0 : 0 < n) : ∃ b off, A = some ⟨b, off, none⟩ ∧ b < w.heap.size ∧ ∀ i, i < n → w.cell? ⟨b, off + i, none⟩ = some (.int .u8 (nth l i)) := by
  obtain ⟨b, off, e, hc⟩ := h.2.2.2 h0
  exact ⟨b, off, e, World.block_lt_of_cell? w _ (hc 0 h0), hc⟩
theorem Sb.keep (h : Sb w A n c l) (hk : 0 < n → ∀ b i, (∃ off, A = some ⟨b, off, none⟩) → b < w.heap.size → w'.cell? ⟨b, i, none⟩ = w.cell? ⟨b, i, none⟩) : Sb w' A n c l :=
  ⟨h.1, h.2.1, h.2.2.1, fun h0 => by
    obtain ⟨b, off, e, hb, hc⟩ := h.at_ h0
    exact ⟨b, off, e, fun i hi => (hk h0 b _ ⟨off, e⟩ hb).trans (hc i hi)⟩⟩
theorem Sb.below (h : Sb w A n c l) {B : Nat} (hb : Below B w w') (hB : w.heap.size ≤ B) : Sb w' A n c l :=
  h.keep fun _ b i _ hlt => hb.cell (p := ⟨b, i, none⟩) (Nat.lt_of_lt_of_le hlt hB)
theorem Sb.below' (h : Sb w A n c l) {B : Nat} (hb : Below B w w') (hB : 0 < n → ∀ b off, A = some ⟨b, off, none⟩ → b < B) : Sb w' A n c l :=
  h.keep fun h0 b i ⟨off, e⟩ _ => hb.cell (p := ⟨b, i, none⟩) (hB h0 b off e)
theorem Sb.only (h : Sb w A n c l) (hg : Only w w' g) (hne : 0 < n → ∀ b off, A = some ⟨b, off, none⟩ → b ≠ g) : Sb w' A n c l :=
  h.keep fun h0 b i ⟨off, e⟩ hlt => World.cell?_of_block (hg.block b hlt (fun e' => hne h0 b off e (by injection e')))
theorem Sb.old (h : Sb w A n c l) : 0 < n → ∀ b off, A = some ⟨b, off, none⟩ → b < w.heap.size := fun h0 b off e => by
  obtain ⟨b', off', e', hb, _⟩ := h.at_ h0
  rw [e] at e'
  cases e'
  exact hb
theorem Sb.alloc (h : Sb w A n c l) (o : Obj) : Sb (w.alloc o) A n c l :=
  h.keep fun _ b i _ hlt => World.cell?_alloc_lt w o ⟨b, i, none⟩ hlt
theorem Sb.drew (h : Sb w A n c l) : Sb w.drew A n c l := h
theorem Sb.drewN (h : Sb w A n c l) (k : Nat) : Sb (w.drewN k) A n c l := h
theorem Sb.take (h : Sb w A n c l) {k c' : Nat} (hk : k ≤ n) (hkc : k ≤ c') (hc : c' ≤ c) : Sb w A k c' (l.take k) := by
  refine ⟨by rw [List.length_take, ← h.1]; omega, hkc, by have := h.cap_le; omega, fun h0 => ?_⟩
  obtain ⟨b, off, e, _, hcell⟩ := h.at_ (by omega)
  exact ⟨b, off, e, fun i hi => by rw [nth_take (by omega)]; exact hcell i (by omega)⟩
theorem Sb.drop (h : Sb w A n c l) {k : Nat} (hk : k ≤ n) : Sb w (if c = k then A else A.map (·.add k)) (n - k) (c - k) (l.drop k) := by
  refine ⟨by rw [List.length_drop, ← h.1], by have := h.le_cap; omega, by have := h.cap_le; omega, fun h0 => ?_⟩
  obtain ⟨b, off, rfl, _, hcell⟩ := h.at_ (by omega)
  have := h.le_cap
  rw [if_neg (by omega)]
  refine ⟨b, off + k, ?_, fun i hi => ?_⟩
  · simp only [Option.map_some, Addr.add]
    split
    · subst k; simp
    · rfl
  · rw [nth_drop, Nat.add_assoc]; exact hcell _ (by omega)

end

/-- A reader: the bytes that are left, the byte of which bits are read, how many bits of it are left. -/
structure RS where
  R : List Int
  last : Int
  left : Nat
def Byt (l : List Int) : Prop := ∀ x ∈ l, 0 ≤ x ∧ x ≤ 255
theorem Byt.nth {l : List Int} (h : Byt l) (j : Nat) : 0 ≤ nth l j ∧ nth l j ≤ 255 := by
  by_cases hj : j < l.length
  · rw [nth_eq hj]; exact h _ (List.getElem_mem hj)
  · rw [nth_end (by omega)]; omega
def RS.byte (s : RS) : RS := ⟨s.R.drop 1, Go.Proofs.Ytfkoboljobghkaa.nth s.R 0, 0⟩
def RS.full (s : RS) : RS := if s.left = 0 then ⟨s.R.drop 1, Go.Proofs.Ytfkoboljobghkaa.nth s.R 0, 8⟩ else s
def RS.next (s : RS) : RS := ⟨s.full.R, s.full.last, s.full.left - 1⟩
def RS.bit (s : RS) : Int := s.next.last / ((2 ^ s.next.left : Nat) : Int) % 2

def Rd (w : World) (g : Nat) (s : RS) : Prop :=
  ∃ A n c, w.heap[g]? = some (.cells #[.slice A n c, .int .u8 s.last, .int .i64 (s.left : Int)] 116 (0, 0)) ∧ Sb w A n c s.R ∧ (0 < n → ∀ b off, A = some ⟨b, off, none⟩ → b < g) ∧ Byt s.R ∧ (0 ≤ s.last ∧ s.last ≤ 255) ∧ s.left ≤ 8

theorem box3 {w : World} {g : Nat} {x y z : Value} {t : TypeId} (h : w.heap[g]? = some (.cells #[x, y, z] t (0, 0))) : (w.cell? ⟨g, 0, none⟩ = some x ∧ w.cell? ⟨g, 1, none⟩ = some y ∧ w.cell? ⟨g, 2, none⟩ = some z) ∧ w.frozen? ⟨g, 0, none⟩ = false ∧ w.frozen? ⟨g, 1, none⟩ = false ∧ w.frozen? ⟨g, 2, none⟩ = false := by
  refine ⟨⟨?_, ?_, ?_⟩, ?_, ?_, ?_⟩
  all_goals first | (rw [cell_of_row w g _ _ _ _ h]; rfl) | exact frozen_of_row w g _ _ _ h
theorem set3 {w : World} {g : Nat} {x y z : Value} {t : TypeId} (h : w.heap[g]? = some (.cells #[x, y, z] t (0, 0))) (u : Value) :
    (w.setCell ⟨g, 0, none⟩ u).heap[g]? = some (.cells #[u, y, z] t (0, 0)) ∧ (w.setCell ⟨g, 1, none⟩ u).heap[g]? = some (.cells #[x, u, z] t (0, 0)) ∧ (w.setCell ⟨g, 2, none⟩ u).heap[g]? = some (.cells #[x, y, u] t (0, 0)) := by
  refine ⟨?_, ?_, ?_⟩
  all_goals rw [heap_setCell_same w g _ _ _ u h]; rfl

set_option maxHeartbeats 3200000 in
set_option maxRecDepth 100000 in
theorem rbyte_any (g : Nat) (s : RS) (w : World) (h : Rd w g s) :
    Calls Try.prog 97 #[.pointer (some ⟨g, 0, none⟩)] w fun e w' => e = .returned (.int .u8 (nth s.R 0)) ∧ Rd w' g s.byte ∧ Only w w' g := by
  obtain ⟨A, n, c, hbox, hs, hne, hby, hla, hle⟩ := h
  obtain ⟨⟨d0, d1, d2⟩, f0, f1, f2⟩ := box3 hbox
  have hcap := hs.le_cap
  have hcl := hs.cap_le
  have hx0 := hby.nth 0
  by_cases hn : n = 0
  · have hR : s.R = [] := List.length_eq_zero_iff.1 (by rw [← hs.len]; exact hn)
    have hbyte : Hid (s.byte = ⟨[], 0, 0⟩ ∧ nth s.R 0 = 0) := Lib.hid (by unfold RS.byte; rw [hR]; exact ⟨rfl, rfl⟩)
    subst hn
    have hq := (set3 (set3 hbox (.int .u8 0)).2.1 (.int .i64 0)).2.2
    have hO : Only w ((w.setCell ⟨g, 1, none⟩ (.int .u8 0)).setCell ⟨g, 2, none⟩ (.int .i64 0)) g := ((Only.refl w g).setCell rfl _).setCell rfl _
    replace hR := Lib.hid hR
    go_enter Try.func97, Try.ntmps97
    go_wp2
    go_ret
    refine ⟨by rw [hbyte.out.2]; rfl, ?_, hO⟩
    rw [hbyte.out.1]
    exact ⟨A, 0, c, hq, ⟨rfl, Nat.zero_le _, hcl, fun h => by omega⟩, fun h => by omega, (fun x hx => by cases hx), by simp, by simp⟩
  · obtain ⟨b, off, rfl, hbw, hc⟩ := hs.at_ (by omega)
    have hbl := hne (by omega) b off rfl
    have hbg : b ≠ g := Nat.ne_of_lt hbl
    have hc0 := hc 0 (by omega)
    rw [Nat.add_zero] at hc0
    obtain ⟨m, rfl⟩ : ∃ m, n = m + 1 := ⟨n - 1, by omega⟩
    obtain ⟨x, hx⟩ : ∃ x, nth s.R 0 = x := ⟨_, rfl⟩
    rw [hx] at hc0 hx0
    have hbyte : Hid (s.byte = ⟨s.R.drop 1, x, 0⟩) := Lib.hid (by unfold RS.byte; rw [hx])
    have hdr := hs.drop (k := 1) (by omega)
    have hbyd : Byt (s.R.drop 1) := fun y hy => hby y (List.mem_of_mem_drop hy)
    replace hc0 : w.cell? ⟨b, off, none⟩ = some (.int .u8 x) := hc0
    clear hc
    replace hx := Lib.hid hx
    by_cases hc1 : c = 1
    · obtain rfl : m = 0 := by omega
      subst hc1
      have hR1 : s.R.drop 1 = [] := List.drop_of_length_le (by rw [← hs.len]; omega)
      replace hR1 := Lib.hid hR1
      have q1 := (set3 (set3 hbox (.int .u8 0)).2.1 (.int .i64 0)).2.2
      have q2 := (set3 (set3 q1 (.int .u8 x)).2.1 (.slice (some ⟨b, off, none⟩) 0 0)).1
      have q3 := (set3 (set3 q1 (.slice (some ⟨b, off, none⟩) 0 0)).1 (.int .u8 x)).2.1
      replace q1 := Lib.hid q1
      replace q2 := Lib.hid q2
      replace q3 := Lib.hid q3
      go_enter Try.func97, Try.ntmps97
      go_wp2
      go_region
      all_goals
        go_wp2
        go_ret
        refine ⟨by rw [hx.out]; rfl, ?_, by repeat (first | refine Only.drew ?_ | refine Only.setCell ?_ rfl _ | exact Only.refl w g)⟩
        rw [hbyte.out]
        rw [hR1.out]
        exact ⟨some ⟨b, off, none⟩, 0, 0, by first | exact q2.out | exact q3.out, ⟨rfl, Nat.zero_le _, by omega, fun h => by omega⟩, fun h => by omega, (fun y hy => by cases hy), hx0, by simp⟩
    · have hdl : Hid (Sb w (some ⟨b, off + 1, none⟩) m (c - 1) (s.R.drop 1)) := Lib.hid (by
        rw [if_neg hc1] at hdr
        simpa [Addr.add] using hdr)
      have hm1 : (m : Int) + 1 - 1 = (m : Int) := by omega
      have q1 := (set3 (set3 hbox (.int .u8 0)).2.1 (.int .i64 0)).2.2
      have q2 := (set3 (set3 q1 (.int .u8 x)).2.1 (.slice (some ⟨b, off + 1, none⟩) m (c - 1))).1
      have q3 := (set3 (set3 q1 (.slice (some ⟨b, off + 1, none⟩) m (c - 1))).1 (.int .u8 x)).2.1
      replace q1 := Lib.hid q1
      replace q2 := Lib.hid q2
      replace q3 := Lib.hid q3
      go_enter Try.func97, Try.ntmps97
      go_wp2
      go_region
      all_goals
        go_wp2
        go_ret
        refine ⟨by rw [hx.out]; rfl, ?_, by repeat (first | refine Only.drew ?_ | refine Only.setCell ?_ rfl _ | exact Only.refl w g)⟩
        rw [hbyte.out]
        refine ⟨some ⟨b, off + 1, none⟩, m, c - 1, by first | exact q2.out | exact q3.out, ?_, fun h b' off' e => by cases e; exact hbl, hbyd, hx0, by simp⟩
        refine hdl.out.only (g := g) ?_ (fun h b' off' e => by cases e; exact hbg)
        repeat (first | refine Only.drew ?_ | refine Only.setCell ?_ rfl _ | exact Only.refl w g)

end Go.Proofs.Ytfkoboljobghkaa
