/-
  Walks: the reference's Copy, New, At, Inside; New of package raster.
-/
import Derived.Test.YtehnemdifkjhcaaRaD
import Derived.Laws.AppendOwnNone
set_option linter.unusedSimpArgs false
set_option linter.unusedVariables false
namespace Go.Proofs.Ytehnemdifkjhcaa
open Go.RowKit

/-- A row of the call's own, of any length. -/
def Ow (w : World) (B : Nat) (A : Option Addr) (n c : Nat) (P : List Int) : Prop :=
  n = P.length ∧ n ≤ c ∧ c ≤ 9223372036854775807 ∧ (0 < n → ∃ g, A = some ⟨g, 0, none⟩ ∧ B ≤ g ∧ Bl w g P)
theorem Ow.sl {w : World} {B : Nat} {A : Option Addr} {n c : Nat} {P : List Int} (h : Ow w B A n c P) : Sl w A n c P := by
  refine ⟨h.1, h.2.1, h.2.2.1, fun h0 => ?_⟩
  obtain ⟨g, rfl, _, hb⟩ := h.2.2.2 h0
  exact ⟨g, 0, rfl, fun i hi => by rw [Nat.zero_add]; exact hb.cell (by rw [← h.1]; exact hi)⟩
theorem Ow.of_own {w : World} {B : Nat} {v : Value} {n : Nat} {P : List Int} (h : w.ownsRow B 3 1 v n (cells P)) : ∃ A c, v = .slice A n c ∧ Ow w B A n c P := by
  have h1 := h.1
  rw [cells_length, Nat.mul_one] at h1
  rcases h.2 with ⟨rfl, h0⟩ | ⟨g, cap, cur, rfl, hB, hh, hnc, hcm, hcs, htake⟩
  · have : n = 0 := by rw [h0] at h1; simp [cells] at h1; simpa using h0
    subst this
    exact ⟨none, 0, rfl, h1.symm, Nat.le_refl _, by omega, fun h => absurd h (by omega)⟩
  · refine ⟨_, _, rfl, h1.symm, hnc, by simpa [maxLen] using hcm, fun h0 => ⟨g, rfl, hB, ?_⟩⟩
    obtain ⟨g', cap', he, _, hbl, _⟩ := Bl.of_own h h0
    injection he with e1 e2 e3
    injection e1 with e1
    injection e1 with e1
    subst e1
    exact hbl
theorem Ow.keep {w w' : World} {B : Nat} {A : Option Addr} {n c : Nat} {P : List Int} (h : Ow w B A n c P) (hk : ∀ g, B ≤ g → g < w.heap.size → w'.heap[g]? = w.heap[g]?) : Ow w' B A n c P :=
  ⟨h.1, h.2.1, h.2.2.1, fun h0 => by
    obtain ⟨g, e, hB, hb⟩ := h.2.2.2 h0
    exact ⟨g, e, hB, hb.keep (hk g hB hb.lt)⟩⟩
theorem Ow.far {w : World} {B : Nat} {A : Option Addr} {n c : Nat} {P : List Int} (h : Ow w B A n c P) {p : Addr} (hp : p.block < B) (u : Value) : Ow (w.setCell p u) B A n c P :=
  h.keep fun g hB _ => Below.heap_setCell w p u g (by omega)
theorem Ow.mono {w : World} {B B' : Nat} {A : Option Addr} {n c : Nat} {P : List Int} (h : Ow w B A n c P) (hB : B' ≤ B) : Ow w B' A n c P :=
  ⟨h.1, h.2.1, h.2.2.1, fun h0 => by
    obtain ⟨g, e, hB', hb⟩ := h.2.2.2 h0
    exact ⟨g, e, by omega, hb⟩⟩

/-- A raster that the call returns, in memory of its own. -/
def RetO (w : World) (W H M : Int) (P : List Int) (e : Ending) (w' : World) : Prop :=
  ∃ A n c, e = .returned (.agg #[.int .i64 W, .int .i64 H, .int .i64 M, .slice A n c]) ∧ Ow w' w.heap.size A n c P ∧ Below w.heap.size w w'
theorem RetO.ret {w : World} {W H M : Int} {P : List Int} {e : Ending} {w' : World} (h : RetO w W H M P e w') (h0 : 0 < P.length) : RetF w W H M P e w' := by
  obtain ⟨A, n, c, rfl, ho, hb⟩ := h
  obtain ⟨g, rfl, hg, hbl⟩ := ho.2.2.2 (by rw [ho.1]; exact h0)
  exact ⟨g, n, c, rfl, hg, hbl, ho.1, ho.2.1, ho.2.2.1, hb⟩

theorem RB.grown {w w' : World} {g : Nat} {W H M : Int} {A : Option Addr} {n c : Nat} {row : Option Nat} (h : RB w g W H M A n c) (hg : w.grownBy w' row) (hne : some g ≠ row) : RB w' g W H M A n c := h.keep (hg.block g h.lt hne)

set_option maxHeartbeats 1600000 in
/-- Copy of the reference. -/
theorem rCopy_some (W H M : Int) (a : Addr) (n c : Nat) (P : List Int) (w : World) (h : Sl w (some a) n c P) (hn : n ≤ 1000000) :
    Calls Try.prog 17 #[.agg #[.int .i64 W, .int .i64 H, .int .i64 M, .slice (some a) n c]] w (RetO w W H M P) := by
  have hlen := Lib.hid h.len
  obtain ⟨i0, hi, hz0, hz1, hz2⟩ := info_parts infoI
  have hb := (((Below.refl w.heap.size w).alloc (Nat.le_refl _) (.cells #[.int .i64 W, .int .i64 H, .int .i64 M, .slice (some a) n c] 24)).alloc (by simp) (.cells #[.int .i64 0, .int .i64 0, .int .i64 0, .slice none 0 0] 24)).alloc (by simp <;> omega) (.cells #[] 3)
  have hs := ((h.alloc (.cells #[.int .i64 W, .int .i64 H, .int .i64 M, .slice (some a) n c] 24)).alloc (.cells #[.int .i64 0, .int .i64 0, .int .i64 0, .slice none 0 0] 24)).alloc (.cells #[] 3)
  have k0 := ((RB.new w W H M (some a) n c).alloc (.cells #[.int .i64 0, .int .i64 0, .int .i64 0, .slice none 0 0] 24)).alloc (.cells #[] 3)
  have k1 := (RB.new (w.alloc (.cells #[.int .i64 W, .int .i64 H, .int .i64 M, .slice (some a) n c] 24)) 0 0 0 none 0 0).alloc (.cells #[] 3)
  have hown := World.ownsRow_made (base := w.heap.size + 2) (e := 3) (size := 1) ((w.alloc (.cells #[.int .i64 W, .int .i64 H, .int .i64 M, .slice (some a) n c] 24)).alloc (.cells #[.int .i64 0, .int .i64 0, .int .i64 0, .slice none 0 0] 24)) #[] 0 (by simp) (Nat.zero_le _) rfl
  simp only [World.size_alloc] at k1 hown
  replace hs := Lib.hid hs
  clear h
  go_enter Try.func17, Try.ntmps17
  go_wp2_with (at_builtin; refine wpList_append_own _ rfl _ _ 22 rfl (w.heap.size + 2) 3 i0 (.int .i64 0) 1 8 Try.underlying22 hi hz0 hz1 hz2 rfl (by decide) _ _ _ rfl hown a n c (cells P) rfl ?qc1 ?qc2 ?qc3 ?qc4 ?qc5 ?qc6 ?_)
  case qc1 => rw [cells_length, ← hlen.out, Nat.mul_one]
  case qc2 =>
    intro j u hj
    have hjn : j < n := by
      have := (List.getElem?_eq_some_iff.1 hj).1
      rw [cells_length, ← hlen.out] at this
      exact this
    obtain ⟨b, off, e, _, hc⟩ := hs.out.at_ (by omega)
    injection e with e
    subst e
    rw [Addr.add_lit, hc j hjn]
    rw [cells_at (by rw [← hlen.out]; exact hjn)] at hj
    exact hj
  case qc3 => exact cells_one
  case qc4 => unfold maxLen; omega
  case qc5 => omega
  case qc6 => simp
  intro v' w1 hown1 hgrow hnil
  have hown2 : w1.ownsRow (w.heap.size + 2) 3 1 v' n (cells P) := by simpa using hown1
  obtain ⟨A', c', rfl, ho⟩ := Ow.of_own hown2
  obtain ⟨⟨d0, d1, d2, d3⟩, f0, f1, f2, f3⟩ := (k0.grown hgrow (by simp [Value.ownBlock] <;> omega)).cells
  obtain ⟨⟨d4, d5, d6, d7⟩, f4, f5, f6, f7⟩ := (k1.grown hgrow (by simp [Value.ownBlock] <;> omega)).cells
  have hbw := hb.grown hgrow (by simp <;> omega) (by intro k hk; simp [Value.ownBlock] at hk; omega)
  clear hgrow hnil hown1 hown2 hown k0 k1
  go_wp2
  refine bodyPost_ret (v := .agg #[.int .i64 W, .int .i64 H, .int .i64 M, .slice A' n c']) (by simp [results, Try.results17, go_sem, d4, d5, d6, d7, f4, f5, f6, f7]) rfl ?_
  refine ⟨A', n, c', rfl, ?_, ?_⟩
  · refine Ow.mono (B := w.heap.size + 2) ?_ (by omega)
    repeat (refine Ow.far ?_ (by simp <;> omega) _)
    exact ho
  · repeat (refine Below.setCell ?_ (by simp <;> omega) _)
    exact hbw

set_option maxHeartbeats 1600000 in
/-- Copy of the reference, where there are no pixels. -/
theorem rCopy_none (W H M : Int) (w : World) :
    Calls Try.prog 17 #[.agg #[.int .i64 W, .int .i64 H, .int .i64 M, .slice none 0 0]] w (RetO w W H M []) := by
  obtain ⟨i0, hi, hz0, hz1, hz2⟩ := info_parts infoI
  have hb := (((Below.refl w.heap.size w).alloc (Nat.le_refl _) (.cells #[.int .i64 W, .int .i64 H, .int .i64 M, .slice none 0 0] 24)).alloc (by simp) (.cells #[.int .i64 0, .int .i64 0, .int .i64 0, .slice none 0 0] 24)).alloc (by simp <;> omega) (.cells #[] 3)
  have hown := World.ownsRow_made (base := w.heap.size + 2) (e := 3) (size := 1) ((w.alloc (.cells #[.int .i64 W, .int .i64 H, .int .i64 M, .slice none 0 0] 24)).alloc (.cells #[.int .i64 0, .int .i64 0, .int .i64 0, .slice none 0 0] 24)) #[] 0 (by simp) (Nat.zero_le _) rfl
  simp only [World.size_alloc] at hown
  go_enter Try.func17, Try.ntmps17
  go_wp2_with (at_builtin; refine wpList_append_own_none rfl _ _ 22 rfl (w.heap.size + 2) 3 i0 1 Try.underlying22 hi _ _ _ rfl hown rfl ?_)
  refine bodyPost_ret (v := .agg #[.int .i64 W, .int .i64 H, .int .i64 M, .slice (some ⟨w.heap.size + 1 + 1, 0, none⟩) 0 0]) (by simp [results, Try.results17, go_sem]) rfl ?_
  exact ⟨some ⟨w.heap.size + 1 + 1, 0, none⟩, 0, 0, rfl, ⟨rfl, Nat.le_refl _, by omega, fun h => absurd h (by omega)⟩, (((Below.refl w.heap.size w).alloc (Nat.le_refl _) _).alloc (by simp) _).alloc (by simp <;> omega) _⟩

theorem rCopy_any (W H M : Int) (A : Option Addr) (n c : Nat) (P : List Int) (w : World) (h : Sl w A n c P) (hA : A = none → c = 0) (hn : n ≤ 1000000) :
    Calls Try.prog 17 #[.agg #[.int .i64 W, .int .i64 H, .int .i64 M, .slice A n c]] w (RetO w W H M P) := by
  cases A with
  | some a => exact rCopy_some W H M a n c P w h hn
  | none =>
    have hc := hA rfl
    subst hc
    have h0 : n = 0 := by have := h.le_cap; omega
    subst h0
    have hl : P = [] := List.eq_nil_of_length_eq_zero h.len.symm
    subst hl
    exact rCopy_none W H M w

set_option maxHeartbeats 1600000 in
/-- New of the reference. -/
theorem rNew_any (a b : Nat) (M : Int) (w : World) (ha : 1 ≤ a) (ha2 : a ≤ 64) (hb : 1 ≤ b) (hb2 : b ≤ 64) :
    Calls Try.prog 20 #[.int .i64 a, .int .i64 b, .int .i64 M] w (RetO w a b M (List.replicate (a * b) 0)) := by
  obtain ⟨N, hN⟩ : ∃ n, a * b = n := ⟨_, rfl⟩
  have e1 : (a : Int) * (b : Int) = (N : Int) := by rw [← hN]; simp
  have hN2 : N ≤ 4096 := by rw [← hN]; exact Nat.mul_le_mul ha2 hb2
  rw [hN]
  replace hN := Lib.hid hN
  obtain ⟨i0, hi, hz0, hz1, hz2⟩ := info_parts infoI
  have k0 := (RB.new w 0 0 0 none 0 0).alloc (.cells #[.int .i64 a, .int .i64 b, .int .i64 M, .slice none 0 0] 24)
  have k1 := RB.new (w.alloc (.cells #[.int .i64 0, .int .i64 0, .int .i64 0, .slice none 0 0] 24)) a b M none 0 0
  have hb0 := ((Below.refl w.heap.size w).alloc (Nat.le_refl _) (.cells #[.int .i64 0, .int .i64 0, .int .i64 0, .slice none 0 0] 24)).alloc (by simp) (.cells #[.int .i64 a, .int .i64 b, .int .i64 M, .slice none 0 0] 24)
  simp only [World.size_alloc] at k1
  have hsz0 : w.heap.size + 2 ≤ ((w.alloc (.cells #[.int .i64 0, .int .i64 0, .int .i64 0, .slice none 0 0] 24)).alloc (.cells #[.int .i64 a, .int .i64 b, .int .i64 M, .slice none 0 0] 24)).heap.size := by simp
  go_enter Try.func20, Try.ntmps20
  go_wp2
  go_loopw [8] (fun i wr => ∃ (k : Nat) (A : Option Addr) (c : Nat), k ≤ N ∧ i = .int .i64 (k : Int) ∧ RB wr w.heap.size 0 0 0 none 0 0 ∧ RB wr (w.heap.size + 1) a b M A k c ∧ wr.ownsRow (w.heap.size + 2) 3 1 (.slice A k c) k (cells (List.replicate k 0)) ∧ Below w.heap.size w wr ∧ w.heap.size + 2 ≤ wr.heap.size) (fun i _ => N - (intOf i).toNat)
  case atStart => exact ⟨0, none, 0, Nat.zero_le _, rfl, k0, k1, ⟨rfl, .inl ⟨rfl, rfl⟩⟩, hb0, hsz0⟩
  case round =>
    clear k0 k1 hb0 hsz0
    obtain ⟨k, A, c, hk, rfl, k0, k1, hown, hB, hsz⟩ := hrel
    obtain ⟨⟨d0, d1, d2, d3⟩, f0, f1, f2, f3⟩ := k0.cells
    obtain ⟨⟨d4, d5, d6, d7⟩, f4, f5, f6, f7⟩ := k1.cells
    by_cases hlt : k < N
    · have k0' := k0.alloc (.cells #[.int .i64 0] 3)
      have k1' := k1.alloc (.cells #[.int .i64 0] 3)
      have hB' := hB.alloc hB.size (.cells #[.int .i64 0] 3)
      have hown' := hown.alloc (.cells #[.int .i64 0] 3)
      have hb1 := hown'.lt
      go_wp2_with (at_builtin; refine wpList_append_own _ rfl _ _ 22 rfl (w.heap.size + 2) 3 i0 (.int .i64 0) 1 8 Try.underlying22 hi hz0 hz1 hz2 rfl (by decide) _ _ _ rfl hown' ⟨wr.heap.size, 0, none⟩ 1 1 [.int .i64 0] rfl rfl ?qc1 ?qc2 ?qc3 ?qc4 ?qc5 ?_)
      case qc1 =>
        intro j u hj
        have : j = 0 := by
          have := (List.getElem?_eq_some_iff.1 hj).1
          simp at this; omega
        subst this
        simp at hj
        subst hj
        simp [go_sem, Addr.add]
      case qc2 => intro u hu; simp at hu; subst hu; rfl
      case qc3 => unfold maxLen; omega
      case qc4 => omega
      case qc5 => simp; omega
      intro v' w1 hown1 hgrow hnil
      have hown2 : w1.ownsRow (w.heap.size + 2) 3 1 v' (k + 1) (cells (List.replicate (k + 1) 0)) := by
        rw [List.replicate_succ']
        rw [cells_append]
        exact hown1
      obtain ⟨A', c', rfl, -⟩ := Ow.of_own hown2
      have hne : ∀ g, g < w.heap.size + 2 → some g ≠ (Value.slice A k c).ownBlock := fun g hg e => by have := hb1 g e.symm; omega
      have k2 := k0'.grown hgrow (hne _ (by omega))
      have k3 := k1'.grown hgrow (hne _ (by omega))
      have hB2 := hB'.grown hgrow (by have := hB.size; simp; omega) (fun g hg => by have := hb1 g hg; omega)
      have hsz2 : w.heap.size + 2 ≤ w1.heap.size := by have := hgrow.size; simp at this; omega
      have hown3 := hown2.kept ((Only.refl w1 (w.heap.size + 1)).setCell (p := ⟨w.heap.size + 1, 3, none⟩) rfl (.slice A' (k + 1) c')) (.inr fun e => by have := hown2.lt _ e; omega)
      obtain ⟨⟨e4, e5, e6, e7⟩, g4, g5, g6, g7⟩ := k3.cells
      clear hown1 hgrow hnil hown hown' hb1 d0 d1 d2 d3 d4 d5 d6 d7 f0 f1 f2 f3 f4 f5 f6 f7 hne
      go_wp2
      go_roundw
      case rel => exact ⟨k + 1, A', c', hlt, by go_num, k2.far (by simp) _, k3.set3 _ _ _, hown3, hB2.setCell (by simp) _, by simpa using hsz2⟩
      case measure => simp [intOf]; omega
    · obtain rfl : k = N := by omega
      obtain ⟨A', c', e, ho⟩ := Ow.of_own hown
      cases e
      go_wp2
      refine bodyPost_ret (v := .agg #[.int .i64 a, .int .i64 b, .int .i64 M, .slice A k c]) (by simp [results, Try.results20, go_sem, d0, d1, d2, d3, f0, f1, f2, f3]) rfl ?_
      refine ⟨A, k, c, rfl, ?_, ?_⟩
      · refine Ow.mono (B := w.heap.size + 2) ?_ (by omega)
        repeat (refine Ow.far ?_ (by simp <;> omega) _)
        exact ho
      · repeat (refine Below.setCell ?_ (by simp <;> omega) _)
        exact hB

set_option maxHeartbeats 800000 in
/-- At of the reference. -/
theorem rAt_any (a : Nat) (H M : Int) (A : Option Addr) (n c : Nat) (P : List Int) (w : World) (x y : Int) (i j q : Nat) (h : Sl w A n c P) (hx : x = (i : Int)) (hy : y = (j : Int)) (hq : q = j * a) (hle : q + i < n) (hn : n ≤ 1000000) :
    Calls Try.prog 24 #[.agg #[.int .i64 a, .int .i64 H, .int .i64 M, .slice A n c], .int .i64 x, .int .i64 y] w fun e w' => e = .returned (.int .i64 (nth P (q + i))) ∧ Below w.heap.size w w' := by
  subst hx hy
  obtain ⟨b, off, rfl, _, hc⟩ := (h.alloc (.cells #[.int .i64 a, .int .i64 H, .int .i64 M, .slice A n c] 24)).at_ (by omega)
  have hcell := hc (q + i) hle
  have hcap := h.le_cap
  have hcl := h.cap_le
  clear hc h
  have e1 : (j : Int) * (a : Int) = (q : Int) := by rw [hq]; simp
  have hb0 := (Below.refl w.heap.size w).alloc (Nat.le_refl _) (.cells #[.int .i64 a, .int .i64 H, .int .i64 M, .slice (some ⟨b, off, none⟩) n c] 24)
  clear hq
  generalize nth P (q + i) = v at hcell
  go_enter Try.func24, Try.ntmps24
  go_wp2
  go_ret
  exact ⟨rfl, hb0⟩

/-- Is (x, y) a pixel? -/
def ins (W H x y : Int) : Bool := (decide (0 ≤ x) && decide (x < W)) && (decide (0 ≤ y) && decide (y < H))
theorem ins_iff {W H x y : Int} : ins W H x y = true ↔ (0 ≤ x ∧ x < W) ∧ 0 ≤ y ∧ y < H := by simp [ins]

set_option maxHeartbeats 800000 in
/-- Inside of the reference. -/
theorem rInside_any (W H M : Int) (A : Option Addr) (n c : Nat) (x y : Int) (w : World) :
    Calls Try.prog 23 #[.agg #[.int .i64 W, .int .i64 H, .int .i64 M, .slice A n c], .int .i64 x, .int .i64 y] w fun e w' => e = .returned (.bool (ins W H x y)) ∧ Below w.heap.size w w' := by
  have hb0 := (Below.refl w.heap.size w).alloc (Nat.le_refl _) (.cells #[.int .i64 W, .int .i64 H, .int .i64 M, .slice A n c] 24)
  by_cases h1 : x < 0
  · have hd : decide (0 ≤ x) = false := by simp; omega
    have hf : Hid (ins W H x y = false) := Lib.hid (by unfold ins; rw [hd]; rfl)
    go_enter Try.func23, Try.ntmps23
    go_wp2
    go_ret
    exact ⟨ret_bool hf.out.symm, hb0⟩
  have h1' : 0 ≤ x := by omega
  have hd1 : decide (0 ≤ x) = true := by simp; omega
  by_cases h2 : W ≤ x
  · have hd : decide (x < W) = false := by simp; omega
    have hf : Hid (ins W H x y = false) := Lib.hid (by unfold ins; rw [hd]; simp)
    go_enter Try.func23, Try.ntmps23
    go_wp2
    go_ret
    exact ⟨ret_bool hf.out.symm, hb0⟩
  have h2' : x < W := by omega
  have hd2 : decide (x < W) = true := by simp; omega
  by_cases h3 : y < 0
  · have hd : decide (0 ≤ y) = false := by simp; omega
    have hf : Hid (ins W H x y = false) := Lib.hid (by unfold ins; rw [hd]; simp)
    go_enter Try.func23, Try.ntmps23
    go_wp2
    go_ret
    exact ⟨ret_bool hf.out.symm, hb0⟩
  have h3' : 0 ≤ y := by omega
  have hd3 : decide (0 ≤ y) = true := by simp; omega
  have hf : Hid (ins W H x y = decide (y < H)) := Lib.hid (by unfold ins; rw [hd1, hd2, hd3]; simp)
  go_enter Try.func23, Try.ntmps23
  go_wp2
  go_ret
  exact ⟨ret_bool hf.out.symm, hb0⟩

/-- New of package raster, where it is out of range. -/
theorem New_no (W H M : Int) (w : World) (hf : hfm W H M = false) :
    Calls Try.prog 18 #[.int .i64 W, .int .i64 H, .int .i64 M] w fun e w' => e = .returned (.tuple #[.agg #[.int .i64 0, .int .i64 0, .int .i64 0, .slice none 0 0], .int .i64 2]) ∧ Below w.heap.size w w' := by
  have hcon : Hid (hasFormAt W H M false) := Lib.hid (hf ▸ hasForm_any W H M)
  clear hf
  go_enter Try.func18, Try.ntmps18
  go_wp2_with (go_at_call 50; refine (hcon.out _).mono ?_; rintro e w' ⟨rfl, rfl⟩)
  exact bodyPost_ret (v := .tuple #[.agg #[.int .i64 0, .int .i64 0, .int .i64 0, .slice none 0 0], .int .i64 2]) (by simp [results, Try.results18, go_sem]) rfl ⟨rfl, (Below.refl _ _).alloc (Nat.le_refl _) _⟩

/-- A raster and OK. -/
def RetR (w : World) (W H M : Int) (P : List Int) (e : Ending) (w' : World) : Prop :=
  ∃ A n c, e = .returned (.tuple #[.agg #[.int .i64 W, .int .i64 H, .int .i64 M, .slice A n c], .int .i64 0]) ∧ Sl w' A n c P ∧ Below w.heap.size w w'

theorem Bl.sl0 {w : World} {g n c : Nat} {P : List Int} (h : Bl w g P) (hn : n = P.length) (hc : n ≤ c) (hcm : c ≤ 9223372036854775807) : Sl w (some ⟨g, 0, none⟩) n c P :=
  ⟨hn, hc, hcm, fun _ => ⟨g, 0, rfl, fun i hi => by rw [Nat.zero_add]; exact h.cell (by omega)⟩⟩

theorem New_yes (a b : Nat) (M : Int) (w : World) (hf : hfm a b M = true) :
    Calls Try.prog 18 #[.int .i64 a, .int .i64 b, .int .i64 M] w (RetR w a b M (List.replicate (a * b) 0)) := by
  have hcon : Hid (hasFormAt a b M true) := Lib.hid (hf ▸ hasForm_any a b M)
  have hr := hfm_iff.1 hf
  have k0 := RB.new w 0 0 0 none 0 0
  have hbl := Lib.hid (fun W : World => blank_any a b M W (by omega) (by omega) (by omega) (by omega))
  have hab : a * b ≤ 4096 := Nat.mul_le_mul (show a ≤ 64 by omega) (show b ≤ 64 by omega)
  obtain ⟨N, hN⟩ : ∃ n, a * b = n := ⟨_, rfl⟩
  rw [hN] at hbl hab ⊢
  clear hf hr hN
  have hlen : Hid (N = (List.replicate N (0 : Int)).length) := Lib.hid (by simp)
  generalize List.replicate N (0 : Int) = Z at hbl hlen ⊢
  go_enter Try.func18, Try.ntmps18
  go_wp2_with (first | (go_at_call 50; refine (hcon.out _).mono ?_; rintro e w' ⟨rfl, rfl⟩) | (go_at_call 51; refine (hbl.out _).mono ?_; rintro e w1 ⟨g, rfl, hg, hb, hb2⟩; simp only [World.size_alloc] at hg hb2; obtain ⟨⟨d0, d1, d2, d3⟩, f0, f1, f2, f3⟩ := (k0.below hb2 (by omega)).cells))
  refine bodyPost_ret (v := .tuple #[.agg #[.int .i64 a, .int .i64 b, .int .i64 M, .slice (some ⟨g, 0, none⟩) N N], .int .i64 0]) (by simp [results, Try.results18, go_sem, d0, d1, d2, d3, f0, f1, f2, f3]) rfl ?_
  refine ⟨_, _, _, rfl, ?_, ?_⟩
  · refine Bl.sl0 ?_ hlen.out (Nat.le_refl _) (by omega)
    repeat (refine Bl.far ?_ (by simp <;> omega) _)
    exact hb
  · repeat (refine Below.setCell ?_ (by simp <;> omega) _)
    exact ((Below.refl _ w).alloc (Nat.le_refl _) _).trans (hb2.mono (by omega))

end Go.Proofs.Ytehnemdifkjhcaa
