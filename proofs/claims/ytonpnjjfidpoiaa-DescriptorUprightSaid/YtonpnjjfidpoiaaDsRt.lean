/-
  Walks: Copy, New, Turn of the reference.
-/
import Derived.Test.YtonpnjjfidpoiaaDsRp
set_option linter.unusedSimpArgs false
set_option linter.unusedVariables false
set_option maxRecDepth 20000
namespace Go.Proofs.Ytonpnjjfidpoiaa
open Go.RowKit

/-- A raster in memory of the call's own: its pixels can be written. -/
def RetF (w : World) (W H M : Int) (P : List Int) (e : Ending) (w' : World) : Prop :=
  ∃ g n c, e = .returned (.agg #[.int .i64 W, .int .i64 H, .int .i64 M, .slice (some ⟨g, 0, none⟩) n c]) ∧ w.heap.size ≤ g ∧ Bl w' g P ∧ n = P.length ∧ n ≤ c ∧ c ≤ 9223372036854775807 ∧ Below w.heap.size w w'

/-- A row of the call's own, of any length. -/
def Ow (w : World) (B : Nat) (A : Option Addr) (n c : Nat) (P : List Int) : Prop :=
  n = P.length ∧ n ≤ c ∧ c ≤ 9223372036854775807 ∧ (0 < n → ∃ g, A = some ⟨g, 0, none⟩ ∧ B ≤ g ∧ Bl w g P)
theorem Ow.sl {w : World} {B : Nat} {A : Option Addr} {n c : Nat} {P : List Int} (h : Ow w B A n c P) : Sl w A n c P := by
  refine ⟨h.1, h.2.1, h.2.2.1, fun h0 => ?_⟩
  obtain ⟨g, rfl, _, hb⟩ := h.2.2.2 h0
  exact ⟨g, 0, rfl, fun i hi => by rw [Nat.zero_add]; exact hb.cell (by rw [← h.1]; exact hi)⟩
theorem Ow.of_own {w : World} {B : Nat} {v : Value} {n : Nat} {P : List Int} (h : w.ownsRow B 3 1 v n (cells P)) : ∃ A c, v = .slice A n c ∧ Ow w B A n c P := by
  have h1 := h.1
  rw [cells_length, Nat.mul_one] at h1
  rcases h.2 with ⟨rfl, h0⟩ | ⟨g, cap, cur, rfl, hB, hh, hnc, hcm, hcs, htake⟩
  · have : n = 0 := by rw [h0] at h1; simp [cells] at h1; simpa using h0
    subst this
    exact ⟨none, 0, rfl, h1.symm, Nat.le_refl _, by omega, fun h => absurd h (by omega)⟩
  · refine ⟨_, _, rfl, h1.symm, hnc, by simpa [maxLen] using hcm, fun h0 => ⟨g, rfl, hB, ?_⟩⟩
    obtain ⟨g', cap', he, _, hbl, _⟩ := Bl.of_own h h0
    injection he with e1 e2 e3
    injection e1 with e1
    injection e1 with e1
    subst e1
    exact hbl
theorem Ow.keep {w w' : World} {B : Nat} {A : Option Addr} {n c : Nat} {P : List Int} (h : Ow w B A n c P) (hk : ∀ g, B ≤ g → g < w.heap.size → w'.heap[g]? = w.heap[g]?) : Ow w' B A n c P :=
  ⟨h.1, h.2.1, h.2.2.1, fun h0 => by
    obtain ⟨g, e, hB, hb⟩ := h.2.2.2 h0
    exact ⟨g, e, hB, hb.keep (hk g hB hb.lt)⟩⟩
theorem Ow.far {w : World} {B : Nat} {A : Option Addr} {n c : Nat} {P : List Int} (h : Ow w B A n c P) {p : Addr} (hp : p.block < B) (u : Value) : Ow (w.setCell p u) B A n c P :=
  h.keep fun g hB _ => Below.heap_setCell w p u g (by omega)
theorem Ow.mono {w : World} {B B' : Nat} {A : Option Addr} {n c : Nat} {P : List Int} (h : Ow w B A n c P) (hB : B' ≤ B) : Ow w B' A n c P :=
  ⟨h.1, h.2.1, h.2.2.1, fun h0 => by
    obtain ⟨g, e, hB', hb⟩ := h.2.2.2 h0
    exact ⟨g, e, by omega, hb⟩⟩

/-- A raster that the call returns, in memory of its own. -/
def RetO (w : World) (W H M : Int) (P : List Int) (e : Ending) (w' : World) : Prop :=
  ∃ A n c, e = .returned (.agg #[.int .i64 W, .int .i64 H, .int .i64 M, .slice A n c]) ∧ Ow w' w.heap.size A n c P ∧ Below w.heap.size w w'
theorem RetO.ret {w : World} {W H M : Int} {P : List Int} {e : Ending} {w' : World} (h : RetO w W H M P e w') (h0 : 0 < P.length) : RetF w W H M P e w' := by
  obtain ⟨A, n, c, rfl, ho, hb⟩ := h
  obtain ⟨g, rfl, hg, hbl⟩ := ho.2.2.2 (by rw [ho.1]; exact h0)
  exact ⟨g, n, c, rfl, hg, hbl, ho.1, ho.2.1, ho.2.2.1, hb⟩

theorem RB.grown {w w' : World} {g : Nat} {W H M : Int} {A : Option Addr} {n c : Nat} {row : Option Nat} (h : RB w g W H M A n c) (hg : w.grownBy w' row) (hne : some g ≠ row) : RB w' g W H M A n c := h.keep (hg.block g h.lt hne)

set_option maxHeartbeats 1600000 in
/-- Copy of the reference. -/
theorem rCopy_some (W H M : Int) (a : Addr) (n c : Nat) (P : List Int) (w : World) (h : Sl w (some a) n c P) (hn : n ≤ 1000000) :
    Calls Try.prog 33 #[.agg #[.int .i64 W, .int .i64 H, .int .i64 M, .slice (some a) n c]] w (RetO w W H M P) := by
  have hlen := Lib.hid h.len
  obtain ⟨i0, hi, hz0, hz1, hz2⟩ := info_parts infoI
  have hb := (((Below.refl w.heap.size w).alloc (Nat.le_refl _) (.cells #[.int .i64 W, .int .i64 H, .int .i64 M, .slice (some a) n c] 37)).alloc (by simp) (.cells #[.int .i64 0, .int .i64 0, .int .i64 0, .slice none 0 0] 37)).alloc (by simp <;> omega) (.cells #[] 3)
  have hs := ((h.alloc (.cells #[.int .i64 W, .int .i64 H, .int .i64 M, .slice (some a) n c] 37)).alloc (.cells #[.int .i64 0, .int .i64 0, .int .i64 0, .slice none 0 0] 37)).alloc (.cells #[] 3)
  have k0 := ((RB.new w W H M (some a) n c).alloc (.cells #[.int .i64 0, .int .i64 0, .int .i64 0, .slice none 0 0] 37)).alloc (.cells #[] 3)
  have k1 := (RB.new (w.alloc (.cells #[.int .i64 W, .int .i64 H, .int .i64 M, .slice (some a) n c] 37)) 0 0 0 none 0 0).alloc (.cells #[] 3)
  have hown := World.ownsRow_made (base := w.heap.size + 2) (e := 3) (size := 1) ((w.alloc (.cells #[.int .i64 W, .int .i64 H, .int .i64 M, .slice (some a) n c] 37)).alloc (.cells #[.int .i64 0, .int .i64 0, .int .i64 0, .slice none 0 0] 37)) #[] 0 (by simp) (Nat.zero_le _) rfl
  simp only [World.size_alloc] at k1 hown
  replace hs := Lib.hid hs
  clear h
  go_enter Try.func33, Try.ntmps33
  go_wp2_with (at_builtin; refine wpList_append_own _ rfl _ _ 35 rfl (w.heap.size + 2) 3 i0 (.int .i64 0) 1 8 Try.underlying35 hi hz0 hz1 hz2 rfl (by decide) _ _ _ rfl hown a n c (cells P) rfl ?qc1 ?qc2 ?qc3 ?qc4 ?qc5 ?qc6 ?_)
  case qc1 => rw [cells_length, ← hlen.out, Nat.mul_one]
  case qc2 =>
    intro j u hj
    have hjn : j < n := by
      have := (List.getElem?_eq_some_iff.1 hj).1
      rw [cells_length, ← hlen.out] at this
      exact this
    obtain ⟨b, off, e, _, hc⟩ := hs.out.at_ (by omega)
    injection e with e
    subst e
    rw [Addr.add_lit, hc j hjn]
    rw [cells_at (by rw [← hlen.out]; exact hjn)] at hj
    exact hj
  case qc3 => exact cells_one
  case qc4 => unfold maxLen; omega
  case qc5 => omega
  case qc6 => simp
  intro v' w1 hown1 hgrow hnil
  have hown2 : w1.ownsRow (w.heap.size + 2) 3 1 v' n (cells P) := by simpa using hown1
  obtain ⟨A', c', rfl, ho⟩ := Ow.of_own hown2
  obtain ⟨⟨d0, d1, d2, d3⟩, f0, f1, f2, f3⟩ := (k0.grown hgrow (by simp [Value.ownBlock] <;> omega)).cells
  obtain ⟨⟨d4, d5, d6, d7⟩, f4, f5, f6, f7⟩ := (k1.grown hgrow (by simp [Value.ownBlock] <;> omega)).cells
  have hbw := hb.grown hgrow (by simp <;> omega) (by intro k hk; simp [Value.ownBlock] at hk; omega)
  clear hgrow hnil hown1 hown2 hown k0 k1
  go_wp2
  refine bodyPost_ret (v := .agg #[.int .i64 W, .int .i64 H, .int .i64 M, .slice A' n c']) (by simp [results, Try.results33, go_sem, d4, d5, d6, d7, f4, f5, f6, f7]) rfl ?_
  refine ⟨A', n, c', rfl, ?_, ?_⟩
  · refine Ow.mono (B := w.heap.size + 2) ?_ (by omega)
    repeat (refine Ow.far ?_ (by simp <;> omega) _)
    exact ho
  · repeat (refine Below.setCell ?_ (by simp <;> omega) _)
    exact hbw

set_option maxHeartbeats 1600000 in
/-- Copy of the reference, where there are no pixels. -/
theorem rCopy_none (W H M : Int) (w : World) :
    Calls Try.prog 33 #[.agg #[.int .i64 W, .int .i64 H, .int .i64 M, .slice none 0 0]] w (RetO w W H M []) := by
  obtain ⟨i0, hi, hz0, hz1, hz2⟩ := info_parts infoI
  have hb := (((Below.refl w.heap.size w).alloc (Nat.le_refl _) (.cells #[.int .i64 W, .int .i64 H, .int .i64 M, .slice none 0 0] 37)).alloc (by simp) (.cells #[.int .i64 0, .int .i64 0, .int .i64 0, .slice none 0 0] 37)).alloc (by simp <;> omega) (.cells #[] 3)
  have hown := World.ownsRow_made (base := w.heap.size + 2) (e := 3) (size := 1) ((w.alloc (.cells #[.int .i64 W, .int .i64 H, .int .i64 M, .slice none 0 0] 37)).alloc (.cells #[.int .i64 0, .int .i64 0, .int .i64 0, .slice none 0 0] 37)) #[] 0 (by simp) (Nat.zero_le _) rfl
  simp only [World.size_alloc] at hown
  go_enter Try.func33, Try.ntmps33
  go_wp2_with (at_builtin; refine wpList_append_own_none rfl _ _ 35 rfl (w.heap.size + 2) 3 i0 1 Try.underlying35 hi _ _ _ rfl hown rfl ?_)
  refine bodyPost_ret (v := .agg #[.int .i64 W, .int .i64 H, .int .i64 M, .slice (some ⟨w.heap.size + 1 + 1, 0, none⟩) 0 0]) (by simp [results, Try.results33, go_sem]) rfl ?_
  exact ⟨some ⟨w.heap.size + 1 + 1, 0, none⟩, 0, 0, rfl, ⟨rfl, Nat.le_refl _, by omega, fun h => absurd h (by omega)⟩, (((Below.refl w.heap.size w).alloc (Nat.le_refl _) _).alloc (by simp) _).alloc (by simp <;> omega) _⟩

theorem rCopy_any (W H M : Int) (A : Option Addr) (n c : Nat) (P : List Int) (w : World) (h : Sl w A n c P) (hA : A = none → c = 0) (hn : n ≤ 1000000) :
    Calls Try.prog 33 #[.agg #[.int .i64 W, .int .i64 H, .int .i64 M, .slice A n c]] w (RetO w W H M P) := by
  cases A with
  | some a => exact rCopy_some W H M a n c P w h hn
  | none =>
    have hc := hA rfl
    subst hc
    have h0 : n = 0 := by have := h.le_cap; omega
    subst h0
    have hl : P = [] := List.eq_nil_of_length_eq_zero h.len.symm
    subst hl
    exact rCopy_none W H M w

set_option maxHeartbeats 1600000 in
/-- New of the reference. -/
theorem rNew_any (a b : Nat) (M : Int) (w : World) (ha : 1 ≤ a) (ha2 : a ≤ 64) (hb : 1 ≤ b) (hb2 : b ≤ 64) :
    Calls Try.prog 48 #[.int .i64 a, .int .i64 b, .int .i64 M] w (RetO w a b M (List.replicate (a * b) 0)) := by
  obtain ⟨N, hN⟩ : ∃ n, a * b = n := ⟨_, rfl⟩
  have e1 : (a : Int) * (b : Int) = (N : Int) := by rw [← hN]; simp
  have hN2 : N ≤ 4096 := by rw [← hN]; exact Nat.mul_le_mul ha2 hb2
  rw [hN]
  replace hN := Lib.hid hN
  obtain ⟨i0, hi, hz0, hz1, hz2⟩ := info_parts infoI
  have k0 := (RB.new w 0 0 0 none 0 0).alloc (.cells #[.int .i64 a, .int .i64 b, .int .i64 M, .slice none 0 0] 37)
  have k1 := RB.new (w.alloc (.cells #[.int .i64 0, .int .i64 0, .int .i64 0, .slice none 0 0] 37)) a b M none 0 0
  have hb0 := ((Below.refl w.heap.size w).alloc (Nat.le_refl _) (.cells #[.int .i64 0, .int .i64 0, .int .i64 0, .slice none 0 0] 37)).alloc (by simp) (.cells #[.int .i64 a, .int .i64 b, .int .i64 M, .slice none 0 0] 37)
  simp only [World.size_alloc] at k1
  have hsz0 : w.heap.size + 2 ≤ ((w.alloc (.cells #[.int .i64 0, .int .i64 0, .int .i64 0, .slice none 0 0] 37)).alloc (.cells #[.int .i64 a, .int .i64 b, .int .i64 M, .slice none 0 0] 37)).heap.size := by simp
  go_enter Try.func48, Try.ntmps48
  go_wp2
  go_loopw [8] (fun i wr => ∃ (k : Nat) (A : Option Addr) (c : Nat), k ≤ N ∧ i = .int .i64 (k : Int) ∧ RB wr w.heap.size 0 0 0 none 0 0 ∧ RB wr (w.heap.size + 1) a b M A k c ∧ wr.ownsRow (w.heap.size + 2) 3 1 (.slice A k c) k (cells (List.replicate k 0)) ∧ Below w.heap.size w wr ∧ w.heap.size + 2 ≤ wr.heap.size) (fun i _ => N - (intOf i).toNat)
  case atStart => exact ⟨0, none, 0, Nat.zero_le _, rfl, k0, k1, ⟨rfl, .inl ⟨rfl, rfl⟩⟩, hb0, hsz0⟩
  case round =>
    clear k0 k1 hb0 hsz0
    obtain ⟨k, A, c, hk, rfl, k0, k1, hown, hB, hsz⟩ := hrel
    obtain ⟨⟨d0, d1, d2, d3⟩, f0, f1, f2, f3⟩ := k0.cells
    obtain ⟨⟨d4, d5, d6, d7⟩, f4, f5, f6, f7⟩ := k1.cells
    by_cases hlt : k < N
    · have k0' := k0.alloc (.cells #[.int .i64 0] 3)
      have k1' := k1.alloc (.cells #[.int .i64 0] 3)
      have hB' := hB.alloc hB.size (.cells #[.int .i64 0] 3)
      have hown' := hown.alloc (.cells #[.int .i64 0] 3)
      have hb1 := hown'.lt
      go_wp2_with (at_builtin; refine wpList_append_own _ rfl _ _ 35 rfl (w.heap.size + 2) 3 i0 (.int .i64 0) 1 8 Try.underlying35 hi hz0 hz1 hz2 rfl (by decide) _ _ _ rfl hown' ⟨wr.heap.size, 0, none⟩ 1 1 [.int .i64 0] rfl rfl ?qc1 ?qc2 ?qc3 ?qc4 ?qc5 ?_)
      case qc1 =>
        intro j u hj
        have : j = 0 := by
          have := (List.getElem?_eq_some_iff.1 hj).1
          simp at this; omega
        subst this
        simp at hj
        subst hj
        simp [go_sem, Addr.add]
      case qc2 => intro u hu; simp at hu; subst hu; rfl
      case qc3 => unfold maxLen; omega
      case qc4 => omega
      case qc5 => simp; omega
      intro v' w1 hown1 hgrow hnil
      have hown2 : w1.ownsRow (w.heap.size + 2) 3 1 v' (k + 1) (cells (List.replicate (k + 1) 0)) := by
        rw [List.replicate_succ']
        rw [cells_append]
        exact hown1
      obtain ⟨A', c', rfl, -⟩ := Ow.of_own hown2
      have hne : ∀ g, g < w.heap.size + 2 → some g ≠ (Value.slice A k c).ownBlock := fun g hg e => by have := hb1 g e.symm; omega
      have k2 := k0'.grown hgrow (hne _ (by omega))
      have k3 := k1'.grown hgrow (hne _ (by omega))
      have hB2 := hB'.grown hgrow (by have := hB.size; simp; omega) (fun g hg => by have := hb1 g hg; omega)
      have hsz2 : w.heap.size + 2 ≤ w1.heap.size := by have := hgrow.size; simp at this; omega
      have hown3 := hown2.kept ((Only.refl w1 (w.heap.size + 1)).setCell (p := ⟨w.heap.size + 1, 3, none⟩) rfl (.slice A' (k + 1) c')) (.inr fun e => by have := hown2.lt _ e; omega)
      obtain ⟨⟨e4, e5, e6, e7⟩, g4, g5, g6, g7⟩ := k3.cells
      clear hown1 hgrow hnil hown hown' hb1 d0 d1 d2 d3 d4 d5 d6 d7 f0 f1 f2 f3 f4 f5 f6 f7 hne
      go_wp2
      go_roundw
      case rel => exact ⟨k + 1, A', c', hlt, by go_num, k2.far (by simp) _, k3.set3 _ _ _, hown3, hB2.setCell (by simp) _, by simpa using hsz2⟩
      case measure => simp [intOf]; omega
    · obtain rfl : k = N := by omega
      obtain ⟨A', c', e, ho⟩ := Ow.of_own hown
      cases e
      go_wp2
      refine bodyPost_ret (v := .agg #[.int .i64 a, .int .i64 b, .int .i64 M, .slice A k c]) (by simp [results, Try.results48, go_sem, d0, d1, d2, d3, f0, f1, f2, f3]) rfl ?_
      refine ⟨A, k, c, rfl, ?_, ?_⟩
      · refine Ow.mono (B := w.heap.size + 2) ?_ (by omega)
        repeat (refine Ow.far ?_ (by simp <;> omega) _)
        exact ho
      · repeat (refine Below.setCell ?_ (by simp <;> omega) _)
        exact hB

/-- What holds while a result is filled: the argument's box, the zero box of the result, the box of the new raster, its pixels. -/
structure FI (w wr : World) (B5 g bb off n c : Nat) (W H M : Int) (P : List Int) (W2 H2 M2 : Int) (N c2 : Nat) (f : Nat → Int) (L : List Int) (k : Nat) : Prop where
  k0 : RB wr w.heap.size W H M (some ⟨bb, off, none⟩) n c
  k1 : RB wr (w.heap.size + 1) 0 0 0 none 0 0
  k5 : RB wr B5 W2 H2 M2 (some ⟨g, 0, none⟩) N c2
  bl : Bl wr g L
  fill : Fill f N k L
  sl : Sl wr (some ⟨bb, off, none⟩) n c P
  below : Below w.heap.size w wr
  size : B5 < wr.heap.size
  gne : w.heap.size + 1 < g
  g5 : g < B5
  bbl : bb < w.heap.size

section
variable {w wr w1 : World} {B5 g bb off n c N c2 : Nat} {W H M W2 H2 M2 : Int} {P L : List Int} {f : Nat → Int} {k k' i : Nat} {v : Int}
theorem FI.at_ (h : FI w wr B5 g bb off n c W H M P W2 H2 M2 N c2 f L k) (e : k = k') : FI w wr B5 g bb off n c W H M P W2 H2 M2 N c2 f L k' := e ▸ h
theorem FI.later (h : FI w wr B5 g bb off n c W H M P W2 H2 M2 N c2 f L k) (hb : Below wr.heap.size wr w1) : FI w w1 B5 g bb off n c W H M P W2 H2 M2 N c2 f L k :=
  ⟨h.k0.below hb h.k0.lt, h.k1.below hb h.k1.lt, h.k5.below hb h.k5.lt, h.bl.below hb h.bl.lt, h.fill, h.sl.below hb (Nat.le_refl _), h.below.trans (hb.mono h.below.size), by have := hb.size; have := h.size; omega, h.gne, h.g5, h.bbl⟩
theorem FI.store (h : FI w wr B5 g bb off n c W H M P W2 H2 M2 N c2 f L k) (hk : k < N) (hv : f k = v) (hi : i = k) (hk' : k' = k + 1) :
    FI w (wr.setCell ⟨g, i, none⟩ (.int .i64 v)) B5 g bb off n c W H M P W2 H2 M2 N c2 f (L.set i v) k' := by
  subst hi hk'
  have h1 := h.gne
  have h2 := h.g5
  have h3 := h.bbl
  have h4 := h.size
  refine ⟨h.k0.far (by simp; omega) _, h.k1.far (by simp; omega) _, h.k5.far (by simp; omega) _, h.bl.set _ _, h.fill.step hk hv.symm, ?_, h.below.setCell (by simp; omega) _, by simp; omega, h1, h2, h3⟩
  exact h.sl.keep fun _ b' j ⟨off', e⟩ _ => World.cell?_setCell_other _ _ _ _ (fun e2 => by cases e; cases e2; omega)
theorem FI.next (h : FI w wr B5 g bb off n c W H M P W2 H2 M2 N c2 f L k) (hb : Below wr.heap.size wr w1) (hk : k < N) (hv : f k = v) (hi : i = k) (hk' : k' = k + 1) :
    FI w (w1.setCell ⟨g, i, none⟩ (.int .i64 v)) B5 g bb off n c W H M P W2 H2 M2 N c2 f (L.set i v) k' := (h.later hb).store hk hv hi hk'
theorem FI.only (h : FI w wr B5 g bb off n c W H M P W2 H2 M2 N c2 f L k) {w' : World} (ho : Only wr w' g) (b o : Nat) (hb : b < wr.heap.size) (hg : b ≠ g) : w'.cell? ⟨b, o, none⟩ = wr.cell? ⟨b, o, none⟩ :=
  World.cell?_of_block (ho.block b hb (fun e => hg (by injection e)))
/-- The cells of the two boxes, in every world in which only g's block has changed. -/
theorem FI.cellsOnly (h : FI w wr B5 g bb off n c W H M P W2 H2 M2 N c2 f L k) {w' : World} (ho : Only wr w' g) :
    w'.cell? ⟨w.heap.size, 0, none⟩ = some (.int .i64 W) ∧ w'.cell? ⟨w.heap.size, 1, none⟩ = some (.int .i64 H) ∧ w'.cell? ⟨w.heap.size, 2, none⟩ = some (.int .i64 M) ∧ w'.cell? ⟨w.heap.size, 3, none⟩ = some (.slice (some ⟨bb, off, none⟩) n c) ∧
    w'.cell? ⟨B5, 0, none⟩ = some (.int .i64 W2) ∧ w'.cell? ⟨B5, 1, none⟩ = some (.int .i64 H2) ∧ w'.cell? ⟨B5, 2, none⟩ = some (.int .i64 M2) ∧ w'.cell? ⟨B5, 3, none⟩ = some (.slice (some ⟨g, 0, none⟩) N c2) := by
  obtain ⟨⟨d0, d1, d2, d3⟩, -⟩ := h.k0.cells
  obtain ⟨⟨d4, d5, d6, d7⟩, -⟩ := h.k5.cells
  have h1 := h.gne
  have h2 := h.g5
  have h4 := h.size
  have h5 := h.k0.lt
  refine ⟨(h.only ho _ _ ?_ ?_).trans d0, (h.only ho _ _ ?_ ?_).trans d1, (h.only ho _ _ ?_ ?_).trans d2, (h.only ho _ _ ?_ ?_).trans d3, (h.only ho _ _ ?_ ?_).trans d4, (h.only ho _ _ ?_ ?_).trans d5, (h.only ho _ _ ?_ ?_).trans d6, (h.only ho _ _ ?_ ?_).trans d7⟩ <;> omega
end

set_option maxRecDepth 100000 in
set_option maxHeartbeats 4000000 in
/-- Turn of the reference. -/
theorem rTurn_any (W H M : Int) (A : Option Addr) (n c : Nat) (P : List Int) (w : World) (h : Sl w A n c P) (hr : Ras W H M P) :
    Calls Try.prog 29 #[.agg #[.int .i64 W, .int .i64 H, .int .i64 M, .slice A n c]] w (RetF w H W M (turned W.toNat H.toNat P)) := by
  have hb0 := ((Below.refl w.heap.size w).alloc (Nat.le_refl _) (.cells #[.int .i64 W, .int .i64 H, .int .i64 M, .slice A n c] 37)).alloc (by simp) (.cells #[.int .i64 0, .int .i64 0, .int .i64 0, .slice none 0 0] 37)
  have hs := (h.alloc (.cells #[.int .i64 W, .int .i64 H, .int .i64 M, .slice A n c] 37)).alloc (.cells #[.int .i64 0, .int .i64 0, .int .i64 0, .slice none 0 0] 37)
  have k0 := (RB.new w W H M A n c).alloc (.cells #[.int .i64 0, .int .i64 0, .int .i64 0, .slice none 0 0] 37)
  have k1 := RB.new (w.alloc (.cells #[.int .i64 W, .int .i64 H, .int .i64 M, .slice A n c] 37)) 0 0 0 none 0 0
  simp only [World.size_alloc] at k1
  obtain ⟨a, b, rfl, rfl, ⟨ha1, ha2⟩, ⟨hb1, hb2⟩, ⟨hM1, hM2⟩, hab, hl1, hl2⟩ := hr.nat
  have hnP := hs.len
  obtain ⟨bb, off, rfl, hbbw, -⟩ := h.at_ (by rw [h.len]; exact hl2)
  simp only [Int.toNat_natCast]
  have hncap := hs.le_cap
  have hccap := hs.cap_le
  have hfin : Hid (b * a = n ∧ a * b = n) := Lib.hid ⟨by rw [hnP, hab, Nat.mul_comm], by rw [hnP, hab]⟩
  have hn4 : n ≤ 4096 := by omega
  have hnew := Lib.hid (fun W : World => (rNew_any b a M W hb1 hb2 ha1 ha2))
  rw [hfin.out.1] at hnew
  have hn0 : 0 < n := by omega
  clear hr hab hnP hl1 hl2 h
  go_enter Try.func29, Try.ntmps29
  go_wp2_with (go_at_call 48; refine (hnew.out _).mono ?_; rintro e w2 hret; obtain ⟨g, N, c2, rfl, hg, hbz, hN, hc1, hc2, hb4⟩ := hret.ret (by simp; exact hn0); simp only [List.length_replicate] at hN; subst hN; simp only [World.size_alloc] at hg hb4; replace k0 := k0.below hb4 (by omega); replace k1 := k1.below hb4 (by omega); replace hs := hs.below hb4 (by simp); replace hb0 := hb0.trans (hb4.mono (by omega)); clear hb4 hret)
  have hgB := hbz.lt
  have k5 := RB.new w2 b a M (some ⟨g, 0, none⟩) N c2
  replace k0 := k0.alloc (.cells #[.int .i64 b, .int .i64 a, .int .i64 M, .slice (some ⟨g, 0, none⟩) N c2] 37)
  replace k1 := k1.alloc (.cells #[.int .i64 b, .int .i64 a, .int .i64 M, .slice (some ⟨g, 0, none⟩) N c2] 37)
  replace hbz := hbz.alloc (.cells #[.int .i64 b, .int .i64 a, .int .i64 M, .slice (some ⟨g, 0, none⟩) N c2] 37)
  replace hs := hs.alloc (.cells #[.int .i64 b, .int .i64 a, .int .i64 M, .slice (some ⟨g, 0, none⟩) N c2] 37)
  replace hb0 := hb0.alloc hb0.size (.cells #[.int .i64 b, .int .i64 a, .int .i64 M, .slice (some ⟨g, 0, none⟩) N c2] 37)
  have F0 : FI w _ w2.heap.size g bb off N c a b M P b a M N c2 (turnf a b P) _ 0 := ⟨k0, k1, k5, hbz, Fill.start (by simp), hs, hb0, by simp, by omega, hgB, hbbw⟩
  clear k0 k1 k5 hbz hs hb0 hnew
  go_loopw [4] (fun i wr => ∃ (y : Nat) (L : List Int), y ≤ a ∧ i = .int .i64 (y : Int) ∧ FI w wr w2.heap.size g bb off N c a b M P b a M N c2 (turnf a b P) L (y * b)) (fun i _ => a - (intOf i).toNat)
  case atStart => exact ⟨0, _, Nat.zero_le _, rfl, F0.at_ (by simp)⟩
  case round =>
    clear F0
    obtain ⟨y, L, hy, rfl, F⟩ := hrel
    obtain ⟨d0, d1, d2, d3, d4, d5, d6, d7⟩ := F.cellsOnly (Only.refl wr g)
    by_cases hlt : y < a
    · go_wp2
      go_loopw [5] (fun i wr => ∃ (x : Nat) (L : List Int), x ≤ b ∧ i = .int .i64 (x : Int) ∧ FI w wr w2.heap.size g bb off N c a b M P b a M N c2 (turnf a b P) L (y * b + x)) (fun i _ => b - (intOf i).toNat)
      case atStart => exact ⟨0, _, Nat.zero_le _, rfl, F⟩
      case round =>
        clear F d0 d1 d2 d3 d4 d5 d6 d7
        obtain ⟨x, L, hx, rfl, F⟩ := hrel
        obtain ⟨d0, d1, d2, d3, d4, d5, d6, d7⟩ := F.cellsOnly (Only.refl wr g)
        by_cases hltx : x < b
        · obtain ⟨q, hq⟩ : ∃ q, y * b = q := ⟨_, rfl⟩
          obtain ⟨q2, hq2⟩ : ∃ q2, x * a = q2 := ⟨_, rfl⟩
          obtain ⟨m, hm⟩ : ∃ m : Nat, a - 1 - y = m := ⟨_, rfl⟩
          have hmi : (a : Int) - 1 - (y : Int) = (m : Int) := by omega
          have hqi : (y : Int) * (b : Int) = (q : Int) := by rw [← hq]; simp
          have hl1 : q + x < N := by rw [← hq, ← hfin.out.2]; exact row_lt hlt hltx
          have hl2 : q2 + m < N := by rw [← hq2, ← hfin.out.1]; exact row_lt hltx (by omega)
          have hval : turnf a b P (y * b + x) = nth P (q2 + m) := by rw [turnf_at hltx, hq2, hm]
          obtain ⟨v, hv⟩ : ∃ v, nth P (q2 + m) = v := ⟨_, rfl⟩
          have htc := F.bl.cell (i := q + x) (by rw [F.fill.1]; exact hl1)
          have htf := F.bl.frozen (q + x)
          obtain ⟨u, hu⟩ : ∃ u, nth L (q + x) = u := ⟨_, rfl⟩
          rw [hu] at htc
          have hgw := F.bl.lt
          have keepS := Lib.hid (fun w' (ho : Only wr w' g) => F.cellsOnly ho)
          have keepT : ∀ w', Below wr.heap.size wr w' → w'.cell? ⟨g, q + x, none⟩ = some (.int .i64 u) ∧ w'.frozen? ⟨g, q + x, none⟩ = false ∧ wr.heap.size ≤ w'.heap.size := fun w' hb => ⟨(hb.cell (p := ⟨g, q + x, none⟩) hgw).trans htc, (hb.frozen (p := ⟨g, q + x, none⟩) hgw).trans htf, hb.size⟩
          have hsl := Lib.hid (fun w' (hb : Below wr.heap.size wr w') => F.sl.below hb (Nat.le_refl _))
          replace keepT := Lib.hid keepT
          replace hval := Lib.hid (hval.trans hv)
          replace hq := Lib.hid hq
          replace hq2 := Lib.hid hq2
          replace hm := Lib.hid hm
          replace hu := Lib.hid hu
          have hv := Lib.hid hv
          clear htc htf
          have hwA : IntKind.i64.wrap ((a : Int) - 1) = (a : Int) - 1 := IntWalk.i64_in _ (by omega)
          have hwB : IntKind.i64.wrap (m : Int) = (m : Int) := IntWalk.i64_in _ (by omega)
          have hwC : IntKind.i64.wrap (q : Int) = (q : Int) := IntWalk.i64_in _ (by omega)
          have hwD : IntKind.i64.wrap ((q : Int) + (x : Int)) = (q : Int) + (x : Int) := IntWalk.i64_in _ (by omega)
          have hwE : (0 : Int) ≤ (q : Int) + (x : Int) := by omega
          have hwF : ((q : Int) + (x : Int)).toNat = q + x := by omega
          have hwG : (q : Int) + (x : Int) < (N : Int) := by omega
          go_wp2
          go_region_held3 (fun w' => w'.cell? ⟨w.heap.size, 0, none⟩ = some (.int .i64 a) ∧ w'.cell? ⟨w.heap.size, 1, none⟩ = some (.int .i64 b) ∧ w'.cell? ⟨w.heap.size, 2, none⟩ = some (.int .i64 M) ∧ w'.cell? ⟨w.heap.size, 3, none⟩ = some (.slice (some ⟨bb, off, none⟩) N c) ∧ w'.cell? ⟨w2.heap.size, 0, none⟩ = some (.int .i64 b) ∧ w'.cell? ⟨w2.heap.size, 1, none⟩ = some (.int .i64 a) ∧ w'.cell? ⟨w2.heap.size, 2, none⟩ = some (.int .i64 M) ∧ w'.cell? ⟨w2.heap.size, 3, none⟩ = some (.slice (some ⟨g, 0, none⟩) N c2))
            (exact keepS.out _ (by repeat (first | refine Only.drew ?_ | refine Only.setCell ?_ rfl _ | exact Only.of_below qB1 g | exact Only.refl wr g)))
            (first | (go_at_call 49; refine (rAt_at m x q2 (hsl.out _ (by repeat (first | refine Below.drew ?_ | exact Below.refl _ _))) rfl rfl hq2.out.symm hl2 (by omega) hv.out).mono ?_; rintro e qw1 ⟨rfl, qh1⟩; have qB1 : Below wr.heap.size wr qw1 := Below.trans (by repeat (first | refine Below.drew ?_ | exact Below.refl _ _)) (qh1.mono (by first | omega | (simp <;> omega))); obtain ⟨t1, t2, t3⟩ := keepT.out _ qB1))
          go_wp2
          go_roundw
          case rel => exact ⟨x + 1, _, hltx, by go_num, F.next qB1 (by rw [hq.out]; exact hl1) hval.out (by rw [hq.out]) (by omega)⟩
          case measure => simp [intOf]; omega
        · obtain rfl : x = b := by omega
          go_wp2
          go_roundw
          case rel => exact ⟨y + 1, L, hlt, by go_num, F.at_ (by rw [Nat.add_mul, Nat.one_mul])⟩
          case measure => simp [intOf]; omega
    · obtain rfl : y = a := by omega
      obtain ⟨⟨d8, d9, d10, d11⟩, f8, f9, f10, f11⟩ := F.k1.cells
      have hdone := Lib.hid ((F.fill.at_ hfin.out.2).done)
      have hgne := F.gne
      have hbz := F.bl
      have hB := F.below
      go_wp2
      refine bodyPost_ret (v := .agg #[.int .i64 b, .int .i64 y, .int .i64 M, .slice (some ⟨g, 0, none⟩) N c2]) (by simp [results, Try.results29, go_sem, d8, d9, d10, d11, f8, f9, f10, f11]) rfl ?_
      refine ⟨g, N, c2, rfl, by omega, ?_, by rw [turned, tab_length, hfin.out.2], hc1, hc2, ?_⟩
      · repeat (refine Bl.far ?_ (by simp <;> omega) _)
        rw [turned, hfin.out.2, ← hdone.out]
        exact hbz
      · repeat (refine Below.setCell ?_ (by simp <;> omega) _)
        exact hB

end Go.Proofs.Ytonpnjjfidpoiaa
