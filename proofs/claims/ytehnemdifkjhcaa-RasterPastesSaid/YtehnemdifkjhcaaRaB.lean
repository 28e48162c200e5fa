/-
  Walks: row, blank, copied of package raster; slices.Clone, slices.Equal, slices.Reverse at []int.
-/
import Derived.Test.YtehnemdifkjhcaaRaA
import Derived.RegionTactic
import Derived.Deep.QuietTactic
import Derived.BigQuiet
import Derived.BigRegion
import Derived.Lib.SliceRun
set_option linter.unusedSimpArgs false
set_option linter.unusedVariables false
namespace Go.Proofs.Ytehnemdifkjhcaa
open Go.RowKit

set_option maxHeartbeats 1600000 in
/-- row: a part of the pixels. -/
theorem row_any (a : Nat) (H M : Int) (b off n c y q : Nat) (P : List Int) (w : World) (hn : n ≤ c) (hc : c ≤ 9223372036854775807) (hq : q = y * a) (ha : 1 ≤ a) (hle : q + a ≤ n) (hy : y ≤ 1000) (ha2 : a ≤ 1000) :
    Calls Try.prog 53 #[.agg #[.int .i64 a, .int .i64 H, .int .i64 M, .slice (some ⟨b, off, none⟩) n c], .int .i64 y] w fun e w' =>
      e = .returned (.slice (some ⟨b, off + q, none⟩) a (c - q)) ∧ w' = w.alloc (.cells #[.int .i64 a, .int .i64 H, .int .i64 M, .slice (some ⟨b, off, none⟩) n c] 24) := by
  have e1 : (y : Int) * (a : Int) = (q : Int) := by rw [hq]; simp
  have e2 : ((y : Int) + 1) * (a : Int) = (q : Int) + (a : Int) := by rw [Int.add_mul, e1]; simp
  clear hq
  go_enter Try.func53, Try.ntmps53
  go_wp2
  go_ret
  exact ⟨by show Ending.returned (.slice _ (q + a - q) _) = _; rw [Nat.add_sub_cancel_left], rfl⟩

/-- row, at any spelling of its second argument; what lay lies as it lay. -/
theorem row_at {a : Nat} {H M : Int} {b off n c : Nat} {w : World} (y q : Nat) {v : Int} (hv : v = (y : Int)) (hn : n ≤ c) (hc : c ≤ 9223372036854775807) (hq : q = y * a) (ha : 1 ≤ a) (hle : q + a ≤ n) (hy : y ≤ 1000) (ha2 : a ≤ 1000) :
    Calls Try.prog 53 #[.agg #[.int .i64 a, .int .i64 H, .int .i64 M, .slice (some ⟨b, off, none⟩) n c], .int .i64 v] w fun e w' =>
      e = .returned (.slice (some ⟨b, off + q, none⟩) a (c - q)) ∧ Below w.heap.size w w' := by
  subst hv
  exact (row_any a H M b off n c y q [] w hn hc hq ha hle hy ha2).mono fun e w' ⟨he, hw⟩ => ⟨he, by rw [hw]; exact (Below.refl _ _).alloc (Nat.le_refl _) _⟩

theorem infoI : (Try.prog.info? 3).map (fun i => (i.zero, i.size, i.bytes)) = some (some (.int .i64 0), 1, 8) := by kernel_rfl

/-- make([]int, n). -/
theorem run_make_i64 (k1 k2 : IntKind) (u : Int) (n : Nat) (hu : u = (n : Int)) (hn : n ≤ 2000000000) (W : World) :
    (Instr.makeSlice 22 (.int k1 u) (.int k2 u)).run Try.prog W = .ok (.slice (some ⟨W.heap.size, 0, none⟩) n n) (W.alloc (.cells (cells (List.replicate n 0)).toArray 3)) := by
  obtain ⟨i0, hi, hz0, hz1, hz2⟩ := info_parts infoI
  have := run_make (P := Try.prog) W 22 3 i0 (.int .i64 0) Try.underlying22 hi hz0 k1 k2 u u (by omega) (Int.le_refl _) (by rw [hz2]; omega) (by omega)
  rw [this, hu]
  simp only [Int.toNat_natCast, hz1, Nat.mul_one]
  have e : (Value.int .i64 0).cells = #[.int .i64 0] := rfl
  rw [e, madeCells_i64, cells_replicate]

set_option maxHeartbeats 1600000 in
/-- blank: zeros in new memory. -/
theorem blank_any (a b : Nat) (M : Int) (w : World) (ha : 1 ≤ a) (ha2 : a ≤ 64) (hb : 1 ≤ b) (hb2 : b ≤ 64) :
    Calls Try.prog 51 #[.int .i64 a, .int .i64 b, .int .i64 M] w fun e w' =>
      ∃ g, e = .returned (.agg #[.int .i64 a, .int .i64 b, .int .i64 M, .slice (some ⟨g, 0, none⟩) (a * b) (a * b)]) ∧ w.heap.size ≤ g ∧ Bl w' g (List.replicate (a * b) 0) ∧ Below w.heap.size w w' := by
  obtain ⟨n, hn⟩ : ∃ n, a * b = n := ⟨_, rfl⟩
  have e1 : (a : Int) * (b : Int) = (n : Int) := by rw [← hn]; simp
  have hn2 : n ≤ 4096 := by rw [← hn]; exact Nat.mul_le_mul ha2 hb2
  rw [hn]
  replace hn := Lib.hid hn
  have hmk := run_make_i64 .i64 .i64 (n : Int) n rfl (by omega)
  have hbl := fun W : World => Bl.new W (List.replicate n 0)
  replace hbl := Lib.hid hbl
  generalize (List.replicate n (0 : Int)) = Z at hmk hbl ⊢
  generalize (cells Z).toArray = C at hmk hbl
  go_enter Try.func51, Try.ntmps51
  go_wp2
  refine bodyPost_ret (v := .agg #[.int .i64 a, .int .i64 b, .int .i64 M, .slice (some ⟨w.heap.size + 1, 0, none⟩) n n]) (by simp [results, Try.results51, go_sem]) rfl ?_
  refine ⟨w.heap.size + 1, rfl, by omega, ?_, ((Below.refl _ _).alloc (Nat.le_refl _) _).alloc (by simp) _⟩
  have := hbl.out (w.alloc (.cells #[.int .i64 a, .int .i64 b, .int .i64 M, .slice (some ⟨w.heap.size + 1, 0, none⟩) n n] 24))
  rw [World.size_alloc] at this
  exact this

set_option maxHeartbeats 2000000 in
set_option maxRecDepth 100000 in
/-- slices.Clone of a slice that holds something. -/
theorem Clone_some (A : Option Addr) (n c : Nat) (l : List Int) (w : World) (h : Sl w A n c l) (h0 : 0 < n) (hn : n ≤ 1000000) :
    Calls Try.prog 64 #[.slice A n c] w fun e w' => ∃ g c', e = .returned (.slice (some ⟨g, 0, none⟩) n c') ∧ w.heap.size ≤ g ∧ Bl w' g l ∧ n ≤ c' ∧ c' ≤ 9223372036854775807 ∧ Below w.heap.size w w' := by
  obtain ⟨b, off, rfl, hbl, hc⟩ := h.at_ h0
  have hlen := Lib.hid h.len
  have hcap := h.le_cap
  obtain ⟨i0, hi, hz0, hz1, hz2⟩ := info_parts infoI
  have q22 : ∀ (w : World) (a : Option Addr) (n c n' c' : Nat), (binOp .eql 22 (.slice a n c) (.slice none n' c')).run Try.prog w = .ok (.bool a.isNone) w := fun w a n c n' c' => Lib.run_eql_slice_nil w _ _ a n c n' c' Try.underlying22
  replace hc := Lib.hid hc
  clear h
  go_enter Try.func64, Try.ntmps64
  go_wp2_with (at_builtin; refine wpList_append_own _ rfl _ _ 22 rfl w.heap.size 3 i0 (.int .i64 0) 1 8 Try.underlying22 hi hz0 hz1 hz2 rfl (by decide) _ _ _ rfl (World.ownsRow_made w #[] 0 (Nat.le_refl _) (Nat.zero_le _) rfl) ⟨b, off, none⟩ n c (cells l) rfl ?qc1 ?qc2 ?qc3 ?qc4 ?qc5 ?qc6 ?_)
  case qc1 => rw [cells_length, ← hlen.out, Nat.mul_one]
  case qc2 =>
    intro j u hj
    have hjn : j < n := by
      have := (List.getElem?_eq_some_iff.1 hj).1
      rw [cells_length, ← hlen.out] at this
      exact this
    rw [Addr.add_lit]
    refine Lib.cell?_alloc_some _ ?_
    rw [hc.out j hjn]
    rw [cells_at (by rw [← hlen.out]; exact hjn)] at hj
    exact hj
  case qc3 => exact cells_one
  case qc4 => unfold maxLen; omega
  case qc5 => omega
  case qc6 => simp
  intro v' w1 hown hgrow hnil
  obtain ⟨g, c', rfl, hg, hbl', hnc, hcm, -⟩ := Bl.of_own (l := l) (n := 0 + n) (by simpa using hown) (by omega)
  go_wp2
  go_ret
  refine ⟨g, c', ?_, hg, hbl', by omega, hcm, ((Below.refl _ w).alloc (Nat.le_refl _) _).grown hgrow (by simp) (by intro k hk; simp [Value.ownBlock] at hk; omega)⟩
  simp

/-- A raster in memory of the call's own: its pixels can be written. -/
def RetF (w : World) (W H M : Int) (P : List Int) (e : Ending) (w' : World) : Prop :=
  ∃ g n c, e = .returned (.agg #[.int .i64 W, .int .i64 H, .int .i64 M, .slice (some ⟨g, 0, none⟩) n c]) ∧ w.heap.size ≤ g ∧ Bl w' g P ∧ n = P.length ∧ n ≤ c ∧ c ≤ 9223372036854775807 ∧ Below w.heap.size w w'

set_option maxHeartbeats 1600000 in
/-- copied. -/
theorem copied_any (W H M : Int) (A : Option Addr) (n c : Nat) (P : List Int) (w : World) (h : Sl w A n c P) (h0 : 0 < n) (hn : n ≤ 1000000) :
    Calls Try.prog 54 #[.agg #[.int .i64 W, .int .i64 H, .int .i64 M, .slice A n c]] w (RetF w W H M P) := by
  have hlen := Lib.hid h.len
  have hb := ((Below.refl w.heap.size w).alloc (Nat.le_refl _) (.cells #[.int .i64 W, .int .i64 H, .int .i64 M, .slice A n c] 24)).alloc (by simp) (.cells #[.int .i64 0, .int .i64 0, .int .i64 0, .slice none 0 0] 24)
  have hs := (h.alloc (.cells #[.int .i64 W, .int .i64 H, .int .i64 M, .slice A n c] 24)).alloc (.cells #[.int .i64 0, .int .i64 0, .int .i64 0, .slice none 0 0] 24)
  have k0 := (RB.new w W H M A n c).alloc (.cells #[.int .i64 0, .int .i64 0, .int .i64 0, .slice none 0 0] 24)
  have k1 := RB.new (w.alloc (.cells #[.int .i64 W, .int .i64 H, .int .i64 M, .slice A n c] 24)) 0 0 0 none 0 0
  simp only [World.size_alloc] at k1
  go_enter Try.func54, Try.ntmps54
  go_wp2_with (go_at_call 64; refine (Clone_some _ _ _ _ _ hs h0 hn).mono ?_; rintro e w1 ⟨g, c', rfl, hg, hbl, hnc, hcm, hb2⟩; simp only [World.size_alloc] at hg hb2; obtain ⟨⟨d0, d1, d2, d3⟩, f0, f1, f2, f3⟩ := (k0.below hb2 (by omega)).cells; obtain ⟨⟨d4, d5, d6, d7⟩, f4, f5, f6, f7⟩ := (k1.below hb2 (by omega)).cells)
  refine bodyPost_ret (v := .agg #[.int .i64 W, .int .i64 H, .int .i64 M, .slice (some ⟨g, 0, none⟩) n c']) (by simp [results, Try.results54, go_sem, d4, d5, d6, d7, f4, f5, f6, f7]) rfl ?_
  refine ⟨g, n, c', rfl, by omega, ?_, hlen.out, hnc, hcm, ?_⟩
  · repeat (refine Bl.far ?_ (by simp <;> omega) _)
    exact hbl
  · repeat (refine Below.setCell ?_ (by simp <;> omega) _)
    exact hb.trans (hb2.mono (by omega))

end Go.Proofs.Ytehnemdifkjhcaa
