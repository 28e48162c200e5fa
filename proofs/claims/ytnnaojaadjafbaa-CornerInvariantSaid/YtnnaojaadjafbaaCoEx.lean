/-
  Walk: the law's example; what the functions say of it.
-/
import Derived.Test.YtnnaojaadjafbaaCoFj
import Derived.Test.YtnnaojaadjafbaaCoP
set_option linter.unusedSimpArgs false
set_option linter.unusedVariables false
namespace Go.Proofs.Ytnnaojaadjafbaa
open Go.RowKit

/-- The pixels of the example, where the rows before y, and of row y the columns before x, are filled. -/
def exT (y x : Nat) : List Int := tab 25 fun i => if 2 ≤ i % 5 ∧ (2 ≤ i / 5 ∧ i / 5 < y ∨ i / 5 = y ∧ i % 5 < x) then 10 else 0
def exP : List Int := exT 5 2
theorem ex_start : exT 2 2 = List.replicate 25 0 := by decide
theorem ex_step : ∀ y, y < 3 → ∀ x, x < 3 → (exT (y + 2) (x + 2)).set (5 * (y + 2) + (x + 2)) 10 = exT (y + 2) (x + 3) := by decide
theorem ex_row : ∀ y, y < 3 → exT (y + 2) 5 = exT (y + 3) 2 := by decide
theorem exT_length (y x : Nat) : (exT y x).length = 25 := tab_length _ _

set_option maxRecDepth 100000 in
set_option maxHeartbeats 1600000 in
theorem example_any (w : World) :
    Calls Try.prog 33 #[] w fun e w' => ∃ g, e = .returned (.agg #[.int .i64 5, .int .i64 5, .int .i64 10, .slice (some ⟨g, 0, none⟩) 25 25]) ∧ w.heap.size ≤ g ∧ Bl w' g exP ∧ Below w.heap.size w w' := by
  have hmk := run_make_i64 .i64 .i64 25 25 rfl (by omega)
  have k0 := RB.new w 0 0 0 none 0 0
  have hb0 := ((Below.refl w.heap.size w).alloc (Nat.le_refl _) (.cells #[.int .i64 0, .int .i64 0, .int .i64 0, .slice none 0 0] 24))
  have hbl0 := fun W : World => Bl.new W (exT 2 2)
  rw [ex_start] at hbl0
  obtain ⟨C0, hC0⟩ : ∃ C0, (cells (List.replicate 25 (0 : Int))).toArray = C0 := ⟨_, rfl⟩
  rw [hC0] at hmk hbl0
  rw [← ex_start] at hbl0
  replace hC0 := Lib.hid hC0
  replace hbl0 := Lib.hid hbl0
  obtain ⟨w1, hw1⟩ : ∃ w1, w.alloc (.cells #[.int .i64 0, .int .i64 0, .int .i64 0, .slice none 0 0] 24) = w1 := ⟨_, rfl⟩
  have hz1 : w1.heap.size = w.heap.size + 1 := by rw [← hw1]; simp
  have k1 := (RB.new (w1.alloc (.cells C0 3)) 5 5 10 (some ⟨w1.heap.size, 0, none⟩) 25 25)
  have hbl1 := (hbl0.out w1).alloc (.cells #[.int .i64 5, .int .i64 5, .int .i64 10, .slice (some ⟨w1.heap.size, 0, none⟩) 25 25] 24)
  rw [hw1] at k0 hb0
  have k00 := (k0.alloc (.cells C0 3)).alloc (.cells #[.int .i64 5, .int .i64 5, .int .i64 10, .slice (some ⟨w1.heap.size, 0, none⟩) 25 25] 24)
  have hb1 := (hb0.alloc hb0.size (.cells C0 3)).alloc (by simp; omega) (.cells #[.int .i64 5, .int .i64 5, .int .i64 10, .slice (some ⟨w1.heap.size, 0, none⟩) 25 25] 24)
  simp only [World.size_alloc] at k1
  have hsz : ((w1.alloc (.cells C0 3)).alloc (.cells #[.int .i64 5, .int .i64 5, .int .i64 10, .slice (some ⟨w1.heap.size, 0, none⟩) 25 25] 24)).heap.size = w.heap.size + 3 := by simp; omega
  rw [hz1] at k00 k1 hbl1 hb1 hsz
  subst hw1
  clear k0 hb0
  go_enter Try.func33, Try.ntmps33
  go_wp2
  go_loopw [2] (fun i wr => ∃ y : Nat, y ≤ 3 ∧ i = .int .i64 ((y : Int) + 2) ∧ RB wr w.heap.size 0 0 0 none 0 0 ∧ RB wr (w.heap.size + 2) 5 5 10 (some ⟨w.heap.size + 1, 0, none⟩) 25 25 ∧ Bl wr (w.heap.size + 1) (exT (y + 2) 2) ∧ Below w.heap.size w wr ∧ wr.heap.size = w.heap.size + 3) (fun i _ => 5 - (intOf i).toNat)
  case atStart => exact ⟨0, by omega, rfl, k00, k1, hbl1, hb1, hsz⟩
  case round =>
    clear k00 k1 hbl1 hb1 hsz
    obtain ⟨y, hy, rfl, k0, k1, hbl, hB, hsz⟩ := hrel
    by_cases hlt : y < 3
    · have hji : (y : Int) + 2 < 5 := by omega
      go_wp2
      obtain ⟨wo, rfl⟩ : ∃ wo, wo = wr := ⟨_, rfl⟩
      go_loopw [3] (fun i wr => ∃ x : Nat, x ≤ 3 ∧ i = .int .i64 ((x : Int) + 2) ∧ RB wr w.heap.size 0 0 0 none 0 0 ∧ RB wr (w.heap.size + 2) 5 5 10 (some ⟨w.heap.size + 1, 0, none⟩) 25 25 ∧ Bl wr (w.heap.size + 1) (exT (y + 2) (x + 2)) ∧ Below w.heap.size w wr ∧ wr.heap.size = w.heap.size + 3) (fun i _ => 5 - (intOf i).toNat)
      case atStart => exact ⟨0, by omega, rfl, k0, k1, hbl, hB, hsz⟩
      case round =>
        clear k0 k1 hbl hB hsz
        obtain ⟨x, hx, rfl, k0, k1, hbl, hB, hsz⟩ := hrel
        by_cases hltx : x < 3
        · have hii : (x : Int) + 2 < 5 := by omega
          obtain ⟨⟨d0, d1, d2, d3⟩, f0, f1, f2, f3⟩ := k1.cells
          obtain ⟨m, hm⟩ : ∃ m : Nat, 5 * (y + 2) + (x + 2) = m := ⟨_, rfl⟩
          have hmi : 5 * ((y : Int) + 2) + ((x : Int) + 2) = (m : Int) := by omega
          have hm25 : m < 25 := by omega
          have hmi25 : (m : Int) < 25 := by omega
          have tc := hbl.cell (i := m) (by rw [exT_length]; exact hm25)
          have tf := hbl.frozen m
          obtain ⟨u, hu⟩ : ∃ u, nth (exT (y + 2) (x + 2)) m = u := ⟨_, rfl⟩
          rw [hu] at tc
          have hst := ex_step y hlt x hltx
          rw [hm] at hst
          replace hst := Lib.hid hst
          replace hm := Lib.hid hm
          replace hu := Lib.hid hu
          go_wp2
          go_roundw
          case rel => exact ⟨x + 1, by omega, by go_num, k0.far (by simp) _, k1.far (by simp) _, by rw [show x + 1 + 2 = x + 3 from rfl, ← hst.out]; exact hbl.set _ _, hB.setCell (by simp) _, by simpa [World.setCell] using hsz⟩
          case measure => simp [intOf]; omega
        · obtain rfl : x = 3 := by omega
          have hii : ¬ ((3 : Nat) : Int) + 2 < 5 := by omega
          have hrw := ex_row y hlt
          go_wp2
          go_roundw
          case rel => exact ⟨y + 1, by omega, by go_num, k0, k1, by rw [show y + 1 + 2 = y + 3 from rfl, ← hrw]; exact hbl, hB, hsz⟩
          case measure => simp [intOf]; omega
    · obtain rfl : y = 3 := by omega
      have hji : ¬ ((3 : Nat) : Int) + 2 < 5 := by omega
      obtain ⟨⟨d0, d1, d2, d3⟩, f0, f1, f2, f3⟩ := k1.cells
      obtain ⟨⟨e0, e1, e2, e3⟩, g0, g1, g2, g3⟩ := k0.cells
      go_wp2
      refine bodyPost_ret (v := .agg #[.int .i64 5, .int .i64 5, .int .i64 10, .slice (some ⟨w.heap.size + 1, 0, none⟩) 25 25]) (by simp [results, Try.results33, go_sem, e0, e1, e2, e3, g0, g1, g2, g3]) rfl ?_
      refine ⟨_, rfl, Nat.le_succ _, ?_, ?_⟩
      · repeat (refine Bl.far ?_ (by simp <;> omega) _)
        exact hbl
      · repeat (refine Below.setCell ?_ (by simp <;> omega) _)
        exact hB

theorem ex_scr : Scr 5 5 10 exP := by
  refine ⟨⟨by omega, by decide, ?_⟩, by omega⟩
  decide
theorem ex_scores : nth (scoresL 5 5 exP) 12 = 3110000 := by decide +kernel
theorem ex_slen : (scoresL 5 5 exP).length = 25 := tab_length _ _
theorem ex_cors : corsF 5 (scoresL 5 5 exP) 0 25 = [(160, 160, 3110000)] := by decide +kernel
theorem ex_off : offV 0 4 2 = 11 ∧ offC 0 4 2 = 0 := by decide +kernel
theorem ex_thin : thinF 4 [(3, 0, 0), (5, 0, 0), (9, 0, 0)] = [(3, 0, 0), (9, 0, 0)] := by decide +kernel

end Go.Proofs.Ytnnaojaadjafbaa
