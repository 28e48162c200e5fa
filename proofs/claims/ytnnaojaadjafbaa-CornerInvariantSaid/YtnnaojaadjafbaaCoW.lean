/-
  Walks: isPeak, the closure of corner, corner of package corner.
-/
import Derived.Test.YtnnaojaadjafbaaCoSe
import Derived.Deep.RegionHeld3
import Derived.Deep.Cut
set_option linter.unusedSimpArgs false
set_option linter.unusedVariables false
namespace Go.Proofs.Ytnnaojaadjafbaa
open Go.RowKit

/-- Is a score greater than the one step places before, and at least the one step places behind? -/
def okB (S : List Int) (i st : Nat) : Bool := decide (nth S (i - st) < nth S i) && decide (nth S (i + st) ≤ nth S i)
/-- Is a place a peak among its eight neighbours? -/
def pkB (a : Nat) (S : List Int) (i : Nat) : Bool := okB S i 1 && (okB S i (a - 1) && (okB S i a && okB S i (a + 1)))

/-- Scores of a size that Offset takes. -/
def Mag (S : List Int) : Prop := ∀ i, In54 (nth S i)

theorem box2 {w : World} {g : Nat} {x0 x1 : Value} {t : TypeId} (h : w.heap[g]? = some (.cells #[x0, x1] t (0, 0))) :
    w.cell? ⟨g, 0, none⟩ = some x0 ∧ w.cell? ⟨g, 1, none⟩ = some x1 := by
  refine ⟨?_, ?_⟩
  all_goals rw [cell_of_row w g _ _ _ _ h]; rfl

set_option maxRecDepth 100000 in
set_option maxHeartbeats 3200000 in
theorem isPeak_any (a : Nat) (A : Option Addr) (n c i : Nat) (S : List Int) (w : World) (h : Sl w A n c S) (ha1 : 2 ≤ a) (ha2 : a ≤ 64) (hn : n ≤ 4096) (h1 : a + 1 ≤ i) (h2 : i + a + 1 < n) {b : Bool} (hb : pkB a S i = b) :
    Calls Try.prog 58 #[.agg #[.int .i64 a, .slice A n c], .int .i64 i] w fun e w' => e = .returned (.bool b) ∧ Below w.heap.size w w' := by
  have hb0 := (Below.refl w.heap.size w).alloc (Nat.le_refl _) (.cells #[.int .i64 a, .slice A n c] 59)
  have hcap := h.le_cap
  have hcl := h.cap_le
  obtain ⟨a1, ha⟩ : ∃ a1 : Nat, a - 1 = a1 := ⟨_, rfl⟩
  have hai : (a : Int) - 1 = (a1 : Int) := by omega
  have haj : (a : Int) + 1 = ((a + 1 : Nat) : Int) := by omega
  obtain ⟨a2, ha'⟩ : ∃ a2 : Nat, a + 1 = a2 := ⟨_, rfl⟩
  rw [ha'] at haj
  obtain ⟨bb, off, rfl, hbw, hc⟩ := (h.alloc (.cells #[.int .i64 a, .slice A n c] 59)).at_ (by omega)
  have i0 : ∀ w : World, (Instr.index 75 (.agg #[.int .i64 1, .int .i64 (a1 : Int), .int .i64 (a : Int), .int .i64 (a2 : Int)]) (.int .i64 0)).run Try.prog w = .ok (.int .i64 1) w := fun _ => by kernel_rfl
  have i1 : ∀ w : World, (Instr.index 75 (.agg #[.int .i64 1, .int .i64 (a1 : Int), .int .i64 (a : Int), .int .i64 (a2 : Int)]) (.int .i64 1)).run Try.prog w = .ok (.int .i64 (a1 : Int)) w := fun _ => by kernel_rfl
  have i2 : ∀ w : World, (Instr.index 75 (.agg #[.int .i64 1, .int .i64 (a1 : Int), .int .i64 (a : Int), .int .i64 (a2 : Int)]) (.int .i64 2)).run Try.prog w = .ok (.int .i64 (a : Int)) w := fun _ => by kernel_rfl
  have i3 : ∀ w : World, (Instr.index 75 (.agg #[.int .i64 1, .int .i64 (a1 : Int), .int .i64 (a : Int), .int .i64 (a2 : Int)]) (.int .i64 3)).run Try.prog w = .ok (.int .i64 (a2 : Int)) w := fun _ => by kernel_rfl
  have cC := hc i (by omega)
  have m0 : (i : Int) - 1 = ((i - 1 : Nat) : Int) := by omega
  have m1 : (i : Int) - (a1 : Int) = ((i - a1 : Nat) : Int) := by omega
  have m2 : (i : Int) - (a : Int) = ((i - a : Nat) : Int) := by omega
  have m3 : (i : Int) - (a2 : Int) = ((i - a2 : Nat) : Int) := by omega
  have cL : ∀ j, j < n → (w.alloc (.cells #[.int .i64 a, .slice (some ⟨bb, off, none⟩) n c] 59)).cell? ⟨bb, off + j, none⟩ = some (.int .i64 (nth S j)) := hc
  replace cL := Lib.hid cL
  obtain ⟨s, hs⟩ : ∃ s, nth S i = s := ⟨_, rfl⟩
  rw [hs] at cC
  have hpk : pkB a S i = (okB S i 1 && (okB S i a1 && (okB S i a && okB S i a2))) := by unfold pkB; rw [ha, ha']
  replace hpk := Lib.hid hpk
  replace hs := Lib.hid hs
  replace hb := Lib.hid hb
  clear hc h
  go_enter Try.func58, Try.ntmps58
  go_wp2
  go_loopw [16] (fun v wr => ∃ k q : Nat, k ≤ 4 ∧ v = .int .i64 k ∧ Hid ((1 ≤ k → okB S i 1 = true) ∧ (2 ≤ k → okB S i a1 = true) ∧ (3 ≤ k → okB S i a = true) ∧ (4 ≤ k → okB S i a2 = true)) ∧ wr = (w.alloc (.cells #[.int .i64 a, .slice (some ⟨bb, off, none⟩) n c] 59)).drewN q) (fun v _ => 4 - (intOf v).toNat)
  case atStart => exact ⟨0, 0, by omega, rfl, Lib.hid ⟨by omega, by omega, by omega, by omega⟩, rfl⟩
  case round =>
    obtain ⟨k, q, hk, rfl, hok, rfl⟩ := hrel
    have hk5 : k = 0 ∨ k = 1 ∨ k = 2 ∨ k = 3 ∨ k = 4 := by omega
    rcases hk5 with rfl | rfl | rfl | rfl | rfl
    · have x1 := cL.out (i - 1) (by omega)
      have x2 := cL.out (i + 1) (by omega)
      obtain ⟨u, hu⟩ : ∃ u, nth S (i - 1) = u := ⟨_, rfl⟩
      obtain ⟨v, hv⟩ : ∃ v, nth S (i + 1) = v := ⟨_, rfl⟩
      rw [hu] at x1
      rw [hv] at x2
      have hoT : Hid (okB S i 1 = (decide (u < s) && decide (v ≤ s))) := Lib.hid (by unfold okB; rw [hu, hv, hs.out])
      have l1 : i - 1 < n := by omega
      obtain ⟨im, him⟩ : ∃ im, i - 1 = im := ⟨_, rfl⟩
      rw [him] at x1 l1
      have mm : (i : Int) - (1 : Int) = (im : Int) := by omega
      have mp : (i : Int) + (1 : Int) = ((i + 1 : Nat) : Int) := by omega
      obtain ⟨ip, hip⟩ : ∃ ip, i + 1 = ip := ⟨_, rfl⟩
      rw [hip] at x2 mp
      have l2 : ip < n := by omega
      replace hu := Lib.hid hu
      replace hv := Lib.hid hv
      replace him := Lib.hid him
      replace hip := Lib.hid hip
      clear m0 m1 m2 m3
      by_cases g1 : u < s
      · have d1 : decide (s ≤ u) = false := by simp; omega
        by_cases g2 : v ≤ s
        · have d2 : decide (s < v) = false := by simp; omega
          have hy : Hid (okB S i 1 = true) := Lib.hid (by rw [hoT.out]; simp [g1, g2])
          replace g1 := Lib.hid g1
          replace g2 := Lib.hid g2
          go_wp2
          go_quiet (fail)
          go_wp2
          go_roundw
          case rel => exact ⟨1, _, by omega, rfl, Lib.hid ⟨fun _ => hy.out, by omega, by omega, by omega⟩, rfl⟩
          case measure => simp [intOf]
        · have d2 : decide (s < v) = true := by simp; omega
          have hv : Hid (b = false) := Lib.hid (by rw [← hb.out, hpk.out, hoT.out]; simp [g1, g2])
          replace g1 := Lib.hid g1
          replace g2 := Lib.hid g2
          go_wp2
          go_quiet (fail)
          go_wp2
          go_ret
          exact ⟨ret_bool hv.out.symm, by first | exact below_drewN hb0 _ | exact below_drewN (below_drewN hb0 _) _⟩
      · have d1 : decide (s ≤ u) = true := by simp; omega
        have hv : Hid (b = false) := Lib.hid (by rw [← hb.out, hpk.out, hoT.out]; simp [g1])
        replace g1 := Lib.hid g1
        go_wp2
        go_quiet (fail)
        go_wp2
        go_ret
        exact ⟨ret_bool hv.out.symm, by first | exact below_drewN hb0 _ | exact below_drewN (below_drewN hb0 _) _⟩
    · have x1 := cL.out (i - a1) (by omega)
      have x2 := cL.out (i + a1) (by omega)
      obtain ⟨u, hu⟩ : ∃ u, nth S (i - a1) = u := ⟨_, rfl⟩
      obtain ⟨v, hv⟩ : ∃ v, nth S (i + a1) = v := ⟨_, rfl⟩
      rw [hu] at x1
      rw [hv] at x2
      have hoT : Hid (okB S i a1 = (decide (u < s) && decide (v ≤ s))) := Lib.hid (by unfold okB; rw [hu, hv, hs.out])
      have l1 : i - a1 < n := by omega
      obtain ⟨im, him⟩ : ∃ im, i - a1 = im := ⟨_, rfl⟩
      rw [him] at x1 l1
      have mm : (i : Int) - (a1 : Int) = (im : Int) := by omega
      have mp : (i : Int) + (a1 : Int) = ((i + a1 : Nat) : Int) := by omega
      obtain ⟨ip, hip⟩ : ∃ ip, i + a1 = ip := ⟨_, rfl⟩
      rw [hip] at x2 mp
      have l2 : ip < n := by omega
      replace hu := Lib.hid hu
      replace hv := Lib.hid hv
      replace him := Lib.hid him
      replace hip := Lib.hid hip
      clear m0 m1 m2 m3
      by_cases g1 : u < s
      · have d1 : decide (s ≤ u) = false := by simp; omega
        by_cases g2 : v ≤ s
        · have d2 : decide (s < v) = false := by simp; omega
          have hy : Hid (okB S i a1 = true) := Lib.hid (by rw [hoT.out]; simp [g1, g2])
          replace g1 := Lib.hid g1
          replace g2 := Lib.hid g2
          go_wp2
          go_quiet (fail)
          go_wp2
          go_roundw
          case rel => exact ⟨2, _, by omega, rfl, Lib.hid ⟨fun _ => hok.out.1 (by omega), fun _ => hy.out, by omega, by omega⟩, rfl⟩
          case measure => simp [intOf]
        · have d2 : decide (s < v) = true := by simp; omega
          have hv : Hid (b = false) := Lib.hid (by rw [← hb.out, hpk.out, hoT.out]; simp [g1, g2])
          replace g1 := Lib.hid g1
          replace g2 := Lib.hid g2
          go_wp2
          go_quiet (fail)
          go_wp2
          go_ret
          exact ⟨ret_bool hv.out.symm, by first | exact below_drewN hb0 _ | exact below_drewN (below_drewN hb0 _) _⟩
      · have d1 : decide (s ≤ u) = true := by simp; omega
        have hv : Hid (b = false) := Lib.hid (by rw [← hb.out, hpk.out, hoT.out]; simp [g1])
        replace g1 := Lib.hid g1
        go_wp2
        go_quiet (fail)
        go_wp2
        go_ret
        exact ⟨ret_bool hv.out.symm, by first | exact below_drewN hb0 _ | exact below_drewN (below_drewN hb0 _) _⟩
    · have x1 := cL.out (i - a) (by omega)
      have x2 := cL.out (i + a) (by omega)
      obtain ⟨u, hu⟩ : ∃ u, nth S (i - a) = u := ⟨_, rfl⟩
      obtain ⟨v, hv⟩ : ∃ v, nth S (i + a) = v := ⟨_, rfl⟩
      rw [hu] at x1
      rw [hv] at x2
      have hoT : Hid (okB S i a = (decide (u < s) && decide (v ≤ s))) := Lib.hid (by unfold okB; rw [hu, hv, hs.out])
      have l1 : i - a < n := by omega
      obtain ⟨im, him⟩ : ∃ im, i - a = im := ⟨_, rfl⟩
      rw [him] at x1 l1
      have mm : (i : Int) - (a : Int) = (im : Int) := by omega
      have mp : (i : Int) + (a : Int) = ((i + a : Nat) : Int) := by omega
      obtain ⟨ip, hip⟩ : ∃ ip, i + a = ip := ⟨_, rfl⟩
      rw [hip] at x2 mp
      have l2 : ip < n := by omega
      replace hu := Lib.hid hu
      replace hv := Lib.hid hv
      replace him := Lib.hid him
      replace hip := Lib.hid hip
      clear m0 m1 m2 m3
      by_cases g1 : u < s
      · have d1 : decide (s ≤ u) = false := by simp; omega
        by_cases g2 : v ≤ s
        · have d2 : decide (s < v) = false := by simp; omega
          have hy : Hid (okB S i a = true) := Lib.hid (by rw [hoT.out]; simp [g1, g2])
          replace g1 := Lib.hid g1
          replace g2 := Lib.hid g2
          go_wp2
          go_quiet (fail)
          go_wp2
          go_roundw
          case rel => exact ⟨3, _, by omega, rfl, Lib.hid ⟨fun _ => hok.out.1 (by omega), fun _ => hok.out.2.1 (by omega), fun _ => hy.out, by omega⟩, rfl⟩
          case measure => simp [intOf]
        · have d2 : decide (s < v) = true := by simp; omega
          have hv : Hid (b = false) := Lib.hid (by rw [← hb.out, hpk.out, hoT.out]; simp [g1, g2])
          replace g1 := Lib.hid g1
          replace g2 := Lib.hid g2
          go_wp2
          go_quiet (fail)
          go_wp2
          go_ret
          exact ⟨ret_bool hv.out.symm, by first | exact below_drewN hb0 _ | exact below_drewN (below_drewN hb0 _) _⟩
      · have d1 : decide (s ≤ u) = true := by simp; omega
        have hv : Hid (b = false) := Lib.hid (by rw [← hb.out, hpk.out, hoT.out]; simp [g1])
        replace g1 := Lib.hid g1
        go_wp2
        go_quiet (fail)
        go_wp2
        go_ret
        exact ⟨ret_bool hv.out.symm, by first | exact below_drewN hb0 _ | exact below_drewN (below_drewN hb0 _) _⟩
    · have x1 := cL.out (i - a2) (by omega)
      have x2 := cL.out (i + a2) (by omega)
      obtain ⟨u, hu⟩ : ∃ u, nth S (i - a2) = u := ⟨_, rfl⟩
      obtain ⟨v, hv⟩ : ∃ v, nth S (i + a2) = v := ⟨_, rfl⟩
      rw [hu] at x1
      rw [hv] at x2
      have hoT : Hid (okB S i a2 = (decide (u < s) && decide (v ≤ s))) := Lib.hid (by unfold okB; rw [hu, hv, hs.out])
      have l1 : i - a2 < n := by omega
      obtain ⟨im, him⟩ : ∃ im, i - a2 = im := ⟨_, rfl⟩
      rw [him] at x1 l1
      have mm : (i : Int) - (a2 : Int) = (im : Int) := by omega
      have mp : (i : Int) + (a2 : Int) = ((i + a2 : Nat) : Int) := by omega
      obtain ⟨ip, hip⟩ : ∃ ip, i + a2 = ip := ⟨_, rfl⟩
      rw [hip] at x2 mp
      have l2 : ip < n := by omega
      replace hu := Lib.hid hu
      replace hv := Lib.hid hv
      replace him := Lib.hid him
      replace hip := Lib.hid hip
      clear m0 m1 m2 m3
      by_cases g1 : u < s
      · have d1 : decide (s ≤ u) = false := by simp; omega
        by_cases g2 : v ≤ s
        · have d2 : decide (s < v) = false := by simp; omega
          have hy : Hid (okB S i a2 = true) := Lib.hid (by rw [hoT.out]; simp [g1, g2])
          replace g1 := Lib.hid g1
          replace g2 := Lib.hid g2
          go_wp2
          go_quiet (fail)
          go_wp2
          go_roundw
          case rel => exact ⟨4, _, by omega, rfl, Lib.hid ⟨fun _ => hok.out.1 (by omega), fun _ => hok.out.2.1 (by omega), fun _ => hok.out.2.2.1 (by omega), fun _ => hy.out⟩, rfl⟩
          case measure => simp [intOf]
        · have d2 : decide (s < v) = true := by simp; omega
          have hv : Hid (b = false) := Lib.hid (by rw [← hb.out, hpk.out, hoT.out]; simp [g1, g2])
          replace g1 := Lib.hid g1
          replace g2 := Lib.hid g2
          go_wp2
          go_quiet (fail)
          go_wp2
          go_ret
          exact ⟨ret_bool hv.out.symm, by first | exact below_drewN hb0 _ | exact below_drewN (below_drewN hb0 _) _⟩
      · have d1 : decide (s ≤ u) = true := by simp; omega
        have hv : Hid (b = false) := Lib.hid (by rw [← hb.out, hpk.out, hoT.out]; simp [g1])
        replace g1 := Lib.hid g1
        go_wp2
        go_quiet (fail)
        go_wp2
        go_ret
        exact ⟨ret_bool hv.out.symm, by first | exact below_drewN hb0 _ | exact below_drewN (below_drewN hb0 _) _⟩
    · have hv : Hid (b = true) := Lib.hid (by rw [← hb.out, hpk.out, hok.out.1 (by omega), hok.out.2.1 (by omega), hok.out.2.2.1 (by omega), hok.out.2.2.2 (by omega)]; rfl)
      go_wp2
      go_ret
      exact ⟨ret_bool hv.out.symm, below_drewN hb0 _⟩

end Go.Proofs.Ytnnaojaadjafbaa
