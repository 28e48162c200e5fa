/-
  Walk: brightest of package descriptor.
-/
import Derived.Test.YtonpnjjfidpoiaaDsQb
import Derived.Test.YtonpnjjfidpoiaaDsE
set_option linter.unusedSimpArgs false
set_option linter.unusedVariables false
namespace Go.Proofs.Ytonpnjjfidpoiaa
open Go.RowKit

theorem KB.set {w : World} {g : Nat} {cs : Array Value} {t : TypeId} (h : KB w g cs t) (i : Nat) (v : Value) : KB (w.setCell ⟨g, i, none⟩ v) g (cs.setIfInBounds i v) t := heap_setCell_same w g i _ _ v h
theorem KB.fr {w : World} {g : Nat} {cs : Array Value} {t : TypeId} (h : KB w g cs t) (i : Nat) : w.frozen? ⟨g, i, none⟩ = false := frozen_of_row w g i _ _ h
/-- The part of an array behind a place, as a slice. -/
theorem KB.sl {w : World} {g : Nat} {v0 v1 v2 v3 : Int} {t : TypeId} (h : KB w g #[.int .i64 v0, .int .i64 v1, .int .i64 v2, .int .i64 v3] t) {k : Nat} (hk : k < 4) : Sl w (some ⟨g, k, none⟩) (4 - k) (4 - k) ([v0, v1, v2, v3].drop k) := by
  refine ⟨by simp, Nat.le_refl _, by omega, fun _ => ⟨g, k, rfl, fun i hi => ?_⟩⟩
  rw [nth_drop]
  have hj : k + i < 4 := by omega
  generalize k + i = j at hj
  have hj' : j = 0 ∨ j = 1 ∨ j = 2 ∨ j = 3 := by omega
  rcases hj' with rfl | rfl | rfl | rfl
  · exact h.cell 0 rfl
  · exact h.cell 1 rfl
  · exact h.cell 2 rfl
  · exact h.cell 3 rfl
theorem Sl.empty (w : World) (A : Option Addr) : Sl w A 0 0 [] := ⟨rfl, Nat.le_refl _, by omega, fun h => absurd h (by omega)⟩

set_option maxRecDepth 100000 in
set_option maxHeartbeats 12800000 in
theorem brightest_at (T a b : Nat) (P : List Int) (M : Int) {n x y : Int} {w : World} (ha : a ≤ 64) (hb : b ≤ 64) (hM : 0 ≤ M ∧ M ≤ 65535) (hP : ∀ g ∈ P, 0 ≤ g ∧ g ≤ M) (hT : Tb w T a b P) (hx : 0 ≤ x ∧ x < 64) (hy : 0 ≤ y ∧ y < 64) (hn : 1 ≤ n ∧ n ≤ 16)
    {k : Nat} {d : Bool} (hbest : Best (sval P a n x y) k d) {r c : Int} (hR1 : sfit a b n x y = true → r = (if d then 0 else (k : Int)) ∧ c = (if d then 13 else 0)) (hR0 : sfit a b n x y = false → r = 0 ∧ c = 15) :
    Calls Try.prog 51 #[.slice (some ⟨T, 0, none⟩) (b + 1) (b + 1), .int .i64 x, .int .i64 y, .int .i64 n] w (RetN w r c) := by
  have hsd := Lib.hid (sides_any n hn)
  have hT' := Lib.hid (fun w' (hb : Below w.heap.size w w') => hT.below hb)
  replace hP := Lib.hid hP
  have hbx := Lib.hid (sd_bxs hn)
  have hxx := Lib.hid hx
  have hyy := Lib.hid hy
  have hMM := Lib.hid hM
  replace hR1 := Lib.hid hR1
  replace hR0 := Lib.hid hR0
  have hno : Hid (∀ j, j < 4 → bfit a b (sd n j) x y = false → r = 0 ∧ c = 15) := Lib.hid fun j hj e => hR0.out (by
    rw [← Bool.not_eq_true, sfit_iff]
    intro hall
    have := hall j hj
    rw [e] at this
    cases this)
  obtain ⟨n1, n2⟩ := hn
  obtain ⟨v0, hv0⟩ : ∃ v, sval P a n x y 0 = v := ⟨_, rfl⟩
  obtain ⟨v1, hv1⟩ : ∃ v, sval P a n x y 1 = v := ⟨_, rfl⟩
  obtain ⟨v2, hv2⟩ : ∃ v, sval P a n x y 2 = v := ⟨_, rfl⟩
  obtain ⟨v3, hv3⟩ : ∃ v, sval P a n x y 3 = v := ⟨_, rfl⟩
  have hV : Hid (∀ i, i < 4 → nth [v0, v1, v2, v3] i = sval P a n x y i) := Lib.hid fun i hi => by
    have : i = 0 ∨ i = 1 ∨ i = 2 ∨ i = 3 := by omega
    rcases this with rfl | rfl | rfl | rfl
    · exact hv0.symm
    · exact hv1.symm
    · exact hv2.symm
    · exact hv3.symm
  replace hv0 := Lib.hid hv0
  replace hv1 := Lib.hid hv1
  replace hv2 := Lib.hid hv2
  replace hv3 := Lib.hid hv3
  have ix0 : ∀ w : World, (Instr.index 93 (.agg #[.int .i64 1, .int .i64 (-n), .int .i64 n, .int .i64 (2 * n + 1), .int .i64 (-n), .int .i64 (-n), .int .i64 (2 * n + 1), .int .i64 n, .int .i64 (-n), .int .i64 (-n), .int .i64 n, .int .i64 (2 * n + 1), .int .i64 (-n), .int .i64 1, .int .i64 (2 * n + 1), .int .i64 n]) (.int .i64 0)).run Try.prog w = .ok (.agg #[.int .i64 1, .int .i64 (-n), .int .i64 n, .int .i64 (2 * n + 1)]) w := fun _ => by kernel_rfl
  have ix1 : ∀ w : World, (Instr.index 93 (.agg #[.int .i64 1, .int .i64 (-n), .int .i64 n, .int .i64 (2 * n + 1), .int .i64 (-n), .int .i64 (-n), .int .i64 (2 * n + 1), .int .i64 n, .int .i64 (-n), .int .i64 (-n), .int .i64 n, .int .i64 (2 * n + 1), .int .i64 (-n), .int .i64 1, .int .i64 (2 * n + 1), .int .i64 n]) (.int .i64 1)).run Try.prog w = .ok (.agg #[.int .i64 (-n), .int .i64 (-n), .int .i64 (2 * n + 1), .int .i64 n]) w := fun _ => by kernel_rfl
  have ix2 : ∀ w : World, (Instr.index 93 (.agg #[.int .i64 1, .int .i64 (-n), .int .i64 n, .int .i64 (2 * n + 1), .int .i64 (-n), .int .i64 (-n), .int .i64 (2 * n + 1), .int .i64 n, .int .i64 (-n), .int .i64 (-n), .int .i64 n, .int .i64 (2 * n + 1), .int .i64 (-n), .int .i64 1, .int .i64 (2 * n + 1), .int .i64 n]) (.int .i64 2)).run Try.prog w = .ok (.agg #[.int .i64 (-n), .int .i64 (-n), .int .i64 n, .int .i64 (2 * n + 1)]) w := fun _ => by kernel_rfl
  have ix3 : ∀ w : World, (Instr.index 93 (.agg #[.int .i64 1, .int .i64 (-n), .int .i64 n, .int .i64 (2 * n + 1), .int .i64 (-n), .int .i64 (-n), .int .i64 (2 * n + 1), .int .i64 n, .int .i64 (-n), .int .i64 (-n), .int .i64 n, .int .i64 (2 * n + 1), .int .i64 (-n), .int .i64 1, .int .i64 (2 * n + 1), .int .i64 n]) (.int .i64 3)).run Try.prog w = .ok (.agg #[.int .i64 (-n), .int .i64 1, .int .i64 (2 * n + 1), .int .i64 n]) w := fun _ => by kernel_rfl
  have hal : Try.prog.arrayLen 28 = 4 := by kernel_rfl
  have sl1 : ∀ (w' : World) (g : Nat), (Instr.sliceAt 28 (.pointer (some ⟨g, 0, none⟩)) (some (.int .i64 1)) none none).run Try.prog w' = .ok (.slice (some ⟨g, 1, none⟩) 3 3) w' := fun _ _ => by kernel_rfl
  have sl2 : ∀ (w' : World) (g : Nat), (Instr.sliceAt 28 (.pointer (some ⟨g, 0, none⟩)) (some (.int .i64 2)) none none).run Try.prog w' = .ok (.slice (some ⟨g, 2, none⟩) 2 2) w' := fun _ _ => by kernel_rfl
  have sl3 : ∀ (w' : World) (g : Nat), (Instr.sliceAt 28 (.pointer (some ⟨g, 0, none⟩)) (some (.int .i64 3)) none none).run Try.prog w' = .ok (.slice (some ⟨g, 3, none⟩) 1 1) w' := fun _ _ => by kernel_rfl
  have sl4 : ∀ (w' : World) (g : Nat), (Instr.sliceAt 28 (.pointer (some ⟨g, 0, none⟩)) (some (.int .i64 4)) none none).run Try.prog w' = .ok (.slice (some ⟨g, 0, none⟩) 0 0) w' := fun _ _ => by kernel_rfl
  have jw1 : IntKind.i64.wrap 1 = 1 := IntWalk.i64_in _ (by omega)
  have jw2 : IntKind.i64.wrap 2 = 2 := IntWalk.i64_in _ (by omega)
  have jw3 : IntKind.i64.wrap 3 = 3 := IntWalk.i64_in _ (by omega)
  have jw4 : IntKind.i64.wrap 4 = 4 := IntWalk.i64_in _ (by omega)
  have k0 : KB _ _ _ _ := KB.new w #[.int .i64 0, .int .i64 0, .int .i64 0, .int .i64 0] 28
  have hB0 := (Below.refl w.heap.size w).alloc (Nat.le_refl _) (.cells #[.int .i64 0, .int .i64 0, .int .i64 0, .int .i64 0] 28)
  replace hbest := Lib.hid hbest
  clear hT hx hy hM
  go_enter Try.func51, Try.ntmps51
  go_wp2_with (go_at_call 63; refine (hsd.out _).mono ?_; rintro e w1 ⟨rfl, hb1⟩; simp only [World.size_alloc] at hb1; have zz1 := hb1.size; (try simp only [World.size_alloc] at zz1); replace k0 := k0.below hb1 (by omega); replace hB0 := hB0.trans (hb1.mono (by omega)))
  go_loopw [18] (fun i wr => ∃ k : Nat, k ≤ 4 ∧ i = .int .i64 (k : Int) ∧ Below w.heap.size w wr ∧ w.heap.size < wr.heap.size ∧ Hid (∀ j, j < k → bfit a b (sd n j) x y = true) ∧ KB wr w.heap.size (match k with | 0 => #[.int .i64 0, .int .i64 0, .int .i64 0, .int .i64 0] | 1 => #[.int .i64 v0, .int .i64 0, .int .i64 0, .int .i64 0] | 2 => #[.int .i64 v0, .int .i64 v1, .int .i64 0, .int .i64 0] | 3 => #[.int .i64 v0, .int .i64 v1, .int .i64 v2, .int .i64 0] | _ => #[.int .i64 v0, .int .i64 v1, .int .i64 v2, .int .i64 v3]) 28) (fun i _ => 4 - (intOf i).toNat)
  case atStart => exact ⟨0, by omega, rfl, hB0, by omega, Lib.hid fun j hj => absurd hj (Nat.not_lt_zero _), k0⟩
  case round =>
    clear k0 hB0
    obtain ⟨m, hm, rfl, hB, hgl, HA, kk⟩ := hrel
    have hm5 : m = 0 ∨ m = 1 ∨ m = 2 ∨ m = 3 ∨ m = 4 := by omega
    rcases hm5 with rfl | rfl | rfl | rfl | rfl
    · simp only at kk
      have hB1 := hB.alloc hB.size (.cells #[.int .i64 1, .int .i64 (-n), .int .i64 n, .int .i64 (2 * n + 1)] 28)
      have ka := kk.alloc (.cells #[.int .i64 1, .int .i64 (-n), .int .i64 n, .int .i64 (2 * n + 1)] 28)
      have hz := hB.size
      obtain ⟨f, hf⟩ : ∃ f, bfit a b (sd n 0) x y = f := ⟨_, rfl⟩
      cases f
      · obtain ⟨e1, e2⟩ := hno.out 0 (by omega) hf
        subst e1 e2
        have hf' : bfit a b (1, -n, n, 2 * n + 1) x y = false := hf
        have hbq : Bxs (1, -n, n, 2 * n + 1) := hbx.out 0
        have hc := Lib.hid (sbox_at (w := wr.alloc (.cells #[.int .i64 1, .int .i64 (-n), .int .i64 n, .int .i64 (2 * n + 1)] 28)) T a b P M ha hb hMM.out hP.out (hT'.out _ hB1) hxx.out hyy.out hbq hf' (v := 0) rfl (kc := 15) rfl)
        replace hf := Lib.hid hf
        replace hbq := Lib.hid hbq
        clear hf'
        go_wp2_with (go_at_call 56; refine hc.out.mono ?_; rintro e w2 ⟨rfl, hb2⟩; simp only [World.size_alloc] at hb2)
        go_ret2
        exact ⟨rfl, hB1.trans (hb2.mono (by omega))⟩
      · have hf' : bfit a b (1, -n, n, 2 * n + 1) x y = true := hf
        have hbq : Bxs (1, -n, n, 2 * n + 1) := hbx.out 0
        have hc := Lib.hid (sbox_at (w := wr.alloc (.cells #[.int .i64 1, .int .i64 (-n), .int .i64 n, .int .i64 (2 * n + 1)] 28)) T a b P M ha hb hMM.out hP.out (hT'.out _ hB1) hxx.out hyy.out hbq hf' (v := v0) hv0.out (kc := 0) rfl)
        have HA' : Hid (∀ j, j < 0 + 1 → bfit a b (sd n j) x y = true) := Lib.hid fun j hj => by
          by_cases e : j = 0
          · rw [e]; exact hf
          · exact HA.out j (by omega)
        replace hf := Lib.hid hf
        replace hbq := Lib.hid hbq
        clear hf' HA
        go_wp2_with (go_at_call 56; refine hc.out.mono ?_; rintro e w2 ⟨rfl, hb2⟩; simp only [World.size_alloc] at hb2; have zz2 := hb2.size; (try simp only [World.size_alloc] at zz2); have k2 := ka.below hb2 (by omega); have hB2 := hB1.trans (hb2.mono (by omega)); have c0 := k2.cell 0 rfl; have f0 := k2.fr 0)
        exact ⟨⟨0 + 1, by omega, by go_num, hB2.setCell (by simp) _, by simp [World.setCell]; omega, HA', k2.set 0 _⟩, by simp [intOf]⟩
    · simp only at kk
      have hB1 := hB.alloc hB.size (.cells #[.int .i64 (-n), .int .i64 (-n), .int .i64 (2 * n + 1), .int .i64 n] 28)
      have ka := kk.alloc (.cells #[.int .i64 (-n), .int .i64 (-n), .int .i64 (2 * n + 1), .int .i64 n] 28)
      have hz := hB.size
      obtain ⟨f, hf⟩ : ∃ f, bfit a b (sd n 1) x y = f := ⟨_, rfl⟩
      cases f
      · obtain ⟨e1, e2⟩ := hno.out 1 (by omega) hf
        subst e1 e2
        have hf' : bfit a b (-n, -n, 2 * n + 1, n) x y = false := hf
        have hbq : Bxs (-n, -n, 2 * n + 1, n) := hbx.out 1
        have hc := Lib.hid (sbox_at (w := wr.alloc (.cells #[.int .i64 (-n), .int .i64 (-n), .int .i64 (2 * n + 1), .int .i64 n] 28)) T a b P M ha hb hMM.out hP.out (hT'.out _ hB1) hxx.out hyy.out hbq hf' (v := 0) rfl (kc := 15) rfl)
        replace hf := Lib.hid hf
        replace hbq := Lib.hid hbq
        clear hf'
        go_wp2_with (go_at_call 56; refine hc.out.mono ?_; rintro e w2 ⟨rfl, hb2⟩; simp only [World.size_alloc] at hb2)
        go_ret2
        exact ⟨rfl, hB1.trans (hb2.mono (by omega))⟩
      · have hf' : bfit a b (-n, -n, 2 * n + 1, n) x y = true := hf
        have hbq : Bxs (-n, -n, 2 * n + 1, n) := hbx.out 1
        have hc := Lib.hid (sbox_at (w := wr.alloc (.cells #[.int .i64 (-n), .int .i64 (-n), .int .i64 (2 * n + 1), .int .i64 n] 28)) T a b P M ha hb hMM.out hP.out (hT'.out _ hB1) hxx.out hyy.out hbq hf' (v := v1) hv1.out (kc := 0) rfl)
        have HA' : Hid (∀ j, j < 1 + 1 → bfit a b (sd n j) x y = true) := Lib.hid fun j hj => by
          by_cases e : j = 1
          · rw [e]; exact hf
          · exact HA.out j (by omega)
        replace hf := Lib.hid hf
        replace hbq := Lib.hid hbq
        clear hf' HA
        go_wp2_with (go_at_call 56; refine hc.out.mono ?_; rintro e w2 ⟨rfl, hb2⟩; simp only [World.size_alloc] at hb2; have zz2 := hb2.size; (try simp only [World.size_alloc] at zz2); have k2 := ka.below hb2 (by omega); have hB2 := hB1.trans (hb2.mono (by omega)); have c0 := k2.cell 1 rfl; have f0 := k2.fr 1)
        exact ⟨⟨1 + 1, by omega, by go_num, hB2.setCell (by simp) _, by simp [World.setCell]; omega, HA', k2.set 1 _⟩, by simp [intOf]⟩
    · simp only at kk
      have hB1 := hB.alloc hB.size (.cells #[.int .i64 (-n), .int .i64 (-n), .int .i64 n, .int .i64 (2 * n + 1)] 28)
      have ka := kk.alloc (.cells #[.int .i64 (-n), .int .i64 (-n), .int .i64 n, .int .i64 (2 * n + 1)] 28)
      have hz := hB.size
      obtain ⟨f, hf⟩ : ∃ f, bfit a b (sd n 2) x y = f := ⟨_, rfl⟩
      cases f
      · obtain ⟨e1, e2⟩ := hno.out 2 (by omega) hf
        subst e1 e2
        have hf' : bfit a b (-n, -n, n, 2 * n + 1) x y = false := hf
        have hbq : Bxs (-n, -n, n, 2 * n + 1) := hbx.out 2
        have hc := Lib.hid (sbox_at (w := wr.alloc (.cells #[.int .i64 (-n), .int .i64 (-n), .int .i64 n, .int .i64 (2 * n + 1)] 28)) T a b P M ha hb hMM.out hP.out (hT'.out _ hB1) hxx.out hyy.out hbq hf' (v := 0) rfl (kc := 15) rfl)
        replace hf := Lib.hid hf
        replace hbq := Lib.hid hbq
        clear hf'
        go_wp2_with (go_at_call 56; refine hc.out.mono ?_; rintro e w2 ⟨rfl, hb2⟩; simp only [World.size_alloc] at hb2)
        go_ret2
        exact ⟨rfl, hB1.trans (hb2.mono (by omega))⟩
      · have hf' : bfit a b (-n, -n, n, 2 * n + 1) x y = true := hf
        have hbq : Bxs (-n, -n, n, 2 * n + 1) := hbx.out 2
        have hc := Lib.hid (sbox_at (w := wr.alloc (.cells #[.int .i64 (-n), .int .i64 (-n), .int .i64 n, .int .i64 (2 * n + 1)] 28)) T a b P M ha hb hMM.out hP.out (hT'.out _ hB1) hxx.out hyy.out hbq hf' (v := v2) hv2.out (kc := 0) rfl)
        have HA' : Hid (∀ j, j < 2 + 1 → bfit a b (sd n j) x y = true) := Lib.hid fun j hj => by
          by_cases e : j = 2
          · rw [e]; exact hf
          · exact HA.out j (by omega)
        replace hf := Lib.hid hf
        replace hbq := Lib.hid hbq
        clear hf' HA
        go_wp2_with (go_at_call 56; refine hc.out.mono ?_; rintro e w2 ⟨rfl, hb2⟩; simp only [World.size_alloc] at hb2; have zz2 := hb2.size; (try simp only [World.size_alloc] at zz2); have k2 := ka.below hb2 (by omega); have hB2 := hB1.trans (hb2.mono (by omega)); have c0 := k2.cell 2 rfl; have f0 := k2.fr 2)
        exact ⟨⟨2 + 1, by omega, by go_num, hB2.setCell (by simp) _, by simp [World.setCell]; omega, HA', k2.set 2 _⟩, by simp [intOf]⟩
    · simp only at kk
      have hB1 := hB.alloc hB.size (.cells #[.int .i64 (-n), .int .i64 1, .int .i64 (2 * n + 1), .int .i64 n] 28)
      have ka := kk.alloc (.cells #[.int .i64 (-n), .int .i64 1, .int .i64 (2 * n + 1), .int .i64 n] 28)
      have hz := hB.size
      obtain ⟨f, hf⟩ : ∃ f, bfit a b (sd n 3) x y = f := ⟨_, rfl⟩
      cases f
      · obtain ⟨e1, e2⟩ := hno.out 3 (by omega) hf
        subst e1 e2
        have hf' : bfit a b (-n, 1, 2 * n + 1, n) x y = false := hf
        have hbq : Bxs (-n, 1, 2 * n + 1, n) := hbx.out 3
        have hc := Lib.hid (sbox_at (w := wr.alloc (.cells #[.int .i64 (-n), .int .i64 1, .int .i64 (2 * n + 1), .int .i64 n] 28)) T a b P M ha hb hMM.out hP.out (hT'.out _ hB1) hxx.out hyy.out hbq hf' (v := 0) rfl (kc := 15) rfl)
        replace hf := Lib.hid hf
        replace hbq := Lib.hid hbq
        clear hf'
        go_wp2_with (go_at_call 56; refine hc.out.mono ?_; rintro e w2 ⟨rfl, hb2⟩; simp only [World.size_alloc] at hb2)
        go_ret2
        exact ⟨rfl, hB1.trans (hb2.mono (by omega))⟩
      · have hf' : bfit a b (-n, 1, 2 * n + 1, n) x y = true := hf
        have hbq : Bxs (-n, 1, 2 * n + 1, n) := hbx.out 3
        have hc := Lib.hid (sbox_at (w := wr.alloc (.cells #[.int .i64 (-n), .int .i64 1, .int .i64 (2 * n + 1), .int .i64 n] 28)) T a b P M ha hb hMM.out hP.out (hT'.out _ hB1) hxx.out hyy.out hbq hf' (v := v3) hv3.out (kc := 0) rfl)
        have HA' : Hid (∀ j, j < 3 + 1 → bfit a b (sd n j) x y = true) := Lib.hid fun j hj => by
          by_cases e : j = 3
          · rw [e]; exact hf
          · exact HA.out j (by omega)
        replace hf := Lib.hid hf
        replace hbq := Lib.hid hbq
        clear hf' HA
        go_wp2_with (go_at_call 56; refine hc.out.mono ?_; rintro e w2 ⟨rfl, hb2⟩; simp only [World.size_alloc] at hb2; have zz2 := hb2.size; (try simp only [World.size_alloc] at zz2); have k2 := ka.below hb2 (by omega); have hB2 := hB1.trans (hb2.mono (by omega)); have c0 := k2.cell 3 rfl; have f0 := k2.fr 3)
        exact ⟨⟨3 + 1, by omega, by go_num, hB2.setCell (by simp) _, by simp [World.setCell]; omega, HA', k2.set 3 _⟩, by simp [intOf]⟩
    · simp only at kk
      obtain ⟨h1, h2, h3, h4⟩ := hbest.out
      obtain ⟨e1, e2⟩ := hR1.out (sfit_iff.2 HA.out)
      have s0 := kk.sl (k := 0) (by omega)
      simp only [Nat.sub_zero, List.drop_zero] at s0
      obtain ⟨MX, hMX⟩ : ∃ z, sval P a n x y k = z := ⟨_, rfl⟩
      have m1 : ∀ i, i < 4 → nth [v0, v1, v2, v3] i ≤ MX := fun i hi => by rw [hV.out i hi, ← hMX]; exact h3 i hi
      have m2 : ∃ i, i < 4 ∧ nth [v0, v1, v2, v3] i = MX := ⟨k, h1, by rw [hV.out k h1, hMX]⟩
      have m3 : nth [v0, v1, v2, v3] k = MX := by rw [hV.out k h1, hMX]
      have m4 : ∀ j, j < k → nth [v0, v1, v2, v3] j ≠ MX := fun j hj => by rw [hV.out j (by omega), ← hMX]; have := h2 j hj; omega
      have hmax := Lib.hid (fun w' (hb : Below wr.heap.size wr w') => Max_at (some ⟨w.heap.size, 0, none⟩) 4 4 [v0, v1, v2, v3] w' (s0.below hb (Nat.le_refl _)) (by omega) m1 m2)
      have hidx := Lib.hid (fun w' (hb : Below wr.heap.size wr w') => Index_yes (some ⟨w.heap.size, 0, none⟩) 4 4 [v0, v1, v2, v3] MX w' (s0.below hb (Nat.le_refl _)) h1 m3 m4)
      have hdj : Hid (d = true ↔ ∃ j, k < j ∧ j < 4 ∧ nth [v0, v1, v2, v3] j = MX) := Lib.hid (by
        rw [h4]
        constructor
        · rintro ⟨j, j1, j2, j3⟩; exact ⟨j, j1, j2, by rw [hV.out j j2, j3, hMX]⟩
        · rintro ⟨j, j1, j2, j3⟩; exact ⟨j, j1, j2, by rw [← hV.out j j2, j3, hMX]⟩)
      have hkc := kk
      have hzr := hB.size
      have hkk : k = 0 ∨ k = 1 ∨ k = 2 ∨ k = 3 := by omega
      have m3' := Lib.hid m3
      replace h1 := Lib.hid h1
      replace hMX := Lib.hid hMX
      clear h2 h3 h4 m1 m2 m3 m4 s0
      have keepS : ∀ w', Below wr.heap.size wr w' → w'.cell? ⟨w.heap.size, 0, none⟩ = some (.int .i64 v0) ∧ w'.cell? ⟨w.heap.size, 1, none⟩ = some (.int .i64 v1) ∧ w'.cell? ⟨w.heap.size, 2, none⟩ = some (.int .i64 v2) ∧ w'.cell? ⟨w.heap.size, 3, none⟩ = some (.int .i64 v3) := by
        intro w' hb
        have r1 := hkc.below hb hgl
        exact ⟨r1.cell 0 rfl, r1.cell 1 rfl, r1.cell 2 rfl, r1.cell 3 rfl⟩
      replace keepS := Lib.hid keepS
      rcases hkk with rfl | rfl | rfl | rfl
      · have hvk : v0 = MX := m3'.out
        subst hvk
        have qtok1 : True := trivial
        go_wp2
        go_region_held3 (fun w' => w'.cell? ⟨w.heap.size, 0, none⟩ = some (.int .i64 v0) ∧ w'.cell? ⟨w.heap.size, 1, none⟩ = some (.int .i64 v1) ∧ w'.cell? ⟨w.heap.size, 2, none⟩ = some (.int .i64 v2) ∧ w'.cell? ⟨w.heap.size, 3, none⟩ = some (.int .i64 v3))
          (exact keepS.out _ (by repeat (with_reducible (first | exact qB2 | exact qB1 | exact Below.refl _ _ | refine Below.drew ?_ | refine Below.drewN ?_ _))))
          (first | (go_at_call 65; clear qtok1; refine (hmax.out _ (by repeat (first | exact Below.refl _ _ | refine Below.drew ?_))).mono ?_; rintro e qw1 ⟨rfl, qh1⟩; have qB1 : Below wr.heap.size wr qw1 := Below.trans (by repeat (first | exact Below.refl _ _ | refine Below.drew ?_)) (qh1.mono (by first | omega | (simp <;> omega)))) | (go_at_call 64; refine (hidx.out _ (by repeat (first | exact qB1 | refine Below.drew ?_))).mono ?_; rintro e qw2 ⟨rfl, qh2⟩; have qB2 : Below wr.heap.size wr qw2 := Below.trans (by repeat (first | exact qB1 | refine Below.drew ?_)) (qh2.mono (by have := qB1.size; first | omega | (simp <;> omega)))))
        have k3 := hkc.below qB2 hgl
        have d0 := k3.cell 0 rfl
        have d1 := k3.cell 1 rfl
        have d2 := k3.cell 2 rfl
        have d3 := k3.cell 3 rfl
        have zq2 := qB2.size
        have hB3 := hB.trans (qB2.mono hzr)
        have hcon := Lib.hid (fun (A : Option Addr) w' (h : Sl w' A 3 3 [v1, v2, v3]) => Contains_at A 3 3 [v1, v2, v3] v0 w' h (b := d) (by
          rw [hdj.out]
          constructor
          · rintro ⟨j, j1, j2, j3⟩
            refine ⟨j - 1, by omega, ?_⟩
            have hj : j = 1 + (j - 1) := by omega
            rw [hj, ← nth_drop] at j3
            exact j3
          · rintro ⟨j, j1, j2⟩
            refine ⟨1 + j, by omega, by omega, ?_⟩
            rw [← nth_drop]
            exact j2))
        have hsl := Lib.hid (fun w' (hb : Below qw2.heap.size qw2 w') => (k3.below hb (by omega)).sl (k := 1) (by omega))
        have keepT : ∀ w', Below qw2.heap.size qw2 w' → w'.cell? ⟨w.heap.size, 0, none⟩ = some (.int .i64 v0) ∧ w'.cell? ⟨w.heap.size, 1, none⟩ = some (.int .i64 v1) ∧ w'.cell? ⟨w.heap.size, 2, none⟩ = some (.int .i64 v2) ∧ w'.cell? ⟨w.heap.size, 3, none⟩ = some (.int .i64 v3) := by
          intro w' hb
          have r1 := k3.below hb (by omega)
          exact ⟨r1.cell 0 rfl, r1.cell 1 rfl, r1.cell 2 rfl, r1.cell 3 rfl⟩
        replace keepT := Lib.hid keepT
        cases d
        all_goals
          simp only [Bool.false_eq_true, if_false, if_true] at e1 e2
          subst e1 e2
          go_wp2
          go_region_held3 (fun w' => w'.cell? ⟨w.heap.size, 0, none⟩ = some (.int .i64 v0) ∧ w'.cell? ⟨w.heap.size, 1, none⟩ = some (.int .i64 v1) ∧ w'.cell? ⟨w.heap.size, 2, none⟩ = some (.int .i64 v2) ∧ w'.cell? ⟨w.heap.size, 3, none⟩ = some (.int .i64 v3))
            (exact keepT.out _ (by repeat (with_reducible (first | exact pB1 | exact Below.refl _ _ | refine Below.drew ?_ | refine Below.drewN ?_ _))))
            (first | (go_at_call 66; refine (hcon.out _ _ (hsl.out _ (by repeat (first | exact Below.refl _ _ | refine Below.drew ?_)))).mono ?_; rintro e pw1 ⟨rfl, ph1⟩; have pB1 : Below qw2.heap.size qw2 pw1 := Below.trans (by repeat (first | exact Below.refl _ _ | refine Below.drew ?_)) (ph1.mono (by first | omega | (simp <;> omega)))))
          go_wp2
          go_ret2
          exact ⟨rfl, hB3.trans (pB1.mono (by have := hB3.size; omega))⟩
      · have hvk : v1 = MX := m3'.out
        subst hvk
        have qtok1 : True := trivial
        go_wp2
        go_region_held3 (fun w' => w'.cell? ⟨w.heap.size, 0, none⟩ = some (.int .i64 v0) ∧ w'.cell? ⟨w.heap.size, 1, none⟩ = some (.int .i64 v1) ∧ w'.cell? ⟨w.heap.size, 2, none⟩ = some (.int .i64 v2) ∧ w'.cell? ⟨w.heap.size, 3, none⟩ = some (.int .i64 v3))
          (exact keepS.out _ (by repeat (with_reducible (first | exact qB2 | exact qB1 | exact Below.refl _ _ | refine Below.drew ?_ | refine Below.drewN ?_ _))))
          (first | (go_at_call 65; clear qtok1; refine (hmax.out _ (by repeat (first | exact Below.refl _ _ | refine Below.drew ?_))).mono ?_; rintro e qw1 ⟨rfl, qh1⟩; have qB1 : Below wr.heap.size wr qw1 := Below.trans (by repeat (first | exact Below.refl _ _ | refine Below.drew ?_)) (qh1.mono (by first | omega | (simp <;> omega)))) | (go_at_call 64; refine (hidx.out _ (by repeat (first | exact qB1 | refine Below.drew ?_))).mono ?_; rintro e qw2 ⟨rfl, qh2⟩; have qB2 : Below wr.heap.size wr qw2 := Below.trans (by repeat (first | exact qB1 | refine Below.drew ?_)) (qh2.mono (by have := qB1.size; first | omega | (simp <;> omega)))))
        have k3 := hkc.below qB2 hgl
        have d0 := k3.cell 0 rfl
        have d1 := k3.cell 1 rfl
        have d2 := k3.cell 2 rfl
        have d3 := k3.cell 3 rfl
        have zq2 := qB2.size
        have hB3 := hB.trans (qB2.mono hzr)
        have hcon := Lib.hid (fun (A : Option Addr) w' (h : Sl w' A 2 2 [v2, v3]) => Contains_at A 2 2 [v2, v3] v1 w' h (b := d) (by
          rw [hdj.out]
          constructor
          · rintro ⟨j, j1, j2, j3⟩
            refine ⟨j - 2, by omega, ?_⟩
            have hj : j = 2 + (j - 2) := by omega
            rw [hj, ← nth_drop] at j3
            exact j3
          · rintro ⟨j, j1, j2⟩
            refine ⟨2 + j, by omega, by omega, ?_⟩
            rw [← nth_drop]
            exact j2))
        have hsl := Lib.hid (fun w' (hb : Below qw2.heap.size qw2 w') => (k3.below hb (by omega)).sl (k := 2) (by omega))
        have keepT : ∀ w', Below qw2.heap.size qw2 w' → w'.cell? ⟨w.heap.size, 0, none⟩ = some (.int .i64 v0) ∧ w'.cell? ⟨w.heap.size, 1, none⟩ = some (.int .i64 v1) ∧ w'.cell? ⟨w.heap.size, 2, none⟩ = some (.int .i64 v2) ∧ w'.cell? ⟨w.heap.size, 3, none⟩ = some (.int .i64 v3) := by
          intro w' hb
          have r1 := k3.below hb (by omega)
          exact ⟨r1.cell 0 rfl, r1.cell 1 rfl, r1.cell 2 rfl, r1.cell 3 rfl⟩
        replace keepT := Lib.hid keepT
        cases d
        all_goals
          simp only [Bool.false_eq_true, if_false, if_true] at e1 e2
          subst e1 e2
          go_wp2
          go_region_held3 (fun w' => w'.cell? ⟨w.heap.size, 0, none⟩ = some (.int .i64 v0) ∧ w'.cell? ⟨w.heap.size, 1, none⟩ = some (.int .i64 v1) ∧ w'.cell? ⟨w.heap.size, 2, none⟩ = some (.int .i64 v2) ∧ w'.cell? ⟨w.heap.size, 3, none⟩ = some (.int .i64 v3))
            (exact keepT.out _ (by repeat (with_reducible (first | exact pB1 | exact Below.refl _ _ | refine Below.drew ?_ | refine Below.drewN ?_ _))))
            (first | (go_at_call 66; refine (hcon.out _ _ (hsl.out _ (by repeat (first | exact Below.refl _ _ | refine Below.drew ?_)))).mono ?_; rintro e pw1 ⟨rfl, ph1⟩; have pB1 : Below qw2.heap.size qw2 pw1 := Below.trans (by repeat (first | exact Below.refl _ _ | refine Below.drew ?_)) (ph1.mono (by first | omega | (simp <;> omega)))))
          go_wp2
          go_ret2
          exact ⟨rfl, hB3.trans (pB1.mono (by have := hB3.size; omega))⟩
      · have hvk : v2 = MX := m3'.out
        subst hvk
        have qtok1 : True := trivial
        go_wp2
        go_region_held3 (fun w' => w'.cell? ⟨w.heap.size, 0, none⟩ = some (.int .i64 v0) ∧ w'.cell? ⟨w.heap.size, 1, none⟩ = some (.int .i64 v1) ∧ w'.cell? ⟨w.heap.size, 2, none⟩ = some (.int .i64 v2) ∧ w'.cell? ⟨w.heap.size, 3, none⟩ = some (.int .i64 v3))
          (exact keepS.out _ (by repeat (with_reducible (first | exact qB2 | exact qB1 | exact Below.refl _ _ | refine Below.drew ?_ | refine Below.drewN ?_ _))))
          (first | (go_at_call 65; clear qtok1; refine (hmax.out _ (by repeat (first | exact Below.refl _ _ | refine Below.drew ?_))).mono ?_; rintro e qw1 ⟨rfl, qh1⟩; have qB1 : Below wr.heap.size wr qw1 := Below.trans (by repeat (first | exact Below.refl _ _ | refine Below.drew ?_)) (qh1.mono (by first | omega | (simp <;> omega)))) | (go_at_call 64; refine (hidx.out _ (by repeat (first | exact qB1 | refine Below.drew ?_))).mono ?_; rintro e qw2 ⟨rfl, qh2⟩; have qB2 : Below wr.heap.size wr qw2 := Below.trans (by repeat (first | exact qB1 | refine Below.drew ?_)) (qh2.mono (by have := qB1.size; first | omega | (simp <;> omega)))))
        have k3 := hkc.below qB2 hgl
        have d0 := k3.cell 0 rfl
        have d1 := k3.cell 1 rfl
        have d2 := k3.cell 2 rfl
        have d3 := k3.cell 3 rfl
        have zq2 := qB2.size
        have hB3 := hB.trans (qB2.mono hzr)
        have hcon := Lib.hid (fun (A : Option Addr) w' (h : Sl w' A 1 1 [v3]) => Contains_at A 1 1 [v3] v2 w' h (b := d) (by
          rw [hdj.out]
          constructor
          · rintro ⟨j, j1, j2, j3⟩
            refine ⟨j - 3, by omega, ?_⟩
            have hj : j = 3 + (j - 3) := by omega
            rw [hj, ← nth_drop] at j3
            exact j3
          · rintro ⟨j, j1, j2⟩
            refine ⟨3 + j, by omega, by omega, ?_⟩
            rw [← nth_drop]
            exact j2))
        have hsl := Lib.hid (fun w' (hb : Below qw2.heap.size qw2 w') => (k3.below hb (by omega)).sl (k := 3) (by omega))
        have keepT : ∀ w', Below qw2.heap.size qw2 w' → w'.cell? ⟨w.heap.size, 0, none⟩ = some (.int .i64 v0) ∧ w'.cell? ⟨w.heap.size, 1, none⟩ = some (.int .i64 v1) ∧ w'.cell? ⟨w.heap.size, 2, none⟩ = some (.int .i64 v2) ∧ w'.cell? ⟨w.heap.size, 3, none⟩ = some (.int .i64 v3) := by
          intro w' hb
          have r1 := k3.below hb (by omega)
          exact ⟨r1.cell 0 rfl, r1.cell 1 rfl, r1.cell 2 rfl, r1.cell 3 rfl⟩
        replace keepT := Lib.hid keepT
        cases d
        all_goals
          simp only [Bool.false_eq_true, if_false, if_true] at e1 e2
          subst e1 e2
          go_wp2
          go_region_held3 (fun w' => w'.cell? ⟨w.heap.size, 0, none⟩ = some (.int .i64 v0) ∧ w'.cell? ⟨w.heap.size, 1, none⟩ = some (.int .i64 v1) ∧ w'.cell? ⟨w.heap.size, 2, none⟩ = some (.int .i64 v2) ∧ w'.cell? ⟨w.heap.size, 3, none⟩ = some (.int .i64 v3))
            (exact keepT.out _ (by repeat (with_reducible (first | exact pB1 | exact Below.refl _ _ | refine Below.drew ?_ | refine Below.drewN ?_ _))))
            (first | (go_at_call 66; refine (hcon.out _ _ (hsl.out _ (by repeat (first | exact Below.refl _ _ | refine Below.drew ?_)))).mono ?_; rintro e pw1 ⟨rfl, ph1⟩; have pB1 : Below qw2.heap.size qw2 pw1 := Below.trans (by repeat (first | exact Below.refl _ _ | refine Below.drew ?_)) (ph1.mono (by first | omega | (simp <;> omega)))))
          go_wp2
          go_ret2
          exact ⟨rfl, hB3.trans (pB1.mono (by have := hB3.size; omega))⟩
      · have hvk : v3 = MX := m3'.out
        subst hvk
        have qtok1 : True := trivial
        go_wp2
        go_region_held3 (fun w' => w'.cell? ⟨w.heap.size, 0, none⟩ = some (.int .i64 v0) ∧ w'.cell? ⟨w.heap.size, 1, none⟩ = some (.int .i64 v1) ∧ w'.cell? ⟨w.heap.size, 2, none⟩ = some (.int .i64 v2) ∧ w'.cell? ⟨w.heap.size, 3, none⟩ = some (.int .i64 v3))
          (exact keepS.out _ (by repeat (with_reducible (first | exact qB2 | exact qB1 | exact Below.refl _ _ | refine Below.drew ?_ | refine Below.drewN ?_ _))))
          (first | (go_at_call 65; clear qtok1; refine (hmax.out _ (by repeat (first | exact Below.refl _ _ | refine Below.drew ?_))).mono ?_; rintro e qw1 ⟨rfl, qh1⟩; have qB1 : Below wr.heap.size wr qw1 := Below.trans (by repeat (first | exact Below.refl _ _ | refine Below.drew ?_)) (qh1.mono (by first | omega | (simp <;> omega)))) | (go_at_call 64; refine (hidx.out _ (by repeat (first | exact qB1 | refine Below.drew ?_))).mono ?_; rintro e qw2 ⟨rfl, qh2⟩; have qB2 : Below wr.heap.size wr qw2 := Below.trans (by repeat (first | exact qB1 | refine Below.drew ?_)) (qh2.mono (by have := qB1.size; first | omega | (simp <;> omega)))))
        have k3 := hkc.below qB2 hgl
        have d0 := k3.cell 0 rfl
        have d1 := k3.cell 1 rfl
        have d2 := k3.cell 2 rfl
        have d3 := k3.cell 3 rfl
        have zq2 := qB2.size
        have hB3 := hB.trans (qB2.mono hzr)
        have hcon := Lib.hid (fun (A : Option Addr) w' (h : Sl w' A 0 0 []) => Contains_at A 0 0 [] v3 w' h (b := d) (by
          rw [hdj.out]
          constructor
          · rintro ⟨j, j1, j2, j3⟩
            refine ⟨j - 4, by omega, ?_⟩
            have hj : j = 4 + (j - 4) := by omega
            rw [hj, ← nth_drop] at j3
            exact j3
          · rintro ⟨j, j1, j2⟩
            refine ⟨4 + j, by omega, by omega, ?_⟩
            rw [← nth_drop]
            exact j2))
        have hsl := Lib.hid (fun w' (hb : Below qw2.heap.size qw2 w') => Sl.empty w' (some ⟨w.heap.size, 4, none⟩))
        have keepT : ∀ w', Below qw2.heap.size qw2 w' → w'.cell? ⟨w.heap.size, 0, none⟩ = some (.int .i64 v0) ∧ w'.cell? ⟨w.heap.size, 1, none⟩ = some (.int .i64 v1) ∧ w'.cell? ⟨w.heap.size, 2, none⟩ = some (.int .i64 v2) ∧ w'.cell? ⟨w.heap.size, 3, none⟩ = some (.int .i64 v3) := by
          intro w' hb
          have r1 := k3.below hb (by omega)
          exact ⟨r1.cell 0 rfl, r1.cell 1 rfl, r1.cell 2 rfl, r1.cell 3 rfl⟩
        replace keepT := Lib.hid keepT
        cases d
        all_goals
          simp only [Bool.false_eq_true, if_false, if_true] at e1 e2
          subst e1 e2
          go_wp2
          go_region_held3 (fun w' => w'.cell? ⟨w.heap.size, 0, none⟩ = some (.int .i64 v0) ∧ w'.cell? ⟨w.heap.size, 1, none⟩ = some (.int .i64 v1) ∧ w'.cell? ⟨w.heap.size, 2, none⟩ = some (.int .i64 v2) ∧ w'.cell? ⟨w.heap.size, 3, none⟩ = some (.int .i64 v3))
            (exact keepT.out _ (by repeat (with_reducible (first | exact pB1 | exact Below.refl _ _ | refine Below.drew ?_ | refine Below.drewN ?_ _))))
            (first | (go_at_call 66; refine (hcon.out _ _ (Sl.empty _ _)).mono ?_; rintro e pw1 ⟨rfl, ph1⟩; have pB1 : Below qw2.heap.size qw2 pw1 := Below.trans (by repeat (first | exact Below.refl _ _ | refine Below.drew ?_)) (ph1.mono (by first | omega | (simp <;> omega)))))
          go_wp2
          go_ret2
          exact ⟨rfl, hB3.trans (pB1.mono (by have := hB3.size; omega))⟩

end Go.Proofs.Ytonpnjjfidpoiaa
