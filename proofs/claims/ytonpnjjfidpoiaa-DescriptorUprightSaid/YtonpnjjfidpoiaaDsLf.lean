/-
  Walk: the law of the forms of patterns.
-/
import Derived.Test.YtonpnjjfidpoiaaDsF
import Derived.Test.YtonpnjjfidpoiaaDsSt
set_option linter.unusedSimpArgs false
set_option linter.unusedVariables false
namespace Go.Proofs.Ytonpnjjfidpoiaa
open Go.RowKit

theorem pattern_at {A : Option Addr} {n c : Nat} {l : List Tst} {w : World} (h : PS w A n c l) {b : Bool} (hb : pat l = b) :
    Calls Try.prog 13 #[.slice A n c] w fun e w' => e = .returned (.bool b) ∧ Below w.heap.size w w' := hb ▸ pattern_any A n c l w h
theorem dCheck_at {A : Option Addr} {n c : Nat} {l : List Tst} {w : World} (h : PS w A n c l) {r : Int} (hb : cod (pat l) 1 = r) :
    Calls Try.prog 12 #[.slice A n c] w fun e w' => e = .returned (.int .i64 r) ∧ Below w.heap.size w w' := hb ▸ dCheck_any A n c l w h
theorem stdP_at {k : Nat} (h : k < 64) : tstAt stdP k = stdT k := by
  unfold stdP
  rw [tstAt_eq (by simp; exact h)]
  simp

set_option maxRecDepth 100000 in
set_option maxHeartbeats 3200000 in
theorem lawForms_any (A : Option Addr) (n c : Nat) (l : List Tst) (w : World) (h : PS w A n c l) :
    Calls Try.prog 3 #[.slice A n c] w fun e w' => e = .returned (.bool true) ∧ Below w.heap.size w w' := by
  have hcap := h.le_cap
  have hcl := h.cap_le
  have hk := Lib.hid (known_any w)
  have h' := Lib.hid (fun w' (hb : Below w.heap.size w w') => h.below hb (Nat.le_refl _))
  by_cases hm : 70 < n
  · have hm' : 70 < (n : Int) := by omega
    clear h
    go_enter Try.func3, Try.ntmps3
    go_wp2_with (go_at_call 11; refine hk.out.mono ?_; rintro e w1 ⟨rfl, hb1⟩)
    go_ret
    exact ⟨rfl, hb1⟩
  have hm' : ¬ 70 < (n : Int) := by omega
  have tok1 : True := trivial
  have tok2 : True := trivial
  have tok3 : True := trivial
  obtain ⟨b, hb⟩ : ∃ b, pat l = b := ⟨_, rfl⟩
  clear h
  cases b
  · have hc : Hid (cod (pat l) 1 = 1) := Lib.hid (by rw [hb]; rfl)
    replace hb := Lib.hid hb
    go_enter Try.func3, Try.ntmps3
    go_wp2_with (first
      | (go_at_call 11; refine hk.out.mono ?_; rintro e w1 ⟨rfl, hb1⟩)
      | (go_at_call 12; clear tok1; refine (dCheck_at (h'.out _ hb1) hc.out).mono ?_; rintro e w2 ⟨rfl, hb2⟩; have hB2 := hb1.trans (hb2.mono hb1.size))
      | (go_at_call 13; clear tok2; refine (pattern_at (h'.out _ hB2) hb.out).mono ?_; rintro e w3 ⟨rfl, hb3⟩; have hB3 := hB2.trans (hb3.mono hB2.size))
      | (go_at_call 13; clear tok3; refine (pattern_at (h'.out _ hB3) hb.out).mono ?_; rintro e w4 ⟨rfl, hb4⟩; have hB4 := hB3.trans (hb4.mono hB3.size))
      | (go_at_call 12; refine (dCheck_at (h'.out _ hB4) hc.out).mono ?_; rintro e w5 ⟨rfl, hb5⟩; have hB5 := hB4.trans (hb5.mono hB4.size))
      | (go_at_call 14; refine (Standard_any _).mono ?_; rintro e w6 ⟨g, rfl, hpb, hg, hb6⟩; have hB6 := hB5.trans (hb6.mono hB5.size)))
    have hpbl := hpb.lt
    have hpb' := Lib.hid (fun w' (hb : Below w6.heap.size w6 w') => hpb.below hb hpbl)
    clear hpb
    go_loopw [33] (fun i wr => ∃ k : Nat, k ≤ 64 ∧ i = .int .i64 k ∧ Below w6.heap.size w6 wr) (fun i _ => 64 - (intOf i).toNat)
    case atStart => exact ⟨0, by omega, rfl, Below.refl _ _⟩
    case round =>
      obtain ⟨k, hk2, rfl, hBr⟩ := hrel
      have pbr := hpb'.out _ hBr
      by_cases hlt : k < 64
      · have hlt' : (k : Int) < 64 := by omega
        obtain ⟨⟨c0, c1, c2, c3⟩, c4, c5, c6, c7⟩ := pbr.cells (i := k) (by show k < stdP.length; rw [show stdP.length = 64 from by decide]; exact hlt)
        obtain ⟨m, hm8⟩ : ∃ m, k * 8 = m := ⟨_, rfl⟩
        rw [stdP_at hlt, hm8] at c0 c1 c2 c3 c4 c5 c6 c7
        simp only [stdT] at c0 c1 c2 c3 c4 c5 c6 c7
        have hq := fun W => tst_neq_at (a := (k : Int) % 8 - 4) (b := (k : Int) / 8 - 4) (c := 1) (e := 1) (f := 4 - (3 * (k : Int) + 1) % 9) (g := 4 - (5 * (k : Int) + 2) % 9) (h := 1) (i := 1) (x := (k : Int) % 8 - 4) (y := (k : Int) / 8 - 4) (z := 1) (u := 1) (x' := 4 - (3 * (k : Int) + 1) % 9) (y' := 4 - (5 * (k : Int) + 2) % 9) (z' := 1) (u' := 1) (r := false) (by simp) W
        have hg1 := fun W X Y => tst_guard .neq X Y ((k : Int) % 8 - 4) ((k : Int) / 8 - 4) 1 1 (4 - (3 * (k : Int) + 1) % 9) (4 - (5 * (k : Int) + 2) % 9) 1 1 ((k : Int) % 8 - 4) ((k : Int) / 8 - 4) 1 1 (4 - (3 * (k : Int) + 1) % 9) (4 - (5 * (k : Int) + 2) % 9) 1 1 W
        go_wp2
        exact ⟨⟨k + 1, by omega, by go_num, hBr.alloc hBr.size _⟩, by simp [intOf]; omega⟩
      · obtain rfl : k = 64 := by omega
        have hps := Lib.hid (pbr.ps (n := 64) (by decide) (by omega))
        go_wp2_with (go_at_call 12; refine (dCheck_at (r := 0) hps.out (by rw [stdP_ok]; rfl)).mono ?_; rintro e w9 ⟨rfl, hb9⟩)
        go_ret
        exact ⟨rfl, (hB6.trans (hBr.mono hB6.size)).trans (hb9.mono (by have := hB6.size; have := hBr.size; omega))⟩
  · have hc : Hid (cod (pat l) 1 = 0) := Lib.hid (by rw [hb]; rfl)
    replace hb := Lib.hid hb
    go_enter Try.func3, Try.ntmps3
    go_wp2_with (first
      | (go_at_call 11; refine hk.out.mono ?_; rintro e w1 ⟨rfl, hb1⟩)
      | (go_at_call 12; clear tok1; refine (dCheck_at (h'.out _ hb1) hc.out).mono ?_; rintro e w2 ⟨rfl, hb2⟩; have hB2 := hb1.trans (hb2.mono hb1.size))
      | (go_at_call 13; clear tok2; refine (pattern_at (h'.out _ hB2) hb.out).mono ?_; rintro e w3 ⟨rfl, hb3⟩; have hB3 := hB2.trans (hb3.mono hB2.size))
      | (go_at_call 13; refine (pattern_at (h'.out _ hB3) hb.out).mono ?_; rintro e w4 ⟨rfl, hb4⟩; have hB4 := hB3.trans (hb4.mono hB3.size))
      | (go_at_call 14; refine (Standard_any _).mono ?_; rintro e w6 ⟨g, rfl, hpb, hg, hb6⟩; have hB6 := hB4.trans (hb6.mono hB4.size)))
    have hpbl := hpb.lt
    have hpb' := Lib.hid (fun w' (hb : Below w6.heap.size w6 w') => hpb.below hb hpbl)
    clear hpb
    go_loopw [33] (fun i wr => ∃ k : Nat, k ≤ 64 ∧ i = .int .i64 k ∧ Below w6.heap.size w6 wr) (fun i _ => 64 - (intOf i).toNat)
    case atStart => exact ⟨0, by omega, rfl, Below.refl _ _⟩
    case round =>
      obtain ⟨k, hk2, rfl, hBr⟩ := hrel
      have pbr := hpb'.out _ hBr
      by_cases hlt : k < 64
      · have hlt' : (k : Int) < 64 := by omega
        obtain ⟨⟨c0, c1, c2, c3⟩, c4, c5, c6, c7⟩ := pbr.cells (i := k) (by show k < stdP.length; rw [show stdP.length = 64 from by decide]; exact hlt)
        obtain ⟨m, hm8⟩ : ∃ m, k * 8 = m := ⟨_, rfl⟩
        rw [stdP_at hlt, hm8] at c0 c1 c2 c3 c4 c5 c6 c7
        simp only [stdT] at c0 c1 c2 c3 c4 c5 c6 c7
        have hq := fun W => tst_neq_at (a := (k : Int) % 8 - 4) (b := (k : Int) / 8 - 4) (c := 1) (e := 1) (f := 4 - (3 * (k : Int) + 1) % 9) (g := 4 - (5 * (k : Int) + 2) % 9) (h := 1) (i := 1) (x := (k : Int) % 8 - 4) (y := (k : Int) / 8 - 4) (z := 1) (u := 1) (x' := 4 - (3 * (k : Int) + 1) % 9) (y' := 4 - (5 * (k : Int) + 2) % 9) (z' := 1) (u' := 1) (r := false) (by simp) W
        have hg1 := fun W X Y => tst_guard .neq X Y ((k : Int) % 8 - 4) ((k : Int) / 8 - 4) 1 1 (4 - (3 * (k : Int) + 1) % 9) (4 - (5 * (k : Int) + 2) % 9) 1 1 ((k : Int) % 8 - 4) ((k : Int) / 8 - 4) 1 1 (4 - (3 * (k : Int) + 1) % 9) (4 - (5 * (k : Int) + 2) % 9) 1 1 W
        go_wp2
        exact ⟨⟨k + 1, by omega, by go_num, hBr.alloc hBr.size _⟩, by simp [intOf]; omega⟩
      · obtain rfl : k = 64 := by omega
        have hps := Lib.hid (pbr.ps (n := 64) (by decide) (by omega))
        go_wp2_with (go_at_call 12; refine (dCheck_at (r := 0) hps.out (by rw [stdP_ok]; rfl)).mono ?_; rintro e w9 ⟨rfl, hb9⟩)
        go_ret
        exact ⟨rfl, (hB6.trans (hBr.mono hB6.size)).trans (hb9.mono (by have := hB6.size; have := hBr.size; omega))⟩

end Go.Proofs.Ytonpnjjfidpoiaa
