/-
  Walks: slices.Index, Contains, IndexFunc, ContainsFunc at []api.Match.
-/
import Derived.Test.YtofoiocpopmifaaNbEq
set_option linter.unusedSimpArgs false
set_option linter.unusedVariables false
namespace Go.Proofs.Ytofoiocpopmifaa
open Go.RowKit

theorem mat_eql_at {p q : Mat} {r : Bool} (h : decide (p = q) = r) (w : World) :
    (binOp .eql 53 (.agg #[.int .i64 (p.1 : Int), .int .i64 (p.2.1 : Int), .int .i64 (p.2.2 : Int)]) (.agg #[.int .i64 (q.1 : Int), .int .i64 (q.2.1 : Int), .int .i64 (q.2.2 : Int)])).run Try.prog w = .ok (.bool r) w := by
  rw [mat_eql, mat_beq, h]

set_option maxRecDepth 100000 in
set_option maxHeartbeats 1600000 in
theorem Index_mats (A : Option Addr) (n c : Nat) (l : List Mat) (x : Mat) (w : World) (h : MS w A n c l) {b : Bool} (hb : decide (x ∈ l) = b) :
    Calls Try.prog 48 #[.slice A n c, .agg #[.int .i64 (x.1 : Int), .int .i64 (x.2.1 : Int), .int .i64 (x.2.2 : Int)]] w fun e w' => (∃ r : Int, e = .returned (.int .i64 r) ∧ decide (0 ≤ r) = b) ∧ Below w.heap.size w w' := by
  obtain ⟨p1, p2, p3⟩ := x
  replace hb := Lib.hid hb
  have hcap := h.2.1
  have hcl := h.2.2.1
  have hlen := Lib.hid h.len
  obtain ⟨W1, hW1⟩ : ∃ W1, w.alloc (.cells #[.int .i64 (p1 : Int), .int .i64 (p2 : Int), .int .i64 (p3 : Int)] 53) = W1 := ⟨_, rfl⟩
  have hb1 : Below w.heap.size w W1 := by rw [← hW1]; exact (Below.refl _ _).alloc (Nat.le_refl _) _
  have hs1 : MS W1 A n c l := by rw [← hW1]; exact h.alloc _
  have q0 : W1.cell? ⟨w.heap.size, 0, none⟩ = some (.int .i64 (p1 : Int)) := by rw [← hW1]; exact cell_of_row _ w.heap.size 0 _ _ _ (heap_alloc_new w _)
  have q1 : W1.cell? ⟨w.heap.size, 1, none⟩ = some (.int .i64 (p2 : Int)) := by rw [← hW1]; exact cell_of_row _ w.heap.size 1 _ _ _ (heap_alloc_new w _)
  have q2 : W1.cell? ⟨w.heap.size, 2, none⟩ = some (.int .i64 (p3 : Int)) := by rw [← hW1]; exact cell_of_row _ w.heap.size 2 _ _ _ (heap_alloc_new w _)
  have z1 : w.heap.size < W1.heap.size := by rw [← hW1]; simp
  have hs1' := Lib.hid hs1
  have q0' := Lib.hid q0
  have q1' := Lib.hid q1
  have q2' := Lib.hid q2
  have hW1' := Lib.hid hW1
  clear h hs1 q0 q1 q2 hW1
  go_enter Try.func48, Try.ntmps48
  go_wp2
  go_loopw [8] (fun i wr => ∃ k : Nat, k ≤ n ∧ i = .int .i64 (k : Int) ∧ Hid (∀ j, j < k → matAt l j ≠ (p1, p2, p3)) ∧ Below W1.heap.size W1 wr) (fun i _ => n - (intOf i).toNat)
  case atStart => exact ⟨0, Nat.zero_le _, rfl, Lib.hid (fun j hj => absurd hj (Nat.not_lt_zero _)), by rw [hW1'.out]; exact Below.refl _ _⟩
  case round =>
    obtain ⟨k, hk, rfl, hag, hB⟩ := hrel
    have r0 := (hB.cell (p := ⟨w.heap.size, 0, none⟩) z1).trans q0'.out
    have r1 := (hB.cell (p := ⟨w.heap.size, 1, none⟩) z1).trans q1'.out
    have r2 := (hB.cell (p := ⟨w.heap.size, 2, none⟩) z1).trans q2'.out
    by_cases hlt : k < n
    · have hki : (k : Int) < (n : Int) := by omega
      have hs := hs1'.out.below hB (Nat.le_refl _)
      obtain ⟨bk, off, rfl, hbw, hc⟩ := hs.at_ (by omega)
      obtain ⟨x0, x1, x2⟩ := hc k hlt
      obtain ⟨⟨a1, a2, a3⟩, hx⟩ : ∃ x, matAt l k = x := ⟨_, rfl⟩
      obtain ⟨u, hu⟩ : ∃ u, k * 3 = u := ⟨_, rfl⟩
      rw [hx, hu] at x0 x1 x2
      have hkl : k < l.length := by rw [← hlen.out]; exact hlt
      replace hx := Lib.hid hx
      clear hc hs
      by_cases hxy : ((p1, p2, p3) : Mat) = (a1, a2, a3)
      · have hq1 := fun W => mat_eql_at (p := (p1, p2, p3)) (q := (a1, a2, a3)) (r := true) (by simpa using hxy) W
        have hg1 := fun W X Y => mat_guard .eql X Y (p1 : Int) (p2 : Int) (p3 : Int) (a1 : Int) (a2 : Int) (a3 : Int) W
        have hyes : Hid (b = true) := Lib.hid (hb.out.symm.trans <| decide_eq_true (by rw [hxy, ← hx.out, matAt_eq hkl]; exact List.getElem_mem _))
        replace hxy := Lib.hid hxy
        replace hkl := Lib.hid hkl
        go_wp2
        go_quiet (fail)
        go_wp2
        go_ret
        exact ⟨⟨_, rfl, by rw [hyes.out]; simp⟩, below_drewN (hb1.trans (hB.mono hb1.size)) _⟩
      · have hq1 := fun W => mat_eql_at (p := (p1, p2, p3)) (q := (a1, a2, a3)) (r := false) (by simpa using hxy) W
        have hg1 := fun W X Y => mat_guard .eql X Y (p1 : Int) (p2 : Int) (p3 : Int) (a1 : Int) (a2 : Int) (a3 : Int) W
        replace hxy := Lib.hid hxy
        replace hkl := Lib.hid hkl
        go_wp2
        go_quiet (fail)
        go_wp2
        go_roundw
        case rel => exact ⟨k + 1, hlt, by go_num, Lib.hid (fun j hj => by
          by_cases e : j = k
          · rw [e, hx.out]; exact fun h => hxy.out h.symm
          · exact hag.out j (by omega)), below_drewN hB _⟩
        case measure => simp [intOf]; omega
    · obtain rfl : k = n := by omega
      have hki : ¬ (k : Int) < (k : Int) := by omega
      have hno : Hid (b = false) := Lib.hid (hb.out.symm.trans <| decide_eq_false fun hm => by
        obtain ⟨i, hi, he⟩ := List.mem_iff_getElem.1 hm
        exact hag.out i (by rw [hlen.out]; exact hi) (by rw [matAt_eq hi]; exact he))
      go_wp2
      go_ret
      exact ⟨⟨_, rfl, by rw [hno.out]; simp⟩, hb1.trans (hB.mono hb1.size)⟩

theorem Contains_mats (A : Option Addr) (n c : Nat) (l : List Mat) (x : Mat) (w : World) (h : MS w A n c l) {b : Bool} (hb : decide (x ∈ l) = b) :
    Calls Try.prog 27 #[.slice A n c, .agg #[.int .i64 (x.1 : Int), .int .i64 (x.2.1 : Int), .int .i64 (x.2.2 : Int)]] w fun e w' => e = .returned (.bool b) ∧ Below w.heap.size w w' := by
  have hb0 := (Below.refl w.heap.size w).alloc (Nat.le_refl _) (.cells #[.int .i64 (x.1 : Int), .int .i64 (x.2.1 : Int), .int .i64 (x.2.2 : Int)] 53)
  have hcon := Index_mats A n c l x _ (h.alloc (.cells #[.int .i64 (x.1 : Int), .int .i64 (x.2.1 : Int), .int .i64 (x.2.2 : Int)] 53)) hb
  obtain ⟨p1, p2, p3⟩ := x
  simp only at hcon hb0 ⊢
  replace hcon := Lib.hid hcon
  clear h hb
  go_enter Try.func27, Try.ntmps27
  go_wp2_with (go_at_call 48; refine hcon.out.mono ?_; rintro e w' ⟨⟨r, rfl, hr⟩, hb2⟩; replace hr := Lib.hid hr)
  go_ret
  exact ⟨ret_bool hr.out, hb0.trans (hb2.mono hb0.size)⟩

/-- What is asked of a function value that takes a match of a list: in every later world it says p, and leaves what lay. -/
def PredM (g : Nat) (lb : Array Value) (p : Mat → Bool) (l : List Mat) (w : World) : Prop :=
  ∀ (W : World) (x : Mat), x ∈ l → Below w.heap.size w W → Calls Try.prog g (#[.agg #[.int .i64 (x.1 : Int), .int .i64 (x.2.1 : Int), .int .i64 (x.2.2 : Int)]] ++ lb) W fun e w' => e = .returned (.bool (p x)) ∧ Below W.heap.size W w'
theorem PredM.at_ {g : Nat} {lb : Array Value} {p : Mat → Bool} {l : List Mat} {w : World} (h : PredM g lb p l w) {x : Mat} (hm : x ∈ l) {b : Bool} (hx : p x = b) (W : World) (hb : Below w.heap.size w W) :
    Calls Try.prog g (#[.agg #[.int .i64 (x.1 : Int), .int .i64 (x.2.1 : Int), .int .i64 (x.2.2 : Int)]] ++ lb) W fun e w' => e = .returned (.bool b) ∧ Below W.heap.size W w' := hx ▸ h W x hm hb
theorem manyI {l : List Mat} {p : Mat → Bool} {k : Nat} (hk : k < l.length) (h : p (matAt l k) = true) : l.any p = true := by
  rw [matAt_eq hk] at h
  exact List.any_eq_true.2 ⟨_, List.getElem_mem hk, h⟩
theorem manyN {l : List Mat} {p : Mat → Bool} (h : ∀ j, j < l.length → p (matAt l j) = false) : l.any p = false := by
  rw [List.any_eq_false]
  intro x hx
  obtain ⟨i, hi, rfl⟩ := List.mem_iff_getElem.1 hx
  have := h i hi
  rw [matAt_eq hi] at this
  simp [this]

set_option maxHeartbeats 1600000 in
theorem IndexFunc_mats (g : Nat) (lb : Array Value) (p : Mat → Bool) (eg : ∀ args w, (callFunc g args).run Try.prog w = .ok (.enter g args) w) (A : Option Addr) (n c : Nat) (l : List Mat) (w : World) (h : MS w A n c l) (hp : PredM g lb p l w) :
    Calls Try.prog 49 #[.slice A n c, .func (.func g) #[] lb] w fun e w' => (∃ r : Int, e = .returned (.int .i64 r) ∧ decide (0 ≤ r) = l.any p) ∧ Below w.heap.size w w' := by
  have hcap := h.2.1
  have hcl := h.2.2.1
  have hlen := Lib.hid h.len
  have hp' := Lib.hid hp
  clear hp
  go_enter Try.func49, Try.ntmps49
  go_wp2
  go_loopw [8] (fun i wr => ∃ k : Nat, k ≤ n ∧ i = .int .i64 k ∧ Below w.heap.size w wr ∧ Hid (∀ j, j < k → p (matAt l j) = false)) (fun i _ => n - (intOf i).toNat)
  case atStart => exact ⟨0, Nat.zero_le _, rfl, Below.refl _ _, Lib.hid fun j hj => absurd hj (Nat.not_lt_zero _)⟩
  case round =>
    obtain ⟨k, hk, rfl, hB, HA⟩ := hrel
    by_cases hlt : k < n
    · obtain ⟨b, off, rfl, hbw, hc⟩ := (h.below hB (Nat.le_refl _)).at_ (by omega)
      obtain ⟨q0, q1, q2⟩ := hc k hlt
      clear hc h
      have hmem : matAt l k ∈ l := by rw [matAt_eq (by rw [← hlen.out]; exact hlt)]; exact List.getElem_mem _
      obtain ⟨⟨x, y, s⟩, hy⟩ : ∃ y, matAt l k = y := ⟨_, rfl⟩
      rw [hy] at q0 q1 q2 hmem
      obtain ⟨m, hm⟩ : ∃ m, k * 3 = m := ⟨_, rfl⟩
      simp only [hm] at q0 q1 q2
      replace hy := Lib.hid hy
      cases hq : p (x, y, s) with
      | true =>
        have hcall := Lib.hid (hp'.out.at_ hmem hq)
        replace hq := Lib.hid hq
        replace hmem := Lib.hid hmem
        go_wp2_with (go_at_fn g; refine (hcall.out _ hB).mono ?_; rintro e w' ⟨rfl, hb2⟩)
        go_ret
        exact ⟨⟨_, rfl, by rw [manyI (by rw [← hlen.out]; exact hlt) (by rw [hy.out]; exact hq.out)]; simp⟩, hB.trans (hb2.mono hB.size)⟩
      | false =>
        have hcall := Lib.hid (hp'.out.at_ hmem hq)
        replace hq := Lib.hid hq
        replace hmem := Lib.hid hmem
        go_wp2_with (go_at_fn g; refine (hcall.out _ hB).mono ?_; rintro e w' ⟨rfl, hb2⟩)
        exact ⟨⟨k + 1, hlt, by go_num, hB.trans (hb2.mono hB.size), Lib.hid fun j hj => (by
          by_cases e : j = k
          · rw [e, hy.out]; exact hq.out
          · exact HA.out j (by omega))⟩, by simp [intOf]; omega⟩
    · obtain rfl : k = n := by omega
      go_wp2
      go_ret
      exact ⟨⟨_, rfl, by rw [manyN (by rw [← hlen.out]; exact HA.out)]; simp⟩, hB⟩

theorem ContainsFunc_mats (g : Nat) (lb : Array Value) (p : Mat → Bool) (eg : ∀ args w, (callFunc g args).run Try.prog w = .ok (.enter g args) w) (A : Option Addr) (n c : Nat) (l : List Mat) (w : World) (h : MS w A n c l) (hp : PredM g lb p l w) {b : Bool} (hb : l.any p = b) :
    Calls Try.prog 28 #[.slice A n c, .func (.func g) #[] lb] w fun e w' => e = .returned (.bool b) ∧ Below w.heap.size w w' := by
  subst hb
  have hcon := Lib.hid (IndexFunc_mats g lb p eg A n c l w h hp)
  generalize l.any p = b at hcon
  clear h hp
  go_enter Try.func28, Try.ntmps28
  go_wp2_with (go_at_call 49; refine hcon.out.mono ?_; rintro e w' ⟨⟨r, rfl, hr⟩, hb2⟩; replace hr := Lib.hid hr)
  go_ret
  exact ⟨ret_bool hr.out, hb2⟩

end Go.Proofs.Ytofoiocpopmifaa
