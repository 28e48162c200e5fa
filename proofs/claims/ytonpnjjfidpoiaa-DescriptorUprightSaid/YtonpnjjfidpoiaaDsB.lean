/-
  Walks: slices.IndexFunc and slices.ContainsFunc at tests; Check of patterns; box, pattern of the law.
-/
import Derived.Test.YtonpnjjfidpoiaaDsA
import Derived.StillTailTactics
set_option linter.unusedSimpArgs false
set_option linter.unusedVariables false
namespace Go.Proofs.Ytonpnjjfidpoiaa
open Go.RowKit

def tv (x : Tst) : Value := .agg #[.int .i64 x.1.1, .int .i64 x.1.2.1, .int .i64 x.1.2.2.1, .int .i64 x.1.2.2.2, .int .i64 x.2.1, .int .i64 x.2.2.1, .int .i64 x.2.2.2.1, .int .i64 x.2.2.2.2]
/-- What is asked of a function value that takes a test of a list: in every later world it says p, and leaves what lay. -/
def PredT (g : Nat) (lb : Array Value) (p : Tst → Bool) (l : List Tst) (w : World) : Prop :=
  ∀ (W : World) (x : Tst), x ∈ l → Below w.heap.size w W → Calls Try.prog g (#[.agg #[.int .i64 x.1.1, .int .i64 x.1.2.1, .int .i64 x.1.2.2.1, .int .i64 x.1.2.2.2, .int .i64 x.2.1, .int .i64 x.2.2.1, .int .i64 x.2.2.2.1, .int .i64 x.2.2.2.2]] ++ lb) W fun e w' => e = .returned (.bool (p x)) ∧ Below W.heap.size W w'
theorem PredT.at_ {g : Nat} {lb : Array Value} {p : Tst → Bool} {l : List Tst} {w : World} (h : PredT g lb p l w) {x : Tst} (hm : x ∈ l) {b : Bool} (hx : p x = b) (W : World) (hb : Below w.heap.size w W) :
    Calls Try.prog g (#[.agg #[.int .i64 x.1.1, .int .i64 x.1.2.1, .int .i64 x.1.2.2.1, .int .i64 x.1.2.2.2, .int .i64 x.2.1, .int .i64 x.2.2.1, .int .i64 x.2.2.2.1, .int .i64 x.2.2.2.2]] ++ lb) W fun e w' => e = .returned (.bool b) ∧ Below W.heap.size W w' := hx ▸ h W x hm hb
theorem tanyI {l : List Tst} {p : Tst → Bool} {k : Nat} (hk : k < l.length) (h : p (tstAt l k) = true) : l.any p = true := by
  rw [tstAt_eq hk] at h
  exact List.any_eq_true.2 ⟨_, List.getElem_mem hk, h⟩
theorem tanyN {l : List Tst} {p : Tst → Bool} (h : ∀ j, j < l.length → p (tstAt l j) = false) : l.any p = false := by
  rw [List.any_eq_false]
  intro x hx
  obtain ⟨i, hi, rfl⟩ := List.mem_iff_getElem.1 hx
  have := h i hi
  rw [tstAt_eq hi] at this
  simp [this]

set_option maxHeartbeats 1600000 in
theorem IndexFunc_tests (g : Nat) (lb : Array Value) (p : Tst → Bool) (eg : ∀ args w, (callFunc g args).run Try.prog w = .ok (.enter g args) w) (A : Option Addr) (n c : Nat) (l : List Tst) (w : World) (h : PS w A n c l) (hp : PredT g lb p l w) :
    Calls Try.prog 53 #[.slice A n c, .func (.func g) #[] lb] w fun e w' => (∃ r : Int, e = .returned (.int .i64 r) ∧ decide (0 ≤ r) = l.any p) ∧ Below w.heap.size w w' := by
  have hcap := h.2.1
  have hcl := h.2.2.1
  have hlen := Lib.hid h.len
  have hp' := Lib.hid hp
  clear hp
  go_enter Try.func53, Try.ntmps53
  go_wp2
  go_loopw [8] (fun i wr => ∃ k : Nat, k ≤ n ∧ i = .int .i64 k ∧ Below w.heap.size w wr ∧ Hid (∀ j, j < k → p (tstAt l j) = false)) (fun i _ => n - (intOf i).toNat)
  case atStart => exact ⟨0, Nat.zero_le _, rfl, Below.refl _ _, Lib.hid fun j hj => absurd hj (Nat.not_lt_zero _)⟩
  case round =>
    obtain ⟨k, hk, rfl, hB, HA⟩ := hrel
    by_cases hlt : k < n
    · obtain ⟨b, off, rfl, hbw, hc⟩ := PS.at_ (h.below hB (Nat.le_refl _)) (by omega)
      obtain ⟨⟨q0, q1, q2, q3⟩, q4, q5, q6, q7⟩ := hc k hlt
      clear hc h
      have hmem : tstAt l k ∈ l := tstAt_mem (by rw [← hlen.out]; exact hlt)
      obtain ⟨⟨⟨x1, x2, x3, x4⟩, x5, x6, x7, x8⟩, hy⟩ : ∃ y, tstAt l k = y := ⟨_, rfl⟩
      rw [hy] at q0 q1 q2 q3 q4 q5 q6 q7 hmem
      obtain ⟨m, hm⟩ : ∃ m, k * 8 = m := ⟨_, rfl⟩
      simp only [hm] at q0 q1 q2 q3 q4 q5 q6 q7
      replace hy := Lib.hid hy
      cases hq : p ((x1, x2, x3, x4), x5, x6, x7, x8) with
      | true =>
        have hcall := Lib.hid (hp'.out.at_ hmem hq)
        replace hq := Lib.hid hq
        replace hmem := Lib.hid hmem
        go_wp2_with (go_at_fn g; refine (hcall.out _ hB).mono ?_; rintro e w' ⟨rfl, hb2⟩)
        go_ret
        exact ⟨⟨_, rfl, by rw [tanyI (by rw [← hlen.out]; exact hlt) (by rw [hy.out]; exact hq.out)]; simp⟩, hB.trans (hb2.mono hB.size)⟩
      | false =>
        have hcall := Lib.hid (hp'.out.at_ hmem hq)
        replace hq := Lib.hid hq
        replace hmem := Lib.hid hmem
        go_wp2_with (go_at_fn g; refine (hcall.out _ hB).mono ?_; rintro e w' ⟨rfl, hb2⟩)
        exact ⟨⟨k + 1, hlt, by go_num, hB.trans (hb2.mono hB.size), Lib.hid fun j hj => (by
          by_cases e : j = k
          · rw [e, hy.out]; exact hq.out
          · exact HA.out j (by omega))⟩, by simp [intOf]; omega⟩
    · obtain rfl : k = n := by omega
      go_wp2
      go_ret
      exact ⟨⟨_, rfl, by rw [tanyN (by rw [← hlen.out]; exact HA.out)]; simp⟩, hB⟩

theorem ContainsFunc_tests (g : Nat) (lb : Array Value) (p : Tst → Bool) (eg : ∀ args w, (callFunc g args).run Try.prog w = .ok (.enter g args) w) (A : Option Addr) (n c : Nat) (l : List Tst) (w : World) (h : PS w A n c l) (hp : PredT g lb p l w) {b : Bool} (hb : l.any p = b) :
    Calls Try.prog 34 #[.slice A n c, .func (.func g) #[] lb] w fun e w' => e = .returned (.bool b) ∧ Below w.heap.size w w' := by
  subst hb
  have hcon := Lib.hid (IndexFunc_tests g lb p eg A n c l w h hp)
  generalize l.any p = b at hcon
  clear h hp
  go_enter Try.func34, Try.ntmps34
  go_wp2_with (go_at_call 53; refine hcon.out.mono ?_; rintro e w' ⟨⟨r, rfl, hr⟩, hb2⟩; replace hr := Lib.hid hr)
  go_ret
  exact ⟨ret_bool hr.out, hb2⟩

set_option maxHeartbeats 1600000 in
/-- The closure of Check. -/
theorem isNone_pred (l : List Tst) (w : World) : PredT 36 #[] (fun t => !tok t) l w := fun W x _ _ => by
  obtain ⟨⟨x1, x2, x3, x4⟩, x5, x6, x7, x8⟩ := x
  show Calls Try.prog 36 #[.agg #[.int .i64 x1, .int .i64 x2, .int .i64 x3, .int .i64 x4, .int .i64 x5, .int .i64 x6, .int .i64 x7, .int .i64 x8]] W _
  have hB := (Below.refl W.heap.size W).alloc (Nat.le_refl _) (.cells #[.int .i64 x1, .int .i64 x2, .int .i64 x3, .int .i64 x4, .int .i64 x5, .int .i64 x6, .int .i64 x7, .int .i64 x8] 30)
  have k0 : KB _ _ _ _ := KB.new W #[.int .i64 x1, .int .i64 x2, .int .i64 x3, .int .i64 x4, .int .i64 x5, .int .i64 x6, .int .i64 x7, .int .i64 x8] 30
  obtain ⟨b1, h1⟩ : ∃ t, bxok (x1, x2, x3, x4) = t := ⟨_, rfl⟩
  obtain ⟨b2, h2⟩ : ∃ t, bxok (x5, x6, x7, x8) = t := ⟨_, rfl⟩
  have hb : Hid ((!tok ((x1, x2, x3, x4), x5, x6, x7, x8)) = !(b1 && b2)) := Lib.hid (by rw [← h1, ← h2]; rfl)
  replace h1 := Lib.hid h1
  replace h2 := Lib.hid h2
  cases b1
  · go_enter Try.func36, Try.ntmps36
    go_wp2_with (go_at_call 37; refine (isBox_at h1.out _).mono ?_; rintro e w1 ⟨rfl, hb1⟩; simp only [World.size_alloc] at hb1)
    go_ret
    exact ⟨ret_bool hb.out.symm, hB.trans (hb1.mono (by omega))⟩
  · cases b2
    all_goals
      have tok1 : True := trivial
      go_enter Try.func36, Try.ntmps36
      go_wp2_with (first | (go_at_call 37; clear tok1; refine (isBox_at h1.out _).mono ?_; rintro e w1 ⟨rfl, hb1⟩; simp only [World.size_alloc] at hb1; have k1 := k0.below hb1 (by omega); have c4 := k1.cell 4 rfl; have c5 := k1.cell 5 rfl; have c6 := k1.cell 6 rfl; have c7 := k1.cell 7 rfl) | (go_at_call 37; refine (isBox_at h2.out _).mono ?_; rintro e w2 ⟨rfl, hb2⟩))
      go_ret
      exact ⟨ret_bool hb.out.symm, (hB.trans (hb1.mono (by omega))).trans (hb2.mono (by have := hb1.size; simp only [World.size_alloc] at this; omega))⟩
theorem enters_isNone : ∀ args w, (callFunc 36 args).run Try.prog w = .ok (.enter 36 args) w := enters_of Try.func36 (by kernel_rfl) rfl

def cod (b : Bool) (k : Int) : Int := if b then 0 else k
set_option maxHeartbeats 1600000 in
theorem dCheck_any (A : Option Addr) (n c : Nat) (l : List Tst) (w : World) (h : PS w A n c l) :
    Calls Try.prog 12 #[.slice A n c] w fun e w' => e = .returned (.int .i64 (cod (pat l) 1)) ∧ Below w.heap.size w w' := by
  have hcap := h.le_cap
  have hcl := h.cap_le
  have hlen := h.len
  obtain ⟨b1, h1⟩ : ∃ t, win (n : Int) 1 64 = t := ⟨_, rfl⟩
  have hp : pat l = (b1 && l.all tok) := by rw [← h1, hlen]; rfl
  cases b1
  · have hr : Hid (cod (pat l) 1 = 1) := Lib.hid (by rw [hp]; rfl)
    clear hp hlen
    replace h1 := Lib.hid h1
    go_enter Try.func12, Try.ntmps12
    go_wp2_with (go_at_call 38; refine (dwithin_at h1.out _).mono ?_; rintro e w' ⟨rfl, rfl⟩)
    go_ret
    exact ⟨ret_int hr.out.symm, Below.refl _ _⟩
  · obtain ⟨b2, h2⟩ : ∃ t, (l.any fun t => !tok t) = t := ⟨_, rfl⟩
    have hcon := Lib.hid (ContainsFunc_tests _ _ _ enters_isNone A n c l w h (isNone_pred l w) h2)
    have hb : pat l = !b2 := by rw [hp, ← h2, List.all_eq_not_any_not]; rfl
    have hr : Hid (cod (pat l) 1 = cod (!b2) 1) := Lib.hid (by rw [hb])
    clear hp hb h2 hlen
    replace h1 := Lib.hid h1
    cases b2
    all_goals
      go_enter Try.func12, Try.ntmps12
      go_wp2_with (first | (go_at_call 38; refine (dwithin_at h1.out _).mono ?_; rintro e w' ⟨rfl, rfl⟩) | (go_at_call 34; refine hcon.out.mono ?_; rintro e w1 ⟨rfl, hb1⟩))
      go_ret
      exact ⟨ret_int hr.out.symm, hb1⟩

end Go.Proofs.Ytonpnjjfidpoiaa
