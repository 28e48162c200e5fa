/-
  Walks: within, hasForm of package raster; slices.IndexFunc and slices.ContainsFunc at []int; Check.
-/
import Derived.Test.YtonpnjjfidpoiaaChecked
import Derived.Test.YtonpnjjfidpoiaaRaMem
import Derived.Shelf.Abstract
import Derived.Deep.LoopGhost
set_option linter.unusedSimpArgs false
set_option linter.unusedVariables false
namespace Go.Proofs.Ytonpnjjfidpoiaa
open Go.RowKit

/-- Is a number from one to another? -/
def win (a lo hi : Int) : Bool := decide (lo ≤ a) && decide (a ≤ hi)
theorem win_iff {a lo hi : Int} : win a lo hi = true ↔ lo ≤ a ∧ a ≤ hi := by simp [win]
theorem win_no {a lo hi : Int} : win a lo hi = false ↔ ¬ (lo ≤ a ∧ a ≤ hi) := by rw [← win_iff]; simp

theorem within_any (a lo hi : Int) (w : World) :
    Calls Try.prog 60 #[.int .i64 a, .int .i64 lo, .int .i64 hi] w fun e w' => e = .returned (.bool (win a lo hi)) ∧ w = w' := by
  by_cases h1 : lo ≤ a
  · by_cases h2 : a ≤ hi
    · have hw := Lib.hid (win_iff.2 ⟨h1, h2⟩)
      go_enter Try.func60, Try.ntmps60
      go_wp2
      go_ret
      exact ⟨ret_bool hw.out.symm, rfl⟩
    · have hw : Hid (win a lo hi = false) := Lib.hid (win_no.2 fun h => h2 h.2)
      have h2 := Int.not_le.1 h2
      go_enter Try.func60, Try.ntmps60
      go_wp2
      go_ret
      exact ⟨ret_bool (by first | (rw [hw.out]; done) | (rw [hw.out]; simp <;> omega)), rfl⟩
  · have hw : Hid (win a lo hi = false) := Lib.hid (win_no.2 fun h => h1 h.1)
    have h1 := Int.not_le.1 h1
    go_enter Try.func60, Try.ntmps60
    go_wp2
    go_ret
    exact ⟨ret_bool (by first | (rw [hw.out]; done) | (rw [hw.out]; simp <;> omega)), rfl⟩

theorem within_at {a lo hi : Int} {b : Bool} (h : win a lo hi = b) (w : World) :
    Calls Try.prog 60 #[.int .i64 a, .int .i64 lo, .int .i64 hi] w fun e w' => e = .returned (.bool b) ∧ w = w' := h ▸ within_any a lo hi w

/-- Are there rasters of this form? -/
def hfm (W H M : Int) : Bool := win W 1 64 && (win H 1 64 && win M 1 65535)
theorem hfm_iff {W H M : Int} : hfm W H M = true ↔ (1 ≤ W ∧ W ≤ 64) ∧ (1 ≤ H ∧ H ≤ 64) ∧ 1 ≤ M ∧ M ≤ 65535 := by simp [hfm, win_iff]

theorem hasForm_any (W H M : Int) (w : World) :
    Calls Try.prog 61 #[.int .i64 W, .int .i64 H, .int .i64 M] w fun e w' => e = .returned (.bool (hfm W H M)) ∧ w = w' := by
  obtain ⟨b1, h1⟩ : ∃ b, win W 1 64 = b := ⟨_, rfl⟩
  obtain ⟨b2, h2⟩ : ∃ b, win H 1 64 = b := ⟨_, rfl⟩
  obtain ⟨b3, h3⟩ : ∃ b, win M 1 65535 = b := ⟨_, rfl⟩
  have hw : Hid (hfm W H M = (b1 && (b2 && b3))) := Lib.hid (by unfold hfm; rw [h1, h2, h3])
  replace h1 := Lib.hid h1
  replace h2 := Lib.hid h2
  replace h3 := Lib.hid h3
  cases b1 <;> cases b2 <;> cases b3
  all_goals
    have tok1 : True := trivial
    have tok2 : True := trivial
    go_enter Try.func61, Try.ntmps61
    go_wp2_with (first | (go_at_call 60; clear tok1; refine (within_at h1.out _).mono ?_; rintro e w' ⟨rfl, rfl⟩) | (go_at_call 60; clear tok2; refine (within_at h2.out _).mono ?_; rintro e w' ⟨rfl, rfl⟩) | (go_at_call 60; refine (within_at h3.out _).mono ?_; rintro e w' ⟨rfl, rfl⟩))
    go_ret
    exact ⟨ret_bool (by rw [hw.out]; rfl), rfl⟩

/-- hasForm, its answer by name. -/
def hasFormAt (W H M : Int) (b : Bool) : Prop := ∀ w, Calls Try.prog 61 #[.int .i64 W, .int .i64 H, .int .i64 M] w fun e w' => e = .returned (.bool b) ∧ w = w'

/-- What is asked of a function value that takes an int: in every later world it says p, and leaves what lay. -/
def PredI (g : Nat) (lb : Array Value) (p : Int → Bool) (w : World) : Prop :=
  ∀ (W : World) (x : Int), Below w.heap.size w W → Calls Try.prog g (#[.int .i64 x] ++ lb) W fun e w' => e = .returned (.bool (p x)) ∧ Below W.heap.size W w'

theorem PredI.at_ {g : Nat} {lb : Array Value} {p : Int → Bool} {w : World} (h : PredI g lb p w) {x : Int} {b : Bool} (hx : p x = b) (W : World) (hb : Below w.heap.size w W) :
    Calls Try.prog g (#[.int .i64 x] ++ lb) W fun e w' => e = .returned (.bool b) ∧ Below W.heap.size W w' := hx ▸ h W x hb

theorem any_upto {l : List Int} {p : Int → Bool} {k : Nat} (hk : k < l.length) (h : p (nth l k) = true) : l.any p = true := by
  rw [nth_eq hk] at h
  exact List.any_eq_true.2 ⟨_, List.getElem_mem hk, h⟩
theorem any_none {l : List Int} {p : Int → Bool} (h : ∀ j, j < l.length → p (nth l j) = false) : l.any p = false := by
  rw [List.any_eq_false]
  intro x hx
  obtain ⟨i, hi, rfl⟩ := List.mem_iff_getElem.1 hx
  have := h i hi
  rw [nth_eq hi] at this
  simp [this]

set_option maxHeartbeats 1600000 in
theorem IndexFunc_ints (g : Nat) (lb : Array Value) (p : Int → Bool) (eg : ∀ args w, (callFunc g args).run Try.prog w = .ok (.enter g args) w) (A : Option Addr) (n c : Nat) (l : List Int) (w : World) (h : Sl w A n c l) (hp : PredI g lb p w) :
    Calls Try.prog 69 #[.slice A n c, .func (.func g) #[] lb] w fun e w' => (∃ r : Int, e = .returned (.int .i64 r) ∧ decide (0 ≤ r) = l.any p) ∧ Below w.heap.size w w' := by
  have hcap := h.le_cap
  have hcl := h.cap_le
  have hlen := Lib.hid h.len
  have hp' := Lib.hid hp
  clear hp
  go_enter Try.func69, Try.ntmps69
  go_wp2
  go_loopw [8] (fun i wr => ∃ k : Nat, k ≤ n ∧ i = .int .i64 k ∧ Below w.heap.size w wr ∧ Hid (∀ j, j < k → p (nth l j) = false)) (fun i _ => n - (intOf i).toNat)
  case atStart => exact ⟨0, Nat.zero_le _, rfl, Below.refl _ _, Lib.hid fun j hj => absurd hj (Nat.not_lt_zero _)⟩
  case round =>
    obtain ⟨k, hk, rfl, hB, HA⟩ := hrel
    by_cases hlt : k < n
    · obtain ⟨b, off, rfl, hbw, hc⟩ := (h.below hB (Nat.le_refl _)).at_ (by omega)
      have hcell := hc k hlt
      clear hc h
      obtain ⟨y, hy⟩ : ∃ y, nth l k = y := ⟨_, rfl⟩
      rw [hy] at hcell
      replace hy := Lib.hid hy
      cases hq : p y with
      | true =>
        have hcall := Lib.hid (hp'.out.at_ hq)
        replace hq := Lib.hid hq
        go_wp2_with (go_at_fn g; refine (hcall.out _ hB).mono ?_; rintro e w' ⟨rfl, hb2⟩)
        go_ret
        exact ⟨⟨_, rfl, by rw [any_upto (by rw [← hlen.out]; exact hlt) (by rw [hy.out]; exact hq.out)]; simp⟩, hB.trans (hb2.mono hB.size)⟩
      | false =>
        have hcall := Lib.hid (hp'.out.at_ hq)
        replace hq := Lib.hid hq
        go_wp2_with (go_at_fn g; refine (hcall.out _ hB).mono ?_; rintro e w' ⟨rfl, hb2⟩)
        exact ⟨⟨k + 1, hlt, by go_num, hB.trans (hb2.mono hB.size), Lib.hid fun j hj => (by
          by_cases e : j = k
          · rw [e, hy.out]; exact hq.out
          · exact HA.out j (by omega))⟩, by simp [intOf]; omega⟩
    · obtain rfl : k = n := by omega
      go_wp2
      go_ret
      exact ⟨⟨_, rfl, by rw [any_none (by rw [← hlen.out]; exact HA.out)]; simp⟩, hB⟩

theorem ContainsFunc_ints (g : Nat) (lb : Array Value) (p : Int → Bool) (eg : ∀ args w, (callFunc g args).run Try.prog w = .ok (.enter g args) w) (A : Option Addr) (n c : Nat) (l : List Int) (w : World) (h : Sl w A n c l) (hp : PredI g lb p w) {b : Bool} (hb : l.any p = b) :
    Calls Try.prog 62 #[.slice A n c, .func (.func g) #[] lb] w fun e w' => e = .returned (.bool b) ∧ Below w.heap.size w w' := by
  subst hb
  have hcon := Lib.hid (IndexFunc_ints g lb p eg A n c l w h hp)
  generalize l.any p = b at hcon
  clear h hp
  go_enter Try.func62, Try.ntmps62
  go_wp2_with (go_at_call 69; refine hcon.out.mono ?_; rintro e w' ⟨⟨r, rfl, hr⟩, hb2⟩; replace hr := Lib.hid hr)
  go_ret
  exact ⟨ret_bool hr.out, hb2⟩

/-- A raster. -/
def Ras (W H M : Int) (P : List Int) : Prop := ((1 ≤ W ∧ W ≤ 64) ∧ (1 ≤ H ∧ H ≤ 64) ∧ 1 ≤ M ∧ M ≤ 65535) ∧ (P.length : Int) = W * H ∧ ∀ g ∈ P, 0 ≤ g ∧ g ≤ M

theorem area {W H : Int} (h1 : 1 ≤ W) (h2 : W ≤ 64) (h3 : 1 ≤ H) (h4 : H ≤ 64) : 1 ≤ W * H ∧ W * H ≤ 4096 := by
  constructor
  · have := Int.mul_le_mul h1 h3 (by omega) (by omega); omega
  · have := Int.mul_le_mul h2 h4 (by omega) (by omega); omega

/-- The closure of Check. -/
theorem isOutside_pred (M : Int) (B : Nat) (w : World) (hB : B < w.heap.size) (hc : w.cell? ⟨B, 2, none⟩ = some (.int .i64 M)) :
    PredI 59 #[.pointer (some ⟨B, 0, none⟩)] (fun x => !win x 0 M) w := fun W x hb => by
  have hc' : W.cell? ⟨B, 2, none⟩ = some (.int .i64 M) := (hb.cell (p := ⟨B, 2, none⟩) hB).trans hc
  show Calls Try.prog 59 #[.int .i64 x, .pointer (some ⟨B, 0, none⟩)] W _
  go_enter Try.func59, Try.ntmps59
  go_wp2_with (go_at_call 60; refine (within_any _ _ _ _).mono ?_; rintro e w' ⟨rfl, rfl⟩)
  go_ret
  exact ⟨rfl, Below.refl _ _⟩

theorem enters_isOutside : ∀ args w, (callFunc 59 args).run Try.prog w = .ok (.enter 59 args) w := enters_of Try.func59 (by kernel_rfl) rfl

theorem outside_iff {M : Int} {P : List Int} : (P.any fun x => !win x 0 M) = false ↔ ∀ g ∈ P, 0 ≤ g ∧ g ≤ M := by
  rw [List.any_eq_false]
  exact ⟨fun h g hg => by have := h g hg; simpa [win_iff] using this, fun h g hg => by simpa [win_iff] using h g hg⟩

set_option maxHeartbeats 1600000 in
theorem Check_code (W H M : Int) (A : Option Addr) (n c : Nat) (P : List Int) (w : World) (h : Sl w A n c P) :
    Calls Try.prog 50 #[.agg #[.int .i64 W, .int .i64 H, .int .i64 M, .slice A n c]] w fun e w' => (∃ r : Int, e = .returned (.int .i64 r) ∧ (r = 0 ∧ Ras W H M P ∨ r = 1 ∧ ¬ Ras W H M P)) ∧ Below w.heap.size w w' := by
  have hb0 := (Below.refl w.heap.size w).alloc (Nat.le_refl _) (.cells #[.int .i64 W, .int .i64 H, .int .i64 M, .slice A n c] 37)
  have hlen := h.len
  have hcap := h.le_cap
  have hcl := h.cap_le
  obtain ⟨b1, h1⟩ : ∃ b, hfm W H M = b := ⟨_, rfl⟩
  cases b1
  · have hf : Hid (hasFormAt W H M false) := Lib.hid (h1 ▸ hasForm_any W H M)
    have hno : Hid (¬ Ras W H M P) := Lib.hid fun hr => by have := hfm_iff.2 hr.1; rw [h1] at this; cases this
    clear h1 hlen
    go_enter Try.func50, Try.ntmps50
    go_wp2_with (go_at_call 61; refine (hf.out _).mono ?_; rintro e w' ⟨rfl, rfl⟩)
    go_ret
    exact ⟨⟨1, rfl, .inr ⟨rfl, hno.out⟩⟩, hb0⟩
  · have hf : Hid (hasFormAt W H M true) := Lib.hid (h1 ▸ hasForm_any W H M)
    have hfr := hfm_iff.1 h1
    clear h1
    obtain ⟨a1, a2⟩ := area hfr.1.1 hfr.1.2 hfr.2.1.1 hfr.2.1.2
    by_cases hq : (n : Int) = W * H
    · have hnq : ((n : Int) != W * H) = false := by simp [hq]
      have hpred := isOutside_pred M w.heap.size (w.alloc (.cells #[.int .i64 W, .int .i64 H, .int .i64 M, .slice A n c] 37)) (by simp) (by simp [go_sem])
      obtain ⟨b, hb⟩ : ∃ b, (P.any fun x => !win x 0 M) = b := ⟨_, rfl⟩
      have hcon := Lib.hid (ContainsFunc_ints _ _ _ enters_isOutside A n c P _ (h.alloc (.cells #[.int .i64 W, .int .i64 H, .int .i64 M, .slice A n c] 37)) hpred hb)
      have hlen' := Lib.hid hlen
      have hq' := Lib.hid hq
      have hfr' := Lib.hid hfr
      have hb' := Lib.hid hb
      clear hpred hlen hq hb hfr h
      cases b
      · go_enter Try.func50, Try.ntmps50
        go_wp2_with (first | (go_at_call 61; refine (hf.out _).mono ?_; rintro e w' ⟨rfl, rfl⟩) | (go_at_call 62; refine (hcon.out).mono ?_; rintro e w' ⟨rfl, hb2⟩))
        go_ret
        exact ⟨⟨0, rfl, .inl ⟨rfl, hfr'.out, by rw [← hlen'.out]; exact hq'.out, outside_iff.1 hb'.out⟩⟩, hb0.trans (hb2.mono (by simp))⟩
      · go_enter Try.func50, Try.ntmps50
        go_wp2_with (first | (go_at_call 61; refine (hf.out _).mono ?_; rintro e w' ⟨rfl, rfl⟩) | (go_at_call 62; refine (hcon.out).mono ?_; rintro e w' ⟨rfl, hb2⟩))
        go_ret
        refine ⟨⟨1, rfl, .inr ⟨rfl, fun hr => ?_⟩⟩, hb0.trans (hb2.mono (by simp))⟩
        have := outside_iff.2 hr.2.2
        rw [hb'.out] at this
        cases this
    · have hnq : ((n : Int) != W * H) = true := by simp [hq]
      have hno : Hid (¬ Ras W H M P) := Lib.hid fun hr => hq (by rw [hlen]; exact hr.2.1)
      clear hq hlen hfr
      go_enter Try.func50, Try.ntmps50
      go_wp2_with (go_at_call 61; refine (hf.out _).mono ?_; rintro e w' ⟨rfl, rfl⟩)
      go_ret
      exact ⟨⟨1, rfl, .inr ⟨rfl, hno.out⟩⟩, hb0⟩

theorem Check_ok {W H M : Int} {A : Option Addr} {n c : Nat} {P : List Int} {w : World} (h : Sl w A n c P) (hr : Ras W H M P) :
    Calls Try.prog 50 #[.agg #[.int .i64 W, .int .i64 H, .int .i64 M, .slice A n c]] w fun e w' => e = .returned (.int .i64 0) ∧ Below w.heap.size w w' :=
  (Check_code W H M A n c P w h).mono fun e w' ⟨⟨r, he, hor⟩, hb⟩ => ⟨by
    rcases hor with ⟨h0, _⟩ | ⟨_, h0⟩
    · rw [he, h0]
    · exact absurd hr h0, hb⟩
theorem Check_no {W H M : Int} {A : Option Addr} {n c : Nat} {P : List Int} {w : World} (h : Sl w A n c P) (hr : ¬ Ras W H M P) :
    Calls Try.prog 50 #[.agg #[.int .i64 W, .int .i64 H, .int .i64 M, .slice A n c]] w fun e w' => e = .returned (.int .i64 1) ∧ Below w.heap.size w w' :=
  (Check_code W H M A n c P w h).mono fun e w' ⟨⟨r, he, hor⟩, hb⟩ => ⟨by
    rcases hor with ⟨_, h0⟩ | ⟨h0, _⟩
    · exact absurd h0 hr
    · rw [he, h0], hb⟩

end Go.Proofs.Ytonpnjjfidpoiaa
