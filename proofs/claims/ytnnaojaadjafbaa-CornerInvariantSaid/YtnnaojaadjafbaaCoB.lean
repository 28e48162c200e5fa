/-
  Walks: slices.Equal at []int; the reference's Check of a raster.
-/
import Derived.Test.YtnnaojaadjafbaaRaA
import Derived.RegionTactic
import Derived.Deep.QuietTactic
import Derived.BigQuiet
import Derived.BigRegion
import Derived.Lib.SliceRun
set_option linter.unusedSimpArgs false
set_option linter.unusedVariables false
namespace Go.Proofs.Ytnnaojaadjafbaa
open Go.RowKit

theorem below_drewN {B : Nat} {a b : World} (h : Below B a b) (q : Nat) : Below B a (b.drewN q) := ⟨h.os, h.tape, h.output, h.size, h.block⟩

/-- Are two lists the same? -/
def eql (l l2 : List Int) : Bool := decide (l = l2)
theorem eql_yes {l l2 : List Int} (h : l.length = l2.length) (ha : ∀ j, j < l.length → nth l j = nth l2 j) : eql l l2 = true := decide_eq_true (nth_ext h ha)
theorem eql_at {l l2 : List Int} {i : Nat} (h : nth l i ≠ nth l2 i) : eql l l2 = false := decide_eq_false fun e => h (by rw [e])
theorem eql_len {l l2 : List Int} (h : l.length ≠ l2.length) : eql l l2 = false := decide_eq_false fun e => h (by rw [e])

set_option maxHeartbeats 1600000 in
theorem sEqual_any (A : Option Addr) (n c : Nat) (l : List Int) (A2 : Option Addr) (n2 c2 : Nat) (l2 : List Int) (w : World) (h : Sl w A n c l) (h2 : Sl w A2 n2 c2 l2) :
    Calls Try.prog 15 #[.slice A n c, .slice A2 n2 c2] w fun e w' => e = .returned (.bool (eql l l2)) ∧ Below w.heap.size w w' := by
  have hcap := h.le_cap
  have hcl := h.cap_le
  have hcap2 := h2.le_cap
  have hcl2 := h2.cap_le
  by_cases hl : n = n2
  · subst hl
    have ht2 : ((n : Int) != (n : Int)) = false := by simp
    have hln := Lib.hid h.len
    have hln2 := Lib.hid h2.len
    go_enter Try.func15, Try.ntmps15
    go_wp2
    go_loopw [13] (fun i wr => ∃ k q, k ≤ n ∧ i = .int .i64 ((k : Nat) : Int) ∧ Hid (∀ j, j < k → nth l j = nth l2 j) ∧ wr = w.drewN q) (fun i _ => n - (intOf i).toNat)
    case atStart => exact ⟨0, 0, Nat.zero_le _, rfl, Lib.hid fun j h => absurd h (by omega), rfl⟩
    case round =>
      obtain ⟨k, q, hk, rfl, hag, rfl⟩ := hrel
      by_cases hlt : k < n
      · obtain ⟨b, off, rfl, hbl, hc⟩ := h.at_ (by omega)
        obtain ⟨b2, off2, rfl, hbl2, hc2⟩ := h2.at_ (by omega)
        have hcx := hc k hlt
        have hcy := hc2 k hlt
        clear hc hc2
        obtain ⟨x, hx⟩ : ∃ x, nth l k = x := ⟨_, rfl⟩
        obtain ⟨y, hy⟩ : ∃ y, nth l2 k = y := ⟨_, rfl⟩
        rw [hx] at hcx
        rw [hy] at hcy
        replace hx := Lib.hid hx
        replace hy := Lib.hid hy
        have hki : (k : Int) < (n : Int) := by omega
        by_cases hxy : x = y
        · subst hxy
          have ht3 : ((x : Int) != (x : Int)) = false := by simp
          go_wp2
          go_quiet (fail)
          go_wp2
          go_roundw
          case rel => exact ⟨k + 1, _, by omega, by go_num, Lib.hid (fun j h => by
            by_cases e : j = k
            · rw [e, hx.out, hy.out]
            · exact hag.out j (by omega)), rfl⟩
          case measure => simp [intOf]; omega
        · have ht3 : ((x : Int) != (y : Int)) = true := by rw [bne_iff_ne]; omega
          have hf : eql l l2 = false := eql_at (i := k) (by rw [hx.out, hy.out]; exact hxy)
          replace hf := Lib.hid hf
          replace hxy := Lib.hid hxy
          go_wp2
          go_quiet (fail)
          go_wp2
          go_ret
          exact ⟨ret_bool hf.out.symm, below_drewN (below_drewN (Below.refl _ _) _) _⟩
      · have hf : eql l l2 = true := eql_yes (by rw [← hln.out, ← hln2.out]) (fun j hj => hag.out j (by rw [← hln.out] at hj; omega))
        replace hf := Lib.hid hf
        go_wp2
        go_ret
        exact ⟨ret_bool hf.out.symm, below_drewN (Below.refl _ _) _⟩
  · have ht2 : ((n : Int) != (n2 : Int)) = true := by rw [bne_iff_ne]; omega
    have hf : eql l l2 = false := eql_len (by rw [← h.len, ← h2.len]; exact hl)
    replace hl := Lib.hid hl
    rw [hf]
    go_enter Try.func15, Try.ntmps15
    go_wp2
    go_ret
    exact ⟨rfl, Below.refl _ _⟩

/-- Check of the reference says what Check says. -/
def RetC (w : World) (W H M : Int) (P : List Int) (e : Ending) (w' : World) : Prop :=
  (∃ r : Int, e = .returned (.int .i64 r) ∧ (r = 0 ∧ Ras W H M P ∨ r = 1 ∧ ¬ Ras W H M P)) ∧ Below w.heap.size w w'

set_option maxHeartbeats 6400000 in
theorem rCheck_code (W H M : Int) (A : Option Addr) (n c : Nat) (P : List Int) (w : World) (h : Sl w A n c P) :
    Calls Try.prog 51 #[.agg #[.int .i64 W, .int .i64 H, .int .i64 M, .slice A n c]] w (RetC w W H M P) := by
  have hb0 := (Below.refl w.heap.size w).alloc (Nat.le_refl _) (.cells #[.int .i64 W, .int .i64 H, .int .i64 M, .slice A n c] 24)
  have hs := h.alloc (.cells #[.int .i64 W, .int .i64 H, .int .i64 M, .slice A n c] 24)
  have hlen := Lib.hid h.len
  have hcap := h.le_cap
  have hcl := h.cap_le
  clear h
  by_cases d0 : W < 1
  · have hno : Hid (¬ Ras W H M P) := Lib.hid fun hr => by have := hr.1; omega
    go_enter Try.func51, Try.ntmps51
    go_wp2
    go_ret
    exact ⟨⟨1, rfl, .inr ⟨rfl, hno.out⟩⟩, hb0⟩
  have c0 : 1 ≤ W := by omega
  clear d0
  by_cases d1 : 64 < W
  · have hno : Hid (¬ Ras W H M P) := Lib.hid fun hr => by have := hr.1; omega
    go_enter Try.func51, Try.ntmps51
    go_wp2
    go_ret
    exact ⟨⟨1, rfl, .inr ⟨rfl, hno.out⟩⟩, hb0⟩
  have c1 : W ≤ 64 := by omega
  clear d1
  by_cases d2 : H < 1
  · have hno : Hid (¬ Ras W H M P) := Lib.hid fun hr => by have := hr.1; omega
    go_enter Try.func51, Try.ntmps51
    go_wp2
    go_ret
    exact ⟨⟨1, rfl, .inr ⟨rfl, hno.out⟩⟩, hb0⟩
  have c2 : 1 ≤ H := by omega
  clear d2
  by_cases d3 : 64 < H
  · have hno : Hid (¬ Ras W H M P) := Lib.hid fun hr => by have := hr.1; omega
    go_enter Try.func51, Try.ntmps51
    go_wp2
    go_ret
    exact ⟨⟨1, rfl, .inr ⟨rfl, hno.out⟩⟩, hb0⟩
  have c3 : H ≤ 64 := by omega
  clear d3
  by_cases d4 : M < 1
  · have hno : Hid (¬ Ras W H M P) := Lib.hid fun hr => by have := hr.1; omega
    go_enter Try.func51, Try.ntmps51
    go_wp2
    go_ret
    exact ⟨⟨1, rfl, .inr ⟨rfl, hno.out⟩⟩, hb0⟩
  have c4 : 1 ≤ M := by omega
  clear d4
  by_cases d5 : 65535 < M
  · have hno : Hid (¬ Ras W H M P) := Lib.hid fun hr => by have := hr.1; omega
    go_enter Try.func51, Try.ntmps51
    go_wp2
    go_ret
    exact ⟨⟨1, rfl, .inr ⟨rfl, hno.out⟩⟩, hb0⟩
  have c5 : M ≤ 65535 := by omega
  clear d5
  obtain ⟨a1, a2⟩ := area c0 c1 c2 c3
  by_cases hq : ¬ (n : Int) = W * H
  · have hnq : ((n : Int) != W * H) = true := by simp [hq]
    have hno : Hid (¬ Ras W H M P) := Lib.hid fun hr => hq (by rw [hlen.out]; exact hr.2.1)
    clear hq
    go_enter Try.func51, Try.ntmps51
    go_wp2
    go_ret
    exact ⟨⟨1, rfl, .inr ⟨rfl, hno.out⟩⟩, hb0⟩
  replace hq : (n : Int) = W * H := Classical.not_not.1 hq
  have hnq : ((n : Int) != W * H) = false := by simp [hq]
  replace hq := Lib.hid hq
  go_enter Try.func51, Try.ntmps51
  go_wp2
  go_loopw [3] (fun i wr => ∃ k q, k ≤ n ∧ i = .int .i64 ((k : Nat) : Int) ∧ Hid (∀ j, j < k → 0 ≤ nth P j ∧ nth P j ≤ M) ∧ wr = (w.alloc (.cells #[.int .i64 W, .int .i64 H, .int .i64 M, .slice A n c] 24)).drewN q) (fun i _ => n - (intOf i).toNat)
  case atStart => exact ⟨0, 0, Nat.zero_le _, rfl, Lib.hid fun j h => absurd h (by omega), rfl⟩
  case round =>
    obtain ⟨k, q, hk, rfl, hag, rfl⟩ := hrel
    by_cases hlt : k < n
    · obtain ⟨b, off, rfl, hbl, hc⟩ := hs.at_ (by omega)
      have hcx := hc k hlt
      clear hc
      obtain ⟨x, hx⟩ : ∃ x, nth P k = x := ⟨_, rfl⟩
      rw [hx] at hcx
      have hmem : nth P k ∈ P := by rw [nth_eq (by rw [← hlen.out]; exact hlt)]; exact List.getElem_mem _
      have hki : (k : Int) < (n : Int) := by omega
      by_cases hx0 : 0 ≤ x
      · have hd : decide (x < 0) = false := by simp; omega
        by_cases hx1 : x ≤ M
        · have hd2 : decide (M < x) = false := by simp; omega
          replace hx := Lib.hid hx
          have hxx := Lib.hid (And.intro hx0 hx1)
          clear hx0 hx1 hmem
          go_wp2
          go_quiet (fail)
          go_wp2
          go_roundw
          case rel => exact ⟨k + 1, _, by omega, by go_num, Lib.hid (fun j h => by
            by_cases e : j = k
            · rw [e, hx.out]; exact hxx.out
            · exact hag.out j (by omega)), rfl⟩
          case measure => simp [intOf]; omega
        · have hd2 : decide (M < x) = true := by simp; omega
          have hno : Hid (¬ Ras W H M P) := Lib.hid fun hr => by have := hr.2.2 _ hmem; rw [hx] at this; omega
          clear hx0 hx1 hmem hx
          go_wp2
          go_quiet (fail)
          go_wp2
          go_ret
          exact ⟨⟨1, rfl, .inr ⟨rfl, hno.out⟩⟩, by first | exact below_drewN hb0 _ | exact below_drewN (below_drewN hb0 _) _⟩
      · have hd : decide (x < 0) = true := by simp; omega
        have hno : Hid (¬ Ras W H M P) := Lib.hid fun hr => by have := hr.2.2 _ hmem; rw [hx] at this; omega
        clear hx0 hmem hx
        go_wp2
        go_quiet (fail)
        go_wp2
        go_ret
        exact ⟨⟨1, rfl, .inr ⟨rfl, hno.out⟩⟩, by first | exact below_drewN hb0 _ | exact below_drewN (below_drewN hb0 _) _⟩
    · have hyes : Ras W H M P := ⟨⟨⟨c0, c1⟩, ⟨c2, c3⟩, c4, c5⟩, by rw [← hlen.out]; exact hq.out, fun g hg => by
        obtain ⟨i, hi, rfl⟩ := List.mem_iff_getElem.1 hg
        have := hag.out i (by have := hlen.out; omega)
        rw [nth_eq hi] at this
        exact this⟩
      replace hyes := Lib.hid hyes
      go_wp2
      go_ret
      exact ⟨⟨0, rfl, .inl ⟨rfl, hyes.out⟩⟩, by first | exact below_drewN hb0 _ | exact below_drewN (below_drewN hb0 _) _⟩

theorem rCheck_ok {W H M : Int} {A : Option Addr} {n c : Nat} {P : List Int} {w : World} (h : Sl w A n c P) (hr : Ras W H M P) :
    Calls Try.prog 51 #[.agg #[.int .i64 W, .int .i64 H, .int .i64 M, .slice A n c]] w fun e w' => e = .returned (.int .i64 0) ∧ Below w.heap.size w w' :=
  (rCheck_code W H M A n c P w h).mono fun e w' ⟨⟨r, he, hor⟩, hb⟩ => ⟨by
    rcases hor with ⟨h0, _⟩ | ⟨_, h0⟩
    · rw [he, h0]
    · exact absurd hr h0, hb⟩
theorem rCheck_no {W H M : Int} {A : Option Addr} {n c : Nat} {P : List Int} {w : World} (h : Sl w A n c P) (hr : ¬ Ras W H M P) :
    Calls Try.prog 51 #[.agg #[.int .i64 W, .int .i64 H, .int .i64 M, .slice A n c]] w fun e w' => e = .returned (.int .i64 1) ∧ Below w.heap.size w w' :=
  (rCheck_code W H M A n c P w h).mono fun e w' ⟨⟨r, he, hor⟩, hb⟩ => ⟨by
    rcases hor with ⟨_, h0⟩ | ⟨h0, _⟩
    · exact absurd h0 hr
    · rw [he, h0], hb⟩

end Go.Proofs.Ytnnaojaadjafbaa
