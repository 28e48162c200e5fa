/-
  Walks of package raster and its reference that layer 21 needs: row, Check, At, Inside; lists that are filled.
-/
import Derived.Test.YtonpnjjfidpoiaaRaA
import Derived.RegionTactic
import Derived.Deep.QuietTactic
import Derived.BigQuiet
import Derived.BigRegion
import Derived.Lib.SliceRun
import Derived.Deep.RegionHeld3
import Derived.Deep.Cut
import Derived.IntWalk
set_option linter.unusedSimpArgs false
set_option linter.unusedVariables false
namespace Go.Proofs.Ytonpnjjfidpoiaa
open Go.RowKit

set_option maxHeartbeats 1600000 in
/-- row: a part of the pixels. -/
theorem row_any (a : Nat) (H M : Int) (b off n c y q : Nat) (P : List Int) (w : World) (hn : n ≤ c) (hc : c ≤ 9223372036854775807) (hq : q = y * a) (ha : 1 ≤ a) (hle : q + a ≤ n) (hy : y ≤ 1000) (ha2 : a ≤ 1000) :
    Calls Try.prog 67 #[.agg #[.int .i64 a, .int .i64 H, .int .i64 M, .slice (some ⟨b, off, none⟩) n c], .int .i64 y] w fun e w' =>
      e = .returned (.slice (some ⟨b, off + q, none⟩) a (c - q)) ∧ w' = w.alloc (.cells #[.int .i64 a, .int .i64 H, .int .i64 M, .slice (some ⟨b, off, none⟩) n c] 37) := by
  have e1 : (y : Int) * (a : Int) = (q : Int) := by rw [hq]; simp
  have e2 : ((y : Int) + 1) * (a : Int) = (q : Int) + (a : Int) := by rw [Int.add_mul, e1]; simp
  clear hq
  go_enter Try.func67, Try.ntmps67
  go_wp2
  go_ret
  exact ⟨by show Ending.returned (.slice _ (q + a - q) _) = _; rw [Nat.add_sub_cancel_left], rfl⟩

/-- row, at any spelling of its second argument; what lay lies as it lay. -/
theorem row_at {a : Nat} {H M : Int} {b off n c : Nat} {w : World} (y q : Nat) {v : Int} (hv : v = (y : Int)) (hn : n ≤ c) (hc : c ≤ 9223372036854775807) (hq : q = y * a) (ha : 1 ≤ a) (hle : q + a ≤ n) (hy : y ≤ 1000) (ha2 : a ≤ 1000) :
    Calls Try.prog 67 #[.agg #[.int .i64 a, .int .i64 H, .int .i64 M, .slice (some ⟨b, off, none⟩) n c], .int .i64 v] w fun e w' =>
      e = .returned (.slice (some ⟨b, off + q, none⟩) a (c - q)) ∧ Below w.heap.size w w' := by
  subst hv
  exact (row_any a H M b off n c y q [] w hn hc hq ha hle hy ha2).mono fun e w' ⟨he, hw⟩ => ⟨he, by rw [hw]; exact (Below.refl _ _).alloc (Nat.le_refl _) _⟩

theorem infoI : (Try.prog.info? 3).map (fun i => (i.zero, i.size, i.bytes)) = some (some (.int .i64 0), 1, 8) := by kernel_rfl

/-- make([]int, n). -/
theorem run_make_i64 (k1 k2 : IntKind) (u : Int) (n : Nat) (hu : u = (n : Int)) (hn : n ≤ 2000000000) (W : World) :
    (Instr.makeSlice 35 (.int k1 u) (.int k2 u)).run Try.prog W = .ok (.slice (some ⟨W.heap.size, 0, none⟩) n n) (W.alloc (.cells (cells (List.replicate n 0)).toArray 3)) := by
  obtain ⟨i0, hi, hz0, hz1, hz2⟩ := info_parts infoI
  have := run_make (P := Try.prog) W 35 3 i0 (.int .i64 0) Try.underlying35 hi hz0 k1 k2 u u (by omega) (Int.le_refl _) (by rw [hz2]; omega) (by omega)
  rw [this, hu]
  simp only [Int.toNat_natCast, hz1, Nat.mul_one]
  have e : (Value.int .i64 0).cells = #[.int .i64 0] := rfl
  rw [e, madeCells_i64, cells_replicate]

theorem below_drewN {B : Nat} {a b : World} (h : Below B a b) (q : Nat) : Below B a (b.drewN q) := ⟨h.os, h.tape, h.output, h.size, h.block⟩

/-- Check of the reference says what Check says. -/
def RetC (w : World) (W H M : Int) (P : List Int) (e : Ending) (w' : World) : Prop :=
  (∃ r : Int, e = .returned (.int .i64 r) ∧ (r = 0 ∧ Ras W H M P ∨ r = 1 ∧ ¬ Ras W H M P)) ∧ Below w.heap.size w w'

set_option maxHeartbeats 6400000 in
theorem rCheck_code (W H M : Int) (A : Option Addr) (n c : Nat) (P : List Int) (w : World) (h : Sl w A n c P) :
    Calls Try.prog 28 #[.agg #[.int .i64 W, .int .i64 H, .int .i64 M, .slice A n c]] w (RetC w W H M P) := by
  have hb0 := (Below.refl w.heap.size w).alloc (Nat.le_refl _) (.cells #[.int .i64 W, .int .i64 H, .int .i64 M, .slice A n c] 37)
  have hs := h.alloc (.cells #[.int .i64 W, .int .i64 H, .int .i64 M, .slice A n c] 37)
  have hlen := Lib.hid h.len
  have hcap := h.le_cap
  have hcl := h.cap_le
  clear h
  by_cases d0 : W < 1
  · have hno : Hid (¬ Ras W H M P) := Lib.hid fun hr => by have := hr.1; omega
    go_enter Try.func28, Try.ntmps28
    go_wp2
    go_ret
    exact ⟨⟨1, rfl, .inr ⟨rfl, hno.out⟩⟩, hb0⟩
  have c0 : 1 ≤ W := by omega
  clear d0
  by_cases d1 : 64 < W
  · have hno : Hid (¬ Ras W H M P) := Lib.hid fun hr => by have := hr.1; omega
    go_enter Try.func28, Try.ntmps28
    go_wp2
    go_ret
    exact ⟨⟨1, rfl, .inr ⟨rfl, hno.out⟩⟩, hb0⟩
  have c1 : W ≤ 64 := by omega
  clear d1
  by_cases d2 : H < 1
  · have hno : Hid (¬ Ras W H M P) := Lib.hid fun hr => by have := hr.1; omega
    go_enter Try.func28, Try.ntmps28
    go_wp2
    go_ret
    exact ⟨⟨1, rfl, .inr ⟨rfl, hno.out⟩⟩, hb0⟩
  have c2 : 1 ≤ H := by omega
  clear d2
  by_cases d3 : 64 < H
  · have hno : Hid (¬ Ras W H M P) := Lib.hid fun hr => by have := hr.1; omega
    go_enter Try.func28, Try.ntmps28
    go_wp2
    go_ret
    exact ⟨⟨1, rfl, .inr ⟨rfl, hno.out⟩⟩, hb0⟩
  have c3 : H ≤ 64 := by omega
  clear d3
  by_cases d4 : M < 1
  · have hno : Hid (¬ Ras W H M P) := Lib.hid fun hr => by have := hr.1; omega
    go_enter Try.func28, Try.ntmps28
    go_wp2
    go_ret
    exact ⟨⟨1, rfl, .inr ⟨rfl, hno.out⟩⟩, hb0⟩
  have c4 : 1 ≤ M := by omega
  clear d4
  by_cases d5 : 65535 < M
  · have hno : Hid (¬ Ras W H M P) := Lib.hid fun hr => by have := hr.1; omega
    go_enter Try.func28, Try.ntmps28
    go_wp2
    go_ret
    exact ⟨⟨1, rfl, .inr ⟨rfl, hno.out⟩⟩, hb0⟩
  have c5 : M ≤ 65535 := by omega
  clear d5
  obtain ⟨a1, a2⟩ := area c0 c1 c2 c3
  by_cases hq : ¬ (n : Int) = W * H
  · have hnq : ((n : Int) != W * H) = true := by simp [hq]
    have hno : Hid (¬ Ras W H M P) := Lib.hid fun hr => hq (by rw [hlen.out]; exact hr.2.1)
    clear hq
    go_enter Try.func28, Try.ntmps28
    go_wp2
    go_ret
    exact ⟨⟨1, rfl, .inr ⟨rfl, hno.out⟩⟩, hb0⟩
  replace hq : (n : Int) = W * H := Classical.not_not.1 hq
  have hnq : ((n : Int) != W * H) = false := by simp [hq]
  replace hq := Lib.hid hq
  go_enter Try.func28, Try.ntmps28
  go_wp2
  go_loopw [3] (fun i wr => ∃ k q, k ≤ n ∧ i = .int .i64 ((k : Nat) : Int) ∧ Hid (∀ j, j < k → 0 ≤ nth P j ∧ nth P j ≤ M) ∧ wr = (w.alloc (.cells #[.int .i64 W, .int .i64 H, .int .i64 M, .slice A n c] 37)).drewN q) (fun i _ => n - (intOf i).toNat)
  case atStart => exact ⟨0, 0, Nat.zero_le _, rfl, Lib.hid fun j h => absurd h (by omega), rfl⟩
  case round =>
    obtain ⟨k, q, hk, rfl, hag, rfl⟩ := hrel
    by_cases hlt : k < n
    · obtain ⟨b, off, rfl, hbl, hc⟩ := hs.at_ (by omega)
      have hcx := hc k hlt
      clear hc
      obtain ⟨x, hx⟩ : ∃ x, nth P k = x := ⟨_, rfl⟩
      rw [hx] at hcx
      have hmem : nth P k ∈ P := by rw [nth_eq (by rw [← hlen.out]; exact hlt)]; exact List.getElem_mem _
      have hki : (k : Int) < (n : Int) := by omega
      by_cases hx0 : 0 ≤ x
      · have hd : decide (x < 0) = false := by simp; omega
        by_cases hx1 : x ≤ M
        · have hd2 : decide (M < x) = false := by simp; omega
          replace hx := Lib.hid hx
          have hxx := Lib.hid (And.intro hx0 hx1)
          clear hx0 hx1 hmem
          go_wp2
          go_quiet (fail)
          go_wp2
          go_roundw
          case rel => exact ⟨k + 1, _, by omega, by go_num, Lib.hid (fun j h => by
            by_cases e : j = k
            · rw [e, hx.out]; exact hxx.out
            · exact hag.out j (by omega)), rfl⟩
          case measure => simp [intOf]; omega
        · have hd2 : decide (M < x) = true := by simp; omega
          have hno : Hid (¬ Ras W H M P) := Lib.hid fun hr => by have := hr.2.2 _ hmem; rw [hx] at this; omega
          clear hx0 hx1 hmem hx
          go_wp2
          go_quiet (fail)
          go_wp2
          go_ret
          exact ⟨⟨1, rfl, .inr ⟨rfl, hno.out⟩⟩, by first | exact below_drewN hb0 _ | exact below_drewN (below_drewN hb0 _) _⟩
      · have hd : decide (x < 0) = true := by simp; omega
        have hno : Hid (¬ Ras W H M P) := Lib.hid fun hr => by have := hr.2.2 _ hmem; rw [hx] at this; omega
        clear hx0 hmem hx
        go_wp2
        go_quiet (fail)
        go_wp2
        go_ret
        exact ⟨⟨1, rfl, .inr ⟨rfl, hno.out⟩⟩, by first | exact below_drewN hb0 _ | exact below_drewN (below_drewN hb0 _) _⟩
    · have hyes : Ras W H M P := ⟨⟨⟨c0, c1⟩, ⟨c2, c3⟩, c4, c5⟩, by rw [← hlen.out]; exact hq.out, fun g hg => by
        obtain ⟨i, hi, rfl⟩ := List.mem_iff_getElem.1 hg
        have := hag.out i (by have := hlen.out; omega)
        rw [nth_eq hi] at this
        exact this⟩
      replace hyes := Lib.hid hyes
      go_wp2
      go_ret
      exact ⟨⟨0, rfl, .inl ⟨rfl, hyes.out⟩⟩, by first | exact below_drewN hb0 _ | exact below_drewN (below_drewN hb0 _) _⟩

theorem rCheck_ok {W H M : Int} {A : Option Addr} {n c : Nat} {P : List Int} {w : World} (h : Sl w A n c P) (hr : Ras W H M P) :
    Calls Try.prog 28 #[.agg #[.int .i64 W, .int .i64 H, .int .i64 M, .slice A n c]] w fun e w' => e = .returned (.int .i64 0) ∧ Below w.heap.size w w' :=
  (rCheck_code W H M A n c P w h).mono fun e w' ⟨⟨r, he, hor⟩, hb⟩ => ⟨by
    rcases hor with ⟨h0, _⟩ | ⟨_, h0⟩
    · rw [he, h0]
    · exact absurd hr h0, hb⟩
theorem rCheck_no {W H M : Int} {A : Option Addr} {n c : Nat} {P : List Int} {w : World} (h : Sl w A n c P) (hr : ¬ Ras W H M P) :
    Calls Try.prog 28 #[.agg #[.int .i64 W, .int .i64 H, .int .i64 M, .slice A n c]] w fun e w' => e = .returned (.int .i64 1) ∧ Below w.heap.size w w' :=
  (rCheck_code W H M A n c P w h).mono fun e w' ⟨⟨r, he, hor⟩, hb⟩ => ⟨by
    rcases hor with ⟨_, h0⟩ | ⟨h0, _⟩
    · exact absurd h0 hr
    · rw [he, h0], hb⟩

set_option maxHeartbeats 800000 in
/-- At of the reference. -/
theorem rAt_any (a : Nat) (H M : Int) (A : Option Addr) (n c : Nat) (P : List Int) (w : World) (x y : Int) (i j q : Nat) (h : Sl w A n c P) (hx : x = (i : Int)) (hy : y = (j : Int)) (hq : q = j * a) (hle : q + i < n) (hn : n ≤ 1000000) :
    Calls Try.prog 49 #[.agg #[.int .i64 a, .int .i64 H, .int .i64 M, .slice A n c], .int .i64 x, .int .i64 y] w fun e w' => e = .returned (.int .i64 (nth P (q + i))) ∧ Below w.heap.size w w' := by
  subst hx hy
  obtain ⟨b, off, rfl, _, hc⟩ := (h.alloc (.cells #[.int .i64 a, .int .i64 H, .int .i64 M, .slice A n c] 37)).at_ (by omega)
  have hcell := hc (q + i) hle
  have hcap := h.le_cap
  have hcl := h.cap_le
  clear hc h
  have e1 : (j : Int) * (a : Int) = (q : Int) := by rw [hq]; simp
  have hb0 := (Below.refl w.heap.size w).alloc (Nat.le_refl _) (.cells #[.int .i64 a, .int .i64 H, .int .i64 M, .slice (some ⟨b, off, none⟩) n c] 37)
  clear hq
  generalize nth P (q + i) = v at hcell
  go_enter Try.func49, Try.ntmps49
  go_wp2
  go_ret
  exact ⟨rfl, hb0⟩

/-- Is (x, y) a pixel? -/
def ins (W H x y : Int) : Bool := (decide (0 ≤ x) && decide (x < W)) && (decide (0 ≤ y) && decide (y < H))
theorem ins_iff {W H x y : Int} : ins W H x y = true ↔ (0 ≤ x ∧ x < W) ∧ 0 ≤ y ∧ y < H := by simp [ins]

set_option maxHeartbeats 800000 in
/-- Inside of the reference. -/
theorem rInside_any (W H M : Int) (A : Option Addr) (n c : Nat) (x y : Int) (w : World) :
    Calls Try.prog 20 #[.agg #[.int .i64 W, .int .i64 H, .int .i64 M, .slice A n c], .int .i64 x, .int .i64 y] w fun e w' => e = .returned (.bool (ins W H x y)) ∧ Below w.heap.size w w' := by
  have hb0 := (Below.refl w.heap.size w).alloc (Nat.le_refl _) (.cells #[.int .i64 W, .int .i64 H, .int .i64 M, .slice A n c] 37)
  by_cases h1 : x < 0
  · have hd : decide (0 ≤ x) = false := by simp; omega
    have hf : Hid (ins W H x y = false) := Lib.hid (by unfold ins; rw [hd]; rfl)
    go_enter Try.func20, Try.ntmps20
    go_wp2
    go_ret
    exact ⟨ret_bool hf.out.symm, hb0⟩
  have h1' : 0 ≤ x := by omega
  have hd1 : decide (0 ≤ x) = true := by simp; omega
  by_cases h2 : W ≤ x
  · have hd : decide (x < W) = false := by simp; omega
    have hf : Hid (ins W H x y = false) := Lib.hid (by unfold ins; rw [hd]; simp)
    go_enter Try.func20, Try.ntmps20
    go_wp2
    go_ret
    exact ⟨ret_bool hf.out.symm, hb0⟩
  have h2' : x < W := by omega
  have hd2 : decide (x < W) = true := by simp; omega
  by_cases h3 : y < 0
  · have hd : decide (0 ≤ y) = false := by simp; omega
    have hf : Hid (ins W H x y = false) := Lib.hid (by unfold ins; rw [hd]; simp)
    go_enter Try.func20, Try.ntmps20
    go_wp2
    go_ret
    exact ⟨ret_bool hf.out.symm, hb0⟩
  have h3' : 0 ≤ y := by omega
  have hd3 : decide (0 ≤ y) = true := by simp; omega
  have hf : Hid (ins W H x y = decide (y < H)) := Lib.hid (by unfold ins; rw [hd1, hd2, hd3]; simp)
  go_enter Try.func20, Try.ntmps20
  go_wp2
  go_ret
  exact ⟨ret_bool hf.out.symm, hb0⟩

/-- The list of N values of a function. -/
def tab (N : Nat) (f : Nat → Int) : List Int := (List.range N).map f
theorem tab_length (N : Nat) (f : Nat → Int) : (tab N f).length = N := by simp [tab]
theorem nth_tab {N : Nat} {f : Nat → Int} {i : Nat} (h : i < N) : nth (tab N f) i = f i := by simp [nth, tab, List.getD, h]
theorem tab_congr {N : Nat} {f g : Nat → Int} (h : ∀ i, i < N → f i = g i) : tab N f = tab N g := nth_ext (by rw [tab_length, tab_length]) fun i hi => by
  rw [tab_length] at hi
  rw [nth_tab hi, nth_tab hi, h i hi]
theorem tab_nth (P : List Int) : tab P.length (nth P) = P := nth_ext (tab_length _ _) fun i hi => by
  rw [tab_length] at hi
  exact nth_tab hi

/-- The first k of N places hold the values of f. -/
def Fill (f : Nat → Int) (N k : Nat) (L : List Int) : Prop := L.length = N ∧ ∀ i, i < k → nth L i = f i
theorem Fill.start {f : Nat → Int} {N : Nat} {L : List Int} (h : L.length = N) : Fill f N 0 L := ⟨h, fun i hi => absurd hi (by omega)⟩
theorem Fill.step {f : Nat → Int} {N k : Nat} {L : List Int} (h : Fill f N k L) (hk : k < N) {v : Int} (hv : v = f k) : Fill f N (k + 1) (L.set k v) := by
  refine ⟨by rw [List.length_set]; exact h.1, fun i hi => ?_⟩
  by_cases e : i = k
  · subst e; rw [nth_set_self (by rw [h.1]; exact hk)]; exact hv
  · rw [nth_set_ne (by omega)]; exact h.2 i (by omega)
theorem Fill.done {f : Nat → Int} {N : Nat} {L : List Int} (h : Fill f N N L) : L = tab N f := nth_ext (by rw [h.1, tab_length]) fun i hi => by
  rw [h.1] at hi
  rw [h.2 i hi, nth_tab hi]
theorem Fill.at_ {f : Nat → Int} {N k k' : Nat} {L : List Int} (h : Fill f N k L) (e : k = k') : Fill f N k' L := e ▸ h

theorem row_lt {y b a x : Nat} (hy : y < a) (hx : x < b) : y * b + x < a * b := by
  have : (y + 1) * b ≤ a * b := Nat.mul_le_mul_right b hy
  rw [Nat.add_mul] at this; omega
theorem row_le {y b a : Nat} (hy : y < a) : y * b + b ≤ a * b := by
  have : (y + 1) * b ≤ a * b := Nat.mul_le_mul_right b hy
  rw [Nat.add_mul] at this; omega
theorem row_mod {y b x : Nat} (hx : x < b) : (y * b + x) % b = x := by rw [Nat.mul_comm, Nat.mul_add_mod]; exact Nat.mod_eq_of_lt hx
theorem row_div {y b x : Nat} (hx : x < b) : (y * b + x) / b = y := by
  rw [Nat.mul_comm, Nat.mul_add_div (by omega), Nat.div_eq_of_lt hx, Nat.add_zero]

/-- The pixels of a turned raster, a wide and b high: the place k of the result. -/
def turnf (a b : Nat) (P : List Int) (k : Nat) : Int := nth P ((k % b) * a + (a - 1 - k / b))
theorem turnf_at {a b y x : Nat} {P : List Int} (hx : x < b) : turnf a b P (y * b + x) = nth P (x * a + (a - 1 - y)) := by unfold turnf; rw [row_mod hx, row_div hx]
def turned (a b : Nat) (P : List Int) : List Int := tab (a * b) (turnf a b P)

theorem Ras.nat {W H M : Int} {P : List Int} (h : Ras W H M P) : ∃ a b : Nat, W = a ∧ H = b ∧ (1 ≤ a ∧ a ≤ 64) ∧ (1 ≤ b ∧ b ≤ 64) ∧ (1 ≤ M ∧ M ≤ 65535) ∧ P.length = a * b ∧ P.length ≤ 4096 ∧ 0 < P.length := by
  obtain ⟨⟨⟨h1, h2⟩, ⟨h3, h4⟩, h5, h6⟩, hl, -⟩ := h
  obtain ⟨a, rfl⟩ := Int.eq_ofNat_of_zero_le (show 0 ≤ W by omega)
  obtain ⟨b, rfl⟩ := Int.eq_ofNat_of_zero_le (show 0 ≤ H by omega)
  have hle : P.length = a * b := by have : (P.length : Int) = ((a * b : Nat) : Int) := by rw [hl]; simp
                                    omega
  have h7 : a * b ≤ 4096 := Nat.mul_le_mul (show a ≤ 64 by omega) (show b ≤ 64 by omega)
  have h8 : 1 * 1 ≤ a * b := Nat.mul_le_mul (show 1 ≤ a by omega) (show 1 ≤ b by omega)
  exact ⟨a, b, rfl, rfl, ⟨by omega, by omega⟩, ⟨by omega, by omega⟩, ⟨h5, h6⟩, hle, by omega, by omega⟩

theorem rAt_at {a : Nat} {H M : Int} {A : Option Addr} {n c : Nat} {P : List Int} {w : World} {x y : Int} {v : Int} (i j q : Nat) (h : Sl w A n c P) (hx : x = (i : Int)) (hy : y = (j : Int)) (hq : q = j * a) (hle : q + i < n) (hn : n ≤ 1000000) (hv : nth P (q + i) = v) :
    Calls Try.prog 49 #[.agg #[.int .i64 a, .int .i64 H, .int .i64 M, .slice A n c], .int .i64 x, .int .i64 y] w fun e w' => e = .returned (.int .i64 v) ∧ Below w.heap.size w w' :=
  hv ▸ rAt_any a H M A n c P w x y i j q h hx hy hq hle hn

end Go.Proofs.Ytonpnjjfidpoiaa
