/-
  Walks: blank and New of package raster; slices.Clone, slices.Equal at []int; the reference's Check.
-/
import Derived.Test.YtfkoboljobghkaaRaA
import Derived.RegionTactic
import Derived.Deep.QuietTactic
import Derived.BigQuiet
import Derived.BigRegion
import Derived.Lib.SliceRun
set_option linter.unusedSimpArgs false
set_option linter.unusedVariables false
namespace Go.Proofs.Ytfkoboljobghkaa
open Go.RowKit

theorem infoI : (Try.prog.info? 3).map (fun i => (i.zero, i.size, i.bytes)) = some (some (.int .i64 0), 1, 8) := by kernel_rfl

/-- make([]int, n). -/
theorem run_make_i64 (k1 k2 : IntKind) (u : Int) (n : Nat) (hu : u = (n : Int)) (hn : n ≤ 2000000000) (W : World) :
    (Instr.makeSlice 23 (.int k1 u) (.int k2 u)).run Try.prog W = .ok (.slice (some ⟨W.heap.size, 0, none⟩) n n) (W.alloc (.cells (cells (List.replicate n 0)).toArray 3)) := by
  obtain ⟨i0, hi, hz0, hz1, hz2⟩ := info_parts infoI
  have := run_make (P := Try.prog) W 23 3 i0 (.int .i64 0) Try.underlying23 hi hz0 k1 k2 u u (by omega) (Int.le_refl _) (by rw [hz2]; omega) (by omega)
  rw [this, hu]
  simp only [Int.toNat_natCast, hz1, Nat.mul_one]
  have e : (Value.int .i64 0).cells = #[.int .i64 0] := rfl
  rw [e, madeCells_i64, cells_replicate]

set_option maxHeartbeats 1600000 in
/-- blank: zeros in new memory. -/
theorem blank_any (a b : Nat) (M : Int) (w : World) (ha : 1 ≤ a) (ha2 : a ≤ 64) (hb : 1 ≤ b) (hb2 : b ≤ 64) :
    Calls Try.prog 77 #[.int .i64 a, .int .i64 b, .int .i64 M] w fun e w' =>
      ∃ g, e = .returned (.agg #[.int .i64 a, .int .i64 b, .int .i64 M, .slice (some ⟨g, 0, none⟩) (a * b) (a * b)]) ∧ w.heap.size ≤ g ∧ Bl w' g (List.replicate (a * b) 0) ∧ Below w.heap.size w w' := by
  obtain ⟨n, hn⟩ : ∃ n, a * b = n := ⟨_, rfl⟩
  have e1 : (a : Int) * (b : Int) = (n : Int) := by rw [← hn]; simp
  have hn2 : n ≤ 4096 := by rw [← hn]; exact Nat.mul_le_mul ha2 hb2
  rw [hn]
  replace hn := Lib.hid hn
  have hmk := run_make_i64 .i64 .i64 (n : Int) n rfl (by omega)
  have hbl := fun W : World => Bl.new W (List.replicate n 0)
  replace hbl := Lib.hid hbl
  generalize (List.replicate n (0 : Int)) = Z at hmk hbl ⊢
  generalize (cells Z).toArray = C at hmk hbl
  go_enter Try.func77, Try.ntmps77
  go_wp2
  refine bodyPost_ret (v := .agg #[.int .i64 a, .int .i64 b, .int .i64 M, .slice (some ⟨w.heap.size + 1, 0, none⟩) n n]) (by simp [results, Try.results77, go_sem]) rfl ?_
  refine ⟨w.heap.size + 1, rfl, by omega, ?_, ((Below.refl _ _).alloc (Nat.le_refl _) _).alloc (by simp) _⟩
  have := hbl.out (w.alloc (.cells #[.int .i64 a, .int .i64 b, .int .i64 M, .slice (some ⟨w.heap.size + 1, 0, none⟩) n n] 25))
  rw [World.size_alloc] at this
  exact this

set_option maxHeartbeats 2000000 in
set_option maxRecDepth 100000 in
/-- slices.Clone of a slice that holds something. -/
theorem Clone_some (A : Option Addr) (n c : Nat) (l : List Int) (w : World) (h : Sl w A n c l) (h0 : 0 < n) (hn : n ≤ 1000000) :
    Calls Try.prog 47 #[.slice A n c] w fun e w' => ∃ g c', e = .returned (.slice (some ⟨g, 0, none⟩) n c') ∧ w.heap.size ≤ g ∧ Bl w' g l ∧ n ≤ c' ∧ c' ≤ 9223372036854775807 ∧ Below w.heap.size w w' := by
  obtain ⟨b, off, rfl, hbl, hc⟩ := h.at_ h0
  have hlen := Lib.hid h.len
  have hcap := h.le_cap
  obtain ⟨i0, hi, hz0, hz1, hz2⟩ := info_parts infoI
  have q22 : ∀ (w : World) (a : Option Addr) (n c n' c' : Nat), (binOp .eql 23 (.slice a n c) (.slice none n' c')).run Try.prog w = .ok (.bool a.isNone) w := fun w a n c n' c' => Lib.run_eql_slice_nil w _ _ a n c n' c' Try.underlying23
  replace hc := Lib.hid hc
  clear h
  go_enter Try.func47, Try.ntmps47
  go_wp2_with (at_builtin; refine wpList_append_own _ rfl _ _ 23 rfl w.heap.size 3 i0 (.int .i64 0) 1 8 Try.underlying23 hi hz0 hz1 hz2 rfl (by decide) _ _ _ rfl (World.ownsRow_made w #[] 0 (Nat.le_refl _) (Nat.zero_le _) rfl) ⟨b, off, none⟩ n c (cells l) rfl ?qc1 ?qc2 ?qc3 ?qc4 ?qc5 ?qc6 ?_)
  case qc1 => rw [cells_length, ← hlen.out, Nat.mul_one]
  case qc2 =>
    intro j u hj
    have hjn : j < n := by
      have := (List.getElem?_eq_some_iff.1 hj).1
      rw [cells_length, ← hlen.out] at this
      exact this
    rw [Addr.add_lit]
    refine Lib.cell?_alloc_some _ ?_
    rw [hc.out j hjn]
    rw [cells_at (by rw [← hlen.out]; exact hjn)] at hj
    exact hj
  case qc3 => exact cells_one
  case qc4 => unfold maxLen; omega
  case qc5 => omega
  case qc6 => simp
  intro v' w1 hown hgrow hnil
  obtain ⟨g, c', rfl, hg, hbl', hnc, hcm, -⟩ := Bl.of_own (l := l) (n := 0 + n) (by simpa using hown) (by omega)
  go_wp2
  go_ret
  refine ⟨g, c', ?_, hg, hbl', by omega, hcm, ((Below.refl _ w).alloc (Nat.le_refl _) _).grown hgrow (by simp) (by intro k hk; simp [Value.ownBlock] at hk; omega)⟩
  simp

theorem below_drewN {B : Nat} {a b : World} (h : Below B a b) (q : Nat) : Below B a (b.drewN q) := ⟨h.os, h.tape, h.output, h.size, h.block⟩

/-- Are two lists the same? -/
def eql (l l2 : List Int) : Bool := decide (l = l2)
theorem eql_yes {l l2 : List Int} (h : l.length = l2.length) (ha : ∀ j, j < l.length → nth l j = nth l2 j) : eql l l2 = true := decide_eq_true (nth_ext h ha)
theorem eql_at {l l2 : List Int} {i : Nat} (h : nth l i ≠ nth l2 i) : eql l l2 = false := decide_eq_false fun e => h (by rw [e])
theorem eql_len {l l2 : List Int} (h : l.length ≠ l2.length) : eql l l2 = false := decide_eq_false fun e => h (by rw [e])

set_option maxHeartbeats 1600000 in
theorem sEqual_any (A : Option Addr) (n c : Nat) (l : List Int) (A2 : Option Addr) (n2 c2 : Nat) (l2 : List Int) (w : World) (h : Sl w A n c l) (h2 : Sl w A2 n2 c2 l2) :
    Calls Try.prog 19 #[.slice A n c, .slice A2 n2 c2] w fun e w' => e = .returned (.bool (eql l l2)) ∧ Below w.heap.size w w' := by
  have hcap := h.le_cap
  have hcl := h.cap_le
  have hcap2 := h2.le_cap
  have hcl2 := h2.cap_le
  by_cases hl : n = n2
  · subst hl
    have ht2 : ((n : Int) != (n : Int)) = false := by simp
    have hln := Lib.hid h.len
    have hln2 := Lib.hid h2.len
    go_enter Try.func19, Try.ntmps19
    go_wp2
    go_loopw [13] (fun i wr => ∃ k q, k ≤ n ∧ i = .int .i64 ((k : Nat) : Int) ∧ Hid (∀ j, j < k → nth l j = nth l2 j) ∧ wr = w.drewN q) (fun i _ => n - (intOf i).toNat)
    case atStart => exact ⟨0, 0, Nat.zero_le _, rfl, Lib.hid fun j h => absurd h (by omega), rfl⟩
    case round =>
      obtain ⟨k, q, hk, rfl, hag, rfl⟩ := hrel
      by_cases hlt : k < n
      · obtain ⟨b, off, rfl, hbl, hc⟩ := h.at_ (by omega)
        obtain ⟨b2, off2, rfl, hbl2, hc2⟩ := h2.at_ (by omega)
        have hcx := hc k hlt
        have hcy := hc2 k hlt
        clear hc hc2
        obtain ⟨x, hx⟩ : ∃ x, nth l k = x := ⟨_, rfl⟩
        obtain ⟨y, hy⟩ : ∃ y, nth l2 k = y := ⟨_, rfl⟩
        rw [hx] at hcx
        rw [hy] at hcy
        replace hx := Lib.hid hx
        replace hy := Lib.hid hy
        have hki : (k : Int) < (n : Int) := by omega
        by_cases hxy : x = y
        · subst hxy
          have ht3 : ((x : Int) != (x : Int)) = false := by simp
          go_wp2
          go_quiet (fail)
          go_wp2
          go_roundw
          case rel => exact ⟨k + 1, _, by omega, by go_num, Lib.hid (fun j h => by
            by_cases e : j = k
            · rw [e, hx.out, hy.out]
            · exact hag.out j (by omega)), rfl⟩
          case measure => simp [intOf]; omega
        · have ht3 : ((x : Int) != (y : Int)) = true := by rw [bne_iff_ne]; omega
          have hf : eql l l2 = false := eql_at (i := k) (by rw [hx.out, hy.out]; exact hxy)
          replace hf := Lib.hid hf
          replace hxy := Lib.hid hxy
          go_wp2
          go_quiet (fail)
          go_wp2
          go_ret
          exact ⟨ret_bool hf.out.symm, below_drewN (below_drewN (Below.refl _ _) _) _⟩
      · have hf : eql l l2 = true := eql_yes (by rw [← hln.out, ← hln2.out]) (fun j hj => hag.out j (by rw [← hln.out] at hj; omega))
        replace hf := Lib.hid hf
        go_wp2
        go_ret
        exact ⟨ret_bool hf.out.symm, below_drewN (Below.refl _ _) _⟩
  · have ht2 : ((n : Int) != (n2 : Int)) = true := by rw [bne_iff_ne]; omega
    have hf : eql l l2 = false := eql_len (by rw [← h.len, ← h2.len]; exact hl)
    replace hl := Lib.hid hl
    rw [hf]
    go_enter Try.func19, Try.ntmps19
    go_wp2
    go_ret
    exact ⟨rfl, Below.refl _ _⟩

/-- Check of the reference says what Check says. -/
def RetC (w : World) (W H M : Int) (P : List Int) (e : Ending) (w' : World) : Prop :=
  (∃ r : Int, e = .returned (.int .i64 r) ∧ (r = 0 ∧ Ras W H M P ∨ r = 1 ∧ ¬ Ras W H M P)) ∧ Below w.heap.size w w'

set_option maxHeartbeats 6400000 in
theorem rCheck_code (W H M : Int) (A : Option Addr) (n c : Nat) (P : List Int) (w : World) (h : Sl w A n c P) :
    Calls Try.prog 17 #[.agg #[.int .i64 W, .int .i64 H, .int .i64 M, .slice A n c]] w (RetC w W H M P) := by
  have hb0 := (Below.refl w.heap.size w).alloc (Nat.le_refl _) (.cells #[.int .i64 W, .int .i64 H, .int .i64 M, .slice A n c] 25)
  have hs := h.alloc (.cells #[.int .i64 W, .int .i64 H, .int .i64 M, .slice A n c] 25)
  have hlen := Lib.hid h.len
  have hcap := h.le_cap
  have hcl := h.cap_le
  clear h
  by_cases d0 : W < 1
  · have hno : Hid (¬ Ras W H M P) := Lib.hid fun hr => by have := hr.1; omega
    go_enter Try.func17, Try.ntmps17
    go_wp2
    go_ret
    exact ⟨⟨1, rfl, .inr ⟨rfl, hno.out⟩⟩, hb0⟩
  have c0 : 1 ≤ W := by omega
  clear d0
  by_cases d1 : 64 < W
  · have hno : Hid (¬ Ras W H M P) := Lib.hid fun hr => by have := hr.1; omega
    go_enter Try.func17, Try.ntmps17
    go_wp2
    go_ret
    exact ⟨⟨1, rfl, .inr ⟨rfl, hno.out⟩⟩, hb0⟩
  have c1 : W ≤ 64 := by omega
  clear d1
  by_cases d2 : H < 1
  · have hno : Hid (¬ Ras W H M P) := Lib.hid fun hr => by have := hr.1; omega
    go_enter Try.func17, Try.ntmps17
    go_wp2
    go_ret
    exact ⟨⟨1, rfl, .inr ⟨rfl, hno.out⟩⟩, hb0⟩
  have c2 : 1 ≤ H := by omega
  clear d2
  by_cases d3 : 64 < H
  · have hno : Hid (¬ Ras W H M P) := Lib.hid fun hr => by have := hr.1; omega
    go_enter Try.func17, Try.ntmps17
    go_wp2
    go_ret
    exact ⟨⟨1, rfl, .inr ⟨rfl, hno.out⟩⟩, hb0⟩
  have c3 : H ≤ 64 := by omega
  clear d3
  by_cases d4 : M < 1
  · have hno : Hid (¬ Ras W H M P) := Lib.hid fun hr => by have := hr.1; omega
    go_enter Try.func17, Try.ntmps17
    go_wp2
    go_ret
    exact ⟨⟨1, rfl, .inr ⟨rfl, hno.out⟩⟩, hb0⟩
  have c4 : 1 ≤ M := by omega
  clear d4
  by_cases d5 : 65535 < M
  · have hno : Hid (¬ Ras W H M P) := Lib.hid fun hr => by have := hr.1; omega
    go_enter Try.func17, Try.ntmps17
    go_wp2
    go_ret
    exact ⟨⟨1, rfl, .inr ⟨rfl, hno.out⟩⟩, hb0⟩
  have c5 : M ≤ 65535 := by omega
  clear d5
  obtain ⟨a1, a2⟩ := area c0 c1 c2 c3
  by_cases hq : ¬ (n : Int) = W * H
  · have hnq : ((n : Int) != W * H) = true := by simp [hq]
    have hno : Hid (¬ Ras W H M P) := Lib.hid fun hr => hq (by rw [hlen.out]; exact hr.2.1)
    clear hq
    go_enter Try.func17, Try.ntmps17
    go_wp2
    go_ret
    exact ⟨⟨1, rfl, .inr ⟨rfl, hno.out⟩⟩, hb0⟩
  replace hq : (n : Int) = W * H := Classical.not_not.1 hq
  have hnq : ((n : Int) != W * H) = false := by simp [hq]
  replace hq := Lib.hid hq
  go_enter Try.func17, Try.ntmps17
  go_wp2
  go_loopw [3] (fun i wr => ∃ k q, k ≤ n ∧ i = .int .i64 ((k : Nat) : Int) ∧ Hid (∀ j, j < k → 0 ≤ nth P j ∧ nth P j ≤ M) ∧ wr = (w.alloc (.cells #[.int .i64 W, .int .i64 H, .int .i64 M, .slice A n c] 25)).drewN q) (fun i _ => n - (intOf i).toNat)
  case atStart => exact ⟨0, 0, Nat.zero_le _, rfl, Lib.hid fun j h => absurd h (by omega), rfl⟩
  case round =>
    obtain ⟨k, q, hk, rfl, hag, rfl⟩ := hrel
    by_cases hlt : k < n
    · obtain ⟨b, off, rfl, hbl, hc⟩ := hs.at_ (by omega)
      have hcx := hc k hlt
      clear hc
      obtain ⟨x, hx⟩ : ∃ x, nth P k = x := ⟨_, rfl⟩
      rw [hx] at hcx
      have hmem : nth P k ∈ P := by rw [nth_eq (by rw [← hlen.out]; exact hlt)]; exact List.getElem_mem _
      have hki : (k : Int) < (n : Int) := by omega
      by_cases hx0 : 0 ≤ x
      · have hd : decide (x < 0) = false := by simp; omega
        by_cases hx1 : x ≤ M
        · have hd2 : decide (M < x) = false := by simp; omega
          replace hx := Lib.hid hx
          have hxx := Lib.hid (And.intro hx0 hx1)
          clear hx0 hx1 hmem
          go_wp2
          go_quiet (fail)
          go_wp2
          go_roundw
          case rel => exact ⟨k + 1, _, by omega, by go_num, Lib.hid (fun j h => by
            by_cases e : j = k
            · rw [e, hx.out]; exact hxx.out
            · exact hag.out j (by omega)), rfl⟩
          case measure => simp [intOf]; omega
        · have hd2 : decide (M < x) = true := by simp; omega
          have hno : Hid (¬ Ras W H M P) := Lib.hid fun hr => by have := hr.2.2 _ hmem; rw [hx] at this; omega
          clear hx0 hx1 hmem hx
          go_wp2
          go_quiet (fail)
          go_wp2
          go_ret
          exact ⟨⟨1, rfl, .inr ⟨rfl, hno.out⟩⟩, by first | exact below_drewN hb0 _ | exact below_drewN (below_drewN hb0 _) _⟩
      · have hd : decide (x < 0) = true := by simp; omega
        have hno : Hid (¬ Ras W H M P) := Lib.hid fun hr => by have := hr.2.2 _ hmem; rw [hx] at this; omega
        clear hx0 hmem hx
        go_wp2
        go_quiet (fail)
        go_wp2
        go_ret
        exact ⟨⟨1, rfl, .inr ⟨rfl, hno.out⟩⟩, by first | exact below_drewN hb0 _ | exact below_drewN (below_drewN hb0 _) _⟩
    · have hyes : Ras W H M P := ⟨⟨⟨c0, c1⟩, ⟨c2, c3⟩, c4, c5⟩, by rw [← hlen.out]; exact hq.out, fun g hg => by
        obtain ⟨i, hi, rfl⟩ := List.mem_iff_getElem.1 hg
        have := hag.out i (by have := hlen.out; omega)
        rw [nth_eq hi] at this
        exact this⟩
      replace hyes := Lib.hid hyes
      go_wp2
      go_ret
      exact ⟨⟨0, rfl, .inl ⟨rfl, hyes.out⟩⟩, by first | exact below_drewN hb0 _ | exact below_drewN (below_drewN hb0 _) _⟩

theorem rCheck_ok {W H M : Int} {A : Option Addr} {n c : Nat} {P : List Int} {w : World} (h : Sl w A n c P) (hr : Ras W H M P) :
    Calls Try.prog 17 #[.agg #[.int .i64 W, .int .i64 H, .int .i64 M, .slice A n c]] w fun e w' => e = .returned (.int .i64 0) ∧ Below w.heap.size w w' :=
  (rCheck_code W H M A n c P w h).mono fun e w' ⟨⟨r, he, hor⟩, hb⟩ => ⟨by
    rcases hor with ⟨h0, _⟩ | ⟨_, h0⟩
    · rw [he, h0]
    · exact absurd hr h0, hb⟩
theorem rCheck_no {W H M : Int} {A : Option Addr} {n c : Nat} {P : List Int} {w : World} (h : Sl w A n c P) (hr : ¬ Ras W H M P) :
    Calls Try.prog 17 #[.agg #[.int .i64 W, .int .i64 H, .int .i64 M, .slice A n c]] w fun e w' => e = .returned (.int .i64 1) ∧ Below w.heap.size w w' :=
  (rCheck_code W H M A n c P w h).mono fun e w' ⟨⟨r, he, hor⟩, hb⟩ => ⟨by
    rcases hor with ⟨_, h0⟩ | ⟨h0, _⟩
    · exact absurd h0 hr
    · rw [he, h0], hb⟩

/-- New of package raster, where it is out of range. -/
theorem New_no (W H M : Int) (w : World) (hf : hfm W H M = false) :
    Calls Try.prog 51 #[.int .i64 W, .int .i64 H, .int .i64 M] w fun e w' => e = .returned (.tuple #[.agg #[.int .i64 0, .int .i64 0, .int .i64 0, .slice none 0 0], .int .i64 2]) ∧ Below w.heap.size w w' := by
  have hcon : Hid (hasFormAt W H M false) := Lib.hid (hf ▸ hasForm_any W H M)
  clear hf
  go_enter Try.func51, Try.ntmps51
  go_wp2_with (go_at_call 75; refine (hcon.out _).mono ?_; rintro e w' ⟨rfl, rfl⟩)
  exact bodyPost_ret (v := .tuple #[.agg #[.int .i64 0, .int .i64 0, .int .i64 0, .slice none 0 0], .int .i64 2]) (by simp [results, Try.results51, go_sem]) rfl ⟨rfl, (Below.refl _ _).alloc (Nat.le_refl _) _⟩

theorem Bl.sl0 {w : World} {g n c : Nat} {P : List Int} (h : Bl w g P) (hn : n = P.length) (hc : n ≤ c) (hcm : c ≤ 9223372036854775807) : Sl w (some ⟨g, 0, none⟩) n c P :=
  ⟨hn, hc, hcm, fun _ => ⟨g, 0, rfl, fun i hi => by rw [Nat.zero_add]; exact h.cell (by omega)⟩⟩

/-- New of package raster: zeros in new memory. -/
theorem New_own (a b : Nat) (M : Int) (w : World) (hf : hfm a b M = true) :
    Calls Try.prog 51 #[.int .i64 a, .int .i64 b, .int .i64 M] w fun e w' =>
      ∃ g, e = .returned (.tuple #[.agg #[.int .i64 a, .int .i64 b, .int .i64 M, .slice (some ⟨g, 0, none⟩) (a * b) (a * b)], .int .i64 0]) ∧ w.heap.size ≤ g ∧ Bl w' g (List.replicate (a * b) 0) ∧ Below w.heap.size w w' := by
  have hcon : Hid (hasFormAt a b M true) := Lib.hid (hf ▸ hasForm_any a b M)
  have hr := hfm_iff.1 hf
  have k0 := RB.new w 0 0 0 none 0 0
  have hbl := Lib.hid (fun W : World => blank_any a b M W (by omega) (by omega) (by omega) (by omega))
  have hab : a * b ≤ 4096 := Nat.mul_le_mul (show a ≤ 64 by omega) (show b ≤ 64 by omega)
  obtain ⟨N, hN⟩ : ∃ n, a * b = n := ⟨_, rfl⟩
  rw [hN] at hbl hab ⊢
  clear hf hr hN
  have hlen : Hid (N = (List.replicate N (0 : Int)).length) := Lib.hid (by simp)
  generalize List.replicate N (0 : Int) = Z at hbl hlen ⊢
  go_enter Try.func51, Try.ntmps51
  go_wp2_with (first | (go_at_call 75; refine (hcon.out _).mono ?_; rintro e w' ⟨rfl, rfl⟩) | (go_at_call 77; refine (hbl.out _).mono ?_; rintro e w1 ⟨g, rfl, hg, hb, hb2⟩; simp only [World.size_alloc] at hg hb2; obtain ⟨⟨d0, d1, d2, d3⟩, f0, f1, f2, f3⟩ := (k0.below hb2 (by omega)).cells))
  refine bodyPost_ret (v := .tuple #[.agg #[.int .i64 a, .int .i64 b, .int .i64 M, .slice (some ⟨g, 0, none⟩) N N], .int .i64 0]) (by simp [results, Try.results51, go_sem, d0, d1, d2, d3, f0, f1, f2, f3]) rfl ?_
  refine ⟨g, rfl, by omega, ?_, ?_⟩
  · repeat (refine Bl.far ?_ (by simp <;> omega) _)
    exact hb
  · repeat (refine Below.setCell ?_ (by simp <;> omega) _)
    exact ((Below.refl _ w).alloc (Nat.le_refl _) _).trans (hb2.mono (by omega))

end Go.Proofs.Ytfkoboljobghkaa
