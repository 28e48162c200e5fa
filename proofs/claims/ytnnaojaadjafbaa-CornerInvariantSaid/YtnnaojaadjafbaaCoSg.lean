/-
  Walk: Scores of the reference.
-/
import Derived.Test.YtnnaojaadjafbaaCoSf
set_option linter.unusedSimpArgs false
set_option linter.unusedVariables false
namespace Go.Proofs.Ytnnaojaadjafbaa
open Go.RowKit

theorem rscore_any (a b : Nat) (M : Int) (bb off n c x y : Nat) (P : List Int) (w : World) (h : Sl w (some ⟨bb, off, none⟩) n c P) (ha1 : 1 ≤ a) (ha2 : a ≤ 64) (hb1 : 1 ≤ b) (hb2 : b ≤ 64) (hn : a * b = n) (hx : x < a) (hy : y < b) (hg : Grey P) {z : Int} (hz : scoreAt a b P (y * a + x) = z) :
    Calls Try.prog 36 #[.agg #[.int .i64 a, .int .i64 b, .int .i64 M, .slice (some ⟨bb, off, none⟩) n c], .int .i64 x, .int .i64 y] w fun e w' => e = .returned (.int .i64 z) ∧ Below w.heap.size w w' := by
  unfold scoreAt at hz
  rw [row_mod hx, row_div hx] at hz
  by_cases hm : Mid a b x y
  · rw [if_pos hm] at hz
    exact rscore_mid a b M bb off n c x y P w h ha2 hb2 hn hm hg hz
  · rw [if_neg hm] at hz
    subst hz
    exact rscore_out a b M bb off n c x y w ha1 ha2 hb1 hb2 hx hy hm

theorem tab_succ (q : Nat) (f : Nat → Int) : tab (q + 1) f = tab q f ++ [f q] := by simp [tab, List.range_succ]

theorem RB.grown' {w w' : World} {g : Nat} {W H M : Int} {A : Option Addr} {n c : Nat} {row : Option Nat} (h : RB w g W H M A n c) (hg : w.grownBy w' row) (hne : row = some g → False) : RB w' g W H M A n c := h.keep (hg.block g h.lt fun e => hne e.symm)
theorem own_sl_int {w : World} {B : Nat} {A : Option Addr} {n c : Nat} {P : List Int} (h : w.ownsRow B 3 1 (.slice A n c) n (cells P)) : Sl w A n c P := by
  have h1 := h.1
  rw [cells_length, Nat.mul_one] at h1
  rcases h.2 with ⟨h2, h0⟩ | ⟨g, cap, cur, h2, hB, hh, hnc, hcm, hcs, htake⟩
  · cases h2
    exact ⟨h1.symm, Nat.le_refl _, by omega, fun h => by omega⟩
  · cases h2
    refine ⟨h1.symm, hnc, by simpa [maxLen] using hcm, fun h0 => ?_⟩
    obtain ⟨g', cap', he, _, hbl, _⟩ := Bl.of_own h h0
    injection he with e1 e2 e3
    injection e1 with e1
    injection e1 with e1
    subst e1
    exact ⟨g, 0, rfl, fun i hi => by rw [Nat.zero_add]; exact hbl.cell (by omega)⟩
theorem own_slI {w : World} {B n : Nat} {v : Value} {xs : List Value} (h : w.ownsRow B 3 1 v n xs) : ∃ A c, v = .slice A n c := by
  rcases h.2 with ⟨h2, h0⟩ | ⟨g, cap, cur, h2, hB, -⟩
  · exact ⟨none, 0, by rw [h2, h0]⟩
  · exact ⟨_, cap, h2⟩

/-- Numbers that the call returns, in memory of its own, and a code. -/
def RetN (w : World) (l : List Int) (code : Int) (e : Ending) (w' : World) : Prop :=
  ∃ A c, e = .returned (.tuple #[.slice A l.length c, .int .i64 code]) ∧ Sl w' A l.length c l ∧ Below w.heap.size w w'

theorem rScores_no (W H M : Int) (A : Option Addr) (n c : Nat) (P : List Int) (w : World) (h : Sl w A n c P) {r : Int} (hr : AskR W H M P r) (hr0 : r ≠ 0) :
    Calls Try.prog 14 #[.agg #[.int .i64 W, .int .i64 H, .int .i64 M, .slice A n c]] w fun e w' => e = .returned (.tuple #[.slice none 0 0, .int .i64 r]) ∧ Below w.heap.size w w' := by
  have hb0 := (Below.refl w.heap.size w).alloc (Nat.le_refl _) (.cells #[.int .i64 W, .int .i64 H, .int .i64 M, .slice A n c] 24)
  have hs := h.alloc (.cells #[.int .i64 W, .int .i64 H, .int .i64 M, .slice A n c] 24)
  have hc := Lib.hid (Asked_any W H M A n c P _ hs hr)
  have hne : (r != 0) = true := by simp [hr0]
  replace hr := Lib.hid hr
  replace hr0 := Lib.hid hr0
  clear h hs
  go_enter Try.func14, Try.ntmps14
  go_wp2_with (go_at_call 26; refine (hc.out).mono ?_; rintro e w1 ⟨rfl, hb1⟩)
  exact bodyPost_ret (v := .tuple #[.slice none 0 0, .int .i64 r]) (by simp [results, Try.results14, go_sem]) rfl ⟨rfl, hb0.trans (hb1.mono (by simp))⟩

set_option maxRecDepth 100000 in
set_option maxHeartbeats 3200000 in
theorem rScores_ok (W H M : Int) (A : Option Addr) (n c : Nat) (P : List Int) (w : World) (h : Sl w A n c P) (hr : Scr W H M P) :
    Calls Try.prog 14 #[.agg #[.int .i64 W, .int .i64 H, .int .i64 M, .slice A n c]] w (RetN w (scoresL W.toNat H.toNat P) 0) := by
  have hb0 := (Below.refl w.heap.size w).alloc (Nat.le_refl _) (.cells #[.int .i64 W, .int .i64 H, .int .i64 M, .slice A n c] 24)
  have hs := h.alloc (.cells #[.int .i64 W, .int .i64 H, .int .i64 M, .slice A n c] 24)
  have k0 := RB.new w W H M A n c
  have hc := Lib.hid (Asked_any W H M A n c P _ hs (.inr (.inr ⟨rfl, hr⟩)))
  obtain ⟨hr, hM⟩ := hr
  have hg : Grey P := fun g hg => by have := hr.2.2 g hg; omega
  obtain ⟨a, b, rfl, rfl, ⟨ha1, ha2⟩, ⟨hb1, hb2⟩, ⟨hM1, hM2⟩, hab, hl1, hl2⟩ := hr.nat
  obtain ⟨bb, off, rfl, hbbw, -⟩ := h.at_ (by rw [h.len]; exact hl2)
  simp only [Int.toNat_natCast]
  have hnab : a * b = n := by rw [h.len, hab]
  have hn4 : n ≤ 4096 := by rw [← hnab]; exact Nat.mul_le_mul ha2 hb2
  replace hr := Lib.hid hr
  replace hs := Lib.hid hs
  replace hg := Lib.hid hg
  replace hnab := Lib.hid hnab
  clear h hl1 hl2 hab
  go_enter Try.func14, Try.ntmps14
  go_wp2_with (go_at_call 26; refine (hc.out).mono ?_; rintro e w1 ⟨rfl, hb3⟩; have k1 := k0.below hb3 (by simp); obtain ⟨⟨d0, d1, d2, d3⟩, f0, f1, f2, f3⟩ := k1.cells)
  have hz1 := hb3.size
  simp only [World.size_alloc] at hz1
  have hs1 := (hs.out.below hb3 (Nat.le_refl _)).alloc (.cells #[] 3)
  have k2 := k1.alloc (.cells #[] 3)
  have hB1 := (hb0.trans (hb3.mono (by simp))).alloc (by omega) (.cells #[] 3)
  have hown0 : (w1.alloc (.cells #[] 3)).ownsRow (w.heap.size + 1) 3 1 (.slice (some ⟨w1.heap.size, 0, none⟩) 0 0) 0 (cells (tab 0 (scoreAt a b P))) := World.ownsRow_made w1 #[] 0 (by omega) (Nat.zero_le _) rfl
  go_loopw [5, 6] (fun v i wr => ∃ (y q : Nat), y ≤ b ∧ i = .int .i64 (y : Int) ∧ Hid (q = y * a) ∧ wr.ownsRow (w.heap.size + 1) 3 1 v q (cells (tab q (scoreAt a b P))) ∧ RB wr w.heap.size a b M (some ⟨bb, off, none⟩) n c ∧ Sl wr (some ⟨bb, off, none⟩) n c P ∧ Below w.heap.size w wr ∧ w.heap.size < wr.heap.size) (fun _ i _ => b - (intOf i).toNat)
  case atStart => exact ⟨0, 0, Nat.zero_le _, rfl, Lib.hid (Nat.zero_mul _).symm, hown0, k2, hs1, hB1, by simp; omega⟩
  case round =>
    clear k0 k1 k2 hs1 hB1 hown0 d0 d1 d2 d3 f0 f1 f2 f3
    obtain ⟨y, q, hy, rfl, hq, hown, k0, hs1, hB, hz⟩ := hrel
    obtain ⟨⟨d0, d1, d2, d3⟩, f0, f1, f2, f3⟩ := k0.cells
    by_cases hlt : y < b
    · have hji : (y : Int) < (b : Int) := by omega
      go_wp2
      obtain ⟨wo, rfl⟩ : ∃ wo, wo = wr := ⟨_, rfl⟩
      go_loopw [5, 7] (fun v i wr => ∃ (x q : Nat), x ≤ a ∧ i = .int .i64 (x : Int) ∧ Hid (q = y * a + x) ∧ wr.ownsRow (w.heap.size + 1) 3 1 v q (cells (tab q (scoreAt a b P))) ∧ RB wr w.heap.size a b M (some ⟨bb, off, none⟩) n c ∧ Sl wr (some ⟨bb, off, none⟩) n c P ∧ Below w.heap.size w wr ∧ w.heap.size < wr.heap.size) (fun _ i _ => a - (intOf i).toNat)
      case atStart => exact ⟨0, q, Nat.zero_le _, rfl, Lib.hid (by rw [hq.out]; rfl), hown, k0, hs1, hB, hz⟩
      case round =>
        clear k0 hs1 hB hz hown hq d0 d1 d2 d3 f0 f1 f2 f3
        obtain ⟨x, q, hx, rfl, hq, hown, k0, hs1, hB, hz⟩ := hrel
        obtain ⟨⟨d0, d1, d2, d3⟩, f0, f1, f2, f3⟩ := k0.cells
        by_cases hltx : x < a
        · have hii : (x : Int) < (a : Int) := by omega
          have hql : q < n := by rw [hq.out, ← hnab.out, Nat.mul_comm a b]; exact row_lt hlt hltx
          obtain ⟨z, hz0⟩ : ∃ z, scoreAt a b P q = z := ⟨_, rfl⟩
          have hcall := Lib.hid (rscore_any a b M bb off n c x y P wr hs1 ha1 ha2 hb1 hb2 hnab.out hltx hlt hg.out (z := z) (by rw [← hq.out]; exact hz0))
          have htab : Hid (cells (tab (q + 1) (scoreAt a b P)) = cells (tab q (scoreAt a b P)) ++ cells [z]) := Lib.hid (by rw [tab_succ, hz0, cells_append])
          obtain ⟨A3, c3, rfl⟩ := own_slI hown
          obtain ⟨i0, hi, hz00, hz01, hz02⟩ := info_parts infoI
          replace hz0 := Lib.hid hz0
          go_wp2_with (first | (go_at_call 36; refine (hcall.out).mono ?_; rintro e w4 ⟨rfl, hb4⟩) | (at_builtin; refine wpList_append_own _ rfl _ _ 22 rfl (w.heap.size + 1) 3 i0 (.int .i64 0) 1 8 Try.underlying22 hi hz00 hz01 hz02 rfl (by decide) _ _ _ rfl ((own_bel hown hb4).alloc _) ⟨w4.heap.size, 0, none⟩ 1 1 (cells [z]) rfl rfl ?qc2 cells_one ?qc4 ?qc5 ?qc6 ?_))
          case qc2 =>
            intro j u hj
            rw [Addr.add_lit, Nat.zero_add, cell_of_row _ w4.heap.size j _ _ _ (heap_alloc_new w4 _)]
            rw [← List.getElem?_toArray] at hj
            exact hj
          case qc4 => unfold maxLen; omega
          case qc5 => omega
          case qc6 => have := hb4.size; simp; omega
          intro v' w5 hown5 hgrow hnil
          have hz4 := hb4.size
          have hownx := own_bel hown hb4
          have hlt4 := World.ownsRow.lt hownx
          have hB5 : Below w.heap.size w w5 := ((hB.trans (hb4.mono hB.size)).alloc (by omega) _).grown hgrow (by simp; omega) (fun q hq => by have := (hlt4 q hq).1; omega)
          have hk5 := (((k0.below hb4 k0.lt).alloc _).grown' hgrow (fun e => by have := (hlt4 _ e).1; omega))
          have hs5 : Sl w5 (some ⟨bb, off, none⟩) n c P := hs1.keep fun h0 b' j ⟨off', e⟩ hlt' => by
            cases e
            refine World.cell?_of_block ((hgrow.block bb (by simp; omega) (fun e => by have := (hlt4 _ e.symm).1; omega)).trans ?_)
            exact (Below.heap_alloc w4 _ bb (by omega)).trans (hb4.block bb hlt')
          have hz5 := hgrow.size
          simp only [World.size_alloc] at hz5
          go_wp2
          go_roundw
          case rel => exact ⟨x + 1, q + 1, hltx, by go_num, Lib.hid (by rw [hq.out]; omega), by rw [htab.out]; exact hown5, hk5, hs5, hB5, by omega⟩
          case measure => simp [intOf]; omega
        · obtain rfl : x = a := by omega
          have hii : ¬ (x : Int) < (x : Int) := by omega
          go_wp2
          go_roundw
          case rel => exact ⟨y + 1, q, hlt, by go_num, Lib.hid (by rw [hq.out, Nat.add_mul, Nat.one_mul]), hown, k0, hs1, hB, hz⟩
          case measure => simp [intOf]; omega
    · obtain rfl : y = b := by omega
      have hji : ¬ (y : Int) < (y : Int) := by omega
      obtain ⟨A3, c3, rfl⟩ := own_slI hown
      have hqn : Hid (q = (scoresL a y P).length) := Lib.hid (by rw [scoresL, tab_length, hq.out, Nat.mul_comm])
      have hfin : Hid (tab q (scoreAt a y P) = scoresL a y P) := Lib.hid (by rw [scoresL, hq.out, Nat.mul_comm])
      go_wp2
      refine bodyPost_ret (v := .tuple #[.slice A3 q c3, .int .i64 0]) (by simp [results, Try.results14, go_sem]) rfl ⟨A3, c3, by rw [← hqn.out], ?_, hB⟩
      have := own_sl_int hown
      rw [hfin.out] at this
      rw [← hqn.out]
      exact this

end Go.Proofs.Ytnnaojaadjafbaa
