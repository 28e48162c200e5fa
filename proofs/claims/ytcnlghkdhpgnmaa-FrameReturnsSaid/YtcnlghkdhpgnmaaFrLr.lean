/-
  Walk: residuals of the law.
-/
import Derived.Test.YtcnlghkdhpgnmaaFrLp
import Derived.Test.YtcnlghkdhpgnmaaFrRe
import Derived.Test.YtcnlghkdhpgnmaaFrAp
set_option linter.unusedSimpArgs false
set_option linter.unusedVariables false
namespace Go.Proofs.Ytcnlghkdhpgnmaa
open Go.RowKit

/-- A block of one cell that has just been made. -/
theorem new_one (w : World) (t : TypeId) (x : Value) (g : Nat) (hg : g = w.heap.size) : ∀ j u, ([x] : List Value)[j]? = some u → (w.alloc (.cells #[x] t)).cell? ((⟨g, 0, none⟩ : Addr).add j) = some u := by
  subst hg
  intro j u hj
  rw [Addr.add_lit, Nat.zero_add, cell_of_row _ _ j _ _ _ (heap_alloc_new w _), List.getElem?_toArray]
  exact hj

set_option maxHeartbeats 6400000 in
set_option maxRecDepth 100000 in
theorem lresiduals_bl (W H : Nat) (M : Int) (A : Option Addr) (n c : Nat) (P : List Int) (w : World) (h : Sl w A n c P) (hr : Ras W H M P) :
    Calls Try.prog 20 #[.agg #[.int .i64 (W : Int), .int .i64 (H : Int), .int .i64 M, .slice A n c]] w fun e w' =>
      ∃ g c2, e = .returned (.slice (some ⟨g, 0, none⟩) n c2) ∧ Bl w' g (residuals W M P) ∧ n ≤ c2 ∧ c2 ≤ 9223372036854775807 ∧ w.heap.size ≤ g ∧ Below w.heap.size w w' := by
  obtain ⟨⟨⟨w1, w2⟩, ⟨h1, h2⟩, m1, m2⟩, har, hP⟩ := hr
  obtain ⟨i0, hi, hz0, hz1, hz2⟩ := info_parts infoI
  have hlen := h.len
  have hWH : H * W = n := by
    have : ((H * W : Nat) : Int) = (n : Int) := by rw [hlen, har]; simp [Int.mul_comm]
    omega
  have hn : n ≤ 4096 := by
    have : H * W ≤ 64 * 64 := Nat.mul_le_mul (by omega) (by omega)
    omega
  have hn0 : 0 < n := by
    have : 1 * 1 ≤ H * W := Nat.mul_le_mul (by omega) (by omega)
    omega
  have hP' : ∀ g ∈ P, 0 ≤ g ∧ g ≤ 65535 := fun g hg => by have := hP g hg; omega
  have hcap := h.le_cap
  have hcl := h.cap_le
  obtain ⟨b, off, rfl, hbw, -⟩ := h.at_ hn0
  have hRl : Hid ((residuals W M P).length = n) := Lib.hid (by rw [residuals_length]; exact hlen.symm)
  have hRn : Hid (∀ i, i < n → nth (residuals W M P) i = residI W M P i) := Lib.hid (fun i hi => nth_residuals (by rw [← hlen]; exact hi))
  have hrng : Hid (∀ i, 0 ≤ predI W P i ∧ predI W P i ≤ M) := Lib.hid (fun i => predI_range hP (by omega))
  generalize hR : residuals W M P = R at hRl hRn ⊢
  have hfr := (RB.new w W H M (some ⟨b, off, none⟩) n c).alloc (.cells #[] 3)
  have hb0 := ((Below.refl w.heap.size w).alloc (Nat.le_refl _) (.cells #[.int .i64 (W : Int), .int .i64 (H : Int), .int .i64 M, .slice (some ⟨b, off, none⟩) n c] 25)).alloc (by simp) (.cells #[] 3)
  have how0 : (((w.alloc (.cells #[.int .i64 (W : Int), .int .i64 (H : Int), .int .i64 M, .slice (some ⟨b, off, none⟩) n c] 25))).alloc (.cells #[] 3)).ownsRow (w.heap.size + 1) 3 1 (.slice (some ⟨w.heap.size + 1, 0, none⟩) 0 0) 0 [] := by
    have := World.ownsRow_lit (base := w.heap.size + 1) (e := 3) (size := 1) (w.alloc (.cells #[.int .i64 (W : Int), .int .i64 (H : Int), .int .i64 M, .slice (some ⟨b, off, none⟩) n c] 25)) #[] 0 (by simp) (by decide) rfl
    simpa using this
  have hslr : Hid (∀ w', Below w.heap.size w w' → Sl w' (some ⟨b, off, none⟩) n c P) := Lib.hid (fun w' hb => h.below hb (Nat.le_refl _))
  replace hP := Lib.hid hP
  replace hP' := Lib.hid hP'
  replace hlen := Lib.hid hlen
  replace hWH := Lib.hid hWH
  clear har hR h
  go_enter Try.func20, Try.ntmps20
  go_wp2
  go_loopw [3, 14] (fun ov yo wr => ∃ (y : Nat), y ≤ H ∧ yo = .int .i64 (y : Int) ∧ wr.ownsRow (w.heap.size + 1) 3 1 ov (y * W) (cells (R.take (y * W))) ∧ RB wr w.heap.size W H M (some ⟨b, off, none⟩) n c ∧ Below w.heap.size w wr) (fun _ yo _ => H - (intOf yo).toNat)
  case atStart => exact ⟨0, Nat.zero_le _, rfl, by rw [Nat.zero_mul]; exact how0, hfr, hb0⟩
  case round =>
    obtain ⟨y, hy, rfl, hown, hRB, hW⟩ := hrel
    obtain ⟨⟨d0, d1, d2, d3⟩, f0, f1, f2, f3⟩ := hRB.cells
    by_cases hly : y < H
    · obtain ⟨q, hq⟩ : ∃ q, y * W = q := ⟨_, rfl⟩
      have hqn : q + W ≤ n := by
        rw [← hWH.out, ← hq, ← Nat.succ_mul]; exact Nat.mul_le_mul_right _ hly
      have hq1 : Hid ((y + 1) * W = q + W) := Lib.hid (by rw [Nat.succ_mul, hq])
      have hqi : (y : Int) * (W : Int) = (q : Int) := by rw [← hq]; simp
      rw [hq] at hown
      replace hq := Lib.hid hq
      go_wp2
      go_loopw [3, 19] (fun ov xo wr => ∃ (x : Nat), x ≤ W ∧ xo = .int .i64 (x : Int) ∧ wr.ownsRow (w.heap.size + 1) 3 1 ov (q + x) (cells (R.take (q + x))) ∧ RB wr w.heap.size W H M (some ⟨b, off, none⟩) n c ∧ Below w.heap.size w wr) (fun _ xo _ => W - (intOf xo).toNat)
      case atStart => exact ⟨0, Nat.zero_le _, rfl, hown, hRB, hW⟩
      case round =>
        clear hown hRB hW d0 d1 d2 d3 f0 f1 f2 f3
        obtain ⟨x, hx, rfl, hown, hRB, hW⟩ := hrel
        obtain ⟨⟨d0, d1, d2, d3⟩, f0, f1, f2, f3⟩ := hRB.cells
        by_cases hlx : x < W
        · obtain ⟨k, hk⟩ : ∃ k, q + x = k := ⟨_, rfl⟩
          have hlk : k < n := by omega
          obtain ⟨b', off', e', hbw', hc⟩ := (hslr.out _ hW).at_ (by omega)
          cases e'
          have hcell := hc k hlk
          clear hc
          obtain ⟨p, hp⟩ : ∃ p, predI W P k = p := ⟨_, rfl⟩
          have hrng1 := hrng.out k
          rw [hp] at hrng1
          obtain ⟨y1, hy1⟩ : ∃ y, nth P k = y := ⟨_, rfl⟩
          rw [hy1] at hcell
          have hkl : k < P.length := by rw [← hlen.out]; exact hlk
          have hym : 0 ≤ y1 ∧ y1 ≤ M := by
            rw [← hy1, nth_eq hkl]; exact hP.out _ (List.getElem_mem hkl)
          have hpc := Lib.hid (fun j => lpred_any W x y q (some ⟨b, off, none⟩) n c P (wr.drewN j) ((hslr.out _ hW).drewN j) (by omega) (by omega) hlx hq.out (by omega) hn hP'.out (hk ▸ hp) rfl rfl)
          have hne : M + 1 ≠ 0 := by omega
          have ht : (y1 - p + (M + 1)).tmod (M + 1) = (y1 - p + (M + 1)) % (M + 1) := Int.tmod_eq_emod_of_nonneg (by omega)
          obtain ⟨d, hd⟩ : ∃ d, (y1 - p + (M + 1)) % (M + 1) = d := ⟨_, rfl⟩
          have hdr : 0 ≤ d ∧ d < M + 1 := by rw [← hd]; exact ⟨Int.emod_nonneg _ hne, Int.emod_lt_of_pos _ (by omega)⟩
          have hval : Hid (nth R (q + x) = resid d (M + 1)) := Lib.hid (by rw [hk, hRn.out k hlk]; unfold residI; rw [hy1, hp, hd])
          have hstep : Hid (R.take (q + (x + 1)) = R.take (q + x) ++ [nth R (q + x)]) := Lib.hid (by rw [← Nat.add_assoc, take_succ_nth (by rw [hRl.out]; omega)])
          rw [hd] at ht
          have hwC : IntKind.i64.wrap (q : Int) = (q : Int) := IntWalk.i64_in _ (by omega)
          have hwD : IntKind.i64.wrap ((q : Int) + (x : Int)) = (k : Int) := by rw [IntWalk.i64_in _ (by omega)]; omega
          have hwE : IntKind.i64.wrap (y1 - p) = y1 - p := IntWalk.i64_in _ (by omega)
          have hwF : IntKind.i64.wrap (y1 - p + (M + 1)) = y1 - p + (M + 1) := IntWalk.i64_in _ (by omega)
          have hwG : IntKind.i64.wrap d = d := IntWalk.i64_in _ (by omega)
          replace hy1 := Lib.hid hy1
          replace hp := Lib.hid hp
          replace hk := Lib.hid hk
          replace hkl := Lib.hid hkl
          clear hd
          go_wp2
          go_quiet ((go_at_call 56; refine Calls.quiet_of (hpc.out _)))
          by_cases c1 : M + 1 < 2 * d
          · skip
            go_wp2_with (at_builtin; refine wpList_append_own _ rfl _ _ 23 rfl (w.heap.size + 1) 3 i0 (.int .i64 0) 1 8 Try.underlying23 hi hz0 hz1 hz2 rfl (by decide) _ _ _ rfl (World.ownsRow.alloc (w := wr.drewN _) hown _) ⟨wr.heap.size, 0, none⟩ 1 1 [.int .i64 (-2 * (d - (M + 1)))] rfl rfl (new_one _ _ _ _ rfl) ?qc3 ?qc4 ?qc5 ?qc6 ?_)
            case qc3 => first | rfl | (intro u hu; simp at hu; subst hu; rfl)
            case qc4 => unfold maxLen; omega
            case qc5 => omega
            case qc6 => first | (show w.heap.size + 1 ≤ (wr.alloc _).heap.size; simp; have := hRB.lt; omega) | (have := hRB.lt; omega)
            intro v' w6 hown6 hgr6 hnil6
            have hv : Hid (nth R (q + x) = -2 * (d - (M + 1))) := Lib.hid (by rw [hval.out]; unfold resid; first | (rw [if_pos (by omega), if_neg (by omega)]) | (rw [if_neg (by omega), if_pos (by omega)]) | (rw [if_neg (by omega), if_neg (by omega)]))
            have hol := fun k hk => (World.ownsRow.lt hown k hk).1
            have hW6 : Below w.heap.size w w6 := ((below_drewN hW _).alloc hW.size _).grown hgr6 (by show w.heap.size ≤ (wr.alloc _).heap.size; simp; have := hRB.lt; omega) (fun k hk => by have := hol k hk; omega)
            have hRB6 : RB w6 w.heap.size W H M (some ⟨b, off, none⟩) n c := RB.keep ((hRB.drewN _).alloc _) (hgr6.block w.heap.size (by show w.heap.size < (wr.alloc _).heap.size; simp; have := hRB.lt; omega) (fun e => by have := hol _ e.symm; omega))
            go_wp2
            refine ⟨⟨x + 1, hlx, by go_num, ?_, hRB6, hW6⟩, by simp [intOf]; omega⟩
            rw [hstep.out, hv.out, cells_append]
            exact hown6
          · by_cases c2 : 0 < d
            · skip
              go_wp2_with (at_builtin; refine wpList_append_own _ rfl _ _ 23 rfl (w.heap.size + 1) 3 i0 (.int .i64 0) 1 8 Try.underlying23 hi hz0 hz1 hz2 rfl (by decide) _ _ _ rfl (World.ownsRow.alloc (w := wr.drewN _) hown _) ⟨wr.heap.size, 0, none⟩ 1 1 [.int .i64 (2 * d - 1)] rfl rfl (new_one _ _ _ _ rfl) ?qc3 ?qc4 ?qc5 ?qc6 ?_)
              case qc3 => first | rfl | (intro u hu; simp at hu; subst hu; rfl)
              case qc4 => unfold maxLen; omega
              case qc5 => omega
              case qc6 => first | (show w.heap.size + 1 ≤ (wr.alloc _).heap.size; simp; have := hRB.lt; omega) | (have := hRB.lt; omega)
              intro v' w6 hown6 hgr6 hnil6
              have hv : Hid (nth R (q + x) = 2 * d - 1) := Lib.hid (by rw [hval.out]; unfold resid; first | (rw [if_pos (by omega), if_neg (by omega)]) | (rw [if_neg (by omega), if_pos (by omega)]) | (rw [if_neg (by omega), if_neg (by omega)]))
              have hol := fun k hk => (World.ownsRow.lt hown k hk).1
              have hW6 : Below w.heap.size w w6 := ((below_drewN hW _).alloc hW.size _).grown hgr6 (by show w.heap.size ≤ (wr.alloc _).heap.size; simp; have := hRB.lt; omega) (fun k hk => by have := hol k hk; omega)
              have hRB6 : RB w6 w.heap.size W H M (some ⟨b, off, none⟩) n c := RB.keep ((hRB.drewN _).alloc _) (hgr6.block w.heap.size (by show w.heap.size < (wr.alloc _).heap.size; simp; have := hRB.lt; omega) (fun e => by have := hol _ e.symm; omega))
              go_wp2
              refine ⟨⟨x + 1, hlx, by go_num, ?_, hRB6, hW6⟩, by simp [intOf]; omega⟩
              rw [hstep.out, hv.out, cells_append]
              exact hown6
            · skip
              go_wp2_with (at_builtin; refine wpList_append_own _ rfl _ _ 23 rfl (w.heap.size + 1) 3 i0 (.int .i64 0) 1 8 Try.underlying23 hi hz0 hz1 hz2 rfl (by decide) _ _ _ rfl (World.ownsRow.alloc (w := wr.drewN _) hown _) ⟨wr.heap.size, 0, none⟩ 1 1 [.int .i64 (-2 * d)] rfl rfl (new_one _ _ _ _ rfl) ?qc3 ?qc4 ?qc5 ?qc6 ?_)
              case qc3 => first | rfl | (intro u hu; simp at hu; subst hu; rfl)
              case qc4 => unfold maxLen; omega
              case qc5 => omega
              case qc6 => first | (show w.heap.size + 1 ≤ (wr.alloc _).heap.size; simp; have := hRB.lt; omega) | (have := hRB.lt; omega)
              intro v' w6 hown6 hgr6 hnil6
              have hv : Hid (nth R (q + x) = -2 * d) := Lib.hid (by rw [hval.out]; unfold resid; first | (rw [if_pos (by omega), if_neg (by omega)]) | (rw [if_neg (by omega), if_pos (by omega)]) | (rw [if_neg (by omega), if_neg (by omega)]))
              have hol := fun k hk => (World.ownsRow.lt hown k hk).1
              have hW6 : Below w.heap.size w w6 := ((below_drewN hW _).alloc hW.size _).grown hgr6 (by show w.heap.size ≤ (wr.alloc _).heap.size; simp; have := hRB.lt; omega) (fun k hk => by have := hol k hk; omega)
              have hRB6 : RB w6 w.heap.size W H M (some ⟨b, off, none⟩) n c := RB.keep ((hRB.drewN _).alloc _) (hgr6.block w.heap.size (by show w.heap.size < (wr.alloc _).heap.size; simp; have := hRB.lt; omega) (fun e => by have := hol _ e.symm; omega))
              go_wp2
              refine ⟨⟨x + 1, hlx, by go_num, ?_, hRB6, hW6⟩, by simp [intOf]; omega⟩
              rw [hstep.out, hv.out, cells_append]
              exact hown6
        · obtain rfl : x = W := by omega
          go_wp2
          refine ⟨⟨y + 1, hly, by go_num, ?_, hRB, hW⟩, by simp [intOf]; omega⟩
          rw [hq1.out]; exact hown
    · obtain rfl : y = H := by omega
      rw [hWH.out, List.take_of_length_le (by rw [hRl.out]; exact Nat.le_refl _)] at hown
      obtain ⟨g, c2, rfl, hg, hbl, hnc, hcm, hRl2⟩ := Bl.of_own hown hn0
      go_wp2
      go_ret
      exact ⟨g, c2, rfl, hbl, hnc, hcm, by omega, hW⟩

theorem lresiduals_any (W H : Nat) (M : Int) (A : Option Addr) (n c : Nat) (P : List Int) (w : World) (h : Sl w A n c P) (hr : Ras W H M P) :
    Calls Try.prog 20 #[.agg #[.int .i64 (W : Int), .int .i64 (H : Int), .int .i64 M, .slice A n c]] w fun e w' =>
      ∃ g c2, e = .returned (.slice (some ⟨g, 0, none⟩) n c2) ∧ Sl w' (some ⟨g, 0, none⟩) n c2 (residuals W M P) ∧ w.heap.size ≤ g ∧ Below w.heap.size w w' :=
  (lresiduals_bl W H M A n c P w h hr).mono fun e w' ⟨g, c2, he, hb, h1, h2, h3, h4⟩ => ⟨g, c2, he, hb.sl0 (by rw [residuals_length]; exact h.len) h1 h2, h3, h4⟩

end Go.Proofs.Ytcnlghkdhpgnmaa
