/-
  Walk: restored of the law.
-/
import Derived.Test.YtcnlghkdhpgnmaaFrLr
import Derived.Test.YtcnlghkdhpgnmaaFrMa
import Derived.Test.YtcnlghkdhpgnmaaFrRf
import Derived.Deep.AppendLies
import Derived.Deep.RegionLaw
set_option linter.unusedSimpArgs false
set_option linter.unusedVariables false
namespace Go.Proofs.Ytcnlghkdhpgnmaa
open Go.RowKit

theorem rest_take (W : Nat) (M : Int) (l : List Int) {k : Nat} (hk : k < l.length) : rest W M (l.take (k + 1)) = rest W M (l.take k) ++ [(predI W (rest W M (l.take k)) k + diffI (nth l k) + (M + 1)) % (M + 1)] := by
  rw [take_succ_nth hk, rest_snoc, rest_length W M k _ (by rw [List.length_take]; omega)]

/-- The zero raster's box is filled from the other one. -/
theorem RB.loaded {w : World} {g n c : Nat} {W H M : Int} {A : Option Addr} (h : RB w g W H M A n c) :
    w.cell? ⟨g, 0, none⟩ = some (.int .i64 W) ∧ w.cell? ⟨g, 1, none⟩ = some (.int .i64 H) ∧ w.cell? ⟨g, 2, none⟩ = some (.int .i64 M) ∧ w.cell? ⟨g, 3, none⟩ = some (.slice A n c) := h.cells.1

set_option maxHeartbeats 6400000 in
set_option maxRecDepth 100000 in
theorem lrestored_any (W : Nat) (H M : Int) (A : Option Addr) (n c : Nat) (l : List Int) (w : World) (h : Sl w A n c l) (hW : 1 ≤ W) (hW2 : W ≤ 64) (hM : 1 ≤ M) (hM2 : M ≤ 65535) (hn : n ≤ 4096) (hn0 : 0 < n) (hl : ∀ v ∈ l, 0 ≤ v ∧ v ≤ M) :
    Calls Try.prog 24 #[.int .i64 (W : Int), .int .i64 H, .int .i64 M, .slice A n c] w fun e w' =>
      ∃ g c2, e = .returned (.agg #[.int .i64 (W : Int), .int .i64 H, .int .i64 M, .slice (some ⟨g, 0, none⟩) n c2]) ∧ Sl w' (some ⟨g, 0, none⟩) n c2 (rest W M l) ∧ Below w.heap.size w w' := by
  obtain ⟨i0, hi, hz0, hz1, hz2⟩ := info_parts infoI
  have hlen := h.len
  have hcap := h.le_cap
  have hcl := h.cap_le
  obtain ⟨b, off, rfl, hbw, -⟩ := h.at_ hn0
  have hslr : Hid (∀ w', Below w.heap.size w w' → Sl w' (some ⟨b, off, none⟩) n c l) := Lib.hid (fun w' hb => h.below hb (Nat.le_refl _))
  have hrt : Hid (∀ k, k < n → rest W M (l.take (k + 1)) = rest W M (l.take k) ++ [(predI W (rest W M (l.take k)) k + diffI (nth l k) + (M + 1)) % (M + 1)]) := Lib.hid (fun k hk => rest_take W M l (by omega))
  have hrl : Hid (∀ k, k ≤ n → (rest W M (l.take k)).length = k) := Lib.hid (fun k hk => rest_length W M k _ (by rw [List.length_take]; omega))
  have hrr : Hid (∀ k, ∀ g ∈ rest W M (l.take k), 0 ≤ g ∧ g ≤ M) := Lib.hid (fun k => rest_range hW (by omega))
  have hfin : Hid (rest W M (l.take n) = rest W M l) := Lib.hid (by rw [List.take_of_length_le (by omega)])
  have how0 : ((w.alloc (.cells #[.int .i64 0, .int .i64 0, .int .i64 0, .slice none 0 0] 25)).alloc (.cells #[] 3)).ownsRow (w.heap.size + 1) 3 1 (.slice (some ⟨w.heap.size + 1, 0, none⟩) 0 0) 0 [] := by
    have := World.ownsRow_lit (base := w.heap.size + 1) (e := 3) (size := 1) (w.alloc (.cells #[.int .i64 0, .int .i64 0, .int .i64 0, .slice none 0 0] 25)) #[] 0 (by simp) (by decide) rfl
    simpa using this
  have hb0 := ((Below.refl w.heap.size w).alloc (Nat.le_refl _) (.cells #[.int .i64 0, .int .i64 0, .int .i64 0, .slice none 0 0] 25)).alloc (by simp) (.cells #[] 3)
  have hz := (RB.new w 0 0 0 none 0 0).alloc (.cells #[] 3)
  replace hl := Lib.hid hl
  replace hlen := Lib.hid hlen
  clear h
  go_enter Try.func24, Try.ntmps24
  go_wp2
  have hbx : RB (((w.alloc (.cells #[.int .i64 0, .int .i64 0, .int .i64 0, .slice none 0 0] 25)).alloc (.cells #[] 3)).alloc (.cells #[.int .i64 (W : Int), .int .i64 H, .int .i64 M, .slice (some ⟨w.heap.size + 1, 0, none⟩) 0 0] 25)) (w.heap.size + 1 + 1) W H M (some ⟨w.heap.size + 1, 0, none⟩) 0 0 := by
    have := RB.new ((w.alloc (.cells #[.int .i64 0, .int .i64 0, .int .i64 0, .slice none 0 0] 25)).alloc (.cells #[] 3)) W H M (some ⟨w.heap.size + 1, 0, none⟩) 0 0
    simpa using this
  go_loopw [23] (fun io wr => ∃ (k g c2 : Nat), k ≤ n ∧ io = .int .i64 (k : Int) ∧ RB wr (w.heap.size + 1 + 1) W H M (some ⟨g, 0, none⟩) k c2 ∧ wr.ownsRow (w.heap.size + 1) 3 1 (.slice (some ⟨g, 0, none⟩) k c2) k (cells (rest W M (l.take k))) ∧ g ≠ w.heap.size + 1 + 1 ∧ RB wr w.heap.size 0 0 0 none 0 0 ∧ Below w.heap.size w wr) (fun io _ => n - (intOf io).toNat)
  case atStart => exact ⟨0, w.heap.size + 1, 0, Nat.zero_le _, rfl, hbx, World.ownsRow.alloc how0 _, by omega, hz.alloc _, hb0.alloc (by simp; omega) _⟩
  case round =>
    clear hbx hz hb0 how0
    obtain ⟨k, g, c2, hk, rfl, hRB, hown, hg, hRZ, hB⟩ := hrel
    obtain ⟨⟨d0, d1, d2, d3⟩, f0, f1, f2, f3⟩ := hRB.cells
    by_cases hlt : k < n
    · obtain ⟨b', off', e', hbw', hc⟩ := (hslr.out _ hB).at_ (by omega)
      cases e'
      have hcell := hc k hlt
      clear hc
      obtain ⟨v, hv⟩ : ∃ v, nth l k = v := ⟨_, rfl⟩
      rw [hv] at hcell
      have hvr : 0 ≤ v ∧ v ≤ M := by
        have hkl : k < l.length := by rw [← hlen.out]; exact hlt
        rw [← hv, nth_eq hkl]; exact hl.out _ (List.getElem_mem hkl)
      obtain ⟨Q, hQ⟩ : ∃ Q, rest W M (l.take k) = Q := ⟨_, rfl⟩
      have hQl := hrl.out k hk
      have hQr := hrr.out k
      have hnx := hrt.out k hlt
      rw [hQ] at hown hQl hQr hnx
      rw [hv] at hnx
      obtain ⟨p, hp⟩ : ∃ p, predI W Q k = p := ⟨_, rfl⟩
      have hpr : 0 ≤ p ∧ p ≤ M := by rw [← hp]; exact predI_range hQr (by omega)
      rw [hp] at hnx
      obtain ⟨d, hd⟩ : ∃ d, diffI v = d := ⟨_, rfl⟩
      have hdr : -65536 ≤ d ∧ d ≤ 65536 := by rw [← hd]; unfold diffI; split <;> omega
      have hpm : 0 ≤ p + d + (M + 1) := by rw [← hd]; unfold diffI; split <;> omega
      rw [hd] at hnx
      have hsl := own_sl_int hown
      have hx : k % W < W := Nat.mod_lt _ (by omega)
      have hq : k / W * W + k % W = k := by have := Nat.div_add_mod k W; rw [Nat.mul_comm]; exact this
      obtain ⟨x, hxx⟩ : ∃ x, k % W = x := ⟨_, rfl⟩
      obtain ⟨y, hyy⟩ : ∃ y, k / W = y := ⟨_, rfl⟩
      rw [hxx] at hx hq
      rw [hyy] at hq
      obtain ⟨q, hqq⟩ : ∃ q, y * W = q := ⟨_, rfl⟩
      rw [hqq] at hq
      have hpc := Lib.hid (fun W' (hW' : Sl W' (some ⟨g, 0, none⟩) k c2 Q) => lpred_any W x y q (some ⟨g, 0, none⟩) k c2 Q W' hW' hW hW2 hx hqq (by omega) (by omega) (fun g hg => by have := hQr g hg; omega) (hq.symm ▸ hp) rfl rfl)
      have hxi : (k : Int).tmod (W : Int) = (x : Int) := by rw [← hxx, Int.tmod_eq_emod_of_nonneg (by omega)]; first | rfl | exact (Int.natCast_emod _ _).symm
      have hyi : (k : Int).tdiv (W : Int) = (y : Int) := by rw [← hyy]; simp
      have hWz : (W : Int) ≠ 0 := by omega
      have hWn : W ≠ 0 := by omega
      have hne : M + 1 ≠ 0 := by omega
      obtain ⟨u, hu⟩ : ∃ u, (p + d + (M + 1)) % (M + 1) = u := ⟨_, rfl⟩
      have hur : 0 ≤ u ∧ u ≤ M := by rw [← hu]; exact ⟨Int.emod_nonneg _ hne, by have := Int.emod_lt_of_pos (p + d + (M + 1)) (b := M + 1) (by omega); omega⟩
      rw [hu] at hnx
      have ht : (p + d + (M + 1)).tmod (M + 1) = u := by rw [Int.tmod_eq_emod_of_nonneg hpm, hu]
      have hyk : y ≤ k := by rw [← hyy]; exact Nat.div_le_self _ _
      have hwY : IntKind.i64.wrap (y : Int) = (y : Int) := IntWalk.i64_in _ (by omega)
      have hwX : IntKind.i64.wrap (x : Int) = (x : Int) := IntWalk.i64_in _ (by omega)
      have hw1 : IntKind.i64.wrap (p + d) = p + d := IntWalk.i64_in _ (by omega)
      have hw2 : IntKind.i64.wrap (p + d + (M + 1)) = p + d + (M + 1) := IntWalk.i64_in _ (by omega)
      have hwU : IntKind.i64.wrap u = u := IntWalk.i64_in _ (by omega)
      replace hu := Lib.hid hu
      replace hv := Lib.hid hv
      replace hQ := Lib.hid hQ
      replace hp := Lib.hid hp
      replace hxx := Lib.hid hxx
      replace hyy := Lib.hid hyy
      replace hqq := Lib.hid hqq
      replace hq := Lib.hid hq
      replace hQr := Lib.hid hQr
      replace hQl := Lib.hid hQl
      replace hnx := Lib.hid hnx
      replace hsl := Lib.hid hsl
      replace hx := Lib.hid hx
      replace hd := Lib.hid hd
      have hgl : w.heap.size + 1 ≤ g := (World.ownsRow.lt hown g rfl).1
      by_cases ho : v % 2 = 1
      · have hd2 : Hid ((v + 1) / 2 = d) := Lib.hid (by rw [← hd.out]; unfold diffI; rw [if_pos ho])
        go_wp2
        rw [hd2.out]
        go_region_law (first
          | (go_simp; go_at_call 56; refine (hpc.out _ (by exact hsl.out)).mono ?_; rintro e w5 ⟨rfl, k5, rfl⟩; have x3 := (World.cell?_alloc_lt (wr.drewN (1 + k5)) (.cells #[.int .i64 u] 3) ⟨w.heap.size + 1 + 1, 3, none⟩ (by exact hRB.lt)).trans d3)
          | (refine step_append_lies _ rfl _ _ 23 rfl (w.heap.size + 1) 3 i0 (.int .i64 0) 1 8 Try.underlying23 hi hz0 hz1 hz2 rfl (by decide) _ _ _ rfl (World.ownsRow.alloc (w := wr.drewN _) hown _) ⟨wr.heap.size, 0, none⟩ 1 1 [.int .i64 (u)] rfl rfl (new_one _ _ _ _ rfl) (fun u hu => by simp at hu; subst hu; rfl) (by decide) (by unfold maxLen; omega) (by omega) (by have := hRB.lt; simp; omega) _ rfl ?_; intro g6 c6 w6 hown6 hgr6 hat6 hlt6; have kB6 := RB.keep (w' := w6) hRB ((hgr6.block (w.heap.size + 1 + 1) (by have := hRB.lt; simp; omega) (fun e => hg (by injection e with e; exact e.symm))).trans (Below.heap_alloc _ _ _ (by exact hRB.lt))); have kZ6 := RB.keep (w' := w6) hRZ ((hgr6.block w.heap.size (by have := hRZ.lt; simp; omega) (fun e => by injection e with e; have e : w.heap.size = g := e; omega)).trans (Below.heap_alloc _ _ _ (by exact hRZ.lt))); have hB6 : Below w.heap.size w w6 := Below.grown (Below.alloc (below_drewN hB _) (by exact hB.size) _) hgr6 (by have := hRB.lt; simp; omega) (fun q hq => by injection hq with hq; have hq : g = q := hq; omega); replace hown6 := Lib.hid hown6; replace hgr6 := Lib.hid hgr6; obtain ⟨⟨e0, e1, e2, e3⟩, h0, h1, h2, h3⟩ := kB6.cells))
        all_goals
          go_wp2
          have hg6 : g6 ≠ w.heap.size + 1 + 1 := by
            rcases hat6 with e | e
            · injection e with e; have e : g = g6 := e; omega
            · have := hRB.lt; simp at e; omega
          refine ⟨⟨k + 1, g6, c6, hlt, by go_num, kB6.set3 _ _ _, ?_, hg6, kZ6.far (p := ⟨w.heap.size + 1 + 1, 3, none⟩) (by simp <;> omega) _, hB6.setCell (p := ⟨w.heap.size + 1 + 1, 3, none⟩) (by simp <;> omega) _⟩, by simp [intOf]; omega⟩
          have hq6 : cells (rest W M (l.take (k + 1))) = cells Q ++ [.int .i64 (u)] := by rw [hnx.out, cells_append]; rfl
          rw [hq6]
          exact own_far (p := ⟨w.heap.size + 1 + 1, 3, none⟩) hown6.out (fun q hq => by injection hq with hq; subst hq; exact hg6) _
      · have hd2 : Hid (-(v / 2) = d) := Lib.hid (by rw [← hd.out]; unfold diffI; rw [if_neg ho])
        go_wp2
        have hd3 : wrap64 (-v.tdiv 2) = d := by rw [Int.tdiv_eq_ediv_of_nonneg hvr.1, IntWalk.wrap64_in _ (by omega)]; exact hd2.out
        rw [hd3]
        go_region_law (first
          | (go_simp; go_at_call 56; refine (hpc.out _ (by exact hsl.out)).mono ?_; rintro e w5 ⟨rfl, k5, rfl⟩; have x3 := (World.cell?_alloc_lt (wr.drewN (1 + k5)) (.cells #[.int .i64 u] 3) ⟨w.heap.size + 1 + 1, 3, none⟩ (by exact hRB.lt)).trans d3)
          | (refine step_append_lies _ rfl _ _ 23 rfl (w.heap.size + 1) 3 i0 (.int .i64 0) 1 8 Try.underlying23 hi hz0 hz1 hz2 rfl (by decide) _ _ _ rfl (World.ownsRow.alloc (w := wr.drewN _) hown _) ⟨wr.heap.size, 0, none⟩ 1 1 [.int .i64 (u)] rfl rfl (new_one _ _ _ _ rfl) (fun u hu => by simp at hu; subst hu; rfl) (by decide) (by unfold maxLen; omega) (by omega) (by have := hRB.lt; simp; omega) _ rfl ?_; intro g6 c6 w6 hown6 hgr6 hat6 hlt6; have kB6 := RB.keep (w' := w6) hRB ((hgr6.block (w.heap.size + 1 + 1) (by have := hRB.lt; simp; omega) (fun e => hg (by injection e with e; exact e.symm))).trans (Below.heap_alloc _ _ _ (by exact hRB.lt))); have kZ6 := RB.keep (w' := w6) hRZ ((hgr6.block w.heap.size (by have := hRZ.lt; simp; omega) (fun e => by injection e with e; have e : w.heap.size = g := e; omega)).trans (Below.heap_alloc _ _ _ (by exact hRZ.lt))); have hB6 : Below w.heap.size w w6 := Below.grown (Below.alloc (below_drewN hB _) (by exact hB.size) _) hgr6 (by have := hRB.lt; simp; omega) (fun q hq => by injection hq with hq; have hq : g = q := hq; omega); replace hown6 := Lib.hid hown6; replace hgr6 := Lib.hid hgr6; obtain ⟨⟨e0, e1, e2, e3⟩, h0, h1, h2, h3⟩ := kB6.cells))
        all_goals
          go_wp2
          have hg6 : g6 ≠ w.heap.size + 1 + 1 := by
            rcases hat6 with e | e
            · injection e with e; have e : g = g6 := e; omega
            · have := hRB.lt; simp at e; omega
          refine ⟨⟨k + 1, g6, c6, hlt, by go_num, kB6.set3 _ _ _, ?_, hg6, kZ6.far (p := ⟨w.heap.size + 1 + 1, 3, none⟩) (by simp <;> omega) _, hB6.setCell (p := ⟨w.heap.size + 1 + 1, 3, none⟩) (by simp <;> omega) _⟩, by simp [intOf]; omega⟩
          have hq6 : cells (rest W M (l.take (k + 1))) = cells Q ++ [.int .i64 (u)] := by rw [hnx.out, cells_append]; rfl
          rw [hq6]
          exact own_far (p := ⟨w.heap.size + 1 + 1, 3, none⟩) hown6.out (fun q hq => by injection hq with hq; subst hq; exact hg6) _
    · obtain rfl : k = n := by omega
      have hsl := own_sl_int hown
      rw [hfin.out] at hsl
      obtain ⟨⟨z0, z1, z2, z3⟩, y0, y1, y2, y3⟩ := hRZ.cells
      have kf := hRZ.put4 W H M (some ⟨g, 0, none⟩) k c2
      obtain ⟨⟨e0, e1, e2, e3⟩, h0, h1, h2, h3⟩ := kf.cells
      go_wp2
      refine bodyPost_ret (v := .agg #[.int .i64 (W : Int), .int .i64 H, .int .i64 M, .slice (some ⟨g, 0, none⟩) k c2]) (by simp [results, Try.results24, go_sem, e0, e1, e2, e3, h0, h1, h2, h3]) rfl ?_
      refine ⟨g, c2, rfl, ?_, ?_⟩
      · have hgl : w.heap.size + 1 ≤ g := (World.ownsRow.lt hown g rfl).1
        refine hsl.keep fun _ b i ⟨off, e⟩ hlt => ?_
        cases e
        repeat (rw [World.cell?_setCell_other _ _ _ _ (by intro e; cases e; omega)])
      · repeat (refine Below.setCell ?_ (by simp <;> omega) _)
        exact hB

end Go.Proofs.Ytcnlghkdhpgnmaa
