/-
  Walks: Rescale of package raster and of the reference.
-/
import Derived.Test.YtehnemdifkjhcaaRaN
set_option linter.unusedSimpArgs false
set_option linter.unusedVariables false
namespace Go.Proofs.Ytehnemdifkjhcaa
open Go.RowKit

/-- A grey value on another scale. -/
def resc (M most x : Int) : Int := (2 * x * most + M) / (2 * M)
theorem mul_le {x most M : Int} (h0 : 0 ≤ x) (h1 : x ≤ M) (h2 : M ≤ 65535) (h3 : 1 ≤ most) (h4 : most ≤ 65535) : 0 ≤ 2 * x * most ∧ 2 * x * most ≤ 8589672450 := by
  constructor
  · exact Int.mul_nonneg (by omega) (by omega)
  · have := Int.mul_le_mul (show 2 * x ≤ 131070 by omega) h4 (by omega) (by omega); omega

set_option maxHeartbeats 1600000 in
theorem resc_at (M most : Int) (P : List Int) (B1 B2 : Nat) (w : World) (hB1 : B1 < w.heap.size) (hB2 : B2 < w.heap.size) (hc1 : w.cell? ⟨B1, 0, none⟩ = some (.int .i64 most)) (hc2 : w.cell? ⟨B2, 2, none⟩ = some (.int .i64 M))
    (hP : ∀ x ∈ P, 0 ≤ x ∧ x ≤ M) (hM : 1 ≤ M ∧ M ≤ 65535) (hm : 1 ≤ most ∧ most ≤ 65535) :
    MapI 61 #[.pointer (some ⟨B1, 0, none⟩), .pointer (some ⟨B2, 0, none⟩)] (resc M most) P w := fun W x hx hb => by
  have h1 : W.cell? ⟨B1, 0, none⟩ = some (.int .i64 most) := (hb.cell (p := ⟨B1, 0, none⟩) hB1).trans hc1
  have h2 : W.cell? ⟨B2, 2, none⟩ = some (.int .i64 M) := (hb.cell (p := ⟨B2, 2, none⟩) hB2).trans hc2
  obtain ⟨hx0, hx1⟩ := hP x hx
  obtain ⟨hM1, hM2⟩ := hM
  obtain ⟨hm1, hm2⟩ := hm
  obtain ⟨p0, p1⟩ := mul_le hx0 hx1 hM2 hm1 hm2
  have hz : (2 * M == 0) = false := by simp; omega
  show Calls Try.prog 61 #[.int .i64 x, .pointer (some ⟨B1, 0, none⟩), .pointer (some ⟨B2, 0, none⟩)] W _
  go_enter Try.func61, Try.ntmps61
  go_wp2
  go_ret
  exact ⟨rfl, Below.refl _ _⟩
theorem enters_resc : ∀ args w, (callFunc 61 args).run Try.prog w = .ok (.enter 61 args) w := enters_of Try.func61 (by kernel_rfl) rfl

section
variable (W H M : Int) (A : Option Addr) (n c : Nat) (most : Int) (w : World)
/-- The world in which Rescale begins. -/
abbrev rescW : World := ((w.alloc (.cells #[.int .i64 W, .int .i64 H, .int .i64 M, .slice A n c] 24)).alloc (.cells #[.int .i64 most] 3)).alloc (.cells #[.int .i64 0, .int .i64 0, .int .i64 0, .slice none 0 0] 24)
theorem rescW_facts : RB (rescW W H M A n c most w) w.heap.size W H M A n c ∧ KB (rescW W H M A n c most w) (w.heap.size + 1) #[.int .i64 most] 3 ∧ RB (rescW W H M A n c most w) (w.heap.size + 2) 0 0 0 none 0 0 ∧ Below w.heap.size w (rescW W H M A n c most w) ∧ (rescW W H M A n c most w).heap.size = w.heap.size + 3 := by
  have k1 : KB _ _ _ _ := (KB.new (w.alloc (.cells #[.int .i64 W, .int .i64 H, .int .i64 M, .slice A n c] 24)) #[.int .i64 most] 3).alloc (.cells #[.int .i64 0, .int .i64 0, .int .i64 0, .slice none 0 0] 24)
  have k2 := RB.new ((w.alloc (.cells #[.int .i64 W, .int .i64 H, .int .i64 M, .slice A n c] 24)).alloc (.cells #[.int .i64 most] 3)) 0 0 0 none 0 0
  simp only [World.size_alloc] at k1 k2
  exact ⟨((RB.new w W H M A n c).alloc _).alloc _, k1, k2, (((Below.refl _ w).alloc (Nat.le_refl _) _).alloc (by simp) _).alloc (by simp <;> omega) _, by simp⟩
end

theorem Rescale_bad (W H M : Int) (A : Option Addr) (n c : Nat) (P : List Int) (most : Int) (w : World) (h : Sl w A n c P) (hr : ¬ Ras W H M P) :
    Calls Try.prog 42 #[.agg #[.int .i64 W, .int .i64 H, .int .i64 M, .slice A n c], .int .i64 most] w (RetE w 1) := by
  obtain ⟨k0, k1, k2, hb, hz⟩ := rescW_facts W H M A n c most w
  have hck := Lib.hid (Check_no (h.below hb (Nat.le_refl _)) hr)
  replace hz := Lib.hid hz
  clear h hr
  go_enter Try.func42, Try.ntmps42
  go_wp2_with (go_at_call 13; refine (hck.out).mono ?_; rintro e w1 ⟨rfl, hb2⟩; rw [hz.out] at hb2; obtain ⟨⟨d4, d5, d6, d7⟩, f4, f5, f6, f7⟩ := (k2.below hb2 (by omega)).cells)
  refine bodyPost_ret (v := .tuple #[.agg #[.int .i64 0, .int .i64 0, .int .i64 0, .slice none 0 0], .int .i64 1]) (by simp [results, Try.results42, go_sem, d4, d5, d6, d7, f4, f5, f6, f7]) rfl ⟨rfl, ?_⟩
  repeat (refine Below.setCell ?_ (by simp <;> omega) _)
  exact hb.trans (hb2.mono (by omega))

set_option maxHeartbeats 1600000 in
theorem Rescale_out (W H M : Int) (A : Option Addr) (n c : Nat) (P : List Int) (most : Int) (w : World) (h : Sl w A n c P) (hr : Ras W H M P) (hw : win most 1 65535 = false) :
    Calls Try.prog 42 #[.agg #[.int .i64 W, .int .i64 H, .int .i64 M, .slice A n c], .int .i64 most] w (RetE w 2) := by
  obtain ⟨k0, k1, k2, hb, hz⟩ := rescW_facts W H M A n c most w
  have hck := Lib.hid (Check_ok (h.below hb (Nat.le_refl _)) hr)
  replace hz := Lib.hid hz
  have hwn := Lib.hid (fun w' : World => within_at hw w')
  clear h hr hw
  go_enter Try.func42, Try.ntmps42
  go_wp2_with (first | (go_at_call 13; refine (hck.out).mono ?_; rintro e w1 ⟨rfl, hb2⟩; rw [hz.out] at hb2; replace k1 := k1.below hb2 (by omega); have t0 := k1.cell 0 rfl; obtain ⟨⟨d0, d1, d2, d3⟩, f0, f1, f2, f3⟩ := (k0.below hb2 (by omega)).cells; obtain ⟨⟨d4, d5, d6, d7⟩, f4, f5, f6, f7⟩ := (k2.below hb2 (by omega)).cells) | (go_at_call 49; refine (hwn.out _).mono ?_; rintro e w' ⟨rfl, rfl⟩))
  refine bodyPost_ret (v := .tuple #[.agg #[.int .i64 0, .int .i64 0, .int .i64 0, .slice none 0 0], .int .i64 2]) (by simp [results, Try.results42, go_sem, d4, d5, d6, d7, f4, f5, f6, f7]) rfl ⟨rfl, ?_⟩
  repeat (refine Below.setCell ?_ (by simp <;> omega) _)
  exact hb.trans (hb2.mono (by omega))

set_option maxHeartbeats 3200000 in
theorem Rescale_yes (a b : Nat) (M : Int) (A : Option Addr) (n c : Nat) (P : List Int) (most : Int) (w : World) (h : Sl w A n c P) (hr : Ras a b M P) (hw : win most 1 65535 = true) :
    Calls Try.prog 42 #[.agg #[.int .i64 a, .int .i64 b, .int .i64 M, .slice A n c], .int .i64 most] w (RetR w a b most (mapped (resc M most) P)) := by
  obtain ⟨k0, k1, k2, hb, hz⟩ := rescW_facts a b M A n c most w
  have hck := Lib.hid (Check_ok (h.below hb (Nat.le_refl _)) hr)
  replace hz := Lib.hid hz
  have hwn := Lib.hid (fun w' : World => within_at hw w')
  have hrep := Lib.hid (fun (W' : World) (hW : Below w.heap.size w W') (hk : KB W' (w.heap.size + 1) #[.int .i64 most] 3) (hk0 : RB W' w.heap.size a b M A n c) => replaced_any 61 _ (resc M most) enters_resc a b M most A n c P W' (h.below hW (Nat.le_refl _)) hr (resc_at M most P (w.heap.size + 1) w.heap.size W' hk.lt hk0.lt (hk.cell 0 rfl) hk0.cells.1.2.2.1 hr.2.2 ⟨hr.1.2.2.1, hr.1.2.2.2⟩ (win_iff.1 hw)))
  clear h hr hw
  go_enter Try.func42, Try.ntmps42
  go_wp2_with (first | (go_at_call 13; refine (hck.out).mono ?_; rintro e w1 ⟨rfl, hb2⟩; rw [hz.out] at hb2; have z1 := hb2.size; rw [hz.out] at z1; replace k1 := k1.below hb2 (by omega); replace k0 := k0.below hb2 (by omega); replace k2 := k2.below hb2 (by omega); have hB1 := hb.trans (hb2.mono (by omega)); have t0 := k1.cell 0 rfl; obtain ⟨⟨d0, d1, d2, d3⟩, f0, f1, f2, f3⟩ := k0.cells) | (go_at_call 49; refine (hwn.out _).mono ?_; rintro e w' ⟨rfl, rfl⟩) | (go_at_call 58; refine (hrep.out _ hB1 k1 k0).mono ?_; rintro e w3 ⟨g, n3, c3, rfl, hg, hbl, hn3, hc3, hm3, hb4⟩; replace hn3 := Lib.hid hn3; have hB3 := hB1.trans (hb4.mono (by omega)); obtain ⟨⟨d4, d5, d6, d7⟩, f4, f5, f6, f7⟩ := (k2.below hb4 (by omega)).cells))
  refine bodyPost_ret (v := .tuple #[.agg #[.int .i64 a, .int .i64 b, .int .i64 most, .slice (some ⟨g, 0, none⟩) n3 c3], .int .i64 0]) (by simp [results, Try.results42, go_sem, d4, d5, d6, d7, f4, f5, f6, f7]) rfl ?_
  refine ⟨_, _, _, rfl, ?_, ?_⟩
  · refine Bl.sl0 ?_ hn3.out hc3 hm3
    iterate 4 (refine Bl.far ?_ (by simp <;> omega) _)
    exact hbl
  · repeat (refine Below.setCell ?_ (by simp <;> omega) _)
    exact hB3

theorem RB.set2 {w : World} {g : Nat} {W H M : Int} {A : Option Addr} {n c : Nat} (h : RB w g W H M A n c) (M' : Int) : RB (w.setCell ⟨g, 2, none⟩ (.int .i64 M')) g W H M' A n c := by
  have := heap_setCell_same w g 2 _ _ (.int .i64 M') h
  unfold RB
  rw [this]
  rfl

set_option maxRecDepth 100000 in
set_option maxHeartbeats 4000000 in
/-- Rescale of the reference. -/
theorem rRescale_yes (a b : Nat) (M : Int) (A : Option Addr) (n c : Nat) (P : List Int) (most : Int) (w : World) (h : Sl w A n c P) (hA : A = none → c = 0) (hr : Ras a b M P) (hw : win most 1 65535 = true) :
    Calls Try.prog 43 #[.agg #[.int .i64 a, .int .i64 b, .int .i64 M, .slice A n c], .int .i64 most] w (RetF w a b most (mapped (resc M most) P)) := by
  have hb0 := ((Below.refl w.heap.size w).alloc (Nat.le_refl _) (.cells #[.int .i64 a, .int .i64 b, .int .i64 M, .slice A n c] 24)).alloc (by simp) (.cells #[.int .i64 0, .int .i64 0, .int .i64 0, .slice none 0 0] 24)
  have hs := (h.alloc (.cells #[.int .i64 a, .int .i64 b, .int .i64 M, .slice A n c] 24)).alloc (.cells #[.int .i64 0, .int .i64 0, .int .i64 0, .slice none 0 0] 24)
  have k0 := (RB.new w a b M A n c).alloc (.cells #[.int .i64 0, .int .i64 0, .int .i64 0, .slice none 0 0] 24)
  have k1 := RB.new (w.alloc (.cells #[.int .i64 a, .int .i64 b, .int .i64 M, .slice A n c] 24)) 0 0 0 none 0 0
  simp only [World.size_alloc] at k1
  obtain ⟨a', b', ea, eb, ⟨ha1, ha2⟩, ⟨hb1, hb2⟩, ⟨hM1, hM2⟩, hab, hl1, hl2⟩ := hr.nat
  have hnP := hs.len
  have hgr := Lib.hid hr.2.2
  obtain ⟨bb, off, rfl, hbbw, -⟩ := h.at_ (by rw [h.len]; exact hl2)
  have hncap := hs.le_cap
  have hccap := hs.cap_le
  have hn4 : n ≤ 4096 := by omega
  have hnew := Lib.hid (fun _ : Unit => rCopy_any a b M _ n c P _ hs hA (by omega))
  have hPn := Lib.hid hnP
  have hn0 : 0 < n := by omega
  clear hr hab hnP hl1 hl2 h hA ea eb
  obtain ⟨hm1, hm2⟩ := win_iff.1 hw
  clear hw
  go_enter Try.func43, Try.ntmps43
  go_wp2_with (go_at_call 17; refine (hnew.out ()).mono ?_; rintro e w2 hret; obtain ⟨g, N, c2, rfl, hg, hbz, hN, hc1, hc2, hb4⟩ := hret.ret (by rw [← hPn.out]; exact hn0); obtain rfl : N = n := hN.trans hPn.out.symm; clear hN; simp only [World.size_alloc] at hg hb4; replace k0 := k0.below hb4 (by omega); replace k1 := k1.below hb4 (by omega); replace hs := hs.below hb4 (by simp); replace hb0 := hb0.trans (hb4.mono (by omega)); clear hb4 hret)
  have hgB := hbz.lt
  have k5 := RB.new w2 a b most (some ⟨g, 0, none⟩) N c2
  replace k0 := k0.alloc (.cells #[.int .i64 a, .int .i64 b, .int .i64 most, .slice (some ⟨g, 0, none⟩) N c2] 24)
  replace k1 := k1.alloc (.cells #[.int .i64 a, .int .i64 b, .int .i64 most, .slice (some ⟨g, 0, none⟩) N c2] 24)
  replace hbz := hbz.alloc (.cells #[.int .i64 a, .int .i64 b, .int .i64 most, .slice (some ⟨g, 0, none⟩) N c2] 24)
  replace hs := hs.alloc (.cells #[.int .i64 a, .int .i64 b, .int .i64 most, .slice (some ⟨g, 0, none⟩) N c2] 24)
  replace hb0 := hb0.alloc hb0.size (.cells #[.int .i64 a, .int .i64 b, .int .i64 most, .slice (some ⟨g, 0, none⟩) N c2] 24)
  have F0 : FI w _ w2.heap.size g bb off N c a b M P a b most N c2 (fun i => resc M most (nth P i)) _ 0 := ⟨k0, k1, k5, hbz, Fill.start hPn.out.symm, hs, hb0, by simp, by omega, hgB, hbbw⟩
  clear k0 k1 k5 hbz hs hb0 hnew
  go_loopw [6] (fun i wr => ∃ (j : Nat) (L : List Int), j ≤ N ∧ i = .int .i64 (j : Int) ∧ FI w wr w2.heap.size g bb off N c a b M P a b most N c2 (fun i => resc M most (nth P i)) L j) (fun i _ => N - (intOf i).toNat)
  case atStart => exact ⟨0, _, Nat.zero_le _, rfl, F0⟩
  case round =>
    clear F0
    obtain ⟨j, L, hj, rfl, F⟩ := hrel
    obtain ⟨d0, d1, d2, d3, d4, d5, d6, d7⟩ := F.cellsOnly (Only.refl wr g)
    by_cases hlt : j < N
    · obtain ⟨b', off', e, hbw', hcc⟩ := F.sl.at_ (by omega)
      cases e
      have hcell := hcc j hlt
      clear hcc
      obtain ⟨v, hv⟩ : ∃ v, nth P j = v := ⟨_, rfl⟩
      have hvb := nth_bounds (by omega) hgr.out j
      rw [hv] at hcell hvb
      obtain ⟨p0, p1⟩ := mul_le hvb.1 hvb.2 hM2 hm1 hm2
      obtain ⟨u, hu⟩ : ∃ u, resc M most v = u := ⟨_, rfl⟩
      have hu2 : (2 * v * most + M).tdiv (2 * M) = u := by rw [Int.tdiv_eq_ediv_of_nonneg (by omega)]; exact hu
      have hu3 : 0 ≤ u ∧ u ≤ 2 * v * most + M := by
        rw [← hu]
        exact ⟨Int.ediv_nonneg (by omega) (by omega), Int.ediv_le_self _ (by omega)⟩
      have hval : resc M most (nth P j) = u := by rw [hv]; exact hu
      have hwc := F.bl.cell (i := j) (by rw [F.fill.1]; exact hlt)
      have hwf := F.bl.frozen j
      obtain ⟨z, hz⟩ : ∃ z, nth L j = z := ⟨_, rfl⟩
      rw [hz] at hwc
      have hgw := F.bl.lt
      have hgne := F.gne
      have hkr := F.k0.lt
      have keepS : ∀ w', Only wr w' g → w'.cell? ⟨w2.heap.size, 3, none⟩ = some (.slice (some ⟨g, 0, none⟩) N c2) ∧ w'.cell? ⟨w.heap.size, 3, none⟩ = some (.slice (some ⟨bb, off, none⟩) N c) ∧ w'.cell? ⟨bb, off + j, none⟩ = some (.int .i64 v) ∧ w'.cell? ⟨w.heap.size, 2, none⟩ = some (.int .i64 M) := fun w' ho => by
        have hh := F.cellsOnly ho
        exact ⟨hh.2.2.2.2.2.2.2, hh.2.2.2.1, (F.only ho _ _ hbw' (by omega)).trans hcell, hh.2.2.1⟩
      replace keepS := Lib.hid keepS
      replace hval := Lib.hid hval
      replace hu := Lib.hid hu
      replace hv := Lib.hid hv
      replace hz := Lib.hid hz
      have i1 : (0 : Int) ≤ (j : Int) := by omega
      have i2 : (j : Int) < (N : Int) := by omega
      have i3 : IntKind.i64.wrap (2 * v) = 2 * v := IntWalk.i64_in _ (by omega)
      have i4 : IntKind.i64.wrap (2 * v * most) = 2 * v * most := IntWalk.i64_in _ (by omega)
      have i5 : IntKind.i64.wrap (2 * v * most + M) = 2 * v * most + M := IntWalk.i64_in _ (by omega)
      have i6 : IntKind.i64.wrap (2 * M) = 2 * M := IntWalk.i64_in _ (by omega)
      have i7 : IntKind.i64.wrap u = u := IntWalk.i64_in _ (by omega)
      have i8 : (2 * M == 0) = false := by simp; omega
      have i9 : ¬ (2 * M = 0) := by omega
      have i10 : ¬ (M = 0) := by omega
      clear p0 p1 hvb hu3
      go_wp2
      go_region_held3 (fun w' => w'.cell? ⟨w2.heap.size, 3, none⟩ = some (.slice (some ⟨g, 0, none⟩) N c2) ∧ w'.cell? ⟨w.heap.size, 3, none⟩ = some (.slice (some ⟨bb, off, none⟩) N c) ∧ w'.cell? ⟨bb, off + j, none⟩ = some (.int .i64 v) ∧ w'.cell? ⟨w.heap.size, 2, none⟩ = some (.int .i64 M))
        (exact keepS.out _ (by repeat (first | exact Only.refl wr g | refine Only.drew ?_ | refine Only.setCell ?_ rfl _)))
        (fail)
      go_wp2
      go_roundw
      case rel => exact ⟨j + 1, _, hlt, by go_num, (F.store hlt hval.out rfl rfl).later (below_drewN (Below.refl _ _) 1)⟩
      case measure => simp [intOf]; omega
    · obtain rfl : j = N := by omega
      obtain ⟨⟨d8, d9, d10, d11⟩, f8, f9, f10, f11⟩ := F.k1.cells
      have hdone := Lib.hid F.fill.done
      have hgne := F.gne
      have hbz := F.bl
      have hB := F.below
      go_wp2
      refine bodyPost_ret (v := .agg #[.int .i64 a, .int .i64 b, .int .i64 most, .slice (some ⟨g, 0, none⟩) j c2]) (by simp [results, Try.results43, go_sem, d8, d9, d10, d11, f8, f9, f10, f11]) rfl ?_
      refine ⟨g, j, c2, rfl, by omega, ?_, by rw [mapped_length]; exact hPn.out, hc1, hc2, ?_⟩
      · repeat (refine Bl.far ?_ (by simp <;> omega) _)
        rw [mapped, ← hPn.out, ← hdone.out]
        exact hbz
      · repeat (refine Below.setCell ?_ (by simp <;> omega) _)
        exact hB

end Go.Proofs.Ytehnemdifkjhcaa
