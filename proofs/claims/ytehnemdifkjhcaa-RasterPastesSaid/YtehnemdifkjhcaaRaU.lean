/-
  Walks: Crop of package raster.
-/
import Derived.Test.YtehnemdifkjhcaaRaT
set_option linter.unusedSimpArgs false
set_option linter.unusedVariables false
namespace Go.Proofs.Ytehnemdifkjhcaa
open Go.RowKit

set_option maxRecDepth 100000 in
set_option maxHeartbeats 4000000 in
theorem Crop_yes (a b : Nat) (M : Int) (A : Option Addr) (n c : Nat) (P : List Int) (xo yo wd ht : Nat) (w : World) (h : Sl w A n c P) (hr : Ras a b M P) (hx1 : xo + wd ≤ a) (hy1 : yo + ht ≤ b) (hw1 : 1 ≤ wd) (hh1 : 1 ≤ ht) :
    Calls Try.prog 26 #[.agg #[.int .i64 a, .int .i64 b, .int .i64 M, .slice A n c], .int .i64 xo, .int .i64 yo, .int .i64 wd, .int .i64 ht] w (RetR w wd ht M (cropped a xo yo wd ht P)) := by
  have hb0 := ((Below.refl w.heap.size w).alloc (Nat.le_refl _) (.cells #[.int .i64 a, .int .i64 b, .int .i64 M, .slice A n c] 24)).alloc (by simp) (.cells #[.int .i64 0, .int .i64 0, .int .i64 0, .slice none 0 0] 24)
  have hs := (h.alloc (.cells #[.int .i64 a, .int .i64 b, .int .i64 M, .slice A n c] 24)).alloc (.cells #[.int .i64 0, .int .i64 0, .int .i64 0, .slice none 0 0] 24)
  have k0 := (RB.new w a b M A n c).alloc (.cells #[.int .i64 0, .int .i64 0, .int .i64 0, .slice none 0 0] 24)
  have k1 := RB.new (w.alloc (.cells #[.int .i64 a, .int .i64 b, .int .i64 M, .slice A n c] 24)) 0 0 0 none 0 0
  simp only [World.size_alloc] at k1
  have hck := Lib.hid (Check_ok hs hr)
  obtain ⟨a', b', ea, eb, ⟨ha1, ha2⟩, ⟨hb1, hb2⟩, ⟨hM1, hM2⟩, hab, hl1, hl2⟩ := hr.nat
  obtain rfl : a = a' := by omega
  obtain rfl : b = b' := by omega
  have hnP := hs.len
  obtain ⟨bb, off, rfl, hbbw, -⟩ := h.at_ (by rw [h.len]; exact hl2)
  have hbl := Lib.hid (fun W : World => blank_any wd ht M W hw1 (by omega) hh1 (by omega))
  have hncap := hs.le_cap
  have hccap := hs.cap_le
  have hfin : Hid (b * a = n) := Lib.hid (by rw [hnP, hab, Nat.mul_comm])
  have hn4 : n ≤ 4096 := by omega
  obtain ⟨N, hN0⟩ : ∃ N, ht * wd = N := ⟨_, rfl⟩
  have hN4 : N ≤ 4096 := by rw [← hN0]; exact Nat.mul_le_mul (show ht ≤ 64 by omega) (show wd ≤ 64 by omega)
  rw [Nat.mul_comm, hN0] at hbl
  replace hN0 := Lib.hid hN0
  have p1 := Lib.hid (fun w' : World => isPart_at (x := xo) (wd := wd) (W := a) (b := true) (isp_iff.2 ⟨⟨by omega, by omega⟩, by omega, by omega⟩) (by omega) (by omega) w')
  have p2 := Lib.hid (fun w' : World => isPart_at (x := yo) (wd := ht) (W := b) (b := true) (isp_iff.2 ⟨⟨by omega, by omega⟩, by omega, by omega⟩) (by omega) (by omega) w')
  have tok : True := trivial
  clear hr hab hnP hl1 hl2 h ea eb
  go_enter Try.func26, Try.ntmps26
  go_wp2_with (first | (go_at_call 13; refine (hck.out).mono ?_; rintro e w1 ⟨rfl, hb3⟩; simp only [World.size_alloc] at hb3; replace k0 := k0.below hb3 (by omega); replace k1 := k1.below hb3 (by omega); replace hs := hs.below hb3 (by simp); have hsz1 := hb3.size; simp only [World.size_alloc] at hsz1; replace hb0 := hb0.trans (hb3.mono (by omega)); clear hb3; obtain ⟨⟨d0, d1, d2, d3⟩, f0, f1, f2, f3⟩ := k0.cells) | (go_at_call 55; clear tok; refine (p1.out _).mono ?_; rintro e w' ⟨rfl, rfl⟩) | (go_at_call 55; refine (p2.out _).mono ?_; rintro e w' ⟨rfl, rfl⟩) | (go_at_call 51; refine (hbl.out _).mono ?_; rintro e w2 ⟨g, rfl, hg, hbz, hb4⟩; replace k0 := k0.below hb4 (by omega); replace k1 := k1.below hb4 (by omega); replace hs := hs.below hb4 (Nat.le_refl _); replace hb0 := hb0.trans (hb4.mono (by omega)); have hsz2 := hb4.size; clear hb4 d0 d1 d2 d3 f0 f1 f2 f3))
  have hgB := hbz.lt
  have k5 := RB.new w2 wd ht M (some ⟨g, 0, none⟩) N N
  replace k0 := k0.alloc (.cells #[.int .i64 wd, .int .i64 ht, .int .i64 M, .slice (some ⟨g, 0, none⟩) N N] 24)
  replace k1 := k1.alloc (.cells #[.int .i64 wd, .int .i64 ht, .int .i64 M, .slice (some ⟨g, 0, none⟩) N N] 24)
  replace hbz := hbz.alloc (.cells #[.int .i64 wd, .int .i64 ht, .int .i64 M, .slice (some ⟨g, 0, none⟩) N N] 24)
  replace hs := hs.alloc (.cells #[.int .i64 wd, .int .i64 ht, .int .i64 M, .slice (some ⟨g, 0, none⟩) N N] 24)
  replace hb0 := hb0.alloc hb0.size (.cells #[.int .i64 wd, .int .i64 ht, .int .i64 M, .slice (some ⟨g, 0, none⟩) N N] 24)
  have F0 : FI w _ w2.heap.size g bb off n c a b M P wd ht M N N (cropf a xo yo wd P) _ 0 := ⟨k0, k1, k5, hbz, Fill.start (by simp), hs, hb0, by simp, by omega, hgB, hbbw⟩
  clear k0 k1 k5 hbz hs hb0 hck hbl p1 p2
  go_loopw [42] (fun i wr => ∃ (y : Nat) (L : List Int), y ≤ ht ∧ i = .int .i64 (y : Int) ∧ FI w wr w2.heap.size g bb off n c a b M P wd ht M N N (cropf a xo yo wd P) L (y * wd)) (fun i _ => ht - (intOf i).toNat)
  case atStart => exact ⟨0, _, Nat.zero_le _, rfl, F0.at_ (by simp)⟩
  case round =>
    clear F0
    obtain ⟨y, L, hy, rfl, F⟩ := hrel
    obtain ⟨d0, d1, d2, d3, d4, d5, d6, d7⟩ := F.cellsOnly (Only.refl wr g)
    by_cases hlt : y < ht
    · obtain ⟨q, hq⟩ : ∃ q, y * wd = q := ⟨_, rfl⟩
      obtain ⟨q2, hq2⟩ : ∃ q2, (yo + y) * a = q2 := ⟨_, rfl⟩
      obtain ⟨m2, hm2⟩ : ∃ m : Nat, yo + y = m := ⟨_, rfl⟩
      have hmj : (yo : Int) + (y : Int) = (m2 : Int) := by omega
      have hl1 : q + wd ≤ N := by rw [← hq, ← hN0.out]; exact row_le hlt
      have hl2 : q2 + a ≤ n := by rw [← hq2, ← hfin.out]; exact row_le (by omega)
      have hX : ∃ X : List Int, X.length = wd ∧ (∀ i, i < wd → nth X i = cropf a xo yo wd P (q + i)) ∧ ∀ i, i < wd → nth X i = nth P (q2 + (xo + i)) := ⟨tab wd (fun i => cropf a xo yo wd P (q + i)), tab_length _ _, fun i hi => nth_tab hi, fun i hi => by rw [nth_tab hi, ← hq, cropf_at hi, hq2]⟩
      obtain ⟨X, hXl, hX1, hX2⟩ := hX
      obtain ⟨bb', off', e, hbbl, hcc⟩ := F.sl.at_ (by omega)
      cases e
      have hsrc : ∀ W, Below wr.heap.size wr W → ∀ i, i < X.length → W.cell? ((⟨bb, off + q2 + xo, none⟩ : Addr).add i) = some (.int .i64 (nth X i)) := fun W hb i hi => by
        rw [Addr.add_lit, hb.cell (p := ⟨bb, off + q2 + xo + i, none⟩) hbbl, Nat.add_assoc, Nat.add_assoc, hcc (q2 + (xo + i)) (by omega), hX2 i (by omega)]
      have hblT := Lib.hid (fun (W : World) (hb : Below wr.heap.size wr W) => F.bl.below hb F.bl.lt)
      have hLl := F.fill.1
      have keepS := Lib.hid (fun w' (ho : Only wr w' g) => F.cellsOnly ho)
      have tok : True := trivial
      have hm264 : m2 ≤ 128 := by omega
      rw [hm2] at hq2
      replace hsrc := Lib.hid hsrc
      replace hX1 := Lib.hid hX1
      replace hXl := Lib.hid hXl
      replace hLl := Lib.hid hLl
      replace hq := Lib.hid hq
      replace hq2 := Lib.hid hq2
      replace hm2 := Lib.hid hm2
      clear hX2 hcc
      have hwA : IntKind.i64.wrap (m2 : Int) = (m2 : Int) := IntWalk.i64_in _ (by omega)
      have hwE : (0 : Int) ≤ (xo : Int) := by omega
      have hwF : (xo : Int) ≤ (a : Int) := by omega
      have hwG : ¬ (c - q2 = xo) := by omega
      go_wp2
      go_region_held3 (fun w' => w'.cell? ⟨w.heap.size, 0, none⟩ = some (.int .i64 a) ∧ w'.cell? ⟨w.heap.size, 1, none⟩ = some (.int .i64 b) ∧ w'.cell? ⟨w.heap.size, 2, none⟩ = some (.int .i64 M) ∧ w'.cell? ⟨w.heap.size, 3, none⟩ = some (.slice (some ⟨bb, off, none⟩) n c) ∧ w'.cell? ⟨w2.heap.size, 0, none⟩ = some (.int .i64 wd) ∧ w'.cell? ⟨w2.heap.size, 1, none⟩ = some (.int .i64 ht) ∧ w'.cell? ⟨w2.heap.size, 2, none⟩ = some (.int .i64 M) ∧ w'.cell? ⟨w2.heap.size, 3, none⟩ = some (.slice (some ⟨g, 0, none⟩) N N))
        (exact keepS.out _ (by repeat (first | exact qO3 | refine Only.drew ?_ | exact Only.of_below qB2 g | exact Only.of_below qB1 g | exact Only.refl wr g)))
        (first | (go_at_call 53; clear tok; refine (row_at y q rfl (Nat.le_refl _) (by omega) hq.out.symm (by omega) hl1 (by omega) (by omega)).mono ?_; rintro e qw1 ⟨rfl, qh1⟩; have qB1 : Below wr.heap.size wr qw1 := Below.trans (by repeat (first | refine Below.drew ?_ | exact Below.refl _ _)) (qh1.mono (by first | omega | (simp <;> omega)))) | (go_at_call 53; refine (row_at m2 q2 rfl hncap hccap hq2.out.symm (by omega) hl2 (by omega) (by omega)).mono ?_; rintro e qw2 ⟨rfl, qh2⟩; have qB2 : Below wr.heap.size wr qw2 := Below.trans (by repeat (first | refine Below.drew ?_ | exact qB1 | exact Below.refl _ _)) (qh2.mono (by have := qB1.size; first | omega | (simp <;> omega)))) | (refine step_copy_ints rfl _ _ rfl g q wd (N - q) ⟨bb, off + q2 + xo, none⟩ (a - xo) (c - q2 - xo) rfl rfl L X (hblT.out _ (by repeat (first | refine Below.drew ?_ | exact qB2))) (by rw [hXl.out]; exact (Nat.min_eq_right (by omega)).symm) (hsrc.out _ (by repeat (first | refine Below.drew ?_ | exact qB2))) (by rw [hXl.out, hLl.out]; omega) ?_; intro qw3 qh3 qbl; have qO3 : Only wr qw3 g := Only.trans (by repeat (first | refine Only.drew ?_ | exact Only.of_below qB2 g)) qh3))
      go_wp2
      go_roundw
      case rel => exact ⟨y + 1, _, hlt, by go_num, F.copy qO3 qbl.out hq.out.symm (by rw [hXl.out, hq.out]; exact hl1) (by rw [hXl.out, hq.out]; exact hX1.out) (by rw [hXl.out, Nat.add_mul, Nat.one_mul])⟩
      case measure => simp [intOf]; omega
    · obtain rfl : y = ht := by omega
      obtain ⟨⟨d8, d9, d10, d11⟩, f8, f9, f10, f11⟩ := F.k1.cells
      have hdone := Lib.hid ((F.fill.at_ hN0.out).done)
      have hgne := F.gne
      have hbz := F.bl
      have hB := F.below
      go_wp2
      refine bodyPost_ret (v := .tuple #[.agg #[.int .i64 wd, .int .i64 y, .int .i64 M, .slice (some ⟨g, 0, none⟩) N N], .int .i64 0]) (by simp [results, Try.results26, go_sem, d8, d9, d10, d11, f8, f9, f10, f11]) rfl ?_
      refine ⟨_, _, _, rfl, ?_, ?_⟩
      · refine Bl.sl0 ?_ (by rw [cropped, tab_length, hN0.out]) (Nat.le_refl _) (by omega)
        repeat (refine Bl.far ?_ (by simp <;> omega) _)
        rw [cropped, hN0.out, ← hdone.out]
        exact hbz
      · repeat (refine Below.setCell ?_ (by simp <;> omega) _)
        exact hB

end Go.Proofs.Ytehnemdifkjhcaa
