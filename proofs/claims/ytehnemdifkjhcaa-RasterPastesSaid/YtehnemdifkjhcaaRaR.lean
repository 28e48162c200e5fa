/-
  Walks: Crop of the reference.
-/
import Derived.Test.YtehnemdifkjhcaaRaG
set_option linter.unusedSimpArgs false
set_option linter.unusedVariables false
namespace Go.Proofs.Ytehnemdifkjhcaa
open Go.RowKit

/-- The pixels of a part of a raster, wd wide: the place k of the result. -/
def cropf (a xo yo wd : Nat) (P : List Int) (k : Nat) : Int := nth P ((yo + k / wd) * a + (xo + k % wd))
theorem cropf_at {a xo yo wd j i : Nat} {P : List Int} (hi : i < wd) : cropf a xo yo wd P (j * wd + i) = nth P ((yo + j) * a + (xo + i)) := by unfold cropf; rw [row_mod hi, row_div hi]
def cropped (a xo yo wd ht : Nat) (P : List Int) : List Int := tab (ht * wd) (cropf a xo yo wd P)

set_option maxRecDepth 100000 in
set_option maxHeartbeats 4000000 in
/-- Crop of the reference. -/
theorem rCrop_any (W H M : Int) (A : Option Addr) (n c : Nat) (P : List Int) (xo yo wd ht : Nat) (w : World) (h : Sl w A n c P) (hr : Ras W H M P) (hx0 : ((xo + wd : Nat) : Int) ≤ W) (hy0 : ((yo + ht : Nat) : Int) ≤ H) (hw1 : 1 ≤ wd) (hh1 : 1 ≤ ht) :
    Calls Try.prog 28 #[.agg #[.int .i64 W, .int .i64 H, .int .i64 M, .slice A n c], .int .i64 xo, .int .i64 yo, .int .i64 wd, .int .i64 ht] w (RetF w wd ht M (cropped W.toNat xo yo wd ht P)) := by
  have hb0 := ((Below.refl w.heap.size w).alloc (Nat.le_refl _) (.cells #[.int .i64 W, .int .i64 H, .int .i64 M, .slice A n c] 24)).alloc (by simp) (.cells #[.int .i64 0, .int .i64 0, .int .i64 0, .slice none 0 0] 24)
  have hs := (h.alloc (.cells #[.int .i64 W, .int .i64 H, .int .i64 M, .slice A n c] 24)).alloc (.cells #[.int .i64 0, .int .i64 0, .int .i64 0, .slice none 0 0] 24)
  have k0 := (RB.new w W H M A n c).alloc (.cells #[.int .i64 0, .int .i64 0, .int .i64 0, .slice none 0 0] 24)
  have k1 := RB.new (w.alloc (.cells #[.int .i64 W, .int .i64 H, .int .i64 M, .slice A n c] 24)) 0 0 0 none 0 0
  simp only [World.size_alloc] at k1
  obtain ⟨a, b, rfl, rfl, ⟨ha1, ha2⟩, ⟨hb1, hb2⟩, ⟨hM1, hM2⟩, hab, hl1, hl2⟩ := hr.nat
  have hnP := hs.len
  obtain ⟨bb, off, rfl, hbbw, -⟩ := h.at_ (by rw [h.len]; exact hl2)
  simp only [Int.toNat_natCast]
  have hncap := hs.le_cap
  have hccap := hs.cap_le
  have hx1 : xo + wd ≤ a := by omega
  have hy1 : yo + ht ≤ b := by omega
  have hbn : b * a = n := by rw [hnP, hab, Nat.mul_comm]
  have hfin : Hid (b * a = n) := Lib.hid hbn
  have hn4 : n ≤ 4096 := by omega
  have hmul : ht * wd ≤ b * a := Nat.mul_le_mul (by omega) (by omega)
  have hmul0 : 1 * 1 ≤ ht * wd := Nat.mul_le_mul hh1 hw1
  obtain ⟨N0, hN0⟩ : ∃ N0, ht * wd = N0 := ⟨_, rfl⟩
  have hN1 : N0 ≤ 4096 := by omega
  have hN2 : 0 < N0 := by omega
  have hnew := Lib.hid (fun W : World => (rNew_any wd ht M W hw1 (by omega) hh1 (by omega)))
  rw [Nat.mul_comm, hN0] at hnew
  have hn0 : 0 < n := by omega
  have hX := Lib.hid hx1
  have hY := Lib.hid hy1
  clear hr hab hnP hl1 hl2 h hmul hmul0 hx0 hy0 hbn
  replace hN0 := Lib.hid hN0
  go_enter Try.func28, Try.ntmps28
  go_wp2_with (go_at_call 20; refine (hnew.out _).mono ?_; rintro e w2 hret; obtain ⟨g, N, c2, rfl, hg, hbz, hN, hc1, hc2, hb4⟩ := hret.ret (by simp; exact hN2); simp only [List.length_replicate] at hN; subst hN; simp only [World.size_alloc] at hg hb4; replace k0 := k0.below hb4 (by omega); replace k1 := k1.below hb4 (by omega); replace hs := hs.below hb4 (by simp); replace hb0 := hb0.trans (hb4.mono (by omega)); clear hb4 hret)
  have hgB := hbz.lt
  have k5 := RB.new w2 wd ht M (some ⟨g, 0, none⟩) N c2
  replace k0 := k0.alloc (.cells #[.int .i64 wd, .int .i64 ht, .int .i64 M, .slice (some ⟨g, 0, none⟩) N c2] 24)
  replace k1 := k1.alloc (.cells #[.int .i64 wd, .int .i64 ht, .int .i64 M, .slice (some ⟨g, 0, none⟩) N c2] 24)
  replace hbz := hbz.alloc (.cells #[.int .i64 wd, .int .i64 ht, .int .i64 M, .slice (some ⟨g, 0, none⟩) N c2] 24)
  replace hs := hs.alloc (.cells #[.int .i64 wd, .int .i64 ht, .int .i64 M, .slice (some ⟨g, 0, none⟩) N c2] 24)
  replace hb0 := hb0.alloc hb0.size (.cells #[.int .i64 wd, .int .i64 ht, .int .i64 M, .slice (some ⟨g, 0, none⟩) N c2] 24)
  have F0 : FI w _ w2.heap.size g bb off n c a b M P wd ht M N c2 (cropf a xo yo wd P) _ 0 := ⟨k0, k1, k5, hbz, Fill.start (by simp), hs, hb0, by simp, by omega, hgB, hbbw⟩
  clear k0 k1 k5 hbz hs hb0 hnew
  go_loopw [12] (fun i wr => ∃ (y : Nat) (L : List Int), y ≤ ht ∧ i = .int .i64 (y : Int) ∧ FI w wr w2.heap.size g bb off n c a b M P wd ht M N c2 (cropf a xo yo wd P) L (y * wd)) (fun i _ => ht - (intOf i).toNat)
  case atStart => exact ⟨0, _, Nat.zero_le _, rfl, F0.at_ (by simp)⟩
  case round =>
    clear F0
    obtain ⟨y, L, hy, rfl, F⟩ := hrel
    obtain ⟨d0, d1, d2, d3, d4, d5, d6, d7⟩ := F.cellsOnly (Only.refl wr g)
    by_cases hlt : y < ht
    · go_wp2
      go_loopw [13] (fun i wr => ∃ (x : Nat) (L : List Int), x ≤ wd ∧ i = .int .i64 (x : Int) ∧ FI w wr w2.heap.size g bb off n c a b M P wd ht M N c2 (cropf a xo yo wd P) L (y * wd + x)) (fun i _ => wd - (intOf i).toNat)
      case atStart => exact ⟨0, _, Nat.zero_le _, rfl, F⟩
      case round =>
        clear F d0 d1 d2 d3 d4 d5 d6 d7
        obtain ⟨x, L, hx, rfl, F⟩ := hrel
        obtain ⟨d0, d1, d2, d3, d4, d5, d6, d7⟩ := F.cellsOnly (Only.refl wr g)
        by_cases hltx : x < wd
        · obtain ⟨q, hq⟩ : ∃ q, y * wd = q := ⟨_, rfl⟩
          obtain ⟨q2, hq2⟩ : ∃ q2, (yo + y) * a = q2 := ⟨_, rfl⟩
          obtain ⟨m, hm⟩ : ∃ m : Nat, xo + x = m := ⟨_, rfl⟩
          obtain ⟨m2, hm2⟩ : ∃ m : Nat, yo + y = m := ⟨_, rfl⟩
          have hmi : (xo : Int) + (x : Int) = (m : Int) := by omega
          have hmj : (yo : Int) + (y : Int) = (m2 : Int) := by omega
          have hqi : (y : Int) * (wd : Int) = (q : Int) := by rw [← hq]; simp
          have hl1 : q + x < N := by rw [← hq, ← hN0.out]; exact row_lt hlt hltx
          have hl2 : q2 + m < n := by rw [← hq2, ← hfin.out]; exact row_lt (by omega) (by omega)
          have hval : cropf a xo yo wd P (y * wd + x) = nth P (q2 + m) := by rw [cropf_at hltx, hq2, hm]
          obtain ⟨v, hv⟩ : ∃ v, nth P (q2 + m) = v := ⟨_, rfl⟩
          have htc := F.bl.cell (i := q + x) (by rw [F.fill.1]; exact hl1)
          have htf := F.bl.frozen (q + x)
          obtain ⟨u, hu⟩ : ∃ u, nth L (q + x) = u := ⟨_, rfl⟩
          rw [hu] at htc
          have hgw := F.bl.lt
          have keepS := Lib.hid (fun w' (ho : Only wr w' g) => F.cellsOnly ho)
          have keepT : ∀ w', Below wr.heap.size wr w' → w'.cell? ⟨g, q + x, none⟩ = some (.int .i64 u) ∧ w'.frozen? ⟨g, q + x, none⟩ = false ∧ wr.heap.size ≤ w'.heap.size := fun w' hb => ⟨(hb.cell (p := ⟨g, q + x, none⟩) hgw).trans htc, (hb.frozen (p := ⟨g, q + x, none⟩) hgw).trans htf, hb.size⟩
          have hsl := Lib.hid (fun w' (hb : Below wr.heap.size wr w') => F.sl.below hb (Nat.le_refl _))
          have hm64 : m ≤ 128 := by omega
          have hm264 : m2 ≤ 128 := by omega
          rw [hm2] at hq2
          replace keepT := Lib.hid keepT
          replace hval := Lib.hid (hval.trans hv)
          replace hq := Lib.hid hq
          replace hq2 := Lib.hid hq2
          replace hm := Lib.hid hm
          replace hm2 := Lib.hid hm2
          replace hu := Lib.hid hu
          have hv := Lib.hid hv
          clear htc htf
          have hwA : IntKind.i64.wrap (m2 : Int) = (m2 : Int) := IntWalk.i64_in _ (by omega)
          have hwB : IntKind.i64.wrap (m : Int) = (m : Int) := IntWalk.i64_in _ (by omega)
          have hwC : IntKind.i64.wrap (q : Int) = (q : Int) := IntWalk.i64_in _ (by omega)
          have hwD : IntKind.i64.wrap ((q : Int) + (x : Int)) = (q : Int) + (x : Int) := IntWalk.i64_in _ (by omega)
          have hwE : (0 : Int) ≤ (q : Int) + (x : Int) := by omega
          have hwF : ((q : Int) + (x : Int)).toNat = q + x := by omega
          have hwG : (q : Int) + (x : Int) < (N : Int) := by omega
          go_wp2
          go_region_held3 (fun w' => w'.cell? ⟨w.heap.size, 0, none⟩ = some (.int .i64 a) ∧ w'.cell? ⟨w.heap.size, 1, none⟩ = some (.int .i64 b) ∧ w'.cell? ⟨w.heap.size, 2, none⟩ = some (.int .i64 M) ∧ w'.cell? ⟨w.heap.size, 3, none⟩ = some (.slice (some ⟨bb, off, none⟩) n c) ∧ w'.cell? ⟨w2.heap.size, 0, none⟩ = some (.int .i64 wd) ∧ w'.cell? ⟨w2.heap.size, 1, none⟩ = some (.int .i64 ht) ∧ w'.cell? ⟨w2.heap.size, 2, none⟩ = some (.int .i64 M) ∧ w'.cell? ⟨w2.heap.size, 3, none⟩ = some (.slice (some ⟨g, 0, none⟩) N c2))
            (exact keepS.out _ (by repeat (first | refine Only.drew ?_ | refine Only.setCell ?_ rfl _ | exact Only.of_below qB1 g | exact Only.refl wr g)))
            (first | (go_at_call 24; refine (rAt_at m m2 q2 (hsl.out _ (by repeat (first | refine Below.drew ?_ | exact Below.refl _ _))) rfl rfl hq2.out.symm hl2 (by omega) hv.out).mono ?_; rintro e qw1 ⟨rfl, qh1⟩; have qB1 : Below wr.heap.size wr qw1 := Below.trans (by repeat (first | refine Below.drew ?_ | exact Below.refl _ _)) (qh1.mono (by first | omega | (simp <;> omega))); obtain ⟨t1, t2, t3⟩ := keepT.out _ qB1))
          go_wp2
          go_roundw
          case rel => exact ⟨x + 1, _, hltx, by go_num, F.next qB1 (by rw [hq.out]; exact hl1) hval.out (by rw [hq.out]) (by omega)⟩
          case measure => simp [intOf]; omega
        · obtain rfl : x = wd := by omega
          go_wp2
          go_roundw
          case rel => exact ⟨y + 1, L, hlt, by go_num, F.at_ (by rw [Nat.add_mul, Nat.one_mul])⟩
          case measure => simp [intOf]; omega
    · obtain rfl : y = ht := by omega
      obtain ⟨⟨d8, d9, d10, d11⟩, f8, f9, f10, f11⟩ := F.k1.cells
      have hdone := Lib.hid ((F.fill.at_ hN0.out).done)
      have hgne := F.gne
      have hbz := F.bl
      have hB := F.below
      go_wp2
      refine bodyPost_ret (v := .agg #[.int .i64 wd, .int .i64 y, .int .i64 M, .slice (some ⟨g, 0, none⟩) N c2]) (by simp [results, Try.results28, go_sem, d8, d9, d10, d11, f8, f9, f10, f11]) rfl ?_
      refine ⟨g, N, c2, rfl, by omega, ?_, by rw [cropped, tab_length, hN0.out], hc1, hc2, ?_⟩
      · repeat (refine Bl.far ?_ (by simp <;> omega) _)
        rw [cropped, hN0.out, ← hdone.out]
        exact hbz
      · repeat (refine Below.setCell ?_ (by simp <;> omega) _)
        exact hB

end Go.Proofs.Ytehnemdifkjhcaa
