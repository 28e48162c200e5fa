/-
  Walks: Map of package raster and of the reference.
-/
import Derived.Test.YtehnemdifkjhcaaRaM
set_option linter.unusedSimpArgs false
set_option linter.unusedVariables false
namespace Go.Proofs.Ytehnemdifkjhcaa
open Go.RowKit

theorem map1_pred (M : Int) (B : Nat) (w : World) (hB : B < w.heap.size) (hc : w.cell? ⟨B, 2, none⟩ = some (.int .i64 M)) :
    PredI 57 #[.pointer (some ⟨B, 0, none⟩)] (fun x => !win x 0 M) w := fun W x hb => by
  have hc' : W.cell? ⟨B, 2, none⟩ = some (.int .i64 M) := (hb.cell (p := ⟨B, 2, none⟩) hB).trans hc
  show Calls Try.prog 57 #[.int .i64 x, .pointer (some ⟨B, 0, none⟩)] W _
  go_enter Try.func57, Try.ntmps57
  go_wp2_with (go_at_call 49; refine (within_any _ _ _ _).mono ?_; rintro e w' ⟨rfl, rfl⟩)
  go_ret
  exact ⟨rfl, Below.refl _ _⟩
theorem enters_map1 : ∀ args w, (callFunc 57 args).run Try.prog w = .ok (.enter 57 args) w := enters_of Try.func57 (by kernel_rfl) rfl

/-- The number of a table at a grey value. -/
def tabf (T : List Int) (x : Int) : Int := nth T x.toNat
theorem map2_at (T : List Int) (A : Option Addr) (n c : Nat) (m : Nat) (P : List Int) (B : Nat) (w : World) (hB : B < w.heap.size) (hc : w.cell? ⟨B, 0, none⟩ = some (.slice A n c)) (hs : Sl w A n c T) (hP : ∀ x ∈ P, 0 ≤ x ∧ x ≤ (m : Int)) (hn : n = m + 1) :
    MapI 59 #[.pointer (some ⟨B, 0, none⟩)] (tabf T) P w := fun W x hx hb => by
  have hc' : W.cell? ⟨B, 0, none⟩ = some (.slice A n c) := (hb.cell (p := ⟨B, 0, none⟩) hB).trans hc
  obtain ⟨h0, h1⟩ := hP x hx
  obtain ⟨v, rfl⟩ := Int.eq_ofNat_of_zero_le h0
  obtain ⟨b, off, rfl, hbw, hcc⟩ := (hs.below hb (Nat.le_refl _)).at_ (by omega)
  have hcell := hcc v (by omega)
  have hcap := hs.le_cap
  have hcl := hs.cap_le
  have hvn : (v : Int) < (n : Int) := by omega
  have hv : tabf T (v : Int) = nth T v := rfl
  rw [hv]
  generalize nth T v = u at hcell
  clear hcc hv
  replace hn := Lib.hid hn
  show Calls Try.prog 59 #[.int .i64 v, .pointer (some ⟨B, 0, none⟩)] W _
  go_enter Try.func59, Try.ntmps59
  go_wp2
  go_ret
  exact ⟨rfl, Below.refl _ _⟩
theorem enters_map2 : ∀ args w, (callFunc 59 args).run Try.prog w = .ok (.enter 59 args) w := enters_of Try.func59 (by kernel_rfl) rfl

section
variable (W H M : Int) (A : Option Addr) (n c : Nat) (P : List Int) (A2 : Option Addr) (n2 c2 : Nat) (T : List Int) (w : World)

/-- The world in which Map begins. -/
abbrev mapW (w : World) : World := ((w.alloc (.cells #[.int .i64 W, .int .i64 H, .int .i64 M, .slice A n c] 24)).alloc (.cells #[.slice A2 n2 c2] 22)).alloc (.cells #[.int .i64 0, .int .i64 0, .int .i64 0, .slice none 0 0] 24)
theorem mapW_facts : RB (mapW W H M A n c A2 n2 c2 w) w.heap.size W H M A n c ∧ KB (mapW W H M A n c A2 n2 c2 w) (w.heap.size + 1) #[.slice A2 n2 c2] 22 ∧ RB (mapW W H M A n c A2 n2 c2 w) (w.heap.size + 2) 0 0 0 none 0 0 ∧ Below w.heap.size w (mapW W H M A n c A2 n2 c2 w) ∧ (mapW W H M A n c A2 n2 c2 w).heap.size = w.heap.size + 3 := by
  have k1 : KB _ _ _ _ := (KB.new (w.alloc (.cells #[.int .i64 W, .int .i64 H, .int .i64 M, .slice A n c] 24)) #[.slice A2 n2 c2] 22).alloc (.cells #[.int .i64 0, .int .i64 0, .int .i64 0, .slice none 0 0] 24)
  have k2 := RB.new ((w.alloc (.cells #[.int .i64 W, .int .i64 H, .int .i64 M, .slice A n c] 24)).alloc (.cells #[.slice A2 n2 c2] 22)) 0 0 0 none 0 0
  simp only [World.size_alloc] at k1 k2
  exact ⟨((RB.new w W H M A n c).alloc _).alloc _, k1, k2, (((Below.refl _ w).alloc (Nat.le_refl _) _).alloc (by simp) _).alloc (by simp <;> omega) _, by simp⟩
end

theorem Map_bad (W H M : Int) (A : Option Addr) (n c : Nat) (P : List Int) (A2 : Option Addr) (n2 c2 : Nat) (w : World) (h : Sl w A n c P) (hr : ¬ Ras W H M P) :
    Calls Try.prog 37 #[.agg #[.int .i64 W, .int .i64 H, .int .i64 M, .slice A n c], .slice A2 n2 c2] w (RetE w 1) := by
  obtain ⟨k0, k1, k2, hb, hz⟩ := mapW_facts W H M A n c A2 n2 c2 w
  have hck := Lib.hid (Check_no (h.below hb (Nat.le_refl _)) hr)
  replace hz := Lib.hid hz
  clear h hr
  go_enter Try.func37, Try.ntmps37
  go_wp2_with (go_at_call 13; refine (hck.out).mono ?_; rintro e w1 ⟨rfl, hb2⟩; rw [hz.out] at hb2; obtain ⟨⟨d4, d5, d6, d7⟩, f4, f5, f6, f7⟩ := (k2.below hb2 (by omega)).cells)
  refine bodyPost_ret (v := .tuple #[.agg #[.int .i64 0, .int .i64 0, .int .i64 0, .slice none 0 0], .int .i64 1]) (by simp [results, Try.results37, go_sem, d4, d5, d6, d7, f4, f5, f6, f7]) rfl ⟨rfl, ?_⟩
  repeat (refine Below.setCell ?_ (by simp <;> omega) _)
  exact hb.trans (hb2.mono (by omega))

set_option maxHeartbeats 1600000 in
theorem Map_len (W H M : Int) (A : Option Addr) (n c : Nat) (P : List Int) (A2 : Option Addr) (n2 c2 : Nat) (w : World) (h : Sl w A n c P) (hr : Ras W H M P) (hn : (n2 : Int) ≠ M + 1) :
    Calls Try.prog 37 #[.agg #[.int .i64 W, .int .i64 H, .int .i64 M, .slice A n c], .slice A2 n2 c2] w (RetE w 4) := by
  obtain ⟨k0, k1, k2, hb, hz⟩ := mapW_facts W H M A n c A2 n2 c2 w
  have hck := Lib.hid (Check_ok (h.below hb (Nat.le_refl _)) hr)
  replace hz := Lib.hid hz
  obtain ⟨-, -, hM1, hM2⟩ := hr.1
  have hne : ((n2 : Int) != M + 1) = true := by rw [bne_iff_ne]; exact hn
  clear h hr hn
  go_enter Try.func37, Try.ntmps37
  go_wp2_with (go_at_call 13; refine (hck.out).mono ?_; rintro e w1 ⟨rfl, hb2⟩; rw [hz.out] at hb2; replace k1 := k1.below hb2 (by omega); have t0 := k1.cell 0 rfl; obtain ⟨⟨d0, d1, d2, d3⟩, f0, f1, f2, f3⟩ := (k0.below hb2 (by omega)).cells; obtain ⟨⟨d4, d5, d6, d7⟩, f4, f5, f6, f7⟩ := (k2.below hb2 (by omega)).cells)
  refine bodyPost_ret (v := .tuple #[.agg #[.int .i64 0, .int .i64 0, .int .i64 0, .slice none 0 0], .int .i64 4]) (by simp [results, Try.results37, go_sem, d4, d5, d6, d7, f4, f5, f6, f7]) rfl ⟨rfl, ?_⟩
  repeat (refine Below.setCell ?_ (by simp <;> omega) _)
  exact hb.trans (hb2.mono (by omega))

set_option maxHeartbeats 1600000 in
theorem Map_out (W H M : Int) (A : Option Addr) (n c : Nat) (P : List Int) (A2 : Option Addr) (n2 c2 : Nat) (T : List Int) (w : World) (h : Sl w A n c P) (h2 : Sl w A2 n2 c2 T) (hr : Ras W H M P) (hn : (n2 : Int) = M + 1) (ht : (T.any fun x => !win x 0 M) = true) :
    Calls Try.prog 37 #[.agg #[.int .i64 W, .int .i64 H, .int .i64 M, .slice A n c], .slice A2 n2 c2] w (RetE w 2) := by
  obtain ⟨k0, k1, k2, hb, hz⟩ := mapW_facts W H M A n c A2 n2 c2 w
  have hck := Lib.hid (Check_ok (h.below hb (Nat.le_refl _)) hr)
  replace hz := Lib.hid hz
  obtain ⟨-, -, hM1, hM2⟩ := hr.1
  have hne : ((n2 : Int) != M + 1) = false := by rw [hn]; simp
  have hcon := Lib.hid (fun (W' : World) (hW : Below w.heap.size w W') (hk : RB W' w.heap.size W H M A n c) => ContainsFunc_ints _ _ _ enters_map1 A2 n2 c2 T W' (h2.below hW (Nat.le_refl _)) (map1_pred M w.heap.size W' hk.lt hk.cells.1.2.2.1) ht)
  clear h h2 hr hn ht
  go_enter Try.func37, Try.ntmps37
  go_wp2_with (first | (go_at_call 13; refine (hck.out).mono ?_; rintro e w1 ⟨rfl, hb2⟩; rw [hz.out] at hb2; have z1 := hb2.size; rw [hz.out] at z1; replace k1 := k1.below hb2 (by omega); replace k0 := k0.below hb2 (by omega); replace k2 := k2.below hb2 (by omega); have hB1 := hb.trans (hb2.mono (by omega)); have t0 := k1.cell 0 rfl; obtain ⟨⟨d0, d1, d2, d3⟩, f0, f1, f2, f3⟩ := k0.cells) | (go_at_call 38; refine (hcon.out _ hB1 k0).mono ?_; rintro e w2 ⟨rfl, hb3⟩; have hB2 := hB1.trans (hb3.mono (by omega)); obtain ⟨⟨d4, d5, d6, d7⟩, f4, f5, f6, f7⟩ := (k2.below hb3 (by omega)).cells))
  refine bodyPost_ret (v := .tuple #[.agg #[.int .i64 0, .int .i64 0, .int .i64 0, .slice none 0 0], .int .i64 2]) (by simp [results, Try.results37, go_sem, d4, d5, d6, d7, f4, f5, f6, f7]) rfl ⟨rfl, ?_⟩
  repeat (refine Below.setCell ?_ (by simp <;> omega) _)
  exact hB2

set_option maxHeartbeats 3200000 in
theorem Map_yes (a b m : Nat) (A : Option Addr) (n c : Nat) (P : List Int) (A2 : Option Addr) (n2 c2 : Nat) (T : List Int) (w : World) (h : Sl w A n c P) (h2 : Sl w A2 n2 c2 T) (hr : Ras a b m P) (hn : n2 = m + 1) (ht : (T.any fun x => !win x 0 m) = false) :
    Calls Try.prog 37 #[.agg #[.int .i64 a, .int .i64 b, .int .i64 m, .slice A n c], .slice A2 n2 c2] w (RetR w a b m (mapped (tabf T) P)) := by
  obtain ⟨k0, k1, k2, hb, hz⟩ := mapW_facts a b m A n c A2 n2 c2 w
  have hck := Lib.hid (Check_ok (h.below hb (Nat.le_refl _)) hr)
  replace hz := Lib.hid hz
  obtain ⟨-, -, hM1, hM2⟩ := hr.1
  have hne : ((n2 : Int) != (m : Int) + 1) = false := by rw [hn]; simp
  have hcon := Lib.hid (fun (W' : World) (hW : Below w.heap.size w W') (hk : RB W' w.heap.size a b m A n c) => ContainsFunc_ints _ _ _ enters_map1 A2 n2 c2 T W' (h2.below hW (Nat.le_refl _)) (map1_pred m w.heap.size W' hk.lt hk.cells.1.2.2.1) ht)
  have hrep := Lib.hid (fun (W' : World) (hW : Below w.heap.size w W') (hk : KB W' (w.heap.size + 1) #[.slice A2 n2 c2] 22) => replaced_any 59 _ (tabf T) enters_map2 a b m m A n c P W' (h.below hW (Nat.le_refl _)) hr (map2_at T A2 n2 c2 m P (w.heap.size + 1) W' hk.lt (hk.cell 0 rfl) (h2.below hW (Nat.le_refl _)) hr.2.2 hn))
  clear h h2 hr ht
  replace hn := Lib.hid hn
  go_enter Try.func37, Try.ntmps37
  go_wp2_with (first | (go_at_call 13; refine (hck.out).mono ?_; rintro e w1 ⟨rfl, hb2⟩; rw [hz.out] at hb2; have z1 := hb2.size; rw [hz.out] at z1; replace k1 := k1.below hb2 (by omega); replace k0 := k0.below hb2 (by omega); replace k2 := k2.below hb2 (by omega); have hB1 := hb.trans (hb2.mono (by omega)); have t0 := k1.cell 0 rfl; obtain ⟨⟨d0, d1, d2, d3⟩, f0, f1, f2, f3⟩ := k0.cells) | (go_at_call 38; refine (hcon.out _ hB1 k0).mono ?_; rintro e w2 ⟨rfl, hb3⟩; have hB2 := hB1.trans (hb3.mono (by omega)); have z2 := hb3.size; replace k1 := k1.below hb3 (by omega); replace k0 := k0.below hb3 (by omega); replace k2 := k2.below hb3 (by omega); clear t0 d0 d1 d2 d3 f0 f1 f2 f3; have t0 := k1.cell 0 rfl; obtain ⟨⟨d0, d1, d2, d3⟩, f0, f1, f2, f3⟩ := k0.cells) | (go_at_call 58; refine (hrep.out _ hB2 k1).mono ?_; rintro e w3 ⟨g, n3, c3, rfl, hg, hbl, hn3, hc3, hm3, hb4⟩; replace hn3 := Lib.hid hn3; have hB3 := hB2.trans (hb4.mono (by omega)); obtain ⟨⟨d4, d5, d6, d7⟩, f4, f5, f6, f7⟩ := (k2.below hb4 (by omega)).cells))
  refine bodyPost_ret (v := .tuple #[.agg #[.int .i64 a, .int .i64 b, .int .i64 m, .slice (some ⟨g, 0, none⟩) n3 c3], .int .i64 0]) (by simp [results, Try.results37, go_sem, d4, d5, d6, d7, f4, f5, f6, f7]) rfl ?_
  refine ⟨_, _, _, rfl, ?_, ?_⟩
  · refine Bl.sl0 ?_ hn3.out hc3 hm3
    iterate 4 (refine Bl.far ?_ (by simp <;> omega) _)
    exact hbl
  · repeat (refine Below.setCell ?_ (by simp <;> omega) _)
    exact hB3

set_option maxRecDepth 100000 in
set_option maxHeartbeats 4000000 in
/-- Map of the reference. -/
theorem rMap_yes (a b m : Nat) (A : Option Addr) (n c : Nat) (P : List Int) (A2 : Option Addr) (n2 c3 : Nat) (T : List Int) (w : World) (h : Sl w A n c P) (h2 : Sl w A2 n2 c3 T) (hA : A = none → c = 0) (hr : Ras a b m P) (hn : n2 = m + 1) :
    Calls Try.prog 40 #[.agg #[.int .i64 a, .int .i64 b, .int .i64 m, .slice A n c], .slice A2 n2 c3] w (RetF w a b m (mapped (tabf T) P)) := by
  have hb0 := ((Below.refl w.heap.size w).alloc (Nat.le_refl _) (.cells #[.int .i64 a, .int .i64 b, .int .i64 m, .slice A n c] 24)).alloc (by simp) (.cells #[.int .i64 0, .int .i64 0, .int .i64 0, .slice none 0 0] 24)
  have hs := (h.alloc (.cells #[.int .i64 a, .int .i64 b, .int .i64 m, .slice A n c] 24)).alloc (.cells #[.int .i64 0, .int .i64 0, .int .i64 0, .slice none 0 0] 24)
  have k0 := (RB.new w a b m A n c).alloc (.cells #[.int .i64 0, .int .i64 0, .int .i64 0, .slice none 0 0] 24)
  have k1 := RB.new (w.alloc (.cells #[.int .i64 a, .int .i64 b, .int .i64 m, .slice A n c] 24)) 0 0 0 none 0 0
  simp only [World.size_alloc] at k1
  obtain ⟨a', b', ea, eb, ⟨ha1, ha2⟩, ⟨hb1, hb2⟩, ⟨hM1, hM2⟩, hab, hl1, hl2⟩ := hr.nat
  have hnP := hs.len
  have hgr := Lib.hid hr.2.2
  obtain ⟨bb, off, rfl, hbbw, -⟩ := h.at_ (by rw [h.len]; exact hl2)
  have hncap := hs.le_cap
  have hccap := hs.cap_le
  have hn4 : n ≤ 4096 := by omega
  have hnew := Lib.hid (fun _ : Unit => rCopy_any a b m _ n c P _ hs hA (by omega))
  have hPn := Lib.hid hnP
  have hn0 : 0 < n := by omega
  clear hr hab hnP hl1 hl2 h hA ea eb
  obtain ⟨tb, toff, rfl, htbw, -⟩ := h2.at_ (by omega)
  have hcap2 := h2.le_cap
  have hcl2 := h2.cap_le
  have ht := Lib.hid (fun (w' : World) (hb : Below w.heap.size w w') => h2.below hb (Nat.le_refl _))
  have hn' := Lib.hid hn
  have hnm : m < n2 := by omega
  clear h2 hn
  go_enter Try.func40, Try.ntmps40
  go_wp2_with (go_at_call 17; refine (hnew.out ()).mono ?_; rintro e w2 hret; obtain ⟨g, N, c2, rfl, hg, hbz, hN, hc1, hc2, hb4⟩ := hret.ret (by rw [← hPn.out]; exact hn0); obtain rfl : N = n := hN.trans hPn.out.symm; clear hN; simp only [World.size_alloc] at hg hb4; replace k0 := k0.below hb4 (by omega); replace k1 := k1.below hb4 (by omega); replace hs := hs.below hb4 (by simp); replace hb0 := hb0.trans (hb4.mono (by omega)); clear hb4 hret)
  have hgB := hbz.lt
  have k5 := RB.new w2 a b m (some ⟨g, 0, none⟩) N c2
  replace k0 := k0.alloc (.cells #[.int .i64 a, .int .i64 b, .int .i64 m, .slice (some ⟨g, 0, none⟩) N c2] 24)
  replace k1 := k1.alloc (.cells #[.int .i64 a, .int .i64 b, .int .i64 m, .slice (some ⟨g, 0, none⟩) N c2] 24)
  replace hbz := hbz.alloc (.cells #[.int .i64 a, .int .i64 b, .int .i64 m, .slice (some ⟨g, 0, none⟩) N c2] 24)
  replace hs := hs.alloc (.cells #[.int .i64 a, .int .i64 b, .int .i64 m, .slice (some ⟨g, 0, none⟩) N c2] 24)
  replace hb0 := hb0.alloc hb0.size (.cells #[.int .i64 a, .int .i64 b, .int .i64 m, .slice (some ⟨g, 0, none⟩) N c2] 24)
  have F0 : FI w _ w2.heap.size g bb off N c a b m P a b m N c2 (fun i => tabf T (nth P i)) _ 0 := ⟨k0, k1, k5, hbz, Fill.start hPn.out.symm, hs, hb0, by simp, by omega, hgB, hbbw⟩
  clear k0 k1 k5 hbz hs hb0 hnew
  go_loopw [6] (fun i wr => ∃ (j : Nat) (L : List Int), j ≤ N ∧ i = .int .i64 (j : Int) ∧ FI w wr w2.heap.size g bb off N c a b m P a b m N c2 (fun i => tabf T (nth P i)) L j) (fun i _ => N - (intOf i).toNat)
  case atStart => exact ⟨0, _, Nat.zero_le _, rfl, F0⟩
  case round =>
    clear F0
    obtain ⟨j, L, hj, rfl, F⟩ := hrel
    obtain ⟨d0, d1, d2, d3, d4, d5, d6, d7⟩ := F.cellsOnly (Only.refl wr g)
    by_cases hlt : j < N
    · obtain ⟨b', off', e, hbw', hcc⟩ := F.sl.at_ (by omega)
      cases e
      have hcell := hcc j hlt
      clear hcc
      obtain ⟨v, hv⟩ : ∃ v, nth P j = v := ⟨_, rfl⟩
      have hvb := nth_bounds (by omega) hgr.out j
      rw [hv] at hcell hvb
      obtain ⟨v', rfl⟩ := Int.eq_ofNat_of_zero_le hvb.1
      have hvm : v' < n2 := by omega
      obtain ⟨tb', toff', e, htbw', htc⟩ := (ht.out wr F.below).at_ (by omega)
      cases e
      have htcell := htc v' hvm
      clear htc
      obtain ⟨u, hu⟩ : ∃ u, nth T v' = u := ⟨_, rfl⟩
      rw [hu] at htcell
      have hval : tabf T (nth P j) = u := by rw [hv]; exact hu
      have hwc := F.bl.cell (i := j) (by rw [F.fill.1]; exact hlt)
      have hwf := F.bl.frozen j
      obtain ⟨z, hz⟩ : ∃ z, nth L j = z := ⟨_, rfl⟩
      rw [hz] at hwc
      have hgw := F.bl.lt
      have hgne := F.gne
      have hkr := F.k0.lt
      have keepS : ∀ w', Only wr w' g → w'.cell? ⟨w2.heap.size, 3, none⟩ = some (.slice (some ⟨g, 0, none⟩) N c2) ∧ w'.cell? ⟨w.heap.size, 3, none⟩ = some (.slice (some ⟨bb, off, none⟩) N c) ∧ w'.cell? ⟨bb, off + j, none⟩ = some (.int .i64 v') ∧ w'.cell? ⟨tb, toff + v', none⟩ = some (.int .i64 u) := fun w' ho => by
        have hh := F.cellsOnly ho
        exact ⟨hh.2.2.2.2.2.2.2, hh.2.2.2.1, (F.only ho _ _ hbw' (by omega)).trans hcell, (F.only ho _ _ htbw' (by omega)).trans htcell⟩
      replace keepS := Lib.hid keepS
      replace hval := Lib.hid hval
      replace hu := Lib.hid hu
      replace hv := Lib.hid hv
      replace hz := Lib.hid hz
      have i1 : (0 : Int) ≤ (j : Int) := by omega
      have i2 : (j : Int) < (N : Int) := by omega
      have i3 : (0 : Int) ≤ (v' : Int) := by omega
      have i4 : (v' : Int) < (n2 : Int) := by omega
      go_wp2
      go_region_held3 (fun w' => w'.cell? ⟨w2.heap.size, 3, none⟩ = some (.slice (some ⟨g, 0, none⟩) N c2) ∧ w'.cell? ⟨w.heap.size, 3, none⟩ = some (.slice (some ⟨bb, off, none⟩) N c) ∧ w'.cell? ⟨bb, off + j, none⟩ = some (.int .i64 v') ∧ w'.cell? ⟨tb, toff + v', none⟩ = some (.int .i64 u))
        (exact keepS.out _ (by repeat (first | exact Only.refl wr g | refine Only.drew ?_ | refine Only.setCell ?_ rfl _)))
        (fail)
      go_wp2
      go_roundw
      case rel => exact ⟨j + 1, _, hlt, by go_num, (F.store hlt hval.out rfl rfl).later (below_drewN (Below.refl _ _) 1)⟩
      case measure => simp [intOf]; omega
    · obtain rfl : j = N := by omega
      obtain ⟨⟨d8, d9, d10, d11⟩, f8, f9, f10, f11⟩ := F.k1.cells
      have hdone := Lib.hid F.fill.done
      have hgne := F.gne
      have hbz := F.bl
      have hB := F.below
      go_wp2
      refine bodyPost_ret (v := .agg #[.int .i64 a, .int .i64 b, .int .i64 m, .slice (some ⟨g, 0, none⟩) j c2]) (by simp [results, Try.results40, go_sem, d8, d9, d10, d11, f8, f9, f10, f11]) rfl ?_
      refine ⟨g, j, c2, rfl, by omega, ?_, by rw [mapped_length]; exact hPn.out, hc1, hc2, ?_⟩
      · repeat (refine Bl.far ?_ (by simp <;> omega) _)
        rw [mapped, ← hPn.out, ← hdone.out]
        exact hbz
      · repeat (refine Below.setCell ?_ (by simp <;> omega) _)
        exact hB

end Go.Proofs.Ytehnemdifkjhcaa
