/-
  Walks: isTable, Sum of package raster; Sum of the reference.
-/
import Derived.Test.YtehnemdifkjhcaaRaO
set_option linter.unusedSimpArgs false
set_option linter.unusedVariables false
namespace Go.Proofs.Ytehnemdifkjhcaa
open Go.RowKit

/-- A table of m rows of k numbers each, in memory: where the rows lie. -/
def TC (w : World) (T m k : Nat) (Gf : Nat → Nat) : Prop := ∀ j, j < m → w.cell? ⟨T, j, none⟩ = some (.slice (some ⟨Gf j, 0, none⟩) k k)
theorem TC.below {w w' : World} {T m k : Nat} {Gf : Nat → Nat} (h : TC w T m k Gf) (hb : Below w.heap.size w w') (hT : T < w.heap.size) : TC w' T m k Gf := fun j hj => (hb.cell (p := ⟨T, j, none⟩) hT).trans (h j hj)
theorem TC.of_tb {w : World} {T a b : Nat} {G : List Nat} (h : TB w T a b G) (hl : G.length = b + 1) : TC w T (b + 1) (a + 1) (fun j => G.getD j 0) := fun j hj => by
  rw [h.cell (by rw [hl]; exact hj), rowV]
  simp [List.getD, List.getElem?_eq_getElem (show j < G.length by rw [hl]; exact hj)]

theorem enters_isTable : ∀ args w, (callFunc 65 args).run Try.prog w = .ok (.enter 65 args) w := enters_of Try.func65 (by kernel_rfl) rfl
theorem isTable1_at (T m k g g0 B : Nat) (w : World) (hm : 0 < m) (hm2 : m ≤ 1000000) (hk : k ≤ 1000000) (hc : w.cell? ⟨B, 0, none⟩ = some (.slice (some ⟨T, 0, none⟩) m m)) (hc2 : w.cell? ⟨T, 0, none⟩ = some (.slice (some ⟨g0, 0, none⟩) k k)) :
    Calls Try.prog 65 #[.slice (some ⟨g, 0, none⟩) k k, .pointer (some ⟨B, 0, none⟩)] w fun e w' => e = .returned (.bool false) ∧ w = w' := by
  have hkk : ((k : Int) != (k : Int)) = false := by simp
  have i1 : (0 : Int) < (m : Int) := by omega
  go_enter Try.func65, Try.ntmps65
  go_wp2
  go_ret
  exact ⟨rfl, rfl⟩

set_option maxHeartbeats 1600000 in
theorem IndexFunc_rows (T m k B : Nat) (Gf : Nat → Nat) (w : World) (hm : 0 < m) (hm2 : m ≤ 1000000) (hk : k ≤ 1000000) (hc : w.cell? ⟨B, 0, none⟩ = some (.slice (some ⟨T, 0, none⟩) m m)) (hT : TC w T m k Gf) :
    Calls Try.prog 67 #[.slice (some ⟨T, 0, none⟩) m m, .func (.func 65) #[] #[.pointer (some ⟨B, 0, none⟩)]] w fun e w' => e = .returned (.int .i64 (-1)) ∧ w = w' := by
  have eg := enters_isTable
  have h0 := hT 0 hm
  replace hT := Lib.hid hT
  go_enter Try.func67, Try.ntmps67
  go_wp2
  go_loop [8] (fun i => ∃ j : Nat, j ≤ m ∧ i = .int .i64 j) (fun i => m - (intOf i).toNat)
  case atStart => exact ⟨0, Nat.zero_le _, rfl⟩
  case round =>
    obtain ⟨j, hj, rfl⟩ := hrel
    by_cases hlt : j < m
    · have hcell := hT.out j hlt
      have hlt' : (j : Int) < (m : Int) := by omega
      obtain ⟨gj, hgj⟩ : ∃ gj, Gf j = gj := ⟨_, rfl⟩
      rw [hgj] at hcell
      replace hgj := Lib.hid hgj
      go_wp2_with (go_at_fn 65; refine (isTable1_at T m k gj (Gf 0) B _ hm hm2 hk hc h0).mono ?_; rintro e w' ⟨rfl, rfl⟩)
      go_round
      case rel => exact ⟨j + 1, hlt, by go_num⟩
      case measure => simp [intOf]; omega
    · have hge : (m : Int) ≤ (j : Int) := by omega
      go_wp2
      go_ret
      exact ⟨rfl, rfl⟩

theorem ContainsFunc_rows (T m k B : Nat) (Gf : Nat → Nat) (w : World) (hm : 0 < m) (hm2 : m ≤ 1000000) (hk : k ≤ 1000000) (hc : w.cell? ⟨B, 0, none⟩ = some (.slice (some ⟨T, 0, none⟩) m m)) (hT : TC w T m k Gf) :
    Calls Try.prog 66 #[.slice (some ⟨T, 0, none⟩) m m, .func (.func 65) #[] #[.pointer (some ⟨B, 0, none⟩)]] w fun e w' => e = .returned (.bool false) ∧ w = w' := by
  have hcon := Lib.hid (IndexFunc_rows T m k B Gf w hm hm2 hk hc hT)
  clear hT
  go_enter Try.func66, Try.ntmps66
  go_wp2_with (go_at_call 67; refine hcon.out.mono ?_; rintro e w' ⟨rfl, rfl⟩)
  go_ret
  exact ⟨rfl, rfl⟩

set_option maxHeartbeats 1600000 in
theorem isTable_yes (T m k : Nat) (Gf : Nat → Nat) (w : World) (hm : 0 < m) (hm2 : m ≤ 1000000) (hk0 : 0 < k) (hk : k ≤ 1000000) (hT : TC w T m k Gf) :
    Calls Try.prog 62 #[.slice (some ⟨T, 0, none⟩) m m] w fun e w' => e = .returned (.bool true) ∧ Below w.heap.size w w' := by
  have hTl : T < w.heap.size := World.block_lt_of_cell? w _ (hT 0 hm)
  have hB := (Below.refl w.heap.size w).alloc (Nat.le_refl _) (.cells #[.slice (some ⟨T, 0, none⟩) m m] 63)
  have hT1 := hT.below hB hTl
  have h0 := hT1 0 hm
  have k1 : KB _ _ _ _ := KB.new w #[.slice (some ⟨T, 0, none⟩) m m] 63
  have hcon := Lib.hid (ContainsFunc_rows T m k w.heap.size Gf _ hm hm2 hk (k1.cell 0 rfl) hT1)
  have i1 : (0 : Int) < (m : Int) := by omega
  have i2 : (0 : Int) < (k : Int) := by omega
  clear hT hT1 k1
  go_enter Try.func62, Try.ntmps62
  go_wp2_with (go_at_call 66; refine hcon.out.mono ?_; rintro e w' ⟨rfl, rfl⟩)
  go_ret
  exact ⟨rfl, hB⟩

set_option maxHeartbeats 1600000 in
theorem Sum_out (T a b : Nat) (Gf : Nat → Nat) (x y wd ht : Int) (w : World) (ha : a ≤ 64) (hb : b ≤ 64) (hT : TC w T (b + 1) (a + 1) Gf)
    (hx : -9223372036854775808 ≤ x ∧ x ≤ 9223372036854775807) (hy : -9223372036854775808 ≤ y ∧ y ≤ 9223372036854775807)
    (hno : ¬ ((0 ≤ x ∧ x ≤ a) ∧ (0 ≤ y ∧ y ≤ b) ∧ (0 ≤ wd ∧ wd ≤ a - x) ∧ 0 ≤ ht ∧ ht ≤ b - y)) :
    Calls Try.prog 45 #[.slice (some ⟨T, 0, none⟩) (b + 1) (b + 1), .int .i64 x, .int .i64 y, .int .i64 wd, .int .i64 ht] w (RetN w 0 2) := by
  have hTl : T < w.heap.size := World.block_lt_of_cell? w _ (hT 0 (by omega))
  have hit := Lib.hid (isTable_yes T (b + 1) (a + 1) Gf w (by omega) (by omega) (by omega) (by omega) hT)
  have hT0 := Lib.hid (hT 0 (by omega))
  clear hT
  obtain ⟨b1, h1⟩ : ∃ t, win x 0 a = t := ⟨_, rfl⟩
  cases b1
  · clear hno
    replace h1 := Lib.hid h1
    have tok1 : True := trivial
    go_enter Try.func45, Try.ntmps45
    go_wp2_with (first | (go_at_call 62; refine hit.out.mono ?_; rintro e w1 ⟨rfl, hb1⟩; have t0 := (hb1.cell (p := ⟨T, 0, none⟩) hTl).trans hT0.out) | (go_at_call 49; refine (within_at h1.out _).mono ?_; rintro e w' ⟨rfl, rfl⟩))
    go_ret2
    exact ⟨rfl, hb1⟩
  have x1 := win_iff.1 h1
  obtain ⟨x1a, x1b⟩ := x1
  have x1 : 0 ≤ x ∧ x ≤ (a : Int) := ⟨x1a, x1b⟩
  replace x1 := Lib.hid x1
  obtain ⟨b2, h2⟩ : ∃ t, win y 0 b = t := ⟨_, rfl⟩
  cases b2
  · clear hno
    replace h1 := Lib.hid h1
    have tok1 : True := trivial
    replace h2 := Lib.hid h2
    have tok2 : True := trivial
    go_enter Try.func45, Try.ntmps45
    go_wp2_with (first | (go_at_call 62; refine hit.out.mono ?_; rintro e w1 ⟨rfl, hb1⟩; have t0 := (hb1.cell (p := ⟨T, 0, none⟩) hTl).trans hT0.out) | (go_at_call 49; clear tok1; refine (within_at h1.out _).mono ?_; rintro e w' ⟨rfl, rfl⟩) | (go_at_call 49; refine (within_at h2.out _).mono ?_; rintro e w' ⟨rfl, rfl⟩))
    go_ret2
    exact ⟨rfl, hb1⟩
  have y1 := win_iff.1 h2
  obtain ⟨y1a, y1b⟩ := y1
  have y1 : 0 ≤ y ∧ y ≤ (b : Int) := ⟨y1a, y1b⟩
  replace y1 := Lib.hid y1
  obtain ⟨b3, h3⟩ : ∃ t, win wd 0 (a - x) = t := ⟨_, rfl⟩
  cases b3
  · clear hno
    replace h1 := Lib.hid h1
    have tok1 : True := trivial
    replace h2 := Lib.hid h2
    have tok2 : True := trivial
    replace h3 := Lib.hid h3
    have tok3 : True := trivial
    go_enter Try.func45, Try.ntmps45
    go_wp2_with (first | (go_at_call 62; refine hit.out.mono ?_; rintro e w1 ⟨rfl, hb1⟩; have t0 := (hb1.cell (p := ⟨T, 0, none⟩) hTl).trans hT0.out) | (go_at_call 49; clear tok1; refine (within_at h1.out _).mono ?_; rintro e w' ⟨rfl, rfl⟩) | (go_at_call 49; clear tok2; refine (within_at h2.out _).mono ?_; rintro e w' ⟨rfl, rfl⟩) | (go_at_call 49; refine (within_at h3.out _).mono ?_; rintro e w' ⟨rfl, rfl⟩))
    go_ret2
    exact ⟨rfl, hb1⟩
  obtain ⟨b4, h4⟩ : ∃ t, win ht 0 (b - y) = t := ⟨_, rfl⟩
  cases b4
  · clear hno
    replace h1 := Lib.hid h1
    have tok1 : True := trivial
    replace h2 := Lib.hid h2
    have tok2 : True := trivial
    replace h3 := Lib.hid h3
    have tok3 : True := trivial
    replace h4 := Lib.hid h4
    have tok4 : True := trivial
    go_enter Try.func45, Try.ntmps45
    go_wp2_with (first | (go_at_call 62; refine hit.out.mono ?_; rintro e w1 ⟨rfl, hb1⟩; have t0 := (hb1.cell (p := ⟨T, 0, none⟩) hTl).trans hT0.out) | (go_at_call 49; clear tok1; refine (within_at h1.out _).mono ?_; rintro e w' ⟨rfl, rfl⟩) | (go_at_call 49; clear tok2; refine (within_at h2.out _).mono ?_; rintro e w' ⟨rfl, rfl⟩) | (go_at_call 49; clear tok3; refine (within_at h3.out _).mono ?_; rintro e w' ⟨rfl, rfl⟩) | (go_at_call 49; refine (within_at h4.out _).mono ?_; rintro e w' ⟨rfl, rfl⟩))
    go_ret2
    exact ⟨rfl, hb1⟩
  exact absurd ⟨x1.out, y1.out, win_iff.1 h3, win_iff.1 h4⟩ hno

/-- The numbers of a table are the sums of a raster. -/
def TV (w : World) (a b : Nat) (P : List Int) (Gf : Nat → Nat) : Prop := ∀ j, j < b + 1 → ∀ i, i < a + 1 → w.cell? ⟨Gf j, i, none⟩ = some (.int .i64 (psum P a j i))
theorem TV.below {w w' : World} {a b : Nat} {P : List Int} {Gf : Nat → Nat} (h : TV w a b P Gf) (hb : Below w.heap.size w w') : TV w' a b P Gf := fun j hj i hi =>
  (hb.cell (p := ⟨Gf j, i, none⟩) (World.block_lt_of_cell? w _ (h j hj i hi))).trans (h j hj i hi)
theorem TV.of_rows {w : World} {B T a b : Nat} {P : List Int} {G : List Nat} (h : Rows w B T a P G) (hl : G.length = b + 1) : TV w a b P (fun j => G.getD j 0) := fun j hj i hi => by
  have := (h j (by rw [hl]; exact hj)).2.2.cell (i := i) (by rw [tab_length]; exact hi)
  rw [nth_tab hi] at this
  simp only [List.getD, List.getElem?_eq_getElem (show j < G.length by rw [hl]; exact hj), Option.getD_some]
  exact this

set_option maxRecDepth 100000 in
set_option maxHeartbeats 3200000 in
theorem Sum_in (T a b : Nat) (Gf : Nat → Nat) (P : List Int) (M : Int) (x y wd ht : Nat) (w : World) (ha : a ≤ 64) (hb : b ≤ 64) (hM : 0 ≤ M ∧ M ≤ 65535) (hP : ∀ g ∈ P, 0 ≤ g ∧ g ≤ M) (hT : TC w T (b + 1) (a + 1) Gf) (hV : TV w a b P Gf) (hx : x + wd ≤ a) (hy : y + ht ≤ b)
    {u : Int} (hu : psum P a (y + ht) (x + wd) - psum P a (y + ht) x - psum P a y (x + wd) + psum P a y x = u) :
    Calls Try.prog 45 #[.slice (some ⟨T, 0, none⟩) (b + 1) (b + 1), .int .i64 x, .int .i64 y, .int .i64 wd, .int .i64 ht] w (RetN w u 0) := by
  have hTl : T < w.heap.size := World.block_lt_of_cell? w _ (hT 0 (by omega))
  have hit := Lib.hid (isTable_yes T (b + 1) (a + 1) Gf w (by omega) (by omega) (by omega) (by omega) hT)
  have hT0 := Lib.hid (hT 0 (by omega))
  have hTy := Lib.hid (hT y (by omega))
  have hTz := Lib.hid (hT (y + ht) (by omega))
  obtain ⟨s1, e1⟩ : ∃ s, psum P a (y + ht) (x + wd) = s := ⟨_, rfl⟩
  obtain ⟨s2, e2⟩ : ∃ s, psum P a (y + ht) x = s := ⟨_, rfl⟩
  obtain ⟨s3, e3⟩ : ∃ s, psum P a y (x + wd) = s := ⟨_, rfl⟩
  obtain ⟨s4, e4⟩ : ∃ s, psum P a y x = s := ⟨_, rfl⟩
  have p1 := psum_small hM hP a (x := x + wd) (y := y + ht) (by omega) (by omega)
  have p2 := psum_small hM hP a (x := x) (y := y + ht) (by omega) (by omega)
  have p3 := psum_small hM hP a (x := x + wd) (y := y) (by omega) (by omega)
  have p4 := psum_small hM hP a (x := x) (y := y) (by omega) (by omega)
  have v1 := hV (y + ht) (by omega) (x + wd) (by omega)
  have v2 := hV (y + ht) (by omega) x (by omega)
  have v3 := hV y (by omega) (x + wd) (by omega)
  have v4 := hV y (by omega) x (by omega)
  rw [e1] at p1 v1 hu
  rw [e2] at p2 v2 hu
  rw [e3] at p3 v3 hu
  rw [e4] at p4 v4 hu
  have g1 := World.block_lt_of_cell? w _ v1
  have g3 := World.block_lt_of_cell? w _ v3
  obtain ⟨ga, hga⟩ : ∃ g, Gf y = g := ⟨_, rfl⟩
  obtain ⟨gb, hgb⟩ : ∃ g, Gf (y + ht) = g := ⟨_, rfl⟩
  rw [hga] at v3 v4 hTy g3
  rw [hgb] at v1 v2 hTz g1
  have q1 := Lib.hid v1
  have q2 := Lib.hid v2
  have q3 := Lib.hid v3
  have q4 := Lib.hid v4
  have h1 : win (x : Int) 0 a = true := win_iff.2 (by omega)
  have h2 : win (y : Int) 0 b = true := win_iff.2 (by omega)
  have h3 : win (wd : Int) 0 ((a : Int) - (x : Int)) = true := win_iff.2 (by omega)
  have h4 : win (ht : Int) 0 ((b : Int) - (y : Int)) = true := win_iff.2 (by omega)
  have i1 : IntKind.i64.wrap ((y : Int) + (ht : Int)) = (y : Int) + (ht : Int) := IntWalk.i64_in _ (by omega)
  have i2 : IntKind.i64.wrap ((x : Int) + (wd : Int)) = (x : Int) + (wd : Int) := IntWalk.i64_in _ (by omega)
  have i3 : (0 : Int) ≤ (y : Int) + (ht : Int) := by omega
  have i4 : (0 : Int) ≤ (x : Int) + (wd : Int) := by omega
  have i5 : ((y : Int) + (ht : Int)).toNat = y + ht := by omega
  have i6 : ((x : Int) + (wd : Int)).toNat = x + wd := by omega
  have i7 : (y : Int) + (ht : Int) < (b : Int) + 1 := by omega
  have i8 : (x : Int) + (wd : Int) < (a : Int) + 1 := by omega
  have i9 : (y : Int) < (b : Int) + 1 := by omega
  have i10 : (x : Int) < (a : Int) + 1 := by omega
  have i11 : (0 : Int) ≤ (y : Int) := by omega
  have i12 : (0 : Int) ≤ (x : Int) := by omega
  have j1 : IntKind.i64.wrap (s1 - s2) = s1 - s2 := IntWalk.i64_in _ (by omega)
  have j2 : IntKind.i64.wrap (s1 - s2 - s3) = s1 - s2 - s3 := IntWalk.i64_in _ (by omega)
  have j3 : IntKind.i64.wrap (s1 - s2 - s3 + s4) = s1 - s2 - s3 + s4 := IntWalk.i64_in _ (by omega)
  replace hu := Lib.hid hu
  replace h1 := Lib.hid h1
  replace h2 := Lib.hid h2
  replace h3 := Lib.hid h3
  replace h4 := Lib.hid h4
  have tok1 : True := trivial
  have tok2 : True := trivial
  have tok3 : True := trivial
  clear e1 e2 e3 e4 v1 v2 v3 v4 hga hgb hT hV hP p1 p2 p3 p4 hM
  go_enter Try.func45, Try.ntmps45
  go_wp2_with (first | (go_at_call 62; refine hit.out.mono ?_; rintro e w1 ⟨rfl, hb1⟩; have t0 := (hb1.cell (p := ⟨T, 0, none⟩) hTl).trans hT0.out; have ty := (hb1.cell (p := ⟨T, y, none⟩) hTl).trans hTy.out; have tz := (hb1.cell (p := ⟨T, y + ht, none⟩) hTl).trans hTz.out; have r1 := (hb1.cell (p := ⟨gb, x + wd, none⟩) g1).trans q1.out; have r2 := (hb1.cell (p := ⟨gb, x, none⟩) g1).trans q2.out; have r3 := (hb1.cell (p := ⟨ga, x + wd, none⟩) g3).trans q3.out; have r4 := (hb1.cell (p := ⟨ga, x, none⟩) g3).trans q4.out) | (go_at_call 49; clear tok1; refine (within_at h1.out _).mono ?_; rintro e w' ⟨rfl, rfl⟩) | (go_at_call 49; clear tok2; refine (within_at h2.out _).mono ?_; rintro e w' ⟨rfl, rfl⟩) | (go_at_call 49; clear tok3; refine (within_at h3.out _).mono ?_; rintro e w' ⟨rfl, rfl⟩) | (go_at_call 49; refine (within_at h4.out _).mono ?_; rintro e w' ⟨rfl, rfl⟩))
  go_quiet (fail)
  go_wp2
  go_quiet (fail)
  go_wp2
  go_ret2
  exact ⟨(congrArg (fun t => Ending.returned (.tuple #[.int .i64 t, .int .i64 0])) hu.out :), by first | exact below_drewN hb1 _ | exact below_drewN (below_drewN hb1 _) _⟩

end Go.Proofs.Ytehnemdifkjhcaa
