/-
  Walks: Sum of package raster and of the reference.
-/
import Derived.Test.YtonpnjjfidpoiaaDsRh
set_option linter.unusedSimpArgs false
set_option linter.unusedVariables false
namespace Go.Proofs.Ytonpnjjfidpoiaa
open Go.RowKit

/-- A block that is known whole. -/
def KB (w : World) (g : Nat) (cs : Array Value) (t : TypeId) : Prop := w.heap[g]? = some (.cells cs t (0, 0))
section
variable {w w' : World} {g : Nat} {cs : Array Value} {t : TypeId}
theorem KB.lt (h : KB w g cs t) : g < w.heap.size := (Array.getElem?_eq_some_iff.1 h).1
theorem KB.new (w : World) (cs : Array Value) (t : TypeId) : KB (w.alloc (.cells cs t)) w.heap.size cs t := heap_alloc_new w _
theorem KB.keep (h : KB w g cs t) (hk : w'.heap[g]? = w.heap[g]?) : KB w' g cs t := hk.trans h
theorem KB.alloc (h : KB w g cs t) (o : Obj) : KB (w.alloc o) g cs t := h.keep (Below.heap_alloc w o g h.lt)
theorem KB.below (h : KB w g cs t) {B : Nat} (hb : Below B w w') (hg : g < B) : KB w' g cs t := h.keep (hb.block g hg)
theorem KB.cell (h : KB w g cs t) (i : Nat) {v : Value} (hv : cs[i]? = some v) : w.cell? ⟨g, i, none⟩ = some v := by rw [cell_of_row w g i _ _ _ h]; exact hv
end

/-- A number's zero value and a code. -/
def RetN (w : World) (v code : Int) (e : Ending) (w' : World) : Prop := e = .returned (.tuple #[.int .i64 v, .int .i64 code]) ∧ Below w.heap.size w w'


/-- A table of m rows of k numbers each, in memory: where the rows lie. -/
def TC (w : World) (T m k : Nat) (Gf : Nat → Nat) : Prop := ∀ j, j < m → w.cell? ⟨T, j, none⟩ = some (.slice (some ⟨Gf j, 0, none⟩) k k)
theorem TC.below {w w' : World} {T m k : Nat} {Gf : Nat → Nat} (h : TC w T m k Gf) (hb : Below w.heap.size w w') (hT : T < w.heap.size) : TC w' T m k Gf := fun j hj => (hb.cell (p := ⟨T, j, none⟩) hT).trans (h j hj)
theorem TC.of_tb {w : World} {T a b : Nat} {G : List Nat} (h : TB w T a b G) (hl : G.length = b + 1) : TC w T (b + 1) (a + 1) (fun j => G.getD j 0) := fun j hj => by
  rw [h.cell (by rw [hl]; exact hj), rowV]
  simp [List.getD, List.getElem?_eq_getElem (show j < G.length by rw [hl]; exact hj)]

theorem enters_isTable : ∀ args w, (callFunc 71 args).run Try.prog w = .ok (.enter 71 args) w := enters_of Try.func71 (by kernel_rfl) rfl
theorem isTable1_at (T m k g g0 B : Nat) (w : World) (hm : 0 < m) (hm2 : m ≤ 1000000) (hk : k ≤ 1000000) (hc : w.cell? ⟨B, 0, none⟩ = some (.slice (some ⟨T, 0, none⟩) m m)) (hc2 : w.cell? ⟨T, 0, none⟩ = some (.slice (some ⟨g0, 0, none⟩) k k)) :
    Calls Try.prog 71 #[.slice (some ⟨g, 0, none⟩) k k, .pointer (some ⟨B, 0, none⟩)] w fun e w' => e = .returned (.bool false) ∧ w = w' := by
  have hkk : ((k : Int) != (k : Int)) = false := by simp
  have i1 : (0 : Int) < (m : Int) := by omega
  go_enter Try.func71, Try.ntmps71
  go_wp2
  go_ret
  exact ⟨rfl, rfl⟩

set_option maxHeartbeats 1600000 in
theorem IndexFunc_rows (T m k B : Nat) (Gf : Nat → Nat) (w : World) (hm : 0 < m) (hm2 : m ≤ 1000000) (hk : k ≤ 1000000) (hc : w.cell? ⟨B, 0, none⟩ = some (.slice (some ⟨T, 0, none⟩) m m)) (hT : TC w T m k Gf) :
    Calls Try.prog 73 #[.slice (some ⟨T, 0, none⟩) m m, .func (.func 71) #[] #[.pointer (some ⟨B, 0, none⟩)]] w fun e w' => e = .returned (.int .i64 (-1)) ∧ w = w' := by
  have eg := enters_isTable
  have h0 := hT 0 hm
  replace hT := Lib.hid hT
  go_enter Try.func73, Try.ntmps73
  go_wp2
  go_loop [8] (fun i => ∃ j : Nat, j ≤ m ∧ i = .int .i64 j) (fun i => m - (intOf i).toNat)
  case atStart => exact ⟨0, Nat.zero_le _, rfl⟩
  case round =>
    obtain ⟨j, hj, rfl⟩ := hrel
    by_cases hlt : j < m
    · have hcell := hT.out j hlt
      have hlt' : (j : Int) < (m : Int) := by omega
      obtain ⟨gj, hgj⟩ : ∃ gj, Gf j = gj := ⟨_, rfl⟩
      rw [hgj] at hcell
      replace hgj := Lib.hid hgj
      go_wp2_with (go_at_fn 71; refine (isTable1_at T m k gj (Gf 0) B _ hm hm2 hk hc h0).mono ?_; rintro e w' ⟨rfl, rfl⟩)
      go_round
      case rel => exact ⟨j + 1, hlt, by go_num⟩
      case measure => simp [intOf]; omega
    · have hge : (m : Int) ≤ (j : Int) := by omega
      go_wp2
      go_ret
      exact ⟨rfl, rfl⟩

theorem ContainsFunc_rows (T m k B : Nat) (Gf : Nat → Nat) (w : World) (hm : 0 < m) (hm2 : m ≤ 1000000) (hk : k ≤ 1000000) (hc : w.cell? ⟨B, 0, none⟩ = some (.slice (some ⟨T, 0, none⟩) m m)) (hT : TC w T m k Gf) :
    Calls Try.prog 72 #[.slice (some ⟨T, 0, none⟩) m m, .func (.func 71) #[] #[.pointer (some ⟨B, 0, none⟩)]] w fun e w' => e = .returned (.bool false) ∧ w = w' := by
  have hcon := Lib.hid (IndexFunc_rows T m k B Gf w hm hm2 hk hc hT)
  clear hT
  go_enter Try.func72, Try.ntmps72
  go_wp2_with (go_at_call 73; refine hcon.out.mono ?_; rintro e w' ⟨rfl, rfl⟩)
  go_ret
  exact ⟨rfl, rfl⟩

set_option maxHeartbeats 1600000 in
theorem isTable_yes (T m k : Nat) (Gf : Nat → Nat) (w : World) (hm : 0 < m) (hm2 : m ≤ 1000000) (hk0 : 0 < k) (hk : k ≤ 1000000) (hT : TC w T m k Gf) :
    Calls Try.prog 70 #[.slice (some ⟨T, 0, none⟩) m m] w fun e w' => e = .returned (.bool true) ∧ Below w.heap.size w w' := by
  have hTl : T < w.heap.size := World.block_lt_of_cell? w _ (hT 0 hm)
  have hB := (Below.refl w.heap.size w).alloc (Nat.le_refl _) (.cells #[.slice (some ⟨T, 0, none⟩) m m] 74)
  have hT1 := hT.below hB hTl
  have h0 := hT1 0 hm
  have k1 : KB _ _ _ _ := KB.new w #[.slice (some ⟨T, 0, none⟩) m m] 74
  have hcon := Lib.hid (ContainsFunc_rows T m k w.heap.size Gf _ hm hm2 hk (k1.cell 0 rfl) hT1)
  have i1 : (0 : Int) < (m : Int) := by omega
  have i2 : (0 : Int) < (k : Int) := by omega
  clear hT hT1 k1
  go_enter Try.func70, Try.ntmps70
  go_wp2_with (go_at_call 72; refine hcon.out.mono ?_; rintro e w' ⟨rfl, rfl⟩)
  go_ret
  exact ⟨rfl, hB⟩

set_option maxHeartbeats 1600000 in
theorem Sum_out (T a b : Nat) (Gf : Nat → Nat) (x y wd ht : Int) (w : World) (ha : a ≤ 64) (hb : b ≤ 64) (hT : TC w T (b + 1) (a + 1) Gf)
    (hx : -9223372036854775808 ≤ x ∧ x ≤ 9223372036854775807) (hy : -9223372036854775808 ≤ y ∧ y ≤ 9223372036854775807)
    (hno : ¬ ((0 ≤ x ∧ x ≤ a) ∧ (0 ≤ y ∧ y ≤ b) ∧ (0 ≤ wd ∧ wd ≤ a - x) ∧ 0 ≤ ht ∧ ht ≤ b - y)) :
    Calls Try.prog 68 #[.slice (some ⟨T, 0, none⟩) (b + 1) (b + 1), .int .i64 x, .int .i64 y, .int .i64 wd, .int .i64 ht] w (RetN w 0 2) := by
  have hTl : T < w.heap.size := World.block_lt_of_cell? w _ (hT 0 (by omega))
  have hit := Lib.hid (isTable_yes T (b + 1) (a + 1) Gf w (by omega) (by omega) (by omega) (by omega) hT)
  have hT0 := Lib.hid (hT 0 (by omega))
  clear hT
  obtain ⟨b1, h1⟩ : ∃ t, win x 0 a = t := ⟨_, rfl⟩
  cases b1
  · clear hno
    replace h1 := Lib.hid h1
    have tok1 : True := trivial
    go_enter Try.func68, Try.ntmps68
    go_wp2_with (first | (go_at_call 70; refine hit.out.mono ?_; rintro e w1 ⟨rfl, hb1⟩; have t0 := (hb1.cell (p := ⟨T, 0, none⟩) hTl).trans hT0.out) | (go_at_call 60; refine (within_at h1.out _).mono ?_; rintro e w' ⟨rfl, rfl⟩))
    go_ret2
    exact ⟨rfl, hb1⟩
  have x1 := win_iff.1 h1
  obtain ⟨x1a, x1b⟩ := x1
  have x1 : 0 ≤ x ∧ x ≤ (a : Int) := ⟨x1a, x1b⟩
  replace x1 := Lib.hid x1
  obtain ⟨b2, h2⟩ : ∃ t, win y 0 b = t := ⟨_, rfl⟩
  cases b2
  · clear hno
    replace h1 := Lib.hid h1
    have tok1 : True := trivial
    replace h2 := Lib.hid h2
    have tok2 : True := trivial
    go_enter Try.func68, Try.ntmps68
    go_wp2_with (first | (go_at_call 70; refine hit.out.mono ?_; rintro e w1 ⟨rfl, hb1⟩; have t0 := (hb1.cell (p := ⟨T, 0, none⟩) hTl).trans hT0.out) | (go_at_call 60; clear tok1; refine (within_at h1.out _).mono ?_; rintro e w' ⟨rfl, rfl⟩) | (go_at_call 60; refine (within_at h2.out _).mono ?_; rintro e w' ⟨rfl, rfl⟩))
    go_ret2
    exact ⟨rfl, hb1⟩
  have y1 := win_iff.1 h2
  obtain ⟨y1a, y1b⟩ := y1
  have y1 : 0 ≤ y ∧ y ≤ (b : Int) := ⟨y1a, y1b⟩
  replace y1 := Lib.hid y1
  obtain ⟨b3, h3⟩ : ∃ t, win wd 0 (a - x) = t := ⟨_, rfl⟩
  cases b3
  · clear hno
    replace h1 := Lib.hid h1
    have tok1 : True := trivial
    replace h2 := Lib.hid h2
    have tok2 : True := trivial
    replace h3 := Lib.hid h3
    have tok3 : True := trivial
    go_enter Try.func68, Try.ntmps68
    go_wp2_with (first | (go_at_call 70; refine hit.out.mono ?_; rintro e w1 ⟨rfl, hb1⟩; have t0 := (hb1.cell (p := ⟨T, 0, none⟩) hTl).trans hT0.out) | (go_at_call 60; clear tok1; refine (within_at h1.out _).mono ?_; rintro e w' ⟨rfl, rfl⟩) | (go_at_call 60; clear tok2; refine (within_at h2.out _).mono ?_; rintro e w' ⟨rfl, rfl⟩) | (go_at_call 60; refine (within_at h3.out _).mono ?_; rintro e w' ⟨rfl, rfl⟩))
    go_ret2
    exact ⟨rfl, hb1⟩
  obtain ⟨b4, h4⟩ : ∃ t, win ht 0 (b - y) = t := ⟨_, rfl⟩
  cases b4
  · clear hno
    replace h1 := Lib.hid h1
    have tok1 : True := trivial
    replace h2 := Lib.hid h2
    have tok2 : True := trivial
    replace h3 := Lib.hid h3
    have tok3 : True := trivial
    replace h4 := Lib.hid h4
    have tok4 : True := trivial
    go_enter Try.func68, Try.ntmps68
    go_wp2_with (first | (go_at_call 70; refine hit.out.mono ?_; rintro e w1 ⟨rfl, hb1⟩; have t0 := (hb1.cell (p := ⟨T, 0, none⟩) hTl).trans hT0.out) | (go_at_call 60; clear tok1; refine (within_at h1.out _).mono ?_; rintro e w' ⟨rfl, rfl⟩) | (go_at_call 60; clear tok2; refine (within_at h2.out _).mono ?_; rintro e w' ⟨rfl, rfl⟩) | (go_at_call 60; clear tok3; refine (within_at h3.out _).mono ?_; rintro e w' ⟨rfl, rfl⟩) | (go_at_call 60; refine (within_at h4.out _).mono ?_; rintro e w' ⟨rfl, rfl⟩))
    go_ret2
    exact ⟨rfl, hb1⟩
  exact absurd ⟨x1.out, y1.out, win_iff.1 h3, win_iff.1 h4⟩ hno

/-- The numbers of a table are the sums of a raster. -/
def TV (w : World) (a b : Nat) (P : List Int) (Gf : Nat → Nat) : Prop := ∀ j, j < b + 1 → ∀ i, i < a + 1 → w.cell? ⟨Gf j, i, none⟩ = some (.int .i64 (psum P a j i))
theorem TV.below {w w' : World} {a b : Nat} {P : List Int} {Gf : Nat → Nat} (h : TV w a b P Gf) (hb : Below w.heap.size w w') : TV w' a b P Gf := fun j hj i hi =>
  (hb.cell (p := ⟨Gf j, i, none⟩) (World.block_lt_of_cell? w _ (h j hj i hi))).trans (h j hj i hi)
theorem TV.of_rows {w : World} {B T a b : Nat} {P : List Int} {G : List Nat} (h : Rows w B T a P G) (hl : G.length = b + 1) : TV w a b P (fun j => G.getD j 0) := fun j hj i hi => by
  have := (h j (by rw [hl]; exact hj)).2.2.cell (i := i) (by rw [tab_length]; exact hi)
  rw [nth_tab hi] at this
  simp only [List.getD, List.getElem?_eq_getElem (show j < G.length by rw [hl]; exact hj), Option.getD_some]
  exact this

set_option maxRecDepth 100000 in
set_option maxHeartbeats 3200000 in
theorem Sum_in (T a b : Nat) (Gf : Nat → Nat) (P : List Int) (M : Int) (x y wd ht : Nat) (w : World) (ha : a ≤ 64) (hb : b ≤ 64) (hM : 0 ≤ M ∧ M ≤ 65535) (hP : ∀ g ∈ P, 0 ≤ g ∧ g ≤ M) (hT : TC w T (b + 1) (a + 1) Gf) (hV : TV w a b P Gf) (hx : x + wd ≤ a) (hy : y + ht ≤ b)
    {u : Int} (hu : psum P a (y + ht) (x + wd) - psum P a (y + ht) x - psum P a y (x + wd) + psum P a y x = u) :
    Calls Try.prog 68 #[.slice (some ⟨T, 0, none⟩) (b + 1) (b + 1), .int .i64 x, .int .i64 y, .int .i64 wd, .int .i64 ht] w (RetN w u 0) := by
  have hTl : T < w.heap.size := World.block_lt_of_cell? w _ (hT 0 (by omega))
  have hit := Lib.hid (isTable_yes T (b + 1) (a + 1) Gf w (by omega) (by omega) (by omega) (by omega) hT)
  have hT0 := Lib.hid (hT 0 (by omega))
  have hTy := Lib.hid (hT y (by omega))
  have hTz := Lib.hid (hT (y + ht) (by omega))
  obtain ⟨s1, e1⟩ : ∃ s, psum P a (y + ht) (x + wd) = s := ⟨_, rfl⟩
  obtain ⟨s2, e2⟩ : ∃ s, psum P a (y + ht) x = s := ⟨_, rfl⟩
  obtain ⟨s3, e3⟩ : ∃ s, psum P a y (x + wd) = s := ⟨_, rfl⟩
  obtain ⟨s4, e4⟩ : ∃ s, psum P a y x = s := ⟨_, rfl⟩
  have p1 := psum_small hM hP a (x := x + wd) (y := y + ht) (by omega) (by omega)
  have p2 := psum_small hM hP a (x := x) (y := y + ht) (by omega) (by omega)
  have p3 := psum_small hM hP a (x := x + wd) (y := y) (by omega) (by omega)
  have p4 := psum_small hM hP a (x := x) (y := y) (by omega) (by omega)
  have v1 := hV (y + ht) (by omega) (x + wd) (by omega)
  have v2 := hV (y + ht) (by omega) x (by omega)
  have v3 := hV y (by omega) (x + wd) (by omega)
  have v4 := hV y (by omega) x (by omega)
  rw [e1] at p1 v1 hu
  rw [e2] at p2 v2 hu
  rw [e3] at p3 v3 hu
  rw [e4] at p4 v4 hu
  have g1 := World.block_lt_of_cell? w _ v1
  have g3 := World.block_lt_of_cell? w _ v3
  obtain ⟨ga, hga⟩ : ∃ g, Gf y = g := ⟨_, rfl⟩
  obtain ⟨gb, hgb⟩ : ∃ g, Gf (y + ht) = g := ⟨_, rfl⟩
  rw [hga] at v3 v4 hTy g3
  rw [hgb] at v1 v2 hTz g1
  have q1 := Lib.hid v1
  have q2 := Lib.hid v2
  have q3 := Lib.hid v3
  have q4 := Lib.hid v4
  have h1 : win (x : Int) 0 a = true := win_iff.2 (by omega)
  have h2 : win (y : Int) 0 b = true := win_iff.2 (by omega)
  have h3 : win (wd : Int) 0 ((a : Int) - (x : Int)) = true := win_iff.2 (by omega)
  have h4 : win (ht : Int) 0 ((b : Int) - (y : Int)) = true := win_iff.2 (by omega)
  have i1 : IntKind.i64.wrap ((y : Int) + (ht : Int)) = (y : Int) + (ht : Int) := IntWalk.i64_in _ (by omega)
  have i2 : IntKind.i64.wrap ((x : Int) + (wd : Int)) = (x : Int) + (wd : Int) := IntWalk.i64_in _ (by omega)
  have i3 : (0 : Int) ≤ (y : Int) + (ht : Int) := by omega
  have i4 : (0 : Int) ≤ (x : Int) + (wd : Int) := by omega
  have i5 : ((y : Int) + (ht : Int)).toNat = y + ht := by omega
  have i6 : ((x : Int) + (wd : Int)).toNat = x + wd := by omega
  have i7 : (y : Int) + (ht : Int) < (b : Int) + 1 := by omega
  have i8 : (x : Int) + (wd : Int) < (a : Int) + 1 := by omega
  have i9 : (y : Int) < (b : Int) + 1 := by omega
  have i10 : (x : Int) < (a : Int) + 1 := by omega
  have i11 : (0 : Int) ≤ (y : Int) := by omega
  have i12 : (0 : Int) ≤ (x : Int) := by omega
  have j1 : IntKind.i64.wrap (s1 - s2) = s1 - s2 := IntWalk.i64_in _ (by omega)
  have j2 : IntKind.i64.wrap (s1 - s2 - s3) = s1 - s2 - s3 := IntWalk.i64_in _ (by omega)
  have j3 : IntKind.i64.wrap (s1 - s2 - s3 + s4) = s1 - s2 - s3 + s4 := IntWalk.i64_in _ (by omega)
  replace hu := Lib.hid hu
  replace h1 := Lib.hid h1
  replace h2 := Lib.hid h2
  replace h3 := Lib.hid h3
  replace h4 := Lib.hid h4
  have tok1 : True := trivial
  have tok2 : True := trivial
  have tok3 : True := trivial
  clear e1 e2 e3 e4 v1 v2 v3 v4 hga hgb hT hV hP p1 p2 p3 p4 hM
  go_enter Try.func68, Try.ntmps68
  go_wp2_with (first | (go_at_call 70; refine hit.out.mono ?_; rintro e w1 ⟨rfl, hb1⟩; have t0 := (hb1.cell (p := ⟨T, 0, none⟩) hTl).trans hT0.out; have ty := (hb1.cell (p := ⟨T, y, none⟩) hTl).trans hTy.out; have tz := (hb1.cell (p := ⟨T, y + ht, none⟩) hTl).trans hTz.out; have r1 := (hb1.cell (p := ⟨gb, x + wd, none⟩) g1).trans q1.out; have r2 := (hb1.cell (p := ⟨gb, x, none⟩) g1).trans q2.out; have r3 := (hb1.cell (p := ⟨ga, x + wd, none⟩) g3).trans q3.out; have r4 := (hb1.cell (p := ⟨ga, x, none⟩) g3).trans q4.out) | (go_at_call 60; clear tok1; refine (within_at h1.out _).mono ?_; rintro e w' ⟨rfl, rfl⟩) | (go_at_call 60; clear tok2; refine (within_at h2.out _).mono ?_; rintro e w' ⟨rfl, rfl⟩) | (go_at_call 60; clear tok3; refine (within_at h3.out _).mono ?_; rintro e w' ⟨rfl, rfl⟩) | (go_at_call 60; refine (within_at h4.out _).mono ?_; rintro e w' ⟨rfl, rfl⟩))
  go_quiet (fail)
  go_wp2
  go_quiet (fail)
  go_wp2
  go_ret2
  exact ⟨(congrArg (fun t => Ending.returned (.tuple #[.int .i64 t, .int .i64 0])) hu.out :), by first | exact below_drewN hb1 _ | exact below_drewN (below_drewN hb1 _) _⟩


/-- The sum of h rows from row y on, of w pixels each from column x on. -/
def bsum (P : List Int) (a x wd y : Nat) : Nat → Int
  | 0 => 0
  | h + 1 => bsum P a x wd y h + (rsum P a (y + h) (x + wd) - rsum P a (y + h) x)
theorem bsum_eq (P : List Int) (a x wd y h : Nat) : bsum P a x wd y h = psum P a (y + h) (x + wd) - psum P a (y + h) x - psum P a y (x + wd) + psum P a y x := by
  induction h with
  | zero => show (0 : Int) = _; rw [Nat.add_zero]; omega
  | succ h ih =>
    show bsum P a x wd y h + (rsum P a (y + h) (x + wd) - rsum P a (y + h) x) = _
    have e1 : psum P a (y + (h + 1)) (x + wd) = psum P a (y + h) (x + wd) + rsum P a (y + h) (x + wd) := rfl
    have e2 : psum P a (y + (h + 1)) x = psum P a (y + h) x + rsum P a (y + h) x := rfl
    rw [ih, e1, e2]
    omega
theorem bsum_small {P : List Int} {M : Int} (hM : 0 ≤ M ∧ M ≤ 65535) (h : ∀ g ∈ P, 0 ≤ g ∧ g ≤ M) {a x wd y k : Nat} (hx : x + wd ≤ 64) (hy : y + k ≤ 64) : -1000000000 ≤ bsum P a x wd y k ∧ bsum P a x wd y k ≤ 1000000000 := by
  rw [bsum_eq]
  have p1 := psum_small hM h a (x := x + wd) (y := y + k) (by omega) (by omega)
  have p2 := psum_small hM h a (x := x) (y := y + k) (by omega) (by omega)
  have p3 := psum_small hM h a (x := x + wd) (y := y) (by omega) (by omega)
  have p4 := psum_small hM h a (x := x) (y := y) (by omega) (by omega)
  omega

set_option maxRecDepth 100000 in
set_option maxHeartbeats 4000000 in
theorem rSum_at {a b : Nat} {M : Int} {A : Option Addr} {n c : Nat} {P : List Int} {w : World} (x y wd ht : Nat) {X Y WD HT u : Int} (h : Sl w A n c P) (hr : Ras a b M P) (hX : X = x) (hY : Y = y) (hWD : WD = wd) (hHT : HT = ht) (hx : x + wd ≤ a) (hy : y + ht ≤ b) (hu : bsum P a x wd y ht = u) :
    Calls Try.prog 45 #[.agg #[.int .i64 a, .int .i64 b, .int .i64 M, .slice A n c], .int .i64 X, .int .i64 Y, .int .i64 WD, .int .i64 HT] w fun e w' => e = .returned (.int .i64 u) ∧ Below w.heap.size w w' := by
  subst hX hY hWD hHT
  have k0 := RB.new w a b M A n c
  have hs := h.alloc (.cells #[.int .i64 a, .int .i64 b, .int .i64 M, .slice A n c] 37)
  have hB0 := (Below.refl w.heap.size w).alloc (Nat.le_refl _) (.cells #[.int .i64 a, .int .i64 b, .int .i64 M, .slice A n c] 37)
  obtain ⟨a', b', ea, eb, ⟨ha1, ha2⟩, ⟨hb1, hb2⟩, ⟨hM1, hM2⟩, hab, hl1, hl2⟩ := hr.nat
  obtain rfl : a = a' := by omega
  obtain rfl : b = b' := by omega
  have hP := Lib.hid hr.2.2
  have hn : Hid (n = b * a) := Lib.hid (by rw [h.len, hab, Nat.mul_comm])
  have hn4 : n ≤ 4096 := by rw [h.len]; exact hl1
  replace hu := Lib.hid hu
  clear hr hab hl1 hl2 ea eb h
  go_enter Try.func45, Try.ntmps45
  go_wp2
  go_loopw [11, 12] (fun s j wr => ∃ k : Nat, k ≤ ht ∧ s = .int .i64 (bsum P a x wd y k) ∧ j = .int .i64 ((y : Int) + (k : Int)) ∧ RB wr w.heap.size a b M A n c ∧ Sl wr A n c P ∧ Below w.heap.size w wr) (fun _ j _ => y + ht - (intOf j).toNat)
  case atStart => exact ⟨0, Nat.zero_le _, rfl, by simp, k0, hs, hB0⟩
  case round =>
    clear k0 hs hB0
    obtain ⟨k, hk, rfl, rfl, k0, hs, hB⟩ := hrel
    obtain ⟨s0, hs0⟩ : ∃ s, bsum P a x wd y k = s := ⟨_, rfl⟩
    have sb := bsum_small ⟨by omega, hM2⟩ hP.out (a := a) (x := x) (wd := wd) (y := y) (k := k) (by omega) (by omega)
    rw [hs0] at sb
    rw [hs0]
    obtain ⟨sb1, sb2⟩ := sb
    by_cases hlt : k < ht
    · have hlt' : (k : Int) < (ht : Int) := by omega
      obtain ⟨r0, hr0⟩ : ∃ s, rsum P a (y + k) x = s := ⟨_, rfl⟩
      have rb0 := rsum_small ⟨by omega, hM2⟩ hP.out a (y + k) (x := x) (by omega)
      rw [hr0] at rb0
      replace hr0 := Lib.hid hr0
      go_wp2
      go_loopw [11, 13] (fun s i wr => ∃ t : Nat, t ≤ wd ∧ s = .int .i64 (s0 + (rsum P a (y + k) (x + t) - r0)) ∧ i = .int .i64 ((x : Int) + (t : Int)) ∧ RB wr w.heap.size a b M A n c ∧ Sl wr A n c P ∧ Below w.heap.size w wr) (fun _ i _ => x + wd - (intOf i).toNat)
      case atStart => exact ⟨0, Nat.zero_le _, by rw [Nat.add_zero, hr0.out]; simp, by simp, k0, hs, hB⟩
      case round =>
        clear k0 hs hB
        obtain ⟨t, ht', rfl, rfl, k0, hs, hB⟩ := hrel
        obtain ⟨⟨d0, d1, d2, d3⟩, f0, f1, f2, f3⟩ := k0.cells
        obtain ⟨r1, hr1⟩ : ∃ s, rsum P a (y + k) (x + t) = s := ⟨_, rfl⟩
        have rb1 := rsum_small ⟨by omega, hM2⟩ hP.out a (y + k) (x := x + t) (by omega)
        rw [hr1] at rb1
        rw [hr1]
        by_cases hlt2 : t < wd
        · have hlt2' : (t : Int) < (wd : Int) := by omega
          obtain ⟨q, hq⟩ : ∃ q, q = (y + k) * a := ⟨_, rfl⟩
          obtain ⟨v, hv⟩ : ∃ v, nth P (q + (x + t)) = v := ⟨_, rfl⟩
          have vb := nth_bounds (by omega) hP.out (q + (x + t))
          rw [hv] at vb
          have hle : q + (x + t) < n := by rw [hn.out, hq]; exact row_lt (by omega) (by omega)
          have hstep : rsum P a (y + k) (x + (t + 1)) = r1 + v := by show rsum P a (y + k) (x + t) + nth P ((y + k) * a + (x + t)) = _; rw [hr1, ← hq, hv]
          replace hstep := Lib.hid hstep
          replace hr1 := Lib.hid hr1
          replace hq := Lib.hid hq
          replace hv := Lib.hid hv
          go_wp2_with (go_at_call 49; refine (rAt_at (x + t) (y + k) q hs (by omega) (by omega) hq.out hle (by omega) hv.out).mono ?_; rintro e w5 ⟨rfl, hb5⟩)
          go_roundw
          case rel => exact ⟨t + 1, hlt2, by rw [hstep.out]; show Value.int .i64 _ = Value.int .i64 _; exact congrArg _ (by omega), by show Value.int .i64 _ = Value.int .i64 _; exact congrArg _ (by omega), k0.below hb5 k0.lt, hs.below hb5 (Nat.le_refl _), hB.trans (hb5.mono hB.size)⟩
          case measure => simp [intOf]; omega
        · obtain rfl : t = wd := by omega
          have hnext : bsum P a x t y (k + 1) = s0 + (r1 - r0) := by show bsum P a x t y k + (rsum P a (y + k) (x + t) - rsum P a (y + k) x) = _; rw [hs0, hr1, hr0.out]
          replace hnext := Lib.hid hnext
          replace hr1 := Lib.hid hr1
          go_wp2
          go_roundw
          case rel => exact ⟨k + 1, hlt, by rw [hnext.out], by show Value.int .i64 _ = Value.int .i64 _; exact congrArg _ (by omega), k0, hs, hB⟩
          case measure => simp [intOf]; omega
    · obtain rfl : k = ht := by omega
      have hfin : s0 = u := by rw [← hs0, hu.out]
      replace hfin := Lib.hid hfin
      replace hs0 := Lib.hid hs0
      go_wp2
      go_ret
      exact ⟨ret_int hfin.out, hB⟩

theorem Sum_int {T a b : Nat} {Gf : Nat → Nat} {P : List Int} {M : Int} {x y wd ht : Nat} {X Y WD HT : Int} {w : World} (ha : a ≤ 64) (hb : b ≤ 64) (hM : 0 ≤ M ∧ M ≤ 65535) (hP : ∀ g ∈ P, 0 ≤ g ∧ g ≤ M) (hT : TC w T (b + 1) (a + 1) Gf) (hV : TV w a b P Gf) (hX : X = x) (hY : Y = y) (hWD : WD = wd) (hHT : HT = ht) (hx : x + wd ≤ a) (hy : y + ht ≤ b) {u : Int} (hu : bsum P a x wd y ht = u) :
    Calls Try.prog 68 #[.slice (some ⟨T, 0, none⟩) (b + 1) (b + 1), .int .i64 X, .int .i64 Y, .int .i64 WD, .int .i64 HT] w (RetN w u 0) := by
  subst hX hY hWD hHT
  exact Sum_in T a b Gf P M x y wd ht w ha hb hM hP hT hV hx hy (by rw [← bsum_eq]; exact hu)
end Go.Proofs.Ytonpnjjfidpoiaa
