/-
  Walks: isPixel, At, Set of package raster; the reference's Set.
-/
import Derived.Test.YtehnemdifkjhcaaRaForms
set_option linter.unusedSimpArgs false
set_option linter.unusedVariables false
namespace Go.Proofs.Ytehnemdifkjhcaa
open Go.RowKit

set_option maxHeartbeats 1600000 in
theorem isPixel_at {W H M : Int} {A : Option Addr} {n c : Nat} {x y : Int} {w : World} {b : Bool} (hb : ins W H x y = b) (hW : 1 ≤ W ∧ W ≤ 64) (hH : 1 ≤ H ∧ H ≤ 64) :
    Calls Try.prog 52 #[.agg #[.int .i64 W, .int .i64 H, .int .i64 M, .slice A n c], .int .i64 x, .int .i64 y] w fun e w' => e = .returned (.bool b) ∧ Below w.heap.size w w' := by
  obtain ⟨b1, h1⟩ : ∃ b, win x 0 (W - 1) = b := ⟨_, rfl⟩
  obtain ⟨b2, h2⟩ : ∃ b, win y 0 (H - 1) = b := ⟨_, rfl⟩
  have hbb : b = (b1 && b2) := by
    rw [← hb, ← h1, ← h2, Bool.eq_iff_iff, ins_iff, Bool.and_eq_true, win_iff, win_iff]
    omega
  have hb0 := (Below.refl w.heap.size w).alloc (Nat.le_refl _) (.cells #[.int .i64 W, .int .i64 H, .int .i64 M, .slice A n c] 24)
  replace h1 := Lib.hid h1
  replace h2 := Lib.hid h2
  clear hb
  obtain ⟨hW1, hW2⟩ := hW
  obtain ⟨hH1, hH2⟩ := hH
  cases b1 <;> cases b2
  all_goals
    subst hbb
    have tok1 : True := trivial
    go_enter Try.func52, Try.ntmps52
    go_wp2_with (first | (go_at_call 49; clear tok1; refine (within_at h1.out _).mono ?_; rintro e w' ⟨rfl, rfl⟩) | (go_at_call 49; refine (within_at h2.out _).mono ?_; rintro e w' ⟨rfl, rfl⟩))
    go_ret
    exact ⟨rfl, hb0⟩

/-- A number's zero value and a code. -/
def RetN (w : World) (v code : Int) (e : Ending) (w' : World) : Prop := e = .returned (.tuple #[.int .i64 v, .int .i64 code]) ∧ Below w.heap.size w w'

theorem At_bad (W H M : Int) (A : Option Addr) (n c : Nat) (P : List Int) (x y : Int) (w : World) (h : Sl w A n c P) (hr : ¬ Ras W H M P) :
    Calls Try.prog 21 #[.agg #[.int .i64 W, .int .i64 H, .int .i64 M, .slice A n c], .int .i64 x, .int .i64 y] w (RetN w 0 1) := by
  have hb := (Below.refl w.heap.size w).alloc (Nat.le_refl _) (.cells #[.int .i64 W, .int .i64 H, .int .i64 M, .slice A n c] 24)
  have hs := h.alloc (.cells #[.int .i64 W, .int .i64 H, .int .i64 M, .slice A n c] 24)
  have hck := Lib.hid (Check_no hs hr)
  clear h hs hr
  go_enter Try.func21, Try.ntmps21
  go_wp2_with (go_at_call 13; refine (hck.out).mono ?_; rintro e w1 ⟨rfl, hb2⟩)
  go_ret2
  exact ⟨rfl, hb.trans (hb2.mono (by simp))⟩

/-- The facts of a raster's box behind a call. -/
theorem box_after {w w1 : World} {W H M : Int} {A : Option Addr} {n c : Nat} (hb : Below (w.alloc (.cells #[.int .i64 W, .int .i64 H, .int .i64 M, .slice A n c] 24)).heap.size (w.alloc (.cells #[.int .i64 W, .int .i64 H, .int .i64 M, .slice A n c] 24)) w1) :
    RB w1 w.heap.size W H M A n c ∧ Below w.heap.size w w1 ∧ w.heap.size + 1 ≤ w1.heap.size := by
  have hz := hb.size
  simp only [World.size_alloc] at hz
  exact ⟨(RB.new w W H M A n c).below hb (by simp), ((Below.refl _ w).alloc (Nat.le_refl _) _).trans (hb.mono (by simp)), hz⟩

theorem At_out (W H M : Int) (A : Option Addr) (n c : Nat) (P : List Int) (x y : Int) (w : World) (h : Sl w A n c P) (hr : Ras W H M P) (hi : ins W H x y = false) :
    Calls Try.prog 21 #[.agg #[.int .i64 W, .int .i64 H, .int .i64 M, .slice A n c], .int .i64 x, .int .i64 y] w (RetN w 0 2) := by
  have hs := h.alloc (.cells #[.int .i64 W, .int .i64 H, .int .i64 M, .slice A n c] 24)
  have hck := Lib.hid (Check_ok hs hr)
  have hpx := Lib.hid (fun w' : World => isPixel_at (w := w') (M := M) (A := A) (n := n) (c := c) hi hr.1.1 hr.1.2.1)
  clear h hs hr hi
  go_enter Try.func21, Try.ntmps21
  go_wp2_with (first | (go_at_call 13; refine (hck.out).mono ?_; rintro e w1 ⟨rfl, hb2⟩; obtain ⟨k, hB, hz⟩ := box_after hb2; clear hb2; obtain ⟨⟨d0, d1, d2, d3⟩, f0, f1, f2, f3⟩ := k.cells) | (go_at_call 52; refine (hpx.out _).mono ?_; rintro e w2 ⟨rfl, hb3⟩))
  go_ret2
  exact ⟨rfl, hB.trans (hb3.mono (by omega))⟩

set_option maxHeartbeats 1600000 in
theorem At_in (a b : Nat) (M : Int) (A : Option Addr) (n c : Nat) (P : List Int) (i j q : Nat) (w : World) (h : Sl w A n c P) (hr : Ras a b M P) (hi : i < a) (hj : j < b) (hq : q = j * a) {v : Int} (hv : nth P (q + i) = v) {x y : Int} (hx : x = i) (hy : y = j) :
    Calls Try.prog 21 #[.agg #[.int .i64 a, .int .i64 b, .int .i64 M, .slice A n c], .int .i64 x, .int .i64 y] w (RetN w v 0) := by
  subst hx hy
  have hs := h.alloc (.cells #[.int .i64 a, .int .i64 b, .int .i64 M, .slice A n c] 24)
  have hck := Lib.hid (Check_ok hs hr)
  have hins : ins a b i j = true := ins_iff.2 (by omega)
  have hpx := Lib.hid (fun w' : World => isPixel_at (w := w') (M := M) (A := A) (n := n) (c := c) hins hr.1.1 hr.1.2.1)
  obtain ⟨a', b', ea, eb, ⟨ha1, ha2⟩, ⟨hb1, hb2⟩, -, hab, hl1, hl2⟩ := hr.nat
  obtain rfl : a = a' := by omega
  obtain rfl : b = b' := by omega
  have hlen := h.len
  obtain ⟨bb, off, rfl, hbw, hcc⟩ := h.at_ (by omega)
  have hle : q + a ≤ n := by rw [hlen, hab, hq, Nat.mul_comm a b]; exact row_le hj
  have hcell0 := hcc (q + i) (by omega)
  rw [hv] at hcell0
  have hcap := h.le_cap
  have hcl := h.cap_le
  replace hq := Lib.hid hq
  clear h hs hr hins hcc hlen hab hl1 hl2 ea eb hv
  go_enter Try.func21, Try.ntmps21
  go_wp2_with (first | (go_at_call 13; refine (hck.out).mono ?_; rintro e w1 ⟨rfl, hb2⟩; obtain ⟨k, hB, hz⟩ := box_after hb2; clear hb2; obtain ⟨⟨d0, d1, d2, d3⟩, f0, f1, f2, f3⟩ := k.cells) | (go_at_call 52; refine (hpx.out _).mono ?_; rintro e w2 ⟨rfl, hb3⟩; replace k := k.below hb3 (by omega); have hB2 := hB.trans (hb3.mono (by omega)); clear hb3 d0 d1 d2 d3 f0 f1 f2 f3; obtain ⟨⟨d0, d1, d2, d3⟩, f0, f1, f2, f3⟩ := k.cells) | (go_at_call 53; refine (row_at j q rfl hcap hcl hq.out ha1 hle (by omega) (by omega)).mono ?_; rintro e w3 ⟨rfl, hb4⟩; have hB3 := hB2.trans (hb4.mono hB2.size); have hcell := (hB3.cell (p := ⟨bb, off + (q + i), none⟩) hbw).trans hcell0; rw [← Nat.add_assoc] at hcell))
  go_ret2
  exact ⟨rfl, hB3⟩

theorem Set_bad (W H M : Int) (A : Option Addr) (n c : Nat) (P : List Int) (x y v : Int) (w : World) (h : Sl w A n c P) (hr : ¬ Ras W H M P) :
    Calls Try.prog 22 #[.agg #[.int .i64 W, .int .i64 H, .int .i64 M, .slice A n c], .int .i64 x, .int .i64 y, .int .i64 v] w (RetE w 1) := by
  have hb := ((Below.refl w.heap.size w).alloc (Nat.le_refl _) (.cells #[.int .i64 W, .int .i64 H, .int .i64 M, .slice A n c] 24)).alloc (by simp) (.cells #[.int .i64 0, .int .i64 0, .int .i64 0, .slice none 0 0] 24)
  have hs := (h.alloc (.cells #[.int .i64 W, .int .i64 H, .int .i64 M, .slice A n c] 24)).alloc (.cells #[.int .i64 0, .int .i64 0, .int .i64 0, .slice none 0 0] 24)
  have k1 := RB.new (w.alloc (.cells #[.int .i64 W, .int .i64 H, .int .i64 M, .slice A n c] 24)) 0 0 0 none 0 0
  simp only [World.size_alloc] at k1
  have hck := Lib.hid (Check_no hs hr)
  clear h hs hr
  go_enter Try.func22, Try.ntmps22
  go_wp2_with (go_at_call 13; refine (hck.out).mono ?_; rintro e w1 ⟨rfl, hb2⟩; simp only [World.size_alloc] at hb2; obtain ⟨⟨d4, d5, d6, d7⟩, f4, f5, f6, f7⟩ := (k1.below hb2 (by omega)).cells)
  refine bodyPost_ret (v := .tuple #[.agg #[.int .i64 0, .int .i64 0, .int .i64 0, .slice none 0 0], .int .i64 1]) (by simp [results, Try.results22, go_sem, d4, d5, d6, d7, f4, f5, f6, f7]) rfl ⟨rfl, ?_⟩
  repeat (refine Below.setCell ?_ (by simp <;> omega) _)
  exact hb.trans (hb2.mono (by omega))

set_option maxHeartbeats 1600000 in
theorem Set_out (W H M : Int) (A : Option Addr) (n c : Nat) (P : List Int) (x y v : Int) (w : World) (h : Sl w A n c P) (hr : Ras W H M P) (hi : ins W H x y = false ∨ win v 0 M = false) :
    Calls Try.prog 22 #[.agg #[.int .i64 W, .int .i64 H, .int .i64 M, .slice A n c], .int .i64 x, .int .i64 y, .int .i64 v] w (RetE w 2) := by
  have hb := ((Below.refl w.heap.size w).alloc (Nat.le_refl _) (.cells #[.int .i64 W, .int .i64 H, .int .i64 M, .slice A n c] 24)).alloc (by simp) (.cells #[.int .i64 0, .int .i64 0, .int .i64 0, .slice none 0 0] 24)
  have hs := (h.alloc (.cells #[.int .i64 W, .int .i64 H, .int .i64 M, .slice A n c] 24)).alloc (.cells #[.int .i64 0, .int .i64 0, .int .i64 0, .slice none 0 0] 24)
  have k0 := (RB.new w W H M A n c).alloc (.cells #[.int .i64 0, .int .i64 0, .int .i64 0, .slice none 0 0] 24)
  have k1 := RB.new (w.alloc (.cells #[.int .i64 W, .int .i64 H, .int .i64 M, .slice A n c] 24)) 0 0 0 none 0 0
  simp only [World.size_alloc] at k1
  have hck := Lib.hid (Check_ok hs hr)
  obtain ⟨bi, hbi⟩ : ∃ b, ins W H x y = b := ⟨_, rfl⟩
  have hpx := Lib.hid (fun w' : World => isPixel_at (w := w') (M := M) (A := A) (n := n) (c := c) hbi hr.1.1 hr.1.2.1)
  clear h hs hr
  rw [hbi] at hi
  clear hbi
  cases bi
  · clear hi
    go_enter Try.func22, Try.ntmps22
    go_wp2_with (first | (go_at_call 13; refine (hck.out).mono ?_; rintro e w1 ⟨rfl, hb2⟩; simp only [World.size_alloc] at hb2; have hz1 := hb2.size; replace k0 := k0.below hb2 (by omega); replace k1 := k1.below hb2 (by omega); simp only [World.size_alloc] at hz1; obtain ⟨⟨d0, d1, d2, d3⟩, f0, f1, f2, f3⟩ := k0.cells) | (go_at_call 52; refine (hpx.out _).mono ?_; rintro e w2 ⟨rfl, hb3⟩; obtain ⟨⟨d4, d5, d6, d7⟩, f4, f5, f6, f7⟩ := (k1.below hb3 (by omega)).cells))
    refine bodyPost_ret (v := .tuple #[.agg #[.int .i64 0, .int .i64 0, .int .i64 0, .slice none 0 0], .int .i64 2]) (by simp [results, Try.results22, go_sem, d4, d5, d6, d7, f4, f5, f6, f7]) rfl ⟨rfl, ?_⟩
    repeat (refine Below.setCell ?_ (by simp <;> omega) _)
    exact (hb.trans (hb2.mono (by omega))).trans (hb3.mono (by omega))
  · have hwi : win v 0 M = false := by rcases hi with h | h; cases h; exact h
    have hwn := Lib.hid (fun w' : World => within_at hwi w')
    clear hi hwi
    go_enter Try.func22, Try.ntmps22
    go_wp2_with (first | (go_at_call 13; refine (hck.out).mono ?_; rintro e w1 ⟨rfl, hb2⟩; simp only [World.size_alloc] at hb2; have hz1 := hb2.size; replace k0 := k0.below hb2 (by omega); replace k1 := k1.below hb2 (by omega); simp only [World.size_alloc] at hz1; obtain ⟨⟨d0, d1, d2, d3⟩, f0, f1, f2, f3⟩ := k0.cells) | (go_at_call 52; refine (hpx.out _).mono ?_; rintro e w2 ⟨rfl, hb3⟩; replace k0 := k0.below hb3 (by omega); clear d0 d1 d2 d3 f0 f1 f2 f3; obtain ⟨⟨d0, d1, d2, d3⟩, f0, f1, f2, f3⟩ := k0.cells; obtain ⟨⟨d4, d5, d6, d7⟩, f4, f5, f6, f7⟩ := (k1.below hb3 (by omega)).cells) | (go_at_call 49; refine (hwn.out _).mono ?_; rintro e w' ⟨rfl, rfl⟩))
    refine bodyPost_ret (v := .tuple #[.agg #[.int .i64 0, .int .i64 0, .int .i64 0, .slice none 0 0], .int .i64 2]) (by simp [results, Try.results22, go_sem, d4, d5, d6, d7, f4, f5, f6, f7]) rfl ⟨rfl, ?_⟩
    repeat (refine Below.setCell ?_ (by simp <;> omega) _)
    exact (hb.trans (hb2.mono (by omega))).trans (hb3.mono (by omega))

set_option maxHeartbeats 3200000 in
theorem Set_in (a b : Nat) (M : Int) (A : Option Addr) (n c : Nat) (P : List Int) (i j q : Nat) (v : Int) (w : World) (h : Sl w A n c P) (hr : Ras a b M P) (hi : i < a) (hj : j < b) (hq : q = j * a) (hv : win v 0 M = true) {x y : Int} (hx : x = i) (hy : y = j) :
    Calls Try.prog 22 #[.agg #[.int .i64 a, .int .i64 b, .int .i64 M, .slice A n c], .int .i64 x, .int .i64 y, .int .i64 v] w (RetR w a b M (P.set (q + i) v)) := by
  subst hx hy
  have hb := ((Below.refl w.heap.size w).alloc (Nat.le_refl _) (.cells #[.int .i64 a, .int .i64 b, .int .i64 M, .slice A n c] 24)).alloc (by simp) (.cells #[.int .i64 0, .int .i64 0, .int .i64 0, .slice none 0 0] 24)
  have hs := (h.alloc (.cells #[.int .i64 a, .int .i64 b, .int .i64 M, .slice A n c] 24)).alloc (.cells #[.int .i64 0, .int .i64 0, .int .i64 0, .slice none 0 0] 24)
  have k0 := (RB.new w a b M A n c).alloc (.cells #[.int .i64 0, .int .i64 0, .int .i64 0, .slice none 0 0] 24)
  have k1 := RB.new (w.alloc (.cells #[.int .i64 a, .int .i64 b, .int .i64 M, .slice A n c] 24)) 0 0 0 none 0 0
  simp only [World.size_alloc] at k1
  have hck := Lib.hid (Check_ok hs hr)
  have hins : ins a b i j = true := ins_iff.2 (by omega)
  have hpx := Lib.hid (fun w' : World => isPixel_at (w := w') (M := M) (A := A) (n := n) (c := c) hins hr.1.1 hr.1.2.1)
  have hwn := Lib.hid (fun w' : World => within_at hv w')
  obtain ⟨a', b', ea, eb, ⟨ha1, ha2⟩, ⟨hb1, hb2⟩, -, hab, hl1, hl2⟩ := hr.nat
  obtain rfl : a = a' := by omega
  obtain rfl : b = b' := by omega
  have hlen := h.len
  have hle : q + a ≤ n := by rw [hlen, hab, hq, Nat.mul_comm a b]; exact row_le hj
  have hn4 : n ≤ 4096 := by omega
  have hcopy := Lib.hid (fun w' (hbw : Below w.heap.size w w') => copied_any a b M A n c P w' (h.below hbw (Nat.le_refl _)) (by omega) (by omega))
  have hlen' := Lib.hid hlen
  replace hq := Lib.hid hq
  clear h hs hr hins hab hl1 hl2 ea eb hv hlen
  go_enter Try.func22, Try.ntmps22
  go_wp2_with (first | (go_at_call 13; refine (hck.out).mono ?_; rintro e w1 ⟨rfl, hb3⟩; simp only [World.size_alloc] at hb3; have hz1 := hb3.size; replace k0 := k0.below hb3 (by omega); replace k1 := k1.below hb3 (by omega); simp only [World.size_alloc] at hz1; replace hb := hb.trans (hb3.mono (by omega)); obtain ⟨⟨d0, d1, d2, d3⟩, f0, f1, f2, f3⟩ := k0.cells) | (go_at_call 52; refine (hpx.out _).mono ?_; rintro e w2 ⟨rfl, hb4⟩; replace k0 := k0.below hb4 (by omega); replace k1 := k1.below hb4 (by omega); have hz2 := hb4.size; replace hb := hb.trans (hb4.mono (by omega)); clear d0 d1 d2 d3 f0 f1 f2 f3; obtain ⟨⟨d0, d1, d2, d3⟩, f0, f1, f2, f3⟩ := k0.cells) | (go_at_call 49; refine (hwn.out _).mono ?_; rintro e w' ⟨rfl, rfl⟩) | (go_at_call 54; refine (hcopy.out _ hb).mono ?_; rintro e w3 ⟨g, n3, c3, rfl, hg, hbl, hn3, hc3, hm3, hb5⟩; obtain rfl : n3 = n := hn3.trans hlen'.out.symm; clear hn3; replace k1 := k1.below hb5 (by omega); have hz3 := hb5.size; replace hb := hb.trans (hb5.mono (by omega)); have k5 := RB.new w3 a b M (some ⟨g, 0, none⟩) n3 c3; clear hb5 hcopy d0 d1 d2 d3 f0 f1 f2 f3) | (go_at_call 53; refine (row_at j q rfl hc3 hm3 hq.out ha1 hle (by omega) (by omega)).mono ?_; rintro e w4 ⟨rfl, hb6⟩; simp only [World.size_alloc] at hb6; have hgB := hbl.lt; replace hbl := (hbl.alloc (.cells #[.int .i64 a, .int .i64 b, .int .i64 M, .slice (some ⟨g, 0, none⟩) n3 c3] 24)).below hb6 (by omega); replace k1 := (k1.alloc (.cells #[.int .i64 a, .int .i64 b, .int .i64 M, .slice (some ⟨g, 0, none⟩) n3 c3] 24)).below hb6 (by omega); replace k5 := k5.below hb6 (by omega); replace hb := (hb.alloc hb.size (.cells #[.int .i64 a, .int .i64 b, .int .i64 M, .slice (some ⟨g, 0, none⟩) n3 c3] 24)).trans (hb6.mono (by omega)); have hz4 := hb6.size; simp only [World.size_alloc] at hz4; clear hb6; have tc := hbl.cell (i := q + i) (by rw [← hlen'.out]; omega); have tf := hbl.frozen (q + i); have k1' := k1.far (p := ⟨g, q + i, none⟩) (by simp; omega) (.int .i64 v); have k5' := k5.far (p := ⟨g, q + i, none⟩) (by simp; omega) (.int .i64 v); obtain ⟨⟨d0, d1, d2, d3⟩, f0, f1, f2, f3⟩ := k5'.cells; obtain ⟨⟨d4, d5, d6, d7⟩, f4, f5, f6, f7⟩ := k1'.cells))
  refine bodyPost_ret (v := .tuple #[.agg #[.int .i64 a, .int .i64 b, .int .i64 M, .slice (some ⟨g, 0, none⟩) n3 c3], .int .i64 0]) (by simp [results, Try.results22, go_sem, d4, d5, d6, d7, f4, f5, f6, f7]) rfl ?_
  refine ⟨_, _, _, rfl, ?_, ?_⟩
  · refine Bl.sl0 ?_ (by rw [List.length_set]; exact hlen'.out) hc3 hm3
    iterate 4 (refine Bl.far ?_ (by simp <;> omega) _)
    exact hbl.set _ _
  · repeat (refine Below.setCell ?_ (by simp <;> omega) _)
    exact hb

set_option maxHeartbeats 3200000 in
/-- Set of the reference. -/
theorem rSet_in (a b : Nat) (M : Int) (A : Option Addr) (n c : Nat) (P : List Int) (i j q : Nat) (v : Int) (w : World) (h : Sl w A n c P) (hr : Ras a b M P) (hA : A = none → c = 0) (hi : i < a) (hj : j < b) (hq : q = j * a) {x y : Int} (hx : x = i) (hy : y = j) :
    Calls Try.prog 25 #[.agg #[.int .i64 a, .int .i64 b, .int .i64 M, .slice A n c], .int .i64 x, .int .i64 y, .int .i64 v] w (RetF w a b M (P.set (q + i) v)) := by
  subst hx hy
  have hb := ((Below.refl w.heap.size w).alloc (Nat.le_refl _) (.cells #[.int .i64 a, .int .i64 b, .int .i64 M, .slice A n c] 24)).alloc (by simp) (.cells #[.int .i64 0, .int .i64 0, .int .i64 0, .slice none 0 0] 24)
  have hs := (h.alloc (.cells #[.int .i64 a, .int .i64 b, .int .i64 M, .slice A n c] 24)).alloc (.cells #[.int .i64 0, .int .i64 0, .int .i64 0, .slice none 0 0] 24)
  have k0 := (RB.new w a b M A n c).alloc (.cells #[.int .i64 0, .int .i64 0, .int .i64 0, .slice none 0 0] 24)
  have k1 := RB.new (w.alloc (.cells #[.int .i64 a, .int .i64 b, .int .i64 M, .slice A n c] 24)) 0 0 0 none 0 0
  simp only [World.size_alloc] at k1
  obtain ⟨a', b', ea, eb, ⟨ha1, ha2⟩, ⟨hb1, hb2⟩, -, hab, hl1, hl2⟩ := hr.nat
  obtain rfl : a = a' := by omega
  obtain rfl : b = b' := by omega
  have hlen := h.len
  have hle : q + i < n := by rw [hlen, hab, hq, Nat.mul_comm a b]; exact row_lt hj hi
  have hn4 : n ≤ 4096 := by omega
  have hcopy := Lib.hid (fun _ : Unit => (rCopy_any a b M A n c P _ hs hA (by omega)))
  have hqi : (j : Int) * (a : Int) = (q : Int) := by rw [hq]; simp
  have hlen' := Lib.hid hlen
  clear h hs hr hab hl1 ea eb hlen hq
  have hl2' := Lib.hid hl2
  clear hl2
  go_enter Try.func25, Try.ntmps25
  go_wp2_with (go_at_call 17; refine (hcopy.out ()).mono ?_; rintro e w3 hret; obtain ⟨g, n3, c3, rfl, hg, hbl, hn3, hc3, hm3, hb5⟩ := hret.ret hl2'.out; obtain rfl : n3 = n := hn3.trans hlen'.out.symm; clear hn3; simp only [World.size_alloc] at hg hb5; have hgB := hbl.lt; replace k0 := k0.below hb5 (by omega); replace k1 := k1.below hb5 (by omega); have hz3 := hb5.size; replace hb := hb.trans (hb5.mono (by omega)); clear hb5 hcopy hret; have tc := hbl.cell (i := q + i) (by rw [← hlen'.out]; omega); have tf := hbl.frozen (q + i); have hne1 : w.heap.size ≠ g := (by omega); have hne2 : w.heap.size + 1 ≠ g := (by omega); have hne3 : g ≠ w.heap.size := (by omega); have hne4 : g ≠ w.heap.size + 1 := (by omega); obtain ⟨⟨d0, d1, d2, d3⟩, f0, f1, f2, f3⟩ := k0.cells; obtain ⟨⟨d4, d5, d6, d7⟩, f4, f5, f6, f7⟩ := k1.cells)
  refine bodyPost_ret (v := .agg #[.int .i64 a, .int .i64 b, .int .i64 M, .slice (some ⟨g, 0, none⟩) n3 c3]) (by simp [results, Try.results25, go_sem, d4, d5, d6, d7, f4, f5, f6, f7, hne1, hne2, hne3, hne4]) rfl ?_
  refine ⟨g, n3, c3, rfl, by omega, ?_, by rw [List.length_set]; exact hlen'.out, hc3, hm3, ?_⟩
  · iterate 4 (refine Bl.far ?_ (by simp <;> omega) _)
    refine Bl.set ?_ _ _
    iterate 4 (refine Bl.far ?_ (by simp <;> omega) _)
    exact hbl
  · repeat (refine Below.setCell ?_ (by simp <;> omega) _)
    exact hb

end Go.Proofs.Ytehnemdifkjhcaa
