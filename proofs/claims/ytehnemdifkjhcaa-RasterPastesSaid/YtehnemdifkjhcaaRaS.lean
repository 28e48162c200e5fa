/-
  Walks: isPart; Crop of package raster where it gives an error.
-/
import Derived.Test.YtehnemdifkjhcaaRaR
import Derived.Test.YtehnemdifkjhcaaRaO
import Derived.Laws.CopyOwn
set_option linter.unusedSimpArgs false
set_option linter.unusedVariables false
namespace Go.Proofs.Ytehnemdifkjhcaa
open Go.RowKit

/-- Is a stretch part of a longer one? -/
def isp (x wd W : Int) : Bool := win x 0 (W - 1) && win wd 1 (W - x)
theorem isp_iff {x wd W : Int} : isp x wd W = true ↔ (0 ≤ x ∧ x ≤ W - 1) ∧ 1 ≤ wd ∧ wd ≤ W - x := by simp [isp, win_iff]
theorem isp_no {x wd W : Int} : isp x wd W = false ↔ ¬ ((0 ≤ x ∧ x ≤ W - 1) ∧ 1 ≤ wd ∧ wd ≤ W - x) := by rw [← isp_iff]; simp

theorem isPart_any (x wd W : Int) (w : World) (h1 : 1 ≤ W) (h2 : W ≤ 64) :
    Calls Try.prog 55 #[.int .i64 x, .int .i64 wd, .int .i64 W] w fun e w' => e = .returned (.bool (isp x wd W)) ∧ w = w' := by
  obtain ⟨b1, e1⟩ : ∃ b, win x 0 (W - 1) = b := ⟨_, rfl⟩
  obtain ⟨b2, e2⟩ : ∃ b, win wd 1 (W - x) = b := ⟨_, rfl⟩
  have hw : Hid (isp x wd W = (b1 && b2)) := Lib.hid (by unfold isp; rw [e1, e2])
  cases b1
  · replace e1 := Lib.hid e1
    replace e2 := Lib.hid e2
    go_enter Try.func55, Try.ntmps55
    go_wp2_with (go_at_call 49; refine (within_at e1.out _).mono ?_; rintro e w' ⟨rfl, rfl⟩)
    go_ret
    exact ⟨ret_bool (by rw [hw.out]; rfl), rfl⟩
  · obtain ⟨x0, x1⟩ := win_iff.1 e1
    replace e1 := Lib.hid e1
    replace e2 := Lib.hid e2
    have tok1 : True := trivial
    go_enter Try.func55, Try.ntmps55
    go_wp2_with (first | (go_at_call 49; clear tok1; refine (within_at e1.out _).mono ?_; rintro e w' ⟨rfl, rfl⟩) | (go_at_call 49; refine (within_at e2.out _).mono ?_; rintro e w' ⟨rfl, rfl⟩))
    go_ret
    exact ⟨ret_bool (by rw [hw.out]; cases b2 <;> rfl), rfl⟩

theorem isPart_at {x wd W : Int} {b : Bool} (h : isp x wd W = b) (h1 : 1 ≤ W) (h2 : W ≤ 64) (w : World) :
    Calls Try.prog 55 #[.int .i64 x, .int .i64 wd, .int .i64 W] w fun e w' => e = .returned (.bool b) ∧ w = w' := h ▸ isPart_any x wd W w h1 h2

theorem Crop_bad (W H M : Int) (A : Option Addr) (n c : Nat) (P : List Int) (x y wd ht : Int) (w : World) (h : Sl w A n c P) (hr : ¬ Ras W H M P) :
    Calls Try.prog 26 #[.agg #[.int .i64 W, .int .i64 H, .int .i64 M, .slice A n c], .int .i64 x, .int .i64 y, .int .i64 wd, .int .i64 ht] w (RetE w 1) := by
  have hb := ((Below.refl w.heap.size w).alloc (Nat.le_refl _) (.cells #[.int .i64 W, .int .i64 H, .int .i64 M, .slice A n c] 24)).alloc (by simp) (.cells #[.int .i64 0, .int .i64 0, .int .i64 0, .slice none 0 0] 24)
  have hs := (h.alloc (.cells #[.int .i64 W, .int .i64 H, .int .i64 M, .slice A n c] 24)).alloc (.cells #[.int .i64 0, .int .i64 0, .int .i64 0, .slice none 0 0] 24)
  have k1 := RB.new (w.alloc (.cells #[.int .i64 W, .int .i64 H, .int .i64 M, .slice A n c] 24)) 0 0 0 none 0 0
  simp only [World.size_alloc] at k1
  have hck := Lib.hid (Check_no hs hr)
  clear h hs hr
  go_enter Try.func26, Try.ntmps26
  go_wp2_with (go_at_call 13; refine (hck.out).mono ?_; rintro e w1 ⟨rfl, hb2⟩; simp only [World.size_alloc] at hb2; obtain ⟨⟨d4, d5, d6, d7⟩, f4, f5, f6, f7⟩ := (k1.below hb2 (by omega)).cells)
  refine bodyPost_ret (v := .tuple #[.agg #[.int .i64 0, .int .i64 0, .int .i64 0, .slice none 0 0], .int .i64 1]) (by simp [results, Try.results26, go_sem, d4, d5, d6, d7, f4, f5, f6, f7]) rfl ⟨rfl, ?_⟩
  repeat (refine Below.setCell ?_ (by simp <;> omega) _)
  exact hb.trans (hb2.mono (by omega))

set_option maxHeartbeats 1600000 in
theorem Crop_out (W H M : Int) (A : Option Addr) (n c : Nat) (P : List Int) (x y wd ht : Int) (w : World) (h : Sl w A n c P) (hr : Ras W H M P) (hp : isp x wd W = false ∨ isp y ht H = false) :
    Calls Try.prog 26 #[.agg #[.int .i64 W, .int .i64 H, .int .i64 M, .slice A n c], .int .i64 x, .int .i64 y, .int .i64 wd, .int .i64 ht] w (RetE w 2) := by
  have hb := ((Below.refl w.heap.size w).alloc (Nat.le_refl _) (.cells #[.int .i64 W, .int .i64 H, .int .i64 M, .slice A n c] 24)).alloc (by simp) (.cells #[.int .i64 0, .int .i64 0, .int .i64 0, .slice none 0 0] 24)
  have hs := (h.alloc (.cells #[.int .i64 W, .int .i64 H, .int .i64 M, .slice A n c] 24)).alloc (.cells #[.int .i64 0, .int .i64 0, .int .i64 0, .slice none 0 0] 24)
  have k0 := (RB.new w W H M A n c).alloc (.cells #[.int .i64 0, .int .i64 0, .int .i64 0, .slice none 0 0] 24)
  have k1 := RB.new (w.alloc (.cells #[.int .i64 W, .int .i64 H, .int .i64 M, .slice A n c] 24)) 0 0 0 none 0 0
  simp only [World.size_alloc] at k1
  have hck := Lib.hid (Check_ok hs hr)
  obtain ⟨⟨W1, W2⟩, ⟨H1, H2⟩, -⟩ := hr.1
  obtain ⟨b1, e1⟩ : ∃ b, isp x wd W = b := ⟨_, rfl⟩
  obtain ⟨b2, e2⟩ : ∃ b, isp y ht H = b := ⟨_, rfl⟩
  rw [e1, e2] at hp
  have p1 := Lib.hid (fun w' : World => isPart_at e1 W1 W2 w')
  have p2 := Lib.hid (fun w' : World => isPart_at e2 H1 H2 w')
  clear h hs hr e1 e2 W1 W2 H1 H2
  cases b1
  · clear p2 hp
    go_enter Try.func26, Try.ntmps26
    go_wp2_with (first | (go_at_call 13; refine (hck.out).mono ?_; rintro e w1 ⟨rfl, hb2⟩; simp only [World.size_alloc] at hb2; obtain ⟨⟨d0, d1, d2, d3⟩, f0, f1, f2, f3⟩ := (k0.below hb2 (by omega)).cells; obtain ⟨⟨d4, d5, d6, d7⟩, f4, f5, f6, f7⟩ := (k1.below hb2 (by omega)).cells) | (go_at_call 55; refine (p1.out _).mono ?_; rintro e w' ⟨rfl, rfl⟩))
    refine bodyPost_ret (v := .tuple #[.agg #[.int .i64 0, .int .i64 0, .int .i64 0, .slice none 0 0], .int .i64 2]) (by simp [results, Try.results26, go_sem, d4, d5, d6, d7, f4, f5, f6, f7]) rfl ⟨rfl, ?_⟩
    repeat (refine Below.setCell ?_ (by simp <;> omega) _)
    exact hb.trans (hb2.mono (by omega))
  · obtain rfl : b2 = false := by simpa using hp
    clear hp
    have tok : True := trivial
    go_enter Try.func26, Try.ntmps26
    go_wp2_with (first | (go_at_call 13; refine (hck.out).mono ?_; rintro e w1 ⟨rfl, hb2⟩; simp only [World.size_alloc] at hb2; obtain ⟨⟨d0, d1, d2, d3⟩, f0, f1, f2, f3⟩ := (k0.below hb2 (by omega)).cells; obtain ⟨⟨d4, d5, d6, d7⟩, f4, f5, f6, f7⟩ := (k1.below hb2 (by omega)).cells) | (go_at_call 55; clear tok; refine (p1.out _).mono ?_; rintro e w' ⟨rfl, rfl⟩) | (go_at_call 55; refine (p2.out _).mono ?_; rintro e w' ⟨rfl, rfl⟩))
    refine bodyPost_ret (v := .tuple #[.agg #[.int .i64 0, .int .i64 0, .int .i64 0, .slice none 0 0], .int .i64 2]) (by simp [results, Try.results26, go_sem, d4, d5, d6, d7, f4, f5, f6, f7]) rfl ⟨rfl, ?_⟩
    repeat (refine Below.setCell ?_ (by simp <;> omega) _)
    exact hb.trans (hb2.mono (by omega))

end Go.Proofs.Ytehnemdifkjhcaa
