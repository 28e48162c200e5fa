/-
  Walk: Restore of package frame.
-/
import Derived.Test.YtfkoboljobghkaaFrRs
import Derived.Test.YtfkoboljobghkaaFrSk
import Derived.Test.YtfkoboljobghkaaFrEc
import Derived.Deep.RegionHeld3
set_option linter.unusedSimpArgs false
set_option linter.unusedVariables false
namespace Go.Proofs.Ytfkoboljobghkaa
open Go.RowKit

/-- The pixels with residuals, one after the other. -/
def rest (W : Nat) (M : Int) (l : List Int) : List Int := l.foldl (fun P v => P ++ [(predI W P P.length + diffI v + (M + 1)) % (M + 1)]) []
theorem rest_snoc (W : Nat) (M : Int) (l : List Int) (v : Int) : rest W M (l ++ [v]) = rest W M l ++ [(predI W (rest W M l) (rest W M l).length + diffI v + (M + 1)) % (M + 1)] := by
  unfold rest
  rw [List.foldl_append]
  rfl
theorem rest_length (W : Nat) (M : Int) : ∀ n (l : List Int), l.length = n → (rest W M l).length = n := by
  intro n
  induction n with
  | zero => intro l hl; rw [List.length_eq_zero_iff.1 hl]; rfl
  | succ n ih =>
    intro l hl
    have h1 : l = l.take n ++ [nth l n] := by
      rw [← take_succ_nth (by omega), List.take_of_length_le (by omega)]
    rw [h1, rest_snoc, List.length_append, ih _ (by rw [List.length_take]; omega)]
    rfl
/-- A prediction asks for pixels before it alone. -/
theorem predI_congr {W : Nat} {P Q : List Int} {i : Nat} (hW : 1 ≤ W) (h : ∀ j, j < i → nth P j = nth Q j) : predI W P i = predI W Q i := by
  unfold predI
  split
  · rfl
  split
  · exact h _ (by omega)
  split
  · exact h _ (by omega)
  · rw [h (i - 1) (by omega), h (i - W) (by omega), h (i - W - 1) (by omega)]

theorem enters_restOut : ∀ args w, (callFunc 52 args).run Try.prog w = .ok (.enter 52 args) w := enters_of Try.func52 (by kernel_rfl) rfl
theorem restOut_pred (M : Int) (B : Nat) (w : World) (hB : B < w.heap.size) (hc : w.cell? ⟨B, 0, none⟩ = some (.int .i64 M)) :
    PredI 52 #[.pointer (some ⟨B, 0, none⟩)] (fun x => !win x 0 M) w := fun W x hb => by
  have hc' : W.cell? ⟨B, 0, none⟩ = some (.int .i64 M) := (hb.cell (p := ⟨B, 0, none⟩) hB).trans hc
  show Calls Try.prog 52 #[.int .i64 x, .pointer (some ⟨B, 0, none⟩)] W _
  go_enter Try.func52, Try.ntmps52
  go_wp2_with (go_at_call 53; refine (fwithin_any _ _ _ _).mono ?_; rintro e w' ⟨rfl, rfl⟩)
  go_ret
  exact ⟨rfl, Below.refl _ _⟩

/-- The code of Restore. -/
def restC (W H M : Int) (l : List Int) : Int := if hfm W H M = false then 2 else if (l.length : Int) ≠ W * H then 4 else if (l.any fun x => !win x 0 M) then 2 else 0

theorem RB.put4 {w : World} {g n c : Nat} {W H M : Int} {A : Option Addr} (h : RB w g W H M A n c) (W' H' M' : Int) (A' : Option Addr) (n' c' : Nat) :
    RB ((((w.setCell ⟨g, 0, none⟩ (.int .i64 W')).setCell ⟨g, 1, none⟩ (.int .i64 H')).setCell ⟨g, 2, none⟩ (.int .i64 M')).setCell ⟨g, 3, none⟩ (.slice A' n' c')) g W' H' M' A' n' c' := by
  have e1 := heap_setCell_same w g 0 _ _ (.int .i64 W') h
  have e2 := heap_setCell_same _ g 1 _ _ (.int .i64 H') e1
  have e3 := heap_setCell_same _ g 2 _ _ (.int .i64 M') e2
  have e4 := heap_setCell_same _ g 3 _ _ (.slice A' n' c') e3
  unfold RB
  rw [e4]
  rfl

/-- No raster and a code. -/
def NoR (r : Int) (w : World) (e : Ending) (w' : World) : Prop := e = .returned (.tuple #[.agg #[.int .i64 0, .int .i64 0, .int .i64 0, .slice none 0 0], .int .i64 r]) ∧ Below w.heap.size w w'

set_option maxHeartbeats 3200000 in
set_option maxRecDepth 100000 in
theorem Restore_no (W H M : Int) (A : Option Addr) (n c : Nat) (l : List Int) (w : World) (h : Sl w A n c l) {r : Int} (hr : restC W H M l = r) (hr0 : r ≠ 0) :
    Calls Try.prog 18 #[.int .i64 W, .int .i64 H, .int .i64 M, .slice A n c] w (NoR r w) := by
  have hb0 := ((Below.refl w.heap.size w).alloc (Nat.le_refl _) (.cells #[.int .i64 M] 3)).alloc (by simp) (.cells #[.int .i64 0, .int .i64 0, .int .i64 0, .slice none 0 0] 25)
  have hs := (h.alloc (.cells #[.int .i64 M] 3)).alloc (.cells #[.int .i64 0, .int .i64 0, .int .i64 0, .slice none 0 0] 25)
  have hlen := h.len
  have hcap := h.le_cap
  have hcl := h.cap_le
  have k0 := RB.new (w.alloc (.cells #[.int .i64 M] 3)) 0 0 0 none 0 0
  simp only [World.size_alloc] at k0
  unfold restC at hr
  by_cases h1 : hfm W H M = false
  · rw [if_pos h1] at hr
    subst hr
    have hcon := Lib.hid (fun W' => New_no W H M W' h1)
    replace h1 := Lib.hid h1
    clear hlen hr0
    go_enter Try.func18, Try.ntmps18
    go_wp2_with (go_at_call 51; refine (hcon.out _).mono ?_; rintro e w2 ⟨rfl, hb2⟩; have hsz2 := hb2.size; simp only [World.size_alloc] at hsz2 hb2; have hlt2 : w.heap.size + 1 < w2.heap.size := hsz2; obtain ⟨⟨d0, d1, d2, d3⟩, f0, f1, f2, f3⟩ := (k0.below hb2 (by omega)).cells)
    have kf := ((k0.below hb2 (by omega)).put4 0 0 0 none 0 0).alloc (.cells #[.int .i64 0, .int .i64 0, .int .i64 0, .slice none 0 0] 25)
    clear d0 d1 d2 d3 f0 f1 f2 f3
    obtain ⟨⟨d0, d1, d2, d3⟩, f0, f1, f2, f3⟩ := kf.cells
    refine bodyPost_ret (v := .tuple #[.agg #[.int .i64 0, .int .i64 0, .int .i64 0, .slice none 0 0], .int .i64 2]) (by simp [results, Try.results18, go_sem, d0, d1, d2, d3, f0, f1, f2, f3]) rfl ⟨rfl, ?_⟩
    refine Below.alloc ?_ (by simp [World.setCell]; omega) _
    repeat (refine Below.setCell ?_ (by simp <;> omega) _)
    exact hb0.trans (hb2.mono (by omega))
  · rw [if_neg h1] at hr
    have h1 : hfm W H M = true := by simpa using h1
    have hr3 := hfm_iff.1 h1
    obtain ⟨a1, a2⟩ := area hr3.1.1 hr3.1.2 hr3.2.1.1 hr3.2.1.2
    obtain ⟨a, rfl⟩ : ∃ a : Nat, W = (a : Int) := ⟨W.toNat, by omega⟩
    obtain ⟨b, rfl⟩ : ∃ b : Nat, H = (b : Int) := ⟨H.toNat, by omega⟩
    have hcon := Lib.hid (fun W' => New_own a b M W' h1)
    by_cases h2 : (l.length : Int) ≠ (a : Int) * (b : Int)
    · rw [if_pos h2] at hr
      subst hr
      have hne : ((n : Int) != (a : Int) * (b : Int)) = true := by rw [bne_iff_ne, hlen]; exact h2
      replace h1 := Lib.hid h1
      replace h2 := Lib.hid h2
      clear hlen hr0
      go_enter Try.func18, Try.ntmps18
      go_wp2_with (go_at_call 51; refine (hcon.out _).mono ?_; rintro e w2 ⟨g, rfl, hg, hbl, hb2⟩; have hsz2 := hb2.size; simp only [World.size_alloc] at hsz2 hb2 hg; have hlt2 : w.heap.size + 1 < w2.heap.size := hsz2; obtain ⟨⟨d0, d1, d2, d3⟩, f0, f1, f2, f3⟩ := (k0.below hb2 (by omega)).cells)
      have kf := ((k0.below hb2 (by omega)).put4 0 0 0 none 0 0).alloc (.cells #[.int .i64 (a : Int), .int .i64 (b : Int), .int .i64 M, .slice (some ⟨g, 0, none⟩) (a * b) (a * b)] 25)
      clear d0 d1 d2 d3 f0 f1 f2 f3
      obtain ⟨⟨d0, d1, d2, d3⟩, f0, f1, f2, f3⟩ := kf.cells
      refine bodyPost_ret (v := .tuple #[.agg #[.int .i64 0, .int .i64 0, .int .i64 0, .slice none 0 0], .int .i64 4]) (by simp [results, Try.results18, go_sem, d0, d1, d2, d3, f0, f1, f2, f3]) rfl ⟨rfl, ?_⟩
      refine Below.alloc ?_ (by simp [World.setCell]; omega) _
      repeat (refine Below.setCell ?_ (by simp <;> omega) _)
      exact hb0.trans (hb2.mono (by omega))
    · rw [if_neg h2] at hr
      have h2 : (l.length : Int) = (a : Int) * (b : Int) := Classical.not_not.1 h2
      have heq : ((n : Int) != (a : Int) * (b : Int)) = false := by rw [hlen]; simp [h2]
      obtain ⟨bb, hbb⟩ : ∃ x, (l.any fun x => !win x 0 M) = x := ⟨_, rfl⟩
      rw [hbb] at hr
      cases bb
      · exact absurd hr.symm hr0
      · have hr : 2 = r := hr
        subst hr
        have hcf := Lib.hid (fun (W' : World) (hW : Sl W' A n c l) (hB : w.heap.size < W'.heap.size) (hc : W'.cell? ⟨w.heap.size, 0, none⟩ = some (.int .i64 M)) => ContainsFunc_ints _ _ _ enters_restOut A n c l W' hW (restOut_pred M w.heap.size W' hB hc) hbb)
        have x00 : ((w.alloc (.cells #[.int .i64 M] 3)).alloc (.cells #[.int .i64 0, .int .i64 0, .int .i64 0, .slice none 0 0] 25)).cell? ⟨w.heap.size, 0, none⟩ = some (.int .i64 M) := by simp [go_sem]
        replace h1 := Lib.hid h1
        replace h2 := Lib.hid h2
        replace hbb := Lib.hid hbb
        replace hs := Lib.hid hs
        clear hlen hr0
        go_enter Try.func18, Try.ntmps18
        go_wp2_with (first | (go_at_call 51; refine (hcon.out _).mono ?_; rintro e w2 ⟨g, rfl, hg, hbl, hb2⟩; have hsz2 := hb2.size; simp only [World.size_alloc] at hsz2 hb2 hg; have hlt2 : w.heap.size + 1 < w2.heap.size := hsz2; obtain ⟨⟨d0, d1, d2, d3⟩, f0, f1, f2, f3⟩ := (k0.below hb2 (by omega)).cells; have x01 := (hb2.cell (p := ⟨w.heap.size, 0, none⟩) (by show w.heap.size < _; omega)).trans x00) | (go_at_call 22; refine (hcf.out _ ((hs.out.below hb2 (by simp)).alloc _) (by simp; omega) (by exact (World.cell?_alloc_lt w2 _ ⟨w.heap.size, 0, none⟩ (by show w.heap.size < _; omega)).trans x01)).mono ?_; rintro e w3 ⟨rfl, hb3⟩; obtain ⟨⟨y0, y1, y2, y3⟩, g0, g1, g2, g3⟩ := ((((k0.below hb2 (by omega)).alloc _).below hb3 (by simp; omega))).cells))
        have kf := ((((k0.below hb2 (by omega)).alloc (.cells #[.int .i64 (a : Int), .int .i64 (b : Int), .int .i64 M, .slice (some ⟨g, 0, none⟩) (a * b) (a * b)] 25)).below hb3 (by simp; omega))).put4 0 0 0 none 0 0
        clear d0 d1 d2 d3 f0 f1 f2 f3
        obtain ⟨⟨d0, d1, d2, d3⟩, f0, f1, f2, f3⟩ := kf.cells
        refine bodyPost_ret (v := .tuple #[.agg #[.int .i64 0, .int .i64 0, .int .i64 0, .slice none 0 0], .int .i64 2]) (by simp [results, Try.results18, go_sem, d0, d1, d2, d3, f0, f1, f2, f3]) rfl ⟨rfl, ?_⟩
        repeat (refine Below.setCell ?_ (by simp <;> omega) _)
        exact ((hb0.trans (hb2.mono (by omega))).alloc (by omega) _).trans (hb3.mono (by simp; omega))

theorem nth_rest {W : Nat} (hW : 1 ≤ W) (M : Int) : ∀ n (l : List Int), l.length = n → ∀ i, i < n → nth (rest W M l) i = (predI W (rest W M l) i + diffI (nth l i) + (M + 1)) % (M + 1) := by
  intro n
  induction n with
  | zero => intro l _ i hi; omega
  | succ n ih =>
    intro l hl i hi
    have h1 : l = l.take n ++ [nth l n] := by
      rw [← take_succ_nth (by omega), List.take_of_length_le (by omega)]
    have hln : (rest W M (l.take n)).length = n := rest_length W M n _ (by rw [List.length_take]; omega)
    have hlt : (l.take n).length = n := by rw [List.length_take]; omega
    generalize hx : nth l n = x at h1
    generalize l.take n = l0 at h1 hln hlt
    subst h1
    rw [rest_snoc, hln]
    generalize hy : (predI W (rest W M l0) n + diffI x + (M + 1)) % (M + 1) = y
    by_cases e : i = n
    · subst e
      rw [nth_right (by omega), hln, Nat.sub_self, nth_right (by omega), hlt, Nat.sub_self]
      rw [predI_congr (Q := rest W M l0) hW (fun j hj => nth_left (by omega))]
      exact hy.symm
    · rw [nth_left (by omega), nth_left (by omega), ih l0 hlt i (by omega)]
      rw [predI_congr (P := rest W M l0 ++ [y]) (Q := rest W M l0) hW (fun j hj => nth_left (by omega))]

set_option maxHeartbeats 6400000 in
set_option maxRecDepth 100000 in
theorem Restore_yes (a b : Nat) (M : Int) (A : Option Addr) (n c : Nat) (l : List Int) (w : World) (h : Sl w A n c l) (hr : restC a b M l = 0) :
    Calls Try.prog 18 #[.int .i64 (a : Int), .int .i64 (b : Int), .int .i64 M, .slice A n c] w fun e w' =>
      ∃ g, e = .returned (.tuple #[.agg #[.int .i64 (a : Int), .int .i64 (b : Int), .int .i64 M, .slice (some ⟨g, 0, none⟩) n n], .int .i64 0]) ∧ w.heap.size ≤ g ∧ Bl w' g (rest a M l) ∧ Below w.heap.size w w' := by
  have hb0 := ((Below.refl w.heap.size w).alloc (Nat.le_refl _) (.cells #[.int .i64 M] 3)).alloc (by simp) (.cells #[.int .i64 0, .int .i64 0, .int .i64 0, .slice none 0 0] 25)
  have hs := (h.alloc (.cells #[.int .i64 M] 3)).alloc (.cells #[.int .i64 0, .int .i64 0, .int .i64 0, .slice none 0 0] 25)
  have hlen := h.len
  have hcap := h.le_cap
  have hcl := h.cap_le
  have k0 := RB.new (w.alloc (.cells #[.int .i64 M] 3)) 0 0 0 none 0 0
  simp only [World.size_alloc] at k0
  unfold restC at hr
  by_cases h1 : hfm (a : Int) (b : Int) M = false
  · rw [if_pos h1] at hr; cases hr
  rw [if_neg h1] at hr
  have h1 : hfm (a : Int) (b : Int) M = true := by simpa using h1
  have hr3 := hfm_iff.1 h1
  obtain ⟨a1, a2⟩ := area hr3.1.1 hr3.1.2 hr3.2.1.1 hr3.2.1.2
  by_cases h2 : (l.length : Int) ≠ (a : Int) * (b : Int)
  · rw [if_pos h2] at hr; cases hr
  rw [if_neg h2] at hr
  have h2 : (l.length : Int) = (a : Int) * (b : Int) := Classical.not_not.1 h2
  have hab : a * b = n := by
    have : ((a * b : Nat) : Int) = (n : Int) := by rw [hlen, h2]; simp
    omega
  have hcon := fun W' => New_own a b M W' h1
  rw [hab] at hcon
  replace hcon := Lib.hid hcon
  have heq : ((n : Int) != (a : Int) * (b : Int)) = false := by rw [hlen]; simp [h2]
  have hbb : (l.any fun x => !win x 0 M) = false := by
    cases hx : (l.any fun x => !win x 0 M) with
    | false => rfl
    | true => rw [hx] at hr; cases hr
  have hin := Lib.hid (outside_iff.1 hbb)
  have hn4 : n ≤ 4096 := by omega
  have hW1 : 1 ≤ a := by omega
  have hW64 : a ≤ 64 := by omega
  have hcf := Lib.hid (fun (W' : World) (hW : Sl W' A n c l) (hB : w.heap.size < W'.heap.size) (hc : W'.cell? ⟨w.heap.size, 0, none⟩ = some (.int .i64 M)) => ContainsFunc_ints _ _ _ enters_restOut A n c l W' hW (restOut_pred M w.heap.size W' hB hc) hbb)
  have x00 : ((w.alloc (.cells #[.int .i64 M] 3)).alloc (.cells #[.int .i64 0, .int .i64 0, .int .i64 0, .slice none 0 0] 25)).cell? ⟨w.heap.size, 0, none⟩ = some (.int .i64 M) := by simp [go_sem]
  have hRl := Lib.hid (rest_length a M n l hlen.symm)
  have hRn := Lib.hid (nth_rest hW1 M n l hlen.symm)
  have hZl : Hid ((List.replicate n (0 : Int)).length = n) := Lib.hid (by simp)
  have hZ0 : Hid (∀ x ∈ List.replicate n (0 : Int), 0 ≤ x ∧ x ≤ M) := Lib.hid (fun x hx => by have := List.eq_of_mem_replicate hx; omega)
  generalize (List.replicate n (0 : Int)) = Z at hcon hZl hZ0
  obtain ⟨R, hR⟩ : ∃ R, rest a M l = R := ⟨_, rfl⟩
  rw [hR] at hRl hRn ⊢
  replace h1 := Lib.hid h1
  replace h2 := Lib.hid h2
  replace hbb := Lib.hid hbb
  replace hs := Lib.hid hs
  replace hlen := Lib.hid hlen
  replace hab := Lib.hid hab
  clear hr hR h
  go_enter Try.func18, Try.ntmps18
  go_wp2_with (first | (go_at_call 51; refine (hcon.out _).mono ?_; rintro e w2 ⟨g, rfl, hg, hbl, hb2⟩; have hsz2 := hb2.size; simp only [World.size_alloc] at hsz2 hb2 hg; have hlt2 : w.heap.size + 1 < w2.heap.size := hsz2; obtain ⟨⟨d0, d1, d2, d3⟩, f0, f1, f2, f3⟩ := (k0.below hb2 (by omega)).cells; have x01 := (hb2.cell (p := ⟨w.heap.size, 0, none⟩) (by show w.heap.size < _; omega)).trans x00) | (go_at_call 22; refine (hcf.out _ ((hs.out.below hb2 (by simp)).alloc _) (by simp; omega) (by exact (World.cell?_alloc_lt w2 _ ⟨w.heap.size, 0, none⟩ (by show w.heap.size < _; omega)).trans x01)).mono ?_; rintro e w3 ⟨rfl, hb3⟩; have hsz3 := hb3.size; simp only [World.size_alloc] at hsz3; have x02 := (hb3.cell (p := ⟨w.heap.size, 0, none⟩) (by show w.heap.size < _; simp; omega)).trans ((World.cell?_alloc_lt w2 _ ⟨w.heap.size, 0, none⟩ (by show w.heap.size < _; omega)).trans x01)))
  have hgl := hbl.lt
  have hB3 : Below w.heap.size w w3 := ((hb0.trans (hb2.mono (by omega))).alloc (by omega) _).trans (hb3.mono (by simp; omega))
  have kR := (RB.new w2 (a : Int) (b : Int) M (some ⟨g, 0, none⟩) n n).below hb3 (by simp)
  have kO := (((k0.below hb2 (by omega)).alloc (.cells #[.int .i64 (a : Int), .int .i64 (b : Int), .int .i64 M, .slice (some ⟨g, 0, none⟩) n n] 25)).below hb3 (by simp; omega))
  have hbl3 := (hbl.alloc (.cells #[.int .i64 (a : Int), .int .i64 (b : Int), .int .i64 M, .slice (some ⟨g, 0, none⟩) n n] 25)).below hb3 (by simp; omega)
  have hsl3 := (((hs.out.below hb2 (by simp)).alloc (.cells #[.int .i64 (a : Int), .int .i64 (b : Int), .int .i64 M, .slice (some ⟨g, 0, none⟩) n n] 25)).below hb3 (Nat.le_refl _))
  have hneg : g ≠ w2.heap.size := by omega
  have hneo : g ≠ w.heap.size + 1 := by omega
  replace hsl3 := Lib.hid hsl3
  clear hbl x00 x01 hcf hcon
  go_loopw [41] (fun i wr => ∃ (k : Nat) (L : List Int), k ≤ n ∧ i = .int .i64 (k : Int) ∧ Bl wr g L ∧ Hid (UpTo L R k) ∧ Hid (∀ x ∈ L, 0 ≤ x ∧ x ≤ M) ∧ RB wr w2.heap.size a b M (some ⟨g, 0, none⟩) n n ∧ RB wr (w.heap.size + 1) 0 0 0 none 0 0 ∧ Only w3 wr g) (fun i _ => n - (intOf i).toNat)
  case atStart => exact ⟨0, Z, Nat.zero_le _, rfl, hbl3, Lib.hid ⟨by rw [hZl.out, hRl.out], fun j hj => absurd hj (Nat.not_lt_zero _)⟩, hZ0, kR, kO, Only.refl _ _⟩
  case round =>
    obtain ⟨k, L, hk, rfl, hB, hU, hLr, hRB, hRO, hO⟩ := hrel
    have hBW : Below w.heap.size w wr := hB3.trans (hO.below (by omega) (by have := hB3.size; omega))
    by_cases hlt : k < n
    · obtain ⟨⟨d0, d1, d2, d3⟩, f0, f1, f2, f3⟩ := hRB.cells
      have hLl : L.length = n := by rw [hU.out.1, hRl.out]
      have hsw := hsl3.out.only hO (fun h0 bb oo e => by have := hs.out.old h0 bb oo e; simp at this; omega)
      obtain ⟨bb, oo, rfl, hbw, hc⟩ := hsw.at_ (by omega)
      have hcell := hc k hlt
      clear hc
      have hx1 := hB.cell (i := k) (by omega)
      have hx2 := hB.frozen k
      obtain ⟨u, hu⟩ : ∃ u, nth L k = u := ⟨_, rfl⟩
      rw [hu] at hx1
      obtain ⟨v, hv⟩ : ∃ v, nth l k = v := ⟨_, rfl⟩
      rw [hv] at hcell
      have hvr : 0 ≤ v ∧ v ≤ M := by
        have hkl : k < l.length := by rw [← hlen.out]; exact hlt
        rw [← hv, nth_eq hkl]
        exact hin.out _ (List.getElem_mem hkl)
      have hpp : predI a L k = predI a R k := predI_congr hW1 fun j hj => hU.out.2 j hj
      obtain ⟨p, hp⟩ : ∃ p, predI a L k = p := ⟨_, rfl⟩
      have hLr2 : ∀ x ∈ L, 0 ≤ x ∧ x ≤ 65535 := fun x hx => by have := hLr.out x hx; omega
      have hpr : 0 ≤ p ∧ p ≤ M := by rw [← hp]; exact predI_range hLr.out (by omega)
      have hpc := Lib.hid (fun (W' : World) (hW : Sl W' (some ⟨g, 0, none⟩) n n L) (u : Int) hu => prediction_any a k b M g 0 n n L W' hW hW1 hW64 hlt hn4 hLr2 hp (u := u) hu)
      obtain ⟨d, hd⟩ : ∃ d, diffI v = d := ⟨_, rfl⟩
      have hdr : 0 ≤ p + d + (M + 1) ∧ p + d + (M + 1) ≤ 1000000 := by rw [← hd]; unfold diffI; split <;> omega
      have hdr2 : -65536 ≤ d ∧ d ≤ 65536 := by rw [← hd]; unfold diffI; split <;> omega
      have hdc := Lib.hid (fun W' => difference_any v W' hvr.1 (by omega) hd)
      have hsL : Sl wr (some ⟨g, 0, none⟩) n n L := hB.sl0 hLl.symm (Nat.le_refl _) (by omega)
      have hne : M + 1 ≠ 0 := by omega
      have ht : (p + d + (M + 1)).tmod (M + 1) = (p + d + (M + 1)) % (M + 1) := Int.tmod_eq_emod_of_nonneg hdr.1
      obtain ⟨y, hy⟩ : ∃ y, (p + d + (M + 1)) % (M + 1) = y := ⟨_, rfl⟩
      have hyr : 0 ≤ y ∧ y ≤ M := by rw [← hy]; exact ⟨Int.emod_nonneg _ hne, by have := Int.emod_lt_of_pos (p + d + (M + 1)) (b := M + 1) (by omega); omega⟩
      have hval : Hid (nth R k = y) := Lib.hid (by rw [hRn.out k hlt, ← hpp, hp, hv, hd, hy])
      have hgl2 := hB.lt
      have hval2 : Hid (nth R k = (p + d + (M + 1)) % (M + 1)) := Lib.hid (by rw [hy]; exact hval.out)
      have hyr2 : Hid (0 ≤ (p + d + (M + 1)) % (M + 1) ∧ (p + d + (M + 1)) % (M + 1) ≤ M) := Lib.hid (by rw [hy]; exact hyr)
      rw [hy] at ht
      replace hsL := Lib.hid hsL
      replace hp := Lib.hid hp
      replace hv := Lib.hid hv
      replace hd := Lib.hid hd
      replace hu := Lib.hid hu
      replace hpp := Lib.hid hpp
      replace hyr := Lib.hid hyr
      replace hLr2 := Lib.hid hLr2
      clear hy ht
      have ht : (p + d + (M + 1)).tmod (M + 1) = (p + d + (M + 1)) % (M + 1) := Int.tmod_eq_emod_of_nonneg hdr.1
      go_wp2
      go_region_with (first | (go_at_call 54; refine (hpc.out _ (by exact hsL.out) _ rfl).mono ?_; rintro e w5 ⟨rfl, hb5⟩; replace hb5 := undrew hb5; have hB5 := hB.below hb5 hgl2; have hx5 := hB5.cell (i := k) (by omega); have hx6 := hB5.frozen k; obtain ⟨⟨d0, d1, d2, d3⟩, f0, f1, f2, f3⟩ := (hRB.below hb5 hRB.lt).cells) | (go_at_call 55; refine (hdc.out _).mono ?_; rintro e w6 ⟨rfl, rfl⟩))
      all_goals go_wp2
      all_goals
        refine ⟨⟨k + 1, L.set k ((p + d + (M + 1)) % (M + 1)), hlt, by go_num, hB5.set k _, Lib.hid (hU.out.set (by rw [hRl.out]; exact hlt) hval2.out), Lib.hid (fun x hx => ?_), (hRB.below hb5 hRB.lt).far (p := ⟨g, k, none⟩) (fun e => hneg e.symm) _, (hRO.below hb5 hRO.lt).far (p := ⟨g, k, none⟩) (fun e => hneo e.symm) _, (hO.trans (Only.of_below hb5 g)).setCell rfl _⟩, by simp [intOf]; omega⟩
        rcases List.mem_or_eq_of_mem_set hx with h | h
        · exact hLr.out x h
        · rw [h]; exact hyr2.out
    · obtain rfl : k = n := by omega
      have hfin := hU.out.done (by rw [hRl.out]; exact Nat.le_refl _)
      subst hfin
      obtain ⟨⟨d0, d1, d2, d3⟩, f0, f1, f2, f3⟩ := hRB.cells
      obtain ⟨⟨y0, y1, y2, y3⟩, g0, g1, g2, g3⟩ := hRO.cells
      have kf := hRO.put4 a b M (some ⟨g, 0, none⟩) k k
      obtain ⟨⟨e0, e1, e2, e3⟩, h0, h1, h2, h3⟩ := kf.cells
      go_wp2
      refine bodyPost_ret (v := .tuple #[.agg #[.int .i64 (a : Int), .int .i64 (b : Int), .int .i64 M, .slice (some ⟨g, 0, none⟩) k k], .int .i64 0]) (by simp [results, Try.results18, go_sem, e0, e1, e2, e3, h0, h1, h2, h3]) rfl ?_
      refine ⟨g, rfl, by omega, ?_, ?_⟩
      · repeat (refine Bl.far ?_ (by exact hneo) _)
        exact hB
      · repeat (refine Below.setCell ?_ (by simp <;> omega) _)
        exact hBW

end Go.Proofs.Ytfkoboljobghkaa
