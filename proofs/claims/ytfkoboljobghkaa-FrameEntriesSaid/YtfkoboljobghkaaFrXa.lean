/-
  Walks: the law FrameEntries where Check refuses the frame. (Written by tools/mk_frxw.py.)
-/
import Derived.Test.YtfkoboljobghkaaFrNm
import Derived.Test.YtfkoboljobghkaaFrKn
import Derived.Test.YtfkoboljobghkaaFrLc
import Derived.Test.YtfkoboljobghkaaFrF0
import Derived.Deep.Cut
set_option linter.unusedSimpArgs false
set_option linter.unusedVariables false
namespace Go.Proofs.Ytfkoboljobghkaa
open Go.RowKit Go.Shelf


theorem same_zero (v : World) : Calls Try.prog 35 #[.agg #[.slice none 0 0, .int .i64 0, .int .i64 0, .int .i64 0, .slice none 0 0], .agg #[.slice none 0 0, .int .i64 0, .int .i64 0, .int .i64 0, .slice none 0 0]] v fun e w' => e = .returned (.bool true) ∧ Below v.heap.size v w' := by
  have hs : Sl v none 0 0 ([] : List Int) := ⟨rfl, Nat.le_refl _, by omega, fun h => by omega⟩
  have := same_any none 0 0 [] 0 0 0 none 0 0 [] none 0 0 [] 0 0 0 none 0 0 [] v (En.nil v) hs (En.nil v) hs
  have h1 : sameF 0 0 0 [] [] 0 0 0 [] [] = true := by simp [sameF, eqr]
  rw [h1] at this
  exact this

set_option maxRecDepth 100000 in
set_option maxHeartbeats 6400000 in
theorem lawE_bad (A : Option Addr) (n c : Nat) (E : List Ent) (W H M : Int) (A2 : Option Addr) (n2 c2 : Nat) (P : List Int) (k u : ByteArray) (w : World) (h : En w A n c E) (h2 : Sl w A2 n2 c2 P) (hf : fewB n2 E = true) (hks : k.size ≤ 140) (hus : u.size ≤ 140) {r : Int} (hr : RasC W H M P E r) (hr0 : r ≠ 0) :
    Calls Try.prog 10 #[.agg #[.slice A n c, .int .i64 W, .int .i64 H, .int .i64 M, .slice A2 n2 c2], .string k, .string u] w fun e w' => e = .returned (.bool true) ∧ Below w.heap.size w w' := by
  obtain rfl := h.1
  have hcap := h.2.1
  have hcl9 := h.2.2.1
  have hc2 : n2 ≤ 9223372036854775807 := by have := h2.le_cap; have := h2.cap_le; omega
  have hks2 : k.size ≤ 1000000000 := by omega
  have hus2 : u.size ≤ 1000000000 := by omega
  have hksi : (k.size : Int) ≤ 140 := by omega
  have husi : (u.size : Int) ≤ 140 := by omega
  have hsz := Lib.hid h.sizes
  have hb0 : Below w.heap.size w ((w.alloc (.cells #[.slice A E.length c, .int .i64 W, .int .i64 H, .int .i64 M, .slice A2 n2 c2] 27)).alloc (.cells #[.string k] 9)) := ((Below.refl w.heap.size w).alloc (Nat.le_refl _) (.cells #[.slice A E.length c, .int .i64 W, .int .i64 H, .int .i64 M, .slice A2 n2 c2] 27)).alloc (by simp) (.cells #[.string k] 9)
  have hE0 := (h.alloc (.cells #[.slice A E.length c, .int .i64 W, .int .i64 H, .int .i64 M, .slice A2 n2 c2] 27)).alloc (.cells #[.string k] 9)
  have hS0 := (h2.alloc (.cells #[.slice A E.length c, .int .i64 W, .int .i64 H, .int .i64 M, .slice A2 n2 c2] 27)).alloc (.cells #[.string k] 9)
  have f0 := (FB.new w (.slice A E.length c) (.int .i64 W) (.int .i64 H) (.int .i64 M) (.slice A2 n2 c2)).alloc (.cells #[.string k] 9)
  have hK0 := KB.new (w.alloc (.cells #[.slice A E.length c, .int .i64 W, .int .i64 H, .int .i64 M, .slice A2 n2 c2] 27)) k
  simp only [World.size_alloc] at hK0
  have hcel : Hid (∀ v, Below ((w.alloc (.cells #[.slice A E.length c, .int .i64 W, .int .i64 H, .int .i64 M, .slice A2 n2 c2] 27)).alloc (.cells #[.string k] 9)).heap.size ((w.alloc (.cells #[.slice A E.length c, .int .i64 W, .int .i64 H, .int .i64 M, .slice A2 n2 c2] 27)).alloc (.cells #[.string k] 9)) v → (v.cell? ⟨w.heap.size, 0, none⟩ = some (.slice A E.length c) ∧ v.cell? ⟨w.heap.size, 1, none⟩ = some (.int .i64 W) ∧ v.cell? ⟨w.heap.size, 2, none⟩ = some (.int .i64 H) ∧ v.cell? ⟨w.heap.size, 3, none⟩ = some (.int .i64 M) ∧ v.cell? ⟨w.heap.size, 4, none⟩ = some (.slice A2 n2 c2)) ∧ (v.cell? ⟨w.heap.size + 1, 0, none⟩ = some (.string k)) ∧ En v A E.length c E ∧ Sl v A2 n2 c2 P ∧ KB v (w.heap.size + 1) k) := by
    intro v hv
    have f1 := f0.below hv (by simp; omega)
    have k1 := hK0.below hv (by simp)
    exact ⟨f1.cells.1, k1.cell, hE0.below hv (Nat.le_refl _), hS0.below hv (Nat.le_refl _), k1⟩
  have hfw := fun v (hv : En v A E.length c E) => few_any A E.length c E W H M A2 n2 c2 v hv hc2
  rw [hf] at hfw
  replace hfw := Lib.hid hfw
  have hn : E.length ≤ 1000000 := by unfold fewB at hf; simp at hf; omega
  have hs0 := Lib.hid (fun v => same_zero v)
  have hget := Lib.hid (fun v hv hv2 => Get_no A E.length c E W H M A2 n2 c2 P k v hv hv2 hr hr0)
  have hput := Lib.hid (fun v hv hv2 => Put_no A E.length c E W H M A2 n2 c2 P k u v hv hv2 hr hr0)
  have hdrop := Lib.hid (fun v hv hv2 => Drop_no A E.length c E W H M A2 n2 c2 P k v hv hv2 hr hr0)
  have hck := Lib.hid (fun v hv hv2 => lcheck_any A E.length c E W H M A2 n2 c2 P v hv hv2 hr)
  have hrr : ((r : Int) == (r : Int)) = true := by simp
  have hrn : (r != 0) = true := by simp [hr0]
  replace hr := Lib.hid hr
  replace hr0 := Lib.hid hr0
  clear h h2 hE0 hS0 f0 hK0 hf
  have tok1 : True := trivial
  have tok2 : True := trivial
  go_enter Try.func10, Try.ntmps10
  go_wp2_with (first
    | (go_at_call 12; refine (known_any _).mono ?_; rintro e w1 ⟨rfl, hb1'⟩; have hB1 := hb1'; obtain ⟨⟨x0, x1, x2, x3, x4⟩, xk, hE, hS, hK⟩ := hcel.out _ hB1)
    | (go_at_call 13; refine (hfw.out _ hE).mono ?_; rintro e w2 ⟨rfl, hb2'⟩; have hB2 := hB1.trans (hb2'.mono hB1.size); clear x0 x1 x2 x3 x4 xk hE hS hK; obtain ⟨⟨x0, x1, x2, x3, x4⟩, xk, hE, hS, hK⟩ := hcel.out _ hB2)
    | (go_at_call 36; refine (hget.out _ hE hS).mono ?_; rintro e w3 ⟨rfl, hb3'⟩; have hB3 := hB2.trans (hb3'.mono hB2.size); clear x0 x1 x2 x3 x4 xk hE hS hK; obtain ⟨⟨x0, x1, x2, x3, x4⟩, xk, hE, hS, hK⟩ := hcel.out _ hB3)
    | (go_at_call 37; refine (hput.out _ hE hS).mono ?_; rintro e w4 ⟨rfl, hb4'⟩; have hB4 := hB3.trans (hb4'.mono hB3.size); replace hB4 := hB4.alloc hB4.size (.cells #[.slice none 0 0, .int .i64 0, .int .i64 0, .int .i64 0, .slice none 0 0] 27); clear x0 x1 x2 x3 x4 xk hE hS hK; obtain ⟨⟨x0, x1, x2, x3, x4⟩, xk, hE, hS, hK⟩ := hcel.out _ hB4; have hfp : Hid (∀ v, Below (w4.alloc (.cells #[.slice none 0 0, .int .i64 0, .int .i64 0, .int .i64 0, .slice none 0 0] 27)).heap.size (w4.alloc (.cells #[.slice none 0 0, .int .i64 0, .int .i64 0, .int .i64 0, .slice none 0 0] 27)) v → (v.cell? ⟨w4.heap.size, 0, none⟩ = some (.slice none 0 0) ∧ v.cell? ⟨w4.heap.size, 1, none⟩ = some (.int .i64 0) ∧ v.cell? ⟨w4.heap.size, 2, none⟩ = some (.int .i64 0) ∧ v.cell? ⟨w4.heap.size, 3, none⟩ = some (.int .i64 0) ∧ v.cell? ⟨w4.heap.size, 4, none⟩ = some (.slice none 0 0))) := (fun v hv => ((FB.new w4 (.slice none 0 0) (.int .i64 0) (.int .i64 0) (.int .i64 0) (.slice none 0 0)).below hv (by simp)).cells.1); obtain ⟨p0, p1, p2, p3, p4⟩ := hfp.out _ (Below.refl _ _))
    | (go_at_call 38; refine (hdrop.out _ hE hS).mono ?_; rintro e w5 ⟨rfl, hb5'⟩; have hB5 := hB4.trans (hb5'.mono hB4.size); have hp5 := hb5'; replace hB5 := hB5.alloc hB5.size (.cells #[.slice none 0 0, .int .i64 0, .int .i64 0, .int .i64 0, .slice none 0 0] 27); replace hp5 := hp5.alloc hp5.size (.cells #[.slice none 0 0, .int .i64 0, .int .i64 0, .int .i64 0, .slice none 0 0] 27); clear x0 x1 x2 x3 x4 xk hE hS hK; obtain ⟨⟨x0, x1, x2, x3, x4⟩, xk, hE, hS, hK⟩ := hcel.out _ hB5; clear p0 p1 p2 p3 p4; obtain ⟨p0, p1, p2, p3, p4⟩ := hfp.out _ hp5; have hfd : Hid (∀ v, Below (w5.alloc (.cells #[.slice none 0 0, .int .i64 0, .int .i64 0, .int .i64 0, .slice none 0 0] 27)).heap.size (w5.alloc (.cells #[.slice none 0 0, .int .i64 0, .int .i64 0, .int .i64 0, .slice none 0 0] 27)) v → (v.cell? ⟨w5.heap.size, 0, none⟩ = some (.slice none 0 0) ∧ v.cell? ⟨w5.heap.size, 1, none⟩ = some (.int .i64 0) ∧ v.cell? ⟨w5.heap.size, 2, none⟩ = some (.int .i64 0) ∧ v.cell? ⟨w5.heap.size, 3, none⟩ = some (.int .i64 0) ∧ v.cell? ⟨w5.heap.size, 4, none⟩ = some (.slice none 0 0))) := (fun v hv => ((FB.new w5 (.slice none 0 0) (.int .i64 0) (.int .i64 0) (.int .i64 0) (.slice none 0 0)).below hv (by simp)).cells.1); obtain ⟨d0, d1, d2, d3, d4⟩ := hfd.out _ (Below.refl _ _))
    | (go_at_call 15; refine (hck.out _ hE hS).mono ?_; rintro e w6 ⟨rfl, hb6'⟩; have hB6 := hB5.trans (hb6'.mono hB5.size); have hp6 := hp5.trans (hb6'.mono hp5.size); have hd6 := hb6'; clear x0 x1 x2 x3 x4 xk hE hS hK; obtain ⟨⟨x0, x1, x2, x3, x4⟩, xk, hE, hS, hK⟩ := hcel.out _ hB6; clear p0 p1 p2 p3 p4; obtain ⟨p0, p1, p2, p3, p4⟩ := hfp.out _ hp6; clear d0 d1 d2 d3 d4; obtain ⟨d0, d1, d2, d3, d4⟩ := hfd.out _ hd6)
    | (go_at_call 35; clear tok1; refine (hs0.out _).mono ?_; rintro e w7 ⟨rfl, hb7'⟩; have hB7 := hB6.trans (hb7'.mono hB6.size); have hp7 := hp6.trans (hb7'.mono hp6.size); have hd7 := hd6.trans (hb7'.mono hd6.size); clear x0 x1 x2 x3 x4 xk hE hS hK; obtain ⟨⟨x0, x1, x2, x3, x4⟩, xk, hE, hS, hK⟩ := hcel.out _ hB7; clear p0 p1 p2 p3 p4; obtain ⟨p0, p1, p2, p3, p4⟩ := hfp.out _ hp7; clear d0 d1 d2 d3 d4; obtain ⟨d0, d1, d2, d3, d4⟩ := hfd.out _ hd7)
    | (go_at_call 35; clear tok2; refine (hs0.out _).mono ?_; rintro e w8 ⟨rfl, hb8'⟩; have hB8 := hB7.trans (hb8'.mono hB7.size); have hp8 := hp7.trans (hb8'.mono hp7.size); have hd8 := hd7.trans (hb8'.mono hd7.size); clear x0 x1 x2 x3 x4 xk hE hS hK; obtain ⟨⟨x0, x1, x2, x3, x4⟩, xk, hE, hS, hK⟩ := hcel.out _ hB8; clear p0 p1 p2 p3 p4; obtain ⟨p0, p1, p2, p3, p4⟩ := hfp.out _ hp8; clear d0 d1 d2 d3 d4; obtain ⟨d0, d1, d2, d3, d4⟩ := hfd.out _ hd8))
  go_ret
  exact ⟨ret_bool (by first | rfl | simp), hb0.trans (hB8.mono hb0.size)⟩


end Go.Proofs.Ytfkoboljobghkaa
