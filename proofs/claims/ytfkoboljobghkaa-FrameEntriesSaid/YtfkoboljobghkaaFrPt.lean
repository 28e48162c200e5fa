/-
  Walks: Put of package frame, where it refuses. (Written by tools/mk_frpt.py.)
-/
import Derived.Test.YtfkoboljobghkaaFrIa
set_option linter.unusedSimpArgs false
set_option linter.unusedVariables false
namespace Go.Proofs.Ytfkoboljobghkaa
open Go.RowKit Go.Shelf

set_option maxRecDepth 100000 in
set_option maxHeartbeats 3200000 in
theorem Put_no (A : Option Addr) (n c : Nat) (E : List Ent) (W H M : Int) (A2 : Option Addr) (n2 c2 : Nat) (P : List Int) (k u : ByteArray) (w : World) (h : En w A n c E) (h2 : Sl w A2 n2 c2 P) {r : Int} (hr : RasC W H M P E r) (hr0 : r ≠ 0) :
    Calls Try.prog 37 #[.agg #[.slice A n c, .int .i64 W, .int .i64 H, .int .i64 M, .slice A2 n2 c2], .string k, .string u] w (NoF r w) := by
  have hb0 := ((Below.refl w.heap.size w).alloc (Nat.le_refl _) (.cells #[.slice A n c, .int .i64 W, .int .i64 H, .int .i64 M, .slice A2 n2 c2] 27)).alloc (by simp) (.cells #[.slice none 0 0, .int .i64 0, .int .i64 0, .int .i64 0, .slice none 0 0] 27)
  have hE := (h.alloc (.cells #[.slice A n c, .int .i64 W, .int .i64 H, .int .i64 M, .slice A2 n2 c2] 27)).alloc (.cells #[.slice none 0 0, .int .i64 0, .int .i64 0, .int .i64 0, .slice none 0 0] 27)
  have hS := (h2.alloc (.cells #[.slice A n c, .int .i64 W, .int .i64 H, .int .i64 M, .slice A2 n2 c2] 27)).alloc (.cells #[.slice none 0 0, .int .i64 0, .int .i64 0, .int .i64 0, .slice none 0 0] 27)
  have hcon := Lib.hid (fCheck_any A n c E W H M A2 n2 c2 P _ hE hS hr)
  have k0 := (FB.new w (.slice A n c) (.int .i64 W) (.int .i64 H) (.int .i64 M) (.slice A2 n2 c2)).alloc (.cells #[.slice none 0 0, .int .i64 0, .int .i64 0, .int .i64 0, .slice none 0 0] 27)
  have k1 := FB.new (w.alloc (.cells #[.slice A n c, .int .i64 W, .int .i64 H, .int .i64 M, .slice A2 n2 c2] 27)) (.slice none 0 0) (.int .i64 0) (.int .i64 0) (.int .i64 0) (.slice none 0 0)
  simp only [World.size_alloc] at k1
  have hne : (r != 0) = true := by simp [hr0]
  replace hr0 := Lib.hid hr0
  replace hr := Lib.hid hr
  replace hE := Lib.hid hE
  replace hS := Lib.hid hS
  clear h h2
  go_enter Try.func37, Try.ntmps37
  go_wp2_with ((go_at_call 14; refine hcon.out.mono ?_; rintro e w2 ⟨rfl, hb2⟩; have hE2 := hE.out.below hb2 (Nat.le_refl _); have hS2 := hS.out.below hb2 (Nat.le_refl _); simp only [World.size_alloc] at hb2; have hs2 := hb2.size; simp only [World.size_alloc] at hs2; obtain ⟨⟨x0, x1, x2, x3, x4⟩, y0, y1, y2, y3, y4⟩ := (k0.below hb2 (by omega)).cells; obtain ⟨⟨z0, z1, z2, z3, z4⟩, t0, t1, t2, t3, t4⟩ := (k1.below hb2 (by omega)).cells))
  refine bodyPost_ret (v := .tuple #[.agg #[.slice none 0 0, .int .i64 0, .int .i64 0, .int .i64 0, .slice none 0 0], .int .i64 r]) (by simp [results, Try.results37, go_sem, z0, z1, z2, z3, z4, t0, t1, t2, t3, t4]) rfl ⟨rfl, ?_⟩
  repeat (refine Below.setCell ?_ (by simp <;> omega) _)
  exact hb0.trans (hb2.mono (by omega))

set_option maxRecDepth 100000 in
set_option maxHeartbeats 3200000 in
theorem Put_name (A : Option Addr) (n c : Nat) (E : List Ent) (W H M : Int) (A2 : Option Addr) (n2 c2 : Nat) (P : List Int) (k u : ByteArray) (w : World) (h : En w A n c E) (h2 : Sl w A2 n2 c2 P) (hg : Good W H M P E) (hk : k.size ≤ 1000000000) (hu : u.size ≤ 1000000000) (hq : keyB k = false) :
    Calls Try.prog 37 #[.agg #[.slice A n c, .int .i64 W, .int .i64 H, .int .i64 M, .slice A2 n2 c2], .string k, .string u] w (NoF 10 w) := by
  have hb0 := ((Below.refl w.heap.size w).alloc (Nat.le_refl _) (.cells #[.slice A n c, .int .i64 W, .int .i64 H, .int .i64 M, .slice A2 n2 c2] 27)).alloc (by simp) (.cells #[.slice none 0 0, .int .i64 0, .int .i64 0, .int .i64 0, .slice none 0 0] 27)
  have hE := (h.alloc (.cells #[.slice A n c, .int .i64 W, .int .i64 H, .int .i64 M, .slice A2 n2 c2] 27)).alloc (.cells #[.slice none 0 0, .int .i64 0, .int .i64 0, .int .i64 0, .slice none 0 0] 27)
  have hS := (h2.alloc (.cells #[.slice A n c, .int .i64 W, .int .i64 H, .int .i64 M, .slice A2 n2 c2] 27)).alloc (.cells #[.slice none 0 0, .int .i64 0, .int .i64 0, .int .i64 0, .slice none 0 0] 27)
  have hcon := Lib.hid (fCheck_any A n c E W H M A2 n2 c2 P _ hE hS (rasC_good hg))
  have k0 := (FB.new w (.slice A n c) (.int .i64 W) (.int .i64 H) (.int .i64 M) (.slice A2 n2 c2)).alloc (.cells #[.slice none 0 0, .int .i64 0, .int .i64 0, .int .i64 0, .slice none 0 0] 27)
  have k1 := FB.new (w.alloc (.cells #[.slice A n c, .int .i64 W, .int .i64 H, .int .i64 M, .slice A2 n2 c2] 27)) (.slice none 0 0) (.int .i64 0) (.int .i64 0) (.int .i64 0) (.slice none 0 0)
  simp only [World.size_alloc] at k1
  have hik := Lib.hid (fun V => isKey_at hq V hk)
  replace hq := Lib.hid hq
  replace hg := Lib.hid hg
  replace hE := Lib.hid hE
  replace hS := Lib.hid hS
  clear h h2
  go_enter Try.func37, Try.ntmps37
  go_wp2_with (first
    | (go_at_call 14; refine hcon.out.mono ?_; rintro e w2 ⟨rfl, hb2⟩; have hE2 := hE.out.below hb2 (Nat.le_refl _); have hS2 := hS.out.below hb2 (Nat.le_refl _); simp only [World.size_alloc] at hb2; have hs2 := hb2.size; simp only [World.size_alloc] at hs2; obtain ⟨⟨x0, x1, x2, x3, x4⟩, y0, y1, y2, y3, y4⟩ := (k0.below hb2 (by omega)).cells; obtain ⟨⟨z0, z1, z2, z3, z4⟩, t0, t1, t2, t3, t4⟩ := (k1.below hb2 (by omega)).cells)
    | (go_at_call 67; refine (hik.out _).mono ?_; rintro e w3 ⟨rfl, hb3'⟩; have hb3 := hb2.trans (hb3'.mono (by omega)); have hs3 := hb3'.size; have hE3 := hE.out.below hb3 (by simp); have hS3 := hS.out.below hb3 (by simp); obtain ⟨⟨x0, x1, x2, x3, x4⟩, y0, y1, y2, y3, y4⟩ := (k0.below hb3 (by omega)).cells; obtain ⟨⟨z0, z1, z2, z3, z4⟩, t0, t1, t2, t3, t4⟩ := (k1.below hb3 (by omega)).cells))
  refine bodyPost_ret (v := .tuple #[.agg #[.slice none 0 0, .int .i64 0, .int .i64 0, .int .i64 0, .slice none 0 0], .int .i64 10]) (by simp [results, Try.results37, go_sem, z0, z1, z2, z3, z4, t0, t1, t2, t3, t4]) rfl ⟨rfl, ?_⟩
  repeat (refine Below.setCell ?_ (by simp <;> omega) _)
  exact hb0.trans (hb3.mono (by omega))

set_option maxRecDepth 100000 in
set_option maxHeartbeats 3200000 in
theorem Put_value (A : Option Addr) (n c : Nat) (E : List Ent) (W H M : Int) (A2 : Option Addr) (n2 c2 : Nat) (P : List Int) (k u : ByteArray) (w : World) (h : En w A n c E) (h2 : Sl w A2 n2 c2 P) (hg : Good W H M P E) (hk : k.size ≤ 1000000000) (hu : u.size ≤ 1000000000) (hq : keyB k = true) {r : Int} (hr : valC u = r) (hr0 : r ≠ 0) :
    Calls Try.prog 37 #[.agg #[.slice A n c, .int .i64 W, .int .i64 H, .int .i64 M, .slice A2 n2 c2], .string k, .string u] w (NoF r w) := by
  have hb0 := ((Below.refl w.heap.size w).alloc (Nat.le_refl _) (.cells #[.slice A n c, .int .i64 W, .int .i64 H, .int .i64 M, .slice A2 n2 c2] 27)).alloc (by simp) (.cells #[.slice none 0 0, .int .i64 0, .int .i64 0, .int .i64 0, .slice none 0 0] 27)
  have hE := (h.alloc (.cells #[.slice A n c, .int .i64 W, .int .i64 H, .int .i64 M, .slice A2 n2 c2] 27)).alloc (.cells #[.slice none 0 0, .int .i64 0, .int .i64 0, .int .i64 0, .slice none 0 0] 27)
  have hS := (h2.alloc (.cells #[.slice A n c, .int .i64 W, .int .i64 H, .int .i64 M, .slice A2 n2 c2] 27)).alloc (.cells #[.slice none 0 0, .int .i64 0, .int .i64 0, .int .i64 0, .slice none 0 0] 27)
  have hcon := Lib.hid (fCheck_any A n c E W H M A2 n2 c2 P _ hE hS (rasC_good hg))
  have k0 := (FB.new w (.slice A n c) (.int .i64 W) (.int .i64 H) (.int .i64 M) (.slice A2 n2 c2)).alloc (.cells #[.slice none 0 0, .int .i64 0, .int .i64 0, .int .i64 0, .slice none 0 0] 27)
  have k1 := FB.new (w.alloc (.cells #[.slice A n c, .int .i64 W, .int .i64 H, .int .i64 M, .slice A2 n2 c2] 27)) (.slice none 0 0) (.int .i64 0) (.int .i64 0) (.int .i64 0) (.slice none 0 0)
  simp only [World.size_alloc] at k1
  have hik := Lib.hid (fun V => isKey_at hq V hk)
  have hcv := Lib.hid (fun V => checkValue_at hr V hu)
  have hne : (r != 0) = true := by simp [hr0]
  replace hr0 := Lib.hid hr0
  replace hr := Lib.hid hr
  replace hq := Lib.hid hq
  replace hg := Lib.hid hg
  replace hE := Lib.hid hE
  replace hS := Lib.hid hS
  clear h h2
  go_enter Try.func37, Try.ntmps37
  go_wp2_with (first
    | (go_at_call 14; refine hcon.out.mono ?_; rintro e w2 ⟨rfl, hb2⟩; have hE2 := hE.out.below hb2 (Nat.le_refl _); have hS2 := hS.out.below hb2 (Nat.le_refl _); simp only [World.size_alloc] at hb2; have hs2 := hb2.size; simp only [World.size_alloc] at hs2; obtain ⟨⟨x0, x1, x2, x3, x4⟩, y0, y1, y2, y3, y4⟩ := (k0.below hb2 (by omega)).cells; obtain ⟨⟨z0, z1, z2, z3, z4⟩, t0, t1, t2, t3, t4⟩ := (k1.below hb2 (by omega)).cells)
    | (go_at_call 67; refine (hik.out _).mono ?_; rintro e w3 ⟨rfl, hb3'⟩; have hb3 := hb2.trans (hb3'.mono (by omega)); have hs3 := hb3'.size; have hE3 := hE.out.below hb3 (by simp); have hS3 := hS.out.below hb3 (by simp); obtain ⟨⟨x0, x1, x2, x3, x4⟩, y0, y1, y2, y3, y4⟩ := (k0.below hb3 (by omega)).cells; obtain ⟨⟨z0, z1, z2, z3, z4⟩, t0, t1, t2, t3, t4⟩ := (k1.below hb3 (by omega)).cells)
    | (go_at_call 68; refine (hcv.out _).mono ?_; rintro e w4 ⟨rfl, hb4'⟩; have hb4 := hb3.trans (hb4'.mono (by omega)); have hs4 := hb4'.size; have hE4 := hE.out.below hb4 (by simp); have hS4 := hS.out.below hb4 (by simp); obtain ⟨⟨x0, x1, x2, x3, x4⟩, y0, y1, y2, y3, y4⟩ := (k0.below hb4 (by omega)).cells; obtain ⟨⟨z0, z1, z2, z3, z4⟩, t0, t1, t2, t3, t4⟩ := (k1.below hb4 (by omega)).cells))
  refine bodyPost_ret (v := .tuple #[.agg #[.slice none 0 0, .int .i64 0, .int .i64 0, .int .i64 0, .slice none 0 0], .int .i64 r]) (by simp [results, Try.results37, go_sem, z0, z1, z2, z3, z4, t0, t1, t2, t3, t4]) rfl ⟨rfl, ?_⟩
  repeat (refine Below.setCell ?_ (by simp <;> omega) _)
  exact hb0.trans (hb4.mono (by omega))

set_option maxRecDepth 100000 in
set_option maxHeartbeats 3200000 in
theorem Put_limit (A : Option Addr) (n c : Nat) (E : List Ent) (W H M : Int) (A2 : Option Addr) (n2 c2 : Nat) (P : List Int) (k u : ByteArray) (w : World) (h : En w A n c E) (h2 : Sl w A2 n2 c2 P) (hg : Good W H M P E) (hk : k.size ≤ 1000000000) (hu : u.size ≤ 1000000000) (hq : keyB k = true) (hr : valC u = 0) {p : Nat} (hp : PosOf E k p) (ha : isAt E k p = false) (hl : n = 32) :
    Calls Try.prog 37 #[.agg #[.slice A n c, .int .i64 W, .int .i64 H, .int .i64 M, .slice A2 n2 c2], .string k, .string u] w (NoF 3 w) := by
  have hb0 := ((Below.refl w.heap.size w).alloc (Nat.le_refl _) (.cells #[.slice A n c, .int .i64 W, .int .i64 H, .int .i64 M, .slice A2 n2 c2] 27)).alloc (by simp) (.cells #[.slice none 0 0, .int .i64 0, .int .i64 0, .int .i64 0, .slice none 0 0] 27)
  have hE := (h.alloc (.cells #[.slice A n c, .int .i64 W, .int .i64 H, .int .i64 M, .slice A2 n2 c2] 27)).alloc (.cells #[.slice none 0 0, .int .i64 0, .int .i64 0, .int .i64 0, .slice none 0 0] 27)
  have hS := (h2.alloc (.cells #[.slice A n c, .int .i64 W, .int .i64 H, .int .i64 M, .slice A2 n2 c2] 27)).alloc (.cells #[.slice none 0 0, .int .i64 0, .int .i64 0, .int .i64 0, .slice none 0 0] 27)
  have hcon := Lib.hid (fCheck_any A n c E W H M A2 n2 c2 P _ hE hS (rasC_good hg))
  have k0 := (FB.new w (.slice A n c) (.int .i64 W) (.int .i64 H) (.int .i64 M) (.slice A2 n2 c2)).alloc (.cells #[.slice none 0 0, .int .i64 0, .int .i64 0, .int .i64 0, .slice none 0 0] 27)
  have k1 := FB.new (w.alloc (.cells #[.slice A n c, .int .i64 W, .int .i64 H, .int .i64 M, .slice A2 n2 c2] 27)) (.slice none 0 0) (.int .i64 0) (.int .i64 0) (.int .i64 0) (.slice none 0 0)
  simp only [World.size_alloc] at k1
  have hn : n ≤ 1000000 := by omega
  have hik := Lib.hid (fun V => isKey_at hq V hk)
  have hcv := Lib.hid (fun V => checkValue_at hr V hu)
  have hfi := Lib.hid (fun V hV => ha ▸ find_any A n c E k p V hV hn hp)
  subst hl
  replace hr := Lib.hid hr
  replace hq := Lib.hid hq
  replace hg := Lib.hid hg
  clear hp ha
  replace hE := Lib.hid hE
  replace hS := Lib.hid hS
  clear h h2
  go_enter Try.func37, Try.ntmps37
  go_wp2_with (first
    | (go_at_call 14; refine hcon.out.mono ?_; rintro e w2 ⟨rfl, hb2⟩; have hE2 := hE.out.below hb2 (Nat.le_refl _); have hS2 := hS.out.below hb2 (Nat.le_refl _); simp only [World.size_alloc] at hb2; have hs2 := hb2.size; simp only [World.size_alloc] at hs2; obtain ⟨⟨x0, x1, x2, x3, x4⟩, y0, y1, y2, y3, y4⟩ := (k0.below hb2 (by omega)).cells; obtain ⟨⟨z0, z1, z2, z3, z4⟩, t0, t1, t2, t3, t4⟩ := (k1.below hb2 (by omega)).cells)
    | (go_at_call 67; refine (hik.out _).mono ?_; rintro e w3 ⟨rfl, hb3'⟩; have hb3 := hb2.trans (hb3'.mono (by omega)); have hs3 := hb3'.size; have hE3 := hE.out.below hb3 (by simp); have hS3 := hS.out.below hb3 (by simp); obtain ⟨⟨x0, x1, x2, x3, x4⟩, y0, y1, y2, y3, y4⟩ := (k0.below hb3 (by omega)).cells; obtain ⟨⟨z0, z1, z2, z3, z4⟩, t0, t1, t2, t3, t4⟩ := (k1.below hb3 (by omega)).cells)
    | (go_at_call 68; refine (hcv.out _).mono ?_; rintro e w4 ⟨rfl, hb4'⟩; have hb4 := hb3.trans (hb4'.mono (by omega)); have hs4 := hb4'.size; have hE4 := hE.out.below hb4 (by simp); have hS4 := hS.out.below hb4 (by simp); obtain ⟨⟨x0, x1, x2, x3, x4⟩, y0, y1, y2, y3, y4⟩ := (k0.below hb4 (by omega)).cells; obtain ⟨⟨z0, z1, z2, z3, z4⟩, t0, t1, t2, t3, t4⟩ := (k1.below hb4 (by omega)).cells)
    | (go_at_call 66; refine (hfi.out _ hE4).mono ?_; rintro e w5 ⟨rfl, hb5'⟩; have hb5 := hb4.trans (hb5'.mono (by omega)); have hs5 := hb5'.size; have hE5 := hE.out.below hb5 (by simp); have hS5 := hS.out.below hb5 (by simp); obtain ⟨⟨x0, x1, x2, x3, x4⟩, y0, y1, y2, y3, y4⟩ := (k0.below hb5 (by omega)).cells; obtain ⟨⟨z0, z1, z2, z3, z4⟩, t0, t1, t2, t3, t4⟩ := (k1.below hb5 (by omega)).cells))
  refine bodyPost_ret (v := .tuple #[.agg #[.slice none 0 0, .int .i64 0, .int .i64 0, .int .i64 0, .slice none 0 0], .int .i64 3]) (by simp [results, Try.results37, go_sem, z0, z1, z2, z3, z4, t0, t1, t2, t3, t4]) rfl ⟨rfl, ?_⟩
  repeat (refine Below.setCell ?_ (by simp <;> omega) _)
  exact hb0.trans (hb5.mono (by omega))

end Go.Proofs.Ytfkoboljobghkaa
