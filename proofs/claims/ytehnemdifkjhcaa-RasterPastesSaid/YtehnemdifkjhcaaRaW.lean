/-
  Walks: Paste of package raster.
-/
import Derived.Test.YtehnemdifkjhcaaRaV
set_option linter.unusedSimpArgs false
set_option linter.unusedVariables false
namespace Go.Proofs.Ytehnemdifkjhcaa
open Go.RowKit

section
variable (W H M : Int) (A : Option Addr) (n c : Nat) (W2 H2 M2 : Int) (A2 : Option Addr) (n2 c2 : Nat) (w : World)
/-- The world in which Paste begins. -/
abbrev pasteW : World := ((w.alloc (.cells #[.int .i64 W, .int .i64 H, .int .i64 M, .slice A n c] 24)).alloc (.cells #[.int .i64 W2, .int .i64 H2, .int .i64 M2, .slice A2 n2 c2] 24)).alloc (.cells #[.int .i64 0, .int .i64 0, .int .i64 0, .slice none 0 0] 24)
theorem pasteW_facts : RB (pasteW W H M A n c W2 H2 M2 A2 n2 c2 w) w.heap.size W H M A n c ∧ RB (pasteW W H M A n c W2 H2 M2 A2 n2 c2 w) (w.heap.size + 1) W2 H2 M2 A2 n2 c2 ∧ RB (pasteW W H M A n c W2 H2 M2 A2 n2 c2 w) (w.heap.size + 2) 0 0 0 none 0 0 ∧ Below w.heap.size w (pasteW W H M A n c W2 H2 M2 A2 n2 c2 w) ∧ (pasteW W H M A n c W2 H2 M2 A2 n2 c2 w).heap.size = w.heap.size + 3 := by
  have k1 := (RB.new (w.alloc (.cells #[.int .i64 W, .int .i64 H, .int .i64 M, .slice A n c] 24)) W2 H2 M2 A2 n2 c2).alloc (.cells #[.int .i64 0, .int .i64 0, .int .i64 0, .slice none 0 0] 24)
  have k2 := RB.new ((w.alloc (.cells #[.int .i64 W, .int .i64 H, .int .i64 M, .slice A n c] 24)).alloc (.cells #[.int .i64 W2, .int .i64 H2, .int .i64 M2, .slice A2 n2 c2] 24)) 0 0 0 none 0 0
  simp only [World.size_alloc] at k1 k2
  exact ⟨((RB.new w W H M A n c).alloc _).alloc _, k1, k2, (((Below.refl _ w).alloc (Nat.le_refl _) _).alloc (by simp) _).alloc (by simp <;> omega) _, by simp⟩
end

/-- What holds while rows are pasted. -/
structure PI (w wr : World) (B5 g n c : Nat) (W H M : Int) (A : Option Addr) (n2 c2 : Nat) (W2 H2 M2 : Int) (A2 : Option Addr) (P2 : List Int) (c3 : Nat) (L : List Int) (S : List Int → Prop) : Prop where
  k0 : RB wr w.heap.size W H M A n c
  k1 : RB wr (w.heap.size + 1) W2 H2 M2 A2 n2 c2
  k2 : RB wr (w.heap.size + 2) 0 0 0 none 0 0
  k5 : RB wr B5 W H M (some ⟨g, 0, none⟩) n c3
  bl : Bl wr g L
  st : S L
  sl : Sl wr A2 n2 c2 P2
  old : ∀ b o, A2 = some ⟨b, o, none⟩ → 0 < n2 → b < w.heap.size
  below : Below w.heap.size w wr
  size : B5 < wr.heap.size
  gne : w.heap.size + 2 < g
  g5 : g < B5
section
variable {w wr w1 : World} {B5 g n c n2 c2 c3 : Nat} {W H M W2 H2 M2 : Int} {A A2 : Option Addr} {P2 L L' : List Int} {S S' : List Int → Prop}
theorem PI.weak (h : PI w wr B5 g n c W H M A n2 c2 W2 H2 M2 A2 P2 c3 L S) (hS : S L → S' L) : PI w wr B5 g n c W H M A n2 c2 W2 H2 M2 A2 P2 c3 L S' :=
  ⟨h.k0, h.k1, h.k2, h.k5, h.bl, hS h.st, h.sl, h.old, h.below, h.size, h.gne, h.g5⟩
theorem PI.only (h : PI w wr B5 g n c W H M A n2 c2 W2 H2 M2 A2 P2 c3 L S) (ho : Only wr w1 g) (hb : Bl w1 g L') (hS : S' L') : PI w w1 B5 g n c W H M A n2 c2 W2 H2 M2 A2 P2 c3 L' S' := by
  have h1 := h.gne
  have h2 := h.g5
  have h4 := h.size
  have h5 := ho.size
  have kp : ∀ b, b < wr.heap.size → b ≠ g → w1.heap[b]? = wr.heap[b]? := fun b hb hne => ho.block b hb (fun e => hne (by injection e))
  refine ⟨h.k0.keep (kp _ h.k0.lt (by omega)), h.k1.keep (kp _ h.k1.lt (by omega)), h.k2.keep (kp _ h.k2.lt (by omega)), h.k5.keep (kp _ h.k5.lt (by omega)), hb, hS, ?_, h.old, h.below.trans (ho.below (by omega) h.below.size), by omega, h1, h2⟩
  exact h.sl.only ho fun h0 b o e => by have := h.old b o e h0; omega
/-- The cells of the three boxes, in every world in which only g's block has changed. -/
theorem PI.cellsOnly (h : PI w wr B5 g n c W H M A n2 c2 W2 H2 M2 A2 P2 c3 L S) {w' : World} (ho : Only wr w' g) :
    w'.cell? ⟨w.heap.size, 0, none⟩ = some (.int .i64 W) ∧ w'.cell? ⟨w.heap.size, 1, none⟩ = some (.int .i64 H) ∧ w'.cell? ⟨w.heap.size, 2, none⟩ = some (.int .i64 M) ∧ w'.cell? ⟨w.heap.size, 3, none⟩ = some (.slice A n c) ∧
    w'.cell? ⟨w.heap.size + 1, 0, none⟩ = some (.int .i64 W2) ∧ w'.cell? ⟨w.heap.size + 1, 1, none⟩ = some (.int .i64 H2) ∧ w'.cell? ⟨w.heap.size + 1, 2, none⟩ = some (.int .i64 M2) ∧ w'.cell? ⟨w.heap.size + 1, 3, none⟩ = some (.slice A2 n2 c2) ∧
    w'.cell? ⟨B5, 0, none⟩ = some (.int .i64 W) ∧ w'.cell? ⟨B5, 1, none⟩ = some (.int .i64 H) ∧ w'.cell? ⟨B5, 2, none⟩ = some (.int .i64 M) ∧ w'.cell? ⟨B5, 3, none⟩ = some (.slice (some ⟨g, 0, none⟩) n c3) := by
  obtain ⟨⟨d0, d1, d2, d3⟩, -⟩ := h.k0.cells
  obtain ⟨⟨d4, d5, d6, d7⟩, -⟩ := h.k1.cells
  obtain ⟨⟨d8, d9, d10, d11⟩, -⟩ := h.k5.cells
  have h1 := h.gne
  have h2 := h.g5
  have h4 := h.size
  have h5 := h.k0.lt
  have h6 := h.k1.lt
  have kk : ∀ b o, b < wr.heap.size → b ≠ g → w'.cell? ⟨b, o, none⟩ = wr.cell? ⟨b, o, none⟩ := fun b o h1 h2 => World.cell?_of_block (ho.block b h1 (fun e => h2 (by injection e)))
  refine ⟨(kk _ _ ?_ ?_).trans d0, (kk _ _ ?_ ?_).trans d1, (kk _ _ ?_ ?_).trans d2, (kk _ _ ?_ ?_).trans d3, (kk _ _ ?_ ?_).trans d4, (kk _ _ ?_ ?_).trans d5, (kk _ _ ?_ ?_).trans d6, (kk _ _ ?_ ?_).trans d7, (kk _ _ ?_ ?_).trans d8, (kk _ _ ?_ ?_).trans d9, (kk _ _ ?_ ?_).trans d10, (kk _ _ ?_ ?_).trans d11⟩ <;> omega
end

set_option maxRecDepth 100000 in
set_option maxHeartbeats 8000000 in
theorem Paste_yes (a b a2 b2 : Nat) (M : Int) (A : Option Addr) (n c : Nat) (P : List Int) (A2 : Option Addr) (n2 c2 : Nat) (P2 : List Int) (x y : Int) (w : World) (h : Sl w A n c P) (h2 : Sl w A2 n2 c2 P2) (hr : Ras a b M P) (hr2 : Ras a2 b2 M P2) (hx : -64 ≤ x ∧ x ≤ 64) (hy : -64 ≤ y ∧ y ≤ 64) :
    Calls Try.prog 27 #[.agg #[.int .i64 a, .int .i64 b, .int .i64 M, .slice A n c], .agg #[.int .i64 a2, .int .i64 b2, .int .i64 M, .slice A2 n2 c2], .int .i64 x, .int .i64 y] w (RetR w a b M (pasted a a2 b2 x y P P2)) := by
  obtain ⟨k0, k1, k2, hb0, hz⟩ := pasteW_facts a b M A n c a2 b2 M A2 n2 c2 w
  have hs := Lib.hid (fun w' (hb : Below w.heap.size w w') => h.below hb (Nat.le_refl _))
  have hs2 := Lib.hid (fun w' (hb : Below w.heap.size w w') => h2.below hb (Nat.le_refl _))
  have hck := Lib.hid (fun w' (hb : Below w.heap.size w w') => Check_ok (hs.out w' hb) hr)
  have hck2 := Lib.hid (fun w' (hb : Below w.heap.size w w') => Check_ok (hs2.out w' hb) hr2)
  obtain ⟨a', b', ea, eb, ⟨ha1, ha2⟩, ⟨hb1, hb2⟩, ⟨hM1, hM2⟩, hab, hl1, hl2⟩ := hr.nat
  obtain rfl : a = a' := by omega
  obtain rfl : b = b' := by omega
  obtain ⟨a', b', ea, eb, ⟨ga1, ga2⟩, ⟨gb1, gb2⟩, -, gab, gl1, gl2⟩ := hr2.nat
  obtain rfl : a2 = a' := by omega
  obtain rfl : b2 = b' := by omega
  have hnP := h.len
  have hnP2 := h2.len
  have hnn : n = b * a := by rw [hnP, hab, Nat.mul_comm]
  have hnn2 : n2 = b2 * a2 := by rw [hnP2, gab, Nat.mul_comm]
  have hcop := Lib.hid (fun w' (hb : Below w.heap.size w w') => copied_any a b M A n c P w' (hs.out w' hb) (by omega) (by omega))
  obtain ⟨bs, offs, rfl, hbsw, -⟩ := h2.at_ (by omega)
  have w1t := Lib.hid (fun w' : World => within_at (a := x) (lo := -64) (hi := 64) (b := true) (win_iff.2 hx) w')
  have w2t := Lib.hid (fun w' : World => within_at (a := y) (lo := -64) (hi := 64) (b := true) (win_iff.2 hy) w')
  have hncap2 := h2.le_cap
  have hccap2 := h2.cap_le
  have hPl := Lib.hid (show P.length = b * a by omega)
  obtain ⟨hx1, hx2⟩ := hx
  obtain ⟨hy1, hy2⟩ := hy
  -- the stretch of columns and of rows
  obtain ⟨l, hl⟩ : ∃ l : Nat, (if x < 0 then -x else 0) = (l : Int) := ⟨(if x < 0 then -x else 0).toNat, by split <;> omega⟩
  obtain ⟨rr, hrr⟩ : ∃ rr : Int, (if (a : Int) - x < (a2 : Int) then (a : Int) - x else (a2 : Int)) = rr := ⟨_, rfl⟩
  obtain ⟨j0, hj0⟩ : ∃ l : Nat, (if y < 0 then -y else 0) = (l : Int) := ⟨(if y < 0 then -y else 0).toNat, by split <;> omega⟩
  obtain ⟨je, hje⟩ : ∃ rr : Int, (if (b : Int) - y < (b2 : Int) then (b : Int) - y else (b2 : Int)) = rr := ⟨_, rfl⟩
  have hl' : (l : Int) = 0 ∧ 0 ≤ x ∨ x + l = 0 ∧ x < 0 := by revert hl; split <;> omega
  have hrr' : rr = a2 ∧ rr ≤ a - x ∨ rr = a - x ∧ rr ≤ a2 := by revert hrr; split <;> omega
  have hj0' : (j0 : Int) = 0 ∧ 0 ≤ y ∨ y + j0 = 0 ∧ y < 0 := by revert hj0; split <;> omega
  have hje' : je = b2 ∧ je ≤ b - y ∨ je = b - y ∧ je ≤ b2 := by revert hje; split <;> omega
  replace hl' := Lib.hid hl'
  replace hrr' := Lib.hid hrr'
  replace hj0' := Lib.hid hj0'
  replace hje' := Lib.hid hje'
  have hwx : IntKind.i64.wrap (-x) = -x := IntWalk.i64_in _ (by omega)
  have hwy : IntKind.i64.wrap (-y) = -y := IntWalk.i64_in _ (by omega)
  have hwax : IntKind.i64.wrap ((a : Int) - x) = (a : Int) - x := IntWalk.i64_in _ (by omega)
  have hwby : IntKind.i64.wrap ((b : Int) - y) = (b : Int) - y := IntWalk.i64_in _ (by omega)
  replace hnn := Lib.hid hnn
  replace hnn2 := Lib.hid hnn2
  have hn4 : n ≤ 4096 := by omega
  have hn42 : n2 ≤ 4096 := by omega
  replace hz := Lib.hid hz
  have tok1 : True := trivial
  have tok2 : True := trivial
  clear hr hr2 hab hnP hl1 hl2 h h2 ea eb gab gl1 gl2 hnP2
  go_enter Try.func27, Try.ntmps27
  go_upto_region 8 with (first
    | (go_at_call 13; clear tok1; refine ((hck.out _ hb0)).mono ?_; rintro e w1 ⟨rfl, hb3⟩; rw [hz.out] at hb3; have z1 := hb3.size; rw [hz.out] at z1; replace k0 := k0.below hb3 (by omega); replace k1 := k1.below hb3 (by omega); replace k2 := k2.below hb3 (by omega); have hB1 := hb0.trans (hb3.mono (by omega)); obtain ⟨⟨d4, d5, d6, d7⟩, -⟩ := k1.cells)
    | (go_at_call 13; refine ((hck2.out _ hB1)).mono ?_; rintro e w2 ⟨rfl, hb4⟩; have z2 := hb4.size; replace k0 := k0.below hb4 (by omega); replace k1 := k1.below hb4 (by omega); replace k2 := k2.below hb4 (by omega); have hB2 := hB1.trans (hb4.mono (by omega)); clear d4 d5 d6 d7; obtain ⟨⟨d0, d1, d2, d3⟩, -⟩ := k0.cells; obtain ⟨⟨d4, d5, d6, d7⟩, -⟩ := k1.cells)
    | (go_at_call 49; clear tok2; refine (w1t.out _).mono ?_; rintro e w' ⟨rfl, rfl⟩)
    | (go_at_call 49; refine (w2t.out _).mono ?_; rintro e w' ⟨rfl, rfl⟩)
    | (go_at_call 54; refine (hcop.out _ hB2).mono ?_; rintro e w3 ⟨g, n3, c3, rfl, hg, hbz, hn3, hc1, hc2, hb5⟩; have z3 := hb5.size; replace k0 := k0.below hb5 (by omega); replace k1 := k1.below hb5 (by omega); replace k2 := k2.below hb5 (by omega); have hB3 := hB2.trans (hb5.mono (by omega)); clear d0 d1 d2 d3 d4 d5 d6 d7; replace hn3 := Lib.hid hn3))
  obtain rfl : n = n3 := by rw [hn3.out, hPl.out, hnn.out]
  have hgB := hbz.lt
  have k5 := RB.new w3 a b M (some ⟨g, 0, none⟩) n c3
  replace k0 := k0.alloc (.cells #[.int .i64 a, .int .i64 b, .int .i64 M, .slice (some ⟨g, 0, none⟩) n c3] 24)
  replace k1 := k1.alloc (.cells #[.int .i64 a, .int .i64 b, .int .i64 M, .slice (some ⟨g, 0, none⟩) n c3] 24)
  replace k2 := k2.alloc (.cells #[.int .i64 a, .int .i64 b, .int .i64 M, .slice (some ⟨g, 0, none⟩) n c3] 24)
  replace hbz := hbz.alloc (.cells #[.int .i64 a, .int .i64 b, .int .i64 M, .slice (some ⟨g, 0, none⟩) n c3] 24)
  have hsl2 := (hs2.out _ hB3).alloc (.cells #[.int .i64 a, .int .i64 b, .int .i64 M, .slice (some ⟨g, 0, none⟩) n c3] 24)
  have hB4 := hB3.alloc hB3.size (.cells #[.int .i64 a, .int .i64 b, .int .i64 M, .slice (some ⟨g, 0, none⟩) n c3] 24)
  have F0 : PI w _ w3.heap.size g n c a b M A n2 c2 a2 b2 M (some ⟨bs, offs, none⟩) P2 c3 P (fun L => L.length = b * a ∧ ∀ k, k < b * a → nth L k = pf a a2 b2 x y P P2 (j0 : Int) k) := ⟨k0, k1, k2, k5, hbz, ⟨hPl.out, pf_none (by have := hj0'.out; intros; omega)⟩, hsl2, fun b o e _ => by cases e; exact hbsw, hB4, by simp, by omega, hgB⟩
  obtain ⟨⟨d0, d1, d2, d3⟩, -⟩ := k0.cells
  obtain ⟨⟨d4, d5, d6, d7⟩, -⟩ := k1.cells
  clear k0 k1 k2 k5 hbz hB4 hB3 hB2 hB1 hb0 hb3 hb4 hb5 hsl2 hs hs2 hck hck2 hcop w1t w2t
  go_region
  go_wp2
  clear d0 d1 d2 d3 d4 d5 d6 d7 hrr hl hj0
  go_loopw [13] (fun i wr => ∃ (j : Nat) (L : List Int), j0 ≤ j ∧ i = .int .i64 (j : Int) ∧ PI w wr w3.heap.size g n c a b M A n2 c2 a2 b2 M (some ⟨bs, offs, none⟩) P2 c3 L (fun L => L.length = b * a ∧ ∀ k, k < b * a → nth L k = pf a a2 b2 x y P P2 (j : Int) k)) (fun i _ => (je - intOf i).toNat)
  case atStart => exact ⟨j0, _, Nat.le_refl _, rfl, F0.only (Only.refl _ g).drew F0.bl.drew F0.st⟩
  case round =>
    clear F0
    obtain ⟨j, L, hj, rfl, F⟩ := hrel
    obtain ⟨d0, d1, d2, d3, d4, d5, d6, d7, d8, d9, d10, d11⟩ := F.cellsOnly (Only.refl wr g)
    by_cases hje1 : (j : Int) < je
    · by_cases hlr : (l : Int) < rr
      · obtain ⟨rn, hrn⟩ : ∃ rn : Nat, rr = rn := ⟨rr.toNat, by omega⟩
        subst hrn
        have e1 := hl'.out
        have e2 := hrr'.out
        have e3 := hj0'.out
        have e4 := hje'.out
        obtain ⟨xl, hxl⟩ : ∃ m : Nat, x + l = (m : Int) := ⟨(x + l).toNat, by omega⟩
        obtain ⟨yj, hyj⟩ : ∃ m : Nat, y + j = (m : Int) := ⟨(y + j).toNat, by omega⟩
        obtain ⟨q, hq⟩ : ∃ q, yj * a = q := ⟨_, rfl⟩
        obtain ⟨q2, hq2⟩ : ∃ q2, j * a2 = q2 := ⟨_, rfl⟩
        have hyb : yj < b := by omega
        have hjb : j < b2 := by omega
        have hl0 : l = 0 ∨ xl = 0 := by omega
        have hra : rn ≤ a2 := by omega
        have hfit : xl + (rn - l) ≤ a := by omega
        have hfr : rn = a2 ∨ xl + (rn - l) = a := by omega
        have hlr' : l < rn := by omega
        have hl1 : q + a ≤ n := by rw [← hq, hnn.out]; exact row_le hyb
        have hl2 : q2 + a2 ≤ n2 := by rw [← hq2, hnn2.out]; exact row_le hjb
        have hX : ∃ X : List Int, X.length = rn - l ∧ ∀ i, i < rn - l → nth X i = nth P2 (j * a2 + (l + i)) := ⟨tab (rn - l) (fun i => nth P2 (j * a2 + (l + i))), tab_length _ _, fun i hi => nth_tab hi⟩
        obtain ⟨X, hXl, hX1⟩ := hX
        obtain ⟨b', o', e, hbbl, hcc⟩ := F.sl.at_ (by omega)
        cases e
        have hsrc : ∀ W, Below wr.heap.size wr W → ∀ i, i < X.length → W.cell? ((⟨bs, offs + q2 + l, none⟩ : Addr).add i) = some (.int .i64 (nth X i)) := fun W hb i hi => by
          rw [Addr.add_lit, hb.cell (p := ⟨bs, offs + q2 + l + i, none⟩) hbbl, Nat.add_assoc, Nat.add_assoc, hcc (q2 + (l + i)) (by omega), hX1 i (by omega), hq2]
        have hblT := Lib.hid (fun (W : World) (hb : Below wr.heap.size wr W) => F.bl.below hb F.bl.lt)
        have hst := F.st
        have hrow := Lib.hid (pf_row hst.1 hst.2 hxl hyj hq hyb hl0 hlr' hra hfit hfr hjb hXl hX1)
        have hLl := Lib.hid (hst.1.trans hnn.out.symm)
        have keepS := Lib.hid (fun w' (ho : Only wr w' g) => F.cellsOnly ho)
        have tok : True := trivial
        have hq64 : yj ≤ 64 := by omega
        have hj64 : j ≤ 64 := by omega
        replace hsrc := Lib.hid hsrc
        replace hXl := Lib.hid hXl
        replace hq := Lib.hid hq
        replace hq2 := Lib.hid hq2
        clear hcc hX1 hst e1 e2 e3 e4 hfr hl0
        have hwA : IntKind.i64.wrap (yj : Int) = (yj : Int) := IntWalk.i64_in _ (by omega)
        have hwB : IntKind.i64.wrap (xl : Int) = (xl : Int) := IntWalk.i64_in _ (by omega)
        have hw0 : (0 : Int) ≤ (xl : Int) := by omega
        have hw1 : (xl : Int) ≤ (a : Int) := by omega
        have hw2 : ¬ (c3 - q = xl) := by omega
        have hw3 : (0 : Int) ≤ (l : Int) := by omega
        have hw4 : (l : Int) ≤ (rn : Int) := by omega
        have hw5 : (rn : Int) ≤ ((c2 - q2 : Nat) : Int) := by omega
        have hw6 : ¬ (c2 - q2 = l) := by omega
        go_wp2
        go_region_held3 (fun w' => w'.cell? ⟨w.heap.size, 0, none⟩ = some (.int .i64 a) ∧ w'.cell? ⟨w.heap.size, 1, none⟩ = some (.int .i64 b) ∧ w'.cell? ⟨w.heap.size, 2, none⟩ = some (.int .i64 M) ∧ w'.cell? ⟨w.heap.size, 3, none⟩ = some (.slice A n c) ∧ w'.cell? ⟨w.heap.size + 1, 0, none⟩ = some (.int .i64 a2) ∧ w'.cell? ⟨w.heap.size + 1, 1, none⟩ = some (.int .i64 b2) ∧ w'.cell? ⟨w.heap.size + 1, 2, none⟩ = some (.int .i64 M) ∧ w'.cell? ⟨w.heap.size + 1, 3, none⟩ = some (.slice (some ⟨bs, offs, none⟩) n2 c2) ∧ w'.cell? ⟨w3.heap.size, 0, none⟩ = some (.int .i64 a) ∧ w'.cell? ⟨w3.heap.size, 1, none⟩ = some (.int .i64 b) ∧ w'.cell? ⟨w3.heap.size, 2, none⟩ = some (.int .i64 M) ∧ w'.cell? ⟨w3.heap.size, 3, none⟩ = some (.slice (some ⟨g, 0, none⟩) n c3))
          (exact keepS.out _ (by repeat (first | exact qO3 | refine Only.drew ?_ | exact Only.of_below qB2 g | exact Only.of_below qB1 g | exact Only.refl wr g)))
          (first | (go_at_call 53; clear tok; refine (row_at yj q rfl hc1 hc2 hq.out.symm (by omega) hl1 (by omega) (by omega)).mono ?_; rintro e qw1 ⟨rfl, qh1⟩; have qB1 : Below wr.heap.size wr qw1 := Below.trans (by repeat (first | refine Below.drew ?_ | exact Below.refl _ _)) (qh1.mono (by first | omega | (simp <;> omega)))) | (go_at_call 53; refine (row_at j q2 rfl hncap2 hccap2 hq2.out.symm (by omega) hl2 (by omega) (by omega)).mono ?_; rintro e qw2 ⟨rfl, qh2⟩; have qB2 : Below wr.heap.size wr qw2 := Below.trans (by repeat (first | refine Below.drew ?_ | exact qB1 | exact Below.refl _ _)) (qh2.mono (by have := qB1.size; first | omega | (simp <;> omega)))) | (refine step_copy_ints rfl _ _ rfl g (q + xl) (a - xl) (c3 - q - xl) ⟨bs, offs + q2 + l, none⟩ (rn - l) (c2 - q2 - l) rfl rfl L X (hblT.out _ (by repeat (first | refine Below.drew ?_ | exact qB2))) (by rw [hXl.out]; exact (Nat.min_eq_left (by omega)).symm) (hsrc.out _ (by repeat (first | refine Below.drew ?_ | exact qB2))) (by rw [hXl.out, hLl.out]; omega) ?_; intro qw3 qh3 qbl; have qO3 : Only wr qw3 g := Only.trans (by repeat (first | refine Only.drew ?_ | exact Only.of_below qB2 g)) qh3))
        go_wp2
        go_roundw
        case rel => exact ⟨j + 1, _, by omega, by go_num, F.only qO3 qbl.out hrow.out⟩
        case measure => simp [intOf]; omega
      · have hL : L = pasted a a2 b2 x y P P2 := pasted_eq (F.st.1.trans hPl.out.symm) fun k hk => by
          rw [F.st.2 k (by rw [← hPl.out]; exact hk)]
          exact pf_congr (b := b) (by have e1 := hl'.out; have e2 := hrr'.out; intros; omega) k (by rw [← hPl.out]; exact hk)
        replace hL := Lib.hid hL
        obtain ⟨⟨d12, d13, d14, d15⟩, f12, f13, f14, f15⟩ := F.k2.cells
        have hgne := F.gne
        have hbz := F.bl
        have hB := F.below
        have hLl := Lib.hid (show n = (pasted a a2 b2 x y P P2).length by rw [pasted, tab_length, hPl.out, hnn.out])
        go_wp2
        refine bodyPost_ret (v := .tuple #[.agg #[.int .i64 a, .int .i64 b, .int .i64 M, .slice (some ⟨g, 0, none⟩) n c3], .int .i64 0]) (by simp [results, Try.results27, go_sem, d12, d13, d14, d15, f12, f13, f14, f15]) rfl ?_
        refine ⟨_, _, _, rfl, ?_, ?_⟩
        · refine Bl.sl0 ?_ hLl.out hc1 hc2
          repeat (refine Bl.far ?_ (by simp <;> omega) _)
          rw [← hL.out]
          exact hbz
        · repeat (refine Below.setCell ?_ (by simp <;> omega) _)
          exact hB
    · have hL : L = pasted a a2 b2 x y P P2 := pasted_eq (F.st.1.trans hPl.out.symm) fun k hk => by
        rw [F.st.2 k (by rw [← hPl.out]; exact hk)]
        exact pf_congr (b := b) (by have e1 := hj0'.out; have e2 := hje'.out; intros; omega) k (by rw [← hPl.out]; exact hk)
      replace hL := Lib.hid hL
      obtain ⟨⟨d12, d13, d14, d15⟩, f12, f13, f14, f15⟩ := F.k2.cells
      have hgne := F.gne
      have hbz := F.bl
      have hB := F.below
      have hLl := Lib.hid (show n = (pasted a a2 b2 x y P P2).length by rw [pasted, tab_length, hPl.out, hnn.out])
      go_wp2
      refine bodyPost_ret (v := .tuple #[.agg #[.int .i64 a, .int .i64 b, .int .i64 M, .slice (some ⟨g, 0, none⟩) n c3], .int .i64 0]) (by simp [results, Try.results27, go_sem, d12, d13, d14, d15, f12, f13, f14, f15]) rfl ?_
      refine ⟨_, _, _, rfl, ?_, ?_⟩
      · refine Bl.sl0 ?_ hLl.out hc1 hc2
        repeat (refine Bl.far ?_ (by simp <;> omega) _)
        rw [← hL.out]
        exact hbz
      · repeat (refine Below.setCell ?_ (by simp <;> omega) _)
        exact hB

end Go.Proofs.Ytehnemdifkjhcaa
