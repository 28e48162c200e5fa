/-
  Walks: slices.Reverse at []int; Mirror of package raster and of the reference.
-/
import Derived.Test.YtehnemdifkjhcaaRaPix
set_option linter.unusedSimpArgs false
set_option linter.unusedVariables false
namespace Go.Proofs.Ytehnemdifkjhcaa
open Go.RowKit

/-- The first k and the last k of the n places from off on are exchanged. -/
def RevTo (L0 L : List Int) (off n k : Nat) : Prop :=
  L.length = L0.length ∧ ∀ i, i < L0.length → nth L i = if (off ≤ i ∧ i < off + k) ∨ (off + n ≤ i + k ∧ i < off + n) then nth L0 (2 * off + n - 1 - i) else nth L0 i
theorem RevTo.start (L : List Int) (off n : Nat) : RevTo L L off n 0 := ⟨rfl, fun i hi => by rw [if_neg (by omega)]⟩
theorem RevTo.step {L0 L : List Int} {off n k m : Nat} (h : RevTo L0 L off n k) (hkm : k < m) (hm : k + m + 1 = n) (hn : off + n ≤ L0.length) :
    RevTo L0 ((L.set (off + k) (nth L (off + m))).set (off + m) (nth L (off + k))) off n (k + 1) := by
  refine ⟨by rw [List.length_set, List.length_set]; exact h.1, fun i hi => ?_⟩
  have h1 := h.2 (off + k) (by omega)
  have h2 := h.2 (off + m) (by omega)
  rw [if_neg (by omega)] at h1 h2
  by_cases e1 : i = off + m
  · subst e1
    rw [nth_set_self (by rw [List.length_set, h.1]; omega), if_pos (by omega), h1, show 2 * off + n - 1 - (off + m) = off + k from by omega]
  · rw [nth_set_ne (Ne.symm e1)]
    by_cases e2 : i = off + k
    · subst e2
      rw [nth_set_self (by rw [h.1]; omega), if_pos (by omega), h2, show 2 * off + n - 1 - (off + k) = off + m from by omega]
    · rw [nth_set_ne (Ne.symm e2), h.2 i hi]
      by_cases e3 : (off ≤ i ∧ i < off + k) ∨ (off + n ≤ i + k ∧ i < off + n)
      · rw [if_pos e3, if_pos (by omega)]
      · rw [if_neg e3, if_neg (by omega)]
/-- All of them. -/
def Reved (L0 L : List Int) (off n : Nat) : Prop := L.length = L0.length ∧ ∀ i, i < L0.length → nth L i = if off ≤ i ∧ i < off + n then nth L0 (2 * off + n - 1 - i) else nth L0 i
theorem RevTo.done {L0 L : List Int} {off n k : Nat} (h : RevTo L0 L off n k) (hk : n ≤ 2 * k + 1) (hk2 : 2 * k ≤ n) : Reved L0 L off n := by
  refine ⟨h.1, fun i hi => ?_⟩
  rw [h.2 i hi]
  by_cases e : off ≤ i ∧ i < off + n
  · rw [if_pos e]
    by_cases e2 : (off ≤ i ∧ i < off + k) ∨ (off + n ≤ i + k ∧ i < off + n)
    · rw [if_pos e2]
    · rw [if_neg e2, show 2 * off + n - 1 - i = i from by omega]
  · rw [if_neg e, if_neg (by omega)]

set_option maxRecDepth 100000 in
set_option maxHeartbeats 3200000 in
/-- slices.Reverse of a part of a block. -/
theorem Reverse_any (g off n c : Nat) (L0 : List Int) (w : World) (hbl : Bl w g L0) (h1 : 1 ≤ n) (hn : off + n ≤ L0.length) (hc : n ≤ c) (hcm : c ≤ 9223372036854775807) :
    Calls Try.prog 56 #[.slice (some ⟨g, off, none⟩) n c] w fun e w' => (e = .returned (.tuple #[]) ∧ ∃ L, Bl w' g L ∧ Reved L0 L off n) ∧ Only w w' g := by
  go_enter Try.func56, Try.ntmps56
  go_wp2
  go_loopw [2, 3] (fun i j wr => ∃ (k : Nat) (L : List Int), 2 * k ≤ n ∧ i = .int .i64 (k : Int) ∧ j = .int .i64 ((n : Int) - 1 - (k : Int)) ∧ Bl wr g L ∧ RevTo L0 L off n k ∧ Only w wr g) (fun i _ _ => n - (intOf i).toNat)
  case atStart => exact ⟨0, L0, by omega, rfl, by simp, hbl, RevTo.start _ _ _, Only.refl _ _⟩
  case round =>
    clear hbl
    obtain ⟨k, L, hk, rfl, rfl, hbl, hrev, ho⟩ := hrel
    by_cases hlt : 2 * k + 1 < n
    · obtain ⟨m, hm⟩ : ∃ m, n - 1 - k = m := ⟨_, rfl⟩
      have hmi : (n : Int) - 1 - (k : Int) = (m : Int) := by omega
      have hkm : k < m := by omega
      have hkm' : (k : Int) < (m : Int) := by omega
      have hsum : k + m + 1 = n := by omega
      have hll := hrev.1
      have hx := hbl.cell (i := off + k) (by omega)
      have hy := hbl.cell (i := off + m) (by omega)
      have fx := hbl.frozen (off + k)
      have fy := hbl.frozen (off + m)
      obtain ⟨x, ex⟩ : ∃ x, nth L (off + k) = x := ⟨_, rfl⟩
      obtain ⟨y, ey⟩ : ∃ y, nth L (off + m) = y := ⟨_, rfl⟩
      rw [ex] at hx
      rw [ey] at hy
      have hstep := hrev.step hkm hsum hn
      rw [ex, ey] at hstep
      replace hstep := Lib.hid hstep
      replace ex := Lib.hid ex
      replace ey := Lib.hid ey
      replace hll := Lib.hid hll
      have i1 : (0 : Int) ≤ (k : Int) := by omega
      have i2 : (k : Int) < (n : Int) := by omega
      have i3 : (0 : Int) ≤ (m : Int) := by omega
      have i4 : (m : Int) < (n : Int) := by omega
      have hne : k ≠ m := by omega
      have hne2 : m ≠ k := by omega
      have hmk : (m : Int) - 1 = (n : Int) - 1 - ((k : Int) + 1) := by omega
      replace hmk := Lib.hid hmk
      clear hm hsum hrev
      rw [hmi]
      clear hmi
      go_wp2
      go_region
      go_wp2
      go_roundw
      case rel => exact ⟨k + 1, _, by omega, by go_num, by show Value.int .i64 ((m : Int) - 1) = _; rw [hmk.out]; simp, ((hbl.set _ _).set _ _).drew, hstep.out, ((ho.setCell rfl _).setCell rfl _).drew⟩
      case measure => simp [intOf]; omega
    · have hge : (n : Int) - 1 - (k : Int) ≤ (k : Int) := by omega
      have hdone := Lib.hid (hrev.done (by omega) hk)
      go_wp2
      go_end0
      exact ⟨⟨rfl, L, hbl, hdone.out⟩, ho⟩

/-- The pixels of a mirrored raster, a wide: the place k of the result. -/
def mirf (a : Nat) (P : List Int) (k : Nat) : Int := nth P (k / a * a + (a - 1 - k % a))
theorem mirf_at {a y x : Nat} {P : List Int} (hx : x < a) : mirf a P (y * a + x) = nth P (y * a + (a - 1 - x)) := by unfold mirf; rw [row_mod hx, row_div hx]
def mirrored (a : Nat) (P : List Int) : List Int := tab P.length (mirf a P)

/-- The first y rows are mirrored. -/
def MirTo (P : List Int) (a y : Nat) (L : List Int) : Prop := L.length = P.length ∧ ∀ i, i < P.length → nth L i = if i < y * a then mirf a P i else nth P i
theorem MirTo.start (P : List Int) (a : Nat) : MirTo P a 0 P := ⟨rfl, fun i hi => by rw [if_neg (by omega)]⟩
theorem MirTo.step {P L L' : List Int} {a y q : Nat} (h : MirTo P a y L) (hq : q = y * a) (hr : Reved L L' q a) (hle : q + a ≤ P.length) : MirTo P a (y + 1) L' := by
  subst hq
  have e : (y + 1) * a = y * a + a := by rw [Nat.add_mul, Nat.one_mul]
  refine ⟨hr.1.trans h.1, fun i hi => ?_⟩
  rw [hr.2 i (by rw [h.1]; exact hi), e]
  by_cases h1 : y * a ≤ i ∧ i < y * a + a
  · rw [if_pos h1, if_pos h1.2, h.2 _ (by omega), if_neg (by omega)]
    obtain ⟨x, hx⟩ : ∃ x, i = y * a + x := ⟨i - y * a, by omega⟩
    subst hx
    rw [mirf_at (by omega), show 2 * (y * a) + a - 1 - (y * a + x) = y * a + (a - 1 - x) from by omega]
  · rw [if_neg h1, h.2 i hi]
    by_cases h2 : i < y * a
    · rw [if_pos h2, if_pos (by omega)]
    · rw [if_neg h2, if_neg (by omega)]
theorem MirTo.done {P L : List Int} {a b : Nat} (h : MirTo P a b L) (hl : P.length = b * a) : L = mirrored a P := nth_ext (by rw [h.1, mirrored, tab_length]) fun i hi => by
  rw [h.1] at hi
  rw [h.2 i hi, mirrored, nth_tab hi, if_pos (by rw [← hl]; exact hi)]

theorem Mirror_no (W H M : Int) (A : Option Addr) (n c : Nat) (P : List Int) (w : World) (h : Sl w A n c P) (hr : ¬ Ras W H M P) :
    Calls Try.prog 31 #[.agg #[.int .i64 W, .int .i64 H, .int .i64 M, .slice A n c]] w (RetE w 1) := by
  have hb := ((Below.refl w.heap.size w).alloc (Nat.le_refl _) (.cells #[.int .i64 W, .int .i64 H, .int .i64 M, .slice A n c] 24)).alloc (by simp) (.cells #[.int .i64 0, .int .i64 0, .int .i64 0, .slice none 0 0] 24)
  have hs := (h.alloc (.cells #[.int .i64 W, .int .i64 H, .int .i64 M, .slice A n c] 24)).alloc (.cells #[.int .i64 0, .int .i64 0, .int .i64 0, .slice none 0 0] 24)
  have k1 := RB.new (w.alloc (.cells #[.int .i64 W, .int .i64 H, .int .i64 M, .slice A n c] 24)) 0 0 0 none 0 0
  simp only [World.size_alloc] at k1
  have hck := Lib.hid (Check_no hs hr)
  clear h hs hr
  go_enter Try.func31, Try.ntmps31
  go_wp2_with (go_at_call 13; refine (hck.out).mono ?_; rintro e w1 ⟨rfl, hb2⟩; simp only [World.size_alloc] at hb2; obtain ⟨⟨d4, d5, d6, d7⟩, f4, f5, f6, f7⟩ := (k1.below hb2 (by omega)).cells)
  refine bodyPost_ret (v := .tuple #[.agg #[.int .i64 0, .int .i64 0, .int .i64 0, .slice none 0 0], .int .i64 1]) (by simp [results, Try.results31, go_sem, d4, d5, d6, d7, f4, f5, f6, f7]) rfl ⟨rfl, ?_⟩
  repeat (refine Below.setCell ?_ (by simp <;> omega) _)
  exact hb.trans (hb2.mono (by omega))

theorem RB.only {w w' : World} {g g' : Nat} {W H M : Int} {A : Option Addr} {n c : Nat} (h : RB w g W H M A n c) (ho : Only w w' g') (hne : g ≠ g') : RB w' g W H M A n c := h.keep (ho.block g h.lt (fun e => hne (by injection e)))

set_option maxRecDepth 100000 in
set_option maxHeartbeats 3200000 in
theorem Mirror_yes (W H M : Int) (A : Option Addr) (n c : Nat) (P : List Int) (w : World) (h : Sl w A n c P) (hr : Ras W H M P) :
    Calls Try.prog 31 #[.agg #[.int .i64 W, .int .i64 H, .int .i64 M, .slice A n c]] w (RetR w W H M (mirrored W.toNat P)) := by
  have hb0 := ((Below.refl w.heap.size w).alloc (Nat.le_refl _) (.cells #[.int .i64 W, .int .i64 H, .int .i64 M, .slice A n c] 24)).alloc (by simp) (.cells #[.int .i64 0, .int .i64 0, .int .i64 0, .slice none 0 0] 24)
  have hs := (h.alloc (.cells #[.int .i64 W, .int .i64 H, .int .i64 M, .slice A n c] 24)).alloc (.cells #[.int .i64 0, .int .i64 0, .int .i64 0, .slice none 0 0] 24)
  have k0 := (RB.new w W H M A n c).alloc (.cells #[.int .i64 0, .int .i64 0, .int .i64 0, .slice none 0 0] 24)
  have k1 := RB.new (w.alloc (.cells #[.int .i64 W, .int .i64 H, .int .i64 M, .slice A n c] 24)) 0 0 0 none 0 0
  simp only [World.size_alloc] at k1
  have hck := Lib.hid (Check_ok hs hr)
  obtain ⟨a, b, rfl, rfl, ⟨ha1, ha2⟩, ⟨hb1, hb2⟩, ⟨hM1, hM2⟩, hab, hl1, hl2⟩ := hr.nat
  have hnP := h.len
  simp only [Int.toNat_natCast]
  have hfin : Hid (P.length = b * a) := Lib.hid (by rw [hab, Nat.mul_comm])
  have hn4 : n ≤ 4096 := by omega
  have hcopy := Lib.hid (fun w' (hbw : Below w.heap.size w w') => copied_any a b M A n c P w' (h.below hbw (Nat.le_refl _)) (by omega) (by omega))
  have hPn := Lib.hid hnP
  clear hr hab hnP hl1 hl2 h hs
  go_enter Try.func31, Try.ntmps31
  go_wp2_with (first | (go_at_call 13; refine (hck.out).mono ?_; rintro e w1 ⟨rfl, hb3⟩; simp only [World.size_alloc] at hb3; replace k0 := k0.below hb3 (by omega); replace k1 := k1.below hb3 (by omega); have hsz1 := hb3.size; simp only [World.size_alloc] at hsz1; replace hb0 := hb0.trans (hb3.mono (by omega)); clear hb3; obtain ⟨⟨d0, d1, d2, d3⟩, f0, f1, f2, f3⟩ := k0.cells) | (go_at_call 54; refine (hcopy.out _ hb0).mono ?_; rintro e w2 ⟨g, N, c2, rfl, hg, hbz, hN, hc1, hc2, hb4⟩; obtain rfl : N = n := hN.trans hPn.out.symm; clear hN; replace k0 := (k0.below hb4 (by omega)).alloc (.cells #[.int .i64 a, .int .i64 b, .int .i64 M, .slice (some ⟨g, 0, none⟩) N c2] 24); replace k1 := (k1.below hb4 (by omega)).alloc (.cells #[.int .i64 a, .int .i64 b, .int .i64 M, .slice (some ⟨g, 0, none⟩) N c2] 24); have hsz2 := hb4.size; replace hb0 := (hb0.trans (hb4.mono (by omega))).alloc (hb0.trans (hb4.mono (by omega))).size (.cells #[.int .i64 a, .int .i64 b, .int .i64 M, .slice (some ⟨g, 0, none⟩) N c2] 24); clear hb4 d0 d1 d2 d3 f0 f1 f2 f3; obtain ⟨⟨d0, d1, d2, d3⟩, f0, f1, f2, f3⟩ := k0.cells))
  have hgB := hbz.lt
  have k5 := RB.new w2 a b M (some ⟨g, 0, none⟩) N c2
  replace hbz := hbz.alloc (.cells #[.int .i64 a, .int .i64 b, .int .i64 M, .slice (some ⟨g, 0, none⟩) N c2] 24)
  go_loopw [17] (fun i wr => ∃ (y : Nat) (L : List Int), y ≤ b ∧ i = .int .i64 (y : Int) ∧ RB wr (w.heap.size + 1) 0 0 0 none 0 0 ∧ RB wr w2.heap.size a b M (some ⟨g, 0, none⟩) N c2 ∧ Bl wr g L ∧ MirTo P a y L ∧ Below w.heap.size w wr) (fun i _ => b - (intOf i).toNat)
  case atStart => exact ⟨0, P, Nat.zero_le _, rfl, k1, k5, hbz, MirTo.start _ _, hb0⟩
  case round =>
    clear k0 k1 k5 hbz hb0 hck hcopy d0 d1 d2 d3 f0 f1 f2 f3
    obtain ⟨y, L, hy, rfl, k1, k5, hbz, hmir, hB⟩ := hrel
    obtain ⟨⟨d0, d1, d2, d3⟩, f0, f1, f2, f3⟩ := k5.cells
    by_cases hlt : y < b
    · obtain ⟨q, hq⟩ : ∃ q, y * a = q := ⟨_, rfl⟩
      have hle : q + a ≤ N := by rw [← hq, hPn.out, hfin.out]; exact row_le hlt
      have hq' := Lib.hid hq
      have hmir' := Lib.hid hmir
      clear hq hmir
      go_wp2_with (first | (go_at_call 53; refine (row_at y q rfl hc1 hc2 hq'.out.symm ha1 hle (by omega) (by omega)).mono ?_; rintro e w3 ⟨rfl, hb5⟩; have hz3 := hb5.size; have hbl3 := hbz.below hb5 hbz.lt; have k13 := k1.below hb5 k1.lt; have k53 := k5.below hb5 k5.lt; have hB3 := hB.trans (hb5.mono hB.size)) | (go_at_call 56; refine (Reverse_any g _ a _ L _ hbl3 ha1 (by rw [hmir'.out.1, ← hPn.out]; omega) (by omega) (by omega)).mono ?_; rintro e w4 ⟨⟨rfl, L', hbl4, hrev⟩, ho4⟩))
      go_roundw
      case rel => exact ⟨y + 1, L', hlt, by go_num, k13.only ho4 (by omega), k53.only ho4 (by omega), hbl4, hmir'.out.step hq'.out.symm (by simpa using hrev) (by rw [← hPn.out]; exact hle), hB3.trans (ho4.below (by omega) hB3.size)⟩
      case measure => simp [intOf]; omega
    · obtain rfl : y = b := by omega
      obtain ⟨⟨d8, d9, d10, d11⟩, f8, f9, f10, f11⟩ := k1.cells
      have hdone := Lib.hid (hmir.done hfin.out)
      go_wp2
      refine bodyPost_ret (v := .tuple #[.agg #[.int .i64 a, .int .i64 y, .int .i64 M, .slice (some ⟨g, 0, none⟩) N c2], .int .i64 0]) (by simp [results, Try.results31, go_sem, d8, d9, d10, d11, f8, f9, f10, f11]) rfl ?_
      refine ⟨_, _, _, rfl, ?_, ?_⟩
      · refine Bl.sl0 ?_ (by rw [mirrored, tab_length, ← hPn.out]) hc1 hc2
        repeat (refine Bl.far ?_ (by simp <;> omega) _)
        rw [← hdone.out]
        exact hbz
      · repeat (refine Below.setCell ?_ (by simp <;> omega) _)
        exact hB

set_option maxRecDepth 100000 in
set_option maxHeartbeats 4000000 in
/-- Mirror of the reference. -/
theorem rMirror_any (W H M : Int) (A : Option Addr) (n c : Nat) (P : List Int) (w : World) (h : Sl w A n c P) (hA : A = none → c = 0) (hr : Ras W H M P) :
    Calls Try.prog 33 #[.agg #[.int .i64 W, .int .i64 H, .int .i64 M, .slice A n c]] w (RetF w W H M (mirrored W.toNat P)) := by
  have hb0 := ((Below.refl w.heap.size w).alloc (Nat.le_refl _) (.cells #[.int .i64 W, .int .i64 H, .int .i64 M, .slice A n c] 24)).alloc (by simp) (.cells #[.int .i64 0, .int .i64 0, .int .i64 0, .slice none 0 0] 24)
  have hs := (h.alloc (.cells #[.int .i64 W, .int .i64 H, .int .i64 M, .slice A n c] 24)).alloc (.cells #[.int .i64 0, .int .i64 0, .int .i64 0, .slice none 0 0] 24)
  have k0 := (RB.new w W H M A n c).alloc (.cells #[.int .i64 0, .int .i64 0, .int .i64 0, .slice none 0 0] 24)
  have k1 := RB.new (w.alloc (.cells #[.int .i64 W, .int .i64 H, .int .i64 M, .slice A n c] 24)) 0 0 0 none 0 0
  simp only [World.size_alloc] at k1
  obtain ⟨a, b, rfl, rfl, ⟨ha1, ha2⟩, ⟨hb1, hb2⟩, ⟨hM1, hM2⟩, hab, hl1, hl2⟩ := hr.nat
  have hnP := hs.len
  obtain ⟨bb, off, rfl, hbbw, -⟩ := h.at_ (by rw [h.len]; exact hl2)
  simp only [Int.toNat_natCast]
  have hncap := hs.le_cap
  have hccap := hs.cap_le
  have hfin : Hid (b * a = n ∧ a * b = n) := Lib.hid ⟨by rw [hnP, hab, Nat.mul_comm], by rw [hnP, hab]⟩
  have hn4 : n ≤ 4096 := by omega
  have hnew := Lib.hid (fun _ : Unit => rCopy_any a b M _ n c P _ hs hA (by omega))
  have hPn := Lib.hid hnP
  have hn0 : 0 < n := by omega
  clear hr hab hnP hl1 hl2 h hA
  go_enter Try.func33, Try.ntmps33
  go_wp2_with (go_at_call 17; refine (hnew.out ()).mono ?_; rintro e w2 hret; obtain ⟨g, N, c2, rfl, hg, hbz, hN, hc1, hc2, hb4⟩ := hret.ret (by rw [← hPn.out]; exact hn0); obtain rfl : N = n := hN.trans hPn.out.symm; clear hN; simp only [World.size_alloc] at hg hb4; replace k0 := k0.below hb4 (by omega); replace k1 := k1.below hb4 (by omega); replace hs := hs.below hb4 (by simp); replace hb0 := hb0.trans (hb4.mono (by omega)); clear hb4 hret)
  have hgB := hbz.lt
  have k5 := RB.new w2 a b M (some ⟨g, 0, none⟩) N c2
  replace k0 := k0.alloc (.cells #[.int .i64 a, .int .i64 b, .int .i64 M, .slice (some ⟨g, 0, none⟩) N c2] 24)
  replace k1 := k1.alloc (.cells #[.int .i64 a, .int .i64 b, .int .i64 M, .slice (some ⟨g, 0, none⟩) N c2] 24)
  replace hbz := hbz.alloc (.cells #[.int .i64 a, .int .i64 b, .int .i64 M, .slice (some ⟨g, 0, none⟩) N c2] 24)
  replace hs := hs.alloc (.cells #[.int .i64 a, .int .i64 b, .int .i64 M, .slice (some ⟨g, 0, none⟩) N c2] 24)
  replace hb0 := hb0.alloc hb0.size (.cells #[.int .i64 a, .int .i64 b, .int .i64 M, .slice (some ⟨g, 0, none⟩) N c2] 24)
  have F0 : FI w _ w2.heap.size g bb off N c a b M P a b M N c2 (mirf a P) _ 0 := ⟨k0, k1, k5, hbz, Fill.start hPn.out.symm, hs, hb0, by simp, by omega, hgB, hbbw⟩
  clear k0 k1 k5 hbz hs hb0 hnew
  go_loopw [4] (fun i wr => ∃ (y : Nat) (L : List Int), y ≤ b ∧ i = .int .i64 (y : Int) ∧ FI w wr w2.heap.size g bb off N c a b M P a b M N c2 (mirf a P) L (y * a)) (fun i _ => b - (intOf i).toNat)
  case atStart => exact ⟨0, _, Nat.zero_le _, rfl, F0.at_ (by simp)⟩
  case round =>
    clear F0
    obtain ⟨y, L, hy, rfl, F⟩ := hrel
    obtain ⟨d0, d1, d2, d3, d4, d5, d6, d7⟩ := F.cellsOnly (Only.refl wr g)
    by_cases hlt : y < b
    · go_wp2
      go_loopw [5] (fun i wr => ∃ (x : Nat) (L : List Int), x ≤ a ∧ i = .int .i64 (x : Int) ∧ FI w wr w2.heap.size g bb off N c a b M P a b M N c2 (mirf a P) L (y * a + x)) (fun i _ => a - (intOf i).toNat)
      case atStart => exact ⟨0, _, Nat.zero_le _, rfl, F⟩
      case round =>
        clear F d0 d1 d2 d3 d4 d5 d6 d7
        obtain ⟨x, L, hx, rfl, F⟩ := hrel
        obtain ⟨d0, d1, d2, d3, d4, d5, d6, d7⟩ := F.cellsOnly (Only.refl wr g)
        by_cases hltx : x < a
        · obtain ⟨q, hq⟩ : ∃ q, y * a = q := ⟨_, rfl⟩
          obtain ⟨m, hm⟩ : ∃ m : Nat, a - 1 - x = m := ⟨_, rfl⟩
          have hmi : (a : Int) - 1 - (x : Int) = (m : Int) := by omega
          have hqi : (y : Int) * (a : Int) = (q : Int) := by rw [← hq]; simp
          have hl1 : q + x < N := by rw [← hq, ← hfin.out.1]; exact row_lt hlt hltx
          have hl2 : q + m < N := by rw [← hq, ← hfin.out.1]; exact row_lt hlt (by omega)
          have hval : mirf a P (y * a + x) = nth P (q + m) := by rw [mirf_at hltx, hq, hm]
          obtain ⟨v, hv⟩ : ∃ v, nth P (q + m) = v := ⟨_, rfl⟩
          have htc := F.bl.cell (i := q + x) (by rw [F.fill.1]; exact hl1)
          have htf := F.bl.frozen (q + x)
          obtain ⟨u, hu⟩ : ∃ u, nth L (q + x) = u := ⟨_, rfl⟩
          rw [hu] at htc
          have hgw := F.bl.lt
          have keepS := Lib.hid (fun w' (ho : Only wr w' g) => F.cellsOnly ho)
          have keepT : ∀ w', Below wr.heap.size wr w' → w'.cell? ⟨g, q + x, none⟩ = some (.int .i64 u) ∧ w'.frozen? ⟨g, q + x, none⟩ = false ∧ wr.heap.size ≤ w'.heap.size := fun w' hb => ⟨(hb.cell (p := ⟨g, q + x, none⟩) hgw).trans htc, (hb.frozen (p := ⟨g, q + x, none⟩) hgw).trans htf, hb.size⟩
          have hsl := Lib.hid (fun w' (hb : Below wr.heap.size wr w') => F.sl.below hb (Nat.le_refl _))
          replace keepT := Lib.hid keepT
          replace hval := Lib.hid (hval.trans hv)
          replace hq := Lib.hid hq
          replace hm := Lib.hid hm
          replace hu := Lib.hid hu
          have hv := Lib.hid hv
          clear htc htf
          have hwA : IntKind.i64.wrap ((a : Int) - 1) = (a : Int) - 1 := IntWalk.i64_in _ (by omega)
          have hwB : IntKind.i64.wrap (m : Int) = (m : Int) := IntWalk.i64_in _ (by omega)
          have hwC : IntKind.i64.wrap (q : Int) = (q : Int) := IntWalk.i64_in _ (by omega)
          have hwD : IntKind.i64.wrap ((q : Int) + (x : Int)) = (q : Int) + (x : Int) := IntWalk.i64_in _ (by omega)
          have hwE : (0 : Int) ≤ (q : Int) + (x : Int) := by omega
          have hwF : ((q : Int) + (x : Int)).toNat = q + x := by omega
          have hwG : (q : Int) + (x : Int) < (N : Int) := by omega
          go_wp2
          go_region_held3 (fun w' => w'.cell? ⟨w.heap.size, 0, none⟩ = some (.int .i64 a) ∧ w'.cell? ⟨w.heap.size, 1, none⟩ = some (.int .i64 b) ∧ w'.cell? ⟨w.heap.size, 2, none⟩ = some (.int .i64 M) ∧ w'.cell? ⟨w.heap.size, 3, none⟩ = some (.slice (some ⟨bb, off, none⟩) N c) ∧ w'.cell? ⟨w2.heap.size, 0, none⟩ = some (.int .i64 a) ∧ w'.cell? ⟨w2.heap.size, 1, none⟩ = some (.int .i64 b) ∧ w'.cell? ⟨w2.heap.size, 2, none⟩ = some (.int .i64 M) ∧ w'.cell? ⟨w2.heap.size, 3, none⟩ = some (.slice (some ⟨g, 0, none⟩) N c2))
            (exact keepS.out _ (by repeat (first | refine Only.drew ?_ | refine Only.setCell ?_ rfl _ | exact Only.of_below qB1 g | exact Only.refl wr g)))
            (first | (go_at_call 24; refine (rAt_at m y q (hsl.out _ (by repeat (first | refine Below.drew ?_ | exact Below.refl _ _))) rfl rfl hq.out.symm hl2 (by omega) hv.out).mono ?_; rintro e qw1 ⟨rfl, qh1⟩; have qB1 : Below wr.heap.size wr qw1 := Below.trans (by repeat (first | refine Below.drew ?_ | exact Below.refl _ _)) (qh1.mono (by first | omega | (simp <;> omega))); obtain ⟨t1, t2, t3⟩ := keepT.out _ qB1))
          go_wp2
          go_roundw
          case rel => exact ⟨x + 1, _, hltx, by go_num, F.next qB1 (by rw [hq.out]; exact hl1) hval.out (by rw [hq.out]) (by omega)⟩
          case measure => simp [intOf]; omega
        · obtain rfl : x = a := by omega
          go_wp2
          go_roundw
          case rel => exact ⟨y + 1, L, hlt, by go_num, F.at_ (by rw [Nat.add_mul, Nat.one_mul])⟩
          case measure => simp [intOf]; omega
    · obtain rfl : y = b := by omega
      obtain ⟨⟨d8, d9, d10, d11⟩, f8, f9, f10, f11⟩ := F.k1.cells
      have hdone := Lib.hid ((F.fill.at_ hfin.out.1).done)
      have hgne := F.gne
      have hbz := F.bl
      have hB := F.below
      go_wp2
      refine bodyPost_ret (v := .agg #[.int .i64 a, .int .i64 y, .int .i64 M, .slice (some ⟨g, 0, none⟩) N c2]) (by simp [results, Try.results33, go_sem, d8, d9, d10, d11, f8, f9, f10, f11]) rfl ?_
      refine ⟨g, N, c2, rfl, by omega, ?_, by rw [mirrored, tab_length, ← hPn.out], hc1, hc2, ?_⟩
      · repeat (refine Bl.far ?_ (by simp <;> omega) _)
        rw [mirrored, ← hPn.out, ← hdone.out]
        exact hbz
      · repeat (refine Below.setCell ?_ (by simp <;> omega) _)
        exact hB

end Go.Proofs.Ytehnemdifkjhcaa
