/-
  Walk: the law CornerInvariant.
-/
import Derived.Test.YtnnaojaadjafbaaCoIc
import Derived.Test.YtnnaojaadjafbaaCoIm
set_option linter.unusedSimpArgs false
set_option linter.unusedVariables false
namespace Go.Proofs.Ytnnaojaadjafbaa
open Go.RowKit

set_option maxRecDepth 100000 in
set_option maxHeartbeats 3200000 in
/-- Where nothing is asked. -/
theorem lawInv_out (W H M d tm : Int) (A : Option Addr) (n c : Nat) (P : List Int) (w : World) (h : Sl w A n c P) (ho : ¬ (n ≤ 200 ∧ Scr W H M P)) :
    Calls Try.prog 8 #[.agg #[.int .i64 W, .int .i64 H, .int .i64 M, .slice A n c], .int .u8 d, .int .u8 tm] w fun e w' => e = .returned (.bool true) ∧ Below w.heap.size w w' := by
  have hb0 := ((Below.refl w.heap.size w).alloc (Nat.le_refl _) (.cells #[.int .i64 W, .int .i64 H, .int .i64 M, .slice A n c] 24)).alloc (by simp) (.cells #[.int .u8 d] 5)
  have hs0 := (h.alloc (.cells #[.int .i64 W, .int .i64 H, .int .i64 M, .slice A n c] 24)).alloc (.cells #[.int .u8 d] 5)
  have k0 := (RB.new w W H M A n c).alloc (.cells #[.int .u8 d] 5)
  have hn : n ≤ 9223372036854775807 := by have := h.le_cap; have := h.cap_le; omega
  clear h
  by_cases hf : n ≤ 200
  · have cf := Lib.hid (fun W' => few_at (W := W) (H := H) (M := M) (A := A) (c := c) (w := W') hn (decide_eq_true hf))
    obtain ⟨r, hr⟩ := AskR.ex W H M P
    have hr0 : r ≠ 0 := fun e => ho ⟨hf, by subst e; exact hr.zero⟩
    have hne : (r != 0) = true := by simp [hr0]
    have c1 := Lib.hid (ask_at (A := A) (n := n) (c := c) hr)
    replace hr := Lib.hid hr
    replace hr0 := Lib.hid hr0
    replace ho := Lib.hid ho
    go_enter Try.func8, Try.ntmps8
    go_wp2_with (first
      | (go_at_call 11; refine (known_any _).mono ?_; rintro e w1 ⟨rfl, hb1⟩; have k1 := k0.below hb1 k0.lt; have hs1 := hs0.below hb1 (Nat.le_refl _); have hB1 := hb0.trans (hb1.mono hb0.size); obtain ⟨⟨d0, d1, d2, d3⟩, f0, f1, f2, f3⟩ := k1.cells)
      | (go_at_call 12; refine (cf.out _).mono ?_; rintro e w2 ⟨rfl, hb2⟩; have k2 := k1.below hb2 k1.lt; have hs2 := hs1.below hb2 (Nat.le_refl _); have hB2 := hB1.trans (hb2.mono hB1.size); clear d0 d1 d2 d3 f0 f1 f2 f3; obtain ⟨⟨d0, d1, d2, d3⟩, f0, f1, f2, f3⟩ := k2.cells)
      | (go_at_call 26; refine (c1.out _ hs2).mono ?_; rintro e w3 ⟨rfl, hb3⟩; have hB3 := hB2.trans (hb3.mono hB2.size)))
    go_ret
    exact ⟨rfl, hB3⟩
  · have cf := Lib.hid (fun W' => few_at (W := W) (H := H) (M := M) (A := A) (c := c) (w := W') hn (decide_eq_false hf))
    replace ho := Lib.hid ho
    go_enter Try.func8, Try.ntmps8
    go_wp2_with (first
      | (go_at_call 11; refine (known_any _).mono ?_; rintro e w1 ⟨rfl, hb1⟩; have k1 := k0.below hb1 k0.lt; have hB1 := hb0.trans (hb1.mono hb0.size); obtain ⟨⟨d0, d1, d2, d3⟩, f0, f1, f2, f3⟩ := k1.cells)
      | (go_at_call 12; refine (cf.out _).mono ?_; rintro e w2 ⟨rfl, hb2⟩; have hB2 := hB1.trans (hb2.mono hB1.size)))
    go_ret
    exact ⟨rfl, hB2⟩

/-- The first i numbers are multiplied. -/
def MulI (S : List Int) (K : Int) (n i : Nat) (L : List Int) : Prop := L.length = n ∧ (∀ j, j < i → nth L j = nth S j * K) ∧ ∀ j, i ≤ j → nth L j = nth S j
theorem MulI.step {S : List Int} {K : Int} {n i : Nat} {L : List Int} (h : MulI S K n i L) (hi : i < n) {v : Int} (hv : nth S i * K = v) : MulI S K n (i + 1) (L.set i v) := by
  refine ⟨by rw [List.length_set]; exact h.1, fun j hj => ?_, fun j hj => ?_⟩
  · by_cases e : j = i
    · subst e; rw [nth_set_self (by rw [h.1]; exact hi)]; exact hv.symm
    · rw [nth_set_ne (by omega)]; exact h.2.1 j (by omega)
  · rw [nth_set_ne (by omega)]; exact h.2.2 j (by omega)
theorem MulI.done {S : List Int} {K : Int} {n : Nat} {L : List Int} (h : MulI S K n n L) (hS : S.length = n) : L = S.map (fun s => s * K) := nth_ext (by rw [h.1, List.length_map, hS]) fun j hj => by
  rw [h.1] at hj
  rw [h.2.1 j hj, nth_map (by rw [hS]; exact hj)]

set_option maxRecDepth 100000 in
set_option maxHeartbeats 6400000 in
theorem lawInv_00 (W H M d tm : Int) (A : Option Addr) (n c : Nat) (P : List Int) (w : World) (h : Sl w A n c P) (hf : n ≤ 200) (hscr : Scr W H M P) (hd : 0 ≤ d ∧ d ≤ 255) (ht : 0 ≤ tm ∧ tm ≤ 255) (hadd : 1023 < M + d) (hmul : 1023 < M * (1 + tm % 5)) :
    Calls Try.prog 8 #[.agg #[.int .i64 W, .int .i64 H, .int .i64 M, .slice A n c], .int .u8 d, .int .u8 tm] w fun e w' => e = .returned (.bool true) ∧ Below w.heap.size w w' := by
  have hb0 := ((Below.refl w.heap.size w).alloc (Nat.le_refl _) (.cells #[.int .i64 W, .int .i64 H, .int .i64 M, .slice A n c] 24)).alloc (by simp) (.cells #[.int .u8 d] 5)
  have hs0 := (h.alloc (.cells #[.int .i64 W, .int .i64 H, .int .i64 M, .slice A n c] 24)).alloc (.cells #[.int .u8 d] 5)
  have k0 := (RB.new w W H M A n c).alloc (.cells #[.int .u8 d] 5)
  have u0 : ((w.alloc (.cells #[.int .i64 W, .int .i64 H, .int .i64 M, .slice A n c] 24)).alloc (.cells #[.int .u8 d] 5)).cell? ⟨w.heap.size + 1, 0, none⟩ = some (.int .u8 d) := by simp [go_sem]
  have hcap := h.le_cap
  have hcl := h.cap_le
  have cf := Lib.hid (fun W' => few_at (W := W) (H := H) (M := M) (A := A) (c := c) (w := W') (by omega) (decide_eq_true hf))
  have ca := Lib.hid (ask_at (A := A) (n := n) (c := c) (.inr (.inr ⟨rfl, hscr⟩) : AskR W H M P 0))
  have c1 := Lib.hid (fun W' hW => Scores_ok W H M A n c P W' hW hscr)
  obtain ⟨a, b, rfl, rfl, ⟨ha1, ha2⟩, ⟨hb1, hb2⟩, ⟨hM1, hM2⟩, hab, hl1, hl2⟩ := hscr.1.nat
  have hM3 : M ≤ 1023 := hscr.2
  obtain ⟨bb, off, rfl, hbw, -⟩ := h.at_ (by rw [h.len]; exact hl2)
  simp only [Int.toNat_natCast] at c1
  have hN : a * b = n := by rw [h.len, hab]
  have hP1 : ∀ x ∈ P, 0 ≤ x ∧ x ≤ M := hscr.1.2.2
  have hP2 : ∀ x ∈ P, 0 ≤ x ∧ x ≤ 1023 := fun x hx => by have := hP1 x hx; omega
  obtain ⟨d1', d2'⟩ := hd
  obtain ⟨t1', t2'⟩ := ht
  obtain ⟨k, hk⟩ : ∃ k, 1 + tm % 5 = k := ⟨_, rfl⟩
  have hk1 : 1 ≤ k ∧ k ≤ 5 := by omega
  rw [hk] at hmul
  have htm : tm.tmod 5 = tm % 5 := Int.tmod_eq_emod_of_nonneg t1'
  obtain ⟨tq, htq⟩ : ∃ q, tm % 5 = q := ⟨_, rfl⟩
  rw [htq] at htm hk
  obtain ⟨tn, rfl⟩ : ∃ tn : Nat, tm = (tn : Int) := ⟨tm.toNat, by omega⟩
  have eCH := enters_CH
  have hmf : ∀ (fn : Fn) (first cap : Array Value) (w : World), (Instr.makeFunc fn first cap).run Try.prog w = .ok (.func fn first cap) w := fun _ _ _ _ => rfl
  have C1 := Lib.hid (fun W' (kr : RB W' w.heap.size a b M (some ⟨bb, off, none⟩) n c) (hs : Sl W' (some ⟨bb, off, none⟩) n c P) =>
    changed_any 28 _ (fun x => M - x) enters_F2 a b M M w.heap.size bb off n c P W' kr hs hf hN (neg_predF M _ P W' kr.cells.1.2.2.1 hP1 hM3) (map_scr hscr hM1 hM3 (fun x h1 h2 => by omega)))
  rw [neg_scores M hab ha1] at C1
  have hMk : 1 ≤ M * k ∧ M * k ≤ 5115 := by
    refine ⟨?_, ?_⟩
    · have := Int.mul_le_mul hM1 hk1.1 (by omega) (by omega); omega
    · have := Int.mul_le_mul hM3 hk1.2 (by omega) (by omega); omega
  obtain ⟨mk, hmk⟩ : ∃ mk, M * k = mk := ⟨_, rfl⟩
  rw [hmk] at hmul hMk
  obtain ⟨S, hS⟩ : ∃ S, scoresL a b P = S := ⟨_, rfl⟩
  rw [hS] at c1 C1 
  have hSl : Hid (S.length = n) := Lib.hid (by rw [← hS, scoresL, tab_length, hN])
  obtain ⟨hk1, hk2⟩ := hk1
  obtain ⟨m1, m2⟩ := hMk
  replace h := Lib.hid h
  replace hscr := Lib.hid hscr
  replace hS := Lib.hid hS
  replace hN := Lib.hid hN
  replace hP1 := Lib.hid hP1
  replace hP2 := Lib.hid hP2
  replace htq := Lib.hid htq
  clear hab hl1 hl2
  have tok1 : True := trivial
  have tok4 : True := trivial
  go_enter Try.func8, Try.ntmps8
  go_wp2_with (first
    | (go_at_call 11; refine (known_any _).mono ?_; rintro e w1 ⟨rfl, hb1⟩; have k1 := k0.below hb1 k0.lt; have hs1 := hs0.below hb1 (Nat.le_refl _); have u1 := (hb1.cell (p := ⟨w.heap.size + 1, 0, none⟩) (World.block_lt_of_cell? _ _ u0)).trans u0; have hB1 := hb0.trans (hb1.mono hb0.size); obtain ⟨⟨d0, d1, d2, d3⟩, f0, f1, f2, f3⟩ := k1.cells)
    | (go_at_call 12; refine (cf.out _).mono ?_; rintro e w2 ⟨rfl, hb2⟩; replace k1 := k1.below hb2 k1.lt; replace hs1 := hs1.below hb2 (Nat.le_refl _); replace u1 := (hb2.cell (p := ⟨w.heap.size + 1, 0, none⟩) (World.block_lt_of_cell? _ _ u1)).trans u1; have hB2 := hB1.trans (hb2.mono hB1.size); clear d0 d1 d2 d3 f0 f1 f2 f3; obtain ⟨⟨d0, d1, d2, d3⟩, f0, f1, f2, f3⟩ := k1.cells)
    | (go_at_call 26; refine (ca.out _ hs1).mono ?_; rintro e w3 ⟨rfl, hb3⟩; replace k1 := k1.below hb3 k1.lt; replace hs1 := hs1.below hb3 (Nat.le_refl _); replace u1 := (hb3.cell (p := ⟨w.heap.size + 1, 0, none⟩) (World.block_lt_of_cell? _ _ u1)).trans u1; have hB3 := hB2.trans (hb3.mono hB2.size); clear d0 d1 d2 d3 f0 f1 f2 f3; obtain ⟨⟨d0, d1, d2, d3⟩, f0, f1, f2, f3⟩ := k1.cells)
    | (go_at_call 13; refine (c1.out _ hs1).mono ?_; rintro e w4 ⟨gS, rfl, hgS, hblS, hb4⟩; have hS4 : w.heap.size ≤ gS := Nat.le_trans hB3.size hgS; replace k1 := k1.below hb4 k1.lt; replace hs1 := hs1.below hb4 (Nat.le_refl _); replace u1 := (hb4.cell (p := ⟨w.heap.size + 1, 0, none⟩) (World.block_lt_of_cell? _ _ u1)).trans u1; have hB4 := hB3.trans (hb4.mono hB3.size); clear d0 d1 d2 d3 f0 f1 f2 f3; obtain ⟨⟨d0, d1, d2, d3⟩, f0, f1, f2, f3⟩ := k1.cells)
    | (go_at_fn 27; clear tok1; refine (C1.out _ k1 hs1).mono ?_; rintro e w5 ⟨g5, rfl, hg5, hbl5, hb5⟩; replace k1 := k1.below hb5 k1.lt; replace hs1 := hs1.below hb5 (Nat.le_refl _); replace u1 := (hb5.cell (p := ⟨w.heap.size + 1, 0, none⟩) (World.block_lt_of_cell? _ _ u1)).trans u1; replace hblS := hblS.below hb5 hblS.lt; have hB5 := hB4.trans (hb5.mono hB4.size); clear d0 d1 d2 d3 f0 f1 f2 f3; obtain ⟨⟨d0, d1, d2, d3⟩, f0, f1, f2, f3⟩ := k1.cells)
    | (go_at_call 15; clear tok4; refine (kEqI (hblS.sl0 hSl.out.symm (Nat.le_refl _) (by omega)) (hbl5.sl0 hSl.out.symm (Nat.le_refl _) (by omega))).mono ?_; rintro e w6 ⟨rfl, hb6⟩; replace k1 := k1.below hb6 k1.lt; replace hs1 := hs1.below hb6 (Nat.le_refl _); replace u1 := (hb6.cell (p := ⟨w.heap.size + 1, 0, none⟩) (World.block_lt_of_cell? _ _ u1)).trans u1; replace hblS := hblS.below hb6 hblS.lt; have hB6 := hB5.trans (hb6.mono hB5.size); clear d0 d1 d2 d3 f0 f1 f2 f3; obtain ⟨⟨d0, d1, d2, d3⟩, f0, f1, f2, f3⟩ := k1.cells; obtain ⟨⟨p0, p1, p2, p3⟩, -⟩ := (k1.alloc (.cells #[.int .i64 k] 3)).cells))
  go_ret
  exact ⟨rfl, hB6.alloc hB6.size _⟩

set_option maxRecDepth 100000 in
set_option maxHeartbeats 6400000 in
theorem lawInv_01 (W H M d tm : Int) (A : Option Addr) (n c : Nat) (P : List Int) (w : World) (h : Sl w A n c P) (hf : n ≤ 200) (hscr : Scr W H M P) (hd : 0 ≤ d ∧ d ≤ 255) (ht : 0 ≤ tm ∧ tm ≤ 255) (hadd : 1023 < M + d) (hmul : M * (1 + tm % 5) ≤ 1023) :
    Calls Try.prog 8 #[.agg #[.int .i64 W, .int .i64 H, .int .i64 M, .slice A n c], .int .u8 d, .int .u8 tm] w fun e w' => e = .returned (.bool true) ∧ Below w.heap.size w w' := by
  have hb0 := ((Below.refl w.heap.size w).alloc (Nat.le_refl _) (.cells #[.int .i64 W, .int .i64 H, .int .i64 M, .slice A n c] 24)).alloc (by simp) (.cells #[.int .u8 d] 5)
  have hs0 := (h.alloc (.cells #[.int .i64 W, .int .i64 H, .int .i64 M, .slice A n c] 24)).alloc (.cells #[.int .u8 d] 5)
  have k0 := (RB.new w W H M A n c).alloc (.cells #[.int .u8 d] 5)
  have u0 : ((w.alloc (.cells #[.int .i64 W, .int .i64 H, .int .i64 M, .slice A n c] 24)).alloc (.cells #[.int .u8 d] 5)).cell? ⟨w.heap.size + 1, 0, none⟩ = some (.int .u8 d) := by simp [go_sem]
  have hcap := h.le_cap
  have hcl := h.cap_le
  have cf := Lib.hid (fun W' => few_at (W := W) (H := H) (M := M) (A := A) (c := c) (w := W') (by omega) (decide_eq_true hf))
  have ca := Lib.hid (ask_at (A := A) (n := n) (c := c) (.inr (.inr ⟨rfl, hscr⟩) : AskR W H M P 0))
  have c1 := Lib.hid (fun W' hW => Scores_ok W H M A n c P W' hW hscr)
  obtain ⟨a, b, rfl, rfl, ⟨ha1, ha2⟩, ⟨hb1, hb2⟩, ⟨hM1, hM2⟩, hab, hl1, hl2⟩ := hscr.1.nat
  have hM3 : M ≤ 1023 := hscr.2
  obtain ⟨bb, off, rfl, hbw, -⟩ := h.at_ (by rw [h.len]; exact hl2)
  simp only [Int.toNat_natCast] at c1
  have hN : a * b = n := by rw [h.len, hab]
  have hP1 : ∀ x ∈ P, 0 ≤ x ∧ x ≤ M := hscr.1.2.2
  have hP2 : ∀ x ∈ P, 0 ≤ x ∧ x ≤ 1023 := fun x hx => by have := hP1 x hx; omega
  obtain ⟨d1', d2'⟩ := hd
  obtain ⟨t1', t2'⟩ := ht
  obtain ⟨k, hk⟩ : ∃ k, 1 + tm % 5 = k := ⟨_, rfl⟩
  have hk1 : 1 ≤ k ∧ k ≤ 5 := by omega
  rw [hk] at hmul
  have htm : tm.tmod 5 = tm % 5 := Int.tmod_eq_emod_of_nonneg t1'
  obtain ⟨tq, htq⟩ : ∃ q, tm % 5 = q := ⟨_, rfl⟩
  rw [htq] at htm hk
  obtain ⟨tn, rfl⟩ : ∃ tn : Nat, tm = (tn : Int) := ⟨tm.toNat, by omega⟩
  have eCH := enters_CH
  have hmf : ∀ (fn : Fn) (first cap : Array Value) (w : World), (Instr.makeFunc fn first cap).run Try.prog w = .ok (.func fn first cap) w := fun _ _ _ _ => rfl
  have C1 := Lib.hid (fun W' (kr : RB W' w.heap.size a b M (some ⟨bb, off, none⟩) n c) (hs : Sl W' (some ⟨bb, off, none⟩) n c P) =>
    changed_any 28 _ (fun x => M - x) enters_F2 a b M M w.heap.size bb off n c P W' kr hs hf hN (neg_predF M _ P W' kr.cells.1.2.2.1 hP1 hM3) (map_scr hscr hM1 hM3 (fun x h1 h2 => by omega)))
  rw [neg_scores M hab ha1] at C1
  have hMk : 1 ≤ M * k ∧ M * k ≤ 5115 := by
    refine ⟨?_, ?_⟩
    · have := Int.mul_le_mul hM1 hk1.1 (by omega) (by omega); omega
    · have := Int.mul_le_mul hM3 hk1.2 (by omega) (by omega); omega
  obtain ⟨mk, hmk⟩ : ∃ mk, M * k = mk := ⟨_, rfl⟩
  rw [hmk] at hmul hMk
  have hsc3 : Scr a b mk (P.map fun x => x * k) := map_scr hscr hMk.1 hmul (fun x h1 h2 => ⟨Int.mul_nonneg h1 (by omega), by rw [← hmk]; exact Int.mul_le_mul_of_nonneg_right h2 (by omega)⟩)
  have hmag := scores_mag (a := a) (b := b) (P := P.map fun x => x * k) (fun g hg => by have := hsc3.1.2.2 g hg; omega)
  have C3 := Lib.hid (fun W' gk (kr : RB W' w.heap.size a b M (some ⟨bb, off, none⟩) n c) (hs : Sl W' (some ⟨bb, off, none⟩) n c P) (hu : W'.cell? ⟨gk, 0, none⟩ = some (.int .i64 k)) =>
    changed_any 30 _ (fun x => x * k) enters_F4 a b M mk w.heap.size bb off n c P W' kr hs hf hN (mul_predF k gk P W' hu hk1 hP2) hsc3)
  rw [mul_scores k hab ha1] at C3 hmag
  obtain ⟨S, hS⟩ : ∃ S, scoresL a b P = S := ⟨_, rfl⟩
  rw [hS] at c1 C1 C3 hmag
  have hSl : Hid (S.length = n) := Lib.hid (by rw [← hS, scoresL, tab_length, hN])
  obtain ⟨hk1, hk2⟩ := hk1
  obtain ⟨m1, m2⟩ := hMk
  obtain ⟨k2, hk2'⟩ : ∃ v, k * k = v := ⟨_, rfl⟩
  obtain ⟨k3, hk3'⟩ : ∃ v, k2 * k = v := ⟨_, rfl⟩
  obtain ⟨k4, hk4'⟩ : ∃ v, k3 * k = v := ⟨_, rfl⟩
  rw [hk2', hk3', hk4'] at C3 hmag
  have b2 := mul_bd (x := k) (y := k) (B := 5) (by decide) (by omega) (by omega) (by omega) (by omega)
  rw [hk2'] at b2
  have b3 := mul_bd (x := k2) (y := k) (B := 25) (by decide) (by omega) (by omega) (by omega) (by omega)
  rw [hk3'] at b3
  have b4 := mul_bd (x := k3) (y := k) (B := 625) (by decide) (by omega) (by omega) (by omega) (by omega)
  rw [hk4'] at b4
  obtain ⟨b21, b22⟩ := b2
  obtain ⟨b31, b32⟩ := b3
  obtain ⟨b41, b42⟩ := b4
  obtain ⟨T, hT⟩ : ∃ T, S.map (fun s => s * k4) = T := ⟨_, rfl⟩
  rw [hT] at C3 hmag
  replace hmag := Lib.hid hmag
  replace hT := Lib.hid hT
  replace hsc3 := Lib.hid hsc3
  replace h := Lib.hid h
  replace hscr := Lib.hid hscr
  replace hS := Lib.hid hS
  replace hN := Lib.hid hN
  replace hP1 := Lib.hid hP1
  replace hP2 := Lib.hid hP2
  replace htq := Lib.hid htq
  clear hab hl1 hl2
  have tok1 : True := trivial
  have tok4 : True := trivial
  go_enter Try.func8, Try.ntmps8
  go_wp2_with (first
    | (go_at_call 11; refine (known_any _).mono ?_; rintro e w1 ⟨rfl, hb1⟩; have k1 := k0.below hb1 k0.lt; have hs1 := hs0.below hb1 (Nat.le_refl _); have u1 := (hb1.cell (p := ⟨w.heap.size + 1, 0, none⟩) (World.block_lt_of_cell? _ _ u0)).trans u0; have hB1 := hb0.trans (hb1.mono hb0.size); obtain ⟨⟨d0, d1, d2, d3⟩, f0, f1, f2, f3⟩ := k1.cells)
    | (go_at_call 12; refine (cf.out _).mono ?_; rintro e w2 ⟨rfl, hb2⟩; replace k1 := k1.below hb2 k1.lt; replace hs1 := hs1.below hb2 (Nat.le_refl _); replace u1 := (hb2.cell (p := ⟨w.heap.size + 1, 0, none⟩) (World.block_lt_of_cell? _ _ u1)).trans u1; have hB2 := hB1.trans (hb2.mono hB1.size); clear d0 d1 d2 d3 f0 f1 f2 f3; obtain ⟨⟨d0, d1, d2, d3⟩, f0, f1, f2, f3⟩ := k1.cells)
    | (go_at_call 26; refine (ca.out _ hs1).mono ?_; rintro e w3 ⟨rfl, hb3⟩; replace k1 := k1.below hb3 k1.lt; replace hs1 := hs1.below hb3 (Nat.le_refl _); replace u1 := (hb3.cell (p := ⟨w.heap.size + 1, 0, none⟩) (World.block_lt_of_cell? _ _ u1)).trans u1; have hB3 := hB2.trans (hb3.mono hB2.size); clear d0 d1 d2 d3 f0 f1 f2 f3; obtain ⟨⟨d0, d1, d2, d3⟩, f0, f1, f2, f3⟩ := k1.cells)
    | (go_at_call 13; refine (c1.out _ hs1).mono ?_; rintro e w4 ⟨gS, rfl, hgS, hblS, hb4⟩; have hS4 : w.heap.size ≤ gS := Nat.le_trans hB3.size hgS; replace k1 := k1.below hb4 k1.lt; replace hs1 := hs1.below hb4 (Nat.le_refl _); replace u1 := (hb4.cell (p := ⟨w.heap.size + 1, 0, none⟩) (World.block_lt_of_cell? _ _ u1)).trans u1; have hB4 := hB3.trans (hb4.mono hB3.size); clear d0 d1 d2 d3 f0 f1 f2 f3; obtain ⟨⟨d0, d1, d2, d3⟩, f0, f1, f2, f3⟩ := k1.cells)
    | (go_at_fn 27; clear tok1; refine (C1.out _ k1 hs1).mono ?_; rintro e w5 ⟨g5, rfl, hg5, hbl5, hb5⟩; replace k1 := k1.below hb5 k1.lt; replace hs1 := hs1.below hb5 (Nat.le_refl _); replace u1 := (hb5.cell (p := ⟨w.heap.size + 1, 0, none⟩) (World.block_lt_of_cell? _ _ u1)).trans u1; replace hblS := hblS.below hb5 hblS.lt; have hB5 := hB4.trans (hb5.mono hB4.size); clear d0 d1 d2 d3 f0 f1 f2 f3; obtain ⟨⟨d0, d1, d2, d3⟩, f0, f1, f2, f3⟩ := k1.cells)
    | (go_at_call 15; clear tok4; refine (kEqI (hblS.sl0 hSl.out.symm (Nat.le_refl _) (by omega)) (hbl5.sl0 hSl.out.symm (Nat.le_refl _) (by omega))).mono ?_; rintro e w6 ⟨rfl, hb6⟩; replace k1 := k1.below hb6 k1.lt; replace hs1 := hs1.below hb6 (Nat.le_refl _); replace u1 := (hb6.cell (p := ⟨w.heap.size + 1, 0, none⟩) (World.block_lt_of_cell? _ _ u1)).trans u1; replace hblS := hblS.below hb6 hblS.lt; have hB6 := hB5.trans (hb6.mono hB5.size); clear d0 d1 d2 d3 f0 f1 f2 f3; obtain ⟨⟨d0, d1, d2, d3⟩, f0, f1, f2, f3⟩ := k1.cells; obtain ⟨⟨p0, p1, p2, p3⟩, -⟩ := (k1.alloc (.cells #[.int .i64 k] 3)).cells)
    | (go_at_fn 27; refine (C3.out _ w6.heap.size (k1.alloc (.cells #[.int .i64 k] 3)) (hs1.alloc (.cells #[.int .i64 k] 3)) (by simp [go_sem])).mono ?_; rintro e w9 ⟨g9, rfl, hg9, hbl9, hb9⟩; simp only [World.size_alloc] at hg9 hb9; have hlS := hblS.lt; replace hblS := (hblS.alloc (.cells #[.int .i64 k] 3)).below hb9 (Nat.lt_succ_of_lt hlS); have q9 : w9.cell? ⟨w6.heap.size, 0, none⟩ = some (.int .i64 k) := (hb9.cell (p := ⟨w6.heap.size, 0, none⟩) (Nat.lt_succ_self _)).trans (by simp [go_sem]); have hB9 := (hB6.alloc hB6.size (.cells #[.int .i64 k] 3)).trans (hb9.mono (Nat.le_succ_of_le hB6.size))))
  obtain ⟨gk, hgk⟩ : ∃ gk, w6.heap.size = gk := ⟨_, rfl⟩
  rw [hgk] at q9 hlS hg9 ⊢
  replace hgk := Lib.hid hgk
  have hz9 := World.block_lt_of_cell? _ _ q9
  clear hb0 hb1 hb2 hb3 hb4 hb5 hb6 hB1 hB2 hB3 hB4 hB5 hB6 k1 hs1 d0 d1 d2 d3 f0 f1 f2 f3 p0 p1 p2 p3 hb9 hbl5
  go_loopw [98] (fun v wr => ∃ (i : Nat) (L : List Int), i ≤ n ∧ v = .int .i64 (i : Int) ∧ Hid (MulI S k4 n i L) ∧ Bl wr gS L ∧ Bl wr g9 T ∧ wr.cell? ⟨gk, 0, none⟩ = some (.int .i64 k) ∧ Below w.heap.size w wr) (fun v _ => n - (intOf v).toNat)
  case atStart => exact ⟨0, S, Nat.zero_le _, rfl, Lib.hid ⟨hSl.out, fun j hj => absurd hj (Nat.not_lt_zero _), fun j _ => rfl⟩, hblS, hbl9, q9, hB9⟩
  case round =>
    clear hblS hbl9 q9 hB9
    obtain ⟨i, L, hi, rfl, hL, hblS, hbl9, q9, hB9⟩ := hrel
    by_cases hlt : i < n
    · have hii : (i : Int) < (n : Int) := by omega
      have hi0 : (0 : Int) ≤ (i : Int) := by omega
      have tc := hblS.cell (i := i) (by rw [hL.out.1]; exact hlt)
      have tf := hblS.frozen i
      rw [hL.out.2.2 i (Nat.le_refl _)] at tc
      obtain ⟨v, hv⟩ : ∃ v, nth S i = v := ⟨_, rfl⟩
      obtain ⟨u, hu⟩ : ∃ u, v * k4 = u := ⟨_, rfl⟩
      have hub : In54 u := by
        have := hmag.out i
        rw [← hT.out, nth_map (by rw [hSl.out]; exact hlt), hv, hu] at this
        exact this
      obtain ⟨u1, u2⟩ := hub
      rw [hv] at tc
      have hw2 : IntKind.i64.wrap k2 = k2 := IntWalk.i64_in _ (by omega)
      have hw3 : IntKind.i64.wrap k3 = k3 := IntWalk.i64_in _ (by omega)
      have hw4 : IntKind.i64.wrap k4 = k4 := IntWalk.i64_in _ (by omega)
      have hwu : IntKind.i64.wrap u = u := IntWalk.i64_in _ (by omega)
      have hst : Hid (nth S i * k4 = u) := Lib.hid (by rw [hv]; exact hu)
      replace hv := Lib.hid hv
      go_wp2
      go_region
      go_wp2
      go_roundw
      case rel => exact ⟨i + 1, L.set i u, hlt, by go_num, Lib.hid (hL.out.step hlt hst.out), (hblS.set i u).drew, (hbl9.far (by show g9 ≠ gS; omega) _).drew, (World.cell?_setCell_other _ _ _ _ (fun e => by cases e; omega)).trans q9, (hB9.setCell (by show w.heap.size ≤ gS; exact hS4) _).drew⟩
      case measure => simp [intOf]; omega
    · obtain rfl : i = n := by omega
      have hii : ¬ (i : Int) < (i : Int) := by omega
      have hLT : Hid (L = T) := Lib.hid ((hL.out.done hSl.out).trans hT.out)
      have hTl : Hid (T.length = i) := Lib.hid (by rw [← hLT.out]; exact hL.out.1)
      rw [hLT.out] at hblS
      go_wp2_with (go_at_call 15; refine (kEqI (hblS.sl0 hTl.out.symm (Nat.le_refl _) (by omega)) (hbl9.sl0 hTl.out.symm (Nat.le_refl _) (by omega))).mono ?_; rintro e w10 ⟨rfl, hb10⟩)
      go_ret
      exact ⟨rfl, hB9.trans (hb10.mono hB9.size)⟩

set_option maxRecDepth 100000 in
set_option maxHeartbeats 6400000 in
theorem lawInv_10 (W H M d tm : Int) (A : Option Addr) (n c : Nat) (P : List Int) (w : World) (h : Sl w A n c P) (hf : n ≤ 200) (hscr : Scr W H M P) (hd : 0 ≤ d ∧ d ≤ 255) (ht : 0 ≤ tm ∧ tm ≤ 255) (hadd : M + d ≤ 1023) (hmul : 1023 < M * (1 + tm % 5)) :
    Calls Try.prog 8 #[.agg #[.int .i64 W, .int .i64 H, .int .i64 M, .slice A n c], .int .u8 d, .int .u8 tm] w fun e w' => e = .returned (.bool true) ∧ Below w.heap.size w w' := by
  have hb0 := ((Below.refl w.heap.size w).alloc (Nat.le_refl _) (.cells #[.int .i64 W, .int .i64 H, .int .i64 M, .slice A n c] 24)).alloc (by simp) (.cells #[.int .u8 d] 5)
  have hs0 := (h.alloc (.cells #[.int .i64 W, .int .i64 H, .int .i64 M, .slice A n c] 24)).alloc (.cells #[.int .u8 d] 5)
  have k0 := (RB.new w W H M A n c).alloc (.cells #[.int .u8 d] 5)
  have u0 : ((w.alloc (.cells #[.int .i64 W, .int .i64 H, .int .i64 M, .slice A n c] 24)).alloc (.cells #[.int .u8 d] 5)).cell? ⟨w.heap.size + 1, 0, none⟩ = some (.int .u8 d) := by simp [go_sem]
  have hcap := h.le_cap
  have hcl := h.cap_le
  have cf := Lib.hid (fun W' => few_at (W := W) (H := H) (M := M) (A := A) (c := c) (w := W') (by omega) (decide_eq_true hf))
  have ca := Lib.hid (ask_at (A := A) (n := n) (c := c) (.inr (.inr ⟨rfl, hscr⟩) : AskR W H M P 0))
  have c1 := Lib.hid (fun W' hW => Scores_ok W H M A n c P W' hW hscr)
  obtain ⟨a, b, rfl, rfl, ⟨ha1, ha2⟩, ⟨hb1, hb2⟩, ⟨hM1, hM2⟩, hab, hl1, hl2⟩ := hscr.1.nat
  have hM3 : M ≤ 1023 := hscr.2
  obtain ⟨bb, off, rfl, hbw, -⟩ := h.at_ (by rw [h.len]; exact hl2)
  simp only [Int.toNat_natCast] at c1
  have hN : a * b = n := by rw [h.len, hab]
  have hP1 : ∀ x ∈ P, 0 ≤ x ∧ x ≤ M := hscr.1.2.2
  have hP2 : ∀ x ∈ P, 0 ≤ x ∧ x ≤ 1023 := fun x hx => by have := hP1 x hx; omega
  obtain ⟨d1', d2'⟩ := hd
  obtain ⟨t1', t2'⟩ := ht
  obtain ⟨k, hk⟩ : ∃ k, 1 + tm % 5 = k := ⟨_, rfl⟩
  have hk1 : 1 ≤ k ∧ k ≤ 5 := by omega
  rw [hk] at hmul
  have htm : tm.tmod 5 = tm % 5 := Int.tmod_eq_emod_of_nonneg t1'
  obtain ⟨tq, htq⟩ : ∃ q, tm % 5 = q := ⟨_, rfl⟩
  rw [htq] at htm hk
  obtain ⟨tn, rfl⟩ : ∃ tn : Nat, tm = (tn : Int) := ⟨tm.toNat, by omega⟩
  have eCH := enters_CH
  have hmf : ∀ (fn : Fn) (first cap : Array Value) (w : World), (Instr.makeFunc fn first cap).run Try.prog w = .ok (.func fn first cap) w := fun _ _ _ _ => rfl
  have C1 := Lib.hid (fun W' (kr : RB W' w.heap.size a b M (some ⟨bb, off, none⟩) n c) (hs : Sl W' (some ⟨bb, off, none⟩) n c P) =>
    changed_any 28 _ (fun x => M - x) enters_F2 a b M M w.heap.size bb off n c P W' kr hs hf hN (neg_predF M _ P W' kr.cells.1.2.2.1 hP1 hM3) (map_scr hscr hM1 hM3 (fun x h1 h2 => by omega)))
  rw [neg_scores M hab ha1] at C1
  have C2 := Lib.hid (fun W' (kr : RB W' w.heap.size a b M (some ⟨bb, off, none⟩) n c) (hs : Sl W' (some ⟨bb, off, none⟩) n c P) (hu : W'.cell? ⟨w.heap.size + 1, 0, none⟩ = some (.int .u8 d)) =>
    changed_any 29 _ (fun x => x + d) enters_F3 a b M (M + d) w.heap.size bb off n c P W' kr hs hf hN (add_predF d _ P W' hu ⟨d1', d2'⟩ hP2) (map_scr hscr (by omega) hadd (fun x h1 h2 => by omega)))
  rw [add_scores d hab ha1] at C2
  have hMk : 1 ≤ M * k ∧ M * k ≤ 5115 := by
    refine ⟨?_, ?_⟩
    · have := Int.mul_le_mul hM1 hk1.1 (by omega) (by omega); omega
    · have := Int.mul_le_mul hM3 hk1.2 (by omega) (by omega); omega
  obtain ⟨mk, hmk⟩ : ∃ mk, M * k = mk := ⟨_, rfl⟩
  rw [hmk] at hmul hMk
  obtain ⟨S, hS⟩ : ∃ S, scoresL a b P = S := ⟨_, rfl⟩
  rw [hS] at c1 C1 C2 
  have hSl : Hid (S.length = n) := Lib.hid (by rw [← hS, scoresL, tab_length, hN])
  obtain ⟨hk1, hk2⟩ := hk1
  obtain ⟨m1, m2⟩ := hMk
  replace h := Lib.hid h
  replace hscr := Lib.hid hscr
  replace hS := Lib.hid hS
  replace hN := Lib.hid hN
  replace hP1 := Lib.hid hP1
  replace hP2 := Lib.hid hP2
  replace htq := Lib.hid htq
  clear hab hl1 hl2
  have tok1 : True := trivial
  have tok4 : True := trivial
  have tok2 : True := trivial
  have tok5 : True := trivial
  go_enter Try.func8, Try.ntmps8
  go_wp2_with (first
    | (go_at_call 11; refine (known_any _).mono ?_; rintro e w1 ⟨rfl, hb1⟩; have k1 := k0.below hb1 k0.lt; have hs1 := hs0.below hb1 (Nat.le_refl _); have u1 := (hb1.cell (p := ⟨w.heap.size + 1, 0, none⟩) (World.block_lt_of_cell? _ _ u0)).trans u0; have hB1 := hb0.trans (hb1.mono hb0.size); obtain ⟨⟨d0, d1, d2, d3⟩, f0, f1, f2, f3⟩ := k1.cells)
    | (go_at_call 12; refine (cf.out _).mono ?_; rintro e w2 ⟨rfl, hb2⟩; replace k1 := k1.below hb2 k1.lt; replace hs1 := hs1.below hb2 (Nat.le_refl _); replace u1 := (hb2.cell (p := ⟨w.heap.size + 1, 0, none⟩) (World.block_lt_of_cell? _ _ u1)).trans u1; have hB2 := hB1.trans (hb2.mono hB1.size); clear d0 d1 d2 d3 f0 f1 f2 f3; obtain ⟨⟨d0, d1, d2, d3⟩, f0, f1, f2, f3⟩ := k1.cells)
    | (go_at_call 26; refine (ca.out _ hs1).mono ?_; rintro e w3 ⟨rfl, hb3⟩; replace k1 := k1.below hb3 k1.lt; replace hs1 := hs1.below hb3 (Nat.le_refl _); replace u1 := (hb3.cell (p := ⟨w.heap.size + 1, 0, none⟩) (World.block_lt_of_cell? _ _ u1)).trans u1; have hB3 := hB2.trans (hb3.mono hB2.size); clear d0 d1 d2 d3 f0 f1 f2 f3; obtain ⟨⟨d0, d1, d2, d3⟩, f0, f1, f2, f3⟩ := k1.cells)
    | (go_at_call 13; refine (c1.out _ hs1).mono ?_; rintro e w4 ⟨gS, rfl, hgS, hblS, hb4⟩; have hS4 : w.heap.size ≤ gS := Nat.le_trans hB3.size hgS; replace k1 := k1.below hb4 k1.lt; replace hs1 := hs1.below hb4 (Nat.le_refl _); replace u1 := (hb4.cell (p := ⟨w.heap.size + 1, 0, none⟩) (World.block_lt_of_cell? _ _ u1)).trans u1; have hB4 := hB3.trans (hb4.mono hB3.size); clear d0 d1 d2 d3 f0 f1 f2 f3; obtain ⟨⟨d0, d1, d2, d3⟩, f0, f1, f2, f3⟩ := k1.cells)
    | (go_at_fn 27; clear tok1; refine (C1.out _ k1 hs1).mono ?_; rintro e w5 ⟨g5, rfl, hg5, hbl5, hb5⟩; replace k1 := k1.below hb5 k1.lt; replace hs1 := hs1.below hb5 (Nat.le_refl _); replace u1 := (hb5.cell (p := ⟨w.heap.size + 1, 0, none⟩) (World.block_lt_of_cell? _ _ u1)).trans u1; replace hblS := hblS.below hb5 hblS.lt; have hB5 := hB4.trans (hb5.mono hB4.size); clear d0 d1 d2 d3 f0 f1 f2 f3; obtain ⟨⟨d0, d1, d2, d3⟩, f0, f1, f2, f3⟩ := k1.cells)
    | (go_at_call 15; clear tok4; refine (kEqI (hblS.sl0 hSl.out.symm (Nat.le_refl _) (by omega)) (hbl5.sl0 hSl.out.symm (Nat.le_refl _) (by omega))).mono ?_; rintro e w6 ⟨rfl, hb6⟩; replace k1 := k1.below hb6 k1.lt; replace hs1 := hs1.below hb6 (Nat.le_refl _); replace u1 := (hb6.cell (p := ⟨w.heap.size + 1, 0, none⟩) (World.block_lt_of_cell? _ _ u1)).trans u1; replace hblS := hblS.below hb6 hblS.lt; have hB6 := hB5.trans (hb6.mono hB5.size); clear d0 d1 d2 d3 f0 f1 f2 f3; obtain ⟨⟨d0, d1, d2, d3⟩, f0, f1, f2, f3⟩ := k1.cells)
    | (go_at_fn 27; clear tok2; refine (C2.out _ k1 hs1 u1).mono ?_; rintro e w7 ⟨g7, rfl, hg7, hbl7, hb7⟩; replace k1 := k1.below hb7 k1.lt; replace hs1 := hs1.below hb7 (Nat.le_refl _); replace hblS := hblS.below hb7 hblS.lt; have hB7 := hB6.trans (hb7.mono hB6.size); clear d0 d1 d2 d3 f0 f1 f2 f3; obtain ⟨⟨d0, d1, d2, d3⟩, f0, f1, f2, f3⟩ := k1.cells)
    | (go_at_call 15; clear tok5; refine (kEqI (hblS.sl0 hSl.out.symm (Nat.le_refl _) (by omega)) (hbl7.sl0 hSl.out.symm (Nat.le_refl _) (by omega))).mono ?_; rintro e w8 ⟨rfl, hb8⟩; replace k1 := k1.below hb8 k1.lt; replace hs1 := hs1.below hb8 (Nat.le_refl _); replace hblS := hblS.below hb8 hblS.lt; have hB8 := hB7.trans (hb8.mono hB7.size); clear d0 d1 d2 d3 f0 f1 f2 f3; obtain ⟨⟨d0, d1, d2, d3⟩, f0, f1, f2, f3⟩ := k1.cells; obtain ⟨⟨p0, p1, p2, p3⟩, -⟩ := (k1.alloc (.cells #[.int .i64 k] 3)).cells))
  go_ret
  exact ⟨rfl, hB8.alloc hB8.size _⟩

set_option maxRecDepth 100000 in
set_option maxHeartbeats 6400000 in
theorem lawInv_11 (W H M d tm : Int) (A : Option Addr) (n c : Nat) (P : List Int) (w : World) (h : Sl w A n c P) (hf : n ≤ 200) (hscr : Scr W H M P) (hd : 0 ≤ d ∧ d ≤ 255) (ht : 0 ≤ tm ∧ tm ≤ 255) (hadd : M + d ≤ 1023) (hmul : M * (1 + tm % 5) ≤ 1023) :
    Calls Try.prog 8 #[.agg #[.int .i64 W, .int .i64 H, .int .i64 M, .slice A n c], .int .u8 d, .int .u8 tm] w fun e w' => e = .returned (.bool true) ∧ Below w.heap.size w w' := by
  have hb0 := ((Below.refl w.heap.size w).alloc (Nat.le_refl _) (.cells #[.int .i64 W, .int .i64 H, .int .i64 M, .slice A n c] 24)).alloc (by simp) (.cells #[.int .u8 d] 5)
  have hs0 := (h.alloc (.cells #[.int .i64 W, .int .i64 H, .int .i64 M, .slice A n c] 24)).alloc (.cells #[.int .u8 d] 5)
  have k0 := (RB.new w W H M A n c).alloc (.cells #[.int .u8 d] 5)
  have u0 : ((w.alloc (.cells #[.int .i64 W, .int .i64 H, .int .i64 M, .slice A n c] 24)).alloc (.cells #[.int .u8 d] 5)).cell? ⟨w.heap.size + 1, 0, none⟩ = some (.int .u8 d) := by simp [go_sem]
  have hcap := h.le_cap
  have hcl := h.cap_le
  have cf := Lib.hid (fun W' => few_at (W := W) (H := H) (M := M) (A := A) (c := c) (w := W') (by omega) (decide_eq_true hf))
  have ca := Lib.hid (ask_at (A := A) (n := n) (c := c) (.inr (.inr ⟨rfl, hscr⟩) : AskR W H M P 0))
  have c1 := Lib.hid (fun W' hW => Scores_ok W H M A n c P W' hW hscr)
  obtain ⟨a, b, rfl, rfl, ⟨ha1, ha2⟩, ⟨hb1, hb2⟩, ⟨hM1, hM2⟩, hab, hl1, hl2⟩ := hscr.1.nat
  have hM3 : M ≤ 1023 := hscr.2
  obtain ⟨bb, off, rfl, hbw, -⟩ := h.at_ (by rw [h.len]; exact hl2)
  simp only [Int.toNat_natCast] at c1
  have hN : a * b = n := by rw [h.len, hab]
  have hP1 : ∀ x ∈ P, 0 ≤ x ∧ x ≤ M := hscr.1.2.2
  have hP2 : ∀ x ∈ P, 0 ≤ x ∧ x ≤ 1023 := fun x hx => by have := hP1 x hx; omega
  obtain ⟨d1', d2'⟩ := hd
  obtain ⟨t1', t2'⟩ := ht
  obtain ⟨k, hk⟩ : ∃ k, 1 + tm % 5 = k := ⟨_, rfl⟩
  have hk1 : 1 ≤ k ∧ k ≤ 5 := by omega
  rw [hk] at hmul
  have htm : tm.tmod 5 = tm % 5 := Int.tmod_eq_emod_of_nonneg t1'
  obtain ⟨tq, htq⟩ : ∃ q, tm % 5 = q := ⟨_, rfl⟩
  rw [htq] at htm hk
  obtain ⟨tn, rfl⟩ : ∃ tn : Nat, tm = (tn : Int) := ⟨tm.toNat, by omega⟩
  have eCH := enters_CH
  have hmf : ∀ (fn : Fn) (first cap : Array Value) (w : World), (Instr.makeFunc fn first cap).run Try.prog w = .ok (.func fn first cap) w := fun _ _ _ _ => rfl
  have C1 := Lib.hid (fun W' (kr : RB W' w.heap.size a b M (some ⟨bb, off, none⟩) n c) (hs : Sl W' (some ⟨bb, off, none⟩) n c P) =>
    changed_any 28 _ (fun x => M - x) enters_F2 a b M M w.heap.size bb off n c P W' kr hs hf hN (neg_predF M _ P W' kr.cells.1.2.2.1 hP1 hM3) (map_scr hscr hM1 hM3 (fun x h1 h2 => by omega)))
  rw [neg_scores M hab ha1] at C1
  have C2 := Lib.hid (fun W' (kr : RB W' w.heap.size a b M (some ⟨bb, off, none⟩) n c) (hs : Sl W' (some ⟨bb, off, none⟩) n c P) (hu : W'.cell? ⟨w.heap.size + 1, 0, none⟩ = some (.int .u8 d)) =>
    changed_any 29 _ (fun x => x + d) enters_F3 a b M (M + d) w.heap.size bb off n c P W' kr hs hf hN (add_predF d _ P W' hu ⟨d1', d2'⟩ hP2) (map_scr hscr (by omega) hadd (fun x h1 h2 => by omega)))
  rw [add_scores d hab ha1] at C2
  have hMk : 1 ≤ M * k ∧ M * k ≤ 5115 := by
    refine ⟨?_, ?_⟩
    · have := Int.mul_le_mul hM1 hk1.1 (by omega) (by omega); omega
    · have := Int.mul_le_mul hM3 hk1.2 (by omega) (by omega); omega
  obtain ⟨mk, hmk⟩ : ∃ mk, M * k = mk := ⟨_, rfl⟩
  rw [hmk] at hmul hMk
  have hsc3 : Scr a b mk (P.map fun x => x * k) := map_scr hscr hMk.1 hmul (fun x h1 h2 => ⟨Int.mul_nonneg h1 (by omega), by rw [← hmk]; exact Int.mul_le_mul_of_nonneg_right h2 (by omega)⟩)
  have hmag := scores_mag (a := a) (b := b) (P := P.map fun x => x * k) (fun g hg => by have := hsc3.1.2.2 g hg; omega)
  have C3 := Lib.hid (fun W' gk (kr : RB W' w.heap.size a b M (some ⟨bb, off, none⟩) n c) (hs : Sl W' (some ⟨bb, off, none⟩) n c P) (hu : W'.cell? ⟨gk, 0, none⟩ = some (.int .i64 k)) =>
    changed_any 30 _ (fun x => x * k) enters_F4 a b M mk w.heap.size bb off n c P W' kr hs hf hN (mul_predF k gk P W' hu hk1 hP2) hsc3)
  rw [mul_scores k hab ha1] at C3 hmag
  obtain ⟨S, hS⟩ : ∃ S, scoresL a b P = S := ⟨_, rfl⟩
  rw [hS] at c1 C1 C2 C3 hmag
  have hSl : Hid (S.length = n) := Lib.hid (by rw [← hS, scoresL, tab_length, hN])
  obtain ⟨hk1, hk2⟩ := hk1
  obtain ⟨m1, m2⟩ := hMk
  obtain ⟨k2, hk2'⟩ : ∃ v, k * k = v := ⟨_, rfl⟩
  obtain ⟨k3, hk3'⟩ : ∃ v, k2 * k = v := ⟨_, rfl⟩
  obtain ⟨k4, hk4'⟩ : ∃ v, k3 * k = v := ⟨_, rfl⟩
  rw [hk2', hk3', hk4'] at C3 hmag
  have b2 := mul_bd (x := k) (y := k) (B := 5) (by decide) (by omega) (by omega) (by omega) (by omega)
  rw [hk2'] at b2
  have b3 := mul_bd (x := k2) (y := k) (B := 25) (by decide) (by omega) (by omega) (by omega) (by omega)
  rw [hk3'] at b3
  have b4 := mul_bd (x := k3) (y := k) (B := 625) (by decide) (by omega) (by omega) (by omega) (by omega)
  rw [hk4'] at b4
  obtain ⟨b21, b22⟩ := b2
  obtain ⟨b31, b32⟩ := b3
  obtain ⟨b41, b42⟩ := b4
  obtain ⟨T, hT⟩ : ∃ T, S.map (fun s => s * k4) = T := ⟨_, rfl⟩
  rw [hT] at C3 hmag
  replace hmag := Lib.hid hmag
  replace hT := Lib.hid hT
  replace hsc3 := Lib.hid hsc3
  replace h := Lib.hid h
  replace hscr := Lib.hid hscr
  replace hS := Lib.hid hS
  replace hN := Lib.hid hN
  replace hP1 := Lib.hid hP1
  replace hP2 := Lib.hid hP2
  replace htq := Lib.hid htq
  clear hab hl1 hl2
  have tok1 : True := trivial
  have tok4 : True := trivial
  have tok2 : True := trivial
  have tok5 : True := trivial
  go_enter Try.func8, Try.ntmps8
  go_wp2_with (first
    | (go_at_call 11; refine (known_any _).mono ?_; rintro e w1 ⟨rfl, hb1⟩; have k1 := k0.below hb1 k0.lt; have hs1 := hs0.below hb1 (Nat.le_refl _); have u1 := (hb1.cell (p := ⟨w.heap.size + 1, 0, none⟩) (World.block_lt_of_cell? _ _ u0)).trans u0; have hB1 := hb0.trans (hb1.mono hb0.size); obtain ⟨⟨d0, d1, d2, d3⟩, f0, f1, f2, f3⟩ := k1.cells)
    | (go_at_call 12; refine (cf.out _).mono ?_; rintro e w2 ⟨rfl, hb2⟩; replace k1 := k1.below hb2 k1.lt; replace hs1 := hs1.below hb2 (Nat.le_refl _); replace u1 := (hb2.cell (p := ⟨w.heap.size + 1, 0, none⟩) (World.block_lt_of_cell? _ _ u1)).trans u1; have hB2 := hB1.trans (hb2.mono hB1.size); clear d0 d1 d2 d3 f0 f1 f2 f3; obtain ⟨⟨d0, d1, d2, d3⟩, f0, f1, f2, f3⟩ := k1.cells)
    | (go_at_call 26; refine (ca.out _ hs1).mono ?_; rintro e w3 ⟨rfl, hb3⟩; replace k1 := k1.below hb3 k1.lt; replace hs1 := hs1.below hb3 (Nat.le_refl _); replace u1 := (hb3.cell (p := ⟨w.heap.size + 1, 0, none⟩) (World.block_lt_of_cell? _ _ u1)).trans u1; have hB3 := hB2.trans (hb3.mono hB2.size); clear d0 d1 d2 d3 f0 f1 f2 f3; obtain ⟨⟨d0, d1, d2, d3⟩, f0, f1, f2, f3⟩ := k1.cells)
    | (go_at_call 13; refine (c1.out _ hs1).mono ?_; rintro e w4 ⟨gS, rfl, hgS, hblS, hb4⟩; have hS4 : w.heap.size ≤ gS := Nat.le_trans hB3.size hgS; replace k1 := k1.below hb4 k1.lt; replace hs1 := hs1.below hb4 (Nat.le_refl _); replace u1 := (hb4.cell (p := ⟨w.heap.size + 1, 0, none⟩) (World.block_lt_of_cell? _ _ u1)).trans u1; have hB4 := hB3.trans (hb4.mono hB3.size); clear d0 d1 d2 d3 f0 f1 f2 f3; obtain ⟨⟨d0, d1, d2, d3⟩, f0, f1, f2, f3⟩ := k1.cells)
    | (go_at_fn 27; clear tok1; refine (C1.out _ k1 hs1).mono ?_; rintro e w5 ⟨g5, rfl, hg5, hbl5, hb5⟩; replace k1 := k1.below hb5 k1.lt; replace hs1 := hs1.below hb5 (Nat.le_refl _); replace u1 := (hb5.cell (p := ⟨w.heap.size + 1, 0, none⟩) (World.block_lt_of_cell? _ _ u1)).trans u1; replace hblS := hblS.below hb5 hblS.lt; have hB5 := hB4.trans (hb5.mono hB4.size); clear d0 d1 d2 d3 f0 f1 f2 f3; obtain ⟨⟨d0, d1, d2, d3⟩, f0, f1, f2, f3⟩ := k1.cells)
    | (go_at_call 15; clear tok4; refine (kEqI (hblS.sl0 hSl.out.symm (Nat.le_refl _) (by omega)) (hbl5.sl0 hSl.out.symm (Nat.le_refl _) (by omega))).mono ?_; rintro e w6 ⟨rfl, hb6⟩; replace k1 := k1.below hb6 k1.lt; replace hs1 := hs1.below hb6 (Nat.le_refl _); replace u1 := (hb6.cell (p := ⟨w.heap.size + 1, 0, none⟩) (World.block_lt_of_cell? _ _ u1)).trans u1; replace hblS := hblS.below hb6 hblS.lt; have hB6 := hB5.trans (hb6.mono hB5.size); clear d0 d1 d2 d3 f0 f1 f2 f3; obtain ⟨⟨d0, d1, d2, d3⟩, f0, f1, f2, f3⟩ := k1.cells)
    | (go_at_fn 27; clear tok2; refine (C2.out _ k1 hs1 u1).mono ?_; rintro e w7 ⟨g7, rfl, hg7, hbl7, hb7⟩; replace k1 := k1.below hb7 k1.lt; replace hs1 := hs1.below hb7 (Nat.le_refl _); replace hblS := hblS.below hb7 hblS.lt; have hB7 := hB6.trans (hb7.mono hB6.size); clear d0 d1 d2 d3 f0 f1 f2 f3; obtain ⟨⟨d0, d1, d2, d3⟩, f0, f1, f2, f3⟩ := k1.cells)
    | (go_at_call 15; clear tok5; refine (kEqI (hblS.sl0 hSl.out.symm (Nat.le_refl _) (by omega)) (hbl7.sl0 hSl.out.symm (Nat.le_refl _) (by omega))).mono ?_; rintro e w8 ⟨rfl, hb8⟩; replace k1 := k1.below hb8 k1.lt; replace hs1 := hs1.below hb8 (Nat.le_refl _); replace hblS := hblS.below hb8 hblS.lt; have hB8 := hB7.trans (hb8.mono hB7.size); clear d0 d1 d2 d3 f0 f1 f2 f3; obtain ⟨⟨d0, d1, d2, d3⟩, f0, f1, f2, f3⟩ := k1.cells; obtain ⟨⟨p0, p1, p2, p3⟩, -⟩ := (k1.alloc (.cells #[.int .i64 k] 3)).cells)
    | (go_at_fn 27; refine (C3.out _ w8.heap.size (k1.alloc (.cells #[.int .i64 k] 3)) (hs1.alloc (.cells #[.int .i64 k] 3)) (by simp [go_sem])).mono ?_; rintro e w9 ⟨g9, rfl, hg9, hbl9, hb9⟩; simp only [World.size_alloc] at hg9 hb9; have hlS := hblS.lt; replace hblS := (hblS.alloc (.cells #[.int .i64 k] 3)).below hb9 (Nat.lt_succ_of_lt hlS); have q9 : w9.cell? ⟨w8.heap.size, 0, none⟩ = some (.int .i64 k) := (hb9.cell (p := ⟨w8.heap.size, 0, none⟩) (Nat.lt_succ_self _)).trans (by simp [go_sem]); have hB9 := (hB8.alloc hB8.size (.cells #[.int .i64 k] 3)).trans (hb9.mono (Nat.le_succ_of_le hB8.size))))
  obtain ⟨gk, hgk⟩ : ∃ gk, w8.heap.size = gk := ⟨_, rfl⟩
  rw [hgk] at q9 hlS hg9 ⊢
  replace hgk := Lib.hid hgk
  have hz9 := World.block_lt_of_cell? _ _ q9
  clear hb0 hb1 hb2 hb3 hb4 hb5 hb6 hB1 hB2 hB3 hB4 hB5 hB6 k1 hs1 d0 d1 d2 d3 f0 f1 f2 f3 p0 p1 p2 p3 hb9 hbl5
  go_loopw [98] (fun v wr => ∃ (i : Nat) (L : List Int), i ≤ n ∧ v = .int .i64 (i : Int) ∧ Hid (MulI S k4 n i L) ∧ Bl wr gS L ∧ Bl wr g9 T ∧ wr.cell? ⟨gk, 0, none⟩ = some (.int .i64 k) ∧ Below w.heap.size w wr) (fun v _ => n - (intOf v).toNat)
  case atStart => exact ⟨0, S, Nat.zero_le _, rfl, Lib.hid ⟨hSl.out, fun j hj => absurd hj (Nat.not_lt_zero _), fun j _ => rfl⟩, hblS, hbl9, q9, hB9⟩
  case round =>
    clear hblS hbl9 q9 hB9
    obtain ⟨i, L, hi, rfl, hL, hblS, hbl9, q9, hB9⟩ := hrel
    by_cases hlt : i < n
    · have hii : (i : Int) < (n : Int) := by omega
      have hi0 : (0 : Int) ≤ (i : Int) := by omega
      have tc := hblS.cell (i := i) (by rw [hL.out.1]; exact hlt)
      have tf := hblS.frozen i
      rw [hL.out.2.2 i (Nat.le_refl _)] at tc
      obtain ⟨v, hv⟩ : ∃ v, nth S i = v := ⟨_, rfl⟩
      obtain ⟨u, hu⟩ : ∃ u, v * k4 = u := ⟨_, rfl⟩
      have hub : In54 u := by
        have := hmag.out i
        rw [← hT.out, nth_map (by rw [hSl.out]; exact hlt), hv, hu] at this
        exact this
      obtain ⟨u1, u2⟩ := hub
      rw [hv] at tc
      have hw2 : IntKind.i64.wrap k2 = k2 := IntWalk.i64_in _ (by omega)
      have hw3 : IntKind.i64.wrap k3 = k3 := IntWalk.i64_in _ (by omega)
      have hw4 : IntKind.i64.wrap k4 = k4 := IntWalk.i64_in _ (by omega)
      have hwu : IntKind.i64.wrap u = u := IntWalk.i64_in _ (by omega)
      have hst : Hid (nth S i * k4 = u) := Lib.hid (by rw [hv]; exact hu)
      replace hv := Lib.hid hv
      go_wp2
      go_region
      go_wp2
      go_roundw
      case rel => exact ⟨i + 1, L.set i u, hlt, by go_num, Lib.hid (hL.out.step hlt hst.out), (hblS.set i u).drew, (hbl9.far (by show g9 ≠ gS; omega) _).drew, (World.cell?_setCell_other _ _ _ _ (fun e => by cases e; omega)).trans q9, (hB9.setCell (by show w.heap.size ≤ gS; exact hS4) _).drew⟩
      case measure => simp [intOf]; omega
    · obtain rfl : i = n := by omega
      have hii : ¬ (i : Int) < (i : Int) := by omega
      have hLT : Hid (L = T) := Lib.hid ((hL.out.done hSl.out).trans hT.out)
      have hTl : Hid (T.length = i) := Lib.hid (by rw [← hLT.out]; exact hL.out.1)
      rw [hLT.out] at hblS
      go_wp2_with (go_at_call 15; refine (kEqI (hblS.sl0 hTl.out.symm (Nat.le_refl _) (by omega)) (hbl9.sl0 hTl.out.symm (Nat.le_refl _) (by omega))).mono ?_; rintro e w10 ⟨rfl, hb10⟩)
      go_ret
      exact ⟨rfl, hB9.trans (hb10.mono hB9.size)⟩

theorem lawInv_any (W H M d tm : Int) (A : Option Addr) (n c : Nat) (P : List Int) (w : World) (h : Sl w A n c P) (hd : 0 ≤ d ∧ d ≤ 255) (ht : 0 ≤ tm ∧ tm ≤ 255) :
    Calls Try.prog 8 #[.agg #[.int .i64 W, .int .i64 H, .int .i64 M, .slice A n c], .int .u8 d, .int .u8 tm] w fun e w' => e = .returned (.bool true) ∧ Below w.heap.size w w' := by
  by_cases ho : n ≤ 200 ∧ Scr W H M P
  · by_cases h1 : M + d ≤ 1023
    · by_cases h2 : M * (1 + tm % 5) ≤ 1023
      · exact lawInv_11 W H M d tm A n c P w h ho.1 ho.2 hd ht h1 h2
      · exact lawInv_10 W H M d tm A n c P w h ho.1 ho.2 hd ht h1 (by omega)
    · by_cases h2 : M * (1 + tm % 5) ≤ 1023
      · exact lawInv_01 W H M d tm A n c P w h ho.1 ho.2 hd ht (by omega) h2
      · exact lawInv_00 W H M d tm A n c P w h ho.1 ho.2 hd ht (by omega) (by omega)
  · exact lawInv_out W H M d tm A n c P w h ho

end Go.Proofs.Ytnnaojaadjafbaa
