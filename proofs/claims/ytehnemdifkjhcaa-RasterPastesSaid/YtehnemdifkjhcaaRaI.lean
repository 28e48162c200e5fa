/-
  Walks: few and known of the law.
-/
import Derived.Test.YtehnemdifkjhcaaRaH
set_option linter.unusedSimpArgs false
set_option linter.unusedVariables false
namespace Go.Proofs.Ytehnemdifkjhcaa
open Go.RowKit

theorem enters_few : ∀ args w, (callFunc 47 args).run Try.prog w = .ok (.enter 47 args) w := enters_of Try.func47 (by kernel_rfl) rfl

theorem few1_any (W H M : Int) (A : Option Addr) (n c : Nat) (w : World) {b : Bool} (hb : decide (600 < (n : Int)) = b) (hn : n ≤ 9223372036854775807) :
    Calls Try.prog 47 #[.agg #[.int .i64 W, .int .i64 H, .int .i64 M, .slice A n c]] w fun e w' => e = .returned (.bool b) ∧ Below w.heap.size w w' := by
  replace hb := Lib.hid hb
  go_enter Try.func47, Try.ntmps47
  go_wp2
  go_ret
  exact ⟨ret_bool hb.out, (Below.refl _ _).alloc (Nat.le_refl _) _⟩

/-- A row of rasters in memory. -/
def RR (w : World) (g m : Nat) (W H M : Nat → Int) (A : Nat → Option Addr) (N C : Nat → Nat) : Prop :=
  ∀ i, i < m → w.cell? ⟨g, i * 4, none⟩ = some (.int .i64 (W i)) ∧ w.cell? ⟨g, i * 4 + 1, none⟩ = some (.int .i64 (H i)) ∧ w.cell? ⟨g, i * 4 + 2, none⟩ = some (.int .i64 (M i)) ∧ w.cell? ⟨g, i * 4 + 3, none⟩ = some (.slice (A i) (N i) (C i))

set_option maxRecDepth 100000 in
set_option maxHeartbeats 3200000 in
theorem IndexFunc_ras (g m c : Nat) (W H M : Nat → Int) (A : Nat → Option Addr) (N C : Nat → Nat) (w : World) (hm : m ≤ c) (hc : c ≤ 1000) (hg : g < w.heap.size) (hN : ∀ i, i < m → N i ≤ 9223372036854775807) (hR : RR w g m W H M A N C) :
    Calls Try.prog 63 #[.slice (some ⟨g, 0, none⟩) m c, .func (.func 47) #[] #[]] w fun e w' => (∃ r : Int, e = .returned (.int .i64 r) ∧ (0 ≤ r ↔ ∃ i, i < m ∧ 600 < N i)) ∧ Below w.heap.size w w' := by
  have eg := enters_few
  replace hR := Lib.hid hR
  go_enter Try.func63, Try.ntmps63
  go_wp2
  go_loopw [8] (fun i wr => ∃ k : Nat, k ≤ m ∧ i = .int .i64 k ∧ Below w.heap.size w wr ∧ Hid (∀ j, j < k → ¬ 600 < N j)) (fun i _ => m - (intOf i).toNat)
  case atStart => exact ⟨0, Nat.zero_le _, rfl, Below.refl _ _, Lib.hid fun j hj => absurd hj (Nat.not_lt_zero _)⟩
  case round =>
    obtain ⟨k, hk, rfl, hB, HA⟩ := hrel
    by_cases hlt : k < m
    · obtain ⟨c0, c1, c2, c3⟩ := hR.out k hlt
      have e0 := (hB.cell (p := ⟨g, k * 4, none⟩) hg).trans c0
      have e1 := (hB.cell (p := ⟨g, k * 4 + 1, none⟩) hg).trans c1
      have e2 := (hB.cell (p := ⟨g, k * 4 + 2, none⟩) hg).trans c2
      have e3 := (hB.cell (p := ⟨g, k * 4 + 3, none⟩) hg).trans c3
      have hNk := hN k hlt
      clear c0 c1 c2 c3
      obtain ⟨nk, hnk⟩ : ∃ nk, N k = nk := ⟨_, rfl⟩
      rw [hnk] at e3 hNk
      replace hnk := Lib.hid hnk
      obtain ⟨q, hq⟩ : ∃ q, k * 4 = q := ⟨_, rfl⟩
      rw [hq] at e0 e1 e2 e3
      by_cases h6 : 600 < nk
      · have hd : decide (600 < (nk : Int)) = true := by simp; omega
        have hcall := Lib.hid (fun w' : World => few1_any (W k) (H k) (M k) (A k) nk (C k) w' hd hNk)
        clear hd
        replace h6 := Lib.hid h6
        go_wp2_with (go_at_fn 47; refine (hcall.out _).mono ?_; rintro e w' ⟨rfl, hb2⟩)
        go_ret
        exact ⟨⟨_, rfl, ⟨fun _ => ⟨k, hlt, by rw [hnk.out]; exact h6.out⟩, fun _ => by omega⟩⟩, hB.trans (hb2.mono hB.size)⟩
      · have hd : decide (600 < (nk : Int)) = false := by simp; omega
        have hcall := Lib.hid (fun w' : World => few1_any (W k) (H k) (M k) (A k) nk (C k) w' hd hNk)
        clear hd
        replace h6 := Lib.hid h6
        go_wp2_with (go_at_fn 47; refine (hcall.out _).mono ?_; rintro e w' ⟨rfl, hb2⟩)
        exact ⟨⟨k + 1, hlt, by go_num, hB.trans (hb2.mono hB.size), Lib.hid fun j hj => (by
          by_cases e : j = k
          · rw [e, hnk.out]; exact h6.out
          · exact HA.out j (by omega))⟩, by simp [intOf]; omega⟩
    · obtain rfl : k = m := by omega
      go_wp2
      go_ret
      exact ⟨⟨_, rfl, ⟨fun h => absurd h (by omega), fun ⟨i, hi, h⟩ => absurd h (HA.out i hi)⟩⟩, hB⟩

theorem ContainsFunc_ras (g m c : Nat) (W H M : Nat → Int) (A : Nat → Option Addr) (N C : Nat → Nat) (w : World) (hm : m ≤ c) (hc : c ≤ 1000) (hg : g < w.heap.size) (hN : ∀ i, i < m → N i ≤ 9223372036854775807) (hR : RR w g m W H M A N C) :
    Calls Try.prog 46 #[.slice (some ⟨g, 0, none⟩) m c, .func (.func 47) #[] #[]] w fun e w' => (∃ b, e = .returned (.bool b) ∧ (b = true ↔ ∃ i, i < m ∧ 600 < N i)) ∧ Below w.heap.size w w' := by
  have hcon := Lib.hid (IndexFunc_ras g m c W H M A N C w hm hc hg hN hR)
  clear hN hR
  go_enter Try.func46, Try.ntmps46
  go_wp2_with (go_at_call 63; refine hcon.out.mono ?_; rintro e w' ⟨⟨r, rfl, hr⟩, hb2⟩; replace hr := Lib.hid hr)
  go_ret
  exact ⟨⟨_, rfl, by rw [← hr.out]; simp⟩, hb2⟩

/-- few: has no raster more than 600 pixels? -/
theorem few_any (g m c : Nat) (W H M : Nat → Int) (A : Nat → Option Addr) (N C : Nat → Nat) (w : World) (hm : m ≤ c) (hc : c ≤ 1000) (hg : g < w.heap.size) (hN : ∀ i, i < m → N i ≤ 9223372036854775807) (hR : RR w g m W H M A N C) {b : Bool} (hb : b = true ↔ ∀ i, i < m → N i ≤ 600) :
    Calls Try.prog 12 #[.slice (some ⟨g, 0, none⟩) m c] w fun e w' => e = .returned (.bool b) ∧ Below w.heap.size w w' := by
  have hcon := Lib.hid (ContainsFunc_ras g m c W H M A N C w hm hc hg hN hR)
  replace hb := Lib.hid hb
  clear hN hR
  go_enter Try.func12, Try.ntmps12
  go_wp2_with (go_at_call 46; refine hcon.out.mono ?_; rintro e w' ⟨⟨r, rfl, hr⟩, hb2⟩; replace hr := Lib.hid hr)
  go_ret
  refine ⟨ret_bool ?_, hb2⟩
  rw [Bool.eq_iff_iff, hb.out, Bool.not_eq_true', ← Bool.not_eq_true, hr.out]
  exact ⟨fun h i hi => Nat.not_lt.1 fun h6 => h ⟨i, hi, h6⟩, fun h ⟨i, hi, h6⟩ => absurd (h i hi) (by omega)⟩

theorem lit_sl (w : World) (L : List Int) {n : Nat} (hn : n = L.length) (hb : n ≤ 1000000) : Sl (w.alloc (.cells (cells L).toArray 3)) (some ⟨w.heap.size, 0, none⟩) n n L :=
  (Bl.new w L).sl0 hn (Nat.le_refl _) (by omega)

theorem ras_known : Ras 2 2 9 [1, 2, 3, 4] := ⟨⟨⟨by omega, by omega⟩, ⟨by omega, by omega⟩, by omega, by omega⟩, by decide, by decide⟩
theorem ras_zero : ¬ Ras 0 0 0 [] := fun h => by have := h.1; omega
theorem turned_known : turned 2 2 [1, 2, 3, 4] = [2, 4, 1, 3] := by decide
theorem psum_known : tab (2 + 1) (psum [1, 2, 3, 4] 2 2) = [0, 4, 10] := by decide
theorem eql_self (l : List Int) : eql l l = true := decide_eq_true rfl
theorem sEqual_self {A : Option Addr} {n c : Nat} {l : List Int} {A2 : Option Addr} {n2 c2 : Nat} {w : World} (h : Sl w A n c l) (h2 : Sl w A2 n2 c2 l) :
    Calls Try.prog 36 #[.slice A n c, .slice A2 n2 c2] w fun e w' => e = .returned (.bool true) ∧ Below w.heap.size w w' := eql_self l ▸ sEqual_any A n c l A2 n2 c2 l w h h2

set_option maxRecDepth 100000 in
set_option maxHeartbeats 3200000 in
/-- known. -/
theorem known_any (w : World) :
    Calls Try.prog 11 #[] w fun e w' => e = .returned (.bool true) ∧ Below w.heap.size w w' := by
  have hb0 := ((Below.refl w.heap.size w).alloc (Nat.le_refl _) (.cells #[.int .i64 1, .int .i64 2, .int .i64 3, .int .i64 4] 3)).alloc (by simp) (.cells #[.int .i64 2, .int .i64 2, .int .i64 9, .slice (some ⟨w.heap.size, 0, none⟩) 4 4] 24)
  have hs : Sl ((w.alloc (.cells #[.int .i64 1, .int .i64 2, .int .i64 3, .int .i64 4] 3)).alloc (.cells #[.int .i64 2, .int .i64 2, .int .i64 9, .slice (some ⟨w.heap.size, 0, none⟩) 4 4] 24)) (some ⟨w.heap.size, 0, none⟩) 4 4 [1, 2, 3, 4] := (lit_sl (n := 4) w [1, 2, 3, 4] rfl (by omega)).alloc _
  have k1 := RB.new (w.alloc (.cells #[.int .i64 1, .int .i64 2, .int .i64 3, .int .i64 4] 3)) 2 2 9 (some ⟨w.heap.size, 0, none⟩) 4 4
  simp only [World.size_alloc] at k1
  have ht := Turn_yes 2 2 9 _ _ _ _ _ hs ras_known
  have hi := fun W hb => Integral_yes 2 2 9 _ _ _ _ W (hs.below hb (Nat.le_refl _)) ras_known
  simp only [show (2 : Int).toNat = 2 from rfl, turned_known] at ht hi
  replace ht := Lib.hid ht
  replace hi := Lib.hid hi
  have hc := Lib.hid (fun W : World => Check_no (Sl.nil W) ras_zero)
  have tok1 : True := trivial
  go_enter Try.func11, Try.ntmps11
  go_wp2_with (first
    | (go_at_call 30; refine (ht.out).mono ?_; rintro e w1 ⟨A1, n1, c1, rfl, hs1, hb1⟩; have z1 := hb1.size; simp only [World.size_alloc] at hb1 z1; have hQ1 := hb0.trans (hb1.mono (by omega)); have hB1 := Below.alloc hb1 z1 (.cells #[.int .i64 2, .int .i64 2, .int .i64 9, .slice A1 n1 c1] 24); have k2 := RB.new w1 2 2 9 A1 n1 c1; have k1a := (k1.below hb1 (by omega)).alloc (.cells #[.int .i64 2, .int .i64 2, .int .i64 9, .slice A1 n1 c1] 24); obtain ⟨⟨d0, d1, d2, d3⟩, f0, f1, f2, f3⟩ := k1a.cells)
    | (go_at_call 41; refine (hi.out _ (by simpa using hB1)).mono ?_; rintro e w2 ⟨T, G, rfl, htb, hG, hT, hrows, hb2⟩; replace k2 := k2.below hb2 (by simp); replace hs1 := (hs1.alloc (.cells #[.int .i64 2, .int .i64 2, .int .i64 9, .slice A1 n1 c1] 24)).below hb2 (Nat.le_refl _); have hB1 := (hQ1.alloc hQ1.size (.cells #[.int .i64 2, .int .i64 2, .int .i64 9, .slice A1 n1 c1] 24)).trans (hb2.mono (by have := hQ1.size; simp; omega)); clear hb2 d0 d1 d2 d3 f0 f1 f2 f3; obtain ⟨⟨d0, d1, d2, d3⟩, f0, f1, f2, f3⟩ := k2.cells)
    | (go_at_call 36; have _t := tok1; have hs2 : Sl (w2.alloc (.cells #[.int .i64 2, .int .i64 4, .int .i64 1, .int .i64 3] 3)) (some ⟨w2.heap.size, 0, none⟩) 4 4 [2, 4, 1, 3] := lit_sl (n := 4) w2 [2, 4, 1, 3] rfl (by omega); refine (sEqual_self (hs1.alloc _) hs2).mono ?_; rintro e w3 ⟨rfl, hb3⟩; clear tok1 hs2; replace htb := (htb.alloc _).below hb3 (by have := htb.lt; simp; omega); replace hrows := (hrows.alloc _).below hb3; have hB2 := (hB1.alloc hB1.size _).trans (hb3.mono (by have := hB1.size; simp; omega)); have hcell := htb.cell (j := 2) (by omega); simp only [rowV] at hcell; obtain ⟨-, -, hbl⟩ := hrows 2 (by omega); rw [psum_known] at hbl; obtain ⟨g2, hg2⟩ : ∃ g2, G[2]'(by omega) = g2 := ⟨_, rfl⟩; rw [hg2] at hcell hbl; clear hg2)
    | (go_at_call 36; have hs2 : Sl (w3.alloc (.cells #[.int .i64 0, .int .i64 4, .int .i64 10] 3)) (some ⟨w3.heap.size, 0, none⟩) 3 3 [0, 4, 10] := lit_sl (n := 3) w3 [0, 4, 10] rfl (by omega); refine (sEqual_self ((hbl.alloc _).sl0 (n := 3) (c := 3) rfl (by omega) (by omega)) hs2).mono ?_; rintro e w4 ⟨rfl, hb4⟩; have hB3 := (hB2.alloc hB2.size _).trans (hb4.mono (by have := hB2.size; simp; omega)))
    | (go_at_call 13; refine (hc.out _).mono ?_; rintro e w5 ⟨rfl, hb5⟩))
  go_ret
  exact ⟨rfl, hB3.trans (hb5.mono hB3.size)⟩

end Go.Proofs.Ytehnemdifkjhcaa
