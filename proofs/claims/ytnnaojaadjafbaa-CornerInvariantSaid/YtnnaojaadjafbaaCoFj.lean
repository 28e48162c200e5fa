/-
  Walk: Find of package corner, where there is at most one corner.
-/
import Derived.Test.YtnnaojaadjafbaaCoFi
set_option linter.unusedSimpArgs false
set_option linter.unusedVariables false
namespace Go.Proofs.Ytnnaojaadjafbaa
open Go.RowKit

set_option maxRecDepth 100000 in
set_option maxHeartbeats 1600000 in
theorem Find_few (W H M : Int) (A : Option Addr) (n c : Nat) (P : List Int) (t most : Int) (w : World) (h : Sl w A n c P) (hr : Scr W H M P) (ht : 0 ≤ t) (hm0 : 0 ≤ most) (hm1 : most ≤ 4096) {L : List Cor} (hL : corsF W.toNat (scoresL W.toNat H.toNat P) t (W.toNat * H.toNat) = L) (hL1 : L.length ≤ 1) {k : Nat} (hk : min most (L.length : Int) = (k : Int)) :
    Calls Try.prog 16 #[.agg #[.int .i64 W, .int .i64 H, .int .i64 M, .slice A n c], .int .i64 t, .int .i64 most] w fun e w' => ∃ A' c', e = .returned (.tuple #[.slice A' k c', .int .i64 0]) ∧ CS w' A' k c' (L.take k) ∧ Below w.heap.size w w' := by
  have hb0 := (Below.refl w.heap.size w).alloc (Nat.le_refl _) (.cells #[.int .i64 W, .int .i64 H, .int .i64 M, .slice A n c] 24)
  have hs := h.alloc (.cells #[.int .i64 W, .int .i64 H, .int .i64 M, .slice A n c] 24)
  have hc := Lib.hid (Scores_ok W H M A n c P _ hs hr)
  have k0 := RB.new w W H M A n c
  obtain ⟨hr, hM⟩ := hr
  have hg : Grey P := fun g hg => by have := hr.2.2 g hg; omega
  obtain ⟨a, b, rfl, rfl, ⟨ha1, ha2⟩, ⟨hb1, hb2⟩, ⟨hM1, hM2⟩, hab, hl1, hl2⟩ := hr.nat
  simp only [Int.toNat_natCast] at hc hL
  have hnab : a * b = n := by rw [h.len, hab]
  have hn4 : n ≤ 4096 := by rw [← hnab]; exact Nat.mul_le_mul ha2 hb2
  have k1 := Lib.hid (cwithin_at (a := most) (lo := 0) (hi := 4096) (b := true) (win_iff.2 ⟨hm0, hm1⟩))
  have hmag := scores_mag (a := a) (b := b) hg
  have hinn : Inner a n (scoresL a b P) t := by rw [← hnab]; exact scores_inner ht
  rw [hnab] at hL
  have hlenS : n = (scoresL a b P).length := by rw [scoresL, tab_length, hnab]
  obtain ⟨S, hS⟩ : ∃ S, scoresL a b P = S := ⟨_, rfl⟩
  rw [hS] at hc hmag hinn hL hlenS
  have hcor := Lib.hid (fun g W hW => corners_any a (some ⟨g, 0, none⟩) n n S t W hW ha2 hn4 hmag hinn)
  simp only [hL] at hcor
  obtain ⟨m, hm⟩ : ∃ m, L.length = m := ⟨_, rfl⟩
  rw [hm] at hL1 hk hcor
  have hsort := Lib.hid (fun A' c' (f : Value) W => sort_tiny A' m c' f W hL1)
  have hkm : k ≤ m := by omega
  replace hlenS := Lib.hid hlenS
  have htk : Hid ((L.take k).length = k) := Lib.hid (by rw [List.length_take]; omega)
  replace hr := Lib.hid hr
  replace hS := Lib.hid hS
  replace hL := Lib.hid hL
  replace hm := Lib.hid hm
  clear h hs hmag hinn hg hl1 hl2 hab hnab
  have ht' : ¬ t < 0 := by omega
  obtain ⟨mo, rfl⟩ : ∃ mo : Nat, most = (mo : Int) := ⟨most.toNat, by omega⟩
  have hcase : mo ≤ m ∧ k = mo ∨ m < mo ∧ k = m := by omega
  clear hk
  rcases hcase with ⟨h1, rfl⟩ | ⟨h1, rfl⟩
  all_goals
    go_enter Try.func16, Try.ntmps16
    go_wp2_with (first
      | (go_at_call 13; refine (hc.out).mono ?_; rintro e w1 ⟨g, rfl, hg, hbl, hb3⟩; obtain ⟨⟨d0, d1, d2, d3⟩, f0, f1, f2, f3⟩ := (k0.below hb3 (by simp)).cells)
      | (go_at_call 37; refine (k1.out _).mono ?_; rintro e w' ⟨rfl, rfl⟩)
      | (go_at_call 38; refine (hcor.out g _ (hbl.sl0 hlenS.out (Nat.le_refl _) (by omega))).mono ?_; rintro e w2 ⟨v, rfl, hown, hb4⟩; obtain ⟨A2, c2, rfl, hcs, hA2, hBA⟩ := own_form hown; have hcap2 := hcs.2.1; have hcl2 := hcs.2.2.1; replace hown := Lib.hid hown; replace hcs := Lib.hid hcs)
      | (go_at_call 39; refine (hsort.out _ _ _ _).mono ?_; rintro e w3 ⟨rfl, rfl⟩))
    have hz3 := hb3.size
    simp only [World.size_alloc] at hz3
    have hBw := (hb0.trans (hb3.mono (by simp))).trans (hb4.mono (by omega))
    refine bodyPost_ret (v := .tuple #[.slice A2 k c2, .int .i64 0]) (by simp [results, Try.results16, go_sem]) rfl ⟨A2, c2, rfl, ?_, hBw⟩
    exact CS.take hcs.out (by omega)

end Go.Proofs.Ytnnaojaadjafbaa
