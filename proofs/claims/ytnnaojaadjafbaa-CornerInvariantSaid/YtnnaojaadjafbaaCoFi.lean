/-
  Walks: the stable sort of at most one corner; Find of package corner, where it refuses, and where there is at most one corner.
-/
import Derived.Test.YtnnaojaadjafbaaCoZ
set_option linter.unusedSimpArgs false
set_option linter.unusedVariables false
namespace Go.Proofs.Ytnnaojaadjafbaa
open Go.RowKit

theorem insertion_tiny (v f : Value) (a b : Nat) (w : World) (h : b ≤ a + 1) (ha : a ≤ 1000000) :
    Calls Try.prog 65 #[v, .int .i64 (a : Int), .int .i64 (b : Int), f] w fun e w' => e = .returned (.tuple #[]) ∧ w = w' := by
  have h1 : ¬ (a : Int) + 1 < (b : Int) := by omega
  go_enter Try.func65, Try.ntmps65
  go_wp2
  go_loopw [8] (fun i wr => i = .int .i64 ((a : Int) + 1) ∧ w = wr) (fun _ _ => 0)
  case atStart => exact ⟨by first | rfl | simp, rfl⟩
  case round =>
    obtain ⟨rfl, rfl⟩ := hrel
    go_wp2
    (first | (go_end0; exact ⟨rfl, rfl⟩) | exact bodyPost_ret (results_none rfl _ _ _) rfl ⟨rfl, rfl⟩)

theorem stable_tiny (v f : Value) (n : Nat) (w : World) (h : n ≤ 1) :
    Calls Try.prog 60 #[v, .int .i64 (n : Int), f] w fun e w' => e = .returned (.tuple #[]) ∧ w = w' := by
  have hi := Lib.hid (insertion_tiny v f 0 n w (by omega) (by omega))
  have h1 : ¬ (20 : Int) ≤ (n : Int) := by omega
  have h2 : ¬ (20 : Int) < (n : Int) := by omega
  have h3 : ((0 : Nat) : Int) = 0 := rfl
  rw [h3] at hi
  go_enter Try.func60, Try.ntmps60
  go_wp2
  go_loopw [7, 8] (fun a b wr => a = .int .i64 0 ∧ b = .int .i64 20 ∧ w = wr) (fun _ _ _ => 0)
  case atStart => exact ⟨rfl, rfl, rfl⟩
  case round =>
    obtain ⟨rfl, rfl, rfl⟩ := hrel
    go_wp2_with (go_at_call 65; refine (hi.out).mono ?_; rintro e w' ⟨rfl, rfl⟩)
    go_loopw [6] (fun a wr => a = .int .i64 20 ∧ w = wr) (fun _ _ => 0)
    case atStart => exact ⟨rfl, rfl⟩
    case round =>
      obtain ⟨rfl, rfl⟩ := hrel
      go_wp2
      (first | (go_end0; exact ⟨rfl, rfl⟩) | exact bodyPost_ret (results_none rfl _ _ _) rfl ⟨rfl, rfl⟩)

theorem sort_tiny (A : Option Addr) (n c : Nat) (f : Value) (w : World) (h : n ≤ 1) :
    Calls Try.prog 39 #[.slice A n c, f] w fun e w' => e = .returned (.tuple #[]) ∧ w = w' := by
  have hi := Lib.hid (stable_tiny (.slice A n c) f n w h)
  go_enter Try.func39, Try.ntmps39
  go_wp2_with (go_at_call 60; refine (hi.out).mono ?_; rintro e w' ⟨rfl, rfl⟩)
  (first | (go_end0; exact ⟨rfl, rfl⟩) | exact bodyPost_ret (results_none rfl _ _ _) rfl ⟨rfl, rfl⟩)

theorem Bl.sl0 {w : World} {g n c : Nat} {L : List Int} (h : Bl w g L) (hn : n = L.length) (hc : n ≤ c) (hm : c ≤ 9223372036854775807) : Sl w (some ⟨g, 0, none⟩) n c L :=
  ⟨hn, hc, hm, fun _ => ⟨g, 0, rfl, fun i hi => by rw [Nat.zero_add]; exact h.cell (by omega)⟩⟩

theorem sc_bd {a : Nat} {P : List Int} (h : Grey P) (p : Nat) : In54 (sc a P p) := by
  obtain ⟨⟨b1, b2⟩, ⟨b3, b4⟩, b5, b6⟩ := sABC_bd h p 9 (a := a)
  have g1 := mul_bd (x := sA a P p 9) (y := sC a P p 9) (B := 9418761) (by decide) (by omega) (by omega) (by omega) (by omega)
  have g2 := mul_bd (x := sB a P p 9) (y := sB a P p 9) (B := 9418761) (by decide) (by omega) (by omega) (by omega) (by omega)
  have g3 := mul_bd (x := sA a P p 9 + sC a P p 9) (y := sA a P p 9 + sC a P p 9) (B := 18837522) (by decide) (by omega) (by omega) (by omega) (by omega)
  unfold In54 sc scF
  omega
theorem scores_mag {a b : Nat} {P : List Int} (h : Grey P) : Mag (scoresL a b P) := fun i => by
  by_cases hi : i < a * b
  · unfold scoresL
    rw [nth_tab hi]
    unfold scoreAt
    split
    · exact sc_bd h i
    · unfold In54; omega
  · have : nth (scoresL a b P) i = 0 := by simp [nth, List.getD, List.getElem?_eq_none (show (scoresL a b P).length ≤ i by rw [scoresL, tab_length]; omega)]
    rw [this]
    unfold In54; omega
theorem scores_inner {a b : Nat} {P : List Int} {t : Int} (ht : 0 ≤ t) : Inner a (a * b) (scoresL a b P) t := fun i hi h => by
  unfold scoresL at h
  rw [nth_tab hi] at h
  unfold scoreAt at h
  split at h
  · rename_i hm
    obtain ⟨⟨h1, h2⟩, h3, h4⟩ := hm
    have hd := mod_div_nat i a (by omega)
    have e1 := Nat.mul_le_mul_right a h3
    have e2 := Nat.mul_le_mul_right a h4
    rw [Nat.add_mul, Nat.mul_comm b a] at e2
    omega
  · omega

theorem Find_no (W H M : Int) (A : Option Addr) (n c : Nat) (P : List Int) (t most : Int) (w : World) (h : Sl w A n c P) {r : Int} (hr : AskR W H M P r) (hr0 : r ≠ 0) :
    Calls Try.prog 16 #[.agg #[.int .i64 W, .int .i64 H, .int .i64 M, .slice A n c], .int .i64 t, .int .i64 most] w fun e w' => e = .returned (.tuple #[.slice none 0 0, .int .i64 r]) ∧ Below w.heap.size w w' := by
  have hb0 := (Below.refl w.heap.size w).alloc (Nat.le_refl _) (.cells #[.int .i64 W, .int .i64 H, .int .i64 M, .slice A n c] 24)
  have hs := h.alloc (.cells #[.int .i64 W, .int .i64 H, .int .i64 M, .slice A n c] 24)
  have hc := Lib.hid (Scores_no W H M A n c P _ hs hr hr0)
  have hne : (r != 0) = true := by simp [hr0]
  replace hr := Lib.hid hr
  replace hr0 := Lib.hid hr0
  clear h hs
  go_enter Try.func16, Try.ntmps16
  go_wp2_with (go_at_call 13; refine (hc.out).mono ?_; rintro e w1 ⟨rfl, hb1⟩)
  exact bodyPost_ret (v := .tuple #[.slice none 0 0, .int .i64 r]) (by simp [results, Try.results16, go_sem]) rfl ⟨rfl, hb0.trans (hb1.mono (by simp))⟩

theorem Find_range (W H M : Int) (A : Option Addr) (n c : Nat) (P : List Int) (t most : Int) (w : World) (h : Sl w A n c P) (hr : Scr W H M P) (hbad : ¬ (0 ≤ t ∧ 0 ≤ most ∧ most ≤ 4096)) :
    Calls Try.prog 16 #[.agg #[.int .i64 W, .int .i64 H, .int .i64 M, .slice A n c], .int .i64 t, .int .i64 most] w fun e w' => e = .returned (.tuple #[.slice none 0 0, .int .i64 2]) ∧ Below w.heap.size w w' := by
  have hb0 := (Below.refl w.heap.size w).alloc (Nat.le_refl _) (.cells #[.int .i64 W, .int .i64 H, .int .i64 M, .slice A n c] 24)
  have hs := h.alloc (.cells #[.int .i64 W, .int .i64 H, .int .i64 M, .slice A n c] 24)
  have hc := Lib.hid (Scores_ok W H M A n c P _ hs hr)
  by_cases ht : t < 0
  · replace hr := Lib.hid hr
    clear h hs hbad
    go_enter Try.func16, Try.ntmps16
    go_wp2_with (go_at_call 13; refine (hc.out).mono ?_; rintro e w1 ⟨g, rfl, hg, hbl, hb1⟩)
    exact bodyPost_ret (v := .tuple #[.slice none 0 0, .int .i64 2]) (by simp [results, Try.results16, go_sem]) rfl ⟨rfl, hb0.trans (hb1.mono (by simp))⟩
  · have ht0 : 0 ≤ t := by omega
    have k1 := Lib.hid (cwithin_at (a := most) (lo := 0) (hi := 4096) (b := false) (win_no.2 fun e => hbad ⟨ht0, e⟩))
    replace hr := Lib.hid hr
    clear h hs hbad
    go_enter Try.func16, Try.ntmps16
    go_wp2_with (first | (go_at_call 13; refine (hc.out).mono ?_; rintro e w1 ⟨g, rfl, hg, hbl, hb1⟩) | (go_at_call 37; refine (k1.out _).mono ?_; rintro e w' ⟨rfl, rfl⟩))
    exact bodyPost_ret (v := .tuple #[.slice none 0 0, .int .i64 2]) (by simp [results, Try.results16, go_sem]) rfl ⟨rfl, hb0.trans (hb1.mono (by simp))⟩

end Go.Proofs.Ytnnaojaadjafbaa
