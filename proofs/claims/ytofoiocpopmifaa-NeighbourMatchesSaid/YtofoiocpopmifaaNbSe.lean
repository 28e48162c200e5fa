/-
  Walk: second of the law.
-/
import Derived.Test.YtofoiocpopmifaaNbNe
set_option linter.unusedSimpArgs false
set_option linter.unusedVariables false
namespace Go.Proofs.Ytofoiocpopmifaa
open Go.RowKit

/-- The least distance among the first m words but one, -1 if there is none. -/
def SecP (l : List Nat) (i x m : Nat) (s : Int) : Prop :=
  (s = -1 ∧ (∀ j, j < m → j = i)) ∨ (0 ≤ s ∧ s ≤ 64 ∧ (∃ j, j < m ∧ j ≠ i ∧ (dst (nw l j) x : Int) = s) ∧ ∀ j, j < m → j ≠ i → s ≤ (dst (nw l j) x : Int))
theorem SecP.start (l : List Nat) (i x : Nat) : SecP l i x 0 (-1) := .inl ⟨rfl, fun j hj => absurd hj (Nat.not_lt_zero _)⟩
theorem SecP.bound {l : List Nat} {i x m : Nat} {s : Int} (h : SecP l i x m s) : -1 ≤ s ∧ s ≤ 64 := by
  rcases h with ⟨rfl, _⟩ | ⟨h1, h2, _⟩ <;> omega
theorem SecP.same {l : List Nat} {i x m : Nat} {s : Int} (h : SecP l i x m s) (hm : m = i) : SecP l i x (m + 1) s := by
  rcases h with ⟨h1, h2⟩ | ⟨h1, h2, ⟨j, h3, h4, h5⟩, h6⟩
  · exact .inl ⟨h1, fun j hj => by
      by_cases e : j = m
      · omega
      · exact h2 j (by omega)⟩
  · exact .inr ⟨h1, h2, ⟨j, by omega, h4, h5⟩, fun j hj hne => h6 j (by omega) hne⟩
theorem SecP.keep {l : List Nat} {i x m : Nat} {s : Int} (h : SecP l i x m s) (h0 : ¬ s < 0) (hle : ¬ (dst (nw l m) x : Int) < s) : SecP l i x (m + 1) s := by
  rcases h with ⟨h1, h2⟩ | ⟨h1, h2, ⟨j, h3, h4, h5⟩, h6⟩
  · omega
  · exact .inr ⟨h1, h2, ⟨j, by omega, h4, h5⟩, fun j hj hne => by
      by_cases e : j = m
      · rw [e]; omega
      · exact h6 j (by omega) hne⟩
theorem SecP.take {l : List Nat} {i x m : Nat} {s : Int} (h : SecP l i x m s) (hm : m ≠ i) (hlt : s < 0 ∨ (dst (nw l m) x : Int) < s) : SecP l i x (m + 1) (dst (nw l m) x : Int) := by
  have hd := dst_le (nw l m) x
  refine .inr ⟨by omega, by omega, ⟨m, by omega, hm, rfl⟩, fun j hj hne => ?_⟩
  by_cases e : j = m
  · rw [e]; exact Int.le_refl _
  · rcases h with ⟨h1, h2⟩ | ⟨h1, h2, _, h6⟩
    · exact absurd (h2 j (by omega)) hne
    · have := h6 j (by omega) hne
      rcases hlt with h | h <;> omega

set_option maxRecDepth 100000 in
set_option maxHeartbeats 1600000 in
theorem second_any (A : Option Addr) (n c : Nat) (l : List Nat) (i x : Nat) (w : World) (h : WS w A n c l) (hx : x < 2 ^ 64) (hn : n ≤ 1000000) (hi : i ≤ 1000000) :
    Calls Try.prog 47 #[.slice A n c, .int .i64 (i : Int), .int .u64 (x : Int)] w fun e w' => (∃ s : Int, e = .returned (.int .i64 s) ∧ SecP l i x l.length s) ∧ w = w' := by
  have hcap := h.le_cap
  have hcl := h.cap_le
  have hlen := Lib.hid h.len
  have hW := Lib.hid h.2
  have hs0 := Lib.hid h
  have hxh := Lib.hid hx
  clear h hx
  go_enter Try.func47, Try.ntmps47
  go_wp2
  go_loopw [7, 12] (fun sv k wr => ∃ (m : Nat) (s : Int), m ≤ n ∧ k = .int .i64 (m : Int) ∧ sv = .int .i64 s ∧ Hid (SecP l i x m s) ∧ (-1 ≤ s ∧ s ≤ 64) ∧ w = wr) (fun _ k _ => n - (intOf k).toNat)
  case atStart => exact ⟨0, -1, Nat.zero_le _, rfl, rfl, Lib.hid (SecP.start l i x), by omega, rfl⟩
  case round =>
    obtain ⟨m, s, hm, rfl, rfl, hsec, hsb, rfl⟩ := hrel
    by_cases hlt : m < n
    · have hki : (m : Int) < (n : Int) := by omega
      obtain ⟨bb, off, rfl, hbw, hc⟩ := hs0.out.at_ (by omega)
      have hcm := hc m hlt
      obtain ⟨y, hy⟩ : ∃ y, nw l m = y := ⟨_, rfl⟩
      rw [hy] at hcm
      obtain ⟨d, hd⟩ : ∃ d, dst y x = d := ⟨_, rfl⟩
      have q2 := Lib.hid (fun W => distance_any y x (by rw [← hy]; exact hW.out.nw m) hxh.out W hd)
      have hdl : (dst (nw l m) x : Int) = (d : Int) := by rw [hy, hd]
      replace hy := Lib.hid hy
      replace hd := Lib.hid hd
      clear hc
      by_cases hmi : m = i
      · have hd1 : ((m : Int) != (i : Int)) = false := by simp [hmi]
        have hnx := Lib.hid (hsec.out.same hmi)
        replace hmi := Lib.hid hmi
        replace hdl := Lib.hid hdl
        go_wp2_with (go_at_call 17; refine (q2.out _).mono ?_; rintro e w' ⟨rfl, rfl⟩)
        go_roundw
        case rel => exact ⟨m + 1, s, hlt, by go_num, rfl, hnx, hsb, trivial⟩
        case measure => simp [intOf]; omega
      · have hd1 : ((m : Int) != (i : Int)) = true := by rw [bne_iff_ne]; omega
        by_cases hs : s < 0
        · have hnx := hsec.out.take hmi (.inl hs)
          rw [hdl] at hnx
          replace hnx := Lib.hid hnx
          have hd64 : (d : Int) ≤ 64 := by rw [← hdl]; have := dst_le (nw l m) x; omega
          replace hmi := Lib.hid hmi
          replace hdl := Lib.hid hdl
          go_wp2_with (go_at_call 17; refine (q2.out _).mono ?_; rintro e w' ⟨rfl, rfl⟩)
          go_roundw
          case rel => exact ⟨m + 1, (d : Int), hlt, by go_num, rfl, hnx, by omega, trivial⟩
          case measure => simp [intOf]; omega
        · by_cases hds : (d : Int) < s
          · have hnx := hsec.out.take hmi (.inr (by rw [hdl]; exact hds))
            rw [hdl] at hnx
            replace hnx := Lib.hid hnx
            have hd64 : (d : Int) ≤ 64 := by omega
            replace hmi := Lib.hid hmi
            replace hdl := Lib.hid hdl
            go_wp2_with (go_at_call 17; refine (q2.out _).mono ?_; rintro e w' ⟨rfl, rfl⟩)
            go_roundw
            case rel => exact ⟨m + 1, (d : Int), hlt, by go_num, rfl, hnx, by omega, trivial⟩
            case measure => simp [intOf]; omega
          · have hnx := Lib.hid (hsec.out.keep hs (by rw [hdl]; exact hds))
            replace hmi := Lib.hid hmi
            replace hdl := Lib.hid hdl
            go_wp2_with (go_at_call 17; refine (q2.out _).mono ?_; rintro e w' ⟨rfl, rfl⟩)
            go_roundw
            case rel => exact ⟨m + 1, s, hlt, by go_num, rfl, hnx, hsb, trivial⟩
            case measure => simp [intOf]; omega
    · obtain rfl : m = n := by omega
      have hki : ¬ (m : Int) < (m : Int) := by omega
      go_wp2
      go_ret
      exact ⟨⟨s, rfl, by rw [← hlen.out]; exact hsec.out⟩, rfl⟩

end Go.Proofs.Ytofoiocpopmifaa
