/-
  Walks: nearest of package neighbour and of the law; isLong, within; Nearest.
-/
import Derived.Test.YtofoiocpopmifaaNbDi
set_option linter.unusedSimpArgs false
set_option linter.unusedVariables false
namespace Go.Proofs.Ytofoiocpopmifaa
open Go.RowKit

theorem WS.cell {w : World} {b off n c : Nat} {l : List Nat} (h : WS w (some ⟨b, off, none⟩) n c l) {i : Nat} (hi : i < n) : w.cell? ⟨b, off + i, none⟩ = some (.int .u64 (nw l i : Int)) := by
  obtain ⟨b', off', e, -, hc⟩ := h.at_ (by omega)
  cases e
  exact hc i hi
/-- Among the first m words: the index of the nearest one, and its distance. -/
def NP (l : List Nat) (x m k d : Nat) : Prop := k < l.length ∧ dst (nw l k) x = d ∧ (∀ j, j < m → d ≤ dst (nw l j) x) ∧ ∀ j, j < k → d < dst (nw l j) x
theorem NP.start {l : List Nat} {x d : Nat} (h : 0 < l.length) (hd : dst (nw l 0) x = d) : NP l x 0 0 d := ⟨h, hd, fun j hj => absurd hj (Nat.not_lt_zero _), fun j hj => absurd hj (Nat.not_lt_zero _)⟩
theorem NP.keep {l : List Nat} {x m k d e : Nat} (h : NP l x m k d) (he : dst (nw l m) x = e) (hle : ¬ e < d) : NP l x (m + 1) k d :=
  ⟨h.1, h.2.1, fun j hj => by
    by_cases e' : j = m
    · rw [e', he]; omega
    · exact h.2.2.1 j (by omega), h.2.2.2⟩
theorem NP.take {l : List Nat} {x m k d e : Nat} (h : NP l x m k d) (hm : m < l.length) (he : dst (nw l m) x = e) (hlt : e < d) : NP l x (m + 1) m e :=
  ⟨hm, he, fun j hj => by
    by_cases e' : j = m
    · rw [e', he]; omega
    · have := h.2.2.1 j (by omega); omega, fun j hj => by have := h.2.2.1 j hj; omega⟩
/-- The nearest word. -/
def Near (l : List Nat) (x k d : Nat) : Prop := NP l x l.length k d
theorem Near.unique {l : List Nat} {x k d k' d' : Nat} (h : Near l x k d) (h' : Near l x k' d') : k = k' ∧ d = d' := by
  have a1 := h.2.2.1 k' h'.1
  have a2 := h'.2.2.1 k h.1
  rw [h'.2.1] at a1
  rw [h.2.1] at a2
  have hd : d = d' := by omega
  refine ⟨?_, hd⟩
  rcases Nat.lt_trichotomy k k' with h1 | h1 | h1
  · have := h'.2.2.2 k h1; rw [h.2.1] at this; omega
  · exact h1
  · have := h.2.2.2 k' h1; rw [h'.2.1] at this; omega
theorem Near.le64 {l : List Nat} {x k d : Nat} (h : Near l x k d) : d ≤ 64 := by rw [← h.2.1]; exact dst_le _ _
theorem NP.le64 {l : List Nat} {x m k d : Nat} (h : NP l x m k d) : d ≤ 64 := by rw [← h.2.1]; exact dst_le _ _

set_option maxHeartbeats 1600000 in
theorem nearest_any (A : Option Addr) (n c : Nat) (l : List Nat) (x : Nat) (w : World) (h : WS w A n c l) (hx : x < 2 ^ 64) (h0 : 0 < n) (hn : n ≤ 1000000) :
    Calls Try.prog 37 #[.slice A n c, .int .u64 (x : Int)] w fun e w' => (∃ k d : Nat, e = .returned (.tuple #[.int .i64 (k : Int), .int .i64 (d : Int)]) ∧ Near l x k d) ∧ w = w' := by
  have hcap := h.le_cap
  have hcl := h.cap_le
  have hlen := Lib.hid h.len
  have hW := h.2
  obtain ⟨b, off, rfl, hbw, hc⟩ := h.at_ h0
  obtain ⟨y0, hy0⟩ : ∃ y, nw l 0 = y := ⟨_, rfl⟩
  have hc0 := hc 0 h0
  rw [hy0, Nat.add_zero] at hc0
  obtain ⟨d0, hd0⟩ : ∃ d, dst y0 x = d := ⟨_, rfl⟩
  have k0 := Lib.hid (fun W => Distance_any y0 x (by rw [← hy0]; exact hW.nw 0) hx W hd0)
  have hst : Hid (NP l x 0 0 d0) := Lib.hid (NP.start (by rw [← hlen.out]; exact h0) (by rw [hy0]; exact hd0))
  have hc' := Lib.hid hc
  have hW' := Lib.hid hW
  have hxh := Lib.hid hx
  replace hy0 := Lib.hid hy0
  replace hd0 := Lib.hid hd0
  clear hc h hW hx
  go_enter Try.func37, Try.ntmps37
  go_wp2_with (go_at_call 16; refine (k0.out _).mono ?_; rintro e w' ⟨rfl, rfl⟩)
  go_loopw [16, 4, 5] (fun i a b' wr => ∃ m k d : Nat, m ≤ n ∧ i = .int .i64 (m : Int) ∧ a = .int .i64 (k : Int) ∧ b' = .int .i64 (d : Int) ∧ Hid (NP l x m k d) ∧ w = wr) (fun i _ _ _ => n - (intOf i).toNat)
  case atStart => exact ⟨0, 0, d0, Nat.zero_le _, rfl, rfl, rfl, hst, rfl⟩
  case round =>
    obtain ⟨m, k, d, hm, rfl, rfl, rfl, hNP, rfl⟩ := hrel
    by_cases hlt : m < n
    · have hki : (m : Int) < (n : Int) := by omega
      obtain ⟨y, hy⟩ : ∃ y, nw l m = y := ⟨_, rfl⟩
      have hcm := hc'.out m hlt
      rw [hy] at hcm
      obtain ⟨e, he⟩ : ∃ e, dst y x = e := ⟨_, rfl⟩
      have k1 := Lib.hid (fun W => Distance_any y x (by rw [← hy]; exact hW'.out.nw m) hxh.out W he)
      have he' : Hid (dst (nw l m) x = e) := Lib.hid (by rw [hy]; exact he)
      replace hy := Lib.hid hy
      replace he := Lib.hid he
      clear hc0
      by_cases hed : e < d
      · have hedi : (e : Int) < (d : Int) := by omega
        have hnx := Lib.hid (hNP.out.take (by rw [← hlen.out]; exact hlt) he'.out hed)
        go_wp2_with (go_at_call 16; refine (k1.out _).mono ?_; rintro e w' ⟨rfl, rfl⟩)
        go_roundw
        case rel => exact ⟨m + 1, m, e, hlt, by go_num, rfl, rfl, hnx, trivial⟩
        case measure => simp [intOf]; omega
      · have hedi : ¬ (e : Int) < (d : Int) := by omega
        have hnx := Lib.hid (hNP.out.keep he'.out hed)
        go_wp2_with (go_at_call 16; refine (k1.out _).mono ?_; rintro e w' ⟨rfl, rfl⟩)
        go_roundw
        case rel => exact ⟨m + 1, k, d, hlt, by go_num, rfl, rfl, hnx, trivial⟩
        case measure => simp [intOf]; omega
    · obtain rfl : m = n := by omega
      have hki : ¬ (m : Int) < (m : Int) := by omega
      clear hc0
      go_wp2
      exact bodyPost_ret (v := .tuple #[.int .i64 (k : Int), .int .i64 (d : Int)]) (by simp [results, Try.results37, go_sem]) rfl ⟨⟨k, d, rfl, by unfold Near; rw [← hlen.out]; exact hNP.out⟩, rfl⟩

set_option maxHeartbeats 3200000 in
theorem lnearest_any (A : Option Addr) (n c : Nat) (l : List Nat) (x : Nat) (w : World) (h : WS w A n c l) (hx : x < 2 ^ 64) (h0 : 0 < n) (hn : n ≤ 1000000) :
    Calls Try.prog 19 #[.slice A n c, .int .u64 (x : Int)] w fun e w' => (∃ k d : Nat, e = .returned (.tuple #[.int .i64 (k : Int), .int .i64 (d : Int)]) ∧ Near l x k d) ∧ Below w.heap.size w w' := by
  have hcap := h.le_cap
  have hcl := h.cap_le
  have hlen := Lib.hid h.len
  have hW := h.2
  obtain ⟨b, off, rfl, hbw, hc⟩ := h.at_ h0
  obtain ⟨d0, hd0⟩ : ∃ d, dst (nw l 0) x = d := ⟨_, rfl⟩
  have hst : Hid (NP l x 0 0 d0) := Lib.hid (NP.start (by rw [← hlen.out]; exact h0) hd0)
  have hW' := Lib.hid hW
  have hxh := Lib.hid hx
  replace hd0 := Lib.hid hd0
  clear hc hW hx
  go_enter Try.func19, Try.ntmps19
  go_wp2
  go_loopw [11, 6] (fun i a wr => ∃ m k d : Nat, m ≤ n ∧ i = .int .i64 (m : Int) ∧ a = .int .i64 (k : Int) ∧ Hid (NP l x m k d) ∧ WS wr (some ⟨b, off, none⟩) n c l ∧ Below w.heap.size w wr) (fun i _ _ => n - (intOf i).toNat)
  case atStart => exact ⟨0, 0, d0, Nat.zero_le _, rfl, rfl, hst, h, Below.refl _ _⟩
  case round =>
    clear h
    obtain ⟨m, k, d, hm, rfl, rfl, hNP, hS, hB⟩ := hrel
    have hkl : k < n := by rw [hlen.out]; exact hNP.out.1
    have hki' : (k : Int) < (n : Int) := by omega
    obtain ⟨z, hz⟩ : ∃ z, nw l k = z := ⟨_, rfl⟩
    have hcz := hS.cell hkl
    rw [hz] at hcz
    have hzd : dst z x = d := by rw [← hz]; exact hNP.out.2.1
    have k2 := Lib.hid (fun W => distance_any z x (by rw [← hz]; exact hW'.out.nw k) hxh.out W hzd)
    replace hz := Lib.hid hz
    replace hzd := Lib.hid hzd
    by_cases hlt : m < n
    · have hki : (m : Int) < (n : Int) := by omega
      obtain ⟨y, hy⟩ : ∃ y, nw l m = y := ⟨_, rfl⟩
      have hcm := hS.cell hlt
      rw [hy] at hcm
      obtain ⟨e, he⟩ : ∃ e, dst y x = e := ⟨_, rfl⟩
      have k1 := Lib.hid (fun W => distance_any y x (by rw [← hy]; exact hW'.out.nw m) hxh.out W he)
      have he' : Hid (dst (nw l m) x = e) := Lib.hid (by rw [hy]; exact he)
      replace hy := Lib.hid hy
      replace he := Lib.hid he
      by_cases hed : e < d
      · have hedi : (e : Int) < (d : Int) := by omega
        have hnx := Lib.hid (hNP.out.take (by rw [← hlen.out]; exact hlt) he'.out hed)
        go_wp2
        go_quiet (first | (go_at_call 17; exact Calls.quiet_of_same ((k1.out _).mono fun _ _ h => ⟨h.1, h.2.symm⟩)) | (go_at_call 17; exact Calls.quiet_of_same ((k2.out _).mono fun _ _ h => ⟨h.1, h.2.symm⟩)))
        go_wp2
        go_roundw
        case rel => exact ⟨m + 1, m, e, hlt, by go_num, rfl, hnx, hS.drewN _, below_drewN hB _⟩
        case measure => simp [intOf]; omega
      · have hedi : ¬ (e : Int) < (d : Int) := by omega
        have hnx := Lib.hid (hNP.out.keep he'.out hed)
        go_wp2
        go_quiet (first | (go_at_call 17; exact Calls.quiet_of_same ((k1.out _).mono fun _ _ h => ⟨h.1, h.2.symm⟩)) | (go_at_call 17; exact Calls.quiet_of_same ((k2.out _).mono fun _ _ h => ⟨h.1, h.2.symm⟩)))
        go_wp2
        go_roundw
        case rel => exact ⟨m + 1, k, d, hlt, by go_num, rfl, hnx, hS.drewN _, below_drewN hB _⟩
        case measure => simp [intOf]; omega
    · obtain rfl : m = n := by omega
      have hki : ¬ (m : Int) < (m : Int) := by omega
      go_wp2_with (go_at_call 17; refine (k2.out _).mono ?_; rintro e w' ⟨rfl, rfl⟩)
      exact bodyPost_ret (v := .tuple #[.int .i64 (k : Int), .int .i64 (d : Int)]) (by simp [results, Try.results19, go_sem]) rfl ⟨⟨k, d, rfl, by unfold Near; rw [← hlen.out]; exact hNP.out⟩, hB⟩

theorem isLong_any (A : Option Addr) (n c : Nat) (w : World) (hn : n ≤ 9223372036854775807) :
    Calls Try.prog 36 #[.slice A n c] w fun e w' => e = .returned (.bool (decide (64 < n))) ∧ w = w' := by
  by_cases h : 64 < n
  · have hv : Hid (decide (64 < n) = true) := Lib.hid (by simp [h])
    have hi : (64 : Int) < (n : Int) := by omega
    go_enter Try.func36, Try.ntmps36
    go_wp2
    go_ret
    exact ⟨ret_bool (by first | (rw [hv.out]; done) | (rw [hv.out]; simp; omega)), rfl⟩
  · have hv : Hid (decide (64 < n) = false) := Lib.hid (by simp [h])
    have hi : ¬ (64 : Int) < (n : Int) := by omega
    go_enter Try.func36, Try.ntmps36
    go_wp2
    go_ret
    exact ⟨ret_bool (by first | rfl | (rw [hv.out]; done) | (rw [hv.out]; simp; omega)), rfl⟩
theorem isLong_at {n : Nat} {b : Bool} (hn : n ≤ 9223372036854775807) (h : decide (64 < n) = b) (A : Option Addr) (c : Nat) (w : World) :
    Calls Try.prog 36 #[.slice A n c] w fun e w' => e = .returned (.bool b) ∧ w = w' := h ▸ isLong_any A n c w hn

theorem nwithin_any (a lo hi : Int) (w : World) :
    Calls Try.prog 45 #[.int .i64 a, .int .i64 lo, .int .i64 hi] w fun e w' => e = .returned (.bool (win a lo hi)) ∧ w = w' := by
  by_cases h1 : lo ≤ a
  · by_cases h2 : a ≤ hi
    · have hw := Lib.hid (win_iff.2 ⟨h1, h2⟩)
      go_enter Try.func45, Try.ntmps45
      go_wp2
      go_ret
      exact ⟨ret_bool hw.out.symm, rfl⟩
    · have hw : Hid (win a lo hi = false) := Lib.hid (win_no.2 fun h => h2 h.2)
      have h2 := Int.not_le.1 h2
      go_enter Try.func45, Try.ntmps45
      go_wp2
      go_ret
      exact ⟨ret_bool (by first | (rw [hw.out]; done) | (rw [hw.out]; simp <;> omega)), rfl⟩
  · have hw : Hid (win a lo hi = false) := Lib.hid (win_no.2 fun h => h1 h.1)
    have h1 := Int.not_le.1 h1
    go_enter Try.func45, Try.ntmps45
    go_wp2
    go_ret
    exact ⟨ret_bool (by first | (rw [hw.out]; done) | (rw [hw.out]; simp <;> omega)), rfl⟩
theorem nwithin_at {a lo hi : Int} {b : Bool} (h : win a lo hi = b) (w : World) :
    Calls Try.prog 45 #[.int .i64 a, .int .i64 lo, .int .i64 hi] w fun e w' => e = .returned (.bool b) ∧ w = w' := h ▸ nwithin_any a lo hi w

theorem Nearest_long (A : Option Addr) (n c : Nat) (x : Int) (w : World) (hn : n ≤ 9223372036854775807) (h : 64 < n) :
    Calls Try.prog 13 #[.slice A n c, .int .u64 x] w fun e w' => e = .returned (.tuple #[.int .i64 0, .int .i64 0, .int .i64 3]) ∧ w = w' := by
  have k0 := Lib.hid (isLong_at (b := true) hn (by simp [h]))
  go_enter Try.func13, Try.ntmps13
  go_wp2_with (go_at_call 36; refine (k0.out _ _ _).mono ?_; rintro e w' ⟨rfl, rfl⟩)
  exact bodyPost_ret (v := .tuple #[.int .i64 0, .int .i64 0, .int .i64 3]) (by simp [results, Try.results13, go_sem]) rfl ⟨rfl, rfl⟩

theorem Nearest_none (A : Option Addr) (c : Nat) (x : Int) (w : World) :
    Calls Try.prog 13 #[.slice A 0 c, .int .u64 x] w fun e w' => e = .returned (.tuple #[.int .i64 0, .int .i64 0, .int .i64 6]) ∧ w = w' := by
  have k0 := Lib.hid (isLong_at (n := 0) (b := false) (by omega) (by simp))
  go_enter Try.func13, Try.ntmps13
  go_wp2_with (go_at_call 36; refine (k0.out _ _ _).mono ?_; rintro e w' ⟨rfl, rfl⟩)
  exact bodyPost_ret (v := .tuple #[.int .i64 0, .int .i64 0, .int .i64 6]) (by simp [results, Try.results13, go_sem]) rfl ⟨rfl, rfl⟩

theorem Nearest_ok (A : Option Addr) (n c : Nat) (l : List Nat) (x : Nat) (w : World) (h : WS w A n c l) (hx : x < 2 ^ 64) (h0 : 0 < n) (hn : n ≤ 64) :
    Calls Try.prog 13 #[.slice A n c, .int .u64 (x : Int)] w fun e w' => (∃ k d : Nat, e = .returned (.tuple #[.int .i64 (k : Int), .int .i64 (d : Int), .int .i64 0]) ∧ Near l x k d) ∧ w = w' := by
  have k0 := Lib.hid (isLong_at (n := n) (b := false) (by omega) (by simp; omega))
  have k1 := Lib.hid (nearest_any A n c l x w h hx h0 (by omega))
  have hz : ((n : Int) == 0) = false := by simp; omega
  have hcl := h.cap_le
  have hcap := h.le_cap
  clear h hx
  go_enter Try.func13, Try.ntmps13
  go_wp2_with (first | (go_at_call 36; refine (k0.out _ _ _).mono ?_; rintro e w' ⟨rfl, rfl⟩) | (go_at_call 37; refine k1.out.mono ?_; rintro e w' ⟨⟨k, d, rfl, hN⟩, rfl⟩; replace hN := Lib.hid hN))
  exact bodyPost_ret (v := .tuple #[.int .i64 (k : Int), .int .i64 (d : Int), .int .i64 0]) (by simp [results, Try.results13, go_sem]) rfl ⟨⟨k, d, rfl, hN.out⟩, rfl⟩

end Go.Proofs.Ytofoiocpopmifaa
