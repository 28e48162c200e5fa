/-
  Walk over the reference: made.
-/
import Derived.Test.YtalbdjnanmcoeaaDoorN
namespace Go.Proofs.YtalbdjnanmcoeaaDoor
open Go.RowKit Num

set_option maxRecDepth 100000 in
set_option maxHeartbeats 1600000 in
/-- made: the integer with a sign and groups, zeros at the end dropped. -/
theorem made_any (neg : Bool) (A : Option Addr) (n c : Nat) (l : List Nat) (w : World) (h : Sl w A n c l) (hg : Grp l) (hn : n ≤ 1000000000) :
    Calls Tryd.prog 54 #[.bool neg, .slice A n c] w (RetZ w (sgnd neg (val l)) n) := by
  have hcap := h.le_cap
  have hcl := h.cap_le
  obtain ⟨i0, hi, hz0, hz1, hz2⟩ := info_parts infoU
  have h1 := h.alloc (.cells #[.bool false, .slice none 0 0] 24)
  have hb1 := (Below.refl w.heap.size w).alloc (Nat.le_refl _) (.cells #[.bool false, .slice none 0 0] 24)
  have hlen := Lib.hid h.len
  have hown0 : ((w.alloc (.cells #[.bool false, .slice none 0 0] 24)).alloc (.cells #[] 48)).ownsRow (w.heap.size + 1) 48 1 (.slice (some ⟨w.heap.size + 1, 0, none⟩) 0 0) 0 [] := by
    have := World.ownsRow_made (base := w.heap.size + 1) (e := 48) (size := 1) (w.alloc (.cells #[.bool false, .slice none 0 0] 24)) #[] 0 (by simp) (by unfold maxLen; omega) rfl
    rwa [World.size_alloc] at this
  cases neg
  · go_enter Tryd.func54, Tryd.ntmps54
    go_wp2
    go_loop [5] (fun i => ∃ k : Nat, k ≤ n ∧ (∀ j, k ≤ j → j < n → nth l j = 0) ∧ i = .int .i64 k) (fun i => (intOf i).toNat)
    case atStart => exact ⟨n, Nat.le_refl _, fun j h1 h2 => absurd h2 (by omega), rfl⟩
    case round =>
      obtain ⟨k, hk, hz, rfl⟩ := hrel
      replace hz := Lib.hid hz
      by_cases h0 : 0 < k
      · obtain ⟨b, off, rfl, _, hc⟩ := h1.at_ (by omega)
        have hcell := hc (k - 1) (by omega)
        clear hc
        obtain ⟨x, hx⟩ : ∃ x, nth l (k - 1) = x := ⟨_, rfl⟩
        rw [hx] at hcell
        have hx' := Lib.hid hx
        clear hx
        by_cases hx0 : x = 0
        · subst hx0
          go_wp2
          go_round
          case rel => exact ⟨k - 1, by omega, fun j h1 h2 => (by
              by_cases e : j = k - 1
              · rw [e]; exact hx'.out
              · exact hz.out j (by omega) h2), by go_num⟩
          case measure => simp [intOf]; omega
        · have hst := (h1.take hk (by omega) (Nat.le_refl _)).alloc (.cells #[] 48)
          have hx1 : ((x : Int) == 0) = false := by simpa using hx0
          replace hx0 := Lib.hid hx0
          have hk0 : (0 : Int) < (k : Int) := by omega
          go_wp2_with (at_builtin; refine wpList_append_own _ rfl _ _ 22 rfl (w.heap.size + 1) 48 i0 (.int .u32 0) 1 4 Tryd.underlying22 hi hz0 hz1 hz2 rfl (by decide) _ _ _ rfl hown0 ⟨b, off, none⟩ k c (cells (l.take k)) rfl (by rw [cells_length, List.length_take, ← hlen.out]; omega) (by exact news_of_sl hst (by omega)) cells_one (by unfold maxLen; omega) (by omega) (by simp) ?_; intro v' w1 hown hgrow _; obtain ⟨g, cap, hv, hg2, hbl1, hnc, hcm, hnl⟩ := Bl.of_own hown (by omega); subst hv; replace hnl := Lib.hid hnl; have hgr : ((w.alloc (.cells #[.bool false, .slice none 0 0] 24)).alloc (.cells #[] 48)).grownBy w1 (some (w.heap.size + 1)) := hgrow; have hgX : w1.heap[w.heap.size]? = some (.cells #[.bool false, .slice none 0 0] 24 (0, 0)) := (hgr.block w.heap.size (by simp <;> omega) (by simp)).trans (heap_alloc2_old w _ _); have g3 := cell_of_row w1 w.heap.size 0 _ _ _ hgX; have g4 := cell_of_row w1 w.heap.size 1 _ _ _ hgX; have k3 := frozen_of_row w1 w.heap.size 0 _ _ hgX; have k4 := frozen_of_row w1 w.heap.size 1 _ _ hgX; simp only [List.getElem?_toArray, List.getElem?_cons_zero, List.getElem?_cons_succ] at g3 g4; replace hgX := Lib.hid hgX)
          refine bodyPost_ret (v := .agg #[.bool false, .slice (some ⟨g, 0, none⟩) k cap]) (by simp [results, Tryd.results54, go_sem, g3, g4]) rfl ?_
          obtain ⟨hc1, hc2⟩ := trim_ok hg (n := k) (by rw [← hlen.out]; exact hk) (by rw [← hlen.out]; exact hz.out) (.inr (by rw [hx'.out]; exact hx0.out))
          have hsl := hbl1.sl (off := 0) (n := k) (c := cap) (by have := hnl.out; omega) (by omega) hcm
          rw [List.drop_zero, List.take_of_length_le (by have := hnl.out; omega)] at hsl
          have hbF := (hb1.alloc (by simp) (.cells #[] 48)).grown hgr (by simp <;> omega) (fun k' e => by cases e; omega)
          rw [← hc2]
          exact RetZ.close0 ⟨l.take k, hsl, ⟨hc1, fun _ => rfl⟩, rfl, hk⟩ hbF (Nat.le_refl _) g3 g4
      · obtain rfl : k = 0 := by omega
        rcases A with _ | ad
        all_goals
          go_wp2
          refine bodyPost_ret (v := .agg #[.bool false, .slice (some ⟨w.heap.size + 1, 0, none⟩) 0 0]) (by simp [results, Tryd.results54, go_sem]) rfl ?_
          have hv : val l = 0 := by
            have := (trim_ok hg (n := 0) (Nat.zero_le _) (by rw [← hlen.out]; exact hz.out) (.inl rfl)).2
            rw [← this]; rfl
          rw [hv, sgnd_zero]
          exact ⟨false, _, 0, 0, rfl, ⟨[], ⟨rfl, Nat.le_refl _, by omega, fun h => absurd h (by omega)⟩, ⟨Cano.nil, fun _ => rfl⟩, rfl, Nat.zero_le _⟩, ((Below.refl w.heap.size w).alloc (Nat.le_refl _) _).alloc (by simp) _⟩
  · go_enter Tryd.func54, Tryd.ntmps54
    go_wp2
    go_loop [5] (fun i => ∃ k : Nat, k ≤ n ∧ (∀ j, k ≤ j → j < n → nth l j = 0) ∧ i = .int .i64 k) (fun i => (intOf i).toNat)
    case atStart => exact ⟨n, Nat.le_refl _, fun j h1 h2 => absurd h2 (by omega), rfl⟩
    case round =>
      obtain ⟨k, hk, hz, rfl⟩ := hrel
      replace hz := Lib.hid hz
      by_cases h0 : 0 < k
      · obtain ⟨b, off, rfl, _, hc⟩ := h1.at_ (by omega)
        have hcell := hc (k - 1) (by omega)
        clear hc
        obtain ⟨x, hx⟩ : ∃ x, nth l (k - 1) = x := ⟨_, rfl⟩
        rw [hx] at hcell
        have hx' := Lib.hid hx
        clear hx
        by_cases hx0 : x = 0
        · subst hx0
          go_wp2
          go_round
          case rel => exact ⟨k - 1, by omega, fun j h1 h2 => (by
              by_cases e : j = k - 1
              · rw [e]; exact hx'.out
              · exact hz.out j (by omega) h2), by go_num⟩
          case measure => simp [intOf]; omega
        · have hst := (h1.take hk (by omega) (Nat.le_refl _)).alloc (.cells #[] 48)
          have hx1 : ((x : Int) == 0) = false := by simpa using hx0
          replace hx0 := Lib.hid hx0
          have hk0 : (0 : Int) < (k : Int) := by omega
          go_wp2_with (at_builtin; refine wpList_append_own _ rfl _ _ 22 rfl (w.heap.size + 1) 48 i0 (.int .u32 0) 1 4 Tryd.underlying22 hi hz0 hz1 hz2 rfl (by decide) _ _ _ rfl hown0 ⟨b, off, none⟩ k c (cells (l.take k)) rfl (by rw [cells_length, List.length_take, ← hlen.out]; omega) (by exact news_of_sl hst (by omega)) cells_one (by unfold maxLen; omega) (by omega) (by simp) ?_; intro v' w1 hown hgrow _; obtain ⟨g, cap, hv, hg2, hbl1, hnc, hcm, hnl⟩ := Bl.of_own hown (by omega); subst hv; replace hnl := Lib.hid hnl; have hgr : ((w.alloc (.cells #[.bool false, .slice none 0 0] 24)).alloc (.cells #[] 48)).grownBy w1 (some (w.heap.size + 1)) := hgrow; have hgX : w1.heap[w.heap.size]? = some (.cells #[.bool false, .slice none 0 0] 24 (0, 0)) := (hgr.block w.heap.size (by simp <;> omega) (by simp)).trans (heap_alloc2_old w _ _); have g3 := cell_of_row w1 w.heap.size 0 _ _ _ hgX; have g4 := cell_of_row w1 w.heap.size 1 _ _ _ hgX; have k3 := frozen_of_row w1 w.heap.size 0 _ _ hgX; have k4 := frozen_of_row w1 w.heap.size 1 _ _ hgX; simp only [List.getElem?_toArray, List.getElem?_cons_zero, List.getElem?_cons_succ] at g3 g4; replace hgX := Lib.hid hgX)
          refine bodyPost_ret (v := .agg #[.bool true, .slice (some ⟨g, 0, none⟩) k cap]) (by simp [results, Tryd.results54, go_sem, g3, g4]) rfl ?_
          obtain ⟨hc1, hc2⟩ := trim_ok hg (n := k) (by rw [← hlen.out]; exact hk) (by rw [← hlen.out]; exact hz.out) (.inr (by rw [hx'.out]; exact hx0.out))
          have hsl := hbl1.sl (off := 0) (n := k) (c := cap) (by have := hnl.out; omega) (by omega) hcm
          rw [List.drop_zero, List.take_of_length_le (by have := hnl.out; omega)] at hsl
          have hbF := (hb1.alloc (by simp) (.cells #[] 48)).grown hgr (by simp <;> omega) (fun k' e => by cases e; omega)
          rw [← hc2]
          exact RetZ.close0 ⟨l.take k, hsl, ⟨hc1, fun e => by have h8 := congrArg List.length e; have h9 := hnl.out; rw [h8] at h9; exfalso; simp only [List.length_nil] at h9; omega⟩, rfl, hk⟩ hbF (Nat.le_refl _) g3 g4
      · obtain rfl : k = 0 := by omega
        rcases A with _ | ad
        all_goals
          go_wp2
          refine bodyPost_ret (v := .agg #[.bool false, .slice (some ⟨w.heap.size + 1, 0, none⟩) 0 0]) (by simp [results, Tryd.results54, go_sem]) rfl ?_
          have hv : val l = 0 := by
            have := (trim_ok hg (n := 0) (Nat.zero_le _) (by rw [← hlen.out]; exact hz.out) (.inl rfl)).2
            rw [← this]; rfl
          rw [hv, sgnd_zero]
          exact ⟨false, _, 0, 0, rfl, ⟨[], ⟨rfl, Nat.le_refl _, by omega, fun h => absurd h (by omega)⟩, ⟨Cano.nil, fun _ => rfl⟩, rfl, Nat.zero_le _⟩, ((Below.refl w.heap.size w).alloc (Nat.le_refl _) _).alloc (by simp) _⟩

end Go.Proofs.YtalbdjnanmcoeaaDoor
