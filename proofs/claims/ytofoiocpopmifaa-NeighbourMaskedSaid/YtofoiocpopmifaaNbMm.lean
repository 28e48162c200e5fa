/-
  What Matches returns of masked lists, and of a reversed list without ties.
-/
import Derived.Test.YtofoiocpopmifaaNbMx
import Derived.Test.YtofoiocpopmifaaNbKp
import Derived.Test.YtofoiocpopmifaaNbBw
set_option linter.unusedSimpArgs false
set_option linter.unusedVariables false
namespace Go.Proofs.Ytofoiocpopmifaa

theorem msk_length (l : List Nat) (mk : Nat) : (msk l mk).length = l.length := by simp [msk]
theorem nw_msk {l : List Nat} {mk i : Nat} (h : i < l.length) : nw (msk l mk) i = nw l i ^^^ mk := by
  rw [nw_eq h, nw_eq (by rw [msk_length]; exact h)]
  simp [msk]
theorem Near.mask {l : List Nat} {x k d : Nat} (mk : Nat) (h : Near l x k d) : Near (msk l mk) (x ^^^ mk) k d := by
  obtain ⟨h1, h2, h3, h4⟩ := h
  refine ⟨by rw [msk_length]; exact h1, by rw [nw_msk h1, dst_mask]; exact h2, fun j hj => ?_, fun j hj => ?_⟩
  · rw [msk_length] at hj
    rw [nw_msk hj, dst_mask]; exact h3 j hj
  · rw [nw_msk (by omega), dst_mask]; exact h4 j hj
theorem Chosen.mask {l ws : List Nat} {L : List Cho} (mk : Nat) (h : Chosen l ws L) : Chosen (msk l mk) (msk ws mk) L :=
  ⟨by rw [msk_length]; exact h.1, fun i hi => by
    rw [msk_length] at hi
    rw [nw_msk hi]
    exact (h.2 i hi).mask mk⟩
theorem clear_mask (l : List Nat) (x k d num den mk : Nat) : clearB (msk l mk) (x ^^^ mk) k d num den = clearB l x k d num den := by
  unfold clearB
  rw [decide_eq_decide, msk_length]
  constructor
  · intro h i hi hne
    have := h i hi hne
    rwa [nw_msk hi, dst_mask] at this
  · intro h i hi hne
    rw [nw_msk hi, dst_mask]
    exact h i hi hne
theorem RetM.mask {a b : List Nat} {num den mk : Nat} {l l' : List Mat} (h : RetM a b num den l) (h' : RetM (msk a mk) (msk b mk) num den l') : l' = l := by
  rcases h with ⟨h0, rfl⟩ | ⟨h1, h2, Lc, Lb, hc, hb, rfl⟩
  · rcases h' with ⟨_, rfl⟩ | ⟨g1, g2, _⟩
    · rfl
    · rw [msk_length] at g1 g2; omega
  · rcases h' with ⟨g0, _⟩ | ⟨g1, g2, Lc', Lb', hc', hb', rfl⟩
    · rw [msk_length, msk_length] at g0; omega
    · rw [hc'.unique (hc.mask mk), hb'.unique (hb.mask mk)]
      unfold matF
      rw [msk_length]
      congr 1
      apply List.filter_congr
      intro i hi
      rw [List.mem_range] at hi
      have hj := (hc.2 i hi).1
      unfold selB
      rw [nw_msk hi, nw_msk hj, clear_mask, clear_mask]

/-- A list read backwards. -/
def Rev (b rb : List Nat) : Prop := rb.length = b.length ∧ ∀ i, i < b.length → nw rb i = nw b (b.length - 1 - i)
/-- No two words are as near. -/
def NoTie (b : List Nat) (x : Nat) : Prop := ∀ i j, i < j → j < b.length → dst x (nw b i) ≠ dst x (nw b j)
theorem Near.rev {b rb : List Nat} {x k d : Nat} (hr : Rev b rb) (ht : NoTie b x) (h : Near b x k d) : Near rb x (b.length - 1 - k) d := by
  obtain ⟨h1, h2, h3, h4⟩ := h
  refine ⟨by rw [hr.1]; omega, ?_, fun j hj => ?_, fun j hj => ?_⟩
  · rw [hr.2 _ (by omega), show b.length - 1 - (b.length - 1 - k) = k from by omega]; exact h2
  · rw [hr.1] at hj
    rw [hr.2 j hj]; exact h3 _ (by omega)
  · rw [hr.2 j (by omega)]
    have g1 := h3 (b.length - 1 - j) (by omega)
    have g2 := ht k (b.length - 1 - j) (by omega) (by omega)
    rw [dst_comm x, h2, dst_comm x] at g2
    omega
/-- The choices in a reversed list. -/
def revC (n : Nat) (L : List Cho) : List Cho := L.map fun c => (n - 1 - c.1, c.2)
theorem revC_at {n : Nat} {L : List Cho} {i : Nat} (h : i < L.length) : choAt (revC n L) i = (n - 1 - (choAt L i).1, (choAt L i).2) := by
  rw [choAt_eq (by unfold revC; rw [List.length_map]; exact h), choAt_eq h]
  simp [revC]
theorem Chosen.rev {b rb a : List Nat} {L : List Cho} (hr : Rev b rb) (ht : ∀ i, i < a.length → NoTie b (nw a i)) (h : Chosen b a L) : Chosen rb a (revC b.length L) :=
  ⟨by unfold revC; rw [List.length_map]; exact h.1, fun i hi => by
    rw [revC_at (by rw [h.1]; exact hi)]
    exact (h.2 i hi).rev hr (ht i hi)⟩
/-- The choices of a reversed list. -/
theorem Chosen.revd {a b rb : List Nat} {L L' : List Cho} (hr : Rev b rb) (h : Chosen a b L) (h' : Chosen a rb L') {j : Nat} (hj : j < b.length) : choAt L' (b.length - 1 - j) = choAt L j := by
  have g := h'.2 (b.length - 1 - j) (by rw [hr.1]; omega)
  rw [hr.2 _ (by omega), show b.length - 1 - (b.length - 1 - j) = j from by omega] at g
  have := g.unique (h.2 j hj)
  exact Prod.ext this.1 this.2
theorem clear_rev {b rb : List Nat} (hr : Rev b rb) {k : Nat} (hk : k < b.length) (x d num den : Nat) : clearB rb x (b.length - 1 - k) d num den = clearB b x k d num den := by
  unfold clearB
  rw [decide_eq_decide, hr.1]
  constructor
  · intro h i hi hne
    have := h (b.length - 1 - i) (by omega) (by omega)
    rwa [hr.2 _ (by omega), show b.length - 1 - (b.length - 1 - i) = i from by omega] at this
  · intro h i hi hne
    rw [hr.2 i hi]
    exact h _ (by omega) (by omega)
/-- A match with the reversed list. -/
def revM (n : Nat) (t : Mat) : Mat := (t.1, n - 1 - t.2.1, t.2.2)
theorem RetM.rev {a b rb : List Nat} {num den : Nat} {l l' : List Mat} (hr : Rev b rb) (ht : ∀ i, i < a.length → NoTie b (nw a i)) (h : RetM a b num den l) (h' : RetM a rb num den l') : l' = l.map (revM b.length) := by
  rcases h with ⟨h0, rfl⟩ | ⟨h1, h2, Lc, Lb, hc, hb, rfl⟩
  · rcases h' with ⟨_, rfl⟩ | ⟨g1, g2, _⟩
    · rfl
    · rw [hr.1] at g2; omega
  · rcases h' with ⟨g0, _⟩ | ⟨g1, g2, Lc', Lb', hc', hb', rfl⟩
    · rw [hr.1] at g0; omega
    · rw [hc'.unique (hc.rev hr ht)]
      unfold matF
      rw [List.map_map]
      have hsel : (List.range a.length).filter (selB a rb num den (revC b.length Lc) Lb') = (List.range a.length).filter (selB a b num den Lc Lb) := by
        apply List.filter_congr
        intro i hi
        rw [List.mem_range] at hi
        have hj := (hc.2 i hi).1
        unfold selB
        rw [revC_at (by rw [hc.1]; exact hi)]
        simp only
        rw [hb.revd hr hb' hj, clear_rev hr hj, hr.2 _ (by omega), show b.length - 1 - (b.length - 1 - (choAt Lc i).1) = (choAt Lc i).1 from by omega]
      rw [hsel]
      apply List.map_congr_left
      intro i hi
      have hi' := List.mem_range.1 (List.mem_filter.1 hi).1
      rw [revC_at (by rw [hc.1]; exact hi')]
      rfl
theorem Reved.rev {b rb : List Nat} (h : Reved b rb 0 b.length) : Rev b rb := ⟨h.1, fun i hi => by
  rw [h.2 i hi, if_pos (by omega), show 2 * 0 + b.length - 1 - i = b.length - 1 - i from by omega]⟩

end Go.Proofs.Ytofoiocpopmifaa
