/-
  Walks over the law: Text at every integer, known, short, same.
-/
import Derived.Test.YtabibkhcdamlhaaDoorY
import Derived.Test.YtabibkhcdamlhaaDoorK
import Derived.Test.YtabibkhcdamlhaaDoorM
set_option linter.unusedSimpArgs false
set_option linter.unusedVariables false
namespace Go.Proofs.YtabibkhcdamlhaaDoor
open Go.RowKit Num

/-- Text: the text of the integer. -/
theorem Text_any (neg : Bool) (A : Option Addr) (n c : Nat) (z : Int) (k : Nat) (w : World) (h : VI w neg A n c z k) (hk : k ≤ 1000000000) (hp : Pows w) :
    Calls Tryd.prog 24 #[.agg #[.bool neg, .slice A n c]] w (RetT w z) := by
  rcases Int.lt_trichotomy z 0 with hz | rfl | hz
  · exact Text_neg neg A n c z k w h hk hz hp
  · exact Text_zero neg A n c k w h hk
  · exact Text_pos neg A n c z k w h hk hz hp

theorem txt_known : txt true [999999999, 999999999] = [45, 57, 57, 57, 57, 57, 57, 57, 57, 57, 57, 57, 57, 57, 57, 57, 57, 57, 57] := by
  have h1 : Lib.decDigits 999999999 = [57, 57, 57, 57, 57, 57, 57, 57, 57] := by simp [Lib.decDigits]
  have h2 : pads 999999999 9 = [57, 57, 57, 57, 57, 57, 57, 57, 57] := by decide
  simp [txt, down, List.range, List.range.loop, chunk, h1, h2, nth]

set_option maxRecDepth 100000 in
set_option maxHeartbeats 4000000 in
/-- known. -/
theorem known_any (w : World) (hp : Pows w) :
    Calls Tryd.prog 11 #[] w fun e w' => e = .returned (.bool true) ∧ Below w.heap.size w w' := by
  have hc1 : CanZ true [999999999] := ⟨can_iff.2 ⟨Grp.cons (by omega) Grp.nil, .inr (by decide)⟩, fun h => by cases h⟩
  have hc2 : CanZ false [1, 1] := ⟨can_iff.2 ⟨Grp.cons (by omega) (Grp.cons (by omega) Grp.nil), .inr (by decide)⟩, fun h => by cases h⟩
  have hc3 : CanZ true [999999999, 999999999] := ⟨can_iff.2 ⟨Grp.cons (by omega) (Grp.cons (by omega) Grp.nil), .inr (by decide)⟩, fun h => by cases h⟩
  have hb1 := Bl.new w [999999999]
  have hb2 := Bl.new (w.alloc (.cells (cells [999999999]).toArray 48)) [1, 1]
  have hs1 := ((hb1.alloc (.cells (cells [1, 1]).toArray 48)).sl (off := 0) (n := 1) (c := 1) (by decide) (by omega) (by omega))
  have hs2 := (hb2.sl (off := 0) (n := 2) (c := 2) (by decide) (by omega) (by omega))
  have hv1 : VI ((w.alloc (.cells (cells [999999999]).toArray 48)).alloc (.cells (cells [1, 1]).toArray 48)) true (some ⟨w.heap.size, 0, none⟩) 1 1 (-999999999) 1 := ⟨_, hs1, by show cnt true [999999999] = _; rw [cnt_can hc1]; rfl, by omega⟩
  have hv2 : VI ((w.alloc (.cells (cells [999999999]).toArray 48)).alloc (.cells (cells [1, 1]).toArray 48)) false (some ⟨(w.alloc (.cells (cells [999999999]).toArray 48)).heap.size, 0, none⟩) 2 2 1000000001 2 := ⟨_, hs2, by show cnt false [1, 1] = _; rw [cnt_can hc2]; rfl, by omega⟩
  have hmul := Mul_any _ _ _ _ _ _ _ _ _ _ 1 2 _ hv1 hv2 (by omega) (by omega) (by omega)
  have hB0 : Below w.heap.size w ((w.alloc (.cells (cells [999999999]).toArray 48)).alloc (.cells (cells [1, 1]).toArray 48)) := ((Below.refl _ w).alloc (Nat.le_refl _) _).alloc (by simp) _
  simp only [cells, List.map_cons, List.map_nil, World.size_alloc] at hmul hB0
  replace hmul := Lib.hid hmul
  clear hb1 hb2 hs1 hs2 hv1 hv2
  have hval : sval true [999999999, 999999999] = -999999999 * 1000000001 := by decide
  have hvf : vld false [1000000000] = false := by
    rw [← Bool.not_eq_true, vld_iff]
    intro h
    have := h.1.1 1000000000 (by simp)
    omega
  replace hval := Lib.hid hval
  go_enter Tryd.func11, Tryd.ntmps11
  go_wp2_with (first | (go_at_call 32; refine (hmul.out).mono ?_; rintro e w1 ⟨neg1, A1, n1, c1, rfl, hi1, hb2⟩; have hB1 := (hB0.trans (hb2.mono (by simp <;> omega))).alloc (by have := hb2.size; simp at this; omega) (.cells #[.bool neg1, .slice A1 n1 c1] 24)) | (go_at_call 24; refine (Text_any _ _ _ _ _ _ _ (hi1.below ((Below.refl _ w1).alloc (Nat.le_refl _) (.cells #[.bool neg1, .slice A1 n1 c1] 24))).vi (by omega) (pows_below hp hB1)).mono ?_; rintro e w2 ⟨neg2, l2, hcz, hsv, rfl, hb3⟩; obtain ⟨rfl, rfl⟩ := canZ_inj hcz hc3 (hsv.trans hval.out.symm); rw [txt_known]; have hB2 := hB1.trans (hb3.mono (by have := hb2.size; simp at this ⊢; omega)); have hs3 := (Bl.new w2 [1000000000]).sl (off := 0) (n := 1) (c := 1) (by decide) (by omega) (by omega); simp only [cells, List.map_cons, List.map_nil] at hs3) | (go_at_call 14; refine (Valid_any false _ 1 1 [1000000000] _ hs3 (by omega)).mono ?_; rintro e w3 ⟨rfl, hb4⟩; rw [hvf]))
  go_ret
  exact ⟨rfl, (hB2.alloc (by have := hB2.size; omega) _).trans (hb4.mono (by have := hB2.size; simp; omega))⟩

set_option maxHeartbeats 1600000 in
/-- same: two integers with one value. -/
theorem same_ii (neg : Bool) (A : Option Addr) (n c : Nat) (z : Int) (k : Nat) (neg2 : Bool) (A2 : Option Addr) (n2 c2 : Nat) (k2 : Nat) (w : World) (h : II w neg A n c z k) (h2 : II w neg2 A2 n2 c2 z k2) (hk : k ≤ 1000000000) (hk2 : k2 ≤ 1000000000) :
    Calls Tryd.prog 18 #[.agg #[.bool neg, .slice A n c], .agg #[.bool neg2, .slice A2 n2 c2]] w fun e w' => e = .returned (.bool true) ∧ Below w.heap.size w w' := by
  have hb := ((Below.refl w.heap.size w).alloc (Nat.le_refl _) (.cells #[.bool neg, .slice A n c] 24)).alloc (by simp) (.cells #[.bool neg2, .slice A2 n2 c2] 24)
  obtain ⟨l, hs, hc, hv, hn⟩ := h.below hb
  obtain ⟨l2, hs2, hc2, hv2, hn2⟩ := h2.below hb
  obtain ⟨rfl, rfl⟩ := canZ_inj hc hc2 (hv.trans hv2.symm)
  have hy : samb neg l neg l = true := samb_yes rfl fun _ _ => rfl
  go_enter Tryd.func18, Tryd.ntmps18
  go_wp2_with (go_at_call 51; refine (rSame_any _ _ _ _ _ _ _ _ _ _ _ hs hs2 (by omega) (by omega)).mono ?_; rintro e w1 ⟨rfl, hb3⟩; rw [hy])
  go_ret
  exact ⟨rfl, hb.trans (hb3.mono (by simp <;> omega))⟩

set_option maxRecDepth 100000 in
set_option maxHeartbeats 1600000 in
/-- short: has each integer at most 12 groups? -/
theorem short_any (g m c : Nat) (B : Nat → Bool) (A : Nat → Option Addr) (N C : Nat → Nat) (w : World) (hm : m ≤ 1000) (hmc : m ≤ c) (hc : c ≤ 1000) (hg : g < w.heap.size) (hN : ∀ i, i < m → N i ≤ 9223372036854775807)
    (h0 : ∀ i, i < m → w.cell? ⟨g, i * 2, none⟩ = some (.bool (B i))) (h1 : ∀ i, i < m → w.cell? ⟨g, i * 2 + 1, none⟩ = some (.slice (A i) (N i) (C i))) :
    Calls Tryd.prog 12 #[.slice (some ⟨g, 0, none⟩) m c] w fun e w' => (∃ b, e = .returned (.bool b) ∧ (b = true ↔ ∀ i, i < m → N i ≤ 12)) ∧ Below w.heap.size w w' := by
  go_enter Tryd.func12, Tryd.ntmps12
  go_wp2
  go_loopw [7] (fun i wr => ∃ k : Nat, k ≤ m ∧ i = .int .i64 ((k : Nat) : Int) ∧ (∀ j, j < k → N j ≤ 12) ∧ Below w.heap.size w wr) (fun i _ => m - (intOf i).toNat)
  case atStart => exact ⟨0, Nat.zero_le _, rfl, fun j h => absurd h (by omega), Below.refl _ _⟩
  case round =>
    obtain ⟨k, hk, rfl, ha, hB⟩ := hrel
    replace ha := Lib.hid ha
    by_cases hlt : k < m
    · have c0 := (hB.cell (p := ⟨g, k * 2, none⟩) hg).trans (h0 k hlt)
      have c1 := (hB.cell (p := ⟨g, k * 2 + 1, none⟩) hg).trans (h1 k hlt)
      have hNk := hN k hlt
      obtain ⟨nk, hnk⟩ : ∃ nk, N k = nk := ⟨_, rfl⟩
      rw [hnk] at c1 hNk
      replace hnk := Lib.hid hnk
      obtain ⟨q, hq⟩ : ∃ q, k * 2 = q := ⟨_, rfl⟩
      rw [hq] at c0 c1
      have hB2 := hB.alloc hB.size (.cells #[.bool (B k), .slice (A k) nk (C k)] 24)
      by_cases h12 : nk ≤ 12
      · go_wp2
        exact ⟨⟨k + 1, hlt, by go_num, fun j hj => (by
          by_cases e : j = k
          · rw [e, hnk.out]; exact h12
          · exact ha.out j (by omega)), hB2⟩, by simp [intOf]; omega⟩
      · go_wp2
        go_ret
        exact ⟨⟨false, rfl, by simp; exact ⟨k, hlt, by rw [hnk.out]; omega⟩⟩, hB2⟩
    · obtain rfl : k = m := by omega
      go_wp2
      go_ret
      exact ⟨⟨true, rfl, by simpa using ha.out⟩, hB⟩

end Go.Proofs.YtabibkhcdamlhaaDoor
