/-
  Walk: the law's few.
-/
import Derived.Test.YtfkoboljobghkaaFrCm
set_option linter.unusedSimpArgs false
set_option linter.unusedVariables false
namespace Go.Proofs.Ytfkoboljobghkaa
open Go.RowKit Go.Shelf

def small (E : List Ent) (j : Nat) : Bool := decide ((keyAt E j).size ≤ 140) && decide ((valAt E j).size ≤ 140)
/-- Has a frame few pixels and few, short entries? -/
def fewB (n2 : Nat) (E : List Ent) : Bool := decide (n2 ≤ 200) && (decide (E.length ≤ 40) && (List.range E.length).all (small E))
theorem fewB_no {n2 : Nat} {E : List Ent} {j : Nat} (hj : j < E.length) (h : small E j = false) : fewB n2 E = false := by
  have : (List.range E.length).all (small E) = false := by
    rw [List.all_eq_false]
    exact ⟨j, List.mem_range.2 hj, by rw [h]; simp⟩
  unfold fewB
  rw [this]
  simp
theorem fewB_yes {n2 : Nat} {E : List Ent} (h2 : n2 ≤ 200) (hl : E.length ≤ 40) (h : ∀ j, j < E.length → small E j = true) : fewB n2 E = true := by
  have : (List.range E.length).all (small E) = true := by
    rw [List.all_eq_true]
    exact fun j hj => h j (List.mem_range.1 hj)
  unfold fewB
  rw [this]
  simp [h2, hl]

set_option maxRecDepth 100000 in
set_option maxHeartbeats 3200000 in
theorem few_any (A : Option Addr) (n c : Nat) (E : List Ent) (W H M : Int) (A2 : Option Addr) (n2 c2 : Nat) (w : World) (h : En w A n c E) (hc2 : n2 ≤ 9223372036854775807) :
    Calls Try.prog 13 #[.agg #[.slice A n c, .int .i64 W, .int .i64 H, .int .i64 M, .slice A2 n2 c2]] w fun e w' => e = .returned (.bool (fewB n2 E)) ∧ Below w.heap.size w w' := by
  have hb0 := (Below.refl w.heap.size w).alloc (Nat.le_refl _) (.cells #[.slice A n c, .int .i64 W, .int .i64 H, .int .i64 M, .slice A2 n2 c2] 27)
  have hlen := h.1
  have hcap := h.2.1
  have hcl := h.2.2.1
  by_cases h1 : 200 < n2
  · have hv : Hid (fewB n2 E = false) := Lib.hid (by unfold fewB; rw [decide_eq_false (by omega)]; rfl)
    clear h hlen
    go_enter Try.func13, Try.ntmps13
    go_wp2
    go_ret
    exact ⟨ret_bool hv.out.symm, hb0⟩
  by_cases h2 : 40 < n
  · have hv : Hid (fewB n2 E = false) := Lib.hid (by unfold fewB; rw [decide_eq_false (p := E.length ≤ 40) (by omega)]; simp)
    clear h hlen
    go_enter Try.func13, Try.ntmps13
    go_wp2
    go_ret
    exact ⟨ret_bool hv.out.symm, hb0⟩
  have h3 : n2 ≤ 200 := by omega
  have h4 : n ≤ 40 := by omega
  have hE : Hid (E.length ≤ 40) := Lib.hid (by omega)
  replace hlen := Lib.hid hlen
  replace h := Lib.hid h
  go_enter Try.func13, Try.ntmps13
  go_wp2
  go_loopw [19] (fun i wr => ∃ k : Nat, k ≤ n ∧ i = .int .i64 (k : Int) ∧ Hid (∀ j, j < k → small E j = true) ∧ Below w.heap.size w wr) (fun i _ => n - (intOf i).toNat)
  case atStart => exact ⟨0, Nat.zero_le _, rfl, Lib.hid fun j hj => absurd hj (Nat.not_lt_zero _), hb0⟩
  case round =>
    obtain ⟨k, hk, rfl, h0, hB⟩ := hrel
    by_cases hlt : k < n
    · obtain ⟨b, off, rfl, hbw, hc⟩ := (h.out.below hB (Nat.le_refl _)).at_ (by omega)
      obtain ⟨c0, c1⟩ := hc k hlt
      obtain ⟨s0, s1⟩ := h.out.2.2.2.2 k
      have hsize := hB.size
      obtain ⟨ks, hks⟩ : ∃ s, keyAt E k = s := ⟨_, rfl⟩
      obtain ⟨vs, hvs⟩ : ∃ s, valAt E k = s := ⟨_, rfl⟩
      rw [hks] at c0 s0
      rw [hvs] at c1 s1
      obtain ⟨q, hq⟩ : ∃ q, k * 2 = q := ⟨_, rfl⟩
      rw [hq] at c0 c1
      have hBa := hB.alloc hB.size (.cells #[.string ks, .string vs] 68)
      have hkE : Hid (k < E.length) := Lib.hid (by rw [← hlen.out]; exact hlt)
      clear hc
      by_cases z1 : 140 < ks.size
      · have hv : Hid (fewB n2 E = false) := Lib.hid (fewB_no hkE.out (by unfold small; rw [hks, decide_eq_false (by omega)]; rfl))
        replace hks := Lib.hid hks
        replace hvs := Lib.hid hvs
        go_wp2
        go_ret
        exact ⟨ret_bool hv.out.symm, hBa⟩
      · by_cases z2 : 140 < vs.size
        · have hv : Hid (fewB n2 E = false) := Lib.hid (fewB_no hkE.out (by unfold small; rw [hks, hvs, decide_eq_false (p := vs.size ≤ 140) (by omega)]; simp))
          replace hks := Lib.hid hks
          replace hvs := Lib.hid hvs
          go_wp2
          go_ret
          exact ⟨ret_bool hv.out.symm, hBa⟩
        · have hv : Hid (small E k = true) := Lib.hid (by unfold small; rw [hks, hvs]; simp; omega)
          replace hks := Lib.hid hks
          replace hvs := Lib.hid hvs
          go_wp2
          refine ⟨⟨k + 1, hlt, by go_num, Lib.hid (fun j hj => ?_), hBa⟩, by simp [intOf]; omega⟩
          by_cases e : j = k
          · rw [e]; exact hv.out
          · exact h0.out j (by omega)
    · obtain rfl : k = n := by omega
      have hv : Hid (fewB n2 E = true) := Lib.hid (fewB_yes h3 hE.out (by rw [← hlen.out]; exact h0.out))
      go_wp2
      go_ret
      exact ⟨ret_bool hv.out.symm, hB⟩

end Go.Proofs.Ytfkoboljobghkaa
