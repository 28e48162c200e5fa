/-
  Walk: the law's few, for any texts.
-/
import Derived.Test.YtfkoboljobghkaaFrFe
set_option linter.unusedSimpArgs false
set_option linter.unusedVariables false
namespace Go.Proofs.Ytfkoboljobghkaa
open Go.RowKit Go.Shelf

/-- Entries in memory, with texts of any size. -/
def En0 (w : World) (A : Option Addr) (n c : Nat) (E : List Ent) : Prop :=
  n = E.length ∧ n ≤ c ∧ c ≤ 9223372036854775807 ∧ (0 < n → ∃ b off, A = some ⟨b, off, none⟩ ∧ ∀ i, i < n → w.cell? ⟨b, off + i * 2, none⟩ = some (.string (keyAt E i)) ∧ w.cell? ⟨b, off + i * 2 + 1, none⟩ = some (.string (valAt E i))) ∧
  ∀ i, (keyAt E i).size ≤ 9223372036854775807 ∧ (valAt E i).size ≤ 9223372036854775807
section
variable {w w' : World} {A : Option Addr} {n c : Nat} {E : List Ent}
theorem En0.at_ (h : En0 w A n c E) (h0 : 0 < n) : ∃ b off, A = some ⟨b, off, none⟩ ∧ b < w.heap.size ∧ ∀ i, i < n → w.cell? ⟨b, off + i * 2, none⟩ = some (.string (keyAt E i)) ∧ w.cell? ⟨b, off + i * 2 + 1, none⟩ = some (.string (valAt E i)) := by
  obtain ⟨b, off, e, hc⟩ := h.2.2.2.1 h0
  exact ⟨b, off, e, World.block_lt_of_cell? w _ (hc 0 h0).1, hc⟩
theorem En0.keep (h : En0 w A n c E) (hk : 0 < n → ∀ b i, (∃ off, A = some ⟨b, off, none⟩) → b < w.heap.size → w'.cell? ⟨b, i, none⟩ = w.cell? ⟨b, i, none⟩) : En0 w' A n c E :=
  ⟨h.1, h.2.1, h.2.2.1, fun h0 => by
    obtain ⟨b, off, e, hb, hc⟩ := h.at_ h0
    exact ⟨b, off, e, fun i hi => ⟨(hk h0 b _ ⟨off, e⟩ hb).trans (hc i hi).1, (hk h0 b _ ⟨off, e⟩ hb).trans (hc i hi).2⟩⟩, h.2.2.2.2⟩
theorem En0.below (h : En0 w A n c E) {B : Nat} (hb : Below B w w') (hB : w.heap.size ≤ B) : En0 w' A n c E :=
  h.keep fun _ b i _ hlt => hb.cell (p := ⟨b, i, none⟩) (Nat.lt_of_lt_of_le hlt hB)
theorem En0.alloc (h : En0 w A n c E) (o : Obj) : En0 (w.alloc o) A n c E :=
  h.keep fun _ b i _ hlt => World.cell?_alloc_lt w o ⟨b, i, none⟩ hlt
theorem En0.few (h : En0 w A n c E) {n2 : Nat} (hf : fewB n2 E = true) : En w A n c E := by
  refine ⟨h.1, h.2.1, h.2.2.1, h.2.2.2.1, fun i => ?_⟩
  unfold fewB at hf
  simp only [Bool.and_eq_true, decide_eq_true_eq] at hf
  by_cases hi : i < E.length
  · have := List.all_eq_true.1 hf.2.2 i (List.mem_range.2 hi)
    simp only [small, Bool.and_eq_true, decide_eq_true_eq] at this
    omega
  · simp only [keyAt, valAt, List.getD_eq_getElem?_getD, List.getElem?_eq_none (Nat.not_lt.1 hi), Option.getD_none]
    exact ⟨by decide, by decide⟩
end

set_option maxRecDepth 100000 in
set_option maxHeartbeats 3200000 in
theorem few0_any (A : Option Addr) (n c : Nat) (E : List Ent) (W H M : Int) (A2 : Option Addr) (n2 c2 : Nat) (w : World) (h : En0 w A n c E) (hc2 : n2 ≤ 9223372036854775807) :
    Calls Try.prog 13 #[.agg #[.slice A n c, .int .i64 W, .int .i64 H, .int .i64 M, .slice A2 n2 c2]] w fun e w' => e = .returned (.bool (fewB n2 E)) ∧ Below w.heap.size w w' := by
  have hb0 := (Below.refl w.heap.size w).alloc (Nat.le_refl _) (.cells #[.slice A n c, .int .i64 W, .int .i64 H, .int .i64 M, .slice A2 n2 c2] 27)
  have hlen := h.1
  have hcap := h.2.1
  have hcl := h.2.2.1
  by_cases h1 : 200 < n2
  · have hv : Hid (fewB n2 E = false) := Lib.hid (by unfold fewB; rw [decide_eq_false (by omega)]; rfl)
    clear h hlen
    go_enter Try.func13, Try.ntmps13
    go_wp2
    go_ret
    exact ⟨ret_bool hv.out.symm, hb0⟩
  by_cases h2 : 40 < n
  · have hv : Hid (fewB n2 E = false) := Lib.hid (by unfold fewB; rw [decide_eq_false (p := E.length ≤ 40) (by omega)]; simp)
    clear h hlen
    go_enter Try.func13, Try.ntmps13
    go_wp2
    go_ret
    exact ⟨ret_bool hv.out.symm, hb0⟩
  have h3 : n2 ≤ 200 := by omega
  have h4 : n ≤ 40 := by omega
  have hE : Hid (E.length ≤ 40) := Lib.hid (by omega)
  replace hlen := Lib.hid hlen
  replace h := Lib.hid h
  go_enter Try.func13, Try.ntmps13
  go_wp2
  go_loopw [19] (fun i wr => ∃ k : Nat, k ≤ n ∧ i = .int .i64 (k : Int) ∧ Hid (∀ j, j < k → small E j = true) ∧ Below w.heap.size w wr) (fun i _ => n - (intOf i).toNat)
  case atStart => exact ⟨0, Nat.zero_le _, rfl, Lib.hid fun j hj => absurd hj (Nat.not_lt_zero _), hb0⟩
  case round =>
    obtain ⟨k, hk, rfl, h0, hB⟩ := hrel
    by_cases hlt : k < n
    · obtain ⟨b, off, rfl, hbw, hc⟩ := (h.out.below hB (Nat.le_refl _)).at_ (by omega)
      obtain ⟨c0, c1⟩ := hc k hlt
      obtain ⟨s0, s1⟩ := h.out.2.2.2.2 k
      have hsize := hB.size
      obtain ⟨ks, hks⟩ : ∃ s, keyAt E k = s := ⟨_, rfl⟩
      obtain ⟨vs, hvs⟩ : ∃ s, valAt E k = s := ⟨_, rfl⟩
      rw [hks] at c0 s0
      rw [hvs] at c1 s1
      obtain ⟨q, hq⟩ : ∃ q, k * 2 = q := ⟨_, rfl⟩
      rw [hq] at c0 c1
      have hBa := hB.alloc hB.size (.cells #[.string ks, .string vs] 68)
      have hkE : Hid (k < E.length) := Lib.hid (by rw [← hlen.out]; exact hlt)
      clear hc
      by_cases z1 : 140 < ks.size
      · have hv : Hid (fewB n2 E = false) := Lib.hid (fewB_no hkE.out (by unfold small; rw [hks, decide_eq_false (by omega)]; rfl))
        replace hks := Lib.hid hks
        replace hvs := Lib.hid hvs
        go_wp2
        go_ret
        exact ⟨ret_bool hv.out.symm, hBa⟩
      · by_cases z2 : 140 < vs.size
        · have hv : Hid (fewB n2 E = false) := Lib.hid (fewB_no hkE.out (by unfold small; rw [hks, hvs, decide_eq_false (p := vs.size ≤ 140) (by omega)]; simp))
          replace hks := Lib.hid hks
          replace hvs := Lib.hid hvs
          go_wp2
          go_ret
          exact ⟨ret_bool hv.out.symm, hBa⟩
        · have hv : Hid (small E k = true) := Lib.hid (by unfold small; rw [hks, hvs]; simp; omega)
          replace hks := Lib.hid hks
          replace hvs := Lib.hid hvs
          go_wp2
          refine ⟨⟨k + 1, hlt, by go_num, Lib.hid (fun j hj => ?_), hBa⟩, by simp [intOf]; omega⟩
          by_cases e : j = k
          · rw [e]; exact hv.out
          · exact h0.out j (by omega)
    · obtain rfl : k = n := by omega
      have hv : Hid (fewB n2 E = true) := Lib.hid (fewB_yes h3 hE.out (by rw [← hlen.out]; exact h0.out))
      go_wp2
      go_ret
      exact ⟨ret_bool hv.out.symm, hB⟩

end Go.Proofs.Ytfkoboljobghkaa
