/-
  Walks: sameRaster of the law.
-/
import Derived.Test.YtfkoboljobghkaaFrB
import Derived.Deep.QuietTactic
import Derived.BigQuiet
set_option linter.unusedSimpArgs false
set_option linter.unusedVariables false
namespace Go.Proofs.Ytfkoboljobghkaa
open Go.RowKit

/-- Are two rasters equal in all fields? -/
def eqr (W H M : Int) (P : List Int) (W2 H2 M2 : Int) (P2 : List Int) : Bool := decide (W = W2 ∧ H = H2 ∧ M = M2 ∧ P = P2)

set_option maxHeartbeats 3200000 in
/-- sameRaster of the law. -/
theorem sameRas_any (W H M : Int) (A : Option Addr) (n c : Nat) (P : List Int) (W2 H2 M2 : Int) (A2 : Option Addr) (n2 c2 : Nat) (P2 : List Int) (w : World) (h : Sl w A n c P) (h2 : Sl w A2 n2 c2 P2) :
    Calls Try.prog 21 #[.agg #[.int .i64 W, .int .i64 H, .int .i64 M, .slice A n c], .agg #[.int .i64 W2, .int .i64 H2, .int .i64 M2, .slice A2 n2 c2]] w fun e w' => e = .returned (.bool (eqr W H M P W2 H2 M2 P2)) ∧ Below w.heap.size w w' := by
  have hb := ((Below.refl w.heap.size w).alloc (Nat.le_refl _) (.cells #[.int .i64 W, .int .i64 H, .int .i64 M, .slice A n c] 25)).alloc (by simp) (.cells #[.int .i64 W2, .int .i64 H2, .int .i64 M2, .slice A2 n2 c2] 25)
  have hs := (h.alloc (.cells #[.int .i64 W, .int .i64 H, .int .i64 M, .slice A n c] 25)).alloc (.cells #[.int .i64 W2, .int .i64 H2, .int .i64 M2, .slice A2 n2 c2] 25)
  have hs2 := (h2.alloc (.cells #[.int .i64 W, .int .i64 H, .int .i64 M, .slice A n c] 25)).alloc (.cells #[.int .i64 W2, .int .i64 H2, .int .i64 M2, .slice A2 n2 c2] 25)
  have hcap := h.le_cap
  have hcl := h.cap_le
  have hcap2 := h2.le_cap
  have hcl2 := h2.cap_le
  clear h h2
  by_cases h1 : W = W2
  · by_cases h3 : H = H2
    · by_cases h4 : M = M2
      · subst h1 h3 h4
        have hr : eqr W H M P W H M P2 = eql P P2 := by unfold eqr eql; simp
        rw [hr]
        replace hr := Lib.hid hr
        have ha : (W != W) = false := by simp
        have hb' : (H != H) = false := by simp
        have hc' : (M != M) = false := by simp
        by_cases hl : n = n2
        · subst hl
          have ht2 : ((n : Int) != (n : Int)) = false := by simp
          have hln := Lib.hid hs.len
          have hln2 := Lib.hid hs2.len
          go_enter Try.func21, Try.ntmps21
          go_wp2
          go_loopw [37] (fun i wr => ∃ k q, k ≤ n ∧ i = .int .i64 ((k : Nat) : Int) ∧ Hid (∀ j, j < k → nth P j = nth P2 j) ∧ wr = ((w.alloc (.cells #[.int .i64 W, .int .i64 H, .int .i64 M, .slice A n c] 25)).alloc (.cells #[.int .i64 W, .int .i64 H, .int .i64 M, .slice A2 n c2] 25)).drewN q) (fun i _ => n - (intOf i).toNat)
          case atStart => exact ⟨0, 0, Nat.zero_le _, rfl, Lib.hid fun j h => absurd h (by omega), rfl⟩
          case round =>
            obtain ⟨k, q, hk, rfl, hag, rfl⟩ := hrel
            by_cases hlt : k < n
            · obtain ⟨b, off, rfl, hbl, hc⟩ := hs.at_ (by omega)
              obtain ⟨b2, off2, rfl, hbl2, hc2⟩ := hs2.at_ (by omega)
              have hcx := hc k hlt
              have hcy := hc2 k hlt
              clear hc hc2
              obtain ⟨x, hx⟩ : ∃ x, nth P k = x := ⟨_, rfl⟩
              obtain ⟨y, hy⟩ : ∃ y, nth P2 k = y := ⟨_, rfl⟩
              rw [hx] at hcx
              rw [hy] at hcy
              replace hx := Lib.hid hx
              replace hy := Lib.hid hy
              have hki : (k : Int) < (n : Int) := by omega
              by_cases hxy : x = y
              · subst hxy
                have ht3 : ((x : Int) != (x : Int)) = false := by simp
                go_wp2
                go_quiet (fail)
                go_wp2
                go_roundw
                case rel => exact ⟨k + 1, _, by omega, by go_num, Lib.hid (fun j h => by
                  by_cases e : j = k
                  · rw [e, hx.out, hy.out]
                  · exact hag.out j (by omega)), rfl⟩
                case measure => simp [intOf]; omega
              · have ht3 : ((x : Int) != (y : Int)) = true := by rw [bne_iff_ne]; omega
                have hf : eql P P2 = false := eql_at (i := k) (by rw [hx.out, hy.out]; exact hxy)
                replace hf := Lib.hid hf
                replace hxy := Lib.hid hxy
                go_wp2
                go_quiet (fail)
                go_wp2
                go_ret
                exact ⟨ret_bool hf.out.symm, by first | exact below_drewN hb _ | exact below_drewN (below_drewN hb _) _⟩
            · have hf : eql P P2 = true := eql_yes (by rw [← hln.out, ← hln2.out]) (fun j hj => hag.out j (by rw [← hln.out] at hj; omega))
              replace hf := Lib.hid hf
              go_wp2
              go_ret
              exact ⟨ret_bool hf.out.symm, by first | exact below_drewN hb _ | exact below_drewN (below_drewN hb _) _⟩
        · have ht2 : ((n : Int) != (n2 : Int)) = true := by rw [bne_iff_ne]; omega
          have hf : eql P P2 = false := eql_len (by rw [← hs.len, ← hs2.len]; exact hl)
          replace hl := Lib.hid hl
          rw [hf]
          go_enter Try.func21, Try.ntmps21
          go_wp2
          go_ret
          exact ⟨rfl, hb⟩
      · subst h1 h3
        have hr : eqr W H M P W H M2 P2 = false := by unfold eqr; simp [h4]
        rw [hr]
        replace hr := Lib.hid hr
        have ha : (W != W) = false := by simp
        have hb' : (H != H) = false := by simp
        have hc' : (M != M2) = true := by simp [h4]
        replace h4 := Lib.hid h4
        go_enter Try.func21, Try.ntmps21
        go_wp2
        go_ret
        exact ⟨rfl, hb⟩
    · subst h1
      have hr : eqr W H M P W H2 M2 P2 = false := by unfold eqr; simp [h3]
      rw [hr]
      replace hr := Lib.hid hr
      have ha : (W != W) = false := by simp
      have hb' : (H != H2) = true := by simp [h3]
      replace h3 := Lib.hid h3
      go_enter Try.func21, Try.ntmps21
      go_wp2
      go_ret
      exact ⟨rfl, hb⟩
  · have hr : eqr W H M P W2 H2 M2 P2 = false := by unfold eqr; simp [h1]
    rw [hr]
    replace hr := Lib.hid hr
    have ha : (W != W2) = true := by simp [h1]
    replace h1 := Lib.hid h1
    go_enter Try.func21, Try.ntmps21
    go_wp2
    go_ret
    exact ⟨rfl, hb⟩

end Go.Proofs.Ytfkoboljobghkaa
