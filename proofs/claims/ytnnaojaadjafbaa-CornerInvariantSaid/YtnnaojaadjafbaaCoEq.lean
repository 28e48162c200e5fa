/-
  Walk: slices.Equal at []api.Corner.
-/
import Derived.Test.YtnnaojaadjafbaaCoM
import Derived.Test.YtnnaojaadjafbaaCoB
import Derived.Laws.StructEq
set_option linter.unusedSimpArgs false
set_option linter.unusedVariables false
namespace Go.Proofs.Ytnnaojaadjafbaa
open Go.RowKit

theorem cor_neq (a b c x y z : Int) (w : World) :
    (binOp .neq 36 (.agg #[.int .i64 a, .int .i64 b, .int .i64 c]) (.agg #[.int .i64 x, .int .i64 y, .int .i64 z])).run Try.prog w = .ok (.bool (!(a == x && (b == y && c == z)))) w := by
  have hu := Try.underlying36
  have hs := Try.underlying3
  rw [run_neq_struct, run_equalIn_struct (d := 9999) (ht := by simp only [Program.fieldsOf, hu]) (hp := by kernel_rfl)]
  simp only [Program.fieldsOf, hu]
  by_cases h1 : a == x <;> by_cases h2 : b == y <;> by_cases h3 : c == z <;> simp [Op.eqFields, go_sem, h1, h2, h3, hs]
theorem cor_eql (a b c x y z : Int) (w : World) :
    (binOp .eql 36 (.agg #[.int .i64 a, .int .i64 b, .int .i64 c]) (.agg #[.int .i64 x, .int .i64 y, .int .i64 z])).run Try.prog w = .ok (.bool (a == x && (b == y && c == z))) w := by
  have hu := Try.underlying36
  have hs := Try.underlying3
  rw [run_eql_struct, run_equalIn_struct (d := 9999) (ht := by simp only [Program.fieldsOf, hu]) (hp := by kernel_rfl)]
  simp only [Program.fieldsOf, hu]
  by_cases h1 : a == x <;> by_cases h2 : b == y <;> by_cases h3 : c == z <;> simp [Op.eqFields, go_sem, h1, h2, h3, hs]
theorem cor_guard (op : BinOp) (X Y : Operand) (a b c x y z : Int) (w : World) :
    (eqGuard op 36 X Y (.agg #[.int .i64 a, .int .i64 b, .int .i64 c]) (.agg #[.int .i64 x, .int .i64 y, .int .i64 z])).run Try.prog w = .ok () w :=
  run_eqGuard_agg w op _ X Y _ _ (by kernel_rfl)
theorem cor_beq {p q : Cor} : (p.1 == q.1 && (p.2.1 == q.2.1 && p.2.2 == q.2.2)) = decide (p = q) := by
  obtain ⟨a, b, c⟩ := p
  obtain ⟨x, y, z⟩ := q
  rw [Bool.eq_iff_iff]
  simp
theorem cor_neq_at {p q : Cor} {r : Bool} (h : decide (p = q) = !r) (w : World) :
    (binOp .neq 36 (.agg #[.int .i64 p.1, .int .i64 p.2.1, .int .i64 p.2.2]) (.agg #[.int .i64 q.1, .int .i64 q.2.1, .int .i64 q.2.2])).run Try.prog w = .ok (.bool r) w := by
  rw [cor_neq, cor_beq, h, Bool.not_not]

/-- Are two lists of corners the same? -/
def eqc (l l2 : List Cor) : Bool := decide (l = l2)
theorem cor_ext {l l2 : List Cor} (h : l.length = l2.length) (ha : ∀ j, j < l.length → corAt l j = corAt l2 j) : l = l2 := by
  apply List.ext_getElem h
  intro i h1 h2
  have := ha i h1
  rwa [corAt_eq h1, corAt_eq h2] at this
theorem eqc_yes {l l2 : List Cor} (h : l.length = l2.length) (ha : ∀ j, j < l.length → corAt l j = corAt l2 j) : eqc l l2 = true := decide_eq_true (cor_ext h ha)
theorem eqc_at {l l2 : List Cor} {i : Nat} (h : corAt l i ≠ corAt l2 i) : eqc l l2 = false := decide_eq_false fun e => h (by rw [e])
theorem eqc_len {l l2 : List Cor} (h : l.length ≠ l2.length) : eqc l l2 = false := decide_eq_false fun e => h (by rw [e])

set_option maxHeartbeats 1600000 in
theorem cEqual_any (A : Option Addr) (n c : Nat) (l : List Cor) (A2 : Option Addr) (n2 c2 : Nat) (l2 : List Cor) (w : World) (h : CS w A n c l) (h2 : CS w A2 n2 c2 l2) :
    Calls Try.prog 18 #[.slice A n c, .slice A2 n2 c2] w fun e w' => e = .returned (.bool (eqc l l2)) ∧ Below w.heap.size w w' := by
  have hcap := h.2.1
  have hcl := h.2.2.1
  have hcap2 := h2.2.1
  have hcl2 := h2.2.2.1
  by_cases hl : n = n2
  · subst hl
    have ht2 : ((n : Int) != (n : Int)) = false := by simp
    have hln := Lib.hid h.1
    have hln2 := Lib.hid h2.1
    go_enter Try.func18, Try.ntmps18
    go_wp2
    go_loopw [13] (fun i wr => ∃ k q, k ≤ n ∧ i = .int .i64 ((k : Nat) : Int) ∧ Hid (∀ j, j < k → corAt l j = corAt l2 j) ∧ wr = w.drewN q) (fun i _ => n - (intOf i).toNat)
    case atStart => exact ⟨0, 0, Nat.zero_le _, rfl, Lib.hid fun j h => absurd h (by omega), rfl⟩
    case round =>
      obtain ⟨k, q, hk, rfl, hag, rfl⟩ := hrel
      by_cases hlt : k < n
      · obtain ⟨b, off, rfl, hbl, hc⟩ := h.at_ (by omega)
        obtain ⟨b2, off2, rfl, hbl2, hc2⟩ := h2.at_ (by omega)
        obtain ⟨x0, x1, x2⟩ := hc k hlt
        obtain ⟨y0, y1, y2⟩ := hc2 k hlt
        clear hc hc2
        obtain ⟨⟨a1, a2, a3⟩, hx⟩ : ∃ x, corAt l k = x := ⟨_, rfl⟩
        obtain ⟨⟨c1, c2, c3⟩, hy⟩ : ∃ y, corAt l2 k = y := ⟨_, rfl⟩
        obtain ⟨u, hu⟩ : ∃ u, k * 3 = u := ⟨_, rfl⟩
        rw [hx, hu] at x0 x1 x2
        rw [hy, hu] at y0 y1 y2
        replace hx := Lib.hid hx
        replace hy := Lib.hid hy
        have hki : (k : Int) < (n : Int) := by omega
        by_cases hxy : (a1, a2, a3) = (c1, c2, c3)
        · have hxy' := hxy
          simp only [Prod.mk.injEq] at hxy'
          obtain ⟨rfl, rfl, rfl⟩ := hxy'
          have hq1 := fun W => cor_neq_at (p := (a1, a2, a3)) (q := (a1, a2, a3)) (r := false) (by simp) W
          have hg1 := fun W X Y => cor_guard .neq X Y a1 a2 a3 a1 a2 a3 W
          clear hxy
          go_wp2
          go_quiet (fail)
          go_wp2
          go_roundw
          case rel => exact ⟨k + 1, _, by omega, by go_num, Lib.hid (fun j h => by
            by_cases e : j = k
            · rw [e, hx.out, hy.out]
            · exact hag.out j (by omega)), rfl⟩
          case measure => simp [intOf]; omega
        · have hq1 := fun W => cor_neq_at (p := (a1, a2, a3)) (q := (c1, c2, c3)) (r := true) (by simpa using hxy) W
          have hg1 := fun W X Y => cor_guard .neq X Y a1 a2 a3 c1 c2 c3 W
          have hf : eqc l l2 = false := eqc_at (i := k) (by rw [hx.out, hy.out]; exact hxy)
          replace hf := Lib.hid hf
          replace hxy := Lib.hid hxy
          go_wp2
          go_quiet (fail)
          go_wp2
          go_ret
          exact ⟨ret_bool hf.out.symm, below_drewN (below_drewN (Below.refl _ _) _) _⟩
      · have hf : eqc l l2 = true := eqc_yes (by rw [← hln.out, ← hln2.out]) (fun j hj => hag.out j (by rw [← hln.out] at hj; omega))
        replace hf := Lib.hid hf
        go_wp2
        go_ret
        exact ⟨ret_bool hf.out.symm, below_drewN (Below.refl _ _) _⟩
  · have ht2 : ((n : Int) != (n2 : Int)) = true := by rw [bne_iff_ne]; omega
    have hf : eqc l l2 = false := eqc_len (by rw [← h.1, ← h2.1]; exact hl)
    replace hl := Lib.hid hl
    rw [hf]
    go_enter Try.func18, Try.ntmps18
    go_wp2
    go_ret
    exact ⟨rfl, Below.refl _ _⟩

end Go.Proofs.Ytnnaojaadjafbaa
