/-
  Equality of tests; slices.Equal at tests.
-/
import Derived.Test.YtonpnjjfidpoiaaDsB
import Derived.Laws.StructEq
import Derived.ChangeKeysEq
set_option linter.unusedSimpArgs false
set_option linter.unusedVariables false
namespace Go.Proofs.Ytonpnjjfidpoiaa
open Go.RowKit

theorem arr4_eq (d : Nat) (a b c e x y z u : Int) (w : World) :
    (Op.equalIn (d + 2) 28 (.agg #[.int .i64 a, .int .i64 b, .int .i64 c, .int .i64 e]) (.agg #[.int .i64 x, .int .i64 y, .int .i64 z, .int .i64 u])).run Try.prog w = .ok (a == x && (b == y && (c == z && e == u))) w := by
  obtain ⟨i0, hi, -⟩ := info_parts infoI
  have hc : Try.prog.cellsOf 3 = 1 := by kernel_rfl
  have hp : Try.prog.plainKey 3 = true := by kernel_rfl
  have hs := Try.underlying3
  have part_at : ∀ (xs : Array Value) (k : Nat) (q : Int) (w : World), xs[k]? = some (.int .i64 q) → (part 3 xs k).run Try.prog w = .ok (.int .i64 q) w := fun xs k q w h => run_part_plain w hp h
  have eq_at : ∀ (p q : Int) (w : World), (Op.equalIn (d + 1) 3 (.int .i64 p) (.int .i64 q)).run Try.prog w = .ok (p == q) w := fun p q w => run_equalIn_int w d _ _ _ p q hs
  rw [run_equalIn_array w (d + 1) _ _ Try.underlying28 hi, hc, show List.range 4 = [0, 1, 2, 3] from rfl]
  simp only [Op.eqItems, Sem.run_bind, Nat.mul_one]
  rw [part_at _ 0 a w rfl]
  simp only [Result.andThen_ok]
  rw [part_at _ 0 x w rfl]
  simp only [Result.andThen_ok, eq_at]
  cases h1 : a == x
  · simp
  simp only [Bool.not_true, Bool.false_eq_true, if_false, Bool.true_and, Sem.run_bind]
  rw [part_at _ 1 b w rfl]
  simp only [Result.andThen_ok]
  rw [part_at _ 1 y w rfl]
  simp only [Result.andThen_ok, eq_at]
  cases h2 : b == y
  · simp
  simp only [Bool.not_true, Bool.false_eq_true, if_false, Bool.true_and, Sem.run_bind]
  rw [part_at _ 2 c w rfl]
  simp only [Result.andThen_ok]
  rw [part_at _ 2 z w rfl]
  simp only [Result.andThen_ok, eq_at]
  cases h3 : c == z
  · simp
  simp only [Bool.not_true, Bool.false_eq_true, if_false, Bool.true_and, Sem.run_bind]
  rw [part_at _ 3 e w rfl]
  simp only [Result.andThen_ok]
  rw [part_at _ 3 u w rfl]
  simp only [Result.andThen_ok, eq_at]
  cases h4 : e == u <;> simp

theorem tst_beq {x y : Tst} : ((x.1.1 == y.1.1 && (x.1.2.1 == y.1.2.1 && (x.1.2.2.1 == y.1.2.2.1 && x.1.2.2.2 == y.1.2.2.2))) && (x.2.1 == y.2.1 && (x.2.2.1 == y.2.2.1 && (x.2.2.2.1 == y.2.2.2.1 && x.2.2.2.2 == y.2.2.2.2)))) = decide (x = y) := by
  obtain ⟨⟨a, b, c, e⟩, a', b', c', e'⟩ := x
  obtain ⟨⟨x, y, z, u⟩, x', y', z', u'⟩ := y
  rw [Bool.eq_iff_iff]
  simp
theorem tst_neq (a b c e f g h i x y z u x' y' z' u' : Int) (w : World) :
    (binOp .neq 30 (.agg #[.int .i64 a, .int .i64 b, .int .i64 c, .int .i64 e, .int .i64 f, .int .i64 g, .int .i64 h, .int .i64 i]) (.agg #[.int .i64 x, .int .i64 y, .int .i64 z, .int .i64 u, .int .i64 x', .int .i64 y', .int .i64 z', .int .i64 u'])).run Try.prog w
      = .ok (.bool (!decide ((((a, b, c, e), f, g, h, i) : Tst) = ((x, y, z, u), x', y', z', u')))) w := by
  have hu := Try.underlying30
  have h4 : ∀ (a b c e x y z u : Int) (w : World), (Op.equalIn 9999 28 (.agg #[.int .i64 a, .int .i64 b, .int .i64 c, .int .i64 e]) (.agg #[.int .i64 x, .int .i64 y, .int .i64 z, .int .i64 u])).run Try.prog w = .ok (a == x && (b == y && (c == z && e == u))) w := fun a b c e x y z u w => arr4_eq 9997 a b c e x y z u w
  rw [← tst_beq]
  rw [run_neq_struct, run_equalIn_struct (d := 9999) (ht := by simp only [Program.fieldsOf, hu]) (hp := by kernel_rfl)]
  simp only [Program.fieldsOf, hu]
  have p0 : ∀ (w : World) (q0 q1 q2 q3 q4 q5 q6 q7 : Value), (part 28 #[q0, q1, q2, q3, q4, q5, q6, q7] 0).run Try.prog w = .ok (.agg #[q0, q1, q2, q3]) w := fun _ _ _ _ _ _ _ _ _ => by kernel_rfl
  have p4 : ∀ (w : World) (q0 q1 q2 q3 q4 q5 q6 q7 : Value), (part 28 #[q0, q1, q2, q3, q4, q5, q6, q7] 4).run Try.prog w = .ok (.agg #[q4, q5, q6, q7]) w := fun _ _ _ _ _ _ _ _ _ => by kernel_rfl
  have n1 : ("A" : String) ≠ "_" := by decide
  have n2 : ("B" : String) ≠ "_" := by decide
  simp only [Op.eqFields, n1, n2, ne_eq, not_false_eq_true, if_true, Sem.run_bind, p0, p4, h4, Result.andThen_ok]
  cases h1 : (a == x && (b == y && (c == z && e == u)))
  · simp
  · simp only [Bool.not_true, Bool.false_eq_true, if_false, Sem.run_bind, p4, h4, Result.andThen_ok, Bool.true_and]
    cases h2 : (f == x' && (g == y' && (h == z' && i == u'))) <;> simp
theorem tst_guard (op : BinOp) (X Y : Operand) (a b c e f g h i x y z u x' y' z' u' : Int) (w : World) :
    (eqGuard op 30 X Y (.agg #[.int .i64 a, .int .i64 b, .int .i64 c, .int .i64 e, .int .i64 f, .int .i64 g, .int .i64 h, .int .i64 i]) (.agg #[.int .i64 x, .int .i64 y, .int .i64 z, .int .i64 u, .int .i64 x', .int .i64 y', .int .i64 z', .int .i64 u'])).run Try.prog w = .ok () w :=
  run_eqGuard_agg w op _ X Y _ _ (by kernel_rfl)
theorem tst_neq_at {a b c e f g h i x y z u x' y' z' u' : Int} {r : Bool} (hr : decide ((((a, b, c, e), f, g, h, i) : Tst) = ((x, y, z, u), x', y', z', u')) = !r) (w : World) :
    (binOp .neq 30 (.agg #[.int .i64 a, .int .i64 b, .int .i64 c, .int .i64 e, .int .i64 f, .int .i64 g, .int .i64 h, .int .i64 i]) (.agg #[.int .i64 x, .int .i64 y, .int .i64 z, .int .i64 u, .int .i64 x', .int .i64 y', .int .i64 z', .int .i64 u'])).run Try.prog w = .ok (.bool r) w := by
  rw [tst_neq, hr, Bool.not_not]

/-- Are two patterns the same? -/
def eqp (l l2 : List Tst) : Bool := decide (l = l2)
theorem tst_ext {l l2 : List Tst} (h : l.length = l2.length) (ha : ∀ j, j < l.length → tstAt l j = tstAt l2 j) : l = l2 := by
  apply List.ext_getElem h
  intro i h1 h2
  have := ha i h1
  rwa [tstAt_eq h1, tstAt_eq h2] at this
theorem eqp_yes {l l2 : List Tst} (h : l.length = l2.length) (ha : ∀ j, j < l.length → tstAt l j = tstAt l2 j) : eqp l l2 = true := decide_eq_true (tst_ext h ha)
theorem eqp_at {l l2 : List Tst} {i : Nat} (h : tstAt l i ≠ tstAt l2 i) : eqp l l2 = false := decide_eq_false fun e => h (by rw [e])
theorem eqp_len {l l2 : List Tst} (h : l.length ≠ l2.length) : eqp l l2 = false := decide_eq_false fun e => h (by rw [e])

set_option maxRecDepth 20000 in
set_option maxHeartbeats 1600000 in
theorem tEqual_any (A : Option Addr) (n c : Nat) (l : List Tst) (A2 : Option Addr) (n2 c2 : Nat) (l2 : List Tst) (w : World) (h : PS w A n c l) (h2 : PS w A2 n2 c2 l2) :
    Calls Try.prog 26 #[.slice A n c, .slice A2 n2 c2] w fun e w' => e = .returned (.bool (eqp l l2)) ∧ Below w.heap.size w w' := by
  have hcap := h.2.1
  have hcl := h.2.2.1
  have hcap2 := h2.2.1
  have hcl2 := h2.2.2.1
  by_cases hl : n = n2
  · subst hl
    have ht2 : ((n : Int) != (n : Int)) = false := by simp
    have hln := Lib.hid h.len
    have hln2 := Lib.hid h2.len
    go_enter Try.func26, Try.ntmps26
    go_wp2
    go_loopw [13] (fun i wr => ∃ k q, k ≤ n ∧ i = .int .i64 ((k : Nat) : Int) ∧ Hid (∀ j, j < k → tstAt l j = tstAt l2 j) ∧ wr = w.drewN q) (fun i _ => n - (intOf i).toNat)
    case atStart => exact ⟨0, 0, Nat.zero_le _, rfl, Lib.hid fun j h => absurd h (by omega), rfl⟩
    case round =>
      obtain ⟨k, q, hk, rfl, hag, rfl⟩ := hrel
      by_cases hlt : k < n
      · obtain ⟨b, off, rfl, hbl, hc⟩ := PS.at_ h (by omega)
        obtain ⟨b2, off2, rfl, hbl2, hc2⟩ := PS.at_ h2 (by omega)
        obtain ⟨⟨x0, x1, x2, x3⟩, x4, x5, x6, x7⟩ := hc k hlt
        obtain ⟨⟨y0, y1, y2, y3⟩, y4, y5, y6, y7⟩ := hc2 k hlt
        clear hc hc2
        obtain ⟨⟨⟨a1, a2, a3, a4⟩, a5, a6, a7, a8⟩, hx⟩ : ∃ x, tstAt l k = x := ⟨_, rfl⟩
        obtain ⟨⟨⟨c1, c2, c3, c4⟩, c5, c6, c7, c8⟩, hy⟩ : ∃ y, tstAt l2 k = y := ⟨_, rfl⟩
        obtain ⟨u, hu⟩ : ∃ u, k * 8 = u := ⟨_, rfl⟩
        rw [hx, hu] at x0 x1 x2 x3 x4 x5 x6 x7
        rw [hy, hu] at y0 y1 y2 y3 y4 y5 y6 y7
        replace hx := Lib.hid hx
        replace hy := Lib.hid hy
        have hki : (k : Int) < (n : Int) := by omega
        by_cases hxy : ((((a1, a2, a3, a4), a5, a6, a7, a8) : Tst) = ((c1, c2, c3, c4), c5, c6, c7, c8))
        · have hxy' := hxy
          simp only [Prod.mk.injEq] at hxy'
          obtain ⟨⟨rfl, rfl, rfl, rfl⟩, rfl, rfl, rfl, rfl⟩ := hxy'
          have hq1 := fun W => tst_neq_at (a := a1) (b := a2) (c := a3) (e := a4) (f := a5) (g := a6) (h := a7) (i := a8) (x := a1) (y := a2) (z := a3) (u := a4) (x' := a5) (y' := a6) (z' := a7) (u' := a8) (r := false) (by simp) W
          have hg1 := fun W X Y => tst_guard .neq X Y a1 a2 a3 a4 a5 a6 a7 a8 a1 a2 a3 a4 a5 a6 a7 a8 W
          clear hxy
          go_wp2
          go_quiet (fail)
          go_wp2
          go_roundw
          case rel => exact ⟨k + 1, _, by omega, by go_num, Lib.hid (fun j h => by
            by_cases e : j = k
            · rw [e, hx.out, hy.out]
            · exact hag.out j (by omega)), rfl⟩
          case measure => simp [intOf]; omega
        · have hq1 := fun W => tst_neq_at (a := a1) (b := a2) (c := a3) (e := a4) (f := a5) (g := a6) (h := a7) (i := a8) (x := c1) (y := c2) (z := c3) (u := c4) (x' := c5) (y' := c6) (z' := c7) (u' := c8) (r := true) (by rw [decide_eq_false hxy]; rfl) W
          have hg1 := fun W X Y => tst_guard .neq X Y a1 a2 a3 a4 a5 a6 a7 a8 c1 c2 c3 c4 c5 c6 c7 c8 W
          have hf : eqp l l2 = false := eqp_at (i := k) (by rw [hx.out, hy.out]; exact hxy)
          replace hf := Lib.hid hf
          replace hxy := Lib.hid hxy
          go_wp2
          go_quiet (fail)
          go_wp2
          go_ret
          exact ⟨ret_bool hf.out.symm, below_drewN (below_drewN (Below.refl _ _) _) _⟩
      · have hf : eqp l l2 = true := eqp_yes (by rw [← hln.out, ← hln2.out]) (fun j hj => hag.out j (by rw [← hln.out] at hj; omega))
        replace hf := Lib.hid hf
        go_wp2
        go_ret
        exact ⟨ret_bool hf.out.symm, below_drewN (Below.refl _ _) _⟩
  · have ht2 : ((n : Int) != (n2 : Int)) = true := by rw [bne_iff_ne]; omega
    have hf : eqp l l2 = false := eqp_len (by rw [← h.len, ← h2.len]; exact hl)
    replace hl := Lib.hid hl
    rw [hf]
    go_enter Try.func26, Try.ntmps26
    go_wp2
    go_ret
    exact ⟨rfl, Below.refl _ _⟩


end Go.Proofs.Ytonpnjjfidpoiaa
