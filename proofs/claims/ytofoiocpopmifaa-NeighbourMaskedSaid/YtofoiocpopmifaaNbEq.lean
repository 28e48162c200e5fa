/-
  Walk: slices.Equal at []api.Match.
-/
import Derived.Test.YtofoiocpopmifaaNbMa
import Derived.Laws.StructEq
set_option linter.unusedSimpArgs false
set_option linter.unusedVariables false
namespace Go.Proofs.Ytofoiocpopmifaa
open Go.RowKit

theorem mat_neq (a b c x y z : Int) (w : World) :
    (binOp .neq 53 (.agg #[.int .i64 a, .int .i64 b, .int .i64 c]) (.agg #[.int .i64 x, .int .i64 y, .int .i64 z])).run Try.prog w = .ok (.bool (!(a == x && (b == y && c == z)))) w := by
  have hu := Try.underlying53
  have hs := Try.underlying3
  rw [run_neq_struct, run_equalIn_struct (d := 9999) (ht := by simp only [Program.fieldsOf, hu]) (hp := by kernel_rfl)]
  simp only [Program.fieldsOf, hu]
  by_cases h1 : a == x <;> by_cases h2 : b == y <;> by_cases h3 : c == z <;> simp [Op.eqFields, go_sem, h1, h2, h3, hs]
theorem mat_eql (a b c x y z : Int) (w : World) :
    (binOp .eql 53 (.agg #[.int .i64 a, .int .i64 b, .int .i64 c]) (.agg #[.int .i64 x, .int .i64 y, .int .i64 z])).run Try.prog w = .ok (.bool (a == x && (b == y && c == z))) w := by
  have hu := Try.underlying53
  have hs := Try.underlying3
  rw [run_eql_struct, run_equalIn_struct (d := 9999) (ht := by simp only [Program.fieldsOf, hu]) (hp := by kernel_rfl)]
  simp only [Program.fieldsOf, hu]
  by_cases h1 : a == x <;> by_cases h2 : b == y <;> by_cases h3 : c == z <;> simp [Op.eqFields, go_sem, h1, h2, h3, hs]
theorem mat_guard (op : BinOp) (X Y : Operand) (a b c x y z : Int) (w : World) :
    (eqGuard op 53 X Y (.agg #[.int .i64 a, .int .i64 b, .int .i64 c]) (.agg #[.int .i64 x, .int .i64 y, .int .i64 z])).run Try.prog w = .ok () w :=
  run_eqGuard_agg w op _ X Y _ _ (by kernel_rfl)
theorem mat_beq {p q : Mat} : ((p.1 : Int) == (q.1 : Int) && ((p.2.1 : Int) == (q.2.1 : Int) && (p.2.2 : Int) == (q.2.2 : Int))) = decide (p = q) := by
  obtain ⟨a, b, c⟩ := p
  obtain ⟨x, y, z⟩ := q
  rw [Bool.eq_iff_iff]
  simp
  omega
theorem mat_neq_at {p q : Mat} {r : Bool} (h : decide (p = q) = !r) (w : World) :
    (binOp .neq 53 (.agg #[.int .i64 (p.1 : Int), .int .i64 (p.2.1 : Int), .int .i64 (p.2.2 : Int)]) (.agg #[.int .i64 (q.1 : Int), .int .i64 (q.2.1 : Int), .int .i64 (q.2.2 : Int)])).run Try.prog w = .ok (.bool r) w := by
  rw [mat_neq, mat_beq, h, Bool.not_not]

def matAt (l : List Mat) (i : Nat) : Mat := l.getD i (0, 0, 0)
theorem matAt_eq {l : List Mat} {i : Nat} (h : i < l.length) : matAt l i = l[i] := by simp [matAt, List.getD, List.getElem?_eq_getElem h]
theorem mcells_at : ∀ {l : List Mat} {i : Nat}, i < l.length → (mcells l)[i * 3]? = some (.int .i64 ((matAt l i).1 : Int)) ∧ (mcells l)[i * 3 + 1]? = some (.int .i64 ((matAt l i).2.1 : Int)) ∧ (mcells l)[i * 3 + 2]? = some (.int .i64 ((matAt l i).2.2 : Int))
  | [], i, h => by simp at h
  | e :: l, 0, h => ⟨rfl, rfl, rfl⟩
  | e :: l, i + 1, h => by
    have := mcells_at (l := l) (i := i) (by simpa using h)
    rw [show (i + 1) * 3 = i * 3 + 1 + 1 + 1 from by omega]
    exact this
/-- A slice value reads as a list of matches. -/
def MS (w : World) (A : Option Addr) (n c : Nat) (l : List Mat) : Prop := SR w A n c 3 (mcells l)
section
variable {w w' : World} {A : Option Addr} {n c : Nat} {l : List Mat}
theorem MS.len (h : MS w A n c l) : n = l.length := by have := h.1; rw [mcells_length] at this; omega
theorem MS.at_ (h : MS w A n c l) (h0 : 0 < n) : ∃ b off, A = some ⟨b, off, none⟩ ∧ b < w.heap.size ∧ ∀ i, i < n → w.cell? ⟨b, off + i * 3, none⟩ = some (.int .i64 ((matAt l i).1 : Int)) ∧ w.cell? ⟨b, off + i * 3 + 1, none⟩ = some (.int .i64 ((matAt l i).2.1 : Int)) ∧ w.cell? ⟨b, off + i * 3 + 2, none⟩ = some (.int .i64 ((matAt l i).2.2 : Int)) := by
  obtain ⟨b, off, e, hb, hc⟩ := SR.at_ h h0
  refine ⟨b, off, e, hb, fun i hi => ?_⟩
  obtain ⟨e0, e1, e2⟩ := mcells_at (l := l) (i := i) (by rw [← h.len]; exact hi)
  exact ⟨hc _ _ e0, by rw [Nat.add_assoc]; exact hc _ _ e1, by rw [Nat.add_assoc]; exact hc _ _ e2⟩
theorem MS.below (h : MS w A n c l) {B : Nat} (hb : Below B w w') (hB : w.heap.size ≤ B) : MS w' A n c l := SR.below h hb hB
theorem MS.alloc (h : MS w A n c l) (o : Obj) : MS (w.alloc o) A n c l := SR.alloc h o
theorem MS.drewN (h : MS w A n c l) (q : Nat) : MS (w.drewN q) A n c l := h
theorem MS.lit (W : World) (l : List Mat) (hm : l.length ≤ 1000000) : MS (W.alloc (.cells (mcells l).toArray 53)) (some ⟨W.heap.size, 0, none⟩) l.length l.length l := SR.lit W _ _ _ 3 (mcells_length l) hm
end

/-- Are two lists of matches the same? -/
def eqm (l l2 : List Mat) : Bool := decide (l = l2)
theorem mat_ext {l l2 : List Mat} (h : l.length = l2.length) (ha : ∀ j, j < l.length → matAt l j = matAt l2 j) : l = l2 := by
  apply List.ext_getElem h
  intro i h1 h2
  have := ha i h1
  rwa [matAt_eq h1, matAt_eq h2] at this
theorem eqm_yes {l l2 : List Mat} (h : l.length = l2.length) (ha : ∀ j, j < l.length → matAt l j = matAt l2 j) : eqm l l2 = true := decide_eq_true (mat_ext h ha)
theorem eqm_at {l l2 : List Mat} {i : Nat} (h : matAt l i ≠ matAt l2 i) : eqm l l2 = false := decide_eq_false fun e => h (by rw [e])
theorem eqm_len {l l2 : List Mat} (h : l.length ≠ l2.length) : eqm l l2 = false := decide_eq_false fun e => h (by rw [e])

set_option maxHeartbeats 1600000 in
theorem mEqual_any (A : Option Addr) (n c : Nat) (l : List Mat) (A2 : Option Addr) (n2 c2 : Nat) (l2 : List Mat) (w : World) (h : MS w A n c l) (h2 : MS w A2 n2 c2 l2) :
    Calls Try.prog 25 #[.slice A n c, .slice A2 n2 c2] w fun e w' => e = .returned (.bool (eqm l l2)) ∧ Below w.heap.size w w' := by
  have hcap := h.2.1
  have hcl := h.2.2.1
  have hcap2 := h2.2.1
  have hcl2 := h2.2.2.1
  by_cases hl : n = n2
  · subst hl
    have ht2 : ((n : Int) != (n : Int)) = false := by simp
    have hln := Lib.hid h.len
    have hln2 := Lib.hid h2.len
    go_enter Try.func25, Try.ntmps25
    go_wp2
    go_loopw [13] (fun i wr => ∃ k q, k ≤ n ∧ i = .int .i64 ((k : Nat) : Int) ∧ Hid (∀ j, j < k → matAt l j = matAt l2 j) ∧ wr = w.drewN q) (fun i _ => n - (intOf i).toNat)
    case atStart => exact ⟨0, 0, Nat.zero_le _, rfl, Lib.hid fun j h => absurd h (by omega), rfl⟩
    case round =>
      obtain ⟨k, q, hk, rfl, hag, rfl⟩ := hrel
      by_cases hlt : k < n
      · obtain ⟨b, off, rfl, hbl, hc⟩ := h.at_ (by omega)
        obtain ⟨b2, off2, rfl, hbl2, hc2⟩ := h2.at_ (by omega)
        obtain ⟨x0, x1, x2⟩ := hc k hlt
        obtain ⟨y0, y1, y2⟩ := hc2 k hlt
        clear hc hc2
        obtain ⟨⟨a1, a2, a3⟩, hx⟩ : ∃ x, matAt l k = x := ⟨_, rfl⟩
        obtain ⟨⟨c1, c2, c3⟩, hy⟩ : ∃ y, matAt l2 k = y := ⟨_, rfl⟩
        obtain ⟨u, hu⟩ : ∃ u, k * 3 = u := ⟨_, rfl⟩
        rw [hx, hu] at x0 x1 x2
        rw [hy, hu] at y0 y1 y2
        replace hx := Lib.hid hx
        replace hy := Lib.hid hy
        have hki : (k : Int) < (n : Int) := by omega
        by_cases hxy : (a1, a2, a3) = (c1, c2, c3)
        · have hxy' := hxy
          simp only [Prod.mk.injEq] at hxy'
          obtain ⟨rfl, rfl, rfl⟩ := hxy'
          have hq1 := fun W => mat_neq_at (p := (a1, a2, a3)) (q := (a1, a2, a3)) (r := false) (by simp) W
          have hg1 := fun W X Y => mat_guard .neq X Y a1 a2 a3 a1 a2 a3 W
          clear hxy
          go_wp2
          go_quiet (fail)
          go_wp2
          go_roundw
          case rel => exact ⟨k + 1, _, by omega, by go_num, Lib.hid (fun j h => by
            by_cases e : j = k
            · rw [e, hx.out, hy.out]
            · exact hag.out j (by omega)), rfl⟩
          case measure => simp [intOf]; omega
        · have hq1 := fun W => mat_neq_at (p := (a1, a2, a3)) (q := (c1, c2, c3)) (r := true) (by simpa using hxy) W
          have hg1 := fun W X Y => mat_guard .neq X Y a1 a2 a3 c1 c2 c3 W
          have hf : eqm l l2 = false := eqm_at (i := k) (by rw [hx.out, hy.out]; exact hxy)
          replace hf := Lib.hid hf
          replace hxy := Lib.hid hxy
          go_wp2
          go_quiet (fail)
          go_wp2
          go_ret
          exact ⟨ret_bool hf.out.symm, below_drewN (below_drewN (Below.refl _ _) _) _⟩
      · have hf : eqm l l2 = true := eqm_yes (by rw [← hln.out, ← hln2.out]) (fun j hj => hag.out j (by rw [← hln.out] at hj; omega))
        replace hf := Lib.hid hf
        go_wp2
        go_ret
        exact ⟨ret_bool hf.out.symm, below_drewN (Below.refl _ _) _⟩
  · have ht2 : ((n : Int) != (n2 : Int)) = true := by rw [bne_iff_ne]; omega
    have hf : eqm l l2 = false := eqm_len (by rw [← h.len, ← h2.len]; exact hl)
    replace hl := Lib.hid hl
    rw [hf]
    go_enter Try.func25, Try.ntmps25
    go_wp2
    go_ret
    exact ⟨rfl, Below.refl _ _⟩

end Go.Proofs.Ytofoiocpopmifaa
