/-
  Walks: slices.Equal at []api.Pix and []uint64.
-/
import Derived.Test.YtonpnjjfidpoiaaDsRows
import Derived.Laws.StructEq
set_option linter.unusedSimpArgs false
set_option linter.unusedVariables false
namespace Go.Proofs.Ytonpnjjfidpoiaa
open Go.RowKit

theorem pix_neq (a b x y : Int) (w : World) :
    (binOp .neq 52 (.agg #[.int .i64 a, .int .i64 b]) (.agg #[.int .i64 x, .int .i64 y])).run Try.prog w = .ok (.bool (!(a == x && b == y))) w := by
  have hu := Try.underlying52
  have hs := Try.underlying3
  rw [run_neq_struct, run_equalIn_struct (d := 9999) (ht := by simp only [Program.fieldsOf, hu]) (hp := by kernel_rfl)]
  simp only [Program.fieldsOf, hu]
  by_cases h1 : a == x <;> by_cases h2 : b == y <;> simp [Op.eqFields, go_sem, h1, h2, hs]
theorem pix_guard (op : BinOp) (X Y : Operand) (a b x y : Int) (w : World) :
    (eqGuard op 52 X Y (.agg #[.int .i64 a, .int .i64 b]) (.agg #[.int .i64 x, .int .i64 y])).run Try.prog w = .ok () w :=
  run_eqGuard_agg w op _ X Y _ _ (by kernel_rfl)
theorem pix_neq_at {a b x y : Int} {r : Bool} (h : decide (((a, b) : Int × Int) = (x, y)) = !r) (w : World) :
    (binOp .neq 52 (.agg #[.int .i64 a, .int .i64 b]) (.agg #[.int .i64 x, .int .i64 y])).run Try.prog w = .ok (.bool r) w := by
  have e : (a == x && b == y) = decide (((a, b) : Int × Int) = (x, y)) := by rw [Bool.eq_iff_iff]; simp
  rw [pix_neq, e, h, Bool.not_not]
/-- A slice value reads as a list of places. -/
def XS (w : World) (A : Option Addr) (n c : Nat) (l : List (Int × Int)) : Prop := SR w A n c 2 (xcells l)
section
variable {w w' : World} {A : Option Addr} {n c : Nat} {l : List (Int × Int)}
theorem XS.len (h : XS w A n c l) : n = l.length := by have := h.1; rw [xcells_length] at this; omega
theorem XS.at_ (h : XS w A n c l) (h0 : 0 < n) : ∃ b off, A = some ⟨b, off, none⟩ ∧ b < w.heap.size ∧ ∀ i, i < n → w.cell? ⟨b, off + i * 2, none⟩ = some (.int .i64 (pixAt l i).1) ∧ w.cell? ⟨b, off + i * 2 + 1, none⟩ = some (.int .i64 (pixAt l i).2) := by
  obtain ⟨b, off, e, hb, hc⟩ := SR.at_ h h0
  refine ⟨b, off, e, hb, fun i hi => ?_⟩
  obtain ⟨e0, e1⟩ := xcells_at (l := l) (i := i) (by rw [← h.len]; exact hi)
  exact ⟨hc _ _ e0, by rw [Nat.add_assoc]; exact hc _ _ e1⟩
end
def eqx (l l2 : List (Int × Int)) : Bool := decide (l = l2)
theorem pix_ext {l l2 : List (Int × Int)} (h : l.length = l2.length) (ha : ∀ j, j < l.length → pixAt l j = pixAt l2 j) : l = l2 := by
  apply List.ext_getElem h
  intro i h1 h2
  have := ha i h1
  rwa [pixAt_eq h1, pixAt_eq h2] at this
theorem eqx_yes {l l2 : List (Int × Int)} (h : l.length = l2.length) (ha : ∀ j, j < l.length → pixAt l j = pixAt l2 j) : eqx l l2 = true := decide_eq_true (pix_ext h ha)
theorem eqx_at {l l2 : List (Int × Int)} {i : Nat} (h : pixAt l i ≠ pixAt l2 i) : eqx l l2 = false := decide_eq_false fun e => h (by rw [e])
theorem eqx_len {l l2 : List (Int × Int)} (h : l.length ≠ l2.length) : eqx l l2 = false := decide_eq_false fun e => h (by rw [e])
def equ (l l2 : List Nat) : Bool := decide (l = l2)
theorem nw_ext {l l2 : List Nat} (h : l.length = l2.length) (ha : ∀ j, j < l.length → nw l j = nw l2 j) : l = l2 := by
  apply List.ext_getElem h
  intro i h1 h2
  have := ha i h1
  rwa [nw_eq h1, nw_eq h2] at this
theorem equ_yes {l l2 : List Nat} (h : l.length = l2.length) (ha : ∀ j, j < l.length → nw l j = nw l2 j) : equ l l2 = true := decide_eq_true (nw_ext h ha)
theorem equ_at {l l2 : List Nat} {i : Nat} (h : nw l i ≠ nw l2 i) : equ l l2 = false := decide_eq_false fun e => h (by rw [e])
theorem equ_len {l l2 : List Nat} (h : l.length ≠ l2.length) : equ l l2 = false := decide_eq_false fun e => h (by rw [e])

set_option maxHeartbeats 1600000 in
theorem xEqual_any (A : Option Addr) (n c : Nat) (l : List (Int × Int)) (A2 : Option Addr) (n2 c2 : Nat) (l2 : List (Int × Int)) (w : World) (h : XS w A n c l) (h2 : XS w A2 n2 c2 l2) :
    Calls Try.prog 23 #[.slice A n c, .slice A2 n2 c2] w fun e w' => e = .returned (.bool (eqx l l2)) ∧ Below w.heap.size w w' := by
  have hcap := h.2.1
  have hcl := h.2.2.1
  have hcap2 := h2.2.1
  have hcl2 := h2.2.2.1
  by_cases hl : n = n2
  · subst hl
    have ht2 : ((n : Int) != (n : Int)) = false := by simp
    have hln := Lib.hid (XS.len h)
    have hln2 := Lib.hid (XS.len h2)
    go_enter Try.func23, Try.ntmps23
    go_wp2
    go_loopw [13] (fun i wr => ∃ k q, k ≤ n ∧ i = .int .i64 ((k : Nat) : Int) ∧ Hid (∀ j, j < k → pixAt l j = pixAt l2 j) ∧ wr = w.drewN q) (fun i _ => n - (intOf i).toNat)
    case atStart => exact ⟨0, 0, Nat.zero_le _, rfl, Lib.hid fun j h => absurd h (by omega), rfl⟩
    case round =>
      obtain ⟨k, q, hk, rfl, hag, rfl⟩ := hrel
      by_cases hlt : k < n
      · obtain ⟨b, off, rfl, hbl, hc⟩ := XS.at_ h (by omega)
        obtain ⟨b2, off2, rfl, hbl2, hc2⟩ := XS.at_ h2 (by omega)
        obtain ⟨x0, x1⟩ := hc k hlt
        obtain ⟨y0, y1⟩ := hc2 k hlt
        clear hc hc2
        obtain ⟨⟨a1, a2⟩, hx⟩ : ∃ x, pixAt l k = x := ⟨_, rfl⟩
        obtain ⟨⟨c1, c2⟩, hy⟩ : ∃ y, pixAt l2 k = y := ⟨_, rfl⟩
        obtain ⟨u, hu⟩ : ∃ u, k * 2 = u := ⟨_, rfl⟩
        rw [hx, hu] at x0 x1
        rw [hy, hu] at y0 y1
        replace hx := Lib.hid hx
        replace hy := Lib.hid hy
        have hki : (k : Int) < (n : Int) := by omega
        by_cases hxy : (((a1, a2) : Int × Int) = (c1, c2))
        · have hxy' := hxy
          simp only [Prod.mk.injEq] at hxy'
          obtain ⟨rfl, rfl⟩ := hxy'
          have hq1 := fun W => pix_neq_at (a := a1) (b := a2) (x := a1) (y := a2) (r := false) (by simp) W
          have hg1 := fun W X Y => pix_guard .neq X Y a1 a2 a1 a2 W
          clear hxy
          go_wp2
          go_quiet (fail)
          go_wp2
          go_roundw
          case rel => exact ⟨k + 1, _, by omega, by go_num, Lib.hid (fun j h => by
            by_cases e : j = k
            · rw [e, hx.out, hy.out]
            · exact hag.out j (by omega)), rfl⟩
          case measure => simp [intOf]; omega
        · have hq1 := fun W => pix_neq_at (a := a1) (b := a2) (x := c1) (y := c2) (r := true) (by rw [decide_eq_false hxy]; rfl) W
          have hg1 := fun W X Y => pix_guard .neq X Y a1 a2 c1 c2 W
          have hf : eqx l l2 = false := eqx_at (i := k) (by rw [hx.out, hy.out]; exact hxy)
          replace hf := Lib.hid hf
          replace hxy := Lib.hid hxy
          go_wp2
          go_quiet (fail)
          go_wp2
          go_ret
          exact ⟨ret_bool hf.out.symm, below_drewN (below_drewN (Below.refl _ _) _) _⟩
      · have hf : eqx l l2 = true := eqx_yes (by rw [← hln.out, ← hln2.out]) (fun j hj => hag.out j (by rw [← hln.out] at hj; omega))
        replace hf := Lib.hid hf
        go_wp2
        go_ret
        exact ⟨ret_bool hf.out.symm, below_drewN (Below.refl _ _) _⟩
  · have ht2 : ((n : Int) != (n2 : Int)) = true := by rw [bne_iff_ne]; omega
    have hf : eqx l l2 = false := eqx_len (by rw [← (XS.len h), ← (XS.len h2)]; exact hl)
    replace hl := Lib.hid hl
    rw [hf]
    go_enter Try.func23, Try.ntmps23
    go_wp2
    go_ret
    exact ⟨rfl, Below.refl _ _⟩


set_option maxHeartbeats 1600000 in
theorem uEqual_any (A : Option Addr) (n c : Nat) (l : List Nat) (A2 : Option Addr) (n2 c2 : Nat) (l2 : List Nat) (w : World) (h : WS w A n c l) (h2 : WS w A2 n2 c2 l2) :
    Calls Try.prog 24 #[.slice A n c, .slice A2 n2 c2] w fun e w' => e = .returned (.bool (equ l l2)) ∧ Below w.heap.size w w' := by
  have hcap := h.le_cap
  have hcl := h.cap_le
  have hcap2 := h2.le_cap
  have hcl2 := h2.cap_le
  by_cases hl : n = n2
  · subst hl
    have ht2 : ((n : Int) != (n : Int)) = false := by simp
    have hln := Lib.hid h.len
    have hln2 := Lib.hid h2.len
    go_enter Try.func24, Try.ntmps24
    go_wp2
    go_loopw [13] (fun i wr => ∃ k q, k ≤ n ∧ i = .int .i64 ((k : Nat) : Int) ∧ Hid (∀ j, j < k → nw l j = nw l2 j) ∧ wr = w.drewN q) (fun i _ => n - (intOf i).toNat)
    case atStart => exact ⟨0, 0, Nat.zero_le _, rfl, Lib.hid fun j h => absurd h (by omega), rfl⟩
    case round =>
      obtain ⟨k, q, hk, rfl, hag, rfl⟩ := hrel
      by_cases hlt : k < n
      · obtain ⟨b, off, rfl, hbl, hc⟩ := h.at_ (by omega)
        obtain ⟨b2, off2, rfl, hbl2, hc2⟩ := h2.at_ (by omega)
        have x0 := hc k hlt
        have y0 := hc2 k hlt
        clear hc hc2
        obtain ⟨a1, hx⟩ : ∃ x, nw l k = x := ⟨_, rfl⟩
        obtain ⟨c1, hy⟩ : ∃ y, nw l2 k = y := ⟨_, rfl⟩
        rw [hx] at x0
        rw [hy] at y0
        replace hx := Lib.hid hx
        replace hy := Lib.hid hy
        have hki : (k : Int) < (n : Int) := by omega
        by_cases hxy : a1 = c1
        · subst hxy
          have hq1 : ((a1 : Int) != (a1 : Int)) = false := by simp
          go_wp2
          go_quiet (fail)
          go_wp2
          go_roundw
          case rel => exact ⟨k + 1, _, by omega, by go_num, Lib.hid (fun j h => by
            by_cases e : j = k
            · rw [e, hx.out, hy.out]
            · exact hag.out j (by omega)), rfl⟩
          case measure => simp [intOf]; omega
        · have hq1 : ((a1 : Int) != (c1 : Int)) = true := by rw [bne_iff_ne]; omega
          have hf : equ l l2 = false := equ_at (i := k) (by rw [hx.out, hy.out]; exact hxy)
          replace hf := Lib.hid hf
          replace hxy := Lib.hid hxy
          go_wp2
          go_quiet (fail)
          go_wp2
          go_ret
          exact ⟨ret_bool hf.out.symm, below_drewN (below_drewN (Below.refl _ _) _) _⟩
      · have hf : equ l l2 = true := equ_yes (by rw [← hln.out, ← hln2.out]) (fun j hj => hag.out j (by rw [← hln.out] at hj; omega))
        replace hf := Lib.hid hf
        go_wp2
        go_ret
        exact ⟨ret_bool hf.out.symm, below_drewN (Below.refl _ _) _⟩
  · have ht2 : ((n : Int) != (n2 : Int)) = true := by rw [bne_iff_ne]; omega
    have hf : equ l l2 = false := equ_len (by rw [← h.len, ← h2.len]; exact hl)
    replace hl := Lib.hid hl
    rw [hf]
    go_enter Try.func24, Try.ntmps24
    go_wp2
    go_ret
    exact ⟨rfl, Below.refl _ _⟩


theorem xEqual_at {A : Option Addr} {n c : Nat} {l : List (Int × Int)} {A2 : Option Addr} {n2 c2 : Nat} {l2 : List (Int × Int)} {w : World} (h : XS w A n c l) (h2 : XS w A2 n2 c2 l2) {r : Bool} (hr : eqx l l2 = r) :
    Calls Try.prog 23 #[.slice A n c, .slice A2 n2 c2] w fun e w' => e = .returned (.bool r) ∧ Below w.heap.size w w' := hr ▸ xEqual_any A n c l A2 n2 c2 l2 w h h2
theorem uEqual_at {A : Option Addr} {n c : Nat} {l : List Nat} {A2 : Option Addr} {n2 c2 : Nat} {l2 : List Nat} {w : World} (h : WS w A n c l) (h2 : WS w A2 n2 c2 l2) {r : Bool} (hr : equ l l2 = r) :
    Calls Try.prog 24 #[.slice A n c, .slice A2 n2 c2] w fun e w' => e = .returned (.bool r) ∧ Below w.heap.size w w' := hr ▸ uEqual_any A n c l A2 n2 c2 l2 w h h2

end Go.Proofs.Ytonpnjjfidpoiaa
