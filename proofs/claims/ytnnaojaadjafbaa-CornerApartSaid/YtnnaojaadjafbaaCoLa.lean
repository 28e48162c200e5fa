/-
  Walks: the closures of the law CornerApart.
-/
import Derived.Test.YtnnaojaadjafbaaCoKn
import Derived.Laws.EntriesVeiled
set_option linter.unusedSimpArgs false
set_option linter.unusedVariables false
namespace Go.Proofs.Ytnnaojaadjafbaa
open Go.RowKit

theorem lnear_any (x y s x2 y2 s2 r : Int) (g : Nat) (w : World) (hg : w.cell? ⟨g, 0, none⟩ = some (.int .i64 r)) (h1 : InC (x, y, s)) (h2 : InC (x2, y2, s2)) (hr : 0 ≤ r ∧ r ≤ 1048576) :
    Calls Try.prog 21 #[.agg #[.int .i64 x, .int .i64 y, .int .i64 s], .agg #[.int .i64 x2, .int .i64 y2, .int .i64 s2], .pointer (some ⟨g, 0, none⟩)] w fun e w' => e = .returned (.bool (nearB r (x, y, s) (x2, y2, s2))) ∧ Below w.heap.size w w' := by
  have hb0 := ((Below.refl w.heap.size w).alloc (Nat.le_refl _) (.cells #[.int .i64 x, .int .i64 y, .int .i64 s] 36)).alloc (by simp) (.cells #[.int .i64 x2, .int .i64 y2, .int .i64 s2] 36)
  have hgw : g < w.heap.size := World.block_lt_of_cell? w _ hg
  have hg2 : ((w.alloc (.cells #[.int .i64 x, .int .i64 y, .int .i64 s] 36)).alloc (.cells #[.int .i64 x2, .int .i64 y2, .int .i64 s2] 36)).cell? ⟨g, 0, none⟩ = some (.int .i64 r) :=
    (World.cell?_alloc_lt _ _ ⟨g, 0, none⟩ (by simp; omega)).trans ((World.cell?_alloc_lt _ _ ⟨g, 0, none⟩ hgw).trans hg)
  obtain ⟨⟨p1, p2⟩, p3, p4⟩ := h1
  obtain ⟨⟨q1, q2⟩, q3, q4⟩ := h2
  simp only at p1 p2 p3 p4 q1 q2 q3 q4
  obtain ⟨r1, r2⟩ := hr
  obtain ⟨dx, hdx⟩ : ∃ d, x - x2 = d := ⟨_, rfl⟩
  obtain ⟨dy, hdy⟩ : ∃ d, y - y2 = d := ⟨_, rfl⟩
  obtain ⟨u1, u2⟩ := sq_bound (x := dx) (by omega) (by omega)
  obtain ⟨v1, v2⟩ := sq_bound (x := dy) (by omega) (by omega)
  obtain ⟨t1, t2⟩ := sq_bound (x := r) (by omega) (by omega)
  obtain ⟨X, hX⟩ : ∃ X, dx * dx = X := ⟨_, rfl⟩
  obtain ⟨Y, hY⟩ : ∃ X, dy * dy = X := ⟨_, rfl⟩
  obtain ⟨R, hR⟩ : ∃ X, r * r = X := ⟨_, rfl⟩
  have hv : Hid (nearB r (x, y, s) (x2, y2, s2) = decide (X + Y ≤ R)) := Lib.hid (by unfold nearB; simp only [hdx, hdy, hX, hY, hR])
  rw [hX] at u1 u2
  rw [hY] at v1 v2
  rw [hR] at t1 t2
  go_enter Try.func21, Try.ntmps21
  go_wp2
  go_ret
  exact ⟨ret_bool (by rw [hv.out]), by first | exact hb0 | exact below_drewN hb0 _⟩

theorem lnear_at {a c : Cor} {r : Int} {b : Bool} {g : Nat} {w : World} (h : nearB r a c = b) (hg : w.cell? ⟨g, 0, none⟩ = some (.int .i64 r)) (h1 : InC a) (h2 : InC c) (hr : 0 ≤ r ∧ r ≤ 1048576) :
    Calls Try.prog 21 #[.agg #[.int .i64 a.1, .int .i64 a.2.1, .int .i64 a.2.2], .agg #[.int .i64 c.1, .int .i64 c.2.1, .int .i64 c.2.2], .pointer (some ⟨g, 0, none⟩)] w fun e w' => e = .returned (.bool b) ∧ Below w.heap.size w w' :=
  h ▸ lnear_any a.1 a.2.1 a.2.2 c.1 c.2.1 c.2.2 r g w hg h1 h2 hr
theorem enters_lnear : ∀ args w, (callFunc 21 args).run Try.prog w = .ok (.enter 21 args) w := enters_of Try.func21 (by kernel_rfl) rfl
theorem enters_lsame : ∀ args w, (callFunc 23 args).run Try.prog w = .ok (.enter 23 args) w := enters_of Try.func23 (by kernel_rfl) rfl

theorem cor_eql_at {p q : Cor} {r : Bool} (h : decide (p = q) = r) (w : World) :
    (binOp .eql 36 (.agg #[.int .i64 p.1, .int .i64 p.2.1, .int .i64 p.2.2]) (.agg #[.int .i64 q.1, .int .i64 q.2.1, .int .i64 q.2.2])).run Try.prog w = .ok (.bool r) w := by
  rw [cor_eql, cor_beq, h]

/-- A corner is the other one, or near it. -/
def sameB (r : Int) (c x : Cor) : Bool := decide (x = c) || nearB r x c

set_option maxRecDepth 100000 in
set_option maxHeartbeats 1600000 in
theorem lsame_any (x1 x2 x3 c1 c2 c3 r : Int) (g gc gf : Nat) (w : World) (hg : w.cell? ⟨g, 0, none⟩ = some (.int .i64 r)) (d0 : w.cell? ⟨gc, 0, none⟩ = some (.int .i64 c1)) (d1 : w.cell? ⟨gc, 1, none⟩ = some (.int .i64 c2)) (d2 : w.cell? ⟨gc, 2, none⟩ = some (.int .i64 c3))
    (hf : w.cell? ⟨gf, 0, none⟩ = some (.func (.func 21) #[] #[.pointer (some ⟨g, 0, none⟩)])) (h1 : InC (x1, x2, x3)) (h2 : InC (c1, c2, c3)) (hr : 0 ≤ r ∧ r ≤ 1048576) :
    Calls Try.prog 23 #[.agg #[.int .i64 x1, .int .i64 x2, .int .i64 x3], .pointer (some ⟨gc, 0, none⟩), .pointer (some ⟨gf, 0, none⟩)] w fun e w' => e = .returned (.bool (sameB r (c1, c2, c3) (x1, x2, x3))) ∧ Below w.heap.size w w' := by
  have eg := enters_lnear
  have hb0 := (Below.refl w.heap.size w).alloc (Nat.le_refl _) (.cells #[.int .i64 x1, .int .i64 x2, .int .i64 x3] 36)
  have kk : ∀ b o u, w.cell? ⟨b, o, none⟩ = some u → (w.alloc (.cells #[.int .i64 x1, .int .i64 x2, .int .i64 x3] 36)).cell? ⟨b, o, none⟩ = some u := fun b o u h => (World.cell?_alloc_lt w _ ⟨b, o, none⟩ (World.block_lt_of_cell? w _ h)).trans h
  replace hg := kk _ _ _ hg
  replace d0 := kk _ _ _ d0
  replace d1 := kk _ _ _ d1
  replace d2 := kk _ _ _ d2
  replace hf := kk _ _ _ hf
  have hqg := fun W X Y => cor_guard .eql X Y x1 x2 x3 c1 c2 c3 W
  by_cases hxc : (x1, x2, x3) = (c1, c2, c3)
  · have hq := fun W => cor_eql_at (p := (x1, x2, x3)) (q := (c1, c2, c3)) (r := true) (decide_eq_true hxc) W
    have hv : Hid (sameB r (c1, c2, c3) (x1, x2, x3) = true) := Lib.hid (by unfold sameB; rw [decide_eq_true hxc]; rfl)
    replace hxc := Lib.hid hxc
    go_enter Try.func23, Try.ntmps23
    go_wp2
    go_ret
    exact ⟨ret_bool hv.out.symm, hb0⟩
  · have hq := fun W => cor_eql_at (p := (x1, x2, x3)) (q := (c1, c2, c3)) (r := false) (decide_eq_false hxc) W
    obtain ⟨b, hb⟩ : ∃ b, nearB r (x1, x2, x3) (c1, c2, c3) = b := ⟨_, rfl⟩
    have hv : Hid (sameB r (c1, c2, c3) (x1, x2, x3) = b) := Lib.hid (by unfold sameB; rw [decide_eq_false hxc, hb]; rfl)
    have hcall := Lib.hid (lnear_at (w := (w.alloc (.cells #[.int .i64 x1, .int .i64 x2, .int .i64 x3] 36))) hb hg h1 h2 hr)
    replace hxc := Lib.hid hxc
    replace hb := Lib.hid hb
    go_enter Try.func23, Try.ntmps23
    go_wp2_with (go_at_fn 21; refine (hcall.out).mono ?_; rintro e w4 ⟨rfl, hb4⟩)
    go_ret
    exact ⟨ret_bool hv.out.symm, hb0.trans (hb4.mono (by simp))⟩

/-- Each corner of the list is kept, or near one that is. -/
theorem all_same (r : Int) (l : List Cor) {c : Cor} (hc : c ∈ l) : (thinF r l).any (sameB r c) = true := by
  rcases thinF_all r l c hc with h | h
  · exact List.any_eq_true.2 ⟨c, h, by unfold sameB; simp⟩
  · obtain ⟨x, hx, hn⟩ := List.any_eq_true.1 h
    exact List.any_eq_true.2 ⟨x, hx, by unfold sameB; rw [nearB_comm, hn]; simp⟩

end Go.Proofs.Ytnnaojaadjafbaa
