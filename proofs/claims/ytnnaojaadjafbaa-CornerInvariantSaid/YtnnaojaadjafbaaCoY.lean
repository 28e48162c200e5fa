/-
  Walk: corner of package corner.
-/
import Derived.Test.YtnnaojaadjafbaaCoX
import Derived.Laws.EntriesVeiled
set_option linter.unusedSimpArgs false
set_option linter.unusedVariables false
namespace Go.Proofs.Ytnnaojaadjafbaa
open Go.RowKit

theorem enters_position : ∀ args w, (callFunc 64 args).run Try.prog w = .ok (.enter 64 args) w := enters_of Try.func64 (by kernel_rfl) rfl

theorem cell3 {w : World} {g : Nat} {x0 x1 x2 : Value} {t : TypeId} (h : w.heap[g]? = some (.cells #[x0, x1, x2] t (0, 0))) :
    (w.cell? ⟨g, 0, none⟩ = some x0 ∧ w.cell? ⟨g, 1, none⟩ = some x1 ∧ w.cell? ⟨g, 2, none⟩ = some x2) ∧ w.frozen? ⟨g, 0, none⟩ = false ∧ w.frozen? ⟨g, 1, none⟩ = false ∧ w.frozen? ⟨g, 2, none⟩ = false := by
  refine ⟨⟨?_, ?_, ?_⟩, ?_, ?_, ?_⟩
  all_goals first | (rw [cell_of_row w g _ _ _ _ h]; rfl) | exact frozen_of_row w g _ _ _ h

set_option maxRecDepth 100000 in
set_option maxHeartbeats 3200000 in
theorem corner_any (a : Nat) (A : Option Addr) (n c i : Nat) (S : List Int) (w : World) (h : Sl w A n c S) (ha1 : 2 ≤ a) (ha2 : a ≤ 64) (hn : n ≤ 4096) (h1 : a + 1 ≤ i) (h2 : i + a + 1 < n) (hm : Mag S) {px py s : Int} (hpx : posI S i (i % a) 1 = px) (hpy : posI S i (i / a) a = py) (hs : nth S i = s) :
    Calls Try.prog 59 #[.agg #[.int .i64 (a : Int), .slice A n c], .int .i64 (i : Int)] w fun e w' => e = .returned (.agg #[.int .i64 px, .int .i64 py, .int .i64 s]) ∧ Below w.heap.size w w' := by
  have eg := enters_position
  have hmf : ∀ (fn : Fn) (first cap : Array Value) (w : World), (Instr.makeFunc fn first cap).run Try.prog w = .ok (.func fn first cap) w := fun _ _ _ _ => rfl
  have hcap := h.le_cap
  have hcl := h.cap_le
  obtain ⟨bb, off', rfl, hbw, hc⟩ := h.at_ (by omega)
  have hb0 := (((Below.refl w.heap.size w).alloc (Nat.le_refl _) (.cells #[.int .i64 (a : Int), .slice (some ⟨bb, off', none⟩) n c] 59)).alloc (by simp) (.cells #[.int .i64 (i : Int)] 3)).alloc (by simp <;> omega) (.cells #[.int .i64 0, .int .i64 0, .int .i64 0] 36)
  have hs0 := ((h.alloc (.cells #[.int .i64 (a : Int), .slice (some ⟨bb, off', none⟩) n c] 59)).alloc (.cells #[.int .i64 (i : Int)] 3)).alloc (.cells #[.int .i64 0, .int .i64 0, .int .i64 0] 36)
  have q0 := hc i (by omega)
  rw [hs] at q0
  obtain ⟨m1, m2⟩ := mod_div_nat i a (by omega)
  obtain ⟨x, hx⟩ : ∃ x, i % a = x := ⟨_, rfl⟩
  obtain ⟨y, hy⟩ : ∃ y, i / a = y := ⟨_, rfl⟩
  rw [hx] at m1 m2 hpx
  rw [hy] at m1 hpy
  have hyk : y ≤ i := by rw [← hy]; exact Nat.div_le_self _ _
  have x1 : (i : Int) % (a : Int) = (x : Int) := by rw [← hx]; simp
  have y1 : (i : Int) / (a : Int) = (y : Int) := by rw [← hy]; simp
  have x2 : (i : Int).tmod (a : Int) = (x : Int) := by rw [Int.tmod_eq_emod_of_nonneg (by omega)]; exact x1
  have y2 : (i : Int).tdiv (a : Int) = (y : Int) := by rw [Int.tdiv_eq_ediv_of_nonneg (by omega)]; exact y1
  have a0 : ¬ (a : Int) = 0 := by omega
  have a00 : ¬ a = 0 := by omega
  have hbx : ((((w.alloc (.cells #[.int .i64 (a : Int), .slice (some ⟨bb, off', none⟩) n c] 59)).alloc (.cells #[.int .i64 (i : Int)] 3)).alloc (.cells #[.int .i64 0, .int .i64 0, .int .i64 0] 36))).heap[w.heap.size + 2]? = some (.cells #[.int .i64 0, .int .i64 0, .int .i64 0] 36 (0, 0)) := by
    have := heap_alloc_new ((w.alloc (.cells #[.int .i64 (a : Int), .slice (some ⟨bb, off', none⟩) n c] 59)).alloc (.cells #[.int .i64 (i : Int)] 3)) (.cells #[.int .i64 0, .int .i64 0, .int .i64 0] 36)
    simpa using this
  have hb1 : ((((w.alloc (.cells #[.int .i64 (a : Int), .slice (some ⟨bb, off', none⟩) n c] 59)).alloc (.cells #[.int .i64 (i : Int)] 3)).alloc (.cells #[.int .i64 0, .int .i64 0, .int .i64 0] 36))).heap[w.heap.size]? = some (.cells #[.int .i64 (a : Int), .slice (some ⟨bb, off', none⟩) n c] 59 (0, 0)) :=
    (Below.heap_alloc _ _ _ (by simp; omega)).trans ((Below.heap_alloc _ _ _ (by simp)).trans (heap_alloc_new w (.cells #[.int .i64 (a : Int), .slice (some ⟨bb, off', none⟩) n c] 59)))
  have hb2 : ((((w.alloc (.cells #[.int .i64 (a : Int), .slice (some ⟨bb, off', none⟩) n c] 59)).alloc (.cells #[.int .i64 (i : Int)] 3)).alloc (.cells #[.int .i64 0, .int .i64 0, .int .i64 0] 36))).heap[w.heap.size + 1]? = some (.cells #[.int .i64 (i : Int)] 3 (0, 0)) := by
    refine (Below.heap_alloc _ _ _ (by simp)).trans ?_
    have := heap_alloc_new (w.alloc (.cells #[.int .i64 (a : Int), .slice (some ⟨bb, off', none⟩) n c] 59)) (.cells #[.int .i64 (i : Int)] 3)
    simpa using this
  obtain ⟨e1, e2⟩ := box2 hb1
  have e3 : ((((w.alloc (.cells #[.int .i64 (a : Int), .slice (some ⟨bb, off', none⟩) n c] 59)).alloc (.cells #[.int .i64 (i : Int)] 3)).alloc (.cells #[.int .i64 0, .int .i64 0, .int .i64 0] 36))).cell? ⟨w.heap.size + 1, 0, none⟩ = some (.int .i64 (i : Int)) := by rw [cell_of_row _ _ _ _ _ _ hb2]; rfl
  have e4 : ((((w.alloc (.cells #[.int .i64 (a : Int), .slice (some ⟨bb, off', none⟩) n c] 59)).alloc (.cells #[.int .i64 (i : Int)] 3)).alloc (.cells #[.int .i64 0, .int .i64 0, .int .i64 0] 36))).cell? ⟨bb, off' + i, none⟩ = some (.int .i64 s) := by
    refine (World.cell?_alloc_lt _ _ ⟨bb, off' + i, none⟩ (by simp; omega)).trans ((World.cell?_alloc_lt _ _ ⟨bb, off' + i, none⟩ (by simp; omega)).trans ((World.cell?_alloc_lt _ _ ⟨bb, off' + i, none⟩ hbw).trans q0))
  obtain ⟨⟨t1, t2, t3⟩, t4, t5, t6⟩ := cell3 hbx
  have hsz : ((((w.alloc (.cells #[.int .i64 (a : Int), .slice (some ⟨bb, off', none⟩) n c] 59)).alloc (.cells #[.int .i64 (i : Int)] 3)).alloc (.cells #[.int .i64 0, .int .i64 0, .int .i64 0] 36))).heap.size = w.heap.size + 3 := by simp
  obtain ⟨wo, hwo⟩ : ∃ wo, (((w.alloc (.cells #[.int .i64 (a : Int), .slice (some ⟨bb, off', none⟩) n c] 59)).alloc (.cells #[.int .i64 (i : Int)] 3)).alloc (.cells #[.int .i64 0, .int .i64 0, .int .i64 0] 36)) = wo := ⟨_, rfl⟩
  rw [hwo] at hb0 hs0 e1 e2 e3 e4 t1 t2 t3 t4 t5 t6 hsz
  have keepS : ∀ w', Only wo w' (w.heap.size + 2) → w'.cell? ⟨w.heap.size, 0, none⟩ = some (.int .i64 (a : Int)) ∧ w'.cell? ⟨w.heap.size, 1, none⟩ = some (.slice (some ⟨bb, off', none⟩) n c) ∧ w'.cell? ⟨w.heap.size + 1, 0, none⟩ = some (.int .i64 (i : Int)) ∧ w'.cell? ⟨bb, off' + i, none⟩ = some (.int .i64 s) := by
    intro w' ho
    have kk : ∀ b o, b < wo.heap.size → b ≠ w.heap.size + 2 → w'.cell? ⟨b, o, none⟩ = wo.cell? ⟨b, o, none⟩ := fun b o h1 h2 => World.cell?_of_block (ho.block b h1 (fun e => h2 (by injection e)))
    refine ⟨(kk _ _ ?_ ?_).trans e1, (kk _ _ ?_ ?_).trans e2, (kk _ _ ?_ ?_).trans e3, (kk _ _ ?_ ?_).trans e4⟩ <;> omega
  have cc : ∀ w', Below wo.heap.size wo w' → ∀ b o, b < w.heap.size + 3 → w'.cell? ⟨b, o, none⟩ = wo.cell? ⟨b, o, none⟩ ∧ w'.frozen? ⟨b, o, none⟩ = wo.frozen? ⟨b, o, none⟩ := fun w' hb b o hlt => ⟨hb.cell (p := ⟨b, o, none⟩) (hsz ▸ hlt), hb.frozen (p := ⟨b, o, none⟩) (hsz ▸ hlt)⟩
  have keepT : ∀ w', Below wo.heap.size wo w' → w'.cell? ⟨w.heap.size + 2, 0, none⟩ = some (.int .i64 0) ∧ w'.frozen? ⟨w.heap.size + 2, 0, none⟩ = false ∧ w'.cell? ⟨w.heap.size + 2, 1, none⟩ = some (.int .i64 0) ∧ w'.frozen? ⟨w.heap.size + 2, 1, none⟩ = false ∧ w'.cell? ⟨w.heap.size + 2, 2, none⟩ = some (.int .i64 0) ∧ w'.frozen? ⟨w.heap.size + 2, 2, none⟩ = false := fun w' hb =>
    ⟨(cc w' hb _ _ (by omega)).1.trans t1, (cc w' hb _ _ (by omega)).2.trans t4, (cc w' hb _ _ (by omega)).1.trans t2, (cc w' hb _ _ (by omega)).2.trans t5, (cc w' hb _ _ (by omega)).1.trans t3, (cc w' hb _ _ (by omega)).2.trans t6⟩
  have c1 : ∀ W, Below wo.heap.size wo W → Calls Try.prog 64 #[.int .i64 (x : Int), .int .i64 1, .pointer (some ⟨w.heap.size, 0, none⟩), .pointer (some ⟨w.heap.size + 1, 0, none⟩)] W fun e w' => e = .returned (.int .i64 px) ∧ Below W.heap.size W w' := fun W hb =>
    position_any _ n c i x 1 _ _ S W (hs0.below hb (Nat.le_refl _)) ((cc W hb _ _ (by omega)).1.trans e2) ((cc W hb _ _ (by omega)).1.trans e3) (by omega) hn (by omega) (by omega) hm hpx
  have c2 : ∀ W, Below wo.heap.size wo W → Calls Try.prog 64 #[.int .i64 (y : Int), .int .i64 (a : Int), .pointer (some ⟨w.heap.size, 0, none⟩), .pointer (some ⟨w.heap.size + 1, 0, none⟩)] W fun e w' => e = .returned (.int .i64 py) ∧ Below W.heap.size W w' := fun W hb =>
    position_any _ n c i y a _ _ S W (hs0.below hb (Nat.le_refl _)) ((cc W hb _ _ (by omega)).1.trans e2) ((cc W hb _ _ (by omega)).1.trans e3) (by omega) hn (by omega) (by omega) hm hpy
  have hwx : IntKind.i64.wrap (x : Int) = (x : Int) := IntWalk.i64_in _ (by omega)
  have hwy : IntKind.i64.wrap (y : Int) = (y : Int) := IntWalk.i64_in _ (by omega)
  have l0 : (0 : Int) ≤ (i : Int) := by omega
  have l1 : (i : Int) < (n : Int) := by omega
  replace c1 := Lib.hid c1
  replace c2 := Lib.hid c2
  replace keepS := Lib.hid keepS
  replace keepT := Lib.hid keepT
  replace hpx := Lib.hid hpx
  replace hpy := Lib.hid hpy
  replace hs := Lib.hid hs
  replace hx := Lib.hid hx
  replace hy := Lib.hid hy
  replace m1 := Lib.hid m1
  replace hs0 := Lib.hid hs0
  clear hc hm h hb1 hb2 hbx q0 t1 t2 t3 t4 t5 t6 e1 e2 e3 e4
  replace hwo := Lib.hid hwo
  go_enter Try.func59, Try.ntmps59
  go_wp2
  rw [hwo.out]
  obtain ⟨e1, e2, e3, e4⟩ := keepS.out _ (Only.refl wo _)
  go_region_held3 (fun w' => w'.cell? ⟨w.heap.size, 0, none⟩ = some (.int .i64 (a : Int)) ∧ w'.cell? ⟨w.heap.size, 1, none⟩ = some (.slice (some ⟨bb, off', none⟩) n c) ∧ w'.cell? ⟨w.heap.size + 1, 0, none⟩ = some (.int .i64 (i : Int)) ∧ w'.cell? ⟨bb, off' + i, none⟩ = some (.int .i64 s))
    (exact keepS.out _ (by repeat (first | refine Only.drew ?_ | refine Only.setCell ?_ rfl _ | exact Only.of_below qB2 _ | exact Only.of_below qB1 _ | exact Only.refl _ _)))
    (first | (go_at_fn 64; go_at_call_of 64 (Value.int .i64 (x : Int)); refine (c1.out _ (by repeat (first | exact qB2 | exact Below.refl _ _ | refine Below.drew ?_))).mono ?_; rintro e qw1 ⟨rfl, qh1⟩; have qB1 : Below wo.heap.size wo qw1 := Below.trans (by repeat (first | exact qB2 | exact Below.refl _ _ | refine Below.drew ?_)) (qh1.mono (by first | omega | exact Nat.le_refl _ | (simp <;> omega))); have qs1 := qB1.size; obtain ⟨t1, t4, t2, t5, t3, t6⟩ := keepT.out _ qB1) | (go_at_fn 64; go_at_call_of 64 (Value.int .i64 (y : Int)); refine (c2.out _ (by repeat (first | exact qB1 | exact Below.refl _ _ | refine Below.drew ?_))).mono ?_; rintro e qw2 ⟨rfl, qh2⟩; have qB2 : Below wo.heap.size wo qw2 := Below.trans (by repeat (first | exact qB1 | exact Below.refl _ _ | refine Below.drew ?_)) (qh2.mono (by first | omega | exact Nat.le_refl _ | (simp <;> omega))); have qs2 := qB2.size; obtain ⟨t1, t4, t2, t5, t3, t6⟩ := keepT.out _ qB2))
  go_wp2
  refine bodyPost_ret (v := .agg #[.int .i64 px, .int .i64 py, .int .i64 s]) (by simp [results, Try.results59, go_sem, t1, t2, t3, t4, t5, t6]) rfl ⟨rfl, ?_⟩
  repeat (refine Below.setCell ?_ (by simp <;> omega) _)
  exact hb0.trans (qB2.mono hb0.size)

end Go.Proofs.Ytnnaojaadjafbaa
