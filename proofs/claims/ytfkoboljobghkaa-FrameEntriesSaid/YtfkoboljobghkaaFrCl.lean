/-
  Walks: slices.Clone at []api.Entry and at a frame's pixels; copied of package frame.
-/
import Derived.Test.YtfkoboljobghkaaFrDc
import Derived.Test.YtfkoboljobghkaaFrGe
import Derived.Test.YtfkoboljobghkaaFrRf
set_option linter.unusedSimpArgs false
set_option linter.unusedVariables false
namespace Go.Proofs.Ytfkoboljobghkaa
open Go.RowKit Go.Shelf

theorem ecells_one (E : List Ent) : ∀ u ∈ ecells E, u.oneCell' = true := by
  intro u hu
  unfold ecells at hu
  obtain ⟨e, _, h⟩ := List.mem_flatMap.1 hu
  simp only [List.mem_cons, List.not_mem_nil, or_false] at h
  rcases h with rfl | rfl <;> rfl

/-- The cells of entries in memory. -/
theorem En.cells {w : World} {a : Addr} {n c : Nat} {E : List Ent} (h : En w (some a) n c E) : ∀ j u, (ecells E)[j]? = some u → w.cell? (a.add j) = some u := by
  intro j u hj
  have hjl : j < n * 2 := by
    have := (List.getElem?_eq_some_iff.1 hj).1
    rw [ecells_length, ← h.1] at this
    exact this
  obtain ⟨b, off, e, -, hc⟩ := h.at_ (by omega)
  cases e
  obtain ⟨e0, e1⟩ := ecells_at (E := E) (i := j / 2) (by have := h.1; omega)
  obtain ⟨c0, c1⟩ := hc (j / 2) (by omega)
  rw [Addr.add_lit]
  rcases Nat.mod_two_eq_zero_or_one j with h2 | h2
  · rw [show j / 2 * 2 = j from by omega] at e0 c0
    rw [c0, ← hj, e0]
  · rw [show j / 2 * 2 + 1 = j from by omega] at e1
    rw [show off + j / 2 * 2 + 1 = off + j from by omega] at c1
    rw [c1, ← hj, e1]

set_option maxHeartbeats 2000000 in
set_option maxRecDepth 100000 in
theorem CloneE_any (A : Option Addr) (n c : Nat) (E : List Ent) (w : World) (h : En w A n c E) (hn : n ≤ 1000000) :
    Calls Try.prog 42 #[.slice A n c] w fun e w' => ∃ A' c', e = .returned (.slice A' n c') ∧ w'.ownsRow w.heap.size 68 2 (.slice A' n c') n (ecells E) ∧ Below w.heap.size w w' := by
  have q22 : ∀ (w : World) (a : Option Addr) (n c n' c' : Nat), (binOp .eql 22 (.slice a n c) (.slice none n' c')).run Try.prog w = .ok (.bool a.isNone) w := fun w a n c n' c' => Lib.run_eql_slice_nil w _ _ a n c n' c' Try.underlying22
  have hlen := h.1
  cases A with
  | none =>
    have h0 : n = 0 := by
      rcases Nat.eq_zero_or_pos n with e | e
      · exact e
      · obtain ⟨b, off, e, -⟩ := h.at_ e; cases e
    subst h0
    have hE : E = [] := List.eq_nil_of_length_eq_zero hlen.symm
    subst hE
    clear h hlen hn
    go_enter Try.func42, Try.ntmps42
    go_wp2
    go_ret
    exact ⟨none, 0, rfl, World.ownsRow_nil _ _ _ _, Below.refl _ _⟩
  | some a =>
    obtain ⟨i0, hi, hz0, hz1, hz2⟩ := info_parts infoE
    have hcs := Lib.hid h.cells
    replace hlen := Lib.hid hlen
    clear h
    go_enter Try.func42, Try.ntmps42
    go_wp2_with (at_builtin; refine wpList_append_own _ rfl _ _ 22 rfl w.heap.size 68 i0 (.agg #[.string ⟨#[]⟩, .string ⟨#[]⟩]) 2 32 Try.underlying22 hi hz0 hz1 hz2 rfl (by decide) _ _ _ rfl (World.ownsRow_made w #[] 0 (Nat.le_refl _) (Nat.zero_le _) rfl) a n c (ecells E) rfl ?qc1 ?qc2 ?qc3 ?qc4 ?qc5 ?qc6 ?_)
    case qc1 => rw [ecells_length, ← hlen.out]
    case qc2 => exact fun j u hj => Lib.cell?_alloc_some _ (hcs.out j u hj)
    case qc3 => exact ecells_one E
    case qc4 => unfold maxLen; omega
    case qc5 => omega
    case qc6 => simp
    intro v' w1 hown hgrow hnil
    obtain ⟨A', c', rfl⟩ : ∃ A' c', v' = .slice A' n c' := by
      rcases hown.2 with ⟨h1, h2⟩ | ⟨g, cap, cur, h1, h2⟩
      · exact ⟨none, 0, by rw [h1]; congr 1; omega⟩
      · exact ⟨_, cap, by simpa using h1⟩
    go_wp2
    go_ret
    exact ⟨A', c', rfl, by simpa using hown, ((Below.refl _ w).alloc (Nat.le_refl _) _).grown hgrow (by simp) (by intro k hk; simp [Value.ownBlock] at hk; omega)⟩

/-- slices.Clone of a raster's pixels. -/
theorem CloneP_any (A : Option Addr) (n c : Nat) (P : List Int) (w : World) (h : Sl w A n c P) (h0 : 0 < n) (hn : n ≤ 1000000) :
    Calls Try.prog 47 #[.slice A n c] w fun e w' => ∃ g c', e = .returned (.slice (some ⟨g, 0, none⟩) n c') ∧ w.heap.size ≤ g ∧ Bl w' g P ∧ n ≤ c' ∧ c' ≤ 9223372036854775807 ∧ Below w.heap.size w w' := by
  obtain ⟨b, off, rfl, hbl, hc⟩ := h.at_ h0
  have hlen := h.len
  refine (Try.slices_Clone_int b off n c P w (by omega) (by omega) fun j hj => hc j (by omega)).mono ?_
  rintro e w' ⟨v, rfl, ho, hv, hb⟩
  rw [List.take_of_length_le (by omega)] at ho
  obtain ⟨g, cap, rfl, hg, hbl2, hnc, hcm, -⟩ := Bl.of_own (l := P) ho h0
  exact ⟨g, cap, rfl, hg, hbl2, hnc, hcm, hb⟩

/-- The box of a frame. -/
def FB (w : World) (g : Nat) (x0 x1 x2 x3 x4 : Value) : Prop := w.heap[g]? = some (.cells #[x0, x1, x2, x3, x4] 27 (0, 0))
section
variable {w w' : World} {g : Nat} {x0 x1 x2 x3 x4 : Value}
theorem FB.lt (h : FB w g x0 x1 x2 x3 x4) : g < w.heap.size := (Array.getElem?_eq_some_iff.1 h).1
theorem FB.new (w : World) (x0 x1 x2 x3 x4 : Value) : FB (w.alloc (.cells #[x0, x1, x2, x3, x4] 27)) w.heap.size x0 x1 x2 x3 x4 := heap_alloc_new w _
theorem FB.keep (h : FB w g x0 x1 x2 x3 x4) (hk : w'.heap[g]? = w.heap[g]?) : FB w' g x0 x1 x2 x3 x4 := hk.trans h
theorem FB.alloc (h : FB w g x0 x1 x2 x3 x4) (o : Obj) : FB (w.alloc o) g x0 x1 x2 x3 x4 := h.keep (Below.heap_alloc w o g h.lt)
theorem FB.below (h : FB w g x0 x1 x2 x3 x4) {B : Nat} (hb : Below B w w') (hg : g < B) : FB w' g x0 x1 x2 x3 x4 := h.keep (hb.block g hg)
theorem FB.far (h : FB w g x0 x1 x2 x3 x4) {p : Addr} (hp : g ≠ p.block) (u : Value) : FB (w.setCell p u) g x0 x1 x2 x3 x4 := h.keep (Below.heap_setCell w p u g hp)
theorem FB.set0 (h : FB w g x0 x1 x2 x3 x4) (u : Value) : FB (w.setCell ⟨g, 0, none⟩ u) g u x1 x2 x3 x4 := by
  unfold FB; rw [heap_setCell_same w g 0 _ _ u h]; rfl
theorem FB.set4 (h : FB w g x0 x1 x2 x3 x4) (u : Value) : FB (w.setCell ⟨g, 4, none⟩ u) g x0 x1 x2 x3 u := by
  unfold FB; rw [heap_setCell_same w g 4 _ _ u h]; rfl
theorem FB.cells (h : FB w g x0 x1 x2 x3 x4) : (w.cell? ⟨g, 0, none⟩ = some x0 ∧ w.cell? ⟨g, 1, none⟩ = some x1 ∧ w.cell? ⟨g, 2, none⟩ = some x2 ∧ w.cell? ⟨g, 3, none⟩ = some x3 ∧ w.cell? ⟨g, 4, none⟩ = some x4) ∧
    (w.frozen? ⟨g, 0, none⟩ = false ∧ w.frozen? ⟨g, 1, none⟩ = false ∧ w.frozen? ⟨g, 2, none⟩ = false ∧ w.frozen? ⟨g, 3, none⟩ = false ∧ w.frozen? ⟨g, 4, none⟩ = false) := by
  refine ⟨⟨?_, ?_, ?_, ?_, ?_⟩, ⟨?_, ?_, ?_, ?_, ?_⟩⟩
  all_goals first | (rw [cell_of_row w g _ _ _ _ h]; rfl) | exact frozen_of_row w g _ _ _ h
end

theorem Sl.setOld {w : World} {A : Option Addr} {n c : Nat} {l : List Int} (h : Sl w A n c l) {B : Nat} (hold : 0 < n → ∀ b off, A = some ⟨b, off, none⟩ → b < B) {g : Nat} (hg : B ≤ g) (i : Nat) (u : Value) : Sl (w.setCell ⟨g, i, none⟩ u) A n c l :=
  h.keep fun h0 b j ⟨off, e⟩ _ => World.cell?_setCell_far w _ _ u (by
    have h1 := hold h0 b off e
    show g ≠ b
    omega)
theorem size_set (w : World) (p : Addr) (u : Value) : (w.setCell p u).heap.size = w.heap.size := by simp [World.setCell]

/-- A frame in memory of the call's own. -/
def RetO (w : World) (W H M : Int) (P : List Int) (E : List Ent) (e : Ending) (w' : World) : Prop :=
  ∃ A' c1 g k c', e = .returned (.agg #[.slice A' E.length c1, .int .i64 W, .int .i64 H, .int .i64 M, .slice (some ⟨g, 0, none⟩) k c']) ∧ w'.ownsRow w.heap.size 68 2 (.slice A' E.length c1) E.length (ecells E) ∧ w.heap.size ≤ g ∧ Bl w' g P ∧ k = P.length ∧ k ≤ c' ∧ c' ≤ 9223372036854775807 ∧ Below w.heap.size w w'

set_option maxRecDepth 100000 in
set_option maxHeartbeats 3200000 in
theorem copiedF_any (A : Option Addr) (n c : Nat) (E : List Ent) (W H M : Int) (A2 : Option Addr) (n2 c2 : Nat) (P : List Int) (w : World) (h : En w A n c E) (h2 : Sl w A2 n2 c2 P) (hn : n ≤ 1000000) (h0 : 0 < n2) (hn2 : n2 ≤ 1000000) :
    Calls Try.prog 69 #[.agg #[.slice A n c, .int .i64 W, .int .i64 H, .int .i64 M, .slice A2 n2 c2]] w (RetO w W H M P E) := by
  have hlen := Lib.hid h.1
  have hlen2 := Lib.hid h2.len
  have hb := ((Below.refl w.heap.size w).alloc (Nat.le_refl _) (.cells #[.slice A n c, .int .i64 W, .int .i64 H, .int .i64 M, .slice A2 n2 c2] 27)).alloc (by simp) (.cells #[.slice none 0 0, .int .i64 0, .int .i64 0, .int .i64 0, .slice none 0 0] 27)
  have hs := Lib.hid ((h2.alloc (.cells #[.slice A n c, .int .i64 W, .int .i64 H, .int .i64 M, .slice A2 n2 c2] 27)).alloc (.cells #[.slice none 0 0, .int .i64 0, .int .i64 0, .int .i64 0, .slice none 0 0] 27))
  have hE := (h.alloc (.cells #[.slice A n c, .int .i64 W, .int .i64 H, .int .i64 M, .slice A2 n2 c2] 27)).alloc (.cells #[.slice none 0 0, .int .i64 0, .int .i64 0, .int .i64 0, .slice none 0 0] 27)
  have hc1 := Lib.hid (CloneE_any A n c E _ hE hn)
  have hc2 := Lib.hid (fun W hW => CloneP_any A2 n2 c2 P W hW h0 hn2)
  have hold := Lib.hid h2.old
  have k0 := (FB.new w (.slice A n c) (.int .i64 W) (.int .i64 H) (.int .i64 M) (.slice A2 n2 c2)).alloc (.cells #[.slice none 0 0, .int .i64 0, .int .i64 0, .int .i64 0, .slice none 0 0] 27)
  have k1 := FB.new (w.alloc (.cells #[.slice A n c, .int .i64 W, .int .i64 H, .int .i64 M, .slice A2 n2 c2] 27)) (.slice none 0 0) (.int .i64 0) (.int .i64 0) (.int .i64 0) (.slice none 0 0)
  simp only [World.size_alloc] at k1
  clear h h2 hE
  go_enter Try.func69, Try.ntmps69
  go_wp2_with (first
    | (go_at_call 42; refine hc1.out.mono ?_; rintro e w1 ⟨A', c1, rfl, ho, hb1⟩; simp only [World.size_alloc] at ho hb1; have hs2 := (hs.out.below hb1 (by simp)).setOld hold.out (Nat.le_refl w.heap.size) 0 (.slice A' n c1); have k01 := k0.below hb1 (by omega); have k11 := k1.below hb1 (by omega); obtain ⟨⟨d0, d1, d2, d3, d4⟩, f0, f1, f2, f3, f4⟩ := k01.cells)
    | (go_at_call 47; refine (hc2.out _ hs2).mono ?_; rintro e w3 ⟨g, c', rfl, hg, hbl, hnc, hcm, hb3⟩; rw [size_set] at hg hb3; have hsz := hb1.size; simp only [World.size_alloc] at hsz; have k02 := (k01.set0 (.slice A' n c1)).below hb3 (by omega); have k12 := (k11.far (p := ⟨w.heap.size, 0, none⟩) (by simp) (.slice A' n c1)).below hb3 (by omega); obtain ⟨⟨x0, x1, x2, x3, x4⟩, y0, y1, y2, y3, y4⟩ := k02.cells; obtain ⟨⟨z0, z1, z2, z3, z4⟩, t0, t1, t2, t3, t4⟩ := k12.cells))
  have hle := hlen.out
  have hgw : w.heap.size ≤ w3.heap.size := by have := hb3.size; simp only [size_set] at this; omega
  refine bodyPost_ret (v := .agg #[.slice A' n c1, .int .i64 W, .int .i64 H, .int .i64 M, .slice (some ⟨g, 0, none⟩) n2 c']) (by simp [results, Try.results69, go_sem, z0, z1, z2, z3, z4, t0, t1, t2, t3, t4]) rfl ?_
  refine ⟨A', c1, g, n2, c', by rw [hle], ?_, by omega, ?_, hlen2.out, hnc, hcm, ?_⟩
  · rw [hle] at ho ⊢
    have hlt := World.ownsRow.lt ho
    have h3 := own_bel (own_far (own_mono ho (Nat.le_succ_of_le (Nat.le_succ _))) (p := ⟨w.heap.size, 0, none⟩) (fun q hq => by have := hlt q hq; show q ≠ w.heap.size; omega) (.slice A' E.length c1)) (by rw [size_set]; simpa [hle] using hb3)
    repeat (refine own_far ?_ (fun q hq => by have := hlt q hq; simp; omega) _)
    exact h3
  · repeat (refine Bl.far ?_ (by simp <;> omega) _)
    exact hbl
  · repeat (refine Below.setCell ?_ (by simp <;> omega) _)
    refine (hb.trans (hb1.mono (by omega))).trans ?_
    exact (Below.setCell (Below.refl w.heap.size w1) (by simp) _).trans (hb3.mono (by omega))

end Go.Proofs.Ytfkoboljobghkaa
