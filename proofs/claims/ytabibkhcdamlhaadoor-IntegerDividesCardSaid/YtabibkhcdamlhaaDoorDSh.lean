/-
  Walk: divideShort of package integer.
-/
import Derived.Test.YtabibkhcdamlhaaDoorShD
import Derived.Test.YtabibkhcdamlhaaDoorX
import Derived.OwnWalkIn
import Derived.Test.YtabibkhcdamlhaaDoorInvIn
set_option linter.unusedSimpArgs false
set_option linter.unusedVariables false
namespace Go.Proofs.YtabibkhcdamlhaaDoor
open Go.RowKit Go.Shelf Num

attribute [local go_sem] Oper.semAt_some

/-- One step of the division by one group. -/
def shStep (l : List Nat) (d : Nat) (st : List Nat × Nat) (x : Nat) : List Nat × Nat := (st.1.set x ((st.2 * 1000000000 + nth l x) / d), (st.2 * 1000000000 + nth l x) % d)
def shAll (l : List Nat) (d n : Nat) (is : List Nat) : List Nat × Nat := is.foldl (shStep l d) (zeros n, 0)
theorem shAll_snoc (l : List Nat) (d n : Nat) (is : List Nat) (x : Nat) : shAll l d n (is ++ [x]) = shStep l d (shAll l d n is) x := by simp [shAll]
theorem shAll_ok {l : List Nat} {d n : Nat} (hd : 0 < d) (is : List Nat) : (shAll l d n is).1.length = n ∧ (shAll l d n is).2 < d := by
  have : ∀ (is : List Nat) (st : List Nat × Nat), st.1.length = n → st.2 < d → (is.foldl (shStep l d) st).1.length = n ∧ (is.foldl (shStep l d) st).2 < d := by
    intro is
    induction is with
    | nil => intro st h1 h2; exact ⟨h1, h2⟩
    | cons x is ih =>
      intro st h1 h2
      exact ih _ (by simp [shStep, h1]) (Nat.mod_lt _ hd)
  exact this is _ (zeros_length n) hd
theorem shAll_inv {l : List Nat} {d : Nat} (hd : 0 < d) (hg : Grp l) : ∀ k, k ≤ l.length → ShInv l d l.length (l.length - k) (shAll l d l.length (down l.length k)).1 (shAll l d l.length (down l.length k)).2 := by
  intro k
  induction k with
  | zero =>
    intro _
    refine ⟨zeros_length _, fun x hx => by simp [shAll, down, zeros] at hx; omega, ?_, hd⟩
    simp only [shAll, down, List.range_zero, List.map_nil, List.foldl_nil, Nat.sub_zero, Nat.sub_self]
    rw [List.drop_of_length_le (by rw [zeros_length]; exact Nat.le_refl _), topv_zero]
    simp [val]
  | succ k ih =>
    intro hk
    have h := ih (by omega)
    rw [down_succ, shAll_snoc]
    rw [show l.length - k = (l.length - (k + 1)) + 1 by omega] at h
    have := h.step rfl (by omega) hg hd rfl
    rw [show l.length - 1 - k = l.length - (k + 1) by omega]
    exact this

theorem grownBy_at (W : World) (b i : Nat) (v : Value) : W.grownBy (W.setCell ⟨b, i, none⟩ v) (some b) :=
  ⟨rfl, rfl, rfl, by simp [World.setCell], fun k _ hk => Below.heap_setCell _ _ _ _ (fun e => hk (by simp [e]))⟩

theorem gs_off {L : Array Bool} {i j : Nat} (h : i ≠ j) : (L.setIfInBounds i true).getD j false = L.getD j false := by
  simp [Array.getD_eq_getD_getElem?, Array.getElem?_setIfInBounds_ne h]

/-- The frame with what the last region writes into its slots. -/
def hole9 (a : Act) (v32 v33 v34 v4 v5 : Value) : Act := { a with tmps := ((((a.tmps.setIfInBounds 32 v32).setIfInBounds 33 v33).setIfInBounds 34 v34).setIfInBounds 4 v4).setIfInBounds 5 v5 }
/-- What stands while the last region is under way. -/
def I9 (W : World) (q : Value) (r : Nat) (T : Value → Prop) (a0 : Act) (L : Array Bool) (a : Act) (w : World) : Prop :=
  ∃ v32 v33 v34 v4 v5, a = hole9 a0 v32 v33 v34 v4 v5 ∧ L.size = 5 ∧ w = W.drew ∧ (L.getD 0 false = true → v32 = q) ∧ (L.getD 1 false = true → T v33) ∧ (L.getD 2 false = true → v34 = .int .u64 (r : Int)) ∧ (L.getD 3 false = true → L.getD 1 false = true ∧ v4 = v33) ∧ (L.getD 4 false = true → L.getD 2 false = true ∧ v5 = v34)

/-- The frame with what the store's region writes into its slots. -/
def hole7 (a : Act) (v22 v23 v24 v25 v26 v27 v28 : Value) : Act := { a with tmps := (((((((a.tmps).setIfInBounds 22 v22).setIfInBounds 23 v23).setIfInBounds 24 v24).setIfInBounds 25 v25).setIfInBounds 26 v26).setIfInBounds 27 v27).setIfInBounds 28 v28 }
/-- What stands while the store's region is under way. -/
def I7 (W W2 : World) (q xv sv dv qv qv2 pv : Value) (a0 : Act) (L : Array Bool) (a : Act) (w : World) : Prop :=
  ∃ v22 v23 v24 v25 v26 v27 v28, a = hole7 a0 v22 v23 v24 v25 v26 v27 v28 ∧ L.size = 8 ∧ (L.getD 7 false = false → w = W) ∧ (L.getD 7 false = true → w = W2 ∧ L.getD 0 false = true ∧ L.getD 2 false = true ∧ L.getD 3 false = true) ∧ (L.getD 0 false = true → v22 = q) ∧ (L.getD 1 false = true → v23 = xv) ∧ (L.getD 2 false = true → v24 = sv) ∧ (L.getD 3 false = true → v25 = dv) ∧ (L.getD 4 false = true → v26 = qv) ∧ (L.getD 5 false = true → v27 = qv2) ∧ (L.getD 6 false = true → v28 = pv)

theorem not_on {L : Array Bool} {i : Nat} (hi : L.getD i true = false) : L.getD i false = true → False := by
  intro h
  simp only [Array.getD_eq_getD_getElem?] at hi h
  cases hc : L[i]? with
  | none => simp [hc] at hi
  | some b => simp [hc] at hi h; rw [hi] at h; cases h

set_option maxRecDepth 100000 in
set_option maxHeartbeats 4000000 in
theorem divideShort_any (A : Option Addr) (n c m k d : Nat) (w : World) (h : MM w A n c m k) (hk : k ≤ 1000000000) (hd : 0 < d) (hd2 : d ≤ 1000000000) :
    Calls Tryd.prog 90 #[.slice A n c, .int .u64 (d : Int)] w fun e w' => ∃ A' n' c', e = .returned (.tuple #[.slice A' n' c', .int .u64 ((m % d : Nat) : Int)]) ∧ FM w' w.heap.size A' n' c' (m / d) k ∧ Below w.heap.size w w' := by
  obtain ⟨l, ha, hc, hv, hnk⟩ := h
  have hmk := run_make_u32 .i64 .i64 (n : Int) n rfl (by omega)
  refine (callsIn_wide (n := 6)).1 ?_
  refine callsIn_of_wp_marks Tryd.func90 rfl trivial ?_ rfl
  simp only [Tryd.ntmps90, List.size_toArray, List.length_cons, List.length_nil, Nat.reduceAdd, Nat.reduceSub, Array.replicate_succ, Array.replicate_zero, List.push_toArray, List.append_toArray, List.nil_append, List.cons_append]
  gi_wp2_with (refine ⟨trivial, ?_⟩; gi_at_call 56; refine (back_in _ _ _ _ _).mono ?_; rintro e w' ⟨rfl, rfl⟩)
  have hB0 : Below w.heap.size w (((((w.alloc (.cells #[.int .u64 (d : Int)] 58)).alloc (.cells (cells (zeros n)).toArray 48)).alloc (.cells #[.slice (some ⟨w.heap.size + 1, 0, none⟩) n n] 22)).alloc (.cells #[.int .u64 0] 58)).alloc (.cells #[.slice A n c] 22)) :=
    (((((Below.refl _ w).alloc (Nat.le_refl _) _).alloc (by simp) _).alloc (by simp; omega) _).alloc (by simp; omega) _).alloc (by simp; omega) _
  have cD : (((((w.alloc (.cells #[.int .u64 (d : Int)] 58)).alloc (.cells (cells (zeros n)).toArray 48)).alloc (.cells #[.slice (some ⟨w.heap.size + 1, 0, none⟩) n n] 22)).alloc (.cells #[.int .u64 0] 58)).alloc (.cells #[.slice A n c] 22)).cell? ⟨w.heap.size, 0, none⟩ = some (.int .u64 (d : Int)) := by simp [go_sem]
  have cQ : (((((w.alloc (.cells #[.int .u64 (d : Int)] 58)).alloc (.cells (cells (zeros n)).toArray 48)).alloc (.cells #[.slice (some ⟨w.heap.size + 1, 0, none⟩) n n] 22)).alloc (.cells #[.int .u64 0] 58)).alloc (.cells #[.slice A n c] 22)).cell? ⟨w.heap.size + 1 + 1, 0, none⟩ = some (.slice (some ⟨w.heap.size + 1, 0, none⟩) n n) := by simp [go_sem]
  have cR : (((((w.alloc (.cells #[.int .u64 (d : Int)] 58)).alloc (.cells (cells (zeros n)).toArray 48)).alloc (.cells #[.slice (some ⟨w.heap.size + 1, 0, none⟩) n n] 22)).alloc (.cells #[.int .u64 0] 58)).alloc (.cells #[.slice A n c] 22)).cell? ⟨w.heap.size + 1 + 1 + 1, 0, none⟩ = some (.int .u64 0) := by simp [go_sem]
  have fR : (((((w.alloc (.cells #[.int .u64 (d : Int)] 58)).alloc (.cells (cells (zeros n)).toArray 48)).alloc (.cells #[.slice (some ⟨w.heap.size + 1, 0, none⟩) n n] 22)).alloc (.cells #[.int .u64 0] 58)).alloc (.cells #[.slice A n c] 22)).frozen? ⟨w.heap.size + 1 + 1 + 1, 0, none⟩ = false := by simp [go_sem]
  have bZ : Bl (((((w.alloc (.cells #[.int .u64 (d : Int)] 58)).alloc (.cells (cells (zeros n)).toArray 48)).alloc (.cells #[.slice (some ⟨w.heap.size + 1, 0, none⟩) n n] 22)).alloc (.cells #[.int .u64 0] 58)).alloc (.cells #[.slice A n c] 22)) (w.heap.size + 1) (zeros n) := by
    have := Bl.new (w.alloc (.cells #[.int .u64 (d : Int)] 58)) (zeros n)
    rw [World.size_alloc] at this
    exact ((this.alloc _).alloc _).alloc _
  have bN : Boxed (((((w.alloc (.cells #[.int .u64 (d : Int)] 58)).alloc (.cells (cells (zeros n)).toArray 48)).alloc (.cells #[.slice (some ⟨w.heap.size + 1, 0, none⟩) n n] 22)).alloc (.cells #[.int .u64 0] 58)).alloc (.cells #[.slice A n c] 22)) (w.heap.size + 1 + 1 + 1 + 1) 22 (.slice A n c) := by
    have := Boxed.new ((((w.alloc (.cells #[.int .u64 (d : Int)] 58)).alloc (.cells (cells (zeros n)).toArray 48)).alloc (.cells #[.slice (some ⟨w.heap.size + 1, 0, none⟩) n n] 22)).alloc (.cells #[.int .u64 0] 58)) 22 (.slice A n c)
    simp only [World.size_alloc] at this
    exact this
  have hs5 : (((((w.alloc (.cells #[.int .u64 (d : Int)] 58)).alloc (.cells (cells (zeros n)).toArray 48)).alloc (.cells #[.slice (some ⟨w.heap.size + 1, 0, none⟩) n n] 22)).alloc (.cells #[.int .u64 0] 58)).alloc (.cells #[.slice A n c] 22)).heap.size = w.heap.size + 1 + 1 + 1 + 1 + 1 := by simp
  have hsa := ha.below hB0 (Nat.le_refl _)
  generalize hW5 : (((((w.alloc (.cells #[.int .u64 (d : Int)] 58)).alloc (.cells (cells (zeros n)).toArray 48)).alloc (.cells #[.slice (some ⟨w.heap.size + 1, 0, none⟩) n n] 22)).alloc (.cells #[.int .u64 0] 58)).alloc (.cells #[.slice A n c] 22)) = WV at *
  clear hW5
  have hlen' := Lib.hid ha.len
  have hg := Lib.hid hc.1
  replace hv := Lib.hid hv
  have hdI : (0 : Int) < (d : Int) := by omega
  have hdI2 : (d : Int) ≤ 1000000000 := by omega
  have hd0 : ((d : Int) == 0) = false := by rw [beq_eq_false_iff_ne]; omega
  refine wpIn_rangeFunc_ownG rfl (by omega) (gf := 83) (lb := #[.pointer (some ⟨w.heap.size + 1 + 1 + 1 + 1, 0, none⟩)]) rfl trivial (enters_of Tryd.func83 (by kernel_rfl) rfl)
    (back_stops_kp 5 (by omega) (w.heap.size + 1 + 1 + 1 + 1) (fun W W' => Below w.heap.size W W' ∧ ∀ v, Boxed W (w.heap.size + 1 + 1 + 1 + 1) 22 v → Boxed W' (w.heap.size + 1 + 1 + 1 + 1) 22 v) A n c l (by omega) WV (fun W => ⟨Below.refl _ _, fun _ h => h⟩) (fun h k => ⟨h.1.trans k.1, fun v hv => k.2 v (h.2 v hv)⟩)
      (fun W hW wr hk => ⟨(hk.2 _ ((hW.block _ (by omega)).trans bN)).cell, ((ha.below (hB0.trans (hW.mono (by omega))) (Nat.le_refl _)).below' hk.1 (fun h b o e => ha.old h b o e))⟩))
    (fun h k => ⟨h.1.trans k.1, fun v hv => k.2 v (h.2 v hv)⟩)
    (fun W lo o o' hl h hc hw => ⟨belowK_b (w := WV) (by omega) W lo o o' hl h hc hw, fun v hv => hv.kept (grownBy_putObj' W lo o') (by simp at hl ⊢; omega)⟩)
    (Below.refl _ _) (fun _ => rfl)
    (fun (pre : List (Ix n)) W => ((∃ Q r, shAll l d n (pre.map (·.1)) = (Q, r) ∧ Bl W (w.heap.size + 1) Q ∧ W.cell? ⟨w.heap.size + 1 + 1 + 1, 0, none⟩ = some (.int .u64 ((r : Nat) : Int))) ∧ W.frozen? ⟨w.heap.size + 1 + 1 + 1, 0, none⟩ = false ∧ W.cell? ⟨w.heap.size, 0, none⟩ = some (.int .u64 (d : Int)) ∧ W.cell? ⟨w.heap.size + 1 + 1, 0, none⟩ = some (.slice (some ⟨w.heap.size + 1, 0, none⟩) n n)) ∧ Below w.heap.size w W)
    (fun _ _ _ => False)
    (OwnFrom.and (Own.from (fun s A B row hs hg hr => by
      obtain ⟨⟨Q, r, h1, ⟨T, h2⟩, h3⟩, h4, h5, h6⟩ := hs
      exact ⟨⟨Q, r, h1, ⟨T, (grownBy_keeps_cells hg hr h2 rfl).trans h2⟩, cell_kept h3 hg hr⟩, (frozen_kept h3 hg hr).trans h4, cell_kept h5 hg hr, cell_kept h6 hg hr⟩) _) (ownFrom_below (Nat.le_refl _) (by omega)))
    (fun _ _ _ _ _ hs _ _ => hs)
    ⟨⟨⟨zeros n, 0, rfl, bZ, cR⟩, fR, cD, cQ⟩, hB0⟩
    (fun (x : Ix n) => { tmps := #[.slice A n c, .int .u64 (d : Int), undef, .pointer (some ⟨w.heap.size, 0, none⟩), .slice none 0 0, .int .u64 0, .pointer (some ⟨w.heap.size + 1 + 1, 0, none⟩), .pointer (some ⟨w.heap.size + 1 + 1 + 1, 0, none⟩), .int .i64 ((x.1 : Nat) : Int), .int .u32 ((nth l x.1 : Nat) : Int), .slice A n c, .int .i64 n, .slice (some ⟨w.heap.size + 1, 0, none⟩) n n, .slice A n c, .func (.func 83) #[] #[.pointer (some ⟨w.heap.size + 1 + 1 + 1 + 1, 0, none⟩)], .int .i64 ((x.1 : Nat) : Int), .int .u32 ((nth l x.1 : Nat) : Int), undef, undef, undef, undef, undef, undef, undef, undef, undef, undef, undef, undef, undef, undef, undef, undef, undef, undef], defers := [] }) ?assign ?body ?done ?stop
  case assign =>
    intro l' x W K hK
    gi_wp2
    exact hK
  case body =>
    rintro lp pre x W ⟨⟨⟨Q, r, hQr, hBl, hcR⟩, hfR, hcD, hcQ⟩, hB⟩ hlen
    obtain ⟨x, hxn⟩ := x
    dsimp only at hlen ⊢
    obtain ⟨hQl, hrd⟩ := shAll_ok (l := l) (n := n) hd (pre.map (·.1))
    rw [hQr] at hQl hrd
    dsimp only at hQl hrd
    obtain ⟨u, hu⟩ : ∃ u, nth l x = u := ⟨_, rfl⟩
    have hu9 : u < 1000000000 := by rw [← hu]; exact hg.out.get x
    obtain ⟨s, hsS⟩ : ∃ s, r * 1000000000 + u = s := ⟨_, rfl⟩
    have hsI : (r : Int) * 1000000000 + (u : Int) = (s : Int) := by omega
    have hs18 : s < 1000000000000000000 := by omega
    obtain ⟨qd, hqd⟩ : ∃ qd, s / d = qd := ⟨_, rfl⟩
    obtain ⟨rd, hrdd⟩ : ∃ rd, s % d = rd := ⟨_, rfl⟩
    have hnew : shAll l d n ((pre ++ [(⟨x, hxn⟩ : Ix n)]).map (·.1)) = (Q.set x qd, rd) := by
      rw [List.map_append, List.map_cons, List.map_nil, shAll_snoc, hQr]
      simp only [shStep, hu, hsS, hqd, hrdd]
    have hqI : (s : Int) / (d : Int) = (qd : Int) := by rw [← hqd]; exact (Int.natCast_ediv s d).symm
    have hrI : (s : Int) % (d : Int) = (rd : Int) := by rw [← hrdd]; exact (Int.natCast_emod s d).symm
    have hq9 : qd < 1000000000 := by
      rw [← hqd, Nat.div_lt_iff_lt_mul hd, ← hsS]
      have : (r + 1) * 1000000000 ≤ d * 1000000000 := Nat.mul_le_mul_right _ hrd
      rw [Nat.mul_comm 1000000000 d]
      omega
    have hwq : IntKind.u32.wrap (qd : Int) = (qd : Int) := wrap32 hq9
    have hwq2 : IntKind.u64.wrap (qd : Int) = (qd : Int) := by rw [IntKind.wrap_u64]; omega
    have hQx := hBl.cell (i := x) (by rw [hQl]; exact hxn)
    have hQf := hBl.frozen x
    rw [hu]
    replace hnew := Lib.hid hnew
    replace hu := Lib.hid hu
    replace hqd := Lib.hid hqd
    replace hrdd := Lib.hid hrdd
    replace hsS := Lib.hid hsS
    replace hQr := Lib.hid hQr
    have hrIh := Lib.hid hrI
    gi_wp2
    refine wpIn_region_inv0 (I0 := I7 (W.setCell ⟨w.heap.size + 1 + 1 + 1, 0, none⟩ (.int .u64 (s : Int))).drew ((W.setCell ⟨w.heap.size + 1 + 1 + 1, 0, none⟩ (.int .u64 (s : Int))).drew.setCell ⟨w.heap.size + 1, x, none⟩ (.int .u32 (qd : Int))) (.slice (some ⟨w.heap.size + 1, 0, none⟩) n n) (.int .i64 (x : Int)) (.int .u64 (s : Int)) (.int .u64 (d : Int)) (.int .u64 (qd : Int)) (.int .u32 (qd : Int)) (.pointer (some ⟨w.heap.size + 1, x, none⟩))) (by kernel_rfl) (by kernel_rfl) ?_ ?_ ?_ ?_
    · intro L a w1 hI
      unfold I7 at hI
      obtain ⟨v22, v23, v24, v25, v26, v27, v28, hae, hsz, -⟩ := hI
      exact hsz
    · exact ⟨undef, undef, undef, undef, undef, undef, undef, (by simp only [hole7, Act.put, List.setIfInBounds_toArray, List.set_cons_zero, List.set_cons_succ]), by simp, fun _ => rfl, fun h => by simp at h, fun h => by simp at h, fun h => by simp at h, fun h => by simp at h, fun h => by simp at h, fun h => by simp at h, fun h => by simp at h, fun h => by simp at h⟩
    · refine stepsIn_cons ?_ (stepsIn_cons ?_ (stepsIn_cons ?_ (stepsIn_cons ?_ (stepsIn_cons ?_ (stepsIn_cons ?_ (stepsIn_cons ?_ (stepsIn_cons ?_ (stepsIn_nil))))))))
      · unfold StepAtIn
        intro L a w1 KK hI hi ha hKK
        unfold I7 at hI
        obtain ⟨v22, v23, v24, v25, v26, v27, v28, hae, hsz, lw, l7, l0, l1, l2, l3, l4, l5, l6⟩ := hI
        have h7 : L.getD 7 false = false := by
          cases h : L.getD 7 false
          · rfl
          · exact (not_on hi ((l7 h).2.1)).elim
        have hww := lw h7
        subst hww
        rw [hae]
        clear hae
        simp only [hole7, List.setIfInBounds_toArray, List.set_cons_zero, List.set_cons_succ]
        go_simp
        exact hKK _ _ ⟨(.slice (some ⟨w.heap.size + 1, 0, none⟩) n n), v23, v24, v25, v26, v27, v28, (by simp only [hole7, Act.put, List.setIfInBounds_toArray, List.set_cons_zero, List.set_cons_succ]), by simpa using hsz, fun _ => rfl, fun e => absurd (show L.getD 7 false = true from (by rwa [gs_off (by decide)] at e)) (by rw [h7]; decide), fun _ => rfl, fun e => l1 (by rwa [gs_off (by decide)] at e), fun e => l2 (by rwa [gs_off (by decide)] at e), fun e => l3 (by rwa [gs_off (by decide)] at e), fun e => l4 (by rwa [gs_off (by decide)] at e), fun e => l5 (by rwa [gs_off (by decide)] at e), fun e => l6 (by rwa [gs_off (by decide)] at e)⟩
      · unfold StepAtIn
        intro L a w1 KK hI hi ha hKK
        unfold I7 at hI
        obtain ⟨v22, v23, v24, v25, v26, v27, v28, hae, hsz, lw, l7, l0, l1, l2, l3, l4, l5, l6⟩ := hI
        rw [hae]
        clear hae
        simp only [hole7, List.setIfInBounds_toArray, List.set_cons_zero, List.set_cons_succ]
        go_simp
        exact hKK _ _ ⟨v22, (.int .i64 (x : Int)), v24, v25, v26, v27, v28, (by simp only [hole7, Act.put, List.setIfInBounds_toArray, List.set_cons_zero, List.set_cons_succ]), by simpa using hsz, fun e => lw (by rwa [gs_off (by decide)] at e), fun e => ⟨(l7 (by rwa [gs_off (by decide)] at e)).1, by rw [gs_off (by decide)]; exact (l7 (by rwa [gs_off (by decide)] at e)).2.1, by rw [gs_off (by decide)]; exact (l7 (by rwa [gs_off (by decide)] at e)).2.2.1, by rw [gs_off (by decide)]; exact (l7 (by rwa [gs_off (by decide)] at e)).2.2.2⟩, fun e => l0 (by rwa [gs_off (by decide)] at e), fun _ => rfl, fun e => l2 (by rwa [gs_off (by decide)] at e), fun e => l3 (by rwa [gs_off (by decide)] at e), fun e => l4 (by rwa [gs_off (by decide)] at e), fun e => l5 (by rwa [gs_off (by decide)] at e), fun e => l6 (by rwa [gs_off (by decide)] at e)⟩
      · unfold StepAtIn
        intro L a w1 KK hI hi ha hKK
        unfold I7 at hI
        obtain ⟨v22, v23, v24, v25, v26, v27, v28, hae, hsz, lw, l7, l0, l1, l2, l3, l4, l5, l6⟩ := hI
        have h7 : L.getD 7 false = false := by
          cases h : L.getD 7 false
          · rfl
          · exact (not_on hi ((l7 h).2.2.1)).elim
        have hww := lw h7
        subst hww
        rw [hae]
        clear hae
        simp only [hole7, List.setIfInBounds_toArray, List.set_cons_zero, List.set_cons_succ]
        go_simp
        exact hKK _ _ ⟨v22, v23, (.int .u64 (s : Int)), v25, v26, v27, v28, (by simp only [hole7, Act.put, List.setIfInBounds_toArray, List.set_cons_zero, List.set_cons_succ]), by simpa using hsz, fun _ => rfl, fun e => absurd (show L.getD 7 false = true from (by rwa [gs_off (by decide)] at e)) (by rw [h7]; decide), fun e => l0 (by rwa [gs_off (by decide)] at e), fun e => l1 (by rwa [gs_off (by decide)] at e), fun _ => rfl, fun e => l3 (by rwa [gs_off (by decide)] at e), fun e => l4 (by rwa [gs_off (by decide)] at e), fun e => l5 (by rwa [gs_off (by decide)] at e), fun e => l6 (by rwa [gs_off (by decide)] at e)⟩
      · unfold StepAtIn
        intro L a w1 KK hI hi ha hKK
        unfold I7 at hI
        obtain ⟨v22, v23, v24, v25, v26, v27, v28, hae, hsz, lw, l7, l0, l1, l2, l3, l4, l5, l6⟩ := hI
        have h7 : L.getD 7 false = false := by
          cases h : L.getD 7 false
          · rfl
          · exact (not_on hi ((l7 h).2.2.2)).elim
        have hww := lw h7
        subst hww
        rw [hae]
        clear hae
        simp only [hole7, List.setIfInBounds_toArray, List.set_cons_zero, List.set_cons_succ]
        go_simp
        exact hKK _ _ ⟨v22, v23, v24, (.int .u64 (d : Int)), v26, v27, v28, (by simp only [hole7, Act.put, List.setIfInBounds_toArray, List.set_cons_zero, List.set_cons_succ]), by simpa using hsz, fun _ => rfl, fun e => absurd (show L.getD 7 false = true from (by rwa [gs_off (by decide)] at e)) (by rw [h7]; decide), fun e => l0 (by rwa [gs_off (by decide)] at e), fun e => l1 (by rwa [gs_off (by decide)] at e), fun e => l2 (by rwa [gs_off (by decide)] at e), fun _ => rfl, fun e => l4 (by rwa [gs_off (by decide)] at e), fun e => l5 (by rwa [gs_off (by decide)] at e), fun e => l6 (by rwa [gs_off (by decide)] at e)⟩
      · unfold StepAtIn
        intro L a w1 KK hI hi ha hKK
        unfold I7 at hI
        obtain ⟨v22, v23, v24, v25, v26, v27, v28, hae, hsz, lw, l7, l0, l1, l2, l3, l4, l5, l6⟩ := hI
        rw [hae]
        clear hae
        have q2 := ha { on := 2, ground := Ground.data } (by simp) rfl
        have e2 := l2 q2
        subst e2
        have q3 := ha { on := 3, ground := Ground.data } (by simp) rfl
        have e3 := l3 q3
        subst e3
        simp only [hole7, List.setIfInBounds_toArray, List.set_cons_zero, List.set_cons_succ]
        go_simp
        replace hKK := Lib.hid hKK
        gi_wp2
        exact hKK.out _ _ ⟨v22, v23, (.int .u64 (s : Int)), (.int .u64 (d : Int)), (.int .u64 (qd : Int)), v27, v28, (by simp only [hole7, Act.put, List.setIfInBounds_toArray, List.set_cons_zero, List.set_cons_succ]), by simpa using hsz, fun e => lw (by rwa [gs_off (by decide)] at e), fun e => ⟨(l7 (by rwa [gs_off (by decide)] at e)).1, by rw [gs_off (by decide)]; exact (l7 (by rwa [gs_off (by decide)] at e)).2.1, by rw [gs_off (by decide)]; exact (l7 (by rwa [gs_off (by decide)] at e)).2.2.1, by rw [gs_off (by decide)]; exact (l7 (by rwa [gs_off (by decide)] at e)).2.2.2⟩, fun e => l0 (by rwa [gs_off (by decide)] at e), fun e => l1 (by rwa [gs_off (by decide)] at e), fun _ => rfl, fun _ => rfl, fun _ => rfl, fun e => l5 (by rwa [gs_off (by decide)] at e), fun e => l6 (by rwa [gs_off (by decide)] at e)⟩
      · unfold StepAtIn
        intro L a w1 KK hI hi ha hKK
        unfold I7 at hI
        obtain ⟨v22, v23, v24, v25, v26, v27, v28, hae, hsz, lw, l7, l0, l1, l2, l3, l4, l5, l6⟩ := hI
        rw [hae]
        clear hae
        have q4 := ha { on := 4, ground := Ground.data } (by simp) rfl
        have e4 := l4 q4
        subst e4
        simp only [hole7, List.setIfInBounds_toArray, List.set_cons_zero, List.set_cons_succ]
        go_simp
        exact hKK _ _ ⟨v22, v23, v24, v25, (.int .u64 (qd : Int)), (.int .u32 (qd : Int)), v28, (by simp only [hole7, Act.put, List.setIfInBounds_toArray, List.set_cons_zero, List.set_cons_succ]), by simpa using hsz, fun e => lw (by rwa [gs_off (by decide)] at e), fun e => ⟨(l7 (by rwa [gs_off (by decide)] at e)).1, by rw [gs_off (by decide)]; exact (l7 (by rwa [gs_off (by decide)] at e)).2.1, by rw [gs_off (by decide)]; exact (l7 (by rwa [gs_off (by decide)] at e)).2.2.1, by rw [gs_off (by decide)]; exact (l7 (by rwa [gs_off (by decide)] at e)).2.2.2⟩, fun e => l0 (by rwa [gs_off (by decide)] at e), fun e => l1 (by rwa [gs_off (by decide)] at e), fun e => l2 (by rwa [gs_off (by decide)] at e), fun e => l3 (by rwa [gs_off (by decide)] at e), fun _ => rfl, fun _ => rfl, fun e => l6 (by rwa [gs_off (by decide)] at e)⟩
      · unfold StepAtIn
        intro L a w1 KK hI hi ha hKK
        unfold I7 at hI
        obtain ⟨v22, v23, v24, v25, v26, v27, v28, hae, hsz, lw, l7, l0, l1, l2, l3, l4, l5, l6⟩ := hI
        rw [hae]
        clear hae
        have q0 := ha { on := 0, ground := Ground.data } (by simp) rfl
        have e0 := l0 q0
        subst e0
        have q1 := ha { on := 1, ground := Ground.data } (by simp) rfl
        have e1 := l1 q1
        subst e1
        simp only [hole7, List.setIfInBounds_toArray, List.set_cons_zero, List.set_cons_succ]
        go_simp
        exact hKK _ _ ⟨(.slice (some ⟨w.heap.size + 1, 0, none⟩) n n), (.int .i64 (x : Int)), v24, v25, v26, v27, (.pointer (some ⟨w.heap.size + 1, x, none⟩)), (by simp only [hole7, Act.put, List.setIfInBounds_toArray, List.set_cons_zero, List.set_cons_succ]), by simpa using hsz, fun e => lw (by rwa [gs_off (by decide)] at e), fun e => ⟨(l7 (by rwa [gs_off (by decide)] at e)).1, by rw [gs_off (by decide)]; exact (l7 (by rwa [gs_off (by decide)] at e)).2.1, by rw [gs_off (by decide)]; exact (l7 (by rwa [gs_off (by decide)] at e)).2.2.1, by rw [gs_off (by decide)]; exact (l7 (by rwa [gs_off (by decide)] at e)).2.2.2⟩, fun _ => rfl, fun _ => rfl, fun e => l2 (by rwa [gs_off (by decide)] at e), fun e => l3 (by rwa [gs_off (by decide)] at e), fun e => l4 (by rwa [gs_off (by decide)] at e), fun e => l5 (by rwa [gs_off (by decide)] at e), fun _ => rfl⟩
      · unfold StepAtIn
        intro L a w1 KK hI hi ha hKK
        unfold I7 at hI
        obtain ⟨v22, v23, v24, v25, v26, v27, v28, hae, hsz, lw, l7, l0, l1, l2, l3, l4, l5, l6⟩ := hI
        have h7 : L.getD 7 false = false := by
          cases h : L.getD 7 false
          · rfl
          · exact (not_on hi h).elim
        have hww := lw h7
        subst hww
        rw [hae]
        clear hae
        have q5 := ha { on := 5, ground := Ground.data } (by simp) rfl
        have e5 := l5 q5
        subst e5
        have q6 := ha { on := 6, ground := Ground.data } (by simp) rfl
        have e6 := l6 q6
        subst e6
        simp only [hole7, List.setIfInBounds_toArray, List.set_cons_zero, List.set_cons_succ]
        go_simp
        have p0 := ha { on := 0, ground := Ground.phase } (by simp) rfl
        have p2 := ha { on := 2, ground := Ground.phase } (by simp) rfl
        have p3 := ha { on := 3, ground := Ground.phase } (by simp) rfl
        exact hKK _ _ ⟨v22, v23, v24, v25, v26, (.int .u32 (qd : Int)), (.pointer (some ⟨w.heap.size + 1, x, none⟩)), (by simp only [hole7, Act.put, List.setIfInBounds_toArray, List.set_cons_zero, List.set_cons_succ]), by simpa using hsz, fun e => by (exfalso; revert e; simp [Array.getD_eq_getD_getElem?, hsz]), fun _ => ⟨rfl, by rw [gs_off (by decide)]; exact p0, by rw [gs_off (by decide)]; exact p2, by rw [gs_off (by decide)]; exact p3⟩, fun e => l0 (by rwa [gs_off (by decide)] at e), fun e => l1 (by rwa [gs_off (by decide)] at e), fun e => l2 (by rwa [gs_off (by decide)] at e), fun e => l3 (by rwa [gs_off (by decide)] at e), fun e => l4 (by rwa [gs_off (by decide)] at e), fun _ => rfl, fun _ => rfl⟩
    · intro L a w1 hI hall
      unfold I7 at hI
      obtain ⟨v22, v23, v24, v25, v26, v27, v28, hae, hsz, lw, l7, l0, l1, l2, l3, l4, l5, l6⟩ := hI
      obtain ⟨hww, -⟩ := l7 (hall 7 (by decide))
      subst hww
      rw [hae]
      clear hae lw l7 l0 l1 l2 l3 l4 l5 l6 hall
      simp only [hole7, List.setIfInBounds_toArray, List.set_cons_zero, List.set_cons_succ]
      gi_wp2
      refine ⟨?_, ⟨?_, ?_⟩, ⟨⟨Q.set x qd, rd, hnew.out, ?_, ?_⟩, ?_, ?_, ?_⟩, ?_⟩
      · have H := (((KeepsOthers.setCell W ⟨w.heap.size + 1 + 1 + 1, 0, none⟩ (.int .u64 (s : Int))).trans ((KeepsOthers.setCell _ ⟨w.heap.size + 1, x, none⟩ (.int .u32 (qd : Int))).trans (KeepsOthers.setCell _ ⟨w.heap.size + 1 + 1 + 1, 0, none⟩ (.int .u64 (rd : Int))))).from WV.heap.size)
        first | exact H | exact ⟨H.1, H.2⟩
      · repeat (first | exact Below.refl _ _ | refine Below.drew ?_ | refine Below.setCell ?_ (by dsimp only; omega) _)
      · intro v hv
        have b1 := hv.kept (grownBy_setCell' W (w.heap.size + 1 + 1 + 1) (.int .u64 (s : Int))) (by simp)
        have b2 := b1.kept (grownBy_at _ (w.heap.size + 1) x (.int .u32 (qd : Int))) (by simp <;> omega)
        have b3 := b2.kept (grownBy_setCell' _ (w.heap.size + 1 + 1 + 1) (.int .u64 (rd : Int))) (by simp <;> omega)
        exact b3
      · exact (((hBl.far (p := ⟨w.heap.size + 1 + 1 + 1, 0, none⟩) (by simp) _).set x qd).far (p := ⟨w.heap.size + 1 + 1 + 1, 0, none⟩) (by simp) _)
      · simp [go_sem, hcR]
      · simp [go_sem, hfR]
      · simp [go_sem, hcD]
      · simp [go_sem, hcQ]
      · repeat (first | exact hB | refine Below.drew ?_ | refine Below.setCell ?_ (by dsimp only; omega) _)
  case done =>
    rintro D ys W hD hys ⟨⟨⟨Q, r, hQr, hBl, hcR⟩, hfR, hcD, hcQ⟩, hB⟩ hK
    have hinv := shAll_inv hd hg.out l.length (Nat.le_refl _)
    rw [Nat.sub_self] at hinv
    rw [hys, hlen'.out] at hQr
    rw [hQr] at hinv
    obtain ⟨hQl, hQg, hval, hrd⟩ := hinv
    dsimp only at hQl hQg hval hrd
    rw [List.drop_zero, Nat.sub_zero, topv_all, hv.out] at hval
    rw [← hlen'.out] at hQl
    have e1 : m / d = val Q := by rw [← hval, Nat.mul_comm, Nat.mul_add_div hd, Nat.div_eq_of_lt hrd, Nat.add_zero]
    have e2 : m % d = r := by rw [← hval, Nat.mul_comm, Nat.mul_add_mod, Nat.mod_eq_of_lt hrd]
    have hsl := hBl.sl (off := 0) (n := n) (c := n) (by omega) (Nat.le_refl _) (by omega)
    rw [List.drop_zero, List.take_of_length_le (by omega)] at hsl
    replace e1 := Lib.hid e1
    replace e2 := Lib.hid e2
    replace hval := Lib.hid hval
    replace hys := Lib.hid hys
    replace hQr := Lib.hid hQr
    replace hQl := Lib.hid hQl
    replace hQg := Lib.hid hQg
    gi_wp2
    refine wpIn_region_inv0 (I0 := I9 W (.slice (some ⟨w.heap.size + 1, 0, none⟩) n n) r (fun v => ∃ k', v = .slice (some ⟨w.heap.size + 1, 0, none⟩) k' n ∧ k' ≤ n ∧ (∀ j, k' ≤ j → j < n → nth Q j = 0) ∧ (k' = 0 ∨ nth Q (k' - 1) ≠ 0))) (by kernel_rfl) (by kernel_rfl) ?_ ?_ ?_ ?_
    · intro L a w1 hI
      unfold I9 at hI
      obtain ⟨v32, v33, v34, v4, v5, hae, hsz, -⟩ := hI
      exact hsz
    · exact ⟨undef, undef, undef, .slice none 0 0, .int .u64 0, (by simp only [hole9, Act.put, List.setIfInBounds_toArray, List.set_cons_zero, List.set_cons_succ]), by simp, rfl, fun h => by simp at h, fun h => by simp at h, fun h => by simp at h, fun h => by simp at h, fun h => by simp at h⟩
    · refine stepsIn_cons ?_ (stepsIn_cons ?_ (stepsIn_cons ?_ (stepsIn_cons ?_ (stepsIn_cons ?_ stepsIn_nil))))
      · unfold StepAtIn
        intro L a w1 KK hI hi ha hKK
        unfold I9 at hI
        obtain ⟨v32, v33, v34, v4, v5, hae, hsz, hww, l0, l1, l2, l3, l4⟩ := hI
        rw [hae, hww]
        clear hae hww
        simp only [hole9, List.setIfInBounds_toArray, List.set_cons_zero, List.set_cons_succ]
        go_simp
        exact hKK _ _ ⟨(.slice (some ⟨w.heap.size + 1, 0, none⟩) n n), v33, v34, v4, v5, (by simp only [hole9, Act.put, List.setIfInBounds_toArray, List.set_cons_zero, List.set_cons_succ]), by simpa using hsz, rfl, fun _ => rfl, fun e => l1 (by rwa [gs_off (by decide)] at e), fun e => l2 (by rwa [gs_off (by decide)] at e), fun e => ⟨by rw [gs_off (by decide)]; exact (l3 (by rwa [gs_off (by decide)] at e)).1, (l3 (by rwa [gs_off (by decide)] at e)).2⟩, fun e => ⟨by rw [gs_off (by decide)]; exact (l4 (by rwa [gs_off (by decide)] at e)).1, (l4 (by rwa [gs_off (by decide)] at e)).2⟩⟩
      · unfold StepAtIn
        intro L a w1 KK hI hi ha hKK
        unfold I9 at hI
        obtain ⟨v32, v33, v34, v4, v5, hae, hsz, hww, l0, l1, l2, l3, l4⟩ := hI
        rw [hae, hww]
        clear hae hww
        simp only [hole9, List.setIfInBounds_toArray, List.set_cons_zero, List.set_cons_succ]
        have q0 := ha { on := 0, ground := Ground.data } (by simp) rfl
        have e0 := l0 q0
        subst e0
        replace hKK := Lib.hid hKK
        gi_wp2_with (refine ⟨trivial, ?_⟩; gi_at_call 81; refine (callsIn_wide.2 (trimmed_any _ _ _ _ _ hsl.drew (by omega))).mono ?_; rintro e w3 ⟨k', hk', hz', ht', rfl, rfl⟩)
        exact hKK.out _ _ ⟨(.slice (some ⟨w.heap.size + 1, 0, none⟩) n n), (.slice (some ⟨w.heap.size + 1, 0, none⟩) k' n), v34, v4, v5, (by simp only [hole9, Act.put, List.setIfInBounds_toArray, List.set_cons_zero, List.set_cons_succ]), by simpa using hsz, rfl, fun _ => rfl, fun _ => ⟨k', rfl, hk', hz', ht'⟩, fun e => l2 (by rwa [gs_off (by decide)] at e), fun e => (not_on hi (l3 (by rwa [gs_off (by decide)] at e)).1).elim, fun e => ⟨by rw [gs_off (by decide)]; exact (l4 (by rwa [gs_off (by decide)] at e)).1, (l4 (by rwa [gs_off (by decide)] at e)).2⟩⟩
      · unfold StepAtIn
        intro L a w1 KK hI hi ha hKK
        unfold I9 at hI
        obtain ⟨v32, v33, v34, v4, v5, hae, hsz, hww, l0, l1, l2, l3, l4⟩ := hI
        rw [hae, hww]
        clear hae hww
        simp only [hole9, List.setIfInBounds_toArray, List.set_cons_zero, List.set_cons_succ]
        go_simp
        exact hKK _ _ ⟨v32, v33, (.int .u64 (r : Int)), v4, v5, (by simp only [hole9, Act.put, List.setIfInBounds_toArray, List.set_cons_zero, List.set_cons_succ]), by simpa using hsz, rfl, fun e => l0 (by rwa [gs_off (by decide)] at e), fun e => l1 (by rwa [gs_off (by decide)] at e), fun _ => rfl, fun e => ⟨by rw [gs_off (by decide)]; exact (l3 (by rwa [gs_off (by decide)] at e)).1, (l3 (by rwa [gs_off (by decide)] at e)).2⟩, fun e => (not_on hi (l4 (by rwa [gs_off (by decide)] at e)).1).elim⟩
      · unfold StepAtIn
        intro L a w1 KK hI hi ha hKK
        unfold I9 at hI
        obtain ⟨v32, v33, v34, v4, v5, hae, hsz, hww, l0, l1, l2, l3, l4⟩ := hI
        rw [hae, hww]
        clear hae hww
        simp only [hole9, List.setIfInBounds_toArray, List.set_cons_zero, List.set_cons_succ]
        have q1 := ha { on := 1, ground := Ground.data } (by simp) rfl
        go_simp
        exact hKK _ _ ⟨v32, v33, v34, v33, v5, (by simp only [hole9, Act.put, List.setIfInBounds_toArray, List.set_cons_zero, List.set_cons_succ]), by simpa using hsz, rfl, fun e => l0 (by rwa [gs_off (by decide)] at e), fun e => l1 (by rwa [gs_off (by decide)] at e), fun e => l2 (by rwa [gs_off (by decide)] at e), fun _ => ⟨by rw [gs_off (by decide)]; exact q1, rfl⟩, fun e => ⟨by rw [gs_off (by decide)]; exact (l4 (by rwa [gs_off (by decide)] at e)).1, (l4 (by rwa [gs_off (by decide)] at e)).2⟩⟩
      · unfold StepAtIn
        intro L a w1 KK hI hi ha hKK
        unfold I9 at hI
        obtain ⟨v32, v33, v34, v4, v5, hae, hsz, hww, l0, l1, l2, l3, l4⟩ := hI
        rw [hae, hww]
        clear hae hww
        simp only [hole9, List.setIfInBounds_toArray, List.set_cons_zero, List.set_cons_succ]
        have q2 := ha { on := 2, ground := Ground.data } (by simp) rfl
        have e2 := l2 q2
        subst e2
        go_simp
        exact hKK _ _ ⟨v32, v33, (.int .u64 (r : Int)), v4, (.int .u64 (r : Int)), (by simp only [hole9, Act.put, List.setIfInBounds_toArray, List.set_cons_zero, List.set_cons_succ]), by simpa using hsz, rfl, fun e => l0 (by rwa [gs_off (by decide)] at e), fun e => l1 (by rwa [gs_off (by decide)] at e), fun e => l2 (by rwa [gs_off (by decide)] at e), fun e => ⟨by rw [gs_off (by decide)]; exact (l3 (by rwa [gs_off (by decide)] at e)).1, (l3 (by rwa [gs_off (by decide)] at e)).2⟩, fun _ => ⟨by rw [gs_off (by decide)]; exact q2, rfl⟩⟩
    · intro L a w1 hI hall
      unfold I9 at hI
      obtain ⟨v32, v33, v34, v4, v5, hae, hsz, rfl, l0, l1, l2, l3, l4⟩ := hI
      rw [hae]
      clear hae
      obtain ⟨-, e4⟩ := l3 (hall 3 (by decide))
      obtain ⟨-, e5⟩ := l4 (hall 4 (by decide))
      obtain ⟨k', ek, hk', hz', ht'⟩ := l1 (hall 1 (by decide))
      have e34 := l2 (hall 2 (by decide))
      rw [e4, e5, ek, e34]
      simp only [hole9, List.setIfInBounds_toArray, List.set_cons_zero, List.set_cons_succ]
      gi_wp2
      refine ⟨by simp, .inl ⟨_, _, rfl, run_takeDeferred (w := W.drew) hK, ?_⟩⟩
      obtain ⟨T, hT⟩ := hBl
      have hBl2 := (grownBy_keeps_cells (grownBy_putObj' W.drew D (.deferred none)) (fun r e => by cases e; exact ⟨_, hK, rfl⟩) (show W.drew.heap[w.heap.size + 1]? = _ from hT) rfl).trans hT
      have hQt : (Q.drop 0).take n = Q := by rw [List.drop_zero, List.take_of_length_le (by rw [hQl.out]; exact Nat.le_refl _)]
      have hfm := FM.trim (B := w.heap.size) (g := w.heap.size + 1) (off := 0) (n := n) (c := n) (k := k') (L := Q) ⟨T, hBl2⟩ (by omega) (by rw [hQl.out]; omega) (Nat.le_refl _) (by have := ha.le_cap; have := ha.cap_le; omega) (fun j _ => hQg.out.get _) hk' (by rw [hQt]; exact hz') (by rw [hQt]; exact ht')
      rw [show vs Q 0 n = m / d by rw [e1.out]; exact vs_all Q (by rw [hQl.out]; exact Nat.le_refl _)] at hfm
      refine ⟨.tuple #[.slice (some ⟨w.heap.size + 1, 0, none⟩) k' n, .int .u64 (r : Int)], ?_, _, k', n, by first | rw [e2.out] | rw [← Int.natCast_emod, e2.out], hfm.mono hnk, hB.drew.trans (belowK_b (w := w) (Nat.le_refl _) W.drew D _ _ (by omega) hK rfl rfl)⟩
      simp [results, Tryd.f90, go_sem]
  case stop =>
    rintro D cd pre W hD hk hF hK
    exact hF.elim

end Go.Proofs.YtabibkhcdamlhaaDoor
