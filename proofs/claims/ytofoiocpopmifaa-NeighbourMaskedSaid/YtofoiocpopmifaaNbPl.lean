/-
  Walk: the closure that plants a tree (recursive).
-/
import Derived.Test.YtofoiocpopmifaaNbPs
import Derived.Deep.RegionHeld3
set_option linter.unusedSimpArgs false
set_option linter.unusedVariables false
namespace Go.Proofs.Ytofoiocpopmifaa
open Go.RowKit

theorem enters_plant : ∀ args w, (callFunc 52 args).run Try.prog w = .ok (.enter 52 args) w := enters_of Try.func52 (by kernel_rfl) rfl

/-- What planting m items gives. -/
def PlantOk (B g gT gL gP : Nat) (A : Option Addr) (n c : Nat) (l : List Nat) (m : Nat) : Prop :=
  ∀ (P M S : List Int) (T : List Van) (tv : Value) (w : World) (Ai : Option Addr) (cm : Nat), M.length = m → m ≤ cm → cm ≤ 9223372036854775807 → (0 < m → Ai = some ⟨g, P.length, none⟩) → (∀ x ∈ M, isItem n x) → PSt B gT gL gP A n c l T tv w → Bl w g (P ++ (M ++ S)) → T.length + m ≤ 100 →
    Calls Try.prog 52 #[.slice Ai m cm, .pointer (some ⟨gT, 0, none⟩), .pointer (some ⟨gL, 0, none⟩), .pointer (some ⟨gP, 0, none⟩)] w fun e w' =>
      (∃ (N : List Van) (tv' : Value) (M' : List Int), e = .returned (.int .i64 (ixOf m T.length)) ∧ Planted l M T.length N ∧ PSt B gT gL gP A n c l (T ++ N) tv' w' ∧ Bl w' g (P ++ (M' ++ S)) ∧ M'.length = m) ∧ Pl B g gT w w'

theorem plant_none (B g gT gL gP : Nat) (A : Option Addr) (n c : Nat) (l : List Nat) : PlantOk B g gT gL gP A n c l 0 := by
  intro P M S T tv w Ai cm hM hc hcm hAi hok hst hbl hT
  obtain rfl : M = [] := List.eq_nil_of_length_eq_zero hM
  have hr : ixOf 0 T.length = -1 := rfl
  rw [hr]
  go_enter Try.func52, Try.ntmps52
  go_wp2
  go_ret
  exact ⟨⟨[], tv, [], rfl, Planted.nil _, by rw [List.append_nil]; exact hst, hbl, rfl⟩, Pl.refl _ _ _ _⟩

theorem PSt.keep {B g gT gL gP : Nat} {A : Option Addr} {n c : Nat} {l : List Nat} {T : List Van} {tv : Value} {w w' : World} (h : PSt B gT gL gP A n c l T tv w) (G : Gnd B g gT gL gP A n c l) (ho : Only w w' g) : PSt B gT gL gP A n c l T tv w' := by
  have hs := h.sz
  have s1 := World.block_lt_of_cell? w _ h.kL
  have hne : tv.ownBlock = none ∨ tv.ownBlock ≠ some g := by
    cases hv : tv.ownBlock with
    | none => exact .inl rfl
    | some q => exact .inr fun e => by have := (h.own.lt q hv).1; have := G.lg; injection e; omega
  exact ⟨h.own.kept ho hne, (ho.block gT (by have := G.lT; omega) (fun e => G.neT (by injection e with e; exact e.symm))).trans h.kT, (ho.cell (by have := G.lL; omega) G.neL).trans h.kL, (ho.cell (by have := G.lP; omega) G.neP).trans h.kP, h.ws.only ho (fun h0 b off e => (G.hA h0 b off e).2.1), Nat.le_trans hs ho.size⟩

theorem PSt.drew {B gT gL gP : Nat} {A : Option Addr} {n c : Nat} {l : List Nat} {T : List Van} {tv : Value} {w : World} (h : PSt B gT gL gP A n c l T tv w) : PSt B gT gL gP A n c l T tv w.drew := ⟨h.own.drew, h.kT, h.kL, h.kP, h.ws, h.sz⟩

theorem own_some {w : World} {B n k : Nat} {t : TypeId} {v : Value} {vs : List Value} (h : w.ownsRow B t k v n vs) (h0 : 0 < n) : ∃ g cap, v = .slice (some ⟨g, 0, none⟩) n cap := by
  rcases h.2 with ⟨h2, h0'⟩ | ⟨g, cap, cur, h2, _⟩
  · omega
  · exact ⟨g, cap, h2⟩

theorem halved_none (A : Option Addr) (n c : Nat) (t : Nat) (Ai : Option Addr) (cm : Nat) (w : World) :
    Calls Try.prog 53 #[.slice A n c, .int .i64 (t : Int), .slice Ai 0 cm] w fun e w' => e = .returned (.tuple #[.int .i64 0, .int .i64 0]) ∧ Below w.heap.size w w' := by
  have hb := (((Below.refl w.heap.size w).alloc (Nat.le_refl _) (.cells #[.slice A n c] 22)).alloc (by simp) (.cells #[.int .i64 (t : Int)] 3))
  go_enter Try.func53, Try.ntmps53
  go_wp2
  exact bodyPost_ret (v := .tuple #[.int .i64 0, .int .i64 0]) (by simp [results, Try.results53, go_sem]) rfl ⟨rfl, hb⟩

/-- halved of any number of items. -/
theorem halved_m (A : Option Addr) (n c : Nat) (l : List Nat) (t g m cm : Nat) (P M S : List Int) (w : World) (Ai : Option Addr) (hAi : 0 < m → Ai = some ⟨g, P.length, none⟩) (h : WS w A n c l) (ht : t < n) (hn : n ≤ 1000000) (hA : 0 < n → ∀ b off, A = some ⟨b, off, none⟩ → b ≠ g) (hbl : Bl w g (P ++ (M ++ S))) (hm : M.length = m) (hmc : m ≤ cm) (hcm : cm ≤ 9223372036854775807) (hm19 : m ≤ 19) (hok : ∀ x ∈ M, isItem n x) :
    Calls Try.prog 53 #[.slice A n c, .int .i64 (t : Int), .slice Ai m cm] w fun e w' => (∃ r q : Nat, e = .returned (.tuple #[.int .i64 (r : Int), .int .i64 (q : Int)]) ∧ ∃ M1 M2, Bl w' g (P ++ ((M1 ++ M2) ++ S)) ∧ (M1 ++ M2).Perm M ∧ M1.length = q ∧ q ≤ m ∧ r ≤ 64 ∧ (∀ i ∈ M1, keyD l t i ≤ r) ∧ ∀ i ∈ M2, r < keyD l t i) ∧ Only w w' g := by
  by_cases hm0 : m = 0
  · subst hm0
    obtain rfl : M = [] := List.eq_nil_of_length_eq_zero hm
    refine (halved_none A n c t Ai cm w).mono fun e w' ⟨he, hb⟩ => ⟨⟨0, 0, he, [], [], hbl.below hb hbl.lt, List.Perm.refl _, rfl, Nat.le_refl _, by omega, fun i hi => by simp at hi, fun i hi => by simp at hi⟩, Only.of_below hb g⟩
  · obtain rfl := hAi (by omega)
    refine (halved_any A n c l t g m cm P M S w h ht hn hA hbl hm hmc hcm (by omega) hm19 hok).mono fun e w' ⟨⟨r, q, he, M', hb, hp, h1, h2, h3, h4, h5⟩, ho⟩ => ⟨⟨r, q, he, M'.take q, M'.drop q, by rw [List.take_append_drop]; exact hb, by rw [List.take_append_drop]; exact hp, ?_, h2, h3, ?_, ?_⟩, ho⟩
    · have := hp.length_eq
      rw [List.length_take]; omega
    · intro i hi
      obtain ⟨j, hj, rfl⟩ := List.mem_iff_getElem.1 hi
      rw [List.length_take] at hj
      have := h4 j (by omega)
      rw [nth_eq (by omega)] at this
      rw [List.getElem_take]
      exact this
    · intro i hi
      obtain ⟨j, hj, rfl⟩ := List.mem_iff_getElem.1 hi
      rw [List.length_drop] at hj
      have := hp.length_eq
      have := h5 (q + j) (by omega) (by omega)
      rw [nth_eq (by omega)] at this
      rw [List.getElem_drop]
      exact this

set_option maxRecDepth 100000 in
set_option maxHeartbeats 3200000 in
theorem plant_some (B g gT gL gP : Nat) (A : Option Addr) (n c : Nat) (l : List Nat) (m : Nat) (G : Gnd B g gT gL gP A n c l) (hm20 : m + 1 ≤ 20) (ih : ∀ k, k ≤ m → PlantOk B g gT gL gP A n c l k) : PlantOk B g gT gL gP A n c l (m + 1) := by
  intro P M S T tv w Ai cm hM hc hcm hAi hok hst hbl hT
  obtain ⟨x, R, rfl⟩ : ∃ x R, M = x :: R := by
    cases M with
    | nil => simp at hM
    | cons x R => exact ⟨x, R, rfl⟩
  obtain rfl := hAi (by omega)
  have hRl : R.length = m := by simpa using hM
  obtain ⟨t, rfl, htn⟩ := (hok x (List.mem_cons_self ..)).nat
  obtain ⟨Tb, ct, rfl, hTs, -, hTB⟩ := own_form hst.own
  obtain ⟨kT0, kTf⟩ : w.cell? ⟨gT, 0, none⟩ = some (.slice Tb T.length ct) ∧ w.frozen? ⟨gT, 0, none⟩ = false := ⟨cell_of_row w gT 0 _ _ _ hst.kT, frozen_of_row w gT 0 _ _ hst.kT⟩
  have hcx := hbl.cell (i := P.length) (by simp)
  have hx0 : nth (P ++ ((t : Int) :: R ++ S)) P.length = (t : Int) := by
    have := nth_app_mid (P := P) (M := (t : Int) :: R) (S := S) (i := 0) (by simp)
    exact this
  rw [hx0] at hcx
  obtain ⟨off, hoff⟩ : ∃ off, P.length = off := ⟨_, rfl⟩
  rw [hoff] at hcx
  obtain ⟨kl, hkl⟩ : ∃ kl, T.length = kl := ⟨_, rfl⟩
  rw [hoff, hkl]
  rw [hkl] at kT0 hT
  obtain ⟨m1, hm1⟩ : ∃ m1, m + 1 = m1 := ⟨_, rfl⟩
  rw [hm1] at hc ⊢
  have hmz : ((m1 : Int) == 0) = false := by simp; omega
  have hm0 : (0 : Int) < (m1 : Int) := by omega
  have hix : ixOf m1 kl = (kl : Int) := by unfold ixOf; rw [if_neg (by omega)]
  rw [hix]
  obtain ⟨i0, hi, hz0, hz1, hz2⟩ := info_parts infoV
  have hown := hst.own
  rw [hkl] at hown
  have hst' := Lib.hid hst
  have hbl' := Lib.hid hbl
  clear hst hbl hTs
  go_enter Try.func52, Try.ntmps52
  go_wp2
  go_quiet (fail)
  go_wp2_with (at_builtin; refine wpList_append_own _ rfl _ _ 39 rfl B 71 i0 (.agg #[.int .i64 0, .int .i64 0, .int .i64 0, .int .i64 0]) 4 32 Try.underlying39 hi hz0 hz1 hz2 rfl (by decide) _ _ _ rfl ((hown.alloc _)) ⟨w.heap.size, 0, none⟩ 1 1 (vcells [((t : Int), 0, 0, 0)]) rfl rfl ?qc2 (vcells_one _) ?qc4 ?qc5 ?qc6 ?_)
  case qc2 =>
    intro j u hj
    have := cell_of_row _ w.heap.size j _ _ _ (heap_alloc_new (w.drewN nq) (.cells (vcells [((t : Int), 0, 0, 0)]).toArray 71))
    rw [Addr.add_lit, Nat.zero_add]
    rw [← List.getElem?_toArray] at hj
    exact this.trans hj
  case qc4 => unfold maxLen; omega
  case qc5 => omega
  case qc6 => have := hst'.out.sz; simp; omega
  intro v' w6 hown6 hgrow hnil
  obtain ⟨T6, c6, rfl, -, -, hT6⟩ := own_form hown6
  have hlt0 := hown.lt
  have hB6 : Below B w w6 := ((below_drewN (Below.refl B w) nq).alloc hst'.out.sz _).grown hgrow (by have := hst'.out.sz; simp; omega) (fun q hq => (hlt0 q hq).1)
  obtain ⟨T1, hT1⟩ : ∃ T1, T ++ [((t : Int), (0 : Int), (0 : Int), (0 : Int))] = T1 := ⟨_, rfl⟩
  have hT1l : T1.length = kl + 1 := by rw [← hT1]; simp [hkl]
  obtain ⟨W7, hW7⟩ : ∃ W7, w6.setCell ⟨gT, 0, none⟩ (.slice T6 (kl + 1) c6) = W7 := ⟨_, rfl⟩
  have hkT6 : w6.heap[gT]? = some (.cells #[.slice Tb kl ct] 39 (0, 0)) := (hB6.block gT G.lT).trans (by rw [← hkl]; exact hst'.out.kT)
  obtain ⟨k6, f6⟩ : w6.cell? ⟨gT, 0, none⟩ = some (.slice Tb kl ct) ∧ w6.frozen? ⟨gT, 0, none⟩ = false := ⟨cell_of_row w6 gT 0 _ _ _ hkT6, frozen_of_row w6 gT 0 _ _ hkT6⟩
  have hne6 : ∀ q, (Value.slice T6 (kl + 1) c6).ownBlock = some q → q ≠ gT := fun q hq => by have := (hown6.lt q hq).1; have := G.lT; omega
  have st7 : PSt B gT gL gP A n c l T1 (.slice T6 (kl + 1) c6) W7 := by
    have hst := hst'.out
    refine ⟨?_, ?_, ?_, ?_, ?_, ?_⟩
    · rw [← hW7, hT1l, ← hT1, vcells_append]
      exact own_far hown6 hne6 _
    · rw [← hW7, heap_setCell_same w6 gT 0 _ _ _ hkT6]; rfl
    · rw [← hW7, World.cell?_setCell_other _ _ _ _ (by have := G.nTL; first | (simp [this]; done) | (simp; omega))]
      exact (hB6.cell (p := ⟨gL, 0, none⟩) G.lL).trans hst.kL
    · rw [← hW7, World.cell?_setCell_other _ _ _ _ (by have := G.nTP; first | (simp [this]; done) | (simp; omega))]
      exact (hB6.cell (p := ⟨gP, 0, none⟩) G.lP).trans hst.kP
    · rw [← hW7]
      exact ((hst.ws.1.below' hB6 (fun h0 b off e => (G.hA h0 b off e).1)).far (fun h0 b off e => (G.hA h0 b off e).2.2) _ : SR _ A n c 1 (ucells l)) |> fun h => ⟨h, hst.ws.2⟩
    · rw [← hW7]
      have := hB6.size
      have := hst.sz
      simp [World.setCell]; omega
  have bl7 : Bl W7 g (P ++ (((t : Int) :: R) ++ S)) := by
    rw [← hW7]
    exact (hbl'.out.below hB6 G.lg).far G.neT _
  have pl7 : Pl B g gT w W7 := by
    rw [← hW7]
    exact (Pl.of_below hB6).trans (Pl.setq w6 B g gT 0 _)
  go_wp2
  clear hgrow hnil hown6 hne6 hkT6 k6 f6 hT6 hcx hlt0 hown
  replace hW7 := Lib.hid hW7
  have kL7 := st7.kL
  have hm1n : 1 ≤ m1 := by omega
  have hm1i : (1 : Int) ≤ (m1 : Int) := by omega
  have bl7' : Bl W7 g ((P ++ [(t : Int)]) ++ (R ++ S)) := by simpa using bl7
  obtain ⟨A5, hA5⟩ : ∃ A5 : Option Addr, (if cm = 1 then some ⟨g, off, none⟩ else some ⟨g, off + 1, none⟩) = A5 := ⟨_, rfl⟩
  have hA5' : ¬ cm = 1 → A5 = some ⟨g, (P ++ [(t : Int)]).length, none⟩ := fun h => by rw [← hA5, if_neg h]; simp [hoff]
  have hcall5 := halved_m A n c l t g m (cm - 1) (P ++ [(t : Int)]) R S W7.drew A5 (fun h0 => hA5' (by omega)) st7.ws htn (by have := G.hn; omega) (fun h0 b off e => (G.hA h0 b off e).2.1) bl7'.drew hRl (by omega) (by omega) (by omega) (fun x hx => hok x (List.mem_cons_of_mem _ hx))
  rw [show m = m1 - 1 from by omega] at hcall5
  replace hcall5 := Lib.hid hcall5
  replace hA5' := Lib.hid hA5'
  have hm1h := Lib.hid hm1
  clear hm1
  go_region_held3 (fun w' => w'.cell? ⟨gL, 0, none⟩ = some (.slice A n c))
    (first | exact kL7 | exact kL8)
    (first | (go_at_call 53; refine hcall5.out.mono ?_; rintro e w8 ⟨⟨r, q, rfl, M1, M2, bl8, hperm, hM1, hq, hr, hle, hgt⟩, ho8⟩; have ho8' : Only W7 w8 g := ⟨ho8.os, ho8.tape, ho8.output, ho8.size, ho8.block⟩; have st8 := st7.keep G ho8'; have kL8 := st8.kL))
  have hm1 := hm1h.out
  obtain ⟨q1, hq1⟩ : ∃ q1, 1 + q = q1 := ⟨_, rfl⟩
  have hw6 : IntKind.i64.wrap (1 + (q : Int)) = (q1 : Int) := by rw [IntWalk.i64_left, IntWalk.wrap64_in _ (by omega)]; omega
  have i1 : 1 ≤ q1 := by omega
  have i2 : q1 ≤ cm := by omega
  have i3 : (1 : Int) ≤ (q1 : Int) := by omega
  have i4 : (q1 : Int) ≤ (cm : Int) := by omega
  have i5 : q1 ≤ m1 := by omega
  have i6 : (q1 : Int) ≤ (m1 : Int) := by omega
  have i7 : (0 : Int) ≤ (q1 : Int) := by omega
  have hpl := hperm.length_eq
  have bl8' : Bl w8 g ((P ++ [(t : Int)]) ++ (M1 ++ (M2 ++ S))) := by rw [List.append_assoc] at bl8; simpa using bl8
  have hmem : ∀ x ∈ M1 ++ M2, isItem n x := fun x hx => hok x (List.mem_cons_of_mem _ (hperm.mem_iff.1 hx))
  have hcall6 := ih q (by omega) (P ++ [(t : Int)]) M1 (M2 ++ S) T1 _ w8.drew A5 (cm - 1) hM1 (by omega) (by omega) (fun h0 => hA5'.out (by omega)) (fun x hx => hmem x (List.mem_append_left _ hx)) st8.drew bl8'.drew (by omega)
  rw [show q = q1 - 1 from by omega] at hcall6
  replace hcall6 := Lib.hid hcall6
  have kP8 := st8.kP
  have eg := enters_plant
  have hq' := Lib.hid hq
  have hokh := Lib.hid hok
  replace bl8 := Lib.hid bl8
  replace hq1 := Lib.hid hq1
  clear kL7 kL8 bl7 bl7' hok bl8' hcall5 hm1
  go_wp2
  go_region_held3 (fun w' => w'.cell? ⟨gP, 0, none⟩ = some (.func (.func 52) #[] #[.pointer (some ⟨gT, 0, none⟩), .pointer (some ⟨gL, 0, none⟩), .pointer (some ⟨gP, 0, none⟩)]))
    (first | exact kP8 | exact kP9)
    (first | (go_at_fn 52; refine hcall6.out.mono ?_; rintro e w9 ⟨⟨N, tv9, M1', rfl, hpl1, st9, bl9, hM1'⟩, pl9⟩; have kP9 := st9.kP))
  obtain ⟨A7, hA7⟩ : ∃ A7 : Option Addr, (if cm = q1 then some ⟨g, off, none⟩ else some ⟨g, off + q1, none⟩) = A7 := ⟨_, rfl⟩
  have hA7' : ¬ cm = q1 → A7 = some ⟨g, (P ++ [(t : Int)] ++ M1').length, none⟩ := fun h => by
    rw [← hA7, if_neg h]
    have := hq1.out
    simp [hoff, hM1']
    try omega
  have bl9' : Bl w9 g ((P ++ [(t : Int)] ++ M1') ++ (M2 ++ S)) := by rw [List.append_assoc] ; exact bl9
  obtain ⟨T2, hT2⟩ : ∃ T2, T1 ++ N = T2 := ⟨_, rfl⟩
  obtain ⟨k2, hk2⟩ : ∃ k2, T2.length = k2 := ⟨_, rfl⟩
  have hk2e : k2 = kl + 1 + q := by
    have e1 := hpl1.length
    rw [← hk2, ← hT2, List.length_append, hT1l, e1, hM1]
  rw [hT2] at st9
  have hm1 := hm1h.out
  have hq1o := hq1.out
  have hM2 : M2.length = m - q := by have e := hpl; rw [List.length_append] at e; omega
  have hcall7 := ih (m - q) (by omega) (P ++ [(t : Int)] ++ M1') M2 S T2 _ w9.drew A7 (cm - q1) hM2 (by omega) (by omega) (fun h0 => hA7' (by omega)) (fun x hx => hmem x (List.mem_append_right _ hx)) st9.drew bl9'.drew (by omega)
  rw [show m - q = m1 - q1 from by omega, hk2] at hcall7
  replace hcall7 := Lib.hid hcall7
  have hk2e' := Lib.hid hk2e
  replace hk2 := Lib.hid hk2
  replace hT2 := Lib.hid hT2
  replace bl9 := Lib.hid bl9
  replace hA7' := Lib.hid hA7'
  replace hM2 := Lib.hid hM2
  clear kP8 hcall6 bl9' hk2e hm1 hq1o hA5
  go_wp2
  go_region_held3 (fun w' => w'.cell? ⟨gP, 0, none⟩ = some (.func (.func 52) #[] #[.pointer (some ⟨gT, 0, none⟩), .pointer (some ⟨gL, 0, none⟩), .pointer (some ⟨gP, 0, none⟩)]))
    (first | exact kP9 | exact kP10)
    (first | (go_at_fn 52; refine hcall7.out.mono ?_; rintro e w10 ⟨⟨F, tv10, M2', rfl, hpl2, st10, bl10, hM2'⟩, pl10⟩; have kP10 := st10.kP))
  have hm1 := hm1h.out
  have hq1o := hq1.out
  have hk2e := hk2e'.out
  obtain ⟨x1, hx1⟩ : ∃ x1, ixOf (q1 - 1) (kl + 1) = x1 := ⟨_, rfl⟩
  obtain ⟨x2, hx2⟩ : ∃ x2, ixOf (m1 - q1) k2 = x2 := ⟨_, rfl⟩
  have hLl : (T2 ++ F).length = k2 + F.length := by rw [List.length_append, hk2.out]
  obtain ⟨L, hL⟩ : ∃ L, (T2 ++ F).length = L := ⟨_, rfl⟩
  have own10 := st10.own
  rw [hL] at own10
  obtain ⟨gr, cr, rfl⟩ := own_some own10 (by omega)
  have hkL : kl < L := by omega
  have hkLi : (kl : Int) < (L : Int) := by omega
  have kT10 := st10.kT
  have k10 := cell_of_row w10 gT 0 _ _ _ kT10
  simp only [List.getElem?_toArray, List.getElem?_cons_zero] at k10
  obtain ⟨e0, e1, e2, e3⟩ := vcells_at (l := T2 ++ F) (i := kl) (by omega)
  have c0 := (own10.cellAt (kl * 4) (by omega)).trans e0
  have c1 := (own10.cellAt (kl * 4 + 1) (by omega)).trans e1
  have c2 := (own10.cellAt (kl * 4 + 2) (by omega)).trans e2
  have c3 := (own10.cellAt (kl * 4 + 3) (by omega)).trans e3
  have f0 := own10.frozenAt (kl * 4)
  have f1 := own10.frozenAt (kl * 4 + 1)
  have f2 := own10.frozenAt (kl * 4 + 2)
  have f3 := own10.frozenAt (kl * 4 + 3)
  clear e0 e1 e2 e3
  rw [hx1, hx2]
  replace hx1 := Lib.hid hx1
  replace hx2 := Lib.hid hx2
  replace own10 := Lib.hid own10
  clear hk2e hm1 hq1o kP9 hcall7 hA7
  go_wp2
  go_ret
  have hgr := (own10.out.lt gr rfl).1
  have hTF : T2 ++ F = T ++ ((t : Int), (0 : Int), (0 : Int), (0 : Int)) :: (N ++ F) := by rw [← hT2.out, ← hT1]; simp
  rw [hTF] at st10 hL
  have st11 := st10.put (v := ((t : Int), (r : Int), x1, x2)) G hL hgr
  have pl11 : Pl B g gT w10 (put4 w10 gr (T.length * 4) ((t : Int), (r : Int), x1, x2)) := put4_pl w10 hgr _ _
  have bl11 : Bl (put4 w10 gr (T.length * 4) ((t : Int), (r : Int), x1, x2)) g (P ++ [(t : Int)] ++ M1' ++ (M2' ++ S)) := by
    have hne : g ≠ gr := by have := G.lg; omega
    unfold put4
    exact (((bl10.far hne _).far hne _).far hne _).far hne _
  rw [hkl] at st11 pl11 bl11
  have e1 : q1 - 1 = M1.length := by have := hq1.out; omega
  have e2 : m1 - q1 = M2.length := by have := hm1h.out; have := hq1.out; have := hM2.out; omega
  rw [e1] at hx1
  rw [e2, hk2e'.out] at hx2
  rw [hT1l] at hpl1
  rw [hk2e'.out] at hpl2
  have hpl' : Planted l ((t : Int) :: R) kl (((t : Int), (r : Int), x1, x2) :: (N ++ F)) := by
    rw [← hx1.out, ← hx2.out, ← hM1]
    rw [← hM1] at hpl2
    exact Planted.node t R M1 M2 kl r N F hperm hpl1 hpl2 hr hle hgt
  refine ⟨⟨_, _, (t : Int) :: (M1' ++ M2'), rfl, hpl', st11, ?_, ?_⟩, ?_⟩
  · simpa [put4] using bl11
  · have := hm1h.out; have := hM2.out; have := hq'.out; simp [hM1', hM2']; omega
  · exact (((pl7.trans (Pl.of_only ho8' st7.sz)).trans ⟨pl9.os, pl9.tape, pl9.output, pl9.size, pl9.block⟩).trans ⟨pl10.os, pl10.tape, pl10.output, pl10.size, pl10.block⟩).trans pl11

end Go.Proofs.Ytofoiocpopmifaa
