/-
  Walk: number of package integer.
-/
import Derived.Test.YtabibkhcdamlhaaDoorE
import Derived.Test.YtabibkhcdamlhaaDoorI
import Derived.Test.YtabibkhcdamlhaaDoorSml
import Derived.Test.YtabibkhcdamlhaaDoorShelf
import Derived.Test.YtabibkhcdamlhaaDoorX
import Derived.OwnWalkIn
set_option linter.unusedSimpArgs false
set_option linter.unusedVariables false
namespace Go.Proofs.YtabibkhcdamlhaaDoor
open Go.RowKit Go.Shelf Num

attribute [local go_sem] Oper.semAt_some

/-- The number of the first k groups from the top. -/
def topv (l : List Nat) (k : Nat) : Nat := val (l.drop (l.length - k))
theorem topv_zero (l : List Nat) : topv l 0 = 0 := by simp [topv, val]
theorem topv_all (l : List Nat) : topv l l.length = val l := by simp [topv]
theorem topv_succ {l : List Nat} {k : Nat} (h : k < l.length) : topv l (k + 1) = topv l k * 1000000000 + nth l (l.length - (k + 1)) := by
  unfold topv
  have e : l.drop (l.length - (k + 1)) = nth l (l.length - (k + 1)) :: l.drop (l.length - k) := by
    rw [show l.length - k = l.length - (k + 1) + 1 by omega]
    rw [List.drop_eq_getElem_cons (by omega)]
    congr 1
    unfold nth
    rw [List.getElem?_eq_getElem (by omega)]
    rfl
  rw [e]
  simp only [val]
  omega
theorem topv_le {l : List Nat} {k : Nat} (h : k ≤ l.length) : topv l k ≤ val l := by
  have : ∀ j, j + k ≤ l.length → topv l k ≤ topv l (k + j) := by
    intro j
    induction j with
    | zero => intro _; exact Nat.le_refl _
    | succ j ih =>
      intro hj
      have h1 := ih (by omega)
      have h2 := topv_succ (l := l) (k := k + j) (by omega)
      rw [show k + (j + 1) = k + j + 1 by omega, h2]
      omega
  have h2 := this (l.length - k) (by omega)
  rw [show k + (l.length - k) = l.length by omega, topv_all] at h2
  exact h2

/-- The number that groups make, taken in a row. -/
def foldV (l : List Nat) (is : List Nat) : Nat := is.foldl (fun t i => t * 1000000000 + nth l i) 0
theorem foldV_snoc (l is : List Nat) (i : Nat) : foldV l (is ++ [i]) = foldV l is * 1000000000 + nth l i := by simp [foldV]
theorem foldV_down (l : List Nat) : ∀ k, k ≤ l.length → foldV l (down l.length k) = topv l k := by
  intro k
  induction k with
  | zero => intro _; rw [topv_zero]; simp [down, foldV]
  | succ k ih =>
    intro hk
    rw [down_succ, foldV_snoc, ih (by omega), topv_succ (by omega)]
    congr 2
    omega

set_option maxRecDepth 100000 in
set_option maxHeartbeats 4000000 in
theorem number_short (A : Option Addr) (n c : Nat) (l : List Nat) (w : World) (ha : Sl w A n c l) (hg : Grp l) (hn : n ≤ 3) :
    Calls Tryd.prog 59 #[.slice A n c] w fun e w' =>
      ((val l < 18446744073709551616 ∧ e = .returned (.tuple #[.int .u64 ((val l : Nat) : Int), .bool true])) ∨ (18446744073709551616 ≤ val l ∧ e = .returned (.tuple #[.int .u64 0, .bool false]))) ∧ Below w.heap.size w w' := by
  have h1 : ¬ (3 : Int) < (n : Int) := by omega
  refine (callsIn_wide (n := 6)).1 ?_
  refine callsIn_of_wp_marks Tryd.func59 rfl trivial ?_ rfl
  simp only [Tryd.ntmps59, List.size_toArray, List.length_cons, List.length_nil, Nat.reduceAdd, Nat.reduceSub, Array.replicate_succ, Array.replicate_zero, List.push_toArray, List.append_toArray, List.nil_append, List.cons_append]
  gi_wp2_with (refine ⟨trivial, ?_⟩; gi_at_call 56; refine (back_in _ _ _ _ _).mono ?_; rintro e w' ⟨rfl, rfl⟩)
  have bR := Boxed.new w 58 (.int .u64 0)
  have bS := Boxed.new (w.alloc (.cells #[.int .u64 0] 58)) 4 (.bool false)
  have bT := Boxed.new ((w.alloc (.cells #[.int .u64 0] 58)).alloc (.cells #[.bool false] 4)) 58 (.int .u64 0)
  have bN := Boxed.new (((w.alloc (.cells #[.int .u64 0] 58)).alloc (.cells #[.bool false] 4)).alloc (.cells #[.int .u64 0] 58)) 22 (.slice A n c)
  rw [World.size_alloc] at bS
  rw [World.size_alloc, World.size_alloc] at bT
  rw [World.size_alloc, World.size_alloc, World.size_alloc] at bN
  have hB0 : Below w.heap.size w ((((w.alloc (.cells #[.int .u64 0] 58)).alloc (.cells #[.bool false] 4)).alloc (.cells #[.int .u64 0] 58)).alloc (.cells #[.slice A n c] 22)) :=
    ((((Below.refl _ w).alloc (Nat.le_refl _) _).alloc (by simp) _).alloc (by simp; omega) _).alloc (by simp; omega) _
  have hsa := ha.below hB0 (Nat.le_refl _)
  have hlen' := Lib.hid ha.len
  refine wpIn_rangeFunc_ownG rfl (by omega) (gf := 83) (lb := #[.pointer (some ⟨w.heap.size + 1 + 1 + 1, 0, none⟩)]) rfl trivial (enters_of Tryd.func83 (by kernel_rfl) rfl)
    (back_stops_kp 5 (by omega) (w.heap.size + 1 + 1 + 1) (fun W W' => Below w.heap.size W W' ∧ ∀ v, Boxed W (w.heap.size + 1 + 1 + 1) 22 v → Boxed W' (w.heap.size + 1 + 1 + 1) 22 v) A n c l (by omega) _ (fun W => ⟨Below.refl _ _, fun _ h => h⟩) (fun h k => ⟨h.1.trans k.1, fun v hv => k.2 v (h.2 v hv)⟩)
      (fun W hW wr hk => ⟨(hk.2 _ ((hW.block _ (by simp)).trans bN)).cell, ((ha.below (hB0.trans (hW.mono (by simp; omega))) (Nat.le_refl _)).below' hk.1 (fun h b o e => ha.old h b o e))⟩))
    (fun h k => ⟨h.1.trans k.1, fun v hv => k.2 v (h.2 v hv)⟩)
    (fun W lo o o' hl h hc hw => ⟨belowK_b (w := (((((w.alloc (.cells #[.int .u64 0] 58)).alloc (.cells #[.bool false] 4)).alloc (.cells #[.int .u64 0] 58)).alloc (.cells #[.slice A n c] 22)))) (by simp; omega) W lo o o' hl h hc hw, fun v hv => hv.kept (grownBy_putObj' W lo o') (by simp at hl ⊢; omega)⟩)
    (Below.refl _ _) (fun _ => rfl)
    (fun (pre : List (Ix n)) W => ((∃ t, foldV l (pre.map (·.1)) = t ∧ t < 18446744073709551616 ∧ W.cell? ⟨w.heap.size + 1 + 1, 0, none⟩ = some (.int .u64 ((t : Nat) : Int))) ∧ W.frozen? ⟨w.heap.size + 1 + 1, 0, none⟩ = false ∧ W.cell? ⟨w.heap.size, 0, none⟩ = some (.int .u64 0) ∧ W.frozen? ⟨w.heap.size, 0, none⟩ = false ∧ W.cell? ⟨w.heap.size + 1, 0, none⟩ = some (.bool false) ∧ W.frozen? ⟨w.heap.size + 1, 0, none⟩ = false) ∧ Below w.heap.size w W)
    (fun cd (pre : List (Ix n)) W => (cd = .ret ∧ 18446744073709551616 ≤ foldV l (pre.map (·.1)) ∧ W.cell? ⟨w.heap.size, 0, none⟩ = some (.int .u64 0) ∧ W.cell? ⟨w.heap.size + 1, 0, none⟩ = some (.bool false)) ∧ Below w.heap.size w W)
    (OwnFrom.and (Own.from (fun s A B row hs hg hr => by
      obtain ⟨⟨k, h1, h3, h4⟩, h5, h6, h7, h8, h9⟩ := hs
      exact ⟨⟨k, h1, h3, cell_kept h4 hg hr⟩, (frozen_kept h4 hg hr).trans h5, cell_kept h6 hg hr, (frozen_kept h6 hg hr).trans h7, cell_kept h8 hg hr, (frozen_kept h8 hg hr).trans h9⟩) _) (ownFrom_below (Nat.le_refl _) (by simp; omega)))
    (fun cd => OwnFrom.and (Own.from (fun s A B row hs hg hr => by obtain ⟨hc, h1, h2, h3⟩ := hs; exact ⟨hc, h1, cell_kept h2 hg hr, cell_kept h3 hg hr⟩) _) (ownFrom_below (Nat.le_refl _) (by simp; omega)))
    ⟨⟨⟨0, rfl, by omega, (bT.alloc _).cell⟩, (bT.alloc _).frozen, (((bR.alloc _).alloc _).alloc _).cell, (((bR.alloc _).alloc _).alloc _).frozen, ((bS.alloc _).alloc _).cell, ((bS.alloc _).alloc _).frozen⟩, hB0⟩
    (fun x => { tmps := #[.slice A n c, undef, .pointer (some ⟨w.heap.size, 0, none⟩), .pointer (some ⟨w.heap.size + 1, 0, none⟩), .pointer (some ⟨w.heap.size + 1 + 1, 0, none⟩), undef, .int .u32 ((nth l x.1 : Nat) : Int), undef, undef, undef, undef, .slice A n c, .int .i64 n, .bool false, .slice A n c, .func (.func 83) #[] #[.pointer (some ⟨w.heap.size + 1 + 1 + 1, 0, none⟩)], .int .i64 ((x.1 : Nat) : Int), .int .u32 ((nth l x.1 : Nat) : Int), undef, undef, undef, undef, undef, undef, undef, undef, undef, undef, undef, undef, undef, undef, undef, undef, undef, undef, undef, undef], defers := [] }) ?assign ?body ?done ?stop
  case assign =>
    intro l' x W K hK
    gi_wp2
    exact hK
  case body =>
    rintro lp pre x W ⟨⟨⟨t, hk, ht, hc0⟩, hf0, hc1, hf1, hc2, hf2⟩, hB⟩ hlen
    obtain ⟨x, hxn⟩ := x
    dsimp only at hlen ⊢
    obtain ⟨u, hu⟩ : ∃ u, nth l x = u := ⟨_, rfl⟩
    have hu9 : u < 1000000000 := by rw [← hu]; exact hg.get _
    rw [hu]
    have hmul := Tryd.bits_Mul64 t 1000000000 ht (by omega)
    obtain ⟨hi, hhi⟩ : ∃ hi, t * 1000000000 / 18446744073709551616 = hi := ⟨_, rfl⟩
    obtain ⟨lo, hlo⟩ : ∃ lo, t * 1000000000 % 18446744073709551616 = lo := ⟨_, rfl⟩
    rw [hhi, hlo] at hmul
    have hadd := fun W => add64 (lo : Int) (u : Int) (by omega) (by omega) W
    obtain ⟨s, hs⟩ : ∃ s, (lo + u) % 18446744073709551616 = s := ⟨_, rfl⟩
    obtain ⟨cy, hcy⟩ : ∃ cy, (lo + u) / 18446744073709551616 = cy := ⟨_, rfl⟩
    have ea1 : ((lo : Int) + (u : Int)) % 18446744073709551616 = (s : Int) := by omega
    have ea2 : ((lo : Int) + (u : Int)) / 18446744073709551616 = (cy : Int) := by omega
    simp only [ea1, ea2] at hadd
    have hwu : IntKind.u64.wrap (u : Int) = (u : Int) := by rw [IntKind.wrap_u64]; omega
    have hnew : foldV l ((pre ++ [(⟨x, hxn⟩ : Ix n)]).map (·.1)) = t * 1000000000 + u := by
      rw [List.map_append, List.map_cons, List.map_nil, foldV_snoc, hk, hu]
    by_cases hover : hi = 0 ∧ cy = 0
    · obtain ⟨rfl, rfl⟩ := hover
      have hs2 : t * 1000000000 + u = s := by omega
      have hs3 : s < 18446744073709551616 := by omega
      replace hnew := Lib.hid (hnew.trans hs2)
      clear ea1 ea2 hk hhi hlo hs hcy hs2
      replace hu := Lib.hid hu
      replace hmul := Lib.hid hmul
      gi_wp2_with (first | (refine ⟨trivial, ?_⟩; gi_at_call 85; refine (CallsIn.inRound lp (callsIn_wide.2 (hmul.out _))).mono ?_; rintro e w' ⟨rfl, rfl⟩) | (refine ⟨trivial, ?_⟩))
      have hcs := World.cell?_setCell_same' w' ⟨w.heap.size + 1 + 1, 0, none⟩ (.int .u64 (s : Int)) (by rw [hc0]; rfl)
      refine ⟨(KeepsOthers.setCell _ _ _).from _, ⟨(Below.refl _ _).setCell (by dsimp only; omega) _, fun v hv => hv.kept (grownBy_setCell' _ _ _) (by simp)⟩, ⟨⟨s, hnew.out, hs3, hcs⟩, by simp [go_sem, hf0], by simp [go_sem, hc1], by simp [go_sem, hf1], by simp [go_sem, hc2], by simp [go_sem, hf2]⟩, hB.setCell (by dsimp only; omega) _⟩
    · have hov : 18446744073709551616 ≤ t * 1000000000 + u := by omega
      rw [← hnew] at hov
      have tst : ((hi : Int) != 0) = true ∨ ((hi : Int) != 0) = false ∧ ((cy : Int) != 0) = true := by
        by_cases h0 : hi = 0
        · subst h0; right; refine ⟨by simp, ?_⟩; rw [bne_iff_ne]; omega
        · left; rw [bne_iff_ne]; omega
      clear ea1 ea2 hk hhi hlo hs hcy hnew hover
      replace hov := Lib.hid hov
      replace hu := Lib.hid hu
      replace hmul := Lib.hid hmul
      rcases tst with t1 | ⟨t1, t2⟩
      · gi_wp2_with (first | (refine ⟨trivial, ?_⟩; gi_at_call 85; refine (CallsIn.inRound lp (callsIn_wide.2 (hmul.out _))).mono ?_; rintro e w' ⟨rfl, rfl⟩) | (refine ⟨trivial, ?_⟩))
        exact ⟨((KeepsOthers.setCell _ _ _).trans (KeepsOthers.setCell _ _ _)).from _, ⟨rfl, hov.out, by simp [go_sem, hc1], by simp [go_sem, hc2]⟩, (hB.setCell (p := ⟨w.heap.size, 0, none⟩) (Nat.le_refl _) _).setCell (p := ⟨w.heap.size + 1, 0, none⟩) (by simp) _⟩
      · gi_wp2_with (first | (refine ⟨trivial, ?_⟩; gi_at_call 85; refine (CallsIn.inRound lp (callsIn_wide.2 (hmul.out _))).mono ?_; rintro e w' ⟨rfl, rfl⟩) | (refine ⟨trivial, ?_⟩))
        exact ⟨((KeepsOthers.setCell _ _ _).trans (KeepsOthers.setCell _ _ _)).from _, ⟨rfl, hov.out, by simp [go_sem, hc1], by simp [go_sem, hc2]⟩, (hB.setCell (p := ⟨w.heap.size, 0, none⟩) (Nat.le_refl _) _).setCell (p := ⟨w.heap.size + 1, 0, none⟩) (by simp) _⟩
  case done =>
    rintro D ys W hD hys ⟨⟨⟨t, hk, ht, hc0⟩, hf0, hc1, hf1, hc2, hf2⟩, hB⟩ hK
    have htv : t = val l := by
      rw [← hk, hys]
      have := foldV_down l l.length (Nat.le_refl _)
      rw [topv_all] at this
      rw [← this, ← hlen'.out]
    subst htv
    replace hys := Lib.hid hys
    clear hk
    gi_wp2
    have hK' := ((KeepsOthers.setCell W ⟨w.heap.size, 0, none⟩ (.int .u64 ((val l : Nat) : Int))).trans (KeepsOthers.setCell _ ⟨w.heap.size + 1, 0, none⟩ (.bool true))).same D _ hK rfl
    refine ⟨by simp, .inl ⟨_, _, rfl, run_takeDeferred hK', ?_⟩⟩
    have q1 := cell_kept (W := (W.setCell ⟨w.heap.size, 0, none⟩ (.int .u64 ((val l : Nat) : Int))).setCell ⟨w.heap.size + 1, 0, none⟩ (.bool true)) (a := ⟨w.heap.size, 0, none⟩) (v := .int .u64 ((val l : Nat) : Int)) (by simp [go_sem, hc1]) (grownBy_putObj' _ D (.deferred none)) (fun r e => by cases e; exact ⟨_, hK', rfl⟩)
    have q2 := cell_kept (W := (W.setCell ⟨w.heap.size, 0, none⟩ (.int .u64 ((val l : Nat) : Int))).setCell ⟨w.heap.size + 1, 0, none⟩ (.bool true)) (a := ⟨w.heap.size + 1, 0, none⟩) (v := .bool true) (by simp [go_sem, hc2]) (grownBy_putObj' _ D (.deferred none)) (fun r e => by cases e; exact ⟨_, hK', rfl⟩)
    refine ⟨.tuple #[.int .u64 ((val l : Nat) : Int), .bool true], ?_, .inl ⟨ht, rfl⟩, ((hB.setCell (p := ⟨w.heap.size, 0, none⟩) (Nat.le_refl _) _).setCell (p := ⟨w.heap.size + 1, 0, none⟩) (by simp) _).trans (belowK_b (w := w) (Nat.le_refl _) _ D _ _ (by simp at hD; omega) hK' rfl rfl)⟩
    simp [results, Tryd.f59, go_sem, q1, q2]
  case stop =>
    rintro D cd pre W hD ⟨k, hk, hmap⟩ ⟨⟨rfl, hov, hc1, hc2⟩, hB⟩ hK
    have hval : 18446744073709551616 ≤ val l := by
      rw [hmap] at hov
      rw [hlen'.out] at hov hk
      rw [foldV_down l k hk] at hov
      exact Nat.le_trans hov (topv_le hk)
    replace hmap := Lib.hid hmap
    clear hov
    gi_wp2
    refine ⟨by simp, .inl ⟨_, _, rfl, run_takeDeferred hK, ?_⟩⟩
    have q1 := cell_kept hc1 (grownBy_putObj' _ D (.deferred none)) (fun r e => by cases e; exact ⟨_, hK, rfl⟩)
    have q2 := cell_kept hc2 (grownBy_putObj' _ D (.deferred none)) (fun r e => by cases e; exact ⟨_, hK, rfl⟩)
    refine ⟨.tuple #[.int .u64 0, .bool false], ?_, .inr ⟨hval, rfl⟩, hB.trans (belowK_b (w := w) (Nat.le_refl _) W D _ _ (by simp at hD; omega) hK rfl rfl)⟩
    simp [results, Tryd.f59, go_sem, q1, q2]

set_option maxRecDepth 100000 in
set_option maxHeartbeats 1600000 in
theorem number_long (A : Option Addr) (n c : Nat) (w : World) (hn : 3 < n) :
    Calls Tryd.prog 59 #[.slice A n c] w fun e w' => e = .returned (.tuple #[.int .u64 0, .bool false]) ∧ Below w.heap.size w w' := by
  have h1 : (3 : Int) < (n : Int) := by omega
  go_enter Tryd.func59, Tryd.ntmps59
  go_wp2
  refine bodyPost_ret (v := .tuple #[.int .u64 0, .bool false]) (by simp [results, Tryd.results59, go_sem]) rfl ?_
  exact ⟨rfl, by repeat (first | exact Below.refl _ _ | refine Below.setCell ?_ (by first | (dsimp only; omega) | (simp <;> omega)) _ | refine Below.alloc ?_ (by first | omega | (simp <;> omega)) _)⟩

/-- The magnitude as a number, and whether it fits. -/
theorem number_any (A : Option Addr) (n c m k : Nat) (w : World) (h : MM w A n c m k) :
    Calls Tryd.prog 59 #[.slice A n c] w fun e w' =>
      ((m < 18446744073709551616 ∧ e = .returned (.tuple #[.int .u64 ((m : Nat) : Int), .bool true])) ∨ (18446744073709551616 ≤ m ∧ e = .returned (.tuple #[.int .u64 0, .bool false]))) ∧ Below w.heap.size w w' := by
  obtain ⟨l, hs, hc, rfl, hk⟩ := h
  by_cases hn : n ≤ 3
  · exact number_short A n c l w hs hc.1 hn
  · refine (number_long A n c w (by omega)).mono ?_
    rintro e w' ⟨rfl, hb⟩
    refine ⟨.inr ⟨?_, rfl⟩, hb⟩
    have hlen := hs.len
    rcases (can_iff.1 hc).2 with h0 | h0
    · rw [h0] at hlen; simp at hlen; omega
    · have h3 := val_take_drop l 3 (by omega)
      have h4 : 1 ≤ val (l.drop 3) := by
        have h5 : topv l 1 ≤ topv l (l.length - 3) := by
          have := topv_le (l := l.drop 3) (k := 1) (by rw [List.length_drop]; omega)
          unfold topv at this ⊢
          rw [List.drop_drop, List.length_drop] at this
          rw [show l.length - (l.length - 3) = 3 by omega]
          rw [show 3 + (l.length - 3 - 1) = l.length - 1 by omega] at this
          exact this
        have h6 := topv_succ (l := l) (k := 0) (by omega)
        rw [topv_zero] at h6
        unfold topv at h5 h6
        rw [show l.length - (l.length - 3) = 3 by omega] at h5
        have : 0 < nth l (l.length - 1) := Nat.pos_of_ne_zero h0
        simp at h6
        omega
      have h7 : pw 3 = 1000000000000000000000000000 := by decide
      rw [h7] at h3
      omega

end Go.Proofs.YtabibkhcdamlhaaDoor

/-
  Walk: Small of package integer.
-/
namespace Go.Proofs.YtabibkhcdamlhaaDoor
open Go.RowKit Num

theorem number_fits {A : Option Addr} {n c m k : Nat} {w : World} (h : MM w A n c m k) (hm : m < 18446744073709551616) :
    Calls Tryd.prog 59 #[.slice A n c] w fun e w' => e = .returned (.tuple #[.int .u64 ((m : Nat) : Int), .bool true]) ∧ Below w.heap.size w w' := by
  refine (number_any A n c m k w h).mono ?_
  rintro e w' ⟨⟨_, rfl⟩ | ⟨h1, _⟩, hb⟩
  · exact ⟨rfl, hb⟩
  · omega
theorem number_over {A : Option Addr} {n c m k : Nat} {w : World} (h : MM w A n c m k) (hm : 18446744073709551616 ≤ m) :
    Calls Tryd.prog 59 #[.slice A n c] w fun e w' => e = .returned (.tuple #[.int .u64 0, .bool false]) ∧ Below w.heap.size w w' := by
  refine (number_any A n c m k w h).mono ?_
  rintro e w' ⟨⟨h1, _⟩ | ⟨_, rfl⟩, hb⟩
  · omega
  · exact ⟨rfl, hb⟩

/-- Does an integer fit into 64 bits? -/
def fits (z : Int) : Bool := decide (-9223372036854775808 ≤ z ∧ z ≤ 9223372036854775807)
/-- What Small answers. -/
def small (z : Int) : Int := if -9223372036854775808 ≤ z ∧ z ≤ 9223372036854775807 then z else 0

theorem MMX {w1 : World} {neg1 : Bool} {A1 : Option Addr} {n1 c1 k g : Nat} {z : Int} (hi1 : II w1 neg1 A1 n1 c1 z k) {b1 : Bool} {A2 : Option Addr} {n2 c2 : Nat} (d1 : w1.cell? ⟨g, 0, none⟩ = some (.bool b1)) (d2 : w1.cell? ⟨g, 1, none⟩ = some (.slice A2 n2 c2)) (u v : Value) :
    MM ((w1.setCell ⟨g, 0, none⟩ u).setCell ⟨g, 1, none⟩ v) A1 n1 c1 z.natAbs k := (hi1.store2 d1 d2 u v).mm

set_option maxRecDepth 100000 in
set_option maxHeartbeats 1600000 in
theorem Small_a (neg : Bool) (A : Option Addr) (n c : Nat) (z : Int) (k : Nat) (w : World) (h : VI w neg A n c z k) (hk : k ≤ 1000000000) (hz : 18446744073709551616 ≤ z.natAbs) :
    Calls Tryd.prog 28 #[.agg #[.bool neg, .slice A n c]] w fun e w' => e = .returned (.tuple #[.int .i64 0, .bool false]) ∧ Below w.heap.size w w' := by
  have hb1 := (Below.refl w.heap.size w).alloc (Nat.le_refl _) (.cells #[.bool neg, .slice A n c] 24)
  obtain ⟨m, hm⟩ : ∃ m, z.natAbs = m := ⟨_, rfl⟩
  have hmo : 18446744073709551616 ≤ m := by omega
  replace hm := Lib.hid hm
  go_enter Tryd.func28, Tryd.ntmps28
  go_wp2_with (first | (go_at_call 50; refine (counted_any _ _ _ _ z k _ (h.below hb1) hk).mono ?_; rintro e w1 ⟨neg1, A1, n1, c1, rfl, hi1, hb3⟩; obtain ⟨⟨d1, d2⟩, ⟨e1, e2⟩, hsz⟩ := box1s hb3; have hb4 := hb1.trans (hb3.mono (by simp))) | (go_at_call 59; refine (number_over (k := k) (m := m) (by rw [← hm.out]; exact MMX hi1 d1 d2 _ _) hmo).mono ?_; rintro e w2 ⟨rfl, hb5⟩; obtain ⟨hcc, hff, hs5⟩ := old3 hb5; simp only [World.size_setCell] at hs5))
  go_ret2
  exact ⟨rfl, Below.trans (by repeat (first | exact hb4 | refine Below.setCell ?_ (by first | (dsimp only; omega) | (simp <;> omega)) _)) (hb5.mono (by simp <;> omega))⟩

set_option maxRecDepth 100000 in
set_option maxHeartbeats 1600000 in
theorem Small_b (neg : Bool) (A : Option Addr) (n c : Nat) (z : Int) (k : Nat) (w : World) (h : VI w neg A n c z k) (hk : k ≤ 1000000000) (hz : z < 0) (h63 : z.natAbs ≤ 9223372036854775808) :
    Calls Tryd.prog 28 #[.agg #[.bool neg, .slice A n c]] w fun e w' => e = .returned (.tuple #[.int .i64 z, .bool true]) ∧ Below w.heap.size w w' := by
  have hb1 := (Below.refl w.heap.size w).alloc (Nat.le_refl _) (.cells #[.bool neg, .slice A n c] 24)
  obtain ⟨m, hm⟩ : ∃ m, z.natAbs = m := ⟨_, rfl⟩
  have hmo : m < 18446744073709551616 := by omega
  have hle : (m : Int) ≤ 9223372036854775808 := by omega
  obtain ⟨v, hv⟩ : ∃ v : Int, 18446744073709551616 - (m : Int) = v := ⟨_, rfl⟩
  have hw1 : IntKind.u64.wrap (-(m : Int)) = v := by rw [IntKind.wrap_u64]; omega
  have hw2 : IntKind.i64.wrap v = z := by rw [IntKind.wrap_i64]; omega
  replace hv := Lib.hid hv
  replace hm := Lib.hid hm
  go_enter Tryd.func28, Tryd.ntmps28
  go_wp2_with (first | (go_at_call 50; refine (counted_any _ _ _ _ z k _ (h.below hb1) hk).mono ?_; rintro e w1 ⟨neg1, A1, n1, c1, rfl, hi1, hb3⟩; obtain rfl : neg1 = true := hi1.neg_iff.2 hz; obtain ⟨⟨d1, d2⟩, ⟨e1, e2⟩, hsz⟩ := box1s hb3; have hb4 := hb1.trans (hb3.mono (by simp))) | (go_at_call 59; refine (number_fits (k := k) (m := m) (by rw [← hm.out]; exact MMX hi1 d1 d2 _ _) hmo).mono ?_; rintro e w2 ⟨rfl, hb5⟩; obtain ⟨hcc, hff, hs5⟩ := old3 hb5; simp only [World.size_setCell] at hs5))
  go_ret2
  exact ⟨rfl, Below.trans (by repeat (first | exact hb4 | refine Below.setCell ?_ (by first | (dsimp only; omega) | (simp <;> omega)) _)) (hb5.mono (by simp <;> omega))⟩

set_option maxRecDepth 100000 in
set_option maxHeartbeats 1600000 in
theorem Small_c (neg : Bool) (A : Option Addr) (n c : Nat) (z : Int) (k : Nat) (w : World) (h : VI w neg A n c z k) (hk : k ≤ 1000000000) (hz : z < 0) (h63 : 9223372036854775808 < z.natAbs) (h64 : z.natAbs < 18446744073709551616) :
    Calls Tryd.prog 28 #[.agg #[.bool neg, .slice A n c]] w fun e w' => e = .returned (.tuple #[.int .i64 0, .bool false]) ∧ Below w.heap.size w w' := by
  have hb1 := (Below.refl w.heap.size w).alloc (Nat.le_refl _) (.cells #[.bool neg, .slice A n c] 24)
  obtain ⟨m, hm⟩ : ∃ m, z.natAbs = m := ⟨_, rfl⟩
  have hmo : m < 18446744073709551616 := by omega
  have hle : ¬ (m : Int) ≤ 9223372036854775808 := by omega
  replace hm := Lib.hid hm
  go_enter Tryd.func28, Tryd.ntmps28
  go_wp2_with (first | (go_at_call 50; refine (counted_any _ _ _ _ z k _ (h.below hb1) hk).mono ?_; rintro e w1 ⟨neg1, A1, n1, c1, rfl, hi1, hb3⟩; obtain rfl : neg1 = true := hi1.neg_iff.2 hz; obtain ⟨⟨d1, d2⟩, ⟨e1, e2⟩, hsz⟩ := box1s hb3; have hb4 := hb1.trans (hb3.mono (by simp))) | (go_at_call 59; refine (number_fits (k := k) (m := m) (by rw [← hm.out]; exact MMX hi1 d1 d2 _ _) hmo).mono ?_; rintro e w2 ⟨rfl, hb5⟩; obtain ⟨hcc, hff, hs5⟩ := old3 hb5; simp only [World.size_setCell] at hs5))
  go_ret2
  exact ⟨rfl, Below.trans (by repeat (first | exact hb4 | refine Below.setCell ?_ (by first | (dsimp only; omega) | (simp <;> omega)) _)) (hb5.mono (by simp <;> omega))⟩

set_option maxRecDepth 100000 in
set_option maxHeartbeats 1600000 in
theorem Small_d (neg : Bool) (A : Option Addr) (n c : Nat) (z : Int) (k : Nat) (w : World) (h : VI w neg A n c z k) (hk : k ≤ 1000000000) (hz : ¬ z < 0) (h63 : z.natAbs < 9223372036854775808) :
    Calls Tryd.prog 28 #[.agg #[.bool neg, .slice A n c]] w fun e w' => e = .returned (.tuple #[.int .i64 z, .bool true]) ∧ Below w.heap.size w w' := by
  have hb1 := (Below.refl w.heap.size w).alloc (Nat.le_refl _) (.cells #[.bool neg, .slice A n c] 24)
  obtain ⟨m, hm⟩ : ∃ m, z.natAbs = m := ⟨_, rfl⟩
  have hmo : m < 18446744073709551616 := by omega
  have hle : (m : Int) < 9223372036854775808 := by omega
  have hw2 : IntKind.i64.wrap (m : Int) = z := by rw [IntKind.wrap_i64]; omega
  replace hm := Lib.hid hm
  go_enter Tryd.func28, Tryd.ntmps28
  go_wp2_with (first | (go_at_call 50; refine (counted_any _ _ _ _ z k _ (h.below hb1) hk).mono ?_; rintro e w1 ⟨neg1, A1, n1, c1, rfl, hi1, hb3⟩; obtain rfl : neg1 = false := (by cases neg1; rfl; exact (hz (hi1.neg_iff.1 rfl)).elim); obtain ⟨⟨d1, d2⟩, ⟨e1, e2⟩, hsz⟩ := box1s hb3; have hb4 := hb1.trans (hb3.mono (by simp))) | (go_at_call 59; refine (number_fits (k := k) (m := m) (by rw [← hm.out]; exact MMX hi1 d1 d2 _ _) hmo).mono ?_; rintro e w2 ⟨rfl, hb5⟩; obtain ⟨hcc, hff, hs5⟩ := old3 hb5; simp only [World.size_setCell] at hs5))
  go_ret2
  exact ⟨rfl, Below.trans (by repeat (first | exact hb4 | refine Below.setCell ?_ (by first | (dsimp only; omega) | (simp <;> omega)) _)) (hb5.mono (by simp <;> omega))⟩

set_option maxRecDepth 100000 in
set_option maxHeartbeats 1600000 in
theorem Small_e (neg : Bool) (A : Option Addr) (n c : Nat) (z : Int) (k : Nat) (w : World) (h : VI w neg A n c z k) (hk : k ≤ 1000000000) (hz : ¬ z < 0) (h63 : 9223372036854775808 ≤ z.natAbs) (h64 : z.natAbs < 18446744073709551616) :
    Calls Tryd.prog 28 #[.agg #[.bool neg, .slice A n c]] w fun e w' => e = .returned (.tuple #[.int .i64 0, .bool false]) ∧ Below w.heap.size w w' := by
  have hb1 := (Below.refl w.heap.size w).alloc (Nat.le_refl _) (.cells #[.bool neg, .slice A n c] 24)
  obtain ⟨m, hm⟩ : ∃ m, z.natAbs = m := ⟨_, rfl⟩
  have hmo : m < 18446744073709551616 := by omega
  have hle : decide ((m : Int) < 9223372036854775808) = false := by rw [decide_eq_false_iff_not]; omega
  replace hm := Lib.hid hm
  replace h63 := Lib.hid h63
  replace h64 := Lib.hid h64
  go_enter Tryd.func28, Tryd.ntmps28
  go_wp2_with (first | (go_at_call 50; refine (counted_any _ _ _ _ z k _ (h.below hb1) hk).mono ?_; rintro e w1 ⟨neg1, A1, n1, c1, rfl, hi1, hb3⟩; obtain rfl : neg1 = false := (by cases neg1; rfl; exact (hz (hi1.neg_iff.1 rfl)).elim); obtain ⟨⟨d1, d2⟩, ⟨e1, e2⟩, hsz⟩ := box1s hb3; have hb4 := hb1.trans (hb3.mono (by simp))) | (go_at_call 59; refine (number_fits (k := k) (m := m) (by rw [← hm.out]; exact MMX hi1 d1 d2 _ _) hmo).mono ?_; rintro e w2 ⟨rfl, hb5⟩; obtain ⟨hcc, hff, hs5⟩ := old3 hb5; simp only [World.size_setCell] at hs5))
  go_ret2
  exact ⟨rfl, Below.trans (by repeat (first | exact hb4 | refine Below.setCell ?_ (by first | (dsimp only; omega) | (simp <;> omega)) _)) (hb5.mono (by simp <;> omega))⟩

/-- Small. -/
theorem Small_any (neg : Bool) (A : Option Addr) (n c : Nat) (z : Int) (k : Nat) (w : World) (h : VI w neg A n c z k) (hk : k ≤ 1000000000) :
    Calls Tryd.prog 28 #[.agg #[.bool neg, .slice A n c]] w fun e w' => e = .returned (.tuple #[.int .i64 (small z), .bool (fits z)]) ∧ Below w.heap.size w w' := by
  by_cases h1 : -9223372036854775808 ≤ z ∧ z ≤ 9223372036854775807
  · have e1 : small z = z := by unfold small; rw [if_pos h1]
    have e2 : fits z = true := by unfold fits; exact decide_eq_true h1
    rw [e1, e2]
    by_cases hz : z < 0
    · exact Small_b neg A n c z k w h hk hz (by omega)
    · exact Small_d neg A n c z k w h hk hz (by omega)
  · have e1 : small z = 0 := by unfold small; rw [if_neg h1]
    have e2 : fits z = false := by unfold fits; exact decide_eq_false h1
    rw [e1, e2]
    by_cases h2 : 18446744073709551616 ≤ z.natAbs
    · exact Small_a neg A n c z k w h hk h2
    · by_cases hz : z < 0
      · exact Small_c neg A n c z k w h hk hz (by omega) (by omega)
      · exact Small_e neg A n c z k w h hk hz (by omega) (by omega)

end Go.Proofs.YtabibkhcdamlhaaDoor
