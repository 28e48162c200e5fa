/-
  Walk: compareGroups of package integer.
-/
import Derived.Test.YtabibkhcdamlhaaDoorD
import Derived.Test.YtabibkhcdamlhaaDoorNum
set_option linter.unusedSimpArgs false
set_option linter.unusedVariables false
namespace Go.Proofs.YtabibkhcdamlhaaDoor
open Go.RowKit Go.Shelf Num

attribute [local go_sem] Oper.semAt_some

theorem mem_down {n k j : Nat} (hk : k ≤ n) : j ∈ down n k ↔ j < n ∧ n ≤ j + k := by
  unfold down
  simp only [List.mem_map, List.mem_range]
  constructor
  · rintro ⟨i, hi, rfl⟩; omega
  · rintro ⟨h1, h2⟩; exact ⟨n - 1 - j, by omega, by omega⟩

set_option maxRecDepth 100000 in
set_option maxHeartbeats 1000000 in
/-- Lists of different lengths. -/
theorem compareGroups_ne (A : Option Addr) (n c : Nat) (A2 : Option Addr) (n2 c2 : Nat) (w : World) (hne : n ≠ n2) :
    Calls Tryd.prog 73 #[.slice A n c, .slice A2 n2 c2] w fun e w' => e = .returned (.int .i64 (cmpi n n2)) ∧ Below w.heap.size w w' := by
  have h1 : ((n : Int) != (n2 : Int)) = true := by rw [bne_iff_ne]; omega
  have hbF := ((Below.refl w.heap.size w).alloc (Nat.le_refl _) (.cells #[.slice A2 n2 c2] 22)).alloc (by simp) (.cells #[.int .i64 (cmpi n n2)] 3)
  clear hne
  go_enter Tryd.func73, Tryd.ntmps73
  go_wp2_with (go_at_call 96; refine (cmp_int _ _ _).mono ?_; rintro e w' ⟨rfl, rfl⟩)
  refine bodyPost_ret (v := .int .i64 (cmpi n n2)) (by simp [results, Tryd.results73, go_sem]) rfl ?_
  exact ⟨rfl, hbF⟩

set_option maxRecDepth 100000 in
set_option maxHeartbeats 4000000 in
/-- Lists of the same length. -/
theorem compareGroups_eq (A : Option Addr) (n c : Nat) (A2 : Option Addr) (c2 : Nat) (la lb : List Nat) (w : World) (ha : Sl w A n c la) (hb : Sl w A2 n c2 lb) (hn : n ≤ 1000000000) :
    Calls Tryd.prog 73 #[.slice A n c, .slice A2 n c2] w fun e w' =>
      ((e = .returned (.int .i64 0) ∧ ∀ j, j < n → nth la j = nth lb j) ∨
        ∃ i, i < n ∧ e = .returned (.int .i64 (cmpi (nth la i : Nat) (nth lb i : Nat))) ∧ nth la i ≠ nth lb i ∧ ∀ j, i < j → j < n → nth la j = nth lb j) ∧ Below w.heap.size w w' := by
  have h1 : ((n : Int) != (n : Int)) = false := by simp
  refine (callsIn_wide (n := 6)).1 ?_
  refine callsIn_of_wp_marks Tryd.func73 rfl trivial ?_ rfl
  simp only [Tryd.ntmps73, List.size_toArray, List.length_cons, List.length_nil, Nat.reduceAdd, Nat.reduceSub, Array.replicate_succ, Array.replicate_zero, List.push_toArray, List.append_toArray, List.nil_append, List.cons_append]
  gi_wp2_with (refine ⟨trivial, ?_⟩; gi_at_call 56; refine (back_in _ _ _ _ _).mono ?_; rintro e w' ⟨rfl, rfl⟩)
  have bB := Boxed.new w 22 (.slice A2 n c2)
  have bR := Boxed.new (w.alloc (.cells #[.slice A2 n c2] 22)) 3 (.int .i64 0)
  have bN := Boxed.new ((w.alloc (.cells #[.slice A2 n c2] 22)).alloc (.cells #[.int .i64 0] 3)) 22 (.slice A n c)
  rw [World.size_alloc] at bR
  rw [World.size_alloc, World.size_alloc] at bN
  have hB0 : Below w.heap.size w (((w.alloc (.cells #[.slice A2 n c2] 22)).alloc (.cells #[.int .i64 0] 3)).alloc (.cells #[.slice A n c] 22)) :=
    (((Below.refl _ w).alloc (Nat.le_refl _) _).alloc (by simp) _).alloc (by simp; omega) _
  have hsa := ha.below hB0 (Nat.le_refl _)
  refine wpIn_rangeFunc_ownG rfl (by omega) (gf := 83) (lb := #[.pointer (some ⟨w.heap.size + 1 + 1, 0, none⟩)]) rfl trivial (enters_of Tryd.func83 (by kernel_rfl) rfl)
    (back_stops 5 (by omega) (w.heap.size + 1 + 1) (w.heap.size + 3) A n c la hn _ (by omega) (by simp) bN.cell hsa (fun h b o e => by have := ha.old h b o e; omega)) belowK_t (belowK_b (by simp)) (Below.refl _ _) (fun _ => rfl)
    (fun pre W => ((∀ j, j ∈ pre.map (·.1) → nth la j = nth lb j) ∧ W.cell? ⟨w.heap.size, 0, none⟩ = some (.slice A2 n c2) ∧ W.cell? ⟨w.heap.size + 1, 0, none⟩ = some (.int .i64 0) ∧ W.frozen? ⟨w.heap.size + 1, 0, none⟩ = false) ∧ Below w.heap.size w W)
    (fun cd pre W => (cd = .ret ∧ ∃ ini last, pre = ini ++ [last] ∧ (∀ j, j ∈ ini.map (·.1) → nth la j = nth lb j) ∧ nth la last.1 ≠ nth lb last.1 ∧ W.cell? ⟨w.heap.size + 1, 0, none⟩ = some (.int .i64 (cmpi (nth la last.1 : Nat) (nth lb last.1 : Nat)))) ∧ Below w.heap.size w W)
    (OwnFrom.and (Own.from (fun s A B row hs hg hr => ⟨hs.1, cell_kept hs.2.1 hg hr, cell_kept hs.2.2.1 hg hr, (frozen_kept hs.2.2.1 hg hr).trans hs.2.2.2⟩) _) (ownFrom_below (Nat.le_refl _) (by simp; omega)))
    (fun cd => OwnFrom.and (Own.from (fun s A B row hs hg hr => by obtain ⟨hc, ini, last, e1, e2, e3, e4⟩ := hs; exact ⟨hc, ini, last, e1, e2, e3, cell_kept e4 hg hr⟩) _) (ownFrom_below (Nat.le_refl _) (by simp; omega)))
    ⟨⟨by simp, ((bB.alloc _).alloc _).cell, (bR.alloc _).cell, (bR.alloc _).frozen⟩, hB0⟩
    (fun x => { tmps := #[.slice A n c, .slice A2 n c2, undef, .pointer (some ⟨w.heap.size, 0, none⟩), .pointer (some ⟨w.heap.size + 1, 0, none⟩), .int .i64 ((x.1 : Nat) : Int), .int .u32 ((nth la x.1 : Nat) : Int), .slice A n c, .int .i64 n, .slice A2 n c2, .int .i64 n, .bool false, undef, undef, undef, undef, undef, .slice A n c, .func (.func 83) #[] #[.pointer (some ⟨w.heap.size + 1 + 1, 0, none⟩)], .int .i64 ((x.1 : Nat) : Int), .int .u32 ((nth la x.1 : Nat) : Int), undef, undef, undef, undef, undef, undef, undef, undef, undef, undef, undef, undef], defers := [] }) ?assign ?body ?done ?stop
  case assign =>
    intro l x W K hK
    gi_wp2
    exact hK
  case body =>
    rintro l pre x W ⟨⟨hp, hbx, hcr, hfr⟩, hB⟩ hlen
    obtain ⟨x, hxn⟩ := x
    dsimp only
    have hsb := hb.below hB (Nat.le_refl _)
    obtain ⟨bb, bo, rfl, hbl, hc⟩ := hsb.at_ (by omega)
    have hcx := hc x hxn
    clear hc
    obtain ⟨u, hu⟩ : ∃ u, nth la x = u := ⟨_, rfl⟩
    obtain ⟨v, hv⟩ : ∃ v, nth lb x = v := ⟨_, rfl⟩
    rw [hv] at hcx
    rw [hu]
    replace hp := Lib.hid hp
    replace hu := Lib.hid hu
    replace hv := Lib.hid hv
    have hcap := hb.le_cap
    have hcl := hb.cap_le
    by_cases huv : u = v
    · subst huv
      have ht : ((u : Int) != (u : Int)) = false := by simp
      gi_wp2
      exact ⟨KeepsFrom.refl _ _, Below.refl _ _, ⟨fun j hj => (by
        rw [List.map_append, List.mem_append] at hj
        rcases hj with hj | hj
        · exact hp.out j hj
        · simp at hj; subst hj; rw [hu.out, hv.out]), hbx, hcr, hfr⟩, hB⟩
    · have ht : ((u : Int) != (v : Int)) = true := by rw [bne_iff_ne]; omega
      gi_wp2_with (refine ⟨trivial, ?_⟩; gi_at_call 97; refine (CallsIn.inRound l (callsIn_wide.2 (cmp_u32 _ _ _))).mono ?_; rintro e w' ⟨rfl, rfl⟩)
      refine ⟨(KeepsOthers.setCell _ _ _).from _, ⟨rfl, pre, ⟨x, hxn⟩, rfl, hp.out, ?_, ?_⟩, hB.setCell (p := ⟨w.heap.size + 1, 0, none⟩) (by simp) _⟩
      · dsimp only; rw [hu.out, hv.out]; exact huv
      · dsimp only; rw [hu.out, hv.out]; exact World.cell?_setCell_same' _ _ _ (by rw [hcr]; rfl)
  case done =>
    rintro D ys W hD hys ⟨⟨hp, hbx, hcr, hfr⟩, hB⟩ hK
    replace hp := Lib.hid hp
    replace hys := Lib.hid hys
    gi_wp2
    have hK' := (KeepsOthers.setCell W ⟨w.heap.size + 1, 0, none⟩ (.int .i64 0)).same D _ hK rfl
    refine ⟨by simp, .inl ⟨_, _, rfl, run_takeDeferred hK', ?_⟩⟩
    have hc5 := cell_kept (World.cell?_setCell_same' W ⟨w.heap.size + 1, 0, none⟩ (.int .i64 0) (by rw [hcr]; rfl)) (grownBy_putObj' _ D (.deferred none)) (fun r e => by cases e; exact ⟨_, hK', rfl⟩)
    refine ⟨.int .i64 0, ?_, .inl ⟨rfl, fun j hj => hp.out j (by rw [hys.out, mem_down (Nat.le_refl _)]; omega)⟩, (hB.setCell (p := ⟨w.heap.size + 1, 0, none⟩) (by simp) _).trans (belowK_b (w := w) (Nat.le_refl _) _ D _ _ (by simp at hD; omega) hK' rfl rfl)⟩
    simp [results, Tryd.f73, go_sem, hc5]
  case stop =>
    rintro D cd pre W hD ⟨k, hk, hmap⟩ ⟨⟨rfl, ini, last, rfl, e2, e3, hcr⟩, hB⟩ hK
    replace hmap := Lib.hid hmap
    replace e2 := Lib.hid e2
    replace e3 := Lib.hid e3
    gi_wp2
    refine ⟨by simp, .inl ⟨_, _, rfl, run_takeDeferred hK, ?_⟩⟩
    have hc5 := cell_kept hcr (grownBy_putObj' _ D (.deferred none)) (fun r e => by cases e; exact ⟨_, hK, rfl⟩)
    obtain ⟨k', rfl⟩ : ∃ k', k = k' + 1 := by
      cases k with
      | zero => have := hmap.out; simp [down] at this
      | succ k' => exact ⟨k', rfl⟩
    have hm := hmap.out
    rw [down_succ, List.map_append] at hm
    obtain ⟨hm1, hm2⟩ := List.append_inj' hm rfl
    have hm3 : last.1 = n - 1 - k' := by simpa using hm2
    refine ⟨.int .i64 (cmpi (nth la last.1 : Nat) (nth lb last.1 : Nat)), ?_, .inr ⟨last.1, last.2, rfl, e3.out, fun j h1 h2 => e2.out j (by rw [hm1, mem_down (by omega)]; omega)⟩, hB.trans (belowK_b (w := w) (Nat.le_refl _) W D _ _ (by simp at hD; omega) hK rfl rfl)⟩
    simp [results, Tryd.f73, go_sem, hc5]

/-- compareGroups: the order of two magnitudes. -/
theorem compareGroups_any (A : Option Addr) (n c : Nat) (A2 : Option Addr) (n2 c2 ma mb k k2 : Nat) (w : World) (ha : MM w A n c ma k) (hb : MM w A2 n2 c2 mb k2) (hk : k ≤ 1000000000) :
    Calls Tryd.prog 73 #[.slice A n c, .slice A2 n2 c2] w fun e w' => e = .returned (.int .i64 (cmpi ma mb)) ∧ Below w.heap.size w w' := by
  obtain ⟨la, hsa, hca, rfl, hna⟩ := ha
  obtain ⟨lb, hsb, hcb, rfl, hnb⟩ := hb
  by_cases hne : n = n2
  · subst hne
    refine (compareGroups_eq A n c A2 c2 la lb w hsa hsb (by omega)).mono ?_
    rintro e w' ⟨⟨rfl, h⟩ | ⟨i, hi, rfl, h1, h2⟩, hB⟩
    · refine ⟨ret_int ?_, hB⟩
      have : val la = val lb := by
        rw [← vs_all la (k := n) (by rw [← hsa.len]; exact Nat.le_refl _), ← vs_all lb (k := n) (by rw [← hsb.len]; exact Nat.le_refl _)]
        exact vs_congr fun j hj => by rw [Nat.zero_add]; exact h j hj
      rw [this]
      simp [cmpi]
    · refine ⟨ret_int ?_, hB⟩
      have htop : la.drop (i + 1) = lb.drop (i + 1) := by
        apply List.ext_getElem
        · rw [List.length_drop, List.length_drop, ← hsa.len, ← hsb.len]
        · intro j g1 g2
          rw [List.length_drop] at g1 g2
          have := h2 (i + 1 + j) (by omega) (by have := hsa.len; omega)
          rw [nth_eq (by omega), nth_eq (by omega)] at this
          simpa using this
      unfold cmpi
      rcases Nat.lt_or_gt_of_ne h1 with h3 | h3
      · have := val_lt_of_top hca.1 i (by rw [← hsa.len]; exact hi) (by rw [← hsa.len, ← hsb.len]) htop h3
        rw [if_pos (by omega), if_pos (by omega)]
      · have := val_lt_of_top hcb.1 i (by rw [← hsb.len]; exact hi) (by rw [← hsa.len, ← hsb.len]) htop.symm h3
        rw [if_neg (by omega), if_pos (by omega), if_neg (by omega), if_pos (by omega)]
  · refine (compareGroups_ne A n c A2 n2 c2 w hne).mono ?_
    rintro e w' ⟨rfl, hB⟩
    refine ⟨ret_int ?_, hB⟩
    unfold cmpi
    rcases Nat.lt_or_gt_of_ne hne with h3 | h3
    · have := hca.len_lt hcb (by rw [← hsa.len, ← hsb.len]; exact h3)
      rw [if_pos (by omega), if_pos (by omega)]
    · have := hcb.len_lt hca (by rw [← hsa.len, ← hsb.len]; exact h3)
      rw [if_neg (by omega), if_pos (by omega), if_neg (by omega), if_pos (by omega)]

end Go.Proofs.YtabibkhcdamlhaaDoor
