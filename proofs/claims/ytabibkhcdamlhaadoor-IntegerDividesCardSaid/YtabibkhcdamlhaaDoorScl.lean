/-
  Walk over the reference: scaled.
-/
import Derived.Test.YtabibkhcdamlhaaDoorP
import Derived.Test.YtabibkhcdamlhaaDoorOfR
import Derived.Test.YtabibkhcdamlhaaDoorSml
import Derived.Test.YtabibkhcdamlhaaDoorS
set_option linter.unusedSimpArgs false
set_option linter.unusedVariables false
namespace Go.Proofs.YtabibkhcdamlhaaDoor
open Go.RowKit Num

/-- What scaled has done when k groups are over. -/
def SclInv (a : List Nat) (d : Nat) (R : List Nat) (k C : Nat) : Prop := R.length = k ∧ Grp R ∧ C < max d 1 ∧ val R + C * pw k = val (a.take k) * d
theorem SclInv.step {a : List Nat} {d : Nat} {R : List Nat} {k C s : Nat} (h : SclInv a d R k C) (ha : Grp a) (hd : d ≤ 1000000000) (hs : s = nth a k * d + C) :
    SclInv a d (R ++ [s % 1000000000]) (k + 1) (s / 1000000000) := by
  obtain ⟨h1, h2, h3, h4⟩ := h
  have g1 := ha.get k
  have hm : nth a k * d ≤ 999999999 * d := Nat.mul_le_mul_right _ (by omega)
  refine ⟨by simp [h1], h2.append (Grp.cons (by omega) Grp.nil), by omega, ?_⟩
  rw [val_snoc, h1, pw_succ, val_take_succ', Nat.add_mul, ← h4]
  have e2 : s % 1000000000 + s / 1000000000 * 1000000000 = nth a k * d + C := by omega
  have e3 := congrArg (pw k * ·) e2
  simp only [Nat.mul_add] at e3
  grind

set_option maxRecDepth 100000 in
set_option maxHeartbeats 4000000 in
/-- scaled: a magnitude times a number up to the base. -/
theorem scaled_any (A : Option Addr) (n c d m k : Nat) (w : World) (h : MM w A n c m k) (hk : k ≤ 100000000) (hd : d ≤ 1000000000) :
    Calls Tryd.prog 94 #[.slice A n c, .int .u64 (d : Int)] w (RetN w (m * d) (k + 1)) := by
  obtain ⟨la, ha, hca, hv, hnk⟩ := h
  obtain ⟨i0, hi, hz0, hz1, hz2⟩ := info_parts infoU
  have hga := Lib.hid hca.1
  clear hca
  have hna := Lib.hid ha.len
  have hacap := ha.le_cap
  have hacl := ha.cap_le
  have hn : n ≤ 100000000 := by omega
  have hdI : (d : Int) ≤ 1000000000 := by omega
  have hown0 := World.ownsRow_made (base := w.heap.size) (e := 48) (size := 1) w #[] 0 (Nat.le_refl _) (by unfold maxLen; omega) rfl
  have hb0 := (Below.refl w.heap.size w).alloc (Nat.le_refl _) (.cells #[] 48)
  have hi0 : SclInv la d [] 0 0 := ⟨rfl, Grp.nil, by omega, by simp [val]⟩
  replace hi0 := Lib.hid hi0
  replace hv := Lib.hid hv
  go_enter Tryd.func94, Tryd.ntmps94
  go_wp2
  go_loopw [5, 6, 7, 8] (fun v cv i _sv wr => ∃ k C R, k ≤ n ∧ i = .int .i64 ((k : Nat) : Int) ∧ cv = .int .u64 ((C : Nat) : Int) ∧ wr.ownsRow w.heap.size 48 1 v k (cells R) ∧ SclInv la d R k C ∧ Below w.heap.size w wr) (fun _ _ i _ _ => n - (intOf i).toNat)
  case atStart => exact ⟨0, 0, [], Nat.zero_le _, rfl, rfl, hown0, hi0.out, hb0⟩
  case round =>
    obtain ⟨k, C, R, hk, rfl, rfl, hown, hinv, hB⟩ := hrel
    have hC : C < max d 1 := hinv.2.2.1
    have hC9 : C < 1000000000 := by omega
    have hsa := ha.below hB (Nat.le_refl _)
    by_cases hlt : k < n
    · obtain ⟨b, off, rfl, hbl, hcell⟩ := hsa.at_ (by omega)
      have hcx := hcell k hlt
      clear hcell hsa
      obtain ⟨x, hx1⟩ : ∃ x, nth la k = x := ⟨_, rfl⟩
      have hx : x < 1000000000 := by rw [← hx1]; exact hga.out.get k
      rw [hx1] at hcx
      obtain ⟨s, hs⟩ : ∃ s, x * d + C = s := ⟨_, rfl⟩
      have hxd : x * d ≤ 999999999 * d := Nat.mul_le_mul_right _ (by omega)
      obtain ⟨y, hy⟩ : ∃ y, x * d = y := ⟨_, rfl⟩
      have hyI : (x : Int) * (d : Int) = (y : Int) := by rw [← hy]; simp
      rw [hy] at hs hxd
      have hy18 : y < 1000000000000000000 := by omega
      have hsI : (y : Int) + (C : Int) = (s : Int) := by omega
      have hs18 : s < 1000000001000000000 := by omega
      have hinv2 := Lib.hid (hinv.step hga.out hd (s := s) (by rw [hx1, hy, hs]))
      obtain ⟨sd, hsd⟩ : ∃ sd, s % 1000000000 = sd := ⟨_, rfl⟩
      obtain ⟨sq, hsq⟩ : ∃ sq, s / 1000000000 = sq := ⟨_, rfl⟩
      rw [hsd, hsq] at hinv2
      have hsdI : (s : Int) % 1000000000 = (sd : Int) := by omega
      have hsqI : (s : Int) / 1000000000 = (sq : Int) := by omega
      have hsd9 : sd < 1000000000 := by omega
      have hw1 : IntKind.u32.wrap (sd : Int) = (sd : Int) := wrap32 hsd9
      have hw2 : IntKind.u64.wrap (sq : Int) = (sq : Int) := by rw [IntKind.wrap_u64]; omega
      replace hinv := Lib.hid hinv
      replace hx1 := Lib.hid hx1
      replace hs := Lib.hid hs
      replace hy := Lib.hid hy
      replace hsd := Lib.hid hsd
      replace hsq := Lib.hid hsq
      clear hC hxd
      go_wp2_with (at_builtin; refine wpList_append_own _ rfl _ _ 22 rfl w.heap.size 48 i0 (.int .u32 0) 1 4 Tryd.underlying22 hi hz0 hz1 hz2 rfl (by decide) _ _ _ rfl (hown.alloc _) ⟨wr.heap.size, 0, none⟩ 1 1 [.int .u32 (sd : Int)] rfl rfl (cell_one_new _ _ _) (by simp [Value.oneCell']) (by unfold maxLen; omega) (by omega) (by have := hB.size; simp; omega) ?_; intro v' w1 hown' hgrow _)
      exact ⟨⟨k + 1, sq, R ++ [sd], hlt, rfl, rfl, by rw [cells_snoc]; exact hown', hinv2.out, below_appended hB hown hgrow⟩, (by first | (simp [intOf]; done) | (simp [intOf]; omega))⟩
    · obtain rfl : k = n := by omega
      have hgC : Grp (R ++ [C]) := hinv.2.1.append (Grp.cons hC9 Grp.nil)
      have hval : val (R ++ [C]) = m * d := by
        obtain ⟨h1, h2, h3, h4⟩ := hinv
        rw [val_snoc, h1, Nat.mul_comm, h4, val_take_all la k (by rw [← hna.out]; exact Nat.le_refl _), hv.out]
      have hRl := hinv.1
      replace hinv := Lib.hid hinv
      replace hgC := Lib.hid hgC
      replace hval := Lib.hid hval
      have hw1 : IntKind.u32.wrap (C : Int) = (C : Int) := wrap32 hC9
      go_wp2_with (first | (at_builtin; refine wpList_append_own _ rfl _ _ 22 rfl w.heap.size 48 i0 (.int .u32 0) 1 4 Tryd.underlying22 hi hz0 hz1 hz2 rfl (by decide) _ _ _ rfl (hown.alloc _) ⟨wr.heap.size, 0, none⟩ 1 1 [.int .u32 (C : Int)] rfl rfl (cell_one_new _ _ _) (by simp [Value.oneCell']) (by unfold maxLen; omega) (by omega) (by have := hB.size; simp; omega) ?_; intro v' w1 hown' hgrow _; have hBw1 := below_appended hB hown hgrow; obtain ⟨g, cap, hv', hg2, hbl1, hnc, hcm, hnl⟩ := Bl.of_own (l := R ++ [C]) (by rw [cells_snoc]; exact hown') (by omega); subst hv'; have hsl := hbl1.sl (off := 0) (n := k + 1) (c := cap) (by omega) hnc hcm; rw [List.drop_zero, List.take_of_length_le (by omega)] at hsl; replace hnl := Lib.hid hnl) | (go_at_call 54; refine (made_any false _ _ _ _ w1 hsl hgC.out (by omega)).mono ?_; rintro e W ⟨neg', A', n', c', rfl, hi', hB'⟩; have hfd := run_groups neg' A' n' c'))
      go_ret
      exact (RetN.of_made hi' (by rw [hval.out, sgnd]; simp) hBw1 hB').mono (by omega)

end Go.Proofs.YtabibkhcdamlhaaDoor

/-
  Walk over the reference: shifted.
-/
namespace Go.Proofs.YtabibkhcdamlhaaDoor
open Go.RowKit Num

set_option maxRecDepth 100000 in
set_option maxHeartbeats 1600000 in
/-- shifted: a magnitude times the base, plus a group; the magnitude not 0. -/
theorem shifted_some (A : Option Addr) (n c d m k : Nat) (w : World) (h : MM w A n c m k) (hk : k ≤ 100000000) (hd : d < 1000000000) (h0 : 0 < n) :
    Calls Tryd.prog 95 #[.slice A n c, .int .u32 (d : Int)] w (RetN w (m * 1000000000 + d) (k + 1)) := by
  obtain ⟨la, ha, hca, hv, hnk⟩ := h
  obtain ⟨i0, hi, hz0, hz1, hz2⟩ := info_parts infoU
  obtain ⟨b, off, rfl, _, _⟩ := ha.at_ h0
  have hna := Lib.hid ha.len
  have hlc := Lib.hid (show (cells la).length = n * 1 by rw [cells_length, ← ha.len, Nat.mul_one])
  have hgC : Grp (d :: la) := Grp.cons hd hca.1
  have hval : val (d :: la) = m * 1000000000 + d := by rw [val_cons, hv]; omega
  have hown := World.ownsRow_made (base := w.heap.size) (e := 48) (size := 1) w #[] 0 (Nat.le_refl _) (by unfold maxLen; omega) rfl
  have hcl : cells [d] ++ cells la = cells (d :: la) := by simp [cells]
  have hownD : (w.alloc (.cells #[.int .u32 (d : Int)] 48)).ownsRow w.heap.size 48 1 (.slice (some ⟨w.heap.size, 0, none⟩) 1 1) 1 (cells [d]) :=
    ⟨rfl, .inr ⟨w.heap.size, 1, #[.int .u32 (d : Int)], rfl, Nat.le_refl _, heap_alloc_new w _, Nat.le_refl _, by unfold maxLen; omega, rfl, rfl⟩⟩
  have hs1 := ha.alloc (.cells #[.int .u32 (d : Int)] 48)
  have hb1 := (Below.refl w.heap.size w).alloc (Nat.le_refl _) (.cells #[.int .u32 (d : Int)] 48)
  have hnews := news_of_sl hs1 h0
  have hn := ha.len
  have hnb : n ≤ 100000000 := by omega
  replace hgC := Lib.hid hgC
  replace hval := Lib.hid hval
  replace hnews := Lib.hid hnews
  replace hcl := Lib.hid hcl
  clear hn hown
  go_enter Tryd.func95, Tryd.ntmps95
  go_wp2_with (first | (at_builtin; refine wpList_append_own _ rfl _ _ 22 rfl w.heap.size 48 i0 (.int .u32 0) 1 4 Tryd.underlying22 hi hz0 hz1 hz2 rfl (by decide) _ _ _ rfl hownD ⟨b, off, none⟩ n c (cells la) rfl hlc.out hnews.out cells_one (by unfold maxLen; omega) (by omega) (by simp) ?_; intro v' w1 hown' hgrow _; have hBw1 : Below w.heap.size w w1 := hb1.grown hgrow (by simp) (fun j ej => (hownD.lt j ej).1); rw [hcl.out] at hown'; obtain ⟨A2, n2, c2, hv', hsl, hn2⟩ := own_sl hown'; subst hv'; replace hn2 := Lib.hid hn2) | (go_at_call 54; refine (made_any false _ _ _ _ w1 hsl hgC.out (by have := hn2.out; omega)).mono ?_; rintro e W ⟨neg', A', n', c', rfl, hi', hB'⟩; have hfd := run_groups neg' A' n' c'))
  go_ret
  exact (RetN.of_made hi' (by rw [hval.out, sgnd]; simp) hBw1 hB').mono (by have := hn2.out; omega)

set_option maxRecDepth 100000 in
set_option maxHeartbeats 1600000 in
/-- shifted of 0. -/
theorem shifted_none (A : Option Addr) (c d : Nat) (w : World) (hc : c ≤ 9223372036854775807) (hd : d < 1000000000) :
    Calls Tryd.prog 95 #[.slice A 0 c, .int .u32 (d : Int)] w (RetN w d 1) := by
  have hgC : Grp [d] := Grp.cons hd Grp.nil
  have hb1 := (Below.refl w.heap.size w).alloc (Nat.le_refl _) (.cells #[.int .u32 (d : Int)] 48)
  have hsl := (Bl.new w [d]).sl (off := 0) (n := 1) (c := 1) (by simp) (by omega) (by omega)
  simp only [cells, List.map_cons, List.map_nil, List.drop_zero] at hsl
  rw [show [d].take 1 = [d] from rfl] at hsl
  replace hgC := Lib.hid hgC
  rcases A with _ | ad
  all_goals
    go_enter Tryd.func95, Tryd.ntmps95
    go_wp2_with (go_at_call 54; refine (made_any false _ _ _ _ _ hsl hgC.out (by omega)).mono ?_; rintro e W ⟨neg', A', n', c', rfl, hi', hB'⟩; have hfd := run_groups neg' A' n' c')
    go_ret
    exact RetN.of_made hi' (by rw [sgnd]; simp [val]) hb1 hB'

/-- shifted. -/
theorem shifted_any (A : Option Addr) (n c d m k : Nat) (w : World) (h : MM w A n c m k) (hk : k ≤ 100000000) (hd : d < 1000000000) :
    Calls Tryd.prog 95 #[.slice A n c, .int .u32 (d : Int)] w (RetN w (m * 1000000000 + d) (k + 1)) := by
  rcases Nat.eq_zero_or_pos n with h0 | h0
  · subst h0
    have hm : m = 0 := h.len_zero.1 rfl
    subst hm
    have hcl := h.choose_spec.1.cap_le
    rw [Nat.zero_mul, Nat.zero_add]
    exact (shifted_none A c d w hcl hd).mono fun e w' h => RetN.mono h (by omega)
  · exact shifted_some A n c d m k w h hk hd h0

end Go.Proofs.YtabibkhcdamlhaaDoor
