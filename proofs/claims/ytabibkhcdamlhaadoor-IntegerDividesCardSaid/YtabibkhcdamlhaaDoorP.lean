/-
  Walks over the reference: plus, minus.
-/
import Derived.Test.YtabibkhcdamlhaaDoorN
import Derived.Test.YtabibkhcdamlhaaDoorNum
import Derived.Maps.AppendAt
set_option linter.unusedSimpArgs false
set_option linter.unusedVariables false
namespace Go.Proofs.YtabibkhcdamlhaaDoor
open Go.RowKit Num

/-- The call returns the magnitude m. -/
def RetN (w : World) (m k : Nat) (e : Ending) (w' : World) : Prop :=
  ∃ A n c, e = .returned (.slice A n c) ∧ MM w' A n c m k ∧ Below w.heap.size w w'

/-- What plus has done when k groups are over. -/
def PlusInv (a b R : List Nat) (k C : Nat) : Prop := R.length = k ∧ Grp R ∧ C ≤ 1 ∧ val R + C * pw k = vs a 0 k + vs b 0 k

theorem val_snoc (R : List Nat) (x : Nat) : val (R ++ [x]) = val R + pw R.length * x := by rw [val_append]; simp [val]

theorem PlusInv.step {a b R : List Nat} {k C s : Nat} (h : PlusInv a b R k C) (ha : Grp a) (hb : Grp b) (hs : s = nth a k + nth b k + C) :
    PlusInv a b (R ++ [s % 1000000000]) (k + 1) (s / 1000000000) := by
  obtain ⟨h1, h2, h3, h4⟩ := h
  have g1 := ha.get k
  have g2 := hb.get k
  refine ⟨by simp [h1], h2.append (Grp.cons (by omega) Grp.nil), by omega, ?_⟩
  rw [val_snoc, vs_succ, vs_succ, h1, Nat.zero_add, pw_succ]
  have e2 : s % 1000000000 + s / 1000000000 * 1000000000 = nth a k + nth b k + C := by omega
  have e3 := congrArg (pw k * ·) e2
  simp only [Nat.mul_add] at e3
  grind

theorem cells_snoc (R : List Nat) (x : Nat) : cells (R ++ [x]) = cells R ++ [.int .u32 (x : Int)] := by simp [cells]

theorem below_appended {w wr w1 : World} {e : TypeId} {size k : Nat} {v : Value} {xs : List Value} {o : Obj} (hB : Below w.heap.size w wr) (hown : wr.ownsRow w.heap.size e size v k xs) (hg : (wr.alloc o).grownBy w1 v.ownBlock) : Below w.heap.size w w1 :=
  (hB.alloc hB.size o).grown hg (by have := hB.size; simp; omega) (fun j ej => (hown.lt j ej).1)

theorem RetN.of_made {w w1 W : World} {z : Int} {m k : Nat} {neg : Bool} {A : Option Addr} {n c : Nat} (hi : II W neg A n c z k) (hz : z = (m : Int)) (h1 : Below w.heap.size w w1) (h2 : Below w1.heap.size w1 W) : RetN w m k (.returned (.slice A n c)) W :=
  ⟨A, n, c, rfl, by have := hi.mm; rw [hz, Int.natAbs_natCast] at this; exact this, btr h1 h2⟩

theorem run_groups (neg : Bool) (A : Option Addr) (n c : Nat) (w : World) : (Instr.field 24 (.agg #[.bool neg, .slice A n c]) 1).run Tryd.prog w = .ok (.slice A n c) w := by kernel_rfl

set_option maxRecDepth 100000 in
set_option maxHeartbeats 4000000 in
/-- plus: the sum of two magnitudes. -/
theorem plus_any (A : Option Addr) (n c : Nat) (A2 : Option Addr) (n2 c2 : Nat) (la lb : List Nat) (w : World) (ha : Sl w A n c la) (hb : Sl w A2 n2 c2 lb) (hga : Grp la) (hgb : Grp lb) (hn : n ≤ 100000000) (hn2 : n2 ≤ 100000000) :
    Calls Tryd.prog 66 #[.slice A n c, .slice A2 n2 c2] w (RetN w (val la + val lb) (max n n2 + 1)) := by
  obtain ⟨i0, hi, hz0, hz1, hz2⟩ := info_parts infoU
  obtain ⟨M, hM⟩ : ∃ M, max n n2 = M := ⟨_, rfl⟩
  have hM1 : n ≤ M := by omega
  have hM2 : n2 ≤ M := by omega
  have hM3 : M ≤ 100000000 := by omega
  replace hM := Lib.hid hM
  have hna := Lib.hid ha.len
  have hnb := Lib.hid hb.len
  have hacap := ha.le_cap
  have hacl := ha.cap_le
  have hbcap := hb.le_cap
  have hbcl := hb.cap_le
  have hown0 := World.ownsRow_made (base := w.heap.size) (e := 48) (size := 1) w #[] 0 (Nat.le_refl _) (by unfold maxLen; omega) rfl
  have hb0 := (Below.refl w.heap.size w).alloc (Nat.le_refl _) (.cells #[] 48)
  go_enter Tryd.func66, Tryd.ntmps66
  go_wp2
  go_loopw [5, 6, 7] (fun v cv i wr => ∃ k C R, k ≤ M ∧ i = .int .i64 ((k : Nat) : Int) ∧ cv = .int .u64 ((C : Nat) : Int) ∧ wr.ownsRow w.heap.size 48 1 v k (cells R) ∧ PlusInv la lb R k C ∧ Below w.heap.size w wr) (fun _ _ i _ => M - (intOf i).toNat)
  case atStart => exact ⟨0, 0, [], Nat.zero_le _, rfl, rfl, hown0, ⟨rfl, Grp.nil, by omega, by simp [vs_zero, val]⟩, hb0⟩
  case round =>
    obtain ⟨k, C, R, hk, rfl, rfl, hown, hinv, hB⟩ := hrel
    have hC : (C : Int) ≤ 1 := by have := hinv.2.2.1; omega
    replace hinv := Lib.hid hinv
    have hsa := ha.below hB (Nat.le_refl _)
    have hsb := hb.below hB (Nat.le_refl _)
    by_cases hlt : k < M
    · have hor : k < n ∨ k < n2 := by have := hM.out; omega
      have hx := hga.get k
      have hy := hgb.get k
      have hxall : ∀ j, nth la j < 4294967296 := fun j => by have := hga.get j; omega
      have hyall : ∀ j, nth lb j < 4294967296 := fun j => by have := hgb.get j; omega
      obtain ⟨x, hx1⟩ : ∃ x, nth la k = x := ⟨_, rfl⟩
      obtain ⟨y, hy1⟩ : ∃ y, nth lb k = y := ⟨_, rfl⟩
      have hc1 := fun W h => group_any A n c la k W h hxall (by omega)
      have hc2 := fun W h => group_any A2 n2 c2 lb k W h hyall (by omega)
      simp only [hx1] at hc1
      simp only [hy1] at hc2
      rw [hx1] at hx
      rw [hy1] at hy
      have hxb : (x : Int) ≤ 999999999 := by omega
      have hyb : (y : Int) ≤ 999999999 := by omega
      obtain ⟨s, hs⟩ : ∃ s, x + y + C = s := ⟨_, rfl⟩
      have hs1 : (x : Int) + (y : Int) + (C : Int) = (s : Int) := by omega
      have hsb2 : (s : Int) ≤ 2000000000 := by omega
      have hinv2 := Lib.hid (hinv.out.step hga hgb (s := s) (by rw [hx1, hy1, hs]))
      replace hx1 := Lib.hid hx1
      replace hy1 := Lib.hid hy1
      replace hs := Lib.hid hs
      replace hc1 := Lib.hid hc1
      replace hc2 := Lib.hid hc2
      clear hx hy hxall hyall
      have tok1 : True := trivial
      rcases Nat.lt_or_ge k n with hkn | hkn
      all_goals
        go_wp2_with (first | (go_at_call 63; have _t := tok1; clear tok1 _t; refine (hc1.out _ hsa).mono ?_; rintro e w' ⟨rfl, rfl⟩) | (go_at_call 63; refine (hc2.out _ hsb).mono ?_; rintro e w' ⟨rfl, rfl⟩) | (at_builtin; refine wpList_append_own _ rfl _ _ 22 rfl w.heap.size 48 i0 (.int .u32 0) 1 4 Tryd.underlying22 hi hz0 hz1 hz2 rfl (by decide) _ _ _ rfl (hown.alloc _) ⟨wr.heap.size, 0, none⟩ 1 1 [.int .u32 ((s % 1000000000 : Nat) : Int)] rfl rfl (cell_one_new _ _ _) (by simp [Value.oneCell']) (by unfold maxLen; omega) (by omega) (by have := hB.size; simp; omega) ?_; intro v' w1 hown' hgrow _))
        exact ⟨⟨k + 1, s / 1000000000, R ++ [s % 1000000000], hlt, rfl, by simp, by rw [cells_snoc]; exact hown', hinv2.out, below_appended hB hown hgrow⟩, by simp [intOf]; omega⟩
    · obtain rfl : k = M := by omega
      have hkn : n ≤ k := hM1
      have hkn2 : n2 ≤ k := hM2
      have hgC : Grp (R ++ [C]) := hinv.out.2.1.append (Grp.cons (by omega) Grp.nil)
      have hval : val (R ++ [C]) = val la + val lb := by
        obtain ⟨h1, h2, h3, h4⟩ := hinv.out
        rw [val_snoc, h1, Nat.mul_comm, h4, vs_all la (by rw [← hna.out]; exact hM1), vs_all lb (by rw [← hnb.out]; exact hM2)]
      replace hgC := Lib.hid hgC
      replace hval := Lib.hid hval
      go_wp2_with (first | (at_builtin; refine wpList_append_own _ rfl _ _ 22 rfl w.heap.size 48 i0 (.int .u32 0) 1 4 Tryd.underlying22 hi hz0 hz1 hz2 rfl (by decide) _ _ _ rfl (hown.alloc _) ⟨wr.heap.size, 0, none⟩ 1 1 [.int .u32 (C : Int)] rfl rfl (cell_one_new _ _ _) (by simp [Value.oneCell']) (by unfold maxLen; omega) (by omega) (by have := hB.size; simp; omega) ?_; intro v' w1 hown' hgrow _; have hBw1 := below_appended hB hown hgrow; obtain ⟨g, cap, hv, hg2, hbl1, hnc, hcm, hnl⟩ := Bl.of_own (l := R ++ [C]) (by rw [cells_snoc]; exact hown') (by omega); subst hv; have hsl := hbl1.sl (off := 0) (n := k + 1) (c := cap) (by omega) hnc hcm; rw [List.drop_zero, List.take_of_length_le (by omega)] at hsl; replace hnl := Lib.hid hnl) | (go_at_call 54; refine (made_any false _ _ _ _ w1 hsl hgC.out (by omega)).mono ?_; rintro e W ⟨neg', A', n', c', rfl, hi', hB'⟩; have hfd := run_groups neg' A' n' c'))
      go_ret
      rw [show max n n2 + 1 = k + 1 by rw [hM.out]]
      exact RetN.of_made hi' (by rw [hval.out, sgnd]; simp) hBw1 hB'

end Go.Proofs.YtabibkhcdamlhaaDoor

/-
  Walks over the reference: minus.
-/
namespace Go.Proofs.YtabibkhcdamlhaaDoor
open Go.RowKit Num

/-- What minus has done when k groups are over. -/
def MinusInv (a b R : List Nat) (k D : Nat) : Prop := R.length = k ∧ Grp R ∧ D ≤ 1 ∧ val R + vs b 0 k = vs a 0 k + D * pw k

theorem MinusInv.step {a b R : List Nat} {k D s : Nat} (h : MinusInv a b R k D) (ha : Grp a) (hb : Grp b) (hs : s + nth b k + D = 1000000000 + nth a k) :
    MinusInv a b (R ++ [s % 1000000000]) (k + 1) (1 - s / 1000000000) := by
  obtain ⟨h1, h2, h3, h4⟩ := h
  have g1 := ha.get k
  have g2 := hb.get k
  refine ⟨by simp [h1], h2.append (Grp.cons (by omega) Grp.nil), by omega, ?_⟩
  rw [val_snoc, vs_succ, vs_succ, h1, Nat.zero_add, pw_succ]
  have e2 : s % 1000000000 + nth b k + D = nth a k + (1 - s / 1000000000) * 1000000000 := by
    have : s / 1000000000 = 0 ∨ s / 1000000000 = 1 := by omega
    omega
  have e3 := congrArg (pw k * ·) e2
  simp only [Nat.mul_add] at e3
  grind

theorem MinusInv.done {a b R : List Nat} {k D : Nat} (h : MinusInv a b R k D) (ha : a.length ≤ k) (hb : b.length ≤ k) (hle : val b ≤ val a) : val R = val a - val b := by
  obtain ⟨h1, h2, h3, h4⟩ := h
  rw [vs_all b hb, vs_all a ha] at h4
  have hR := val_lt h2
  rw [h1] at hR
  rcases (by omega : D = 0 ∨ D = 1) with rfl | rfl <;> simp at h4 <;> omega

set_option maxRecDepth 100000 in
set_option maxHeartbeats 4000000 in
/-- minus: the difference of two magnitudes. -/
theorem minus_any (A : Option Addr) (n c : Nat) (A2 : Option Addr) (n2 c2 : Nat) (la lb : List Nat) (w : World) (ha : Sl w A n c la) (hb : Sl w A2 n2 c2 lb) (hga : Grp la) (hgb : Grp lb) (hn : n ≤ 1000000000) (hn2 : n2 ≤ n) (hle : val lb ≤ val la) :
    Calls Tryd.prog 68 #[.slice A n c, .slice A2 n2 c2] w (RetN w (val la - val lb) n) := by
  obtain ⟨i0, hi, hz0, hz1, hz2⟩ := info_parts infoU
  have hna := Lib.hid ha.len
  have hnb := Lib.hid hb.len
  have hacap := ha.le_cap
  have hacl := ha.cap_le
  have hbcap := hb.le_cap
  have hbcl := hb.cap_le
  have hown0 := World.ownsRow_made (base := w.heap.size) (e := 48) (size := 1) w #[] 0 (Nat.le_refl _) (by unfold maxLen; omega) rfl
  have hb0 := (Below.refl w.heap.size w).alloc (Nat.le_refl _) (.cells #[] 48)
  go_enter Tryd.func68, Tryd.ntmps68
  go_wp2
  go_loopw [5, 6, 7] (fun v cv i wr => ∃ k C R, k ≤ n ∧ i = .int .i64 ((k : Nat) : Int) ∧ cv = .int .u64 ((C : Nat) : Int) ∧ wr.ownsRow w.heap.size 48 1 v k (cells R) ∧ MinusInv la lb R k C ∧ Below w.heap.size w wr) (fun _ _ i _ => n - (intOf i).toNat)
  case atStart => exact ⟨0, 0, [], Nat.zero_le _, rfl, rfl, hown0, ⟨rfl, Grp.nil, by omega, by simp [vs_zero, val]⟩, hb0⟩
  case round =>
    obtain ⟨k, C, R, hk, rfl, rfl, hown, hinv, hB⟩ := hrel
    have hC : (C : Int) ≤ 1 := by have := hinv.2.2.1; omega
    replace hinv := Lib.hid hinv
    have hsa := ha.below hB (Nat.le_refl _)
    have hsb := hb.below hB (Nat.le_refl _)
    by_cases hlt : k < n
    · have hx := hga.get k
      have hy := hgb.get k
      have hxall : ∀ j, nth la j < 4294967296 := fun j => by have := hga.get j; omega
      have hyall : ∀ j, nth lb j < 4294967296 := fun j => by have := hgb.get j; omega
      obtain ⟨x, hx1⟩ : ∃ x, nth la k = x := ⟨_, rfl⟩
      obtain ⟨y, hy1⟩ : ∃ y, nth lb k = y := ⟨_, rfl⟩
      have hc1 := fun W h => group_any A n c la k W h hxall (by omega)
      have hc2 := fun W h => group_any A2 n2 c2 lb k W h hyall (by omega)
      simp only [hx1] at hc1
      simp only [hy1] at hc2
      rw [hx1] at hx
      rw [hy1] at hy
      have hxb : (x : Int) ≤ 999999999 := by omega
      have hyb : (y : Int) ≤ 999999999 := by omega
      obtain ⟨s, hs⟩ : ∃ s, 1000000000 + x - y - C = s := ⟨_, rfl⟩
      have hs0 : s + y + C = 1000000000 + x := by omega
      have hs1 : 1000000000 + (x : Int) - (y : Int) - (C : Int) = (s : Int) := by omega
      have hsb2 : (s : Int) ≤ 1999999999 := by omega
      have hsD : (1 : Int) - (s : Int) / 1000000000 = ((1 - s / 1000000000 : Nat) : Int) := by omega
      have hinv2 := Lib.hid (hinv.out.step hga hgb (s := s) (by rw [hx1, hy1]; exact hs0))
      replace hs0 := Lib.hid hs0
      replace hx1 := Lib.hid hx1
      replace hy1 := Lib.hid hy1
      replace hs := Lib.hid hs
      replace hc1 := Lib.hid hc1
      replace hc2 := Lib.hid hc2
      clear hx hy hxall hyall
      have tok1 : True := trivial
      · go_wp2_with (first | (go_at_call 63; have _t := tok1; clear tok1 _t; refine (hc1.out _ hsa).mono ?_; rintro e w' ⟨rfl, rfl⟩) | (go_at_call 63; refine (hc2.out _ hsb).mono ?_; rintro e w' ⟨rfl, rfl⟩) | (at_builtin; refine wpList_append_own _ rfl _ _ 22 rfl w.heap.size 48 i0 (.int .u32 0) 1 4 Tryd.underlying22 hi hz0 hz1 hz2 rfl (by decide) _ _ _ rfl (hown.alloc _) ⟨wr.heap.size, 0, none⟩ 1 1 [.int .u32 ((s % 1000000000 : Nat) : Int)] rfl rfl (cell_one_new _ _ _) (by simp [Value.oneCell']) (by unfold maxLen; omega) (by omega) (by have := hB.size; simp; omega) ?_; intro v' w1 hown' hgrow _))
        exact ⟨⟨k + 1, 1 - s / 1000000000, R ++ [s % 1000000000], hlt, rfl, rfl, by rw [cells_snoc]; exact hown', hinv2.out, below_appended hB hown hgrow⟩, by simp [intOf]; omega⟩
    · obtain rfl : k = n := by omega
      have hgR := Lib.hid hinv.out.2.1
      have hRl := Lib.hid hinv.out.1
      have hval := Lib.hid (hinv.out.done (by rw [← hna.out]; exact Nat.le_refl _) (by rw [← hnb.out]; exact hn2) hle)
      have hsl : ∃ A' c', u5 = .slice A' k c' ∧ Sl wr A' k c' R := by
        by_cases h0 : k = 0
        · subst h0
          have hR : R = [] := List.eq_nil_of_length_eq_zero hRl.out
          subst hR
          rcases hown.2 with ⟨rfl, _⟩ | ⟨g, cap, cur, rfl, _, _, _, hcm, _, _⟩
          · exact ⟨_, _, rfl, Sl.nil wr⟩
          · exact ⟨_, _, rfl, rfl, Nat.zero_le _, hcm, fun h => absurd h (by omega)⟩
        · obtain ⟨g, cap, hv, hg2, hbl1, hnc, hcm, hnl⟩ := Bl.of_own hown (by omega)
          have hsl := hbl1.sl (off := 0) (n := k) (c := cap) (by omega) hnc hcm
          rw [List.drop_zero, List.take_of_length_le (by omega)] at hsl
          exact ⟨_, _, hv, hsl⟩
      obtain ⟨A', c', rfl, hsl⟩ := hsl
      go_wp2_with (go_at_call 54; refine (made_any false _ _ _ _ wr hsl hgR.out hn).mono ?_; rintro e W ⟨neg', A', n', c', rfl, hi', hB'⟩; have hfd := run_groups neg' A' n' c')
      go_ret
      exact RetN.of_made hi' (by rw [hval.out, sgnd]; simp) hB hB'

end Go.Proofs.YtabibkhcdamlhaaDoor
