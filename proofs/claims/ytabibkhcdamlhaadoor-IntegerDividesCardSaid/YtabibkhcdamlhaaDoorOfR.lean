/-
  Walks over the reference: Of, Abs.
-/
import Derived.Test.YtabibkhcdamlhaaDoorP
import Derived.Test.YtabibkhcdamlhaaDoorS
import Derived.Deep.Cut
set_option linter.unusedSimpArgs false
set_option linter.unusedVariables false
namespace Go.Proofs.YtabibkhcdamlhaaDoor
open Go.RowKit Num

/-- What Of has done when k groups are over. -/
def OfInv (u : Nat) (R : List Nat) (k v : Nat) : Prop := R.length = k ∧ Grp R ∧ val R + pw k * v = u
theorem OfInv.step {u : Nat} {R : List Nat} {k v : Nat} (h : OfInv u R k v) : OfInv u (R ++ [v % 1000000000]) (k + 1) (v / 1000000000) := by
  obtain ⟨h1, h2, h3⟩ := h
  refine ⟨by simp [h1], h2.append (Grp.cons (by omega) Grp.nil), ?_⟩
  rw [val_snoc, pw_succ, h1]
  have e : v = v % 1000000000 + 1000000000 * (v / 1000000000) := by omega
  have e2 := congrArg (pw k * ·) e
  simp only [Nat.mul_add] at e2
  grind

theorem below_appended' {B : Nat} {w wr w1 : World} {e : TypeId} {size k : Nat} {v : Value} {xs : List Value} {o : Obj} (hs : B ≤ wr.heap.size) (hB : Below B w wr) (hown : wr.ownsRow B e size v k xs) (hg : (wr.alloc o).grownBy w1 v.ownBlock) : Below B w w1 :=
  (hB.alloc hs o).grown hg (by simp; omega) (fun j ej => (hown.lt j ej).1)

/-- A list of the call's own, as a slice. -/
theorem own_sl {wr : World} {B k : Nat} {s : Value} {R : List Nat} (h : wr.ownsRow B 48 1 s k (cells R)) : ∃ A n c, s = .slice A n c ∧ Sl wr A n c R ∧ n = k := by
  rcases Nat.eq_zero_or_pos k with h0 | h0
  · have h1 := h.1
    rw [cells_length, Nat.mul_one] at h1
    have hR : R = [] := List.length_eq_zero_iff.1 (h1.trans h0)
    subst hR
    rcases h.2 with ⟨rfl, _⟩ | ⟨g, cap, cur, rfl, _, _, _, hcm, _, _⟩
    · exact ⟨none, 0, 0, rfl, Sl.nil _, h0.symm⟩
    · exact ⟨_, k, cap, rfl, ⟨h0, by omega, by simpa [maxLen] using hcm, fun h => by omega⟩, rfl⟩
  · obtain ⟨g, cap, rfl, hB, hb, hnc, hcm, hl⟩ := Bl.of_own h h0
    have := hb.sl (off := 0) (n := k) (c := cap) (by omega) hnc hcm
    rw [List.drop_zero, List.take_of_length_le (by omega)] at this
    exact ⟨_, k, cap, rfl, this, rfl⟩

set_option maxRecDepth 100000 in
set_option maxHeartbeats 4000000 in
theorem rOf_neg (z : Int) (h1 : -9223372036854775808 ≤ z) (h2 : z ≤ 9223372036854775807) (hz : z < 0) (w : World) :
    Calls Tryd.prog 29 #[.int .i64 z] w (RetZ w z 3) := by
  obtain ⟨i0, hi, hz0, hz1, hz2⟩ := info_parts infoU
  obtain ⟨u, hu⟩ : ∃ u, z.natAbs = u := ⟨_, rfl⟩
  have hu64 : u < 18446744073709551616 := by omega
  have hzv : -(z + 1) + 1 = (u : Int) := by omega
  have hzu : sgnd true u = z := by unfold sgnd; simp; omega
  replace hzu := Lib.hid hzu
  replace hu := Lib.hid hu
  obtain ⟨w0, hw0⟩ : ∃ w0, w.alloc (.cells #[.bool false, .slice none 0 0] 24) = w0 := ⟨_, rfl⟩
  have hbw : Below w.heap.size w w0 := hw0 ▸ (Below.refl w.heap.size w).alloc (Nat.le_refl _) _
  have hs0 : w0.heap.size = w.heap.size + 1 := by rw [← hw0]; simp
  have d1 : w0.cell? ⟨w.heap.size, 0, none⟩ = some (.bool false) := by rw [← hw0]; simp [go_sem]
  have d2 : w0.cell? ⟨w.heap.size, 1, none⟩ = some (.slice none 0 0) := by rw [← hw0]; simp [go_sem]
  have e1 : w0.frozen? ⟨w.heap.size, 0, none⟩ = false := by rw [← hw0]; simp [go_sem]
  have e2 : w0.frozen? ⟨w.heap.size, 1, none⟩ = false := by rw [← hw0]; simp [go_sem]
  have hown0 := World.ownsRow_made (base := w0.heap.size) (e := 48) (size := 1) w0 #[] 0 (Nat.le_refl _) (by unfold maxLen; omega) rfl
  have hb0 := (Below.refl w0.heap.size w0).alloc (Nat.le_refl _) (.cells #[] 48)
  rw [hs0] at hown0 hb0
  go_enter Tryd.func29, Tryd.ntmps29
  go_upto_region 4 with fail
  clear hw0
  go_wp2
  go_loopw [4, 3] (fun s uv wr => ∃ k v R, k ≤ 3 ∧ uv = .int .u64 ((v : Nat) : Int) ∧ v < 18446744073709551616 ∧ (k = 3 → v = 0) ∧ wr.ownsRow (w.heap.size + 1) 48 1 s k (cells R) ∧ OfInv u R k v ∧ Below (w.heap.size + 1) w0 wr) (fun _ uv _ => (intOf uv).toNat)
  case atStart => exact ⟨0, u, [], by omega, rfl, hu64, by omega, hown0, ⟨rfl, Grp.nil, by simp [val, pw_zero]⟩, hb0⟩
  case round =>
    obtain ⟨k, v, R, hk, rfl, hv64, hk3, hown, hinv, hB⟩ := hrel
    by_cases hv : 0 < v
    · obtain ⟨d, hd⟩ : ∃ d, v % 1000000000 = d := ⟨_, rfl⟩
      obtain ⟨q, hq⟩ : ∃ q, v / 1000000000 = q := ⟨_, rfl⟩
      have hdI : (v : Int) % 1000000000 = (d : Int) := by omega
      have hqI : (v : Int) / 1000000000 = (q : Int) := by omega
      have hwd : IntKind.u32.wrap (d : Int) = (d : Int) := by rw [IntKind.wrap_u32]; omega
      have hwq : IntKind.u64.wrap (q : Int) = (q : Int) := by rw [IntKind.wrap_u64]; omega
      have hvI : (0 : Int) < (v : Int) := by omega
      have hinv2 := hinv.step
      rw [hd, hq] at hinv2
      have hq3 : k + 1 = 3 → q = 0 := by
        intro e
        obtain ⟨a1, a2, a3⟩ := hinv2
        rcases Nat.eq_zero_or_pos q with h | h
        · exact h
        · rw [e, show pw 3 = 1000000000000000000000000000 by decide] at a3
          omega
      have hqlt : q < v := by omega
      have hk2 : k < 3 := by
        rcases Nat.lt_or_ge k 3 with h | h
        · exact h
        · have := hk3 (by omega); omega
      have hq64 : q < 18446744073709551616 := by omega
      replace hd := Lib.hid hd
      replace hq := Lib.hid hq
      replace hinv2 := Lib.hid hinv2
      replace hq3 := Lib.hid hq3
      clear hinv hk3 hv
      go_wp2_with (at_builtin; refine wpList_append_own _ rfl _ _ 22 rfl (w.heap.size + 1) 48 i0 (.int .u32 0) 1 4 Tryd.underlying22 hi hz0 hz1 hz2 rfl (by decide) _ _ _ rfl (hown.alloc _) ⟨wr.heap.size, 0, none⟩ 1 1 [.int .u32 (d : Int)] rfl rfl (cell_one_new _ _ _) (by simp [Value.oneCell']) (by unfold maxLen; omega) (by omega) (by have := hB.size; simp; omega) ?_; intro v' w1 hown' hgrow _)
      exact ⟨⟨k + 1, q, R ++ [d], by omega, rfl, hq64, hq3.out, by rw [cells_snoc]; exact hown', hinv2.out, below_appended' (by have := hB.size; omega) hB hown hgrow⟩, by simp [intOf]; omega⟩
    · obtain rfl : v = 0 := by omega
      have hval : val R = u := by have := hinv.2.2; simpa using this
      have hg := hinv.2.1
      have hl := hinv.1
      obtain ⟨A, n, c, rfl, hsl, rfl⟩ := own_sl hown
      have q1 := (hB.cell (p := ⟨w.heap.size, 0, none⟩) (by simp)).trans d1
      have q2 := (hB.cell (p := ⟨w.heap.size, 1, none⟩) (by simp)).trans d2
      have q3 := (hB.frozen (p := ⟨w.heap.size, 0, none⟩) (by simp)).trans e1
      have q4 := (hB.frozen (p := ⟨w.heap.size, 1, none⟩) (by simp)).trans e2
      replace hg := Lib.hid hg
      replace hval := Lib.hid hval
      replace hl := Lib.hid hl
      go_wp2_with (first | (go_at_call 54; refine (made_any true _ _ _ _ _ hsl hg.out (by omega)).mono ?_; rintro e W ⟨neg', A', n', c', rfl, hi', hB'⟩; obtain ⟨hcc, hff, hss⟩ := old3 hB'; have hws := hB.size; have q5 := (hcc _ 0 (show w.heap.size < wr.heap.size by omega)).trans q1; have q6 := (hcc _ 1 (show w.heap.size < wr.heap.size by omega)).trans q2; have q7 := (hff _ 0 (show w.heap.size < wr.heap.size by omega)).trans q3; have q8 := (hff _ 1 (show w.heap.size < wr.heap.size by omega)).trans q4; clear hcc hff))
      refine bodyPost_ret (v := .agg #[.bool neg', .slice A' n' c']) (by simp [results, Tryd.results29, go_sem, q5, q6]) rfl ?_
      rw [hval.out, hzu.out] at hi'
      exact RetZ.close0 (hi'.mono hk) (hbw.trans ((hB.mono (by omega)).trans (hB'.mono (by omega)))) (Nat.le_refl _) q5 q6

set_option maxRecDepth 100000 in
set_option maxHeartbeats 4000000 in
theorem rOf_pos (z : Int) (h1 : -9223372036854775808 ≤ z) (h2 : z ≤ 9223372036854775807) (hz : ¬ z < 0) (w : World) :
    Calls Tryd.prog 29 #[.int .i64 z] w (RetZ w z 3) := by
  obtain ⟨i0, hi, hz0, hz1, hz2⟩ := info_parts infoU
  obtain ⟨u, hu⟩ : ∃ u, z.natAbs = u := ⟨_, rfl⟩
  have hu64 : u < 18446744073709551616 := by omega
  have hzv : IntKind.u64.wrap z = (u : Int) := by rw [IntKind.wrap_u64]; omega
  have hdz : decide (z < 0) = false := by rw [decide_eq_false_iff_not]; exact hz
  have hzu : sgnd false u = z := by unfold sgnd; simp; omega
  replace hzu := Lib.hid hzu
  replace hu := Lib.hid hu
  obtain ⟨w0, hw0⟩ : ∃ w0, w.alloc (.cells #[.bool false, .slice none 0 0] 24) = w0 := ⟨_, rfl⟩
  have hbw : Below w.heap.size w w0 := hw0 ▸ (Below.refl w.heap.size w).alloc (Nat.le_refl _) _
  have hs0 : w0.heap.size = w.heap.size + 1 := by rw [← hw0]; simp
  have d1 : w0.cell? ⟨w.heap.size, 0, none⟩ = some (.bool false) := by rw [← hw0]; simp [go_sem]
  have d2 : w0.cell? ⟨w.heap.size, 1, none⟩ = some (.slice none 0 0) := by rw [← hw0]; simp [go_sem]
  have e1 : w0.frozen? ⟨w.heap.size, 0, none⟩ = false := by rw [← hw0]; simp [go_sem]
  have e2 : w0.frozen? ⟨w.heap.size, 1, none⟩ = false := by rw [← hw0]; simp [go_sem]
  have hown0 := World.ownsRow_made (base := w0.heap.size) (e := 48) (size := 1) w0 #[] 0 (Nat.le_refl _) (by unfold maxLen; omega) rfl
  have hb0 := (Below.refl w0.heap.size w0).alloc (Nat.le_refl _) (.cells #[] 48)
  rw [hs0] at hown0 hb0
  go_enter Tryd.func29, Tryd.ntmps29
  go_upto_region 4 with fail
  clear hw0
  go_wp2
  go_loopw [4, 3] (fun s uv wr => ∃ k v R, k ≤ 3 ∧ uv = .int .u64 ((v : Nat) : Int) ∧ v < 18446744073709551616 ∧ (k = 3 → v = 0) ∧ wr.ownsRow (w.heap.size + 1) 48 1 s k (cells R) ∧ OfInv u R k v ∧ Below (w.heap.size + 1) w0 wr) (fun _ uv _ => (intOf uv).toNat)
  case atStart => exact ⟨0, u, [], by omega, rfl, hu64, by omega, hown0, ⟨rfl, Grp.nil, by simp [val, pw_zero]⟩, hb0⟩
  case round =>
    obtain ⟨k, v, R, hk, rfl, hv64, hk3, hown, hinv, hB⟩ := hrel
    by_cases hv : 0 < v
    · obtain ⟨d, hd⟩ : ∃ d, v % 1000000000 = d := ⟨_, rfl⟩
      obtain ⟨q, hq⟩ : ∃ q, v / 1000000000 = q := ⟨_, rfl⟩
      have hdI : (v : Int) % 1000000000 = (d : Int) := by omega
      have hqI : (v : Int) / 1000000000 = (q : Int) := by omega
      have hwd : IntKind.u32.wrap (d : Int) = (d : Int) := by rw [IntKind.wrap_u32]; omega
      have hwq : IntKind.u64.wrap (q : Int) = (q : Int) := by rw [IntKind.wrap_u64]; omega
      have hvI : (0 : Int) < (v : Int) := by omega
      have hinv2 := hinv.step
      rw [hd, hq] at hinv2
      have hq3 : k + 1 = 3 → q = 0 := by
        intro e
        obtain ⟨a1, a2, a3⟩ := hinv2
        rcases Nat.eq_zero_or_pos q with h | h
        · exact h
        · rw [e, show pw 3 = 1000000000000000000000000000 by decide] at a3
          omega
      have hqlt : q < v := by omega
      have hk2 : k < 3 := by
        rcases Nat.lt_or_ge k 3 with h | h
        · exact h
        · have := hk3 (by omega); omega
      have hq64 : q < 18446744073709551616 := by omega
      replace hd := Lib.hid hd
      replace hq := Lib.hid hq
      replace hinv2 := Lib.hid hinv2
      replace hq3 := Lib.hid hq3
      clear hinv hk3 hv
      go_wp2_with (at_builtin; refine wpList_append_own _ rfl _ _ 22 rfl (w.heap.size + 1) 48 i0 (.int .u32 0) 1 4 Tryd.underlying22 hi hz0 hz1 hz2 rfl (by decide) _ _ _ rfl (hown.alloc _) ⟨wr.heap.size, 0, none⟩ 1 1 [.int .u32 (d : Int)] rfl rfl (cell_one_new _ _ _) (by simp [Value.oneCell']) (by unfold maxLen; omega) (by omega) (by have := hB.size; simp; omega) ?_; intro v' w1 hown' hgrow _)
      exact ⟨⟨k + 1, q, R ++ [d], by omega, rfl, hq64, hq3.out, by rw [cells_snoc]; exact hown', hinv2.out, below_appended' (by have := hB.size; omega) hB hown hgrow⟩, by simp [intOf]; omega⟩
    · obtain rfl : v = 0 := by omega
      have hval : val R = u := by have := hinv.2.2; simpa using this
      have hg := hinv.2.1
      have hl := hinv.1
      obtain ⟨A, n, c, rfl, hsl, rfl⟩ := own_sl hown
      have q1 := (hB.cell (p := ⟨w.heap.size, 0, none⟩) (by simp)).trans d1
      have q2 := (hB.cell (p := ⟨w.heap.size, 1, none⟩) (by simp)).trans d2
      have q3 := (hB.frozen (p := ⟨w.heap.size, 0, none⟩) (by simp)).trans e1
      have q4 := (hB.frozen (p := ⟨w.heap.size, 1, none⟩) (by simp)).trans e2
      replace hg := Lib.hid hg
      replace hval := Lib.hid hval
      replace hl := Lib.hid hl
      go_wp2_with (first | (go_at_call 54; refine (made_any false _ _ _ _ _ hsl hg.out (by omega)).mono ?_; rintro e W ⟨neg', A', n', c', rfl, hi', hB'⟩; obtain ⟨hcc, hff, hss⟩ := old3 hB'; have hws := hB.size; have q5 := (hcc _ 0 (show w.heap.size < wr.heap.size by omega)).trans q1; have q6 := (hcc _ 1 (show w.heap.size < wr.heap.size by omega)).trans q2; have q7 := (hff _ 0 (show w.heap.size < wr.heap.size by omega)).trans q3; have q8 := (hff _ 1 (show w.heap.size < wr.heap.size by omega)).trans q4; clear hcc hff))
      refine bodyPost_ret (v := .agg #[.bool neg', .slice A' n' c']) (by simp [results, Tryd.results29, go_sem, q5, q6]) rfl ?_
      rw [hval.out, hzu.out] at hi'
      exact RetZ.close0 (hi'.mono hk) (hbw.trans ((hB.mono (by omega)).trans (hB'.mono (by omega)))) (Nat.le_refl _) q5 q6

/-- Of of the reference. -/
theorem rOf_any (z : Int) (h1 : -9223372036854775808 ≤ z) (h2 : z ≤ 9223372036854775807) (w : World) :
    Calls Tryd.prog 29 #[.int .i64 z] w (RetZ w z 3) := by
  by_cases hz : z < 0
  · exact rOf_neg z h1 h2 hz w
  · exact rOf_pos z h1 h2 hz w

end Go.Proofs.YtabibkhcdamlhaaDoor
