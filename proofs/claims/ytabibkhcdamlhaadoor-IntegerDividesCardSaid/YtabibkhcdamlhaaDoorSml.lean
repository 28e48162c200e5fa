/-
  Walks: ofNumber, Of of package integer.
-/
import Derived.Test.YtabibkhcdamlhaaDoorF
import Derived.Test.YtabibkhcdamlhaaDoorS
set_option linter.unusedSimpArgs false
set_option linter.unusedVariables false
namespace Go.Proofs.YtabibkhcdamlhaaDoor
open Go.RowKit Num

theorem FM.of_new {B : Nat} {w : World} (hB : B ≤ w.heap.size) (l : List Nat) (hc : Cano l) {k : Nat} (hk : l.length ≤ k) (hs : l.length ≤ 1000) :
    FM (w.alloc (.cells (cells l).toArray 48)) B (some ⟨w.heap.size, 0, none⟩) l.length l.length (val l) k := by
  have h := Fr.of_bl (off := 0) (n := l.length) (c := l.length) (Bl.new w l) hB (by omega) (Nat.le_refl _) (by omega)
  simp only [List.drop_zero, List.take_length] at h
  exact ⟨l, h, hc, rfl, hk⟩

theorem cano_one {a : Nat} (h : a < 1000000000) (h0 : 0 < a) : Cano [a] := can_iff.2 ⟨Grp.cons h Grp.nil, .inr (by simp [nth]; omega)⟩
theorem cano_two {a b : Nat} (ha : a < 1000000000) (h : b < 1000000000) (h0 : 0 < b) : Cano [a, b] := can_iff.2 ⟨Grp.cons ha (Grp.cons h Grp.nil), .inr (by simp [nth]; omega)⟩
theorem cano_three {a b c : Nat} (ha : a < 1000000000) (hb : b < 1000000000) (h : c < 1000000000) (h0 : 0 < c) : Cano [a, b, c] := can_iff.2 ⟨Grp.cons ha (Grp.cons hb (Grp.cons h Grp.nil)), .inr (by simp [nth]; omega)⟩
theorem wrap32 {a : Nat} (h : a < 1000000000) : IntKind.u32.wrap ((a : Nat) : Int) = (a : Int) := by rw [IntKind.wrap_u32]; omega

set_option maxRecDepth 100000 in
set_option maxHeartbeats 1600000 in
/-- ofNumber. -/
theorem ofNumber_any (u : Nat) (hu : u < 18446744073709551616) (w : World) :
    Calls Tryd.prog 64 #[.int .u64 (u : Int)] w (RetM w u 3) := by
  by_cases h0 : u = 0
  · subst h0
    go_enter Tryd.func64, Tryd.ntmps64
    go_wp2
    go_ret
    exact ⟨none, 0, 0, rfl, FM.nil _ _ _, Below.refl _ _⟩
  · have t0 : ((u : Int) == 0) = false := by simp; omega
    by_cases h1 : u < 1000000000
    · have hw := wrap32 h1
      have hu0 : 0 < u := by omega
      have hlt : (u : Int) < 1000000000 := by omega
      have hr : RetM w u 3 (.returned (.slice (some ⟨w.heap.size, 0, none⟩) 1 1)) (w.alloc (.cells #[.int .u32 (u : Int)] 48)) :=
        ⟨_, 1, 1, rfl, FM.of_new (Nat.le_refl _) [u] (cano_one h1 hu0) (by simp) (by simp), (Below.refl _ w).alloc (Nat.le_refl _) _⟩
      replace hr := Lib.hid hr
      clear h0 h1 hu0
      go_enter Tryd.func64, Tryd.ntmps64
      go_wp2
      go_ret
      exact hr.out
    · obtain ⟨a, ha⟩ : ∃ a, u % 1000000000 = a := ⟨_, rfl⟩
      obtain ⟨q, hq⟩ : ∃ q, u / 1000000000 = q := ⟨_, rfl⟩
      have haI : (u : Int) % 1000000000 = (a : Int) := by omega
      have hqI : (u : Int) / 1000000000 = (q : Int) := by omega
      have hwa := wrap32 (a := a) (by omega)
      have hn1 : ¬ (u : Int) < 1000000000 := by omega
      have hwq : IntKind.u64.wrap (q : Int) = (q : Int) := by rw [IntKind.wrap_u64]; omega
      by_cases h2 : u < 1000000000000000000
      · have hw2 := wrap32 (a := q) (by omega)
        have hlt : (u : Int) < 1000000000000000000 := by omega
        have hr : RetM w u 3 (.returned (.slice (some ⟨w.heap.size, 0, none⟩) 2 2)) (w.alloc (.cells #[.int .u32 (a : Int), .int .u32 (q : Int)] 48)) := by
          refine ⟨_, 2, 2, rfl, ?_, (Below.refl _ w).alloc (Nat.le_refl _) _⟩
          have := FM.of_new (B := w.heap.size) (Nat.le_refl _) [a, q] (cano_two (by omega) (by omega) (by omega)) (k := 3) (by simp) (by simp)
          rw [show val [a, q] = u by simp [val]; omega] at this
          exact this
        replace hr := Lib.hid hr
        replace ha := Lib.hid ha
        replace hq := Lib.hid hq
        clear h0 h1 h2
        go_enter Tryd.func64, Tryd.ntmps64
        go_wp2
        go_ret
        exact hr.out
      · obtain ⟨b, hb⟩ : ∃ b, q % 1000000000 = b := ⟨_, rfl⟩
        obtain ⟨c, hc⟩ : ∃ c, q / 1000000000 = c := ⟨_, rfl⟩
        have hbI : (q : Int) % 1000000000 = (b : Int) := by omega
        have hcI : (q : Int) / 1000000000 = (c : Int) := by omega
        have hwb := wrap32 (a := b) (by omega)
        have hwc := wrap32 (a := c) (by omega)
        have hwc' : IntKind.u64.wrap (c : Int) = (c : Int) := by rw [IntKind.wrap_u64]; omega
        have hn2 : ¬ (u : Int) < 1000000000000000000 := by omega
        have hr : RetM w u 3 (.returned (.slice (some ⟨w.heap.size, 0, none⟩) 3 3)) (w.alloc (.cells #[.int .u32 (a : Int), .int .u32 (b : Int), .int .u32 (c : Int)] 48)) := by
          refine ⟨_, 3, 3, rfl, ?_, (Below.refl _ w).alloc (Nat.le_refl _) _⟩
          have := FM.of_new (B := w.heap.size) (Nat.le_refl _) [a, b, c] (cano_three (by omega) (by omega) (by omega) (by omega)) (k := 3) (by simp) (by simp)
          rw [show val [a, b, c] = u by simp [val]; omega] at this
          exact this
        replace hr := Lib.hid hr
        replace ha := Lib.hid ha
        replace hq := Lib.hid hq
        replace hb := Lib.hid hb
        replace hc := Lib.hid hc
        clear h0 h1 h2
        go_enter Tryd.func64, Tryd.ntmps64
        go_wp2
        go_ret
        exact hr.out

set_option maxRecDepth 100000 in
set_option maxHeartbeats 1600000 in
/-- Of. -/
theorem Of_any (z : Int) (h1 : -9223372036854775808 ≤ z) (h2 : z ≤ 9223372036854775807) (w : World) :
    Calls Tryd.prog 27 #[.int .i64 z] w (RetZ w z 3) := by
  obtain ⟨u, hu⟩ : ∃ u, z.natAbs = u := ⟨_, rfl⟩
  have hb0 := (Below.refl w.heap.size w).alloc (Nat.le_refl _) (.cells #[.bool false, .slice none 0 0] 24)
  by_cases hn : z < 0
  · obtain ⟨v, hv⟩ : ∃ v : Int, z + 18446744073709551616 = v := ⟨_, rfl⟩
    have hw1 : IntKind.u64.wrap z = v := by rw [IntKind.wrap_u64]; omega
    have hw2 : IntKind.u64.wrap (-v) = (u : Int) := by rw [IntKind.wrap_u64]; omega
    have hof := ofNumber_any u (by omega)
    have hz : sgnd true u = z := by unfold sgnd; simp; omega
    replace hu := Lib.hid hu
    replace hv := Lib.hid hv
    replace hof := Lib.hid hof
    replace hz := Lib.hid hz
    go_enter Tryd.func27, Tryd.ntmps27
    go_wp2_with (first | (go_at_call 64; refine (hof.out _).mono ?_; rintro e w1 ⟨A1, n1, c1, rfl, hi1, hb3⟩; obtain ⟨⟨d1, d2⟩, ⟨e1, e2⟩, hsz⟩ := box1s hb3; have hb4 := hb0.trans (hb3.mono (by simp))) | (go_at_call 52; refine (signed_mm _ _ _ _ _ _ _ hi1.mm (by omega)).mono ?_; rintro e w2 ⟨neg3, A3, n3, c3, rfl, hi3, hb5⟩; obtain ⟨hcc, hff, hsz3⟩ := old3 hb5))
    have d5 : w2.cell? ⟨w.heap.size, 0, none⟩ = some (.bool false) := (hcc _ _ (by omega)).trans d1
    have d6 : w2.cell? ⟨w.heap.size, 1, none⟩ = some (.slice none 0 0) := (hcc _ _ (by omega)).trans d2
    refine bodyPost_ret (v := .agg #[.bool neg3, .slice A3 n3 c3]) (by simp [results, Tryd.results27, go_sem, d5, d6]) rfl ?_
    rw [hz.out] at hi3
    exact RetZ.close0 hi3 (hb4.trans (hb5.mono hb4.size)) (Nat.le_refl _) d5 d6
  · have hw1 : IntKind.u64.wrap z = (u : Int) := by rw [IntKind.wrap_u64]; omega
    have hof := ofNumber_any u (by omega)
    have hz : sgnd false u = z := by unfold sgnd; simp; omega
    replace hu := Lib.hid hu
    replace hof := Lib.hid hof
    replace hz := Lib.hid hz
    go_enter Tryd.func27, Tryd.ntmps27
    go_wp2_with (first | (go_at_call 64; refine (hof.out _).mono ?_; rintro e w1 ⟨A1, n1, c1, rfl, hi1, hb3⟩; obtain ⟨⟨d1, d2⟩, ⟨e1, e2⟩, hsz⟩ := box1s hb3; have hb4 := hb0.trans (hb3.mono (by simp))) | (go_at_call 52; refine (signed_mm _ _ _ _ _ _ _ hi1.mm (by omega)).mono ?_; rintro e w2 ⟨neg3, A3, n3, c3, rfl, hi3, hb5⟩; obtain ⟨hcc, hff, hsz3⟩ := old3 hb5))
    have d5 : w2.cell? ⟨w.heap.size, 0, none⟩ = some (.bool false) := (hcc _ _ (by omega)).trans d1
    have d6 : w2.cell? ⟨w.heap.size, 1, none⟩ = some (.slice none 0 0) := (hcc _ _ (by omega)).trans d2
    refine bodyPost_ret (v := .agg #[.bool neg3, .slice A3 n3 c3]) (by simp [results, Tryd.results27, go_sem, d5, d6]) rfl ?_
    rw [hz.out] at hi3
    exact RetZ.close0 hi3 (hb4.trans (hb5.mono hb4.size)) (Nat.le_refl _) d5 d6

end Go.Proofs.YtabibkhcdamlhaaDoor
