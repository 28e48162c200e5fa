/-
  Walk: Small of package integer.
-/
import Derived.Test.YtalbdjnanmcoeaaDoorNumb
namespace Go.Proofs.YtalbdjnanmcoeaaDoor
open Go.RowKit Num

theorem number_fits {A : Option Addr} {n c m k : Nat} {w : World} (h : MM w A n c m k) (hm : m < 18446744073709551616) :
    Calls Tryd.prog 59 #[.slice A n c] w fun e w' => e = .returned (.tuple #[.int .u64 ((m : Nat) : Int), .bool true]) ∧ Below w.heap.size w w' := by
  refine (number_any A n c m k w h).mono ?_
  rintro e w' ⟨⟨_, rfl⟩ | ⟨h1, _⟩, hb⟩
  · exact ⟨rfl, hb⟩
  · omega
theorem number_over {A : Option Addr} {n c m k : Nat} {w : World} (h : MM w A n c m k) (hm : 18446744073709551616 ≤ m) :
    Calls Tryd.prog 59 #[.slice A n c] w fun e w' => e = .returned (.tuple #[.int .u64 0, .bool false]) ∧ Below w.heap.size w w' := by
  refine (number_any A n c m k w h).mono ?_
  rintro e w' ⟨⟨h1, _⟩ | ⟨_, rfl⟩, hb⟩
  · omega
  · exact ⟨rfl, hb⟩

/-- Does an integer fit into 64 bits? -/
def fits (z : Int) : Bool := decide (-9223372036854775808 ≤ z ∧ z ≤ 9223372036854775807)
/-- What Small answers. -/
def small (z : Int) : Int := if -9223372036854775808 ≤ z ∧ z ≤ 9223372036854775807 then z else 0

theorem MMX {w1 : World} {neg1 : Bool} {A1 : Option Addr} {n1 c1 k g : Nat} {z : Int} (hi1 : II w1 neg1 A1 n1 c1 z k) {b1 : Bool} {A2 : Option Addr} {n2 c2 : Nat} (d1 : w1.cell? ⟨g, 0, none⟩ = some (.bool b1)) (d2 : w1.cell? ⟨g, 1, none⟩ = some (.slice A2 n2 c2)) (u v : Value) :
    MM ((w1.setCell ⟨g, 0, none⟩ u).setCell ⟨g, 1, none⟩ v) A1 n1 c1 z.natAbs k := (hi1.store2 d1 d2 u v).mm

set_option maxRecDepth 100000 in
set_option maxHeartbeats 1600000 in
theorem Small_a (neg : Bool) (A : Option Addr) (n c : Nat) (z : Int) (k : Nat) (w : World) (h : VI w neg A n c z k) (hk : k ≤ 1000000000) (hz : 18446744073709551616 ≤ z.natAbs) :
    Calls Tryd.prog 28 #[.agg #[.bool neg, .slice A n c]] w fun e w' => e = .returned (.tuple #[.int .i64 0, .bool false]) ∧ Below w.heap.size w w' := by
  have hb1 := (Below.refl w.heap.size w).alloc (Nat.le_refl _) (.cells #[.bool neg, .slice A n c] 24)
  obtain ⟨m, hm⟩ : ∃ m, z.natAbs = m := ⟨_, rfl⟩
  have hmo : 18446744073709551616 ≤ m := by omega
  replace hm := Lib.hid hm
  go_enter Tryd.func28, Tryd.ntmps28
  go_wp2_with (first | (go_at_call 50; refine (counted_any _ _ _ _ z k _ (h.below hb1) hk).mono ?_; rintro e w1 ⟨neg1, A1, n1, c1, rfl, hi1, hb3⟩; obtain ⟨⟨d1, d2⟩, ⟨e1, e2⟩, hsz⟩ := box1s hb3; have hb4 := hb1.trans (hb3.mono (by simp))) | (go_at_call 59; refine (number_over (k := k) (m := m) (by rw [← hm.out]; exact MMX hi1 d1 d2 _ _) hmo).mono ?_; rintro e w2 ⟨rfl, hb5⟩; obtain ⟨hcc, hff, hs5⟩ := old3 hb5; simp only [World.size_setCell] at hs5))
  go_ret2
  exact ⟨rfl, Below.trans (by repeat (first | exact hb4 | refine Below.setCell ?_ (by first | (dsimp only; omega) | (simp <;> omega)) _)) (hb5.mono (by simp <;> omega))⟩

set_option maxRecDepth 100000 in
set_option maxHeartbeats 1600000 in
theorem Small_b (neg : Bool) (A : Option Addr) (n c : Nat) (z : Int) (k : Nat) (w : World) (h : VI w neg A n c z k) (hk : k ≤ 1000000000) (hz : z < 0) (h63 : z.natAbs ≤ 9223372036854775808) :
    Calls Tryd.prog 28 #[.agg #[.bool neg, .slice A n c]] w fun e w' => e = .returned (.tuple #[.int .i64 z, .bool true]) ∧ Below w.heap.size w w' := by
  have hb1 := (Below.refl w.heap.size w).alloc (Nat.le_refl _) (.cells #[.bool neg, .slice A n c] 24)
  obtain ⟨m, hm⟩ : ∃ m, z.natAbs = m := ⟨_, rfl⟩
  have hmo : m < 18446744073709551616 := by omega
  have hle : (m : Int) ≤ 9223372036854775808 := by omega
  obtain ⟨v, hv⟩ : ∃ v : Int, 18446744073709551616 - (m : Int) = v := ⟨_, rfl⟩
  have hw1 : IntKind.u64.wrap (-(m : Int)) = v := by rw [IntKind.wrap_u64]; omega
  have hw2 : IntKind.i64.wrap v = z := by rw [IntKind.wrap_i64]; omega
  replace hv := Lib.hid hv
  replace hm := Lib.hid hm
  go_enter Tryd.func28, Tryd.ntmps28
  go_wp2_with (first | (go_at_call 50; refine (counted_any _ _ _ _ z k _ (h.below hb1) hk).mono ?_; rintro e w1 ⟨neg1, A1, n1, c1, rfl, hi1, hb3⟩; obtain rfl : neg1 = true := hi1.neg_iff.2 hz; obtain ⟨⟨d1, d2⟩, ⟨e1, e2⟩, hsz⟩ := box1s hb3; have hb4 := hb1.trans (hb3.mono (by simp))) | (go_at_call 59; refine (number_fits (k := k) (m := m) (by rw [← hm.out]; exact MMX hi1 d1 d2 _ _) hmo).mono ?_; rintro e w2 ⟨rfl, hb5⟩; obtain ⟨hcc, hff, hs5⟩ := old3 hb5; simp only [World.size_setCell] at hs5))
  go_ret2
  exact ⟨rfl, Below.trans (by repeat (first | exact hb4 | refine Below.setCell ?_ (by first | (dsimp only; omega) | (simp <;> omega)) _)) (hb5.mono (by simp <;> omega))⟩

set_option maxRecDepth 100000 in
set_option maxHeartbeats 1600000 in
theorem Small_c (neg : Bool) (A : Option Addr) (n c : Nat) (z : Int) (k : Nat) (w : World) (h : VI w neg A n c z k) (hk : k ≤ 1000000000) (hz : z < 0) (h63 : 9223372036854775808 < z.natAbs) (h64 : z.natAbs < 18446744073709551616) :
    Calls Tryd.prog 28 #[.agg #[.bool neg, .slice A n c]] w fun e w' => e = .returned (.tuple #[.int .i64 0, .bool false]) ∧ Below w.heap.size w w' := by
  have hb1 := (Below.refl w.heap.size w).alloc (Nat.le_refl _) (.cells #[.bool neg, .slice A n c] 24)
  obtain ⟨m, hm⟩ : ∃ m, z.natAbs = m := ⟨_, rfl⟩
  have hmo : m < 18446744073709551616 := by omega
  have hle : ¬ (m : Int) ≤ 9223372036854775808 := by omega
  replace hm := Lib.hid hm
  go_enter Tryd.func28, Tryd.ntmps28
  go_wp2_with (first | (go_at_call 50; refine (counted_any _ _ _ _ z k _ (h.below hb1) hk).mono ?_; rintro e w1 ⟨neg1, A1, n1, c1, rfl, hi1, hb3⟩; obtain rfl : neg1 = true := hi1.neg_iff.2 hz; obtain ⟨⟨d1, d2⟩, ⟨e1, e2⟩, hsz⟩ := box1s hb3; have hb4 := hb1.trans (hb3.mono (by simp))) | (go_at_call 59; refine (number_fits (k := k) (m := m) (by rw [← hm.out]; exact MMX hi1 d1 d2 _ _) hmo).mono ?_; rintro e w2 ⟨rfl, hb5⟩; obtain ⟨hcc, hff, hs5⟩ := old3 hb5; simp only [World.size_setCell] at hs5))
  go_ret2
  exact ⟨rfl, Below.trans (by repeat (first | exact hb4 | refine Below.setCell ?_ (by first | (dsimp only; omega) | (simp <;> omega)) _)) (hb5.mono (by simp <;> omega))⟩

set_option maxRecDepth 100000 in
set_option maxHeartbeats 1600000 in
theorem Small_d (neg : Bool) (A : Option Addr) (n c : Nat) (z : Int) (k : Nat) (w : World) (h : VI w neg A n c z k) (hk : k ≤ 1000000000) (hz : ¬ z < 0) (h63 : z.natAbs < 9223372036854775808) :
    Calls Tryd.prog 28 #[.agg #[.bool neg, .slice A n c]] w fun e w' => e = .returned (.tuple #[.int .i64 z, .bool true]) ∧ Below w.heap.size w w' := by
  have hb1 := (Below.refl w.heap.size w).alloc (Nat.le_refl _) (.cells #[.bool neg, .slice A n c] 24)
  obtain ⟨m, hm⟩ : ∃ m, z.natAbs = m := ⟨_, rfl⟩
  have hmo : m < 18446744073709551616 := by omega
  have hle : (m : Int) < 9223372036854775808 := by omega
  have hw2 : IntKind.i64.wrap (m : Int) = z := by rw [IntKind.wrap_i64]; omega
  replace hm := Lib.hid hm
  go_enter Tryd.func28, Tryd.ntmps28
  go_wp2_with (first | (go_at_call 50; refine (counted_any _ _ _ _ z k _ (h.below hb1) hk).mono ?_; rintro e w1 ⟨neg1, A1, n1, c1, rfl, hi1, hb3⟩; obtain rfl : neg1 = false := (by cases neg1; rfl; exact (hz (hi1.neg_iff.1 rfl)).elim); obtain ⟨⟨d1, d2⟩, ⟨e1, e2⟩, hsz⟩ := box1s hb3; have hb4 := hb1.trans (hb3.mono (by simp))) | (go_at_call 59; refine (number_fits (k := k) (m := m) (by rw [← hm.out]; exact MMX hi1 d1 d2 _ _) hmo).mono ?_; rintro e w2 ⟨rfl, hb5⟩; obtain ⟨hcc, hff, hs5⟩ := old3 hb5; simp only [World.size_setCell] at hs5))
  go_ret2
  exact ⟨rfl, Below.trans (by repeat (first | exact hb4 | refine Below.setCell ?_ (by first | (dsimp only; omega) | (simp <;> omega)) _)) (hb5.mono (by simp <;> omega))⟩

set_option maxRecDepth 100000 in
set_option maxHeartbeats 1600000 in
theorem Small_e (neg : Bool) (A : Option Addr) (n c : Nat) (z : Int) (k : Nat) (w : World) (h : VI w neg A n c z k) (hk : k ≤ 1000000000) (hz : ¬ z < 0) (h63 : 9223372036854775808 ≤ z.natAbs) (h64 : z.natAbs < 18446744073709551616) :
    Calls Tryd.prog 28 #[.agg #[.bool neg, .slice A n c]] w fun e w' => e = .returned (.tuple #[.int .i64 0, .bool false]) ∧ Below w.heap.size w w' := by
  have hb1 := (Below.refl w.heap.size w).alloc (Nat.le_refl _) (.cells #[.bool neg, .slice A n c] 24)
  obtain ⟨m, hm⟩ : ∃ m, z.natAbs = m := ⟨_, rfl⟩
  have hmo : m < 18446744073709551616 := by omega
  have hle : decide ((m : Int) < 9223372036854775808) = false := by rw [decide_eq_false_iff_not]; omega
  replace hm := Lib.hid hm
  replace h63 := Lib.hid h63
  replace h64 := Lib.hid h64
  go_enter Tryd.func28, Tryd.ntmps28
  go_wp2_with (first | (go_at_call 50; refine (counted_any _ _ _ _ z k _ (h.below hb1) hk).mono ?_; rintro e w1 ⟨neg1, A1, n1, c1, rfl, hi1, hb3⟩; obtain rfl : neg1 = false := (by cases neg1; rfl; exact (hz (hi1.neg_iff.1 rfl)).elim); obtain ⟨⟨d1, d2⟩, ⟨e1, e2⟩, hsz⟩ := box1s hb3; have hb4 := hb1.trans (hb3.mono (by simp))) | (go_at_call 59; refine (number_fits (k := k) (m := m) (by rw [← hm.out]; exact MMX hi1 d1 d2 _ _) hmo).mono ?_; rintro e w2 ⟨rfl, hb5⟩; obtain ⟨hcc, hff, hs5⟩ := old3 hb5; simp only [World.size_setCell] at hs5))
  go_ret2
  exact ⟨rfl, Below.trans (by repeat (first | exact hb4 | refine Below.setCell ?_ (by first | (dsimp only; omega) | (simp <;> omega)) _)) (hb5.mono (by simp <;> omega))⟩

/-- Small. -/
theorem Small_any (neg : Bool) (A : Option Addr) (n c : Nat) (z : Int) (k : Nat) (w : World) (h : VI w neg A n c z k) (hk : k ≤ 1000000000) :
    Calls Tryd.prog 28 #[.agg #[.bool neg, .slice A n c]] w fun e w' => e = .returned (.tuple #[.int .i64 (small z), .bool (fits z)]) ∧ Below w.heap.size w w' := by
  by_cases h1 : -9223372036854775808 ≤ z ∧ z ≤ 9223372036854775807
  · have e1 : small z = z := by unfold small; rw [if_pos h1]
    have e2 : fits z = true := by unfold fits; exact decide_eq_true h1
    rw [e1, e2]
    by_cases hz : z < 0
    · exact Small_b neg A n c z k w h hk hz (by omega)
    · exact Small_d neg A n c z k w h hk hz (by omega)
  · have e1 : small z = 0 := by unfold small; rw [if_neg h1]
    have e2 : fits z = false := by unfold fits; exact decide_eq_false h1
    rw [e1, e2]
    by_cases h2 : 18446744073709551616 ≤ z.natAbs
    · exact Small_a neg A n c z k w h hk h2
    · by_cases hz : z < 0
      · exact Small_c neg A n c z k w h hk hz (by omega) (by omega)
      · exact Small_e neg A n c z k w h hk hz (by omega) (by omega)

end Go.Proofs.YtalbdjnanmcoeaaDoor
