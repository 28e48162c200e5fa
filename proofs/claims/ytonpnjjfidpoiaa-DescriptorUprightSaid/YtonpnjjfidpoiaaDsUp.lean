/-
  Walks: Upright of package descriptor.
-/
import Derived.Test.YtonpnjjfidpoiaaDsQd
import Derived.Test.YtonpnjjfidpoiaaDsTa
import Derived.Test.YtonpnjjfidpoiaaDsF
set_option linter.unusedSimpArgs false
set_option linter.unusedVariables false
namespace Go.Proofs.Ytonpnjjfidpoiaa
open Go.RowKit

/-- A pattern turned k times. -/
def itT (l : List Tst) : Nat → List Tst
  | 0 => l
  | k + 1 => (itT l k).map trT
theorem itT_length (l : List Tst) (k : Nat) : (itT l k).length = l.length := by
  induction k with
  | zero => rfl
  | succ k ih => show ((itT l k).map trT).length = _; rw [List.length_map, ih]
theorem itT_pat {l : List Tst} (h : pat l = true) (k : Nat) : pat (itT l k) = true := by
  induction k with
  | zero => exact h
  | succ k ih => exact pat_trT ih
theorem itT_next {l : List Tst} {k : Nat} (hk : k < 4) : itT l ((k + 1) % 4) = (itT l k).map trT := by
  have h4 : k = 0 ∨ k = 1 ∨ k = 2 ∨ k = 3 := by omega
  rcases h4 with rfl | rfl | rfl | rfl
  · rfl
  · rfl
  · rfl
  · exact (map_trT4 l).symm

theorem Upright_bad (W H M : Int) (A : Option Addr) (n c : Nat) (P : List Int) (A2 : Option Addr) (n2 c2 : Nat) (l : List Tst) (x y s : Int) (w : World) (h : Sl w A n c P) (h2 : PS w A2 n2 c2 l) (hr : rcode W H M P l = 1) :
    Calls Try.prog 32 #[.agg #[.int .i64 W, .int .i64 H, .int .i64 M, .slice A n c], .slice A2 n2 c2, .int .i64 x, .int .i64 y, .int .i64 s] w (RetU w 0 1) := by
  have hB := (Below.refl w.heap.size w).alloc (Nat.le_refl _) (.cells #[.int .i64 W, .int .i64 H, .int .i64 M, .slice A n c] 37)
  have hck := checked_any W H M A n c P A2 n2 c2 l _ (h.alloc (.cells #[.int .i64 W, .int .i64 H, .int .i64 M, .slice A n c] 37)) (h2.alloc (.cells #[.int .i64 W, .int .i64 H, .int .i64 M, .slice A n c] 37))
  rw [hr] at hck
  replace hck := Lib.hid hck
  clear h h2 hr
  go_enter Try.func32, Try.ntmps32
  go_wp2_with (go_at_call 40; refine hck.out.mono ?_; rintro e w1 ⟨rfl, hb1⟩; simp only [World.size_alloc] at hb1)
  go_ret2
  exact ⟨rfl, hB.trans (hb1.mono (by omega))⟩

theorem Upright_err (a b : Nat) (M : Int) (A : Option Addr) (n c : Nat) (P : List Int) (A2 : Option Addr) (n2 c2 : Nat) (l : List Tst) (x y s : Int) (w : World) (h : Sl w A n c P) (h2 : PS w A2 n2 c2 l) (hr : Ras a b M P) (hp : pat l = true) {cc : Int} (hc : cc ≠ 0)
    (hQ : ∀ w', Below w.heap.size w w' → Calls Try.prog 30 #[.agg #[.int .i64 a, .int .i64 b, .int .i64 M, .slice A n c], .int .i64 x, .int .i64 y, .int .i64 s] w' (RetN w' 0 cc)) :
    Calls Try.prog 32 #[.agg #[.int .i64 a, .int .i64 b, .int .i64 M, .slice A n c], .slice A2 n2 c2, .int .i64 x, .int .i64 y, .int .i64 s] w (RetU w 0 cc) := by
  have hB := (Below.refl w.heap.size w).alloc (Nat.le_refl _) (.cells #[.int .i64 a, .int .i64 b, .int .i64 M, .slice A n c] 37)
  have k0 : KB _ _ _ _ := KB.new w #[.int .i64 a, .int .i64 b, .int .i64 M, .slice A n c] 37
  have hck := checked_any a b M A n c P A2 n2 c2 l _ (h.alloc (.cells #[.int .i64 a, .int .i64 b, .int .i64 M, .slice A n c] 37)) (h2.alloc (.cells #[.int .i64 a, .int .i64 b, .int .i64 M, .slice A n c] 37))
  rw [rcode_ok hr hp] at hck
  replace hck := Lib.hid hck
  replace hQ := Lib.hid hQ
  have hcc : ((cc : Int) != 0) = true := by simp [hc]
  clear h h2 hr hp
  go_enter Try.func32, Try.ntmps32
  go_wp2_with (first | (go_at_call 40; refine hck.out.mono ?_; rintro e w1 ⟨rfl, hb1⟩; simp only [World.size_alloc] at hb1; have zz1 := hb1.size; (try simp only [World.size_alloc] at zz1); have k1 := k0.below hb1 (by omega); have hB1 := hB.trans (hb1.mono (by omega)); have c0 := k1.cell 0 rfl; have c1 := k1.cell 1 rfl; have c2 := k1.cell 2 rfl; have c3 := k1.cell 3 rfl) | (go_at_call 30; refine (hQ.out _ hB1).mono ?_; rintro e w2 ⟨rfl, hb2⟩))
  go_ret2
  exact ⟨rfl, hB1.trans (hb2.mono (by omega))⟩

set_option maxRecDepth 100000 in
set_option maxHeartbeats 3200000 in
theorem Upright_ok (a b : Nat) (M : Int) (A : Option Addr) (n c : Nat) (P : List Int) (A2 : Option Addr) (n2 c2 : Nat) (l : List Tst) (x y s : Int) (w : World) (h : Sl w A n c P) (h2 : PS w A2 n2 c2 l) (hr : Ras a b M P) (hp : pat l = true) (hi : ins a b x y = true) {k : Nat} (hk : k < 4)
    (hQ : ∀ w', Below w.heap.size w w' → Calls Try.prog 30 #[.agg #[.int .i64 a, .int .i64 b, .int .i64 M, .slice A n c], .int .i64 x, .int .i64 y, .int .i64 s] w' (RetN w' (k : Int) 0))
    {u cc : Int} (hR1 : pfit a b (itT l k) x y = true → u = (wordOf P a (itT l k) x y : Int) ∧ cc = 0) (hR0 : pfit a b (itT l k) x y = false → u = 0 ∧ cc = 15) :
    Calls Try.prog 32 #[.agg #[.int .i64 a, .int .i64 b, .int .i64 M, .slice A n c], .slice A2 n2 c2, .int .i64 x, .int .i64 y, .int .i64 s] w (RetU w u cc) := by
  have hB := (Below.refl w.heap.size w).alloc (Nat.le_refl _) (.cells #[.int .i64 a, .int .i64 b, .int .i64 M, .slice A n c] 37)
  have k0 : KB _ _ _ _ := KB.new w #[.int .i64 a, .int .i64 b, .int .i64 M, .slice A n c] 37
  have hck := checked_any a b M A n c P A2 n2 c2 l _ (h.alloc (.cells #[.int .i64 a, .int .i64 b, .int .i64 M, .slice A n c] 37)) (h2.alloc (.cells #[.int .i64 a, .int .i64 b, .int .i64 M, .slice A n c] 37))
  rw [rcode_ok hr hp] at hck
  replace hck := Lib.hid hck
  replace hQ := Lib.hid hQ
  obtain ⟨hw1, hw2, hw3⟩ := hr.1
  obtain ⟨⟨i1, i2⟩, i3, i4⟩ := ins_iff.1 hi
  have hx : Hid (0 ≤ x ∧ x < 64) := Lib.hid ⟨i1, by omega⟩
  have hy : Hid (0 ≤ y ∧ y < 64) := Lib.hid ⟨i3, by omega⟩
  have ha : a ≤ 64 := by omega
  have hb : b ≤ 64 := by omega
  have hs := Lib.hid (fun w' (hb : Below w.heap.size w w') => h.below hb (Nat.le_refl _))
  have ht := Lib.hid (fun w' (hb : Below w.heap.size w w') => h2.below hb (Nat.le_refl _))
  have hn2 : n2 ≤ 64 := by have := (pat_iff.1 hp).1.2; rw [h2.len]; exact this
  have hpk := Lib.hid (itT_pat hp)
  have hR1' : Hid (pfit a b (itT l k) x y = true → Value.tuple #[.int .u64 u, .int .i64 cc] = .tuple #[.int .u64 (wordOf P a (itT l k) x y : Int), .int .i64 0]) := Lib.hid fun e => by rw [(hR1 e).1, (hR1 e).2]
  have hR0' : Hid (pfit a b (itT l k) x y = false → Value.tuple #[.int .u64 u, .int .i64 cc] = .tuple #[.int .u64 0, .int .i64 15]) := Lib.hid fun e => by rw [(hR0 e).1, (hR0 e).2]
  replace hr := Lib.hid hr
  clear h h2 hp hi hR1 hR0 i1 i2 i3 i4
  go_enter Try.func32, Try.ntmps32
  go_wp2_with (first | (go_at_call 40; refine hck.out.mono ?_; rintro e w1 ⟨rfl, hb1⟩; simp only [World.size_alloc] at hb1; have zz1 := hb1.size; (try simp only [World.size_alloc] at zz1); have k1 := k0.below hb1 (by omega); have hB1 := hB.trans (hb1.mono (by omega)); have c0 := k1.cell 0 rfl; have c1 := k1.cell 1 rfl; have c2 := k1.cell 2 rfl; have c3 := k1.cell 3 rfl) | (go_at_call 30; refine (hQ.out _ hB1).mono ?_; rintro e w2 ⟨rfl, hb2⟩; have zz2 := hb2.size; have k2 := k1.below hb2 (by omega); have hB2 := hB1.trans (hb2.mono (by omega)); clear c0 c1 c2 c3))
  have hgl := k2.lt
  go_loopw [1, 33] (fun p i wr => ∃ (j : Nat) (A3 : Option Addr) (c3 : Nat), j ≤ k ∧ p = .slice A3 n2 c3 ∧ i = .int .i64 (j : Int) ∧ PS wr A3 n2 c3 (itT l j) ∧ Below w.heap.size w wr ∧ KB wr w.heap.size #[.int .i64 a, .int .i64 b, .int .i64 M, .slice A n c] 37) (fun _ i _ => k - (intOf i).toNat)
  case atStart => exact ⟨0, A2, _, Nat.zero_le _, rfl, rfl, ht.out _ hB2, hB2, k2⟩
  case round =>
    clear k2 hB2 hgl
    obtain ⟨j, A3, c3, hj, rfl, rfl, hps, hBr, kk⟩ := hrel
    have hkl := kk.lt
    have hzr := hBr.size
    by_cases hlt : j < k
    · have hlt' : (j : Int) < (k : Int) := by omega
      have hcall := Lib.hid (dturned_any A3 n2 c3 (itT l j) wr hps hn2 (pat_iff.1 (hpk.out j)).2)
      have hlen := Lib.hid hps.len
      clear hps
      go_wp2_with (go_at_call 46; refine hcall.out.mono ?_; rintro e w3 ⟨g, rfl, hpb, hg, hb3⟩; have hps3 := Lib.hid (hpb.ps (n := n2) (by rw [List.length_map]; exact hlen.out) (by omega)); clear hpb)
      go_roundw
      case rel => exact ⟨j + 1, _, _, hlt, rfl, by go_num, hps3.out, hBr.trans (hb3.mono hzr), kk.below hb3 hkl⟩
      case measure => simp [intOf]; omega
    · obtain rfl : j = k := by omega
      have hlt' : ¬ (j : Int) < (j : Int) := by omega
      have d0 := kk.cell 0 rfl
      have d1 := kk.cell 1 rfl
      have d2 := kk.cell 2 rfl
      have d3 := kk.cell 3 rfl
      replace hps := Lib.hid hps
      go_wp2_with (first | (go_at_call 42; refine (sumsOf_any a b M A n c P _ (hs.out _ hBr) hr.out).mono ?_; rintro e w4 ⟨T, rfl, hT, hb4⟩; have zz4 := hb4.size; replace hT := Lib.hid hT; have hps4 := Lib.hid (hps.out.below hb4 (Nat.le_refl _))) | (go_at_call 43; refine (sword_at T a b P M A3 n2 c3 (itT l j) ha hb ⟨by omega, by omega⟩ hr.out.2.2 hT.out hps4.out (hpk.out j) hx.out hy.out hR1'.out hR0'.out).mono ?_; rintro e w5 ⟨rfl, hb5⟩))
      go_ret2
      exact ⟨rfl, (hBr.trans (hb4.mono hzr)).trans (hb5.mono (by omega))⟩

end Go.Proofs.Ytonpnjjfidpoiaa
