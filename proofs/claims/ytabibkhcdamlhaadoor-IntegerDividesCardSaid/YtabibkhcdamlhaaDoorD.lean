/-
  Walks: cmp.Compare, the iterator 'backwards', compareGroups of package integer.
-/
import Derived.RangeFuncNested
import Derived.RangeFuncBound
import Derived.RangeFuncCalls
import Derived.RangeFuncLeaves
import Derived.RangeFuncBox
import Derived.Shelf.Abstract
import Derived.Shelf.RegionOpen
import Derived.OwnWalkIn
import Derived.TacticsInMore
import Derived.LoopNIn
import Derived.LoopIn
import Derived.Test.YtabibkhcdamlhaaDoorA
set_option linter.unusedSimpArgs false
set_option linter.unusedVariables false
namespace Go.Proofs.YtabibkhcdamlhaaDoor
open Go.RowKit Go.Shelf Num

attribute [local go_sem] Oper.semAt_some

/-- The order of two numbers. -/
def cmpi (x y : Int) : Int := if x < y then -1 else if y < x then 1 else 0

set_option maxHeartbeats 400000 in
theorem isNaN_u32 (x : Int) (w : World) : Calls Tryd.prog 110 #[.int .u32 x] w fun e w' => e = .returned (.bool false) ∧ w = w' := by
  go_enter Tryd.func110, Tryd.ntmps110
  go_wp2
  go_ret
  exact ⟨rfl, rfl⟩
set_option maxHeartbeats 400000 in
theorem isNaN_int (x : Int) (w : World) : Calls Tryd.prog 109 #[.int .i64 x] w fun e w' => e = .returned (.bool false) ∧ w = w' := by
  go_enter Tryd.func109, Tryd.ntmps109
  go_wp2
  go_ret
  exact ⟨rfl, rfl⟩

set_option maxHeartbeats 400000 in
theorem cmp_u32 (x y : Int) (w : World) : Calls Tryd.prog 97 #[.int .u32 x, .int .u32 y] w fun e w' => e = .returned (.int .i64 (cmpi x y)) ∧ w = w' := by
  unfold cmpi
  by_cases h1 : x < y
  · rw [if_pos h1]
    go_enter Tryd.func97, Tryd.ntmps97
    go_wp2_with (go_at_call 110; refine (isNaN_u32 _ _).mono ?_; rintro e w' ⟨rfl, rfl⟩)
    go_ret
    exact ⟨rfl, rfl⟩
  · rw [if_neg h1]
    by_cases h2 : y < x
    · rw [if_pos h2]
      go_enter Tryd.func97, Tryd.ntmps97
      go_wp2_with (go_at_call 110; refine (isNaN_u32 _ _).mono ?_; rintro e w' ⟨rfl, rfl⟩)
      go_ret
      exact ⟨rfl, rfl⟩
    · rw [if_neg h2]
      go_enter Tryd.func97, Tryd.ntmps97
      go_wp2_with (go_at_call 110; refine (isNaN_u32 _ _).mono ?_; rintro e w' ⟨rfl, rfl⟩)
      go_ret
      exact ⟨rfl, rfl⟩

set_option maxHeartbeats 400000 in
theorem cmp_int (x y : Int) (w : World) : Calls Tryd.prog 96 #[.int .i64 x, .int .i64 y] w fun e w' => e = .returned (.int .i64 (cmpi x y)) ∧ w = w' := by
  unfold cmpi
  by_cases h1 : x < y
  · rw [if_pos h1]
    go_enter Tryd.func96, Tryd.ntmps96
    go_wp2_with (go_at_call 109; refine (isNaN_int _ _).mono ?_; rintro e w' ⟨rfl, rfl⟩)
    go_ret
    exact ⟨rfl, rfl⟩
  · rw [if_neg h1]
    by_cases h2 : y < x
    · rw [if_pos h2]
      go_enter Tryd.func96, Tryd.ntmps96
      go_wp2_with (go_at_call 109; refine (isNaN_int _ _).mono ?_; rintro e w' ⟨rfl, rfl⟩)
      go_ret
      exact ⟨rfl, rfl⟩
    · rw [if_neg h2]
      go_enter Tryd.func96, Tryd.ntmps96
      go_wp2_with (go_at_call 109; refine (isNaN_int _ _).mono ?_; rintro e w' ⟨rfl, rfl⟩)
      go_ret
      exact ⟨rfl, rfl⟩

/-- An index below n. -/
abbrev Ix (n : Nat) := { x : Nat // x < n }

/-- The first k indices from the top. -/
def down (n k : Nat) : List Nat := (List.range k).map fun j => n - 1 - j
theorem down_succ (n k : Nat) : down n (k + 1) = down n k ++ [n - 1 - k] := by simp [down, List.range_succ]
theorem down_length (n k : Nat) : (down n k).length = k := by simp [down]

set_option maxRecDepth 100000 in
set_option maxHeartbeats 2000000 in
/-- backwards's closure, for every body that keeps what lay below n₀. -/
theorem back1_in (m : Nat) (hm : 1 ≤ m) (lp Bs n₀ : Nat) (A : Option Addr) (n c : Nat) (l : List Nat) (hn : n ≤ 1000000000) (J Jx : List (Ix n) → World → Prop)
    (hY : ∀ pre (x : Ix n) W, J pre W → pre.length < n → YieldAt Fence.wide (m - 1) Tryd.prog lp #[.int .i64 ((x.1 : Nat) : Int), .int .u32 ((nth l x.1 : Nat) : Int)] W fun e W' =>
      (e = .returned (.bool true) ∧ J (pre ++ [x]) W' ∧ Below n₀ W W') ∨ (e = .returned (.bool false) ∧ Jx (pre ++ [x]) W'))
    (W : World) (hBs : W.cell? ⟨Bs, 0, none⟩ = some (.slice A n c)) (hBn : Bs < n₀) (hs : Sl W A n c l) (hlt : 0 < n → ∀ b o, A = some ⟨b, o, none⟩ → b < n₀) (h0 : J [] W) :
    CallsIn Fence.wide m Tryd.prog 83 #[.func (.yield lp) #[] #[], .pointer (some ⟨Bs, 0, none⟩)] W fun e W' => (∃ v, e = .returned v) ∧
      ((∃ ys : List (Ix n), ys.map (·.1) = down n n ∧ J ys W') ∨ (∃ pre : List (Ix n), (∃ k, k ≤ n ∧ pre.map (·.1) = down n k) ∧ Jx pre W')) := by
  refine callsIn_of_wp Tryd.func83 rfl trivial ?_ rfl
  simp only [Tryd.ntmps83, List.size_toArray, List.length_cons, List.length_nil, Nat.reduceAdd, Nat.reduceSub, Array.replicate_succ, Array.replicate_zero, List.push_toArray, List.append_toArray, List.nil_append, List.cons_append]
  have hcap := hs.le_cap
  have hcl := hs.cap_le
  gi_wp2
  gi_loopw [3] (fun i wr => ∃ (p : Nat) (q : Int), p ≤ n ∧ i = .int .i64 q ∧ q = (p : Int) - 1 ∧ (∃ ys : List (Ix n), ys.map (·.1) = down n (n - p) ∧ J ys wr) ∧ Below n₀ W wr)
    (fun i _ => (intOf i + 1).toNat)
  case atStart => exact ⟨n, _, Nat.le_refl _, rfl, rfl, ⟨[], by simp [down], h0⟩, Below.refl _ _⟩
  case round =>
    obtain ⟨p, q, hp, rfl, hq, ⟨ys, hys, hJs⟩, hnx⟩ := hrel
    have hBr := (hnx.cell (p := ⟨Bs, 0, none⟩) hBn).trans hBs
    replace hys := Lib.hid hys
    by_cases hp0 : p = 0
    · subst hp0
      obtain rfl : q = -1 := by omega
      clear hq
      gi_wp2
      go_end0
      exact ⟨⟨_, rfl⟩, .inl ⟨ys, hys.out, hJs⟩⟩
    · obtain ⟨x, rfl⟩ : ∃ x, p = x + 1 := ⟨p - 1, by omega⟩
      obtain rfl : q = (x : Int) := by omega
      clear hq hp0
      have hxn : x < n := by omega
      obtain ⟨b, off, rfl, _, hc⟩ := hs.at_ (by omega)
      have hcx := (hnx.cell (p := ⟨b, off + x, none⟩) (hlt (by omega) b off rfl)).trans (hc x hxn)
      clear hc
      have hl0 : ys.length = n - (x + 1) := by
        have := congrArg List.length hys.out
        rwa [List.length_map, down_length] at this
      obtain ⟨fn, tmps, assign, body, hy, hR⟩ := hY ys ⟨x, hxn⟩ wr hJs (by omega)
      replace hl0 := Lib.hid hl0
      dsimp only at hy
      gi_wp2
      refine hR.mono ?_
      rintro e W3 (⟨rfl, hJ3, hk3⟩ | ⟨rfl, hJx3⟩)
      · gi_wp2
        go_roundw
        case rel => exact ⟨x, _, by omega, rfl, by omega, ⟨ys ++ [⟨x, hxn⟩], by
          rw [List.map_append, hys.out, show n - x = (n - (x + 1)) + 1 from by omega, down_succ]
          congr 1
          simp
          omega, hJ3⟩, hnx.trans hk3⟩
        case measure => first | (simp [intOf]; done) | (simp [intOf]; omega)
      · gi_wp2
        refine bodyPost_ret (results_none rfl _ _ _) rfl ?_
        refine ⟨⟨_, rfl⟩, .inr ⟨_, ⟨n - x, by omega, ?_⟩, hJx3⟩⟩
        rw [List.map_append, hys.out, show n - x = (n - (x + 1)) + 1 from by omega, down_succ]
        congr 1
        simp
        omega

set_option maxHeartbeats 1000000 in
/-- backwards: the closure over a box that holds the slice. -/
theorem back_in (m : Nat) (A : Option Addr) (n c : Nat) (w : World) :
    CallsIn Fence.wide m Tryd.prog 56 #[.slice A n c] w fun e w' => e = .returned (.func (.func 83) #[] #[.pointer (some ⟨w.heap.size, 0, none⟩)]) ∧ w' = w.alloc (.cells #[.slice A n c] 22) := by
  refine callsIn_of_wp Tryd.func56 rfl trivial ?_ rfl
  simp only [Tryd.ntmps56, List.size_toArray, List.length_cons, List.length_nil, Nat.reduceAdd, Nat.reduceSub, Array.replicate_succ, Array.replicate_zero, List.push_toArray, List.append_toArray, List.nil_append, List.cons_append]
  gi_wp2
  go_ret
  exact ⟨rfl, rfl⟩

/-- What the iterator gives: the index and the group, from the top. -/
theorem back_stops (m : Nat) (hm : 1 ≤ m) (Bs n₀ : Nat) (A : Option Addr) (n c : Nat) (l : List Nat) (hn : n ≤ 1000000000) (w : World) (hBs : Bs < n₀) (hn₀ : n₀ ≤ w.heap.size)
    (hc : w.cell? ⟨Bs, 0, none⟩ = some (.slice A n c)) (hs : Sl w A n c l) (hlt : 0 < n → ∀ b o, A = some ⟨b, o, none⟩ → b < n₀) :
    SeqStopsK Fence.wide m Tryd.prog 83 #[.pointer (some ⟨Bs, 0, none⟩)] (fun x : Ix n => #[Value.int .i64 ((x.1 : Nat) : Int), Value.int .u32 ((nth l x.1 : Nat) : Int)]) (Below n₀) (fun ys => ys.map (·.1) = down n n)
      (fun pre => ∃ k, k ≤ n ∧ pre.map (·.1) = down n k) n w := fun lp J Jx W hW _ _ hY h0 => by
  have hc' := (hW.cell (p := ⟨Bs, 0, none⟩) (by simp; omega)).trans hc
  exact back1_in m hm lp Bs n₀ A n c l hn J Jx hY W hc' hBs (hs.below hW (Nat.le_refl _)) hlt h0

end Go.Proofs.YtabibkhcdamlhaaDoor
