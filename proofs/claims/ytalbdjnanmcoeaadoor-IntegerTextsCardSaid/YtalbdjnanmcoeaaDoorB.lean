/-
  Walks: addTo, subtractFrom of package integer: sums and differences in place.
-/
import Derived.Test.YtalbdjnanmcoeaaDoorChecked
import Derived.Test.YtalbdjnanmcoeaaDoorMem
import Derived.Test.YtalbdjnanmcoeaaDoorAdd
namespace Go.Proofs.YtalbdjnanmcoeaaDoor
open Go.RowKit Num

set_option maxRecDepth 100000 in
set_option maxHeartbeats 1600000 in
/-- addTo: r + b in place, and the carry. -/
theorem addTo_any (g off n c : Nat) (L : List Nat) (A : Option Addr) (nb cb : Nat) (b : List Nat) (w : World) (hB : Bl w g L) (hoff : off + n ≤ L.length) (hnc : n ≤ c)
    (hL : ∀ j, j < n → nth L (off + j) < 1000000000) (hb : Sl w A nb cb b) (hgb : Grp b) (hne : 0 < nb → ∀ k o, A = some ⟨k, o, none⟩ → k ≠ g) (hnb : nb ≤ n) (hn : n ≤ 1000000000) :
    Calls Tryd.prog 92 #[.slice (some ⟨g, off, none⟩) n c, .slice A nb cb] w fun e w' => ∃ L' d, e = .returned (.int .u32 ((d : Nat) : Int)) ∧ Bl w' g L' ∧ AddInv off b L L' n d ∧ Only w w' g := by
  have hL' := Lib.hid hL
  have hne' := Lib.hid hne
  have hoff' := Lib.hid hoff
  have hlb := Lib.hid hb.len
  clear hL hne
  go_enter Tryd.func92, Tryd.ntmps92
  go_wp2
  go_loopw [5, 10] (fun cv i wr => ∃ k d L', k ≤ n ∧ i = .int .i64 ((k : Nat) : Int) ∧ cv = .int .u32 ((d : Nat) : Int) ∧ Bl wr g L' ∧ AddInv off b L L' k d ∧ Only w wr g) (fun _ i _ => n - (intOf i).toNat)
  case atStart => exact ⟨0, 0, L, Nat.zero_le _, rfl, rfl, hB, AddInv.start off b L, Only.refl w g⟩
  case round =>
    obtain ⟨k, d, L', hk, rfl, rfl, hBr, hi0, ho⟩ := hrel
    have hi := Lib.hid hi0
    have hd1 : (d : Int) ≤ 1 := by have := hi0.2.2.2.1; omega
    clear hi0
    by_cases hlt : k < n
    · have hlen : off + k < L'.length := by have := hi.out.1; have := hoff'.out; omega
      have hcell := hBr.cell hlen
      have hfr := hBr.frozen (off + k)
      obtain ⟨x, hx⟩ : ∃ x, nth L' (off + k) = x := ⟨_, rfl⟩
      rw [hx] at hcell
      have hxL : nth L (off + k) = x := by rw [← hx]; exact (hi.out.2.1 _ (by omega)).symm
      have hxb : (x : Int) ≤ 999999999 := by have := hL'.out k hlt; omega
      replace hx := Lib.hid hx
      replace hxL := Lib.hid hxL
      by_cases hkb : k < nb
      · have hsb := hb.only ho hne'.out
        obtain ⟨bb, bo, rfl, _, hcb⟩ := hsb.at_ (by omega)
        have hcb' := hcb k hkb
        clear hcb
        obtain ⟨y, hy⟩ : ∃ y, nth b k = y := ⟨_, rfl⟩
        rw [hy] at hcb'
        have hyb : (y : Int) ≤ 999999999 := by have := hgb.get k; omega
        replace hy := Lib.hid hy
        by_cases hs : 1000000000 ≤ x + (d + y)
        · have hs' : decide ((1000000000 : Int) ≤ (x : Int) + ((d : Int) + (y : Int))) = true := by simp; omega
          replace hs := Lib.hid hs
          go_wp2
          go_roundw
          case rel => exact ⟨k + 1, 1, _, by omega, by go_num, rfl, hBr.set' (off + k) (x := x + (d + y) - 1000000000) (by have := hs.out; omega), hi.out.step (by have := hi.out.1; omega) (by have := hs.out; omega) (by omega) (by rw [hxL.out, hy.out]; have := hs.out; omega), ho.setCell rfl _⟩
          case measure => simp [intOf]; omega
        · have hs' : decide ((1000000000 : Int) ≤ (x : Int) + ((d : Int) + (y : Int))) = false := by simp; omega
          replace hs := Lib.hid hs
          go_wp2
          go_roundw
          case rel => exact ⟨k + 1, 0, _, by omega, by go_num, rfl, hBr.set' (off + k) (x := x + (d + y)) (by have := hs.out; omega), hi.out.step (by have := hi.out.1; omega) (by have := hs.out; omega) (by omega) (by rw [hxL.out, hy.out]; omega), ho.setCell rfl _⟩
          case measure => simp [intOf]; omega
      · have hyz : nth b k = 0 := nth_of_le (by rw [← hlb.out]; omega)
        replace hyz := Lib.hid hyz
        by_cases hd0 : d = 0
        · subst hd0
          go_wp2
          go_ret
          exact ⟨L', 0, rfl, hBr, hi.out.done (by rw [← hlb.out]; omega) hk hL'.out, ho⟩
        · obtain rfl : d = 1 := by omega
          by_cases hs : x = 999999999
          · have hs' : decide ((1000000000 : Int) ≤ (x : Int) + 1) = true := by simp; omega
            replace hs := Lib.hid hs
            go_wp2
            go_roundw
            case rel => exact ⟨k + 1, 1, _, by omega, by go_num, rfl, hBr.set' (off + k) (x := x + 1 - 1000000000) (by have := hs.out; omega), hi.out.step (by have := hi.out.1; omega) (by have := hs.out; omega) (by omega) (by rw [hxL.out, hyz.out]; have := hs.out; omega), ho.setCell rfl _⟩
            case measure => simp [intOf]; omega
          · have hs' : decide ((1000000000 : Int) ≤ (x : Int) + 1) = false := by simp; omega
            replace hs := Lib.hid hs
            go_wp2
            go_roundw
            case rel => exact ⟨k + 1, 0, _, by omega, by go_num, rfl, hBr.set' (off + k) (x := x + 1) (by omega), hi.out.step (by have := hi.out.1; omega) (by have := hs.out; omega) (by omega) (by first | rw [hxL.out, hyz.out] | (rw [hxL.out, hyz.out]; omega)), ho.setCell rfl _⟩
            case measure => simp [intOf]; omega
    · obtain rfl : k = n := by omega
      go_wp2
      go_ret
      exact ⟨L', d, rfl, hBr, hi.out, ho⟩

set_option maxRecDepth 100000 in
set_option maxHeartbeats 1600000 in
/-- addTo at no groups. -/
theorem addTo_nil (R : Option Addr) (c : Nat) (A : Option Addr) (nb cb : Nat) (w : World) :
    Calls Tryd.prog 92 #[.slice R 0 c, .slice A nb cb] w fun e w' => e = .returned (.int .u32 0) ∧ w = w' := by
  go_enter Tryd.func92, Tryd.ntmps92
  go_wp2
  go_loop [5, 10] (fun cv i => i = .int .i64 0 ∧ cv = .int .u32 0) (fun _ _ => 0)
  case atStart => exact ⟨rfl, rfl⟩
  case round =>
    obtain ⟨rfl, rfl⟩ := hrel
    go_wp2
    go_ret
    exact ⟨rfl, rfl⟩

set_option maxRecDepth 100000 in
set_option maxHeartbeats 1600000 in
/-- subtractFrom: r - b in place; d: what is owed at the end. -/
theorem subtractFrom_any (g off n c : Nat) (L : List Nat) (A : Option Addr) (nb cb : Nat) (b : List Nat) (w : World) (hB : Bl w g L) (hoff : off + n ≤ L.length) (hnc : n ≤ c)
    (hL : ∀ j, j < n → nth L (off + j) < 1000000000) (hb : Sl w A nb cb b) (hgb : Grp b) (hne : 0 < nb → ∀ k o, A = some ⟨k, o, none⟩ → k ≠ g) (hnb : nb ≤ n) (hn : n ≤ 1000000000) :
    Calls Tryd.prog 93 #[.slice (some ⟨g, off, none⟩) n c, .slice A nb cb] w fun e w' => ∃ L' d, e = .returned (.tuple #[]) ∧ Bl w' g L' ∧ SubInv off b L L' n d ∧ Only w w' g := by
  have hL' := Lib.hid hL
  have hne' := Lib.hid hne
  have hoff' := Lib.hid hoff
  have hlb := Lib.hid hb.len
  clear hL hne
  go_enter Tryd.func93, Tryd.ntmps93
  go_wp2
  go_loopw [4, 8] (fun cv i wr => ∃ k d L', k ≤ n ∧ i = .int .i64 ((k : Nat) : Int) ∧ cv = .int .u32 ((d : Nat) : Int) ∧ Bl wr g L' ∧ SubInv off b L L' k d ∧ Only w wr g) (fun _ i _ => n - (intOf i).toNat)
  case atStart => exact ⟨0, 0, L, Nat.zero_le _, rfl, rfl, hB, SubInv.start off b L, Only.refl w g⟩
  case round =>
    obtain ⟨k, d, L', hk, rfl, rfl, hBr, hi0, ho⟩ := hrel
    have hi := Lib.hid hi0
    have hd1 : (d : Int) ≤ 1 := by have := hi0.2.2.2.1; omega
    clear hi0
    by_cases hlt : k < n
    · have hlen : off + k < L'.length := by have := hi.out.1; have := hoff'.out; omega
      have hcell := hBr.cell hlen
      have hfr := hBr.frozen (off + k)
      obtain ⟨x, hx⟩ : ∃ x, nth L' (off + k) = x := ⟨_, rfl⟩
      rw [hx] at hcell
      have hxL : nth L (off + k) = x := by rw [← hx]; exact (hi.out.2.1 _ (by omega)).symm
      have hxb : (x : Int) ≤ 999999999 := by have := hL'.out k hlt; omega
      replace hx := Lib.hid hx
      replace hxL := Lib.hid hxL
      by_cases hkb : k < nb
      · have hsb := hb.only ho hne'.out
        obtain ⟨bb, bo, rfl, _, hcb⟩ := hsb.at_ (by omega)
        have hcb' := hcb k hkb
        clear hcb
        obtain ⟨y, hy⟩ : ∃ y, nth b k = y := ⟨_, rfl⟩
        rw [hy] at hcb'
        have hyb : (y : Int) ≤ 999999999 := by have := hgb.get k; omega
        replace hy := Lib.hid hy
        by_cases hs : d + y ≤ x
        · have hs' : decide ((d : Int) + (y : Int) ≤ (x : Int)) = true := by simp; omega
          have hs2 : (d : Int) + (y : Int) ≤ (x : Int) := by omega
          go_wp2
          go_roundw
          case rel => exact ⟨k + 1, 0, _, by omega, by go_num, rfl, hBr.set' (off + k) (x := x - (d + y)) (by omega), hi.out.step (by have := hi.out.1; omega) (by omega) (by omega) (by rw [hxL.out, hy.out]; omega), ho.setCell rfl _⟩
          case measure => simp [intOf]; omega
        · have hs' : decide ((d : Int) + (y : Int) ≤ (x : Int)) = false := by simp; omega
          have hs2 : (x : Int) + 1 ≤ (d : Int) + (y : Int) := by omega
          clear hs
          go_wp2
          go_roundw
          case rel => exact ⟨k + 1, 1, _, by omega, by go_num, rfl, hBr.set' (off + k) (x := x + 1000000000 - (d + y)) (by omega), hi.out.step (by have := hi.out.1; omega) (by omega) (by omega) (by rw [hxL.out, hy.out]; omega), ho.setCell rfl _⟩
          case measure => simp [intOf]; omega
      · have hyz : nth b k = 0 := nth_of_le (by rw [← hlb.out]; omega)
        replace hyz := Lib.hid hyz
        by_cases hd0 : d = 0
        · subst hd0
          go_wp2
          refine bodyPost_ret (results_none rfl _ _ _) rfl ?_
          exact ⟨L', 0, rfl, hBr, hi.out.done (by rw [← hlb.out]; omega) hk hL'.out, ho⟩
        · obtain rfl : d = 1 := by omega
          by_cases hs : 1 ≤ x
          · have hs' : decide ((1 : Int) ≤ (x : Int)) = true := by simp; omega
            have hs2 : (1 : Int) ≤ (x : Int) := by omega
            go_wp2
            go_roundw
            case rel => exact ⟨k + 1, 0, _, by omega, by go_num, rfl, hBr.set' (off + k) (x := x - 1) (by omega), hi.out.step (by have := hi.out.1; omega) (by omega) (by omega) (by rw [hxL.out, hyz.out]; omega), ho.setCell rfl _⟩
            case measure => simp [intOf]; omega
          · obtain rfl : x = 0 := by omega
            go_wp2
            go_roundw
            case rel => exact ⟨k + 1, 1, _, by omega, by go_num, rfl, hBr.set' (off + k) (x := 999999999) (by omega), hi.out.step (by have := hi.out.1; omega) (by omega) (by omega) (by rw [hxL.out, hyz.out]), ho.setCell rfl _⟩
            case measure => simp [intOf]; omega
    · obtain rfl : k = n := by omega
      go_wp2
      go_end0
      exact ⟨L', d, rfl, hBr, hi.out, ho⟩

set_option maxHeartbeats 1600000 in
/-- subtractFrom at no groups. -/
theorem subtractFrom_nil (R : Option Addr) (c : Nat) (A : Option Addr) (nb cb : Nat) (w : World) :
    Calls Tryd.prog 93 #[.slice R 0 c, .slice A nb cb] w fun e w' => e = .returned (.tuple #[]) ∧ w = w' := by
  go_enter Tryd.func93, Tryd.ntmps93
  go_wp2
  go_loop [4, 8] (fun cv i => i = .int .i64 0 ∧ cv = .int .u32 0) (fun _ _ => 0)
  case atStart => exact ⟨rfl, rfl⟩
  case round =>
    obtain ⟨rfl, rfl⟩ := hrel
    go_wp2
    go_end0
    exact ⟨rfl, rfl⟩

end Go.Proofs.YtalbdjnanmcoeaaDoor
