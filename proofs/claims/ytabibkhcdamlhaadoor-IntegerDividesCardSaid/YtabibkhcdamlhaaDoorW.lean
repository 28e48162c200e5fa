/-
  Walk: appendGroup of package integer.
-/
import Derived.Test.YtabibkhcdamlhaaDoorN
import Derived.Test.YtabibkhcdamlhaaDoorShelf
import Derived.Maps.AppendAt
import Derived.Lib.VarintMem
import Derived.Lib.OwnKind
import Derived.Lib.LaidTab
set_option linter.unusedSimpArgs false
set_option linter.unusedVariables false
namespace Go.Proofs.YtabibkhcdamlhaaDoor
open Go.RowKit Num

/-- The place of digit k of nine. -/
def unit9 (k : Nat) : Nat := 100000000 / 10 ^ k
theorem unit9_zero : unit9 0 = 100000000 := by decide
theorem unit9_succ (k : Nat) : unit9 k / 10 = unit9 (k + 1) := by unfold unit9; rw [Nat.div_div_eq_div_mul, Nat.pow_succ]
theorem unit9_pos {k : Nat} (h : k < 9) : 0 < unit9 k := by
  rcases k with _ | _ | _ | _ | _ | _ | _ | _ | _ | k <;> first | decide | omega
theorem unit9_nine : unit9 9 = 0 := by decide
theorem unit9_le (k : Nat) : unit9 k ≤ 100000000 := Nat.div_le_self _ _

/-- The first k of nine digits. -/
def pads (g : Nat) : Nat → List UInt8
  | 0 => []
  | k + 1 => pads g k ++ [(48 + g / unit9 k % 10).toUInt8]
theorem pads_length (g k : Nat) : (pads g k).length = k := by
  induction k with
  | zero => rfl
  | succ k ih => simp [pads, ih]

theorem infoB : ∃ i0, Tryd.prog.info? 5 = some i0 ∧ i0.zero = some (.int .u8 0) ∧ i0.size = 1 ∧ i0.bytes = 1 := info_parts (by kernel_rfl)

set_option maxRecDepth 100000 in
set_option maxHeartbeats 4000000 in
/-- appendGroup: nine digits behind what there is. -/
theorem appendGroup_any (g : Nat) (hg : g < 1000000000) (B n : Nat) (sv : Value) (xs : List Value) (w : World) (hown : w.ownsRow B 5 1 sv n xs) (hBw : B ≤ w.heap.size) (hlim : n ≤ 100000000000) :
    Calls Tryd.prog 58 #[sv, .int .u32 (g : Int)] w fun e w' => ∃ v', e = .returned v' ∧ w'.ownsRow B 5 1 v' (n + 9) (xs ++ Lib.byteCells (pads g 9)) ∧ Below B w w' ∧ Lib.OthersKept 5 none w w' := by
  obtain ⟨i0, hi, hz0, hz1, hz2⟩ := infoB
  go_enter Tryd.func58, Tryd.ntmps58
  go_wp2
  go_loopw [0, 5] (fun v u wr => ∃ k, k ≤ 9 ∧ u = .int .u32 ((unit9 k : Nat) : Int) ∧ wr.ownsRow B 5 1 v (n + k) (xs ++ Lib.byteCells (pads g k)) ∧ Below B w wr ∧ Lib.OthersKept 5 none w wr) (fun _ u _ => (intOf u).toNat)
  case atStart => exact ⟨0, by omega, rfl, by simpa [pads, Lib.byteCells] using hown, Below.refl _ _, Lib.OthersKept.refl _ _ _⟩
  case round =>
    obtain ⟨k, hk, rfl, hown, hB, hO⟩ := hrel
    by_cases hlt : k < 9
    · obtain ⟨u, hu⟩ : ∃ u, unit9 k = u := ⟨_, rfl⟩
      have hu0 : 0 < u := by rw [← hu]; exact unit9_pos hlt
      have hu1 : u ≤ 100000000 := by rw [← hu]; exact unit9_le k
      obtain ⟨d, hd⟩ : ∃ d, g / u % 10 = d := ⟨_, rfl⟩
      have hd9 : (d : Int) ≤ 9 := by omega
      have hdI : ((g : Int) / (u : Int)) % 10 = (d : Int) := by rw [← hd]; simp
      have hq0 : (0 : Int) ≤ (g : Int) / (u : Int) := by rw [← Int.natCast_ediv]; exact Int.natCast_nonneg _
      have hq1 : (g : Int) / (u : Int) ≤ 999999999 := by rw [← Int.natCast_ediv]; have := Nat.div_le_self g u; exact (show ((g / u : Nat) : Int) ≤ ((999999999 : Nat) : Int) from Int.ofNat_le.2 (by omega))
      have hu0' : (0 : Int) < (u : Int) := by omega
      have hu1' : (u : Int) ≤ 100000000 := by omega
      rw [hu]
      replace hd := Lib.hid hd
      replace hu := Lib.hid hu
      go_wp2_with (at_builtin; refine wpList_append_own _ rfl _ _ 53 rfl B 5 i0 (.int .u8 0) 1 1 Tryd.underlying53 hi hz0 hz1 hz2 rfl (by decide) _ _ _ rfl (hown.alloc _) ⟨wr.heap.size, 0, none⟩ 1 1 [.int .u8 ((48 + d : Nat) : Int)] rfl rfl (cell_one_new _ _ _) (by simp [Value.oneCell']) (by unfold maxLen; omega) (by omega) (by have := hB.size; simp; omega) ?_; intro v' w1 hown' hgrow _)
      have e1 : xs ++ Lib.byteCells (pads g (k + 1)) = (xs ++ Lib.byteCells (pads g k)) ++ [.int .u8 ((48 + d : Nat) : Int)] := by
        rw [List.append_assoc, pads, hu.out, hd.out, Lib.byteCells_snoc _ (by omega)]
      refine ⟨⟨k + 1, hlt, by rw [← unit9_succ, hu.out]; simp, by rw [e1]; exact hown', ?_, (hO.alloc _).grown hgrow (Lib.ownsRow_kind (hown.alloc _))⟩, by simp [intOf]; omega⟩
      exact (hB.alloc (by have := hB.size; omega) _).grown hgrow (by have := hB.size; simp; omega) (fun j ej => (hown.lt j ej).1)
    · obtain rfl : k = 9 := by omega
      rw [unit9_nine]
      go_wp2
      go_ret
      exact ⟨_, rfl, hown, hB, hO⟩

/-- The table of powers that the library's numerals read. -/
def Pows (w : World) : Prop := Lib.TabIs Tryd.prog w "internal/strconv.uint64pow10" .u64 Lib.pow10Tab

set_option maxHeartbeats 1600000 in
/-- strconv.AppendUint at base 10. -/
theorem AppendUint_any (u : Nat) (hu : u < 18446744073709551616) (B n : Nat) (sv : Value) (xs : List Value) (w : World) (hown : w.ownsRow B 5 1 sv n xs) (hBw : B ≤ w.heap.size) (hlim : n ≤ 100000000000) (htab : Pows w) :
    Calls Tryd.prog 57 #[sv, .int .u64 (u : Int), .int .i64 10] w fun e w' => ∃ v', e = .returned v' ∧ w'.ownsRow B 5 1 v' (n + (Lib.decDigits u).length) (xs ++ Lib.byteCells (Lib.decDigits u)) ∧ Below B w w' ∧ Lib.OthersKept 5 none w w' := by
  by_cases h : u < 100
  · have hc := Tryd.internal_strconv_AppendUint_10_small B n u h sv xs w hown hBw (by omega)
    go_enter Tryd.func57, Tryd.ntmps57
    go_wp2_with (go_at_call 84; refine hc.mono ?_; rintro e w' ⟨v', rfl, h1, h2, h3⟩)
    go_ret
    exact ⟨v', rfl, h1, h2, h3⟩
  · have hc := Tryd.internal_strconv_AppendUint_10_big B n u (by omega) hu sv xs w hown hBw (by omega) htab
    go_enter Tryd.func57, Tryd.ntmps57
    go_wp2_with (go_at_call 84; refine hc.mono ?_; rintro e w' ⟨v', rfl, h1, h2, h3⟩)
    go_ret
    exact ⟨v', rfl, h1, h2, h3⟩

end Go.Proofs.YtabibkhcdamlhaaDoor
