/-
  Walk: multiplyColumns of package integer.
-/
import Derived.Test.YtabibkhcdamlhaaDoorC
import Derived.Test.YtabibkhcdamlhaaDoorI
import Derived.Test.YtabibkhcdamlhaaDoorNum
import Derived.Deep.QuietTactic
import Derived.BigQuiet
set_option linter.unusedSimpArgs false
set_option linter.unusedVariables false
namespace Go.Proofs.YtabibkhcdamlhaaDoor
open Go.RowKit Num

set_option maxRecDepth 100000 in
set_option maxHeartbeats 4000000 in
/-- multiplyColumns, where a column has at most 18 products. -/
theorem multiplyColumns_any (A : Option Addr) (n c : Nat) (A2 : Option Addr) (n2 c2 : Nat) (la lb : List Nat) (w : World) (ha : Sl w A n c la) (hb : Sl w A2 n2 c2 lb) (hga : Grp la) (hgb : Grp lb)
    (h0 : 0 < n2) (h1 : n2 ≤ n) (h18 : n2 ≤ 18) (hn : n ≤ 100000000) :
    Calls Tryd.prog 87 #[.slice A n c, .slice A2 n2 c2] w (RetM w (val la * val lb) (n + n2)) := by
  obtain ⟨N, hN⟩ : ∃ N, n + n2 = N := ⟨_, rfl⟩
  have hN1 : n2 < N := by omega
  have hN2 : N ≤ 200000000 := by omega
  have hmk := run_make_u32 .i64 .i64 ((n : Int) + (n2 : Int)) N (by omega) (by omega)
  have ha1 := ha.alloc (.cells (cells (zeros N)).toArray 48)
  have hb1 := hb.alloc (.cells (cells (zeros N)).toArray 48)
  have hB1 := Bl.new w (zeros N)
  have hna := Lib.hid ha.len
  have hnb := Lib.hid hb.len
  have hacap := ha.le_cap
  have hacl := ha.cap_le
  have hbcap := hb.le_cap
  have hbcl := hb.cap_le
  obtain ⟨b1, o1, rfl, hblt1, hca⟩ := ha.at_ (by omega)
  obtain ⟨b2, o2, rfl, hblt2, hcb⟩ := hb.at_ (by omega)
  replace hca := Lib.hid hca
  replace hcb := Lib.hid hcb
  replace hN := Lib.hid hN
  go_enter Tryd.func87, Tryd.ntmps87
  go_wp2
  go_loopw [6, 22] (fun cv i wr => ∃ k C R, k < N ∧ i = .int .i64 ((k : Nat) : Int) ∧ cv = .int .u64 ((C : Nat) : Int) ∧ Bl wr w.heap.size R ∧ R.length = N ∧ (∀ j, nth R j < 1000000000) ∧ C ≤ 18000000000 ∧
      vs R 0 k + C * pw k = cols la lb k ∧ Only (w.alloc (.cells (cells (zeros N)).toArray 48)) wr w.heap.size) (fun _ i _ => N - (intOf i).toNat)
  case atStart => exact ⟨0, 0, zeros N, by omega, rfl, rfl, hB1, zeros_length N, fun j => by rw [nth_zeros]; omega, by omega, by simp [vs_zero, cols], Only.refl _ _⟩
  case round =>
    obtain ⟨k, C, R, hk, rfl, rfl, hBr, hRl, hRg, hC, hinv, ho⟩ := hrel
    replace hRl := Lib.hid hRl
    replace hRg := Lib.hid hRg
    replace hinv := Lib.hid hinv
    by_cases hlt : k + 1 < N
    · have hki : (k : Int) < (N : Int) - 1 := by omega
      obtain ⟨wo, hwo⟩ : ∃ wo : World, wo = wr := ⟨_, rfl⟩
      rw [← hwo] at hBr ho ⊢
      clear hwo
      obtain ⟨lo, hlo⟩ : ∃ lo, k + 1 - n2 = lo := ⟨_, rfl⟩
      replace hlo := Lib.hid hlo
      rcases (show (k : Int) ≤ (n : Int) - 1 ∨ (n : Int) - 1 < (k : Int) from by omega) with hkn | hkn
      all_goals go_wp2
      all_goals
        go_loopw [8, 9, 10, 11] (fun low high i cc wr => ∃ i' T q, lo ≤ i' ∧ i' ≤ k + 1 ∧ i' ≤ n ∧ i = .int .i64 ((i' : Nat) : Int) ∧ low = .int .u64 ((T : Nat) : Int) ∧ high = .int .u64 0 ∧ T = C + col la lb k lo (i' - lo) ∧ wr = wo.drewN q) (fun _ _ i _ _ => k + 1 - (intOf i).toNat)
        case atStart => exact ⟨lo, C, 0, Nat.le_refl _, by have := hlo.out; omega, by have := hlo.out; have := hN.out; omega, by first | rfl | (congr 1; have := hlo.out; omega), rfl, rfl, by simp [col], rfl⟩
        case round =>
          obtain ⟨i, T, q, hi1, hi2, hi3, rfl, rfl, rfl, hT, rfl⟩ := hrel
          have hTb : T ≤ 18000000000 + 18 * 999999998000000001 := by
            have h2 : i - lo ≤ 18 := by have := hlo.out; omega
            have h3 := col_bound hga hgb k lo (i - lo)
            have := Nat.mul_le_mul_right 999999998000000001 h2
            omega
          replace hT := Lib.hid hT
          by_cases hin : i ≤ k ∧ i < n
          · obtain ⟨hik, hin⟩ := hin
            obtain ⟨j, hj⟩ : ∃ j, k - i = j := ⟨_, rfl⟩
            have hjn : j < n2 := by have := hlo.out; omega
            have hjI : IntKind.i64.wrap ((k : Int) - (i : Int)) = (j : Int) := by rw [IntKind.wrap_i64]; omega
            have hjI2 : (k : Int) - (i : Int) = (j : Int) := by omega
            replace hj := Lib.hid hj
            obtain ⟨_, _, e1, _, hcx0⟩ := (Sl.only ha1 ho (fun h b o e => by cases e; omega)).at_ (by omega)
            cases e1
            have hcx := hcx0 i hin
            clear hcx0
            obtain ⟨_, _, e2, _, hcy0⟩ := (Sl.only hb1 ho (fun h b o e => by cases e; omega)).at_ (by omega)
            cases e2
            have hcy := hcy0 j hjn
            clear hcy0
            obtain ⟨x, hx⟩ : ∃ x, nth la i = x := ⟨_, rfl⟩
            obtain ⟨y, hy⟩ : ∃ y, nth lb j = y := ⟨_, rfl⟩
            rw [hx] at hcx
            rw [hy] at hcy
            have hxb : x ≤ 999999999 := by have := hga.get i; omega
            have hyb : y ≤ 999999999 := by have := hgb.get j; omega
            have hpb : x * y ≤ 999999998000000001 := Nat.mul_le_mul hxb hyb
            obtain ⟨p, hp⟩ : ∃ p, x * y = p := ⟨_, rfl⟩
            rw [hp] at hpb
            have hmul : IntKind.u64.wrap ((x : Int) * (y : Int)) = (p : Int) := by rw [IntKind.wrap_u64, ← Int.natCast_mul, hp]; omega
            have hTn : T + p ≤ 18000000000 + 18 * 999999998000000001 := by
              have h2 : i + 1 - lo ≤ 18 := by have := hlo.out; omega
              have h3 := col_bound hga hgb k lo (i + 1 - lo)
              have h4 := Nat.mul_le_mul_right 999999998000000001 h2
              have h5 : col la lb k lo (i + 1 - lo) = col la lb k lo (i - lo) + p := by
                rw [show i + 1 - lo = (i - lo) + 1 from by omega, col_succ, show lo + (i - lo) = i from by omega, hj.out, hx, hy, hp]
              have := hT.out
              omega
            obtain ⟨T', hT'⟩ : ∃ T', T + p = T' := ⟨_, rfl⟩
            have hadd := fun W => add64 (T : Int) (p : Int) (by omega) (by omega) W
            have ea1 : ((T : Int) + (p : Int)) % 18446744073709551616 = (T' : Int) := by omega
            have ea2 : ((T : Int) + (p : Int)) / 18446744073709551616 = 0 := by omega
            simp only [ea1, ea2] at hadd
            clear ea1 ea2
            replace hx := Lib.hid hx
            replace hy := Lib.hid hy
            replace hp := Lib.hid hp
            replace hT' := Lib.hid hT'
            have hx0 : (x : Int) ≤ 999999999 := by omega
            have hy0 : (y : Int) ≤ 999999999 := by omega
            go_wp2
            go_quiet (fail)
            go_wp2
            go_roundw
            case rel => exact ⟨i + 1, T', _, by omega, by omega, by omega, by go_num, rfl, rfl, by
              rw [← hT'.out, show i + 1 - lo = (i - lo) + 1 from by omega, col_succ, show lo + (i - lo) = i from by omega, hj.out, hx.out, hy.out, hp.out, hT.out]; omega, rfl⟩
            case measure => simp [intOf]; omega
          · have hTk : T = C + colAll la lb k := by
              rw [hT.out, colAll_eq (lo := lo) (m := i - lo) (fun j hj => nth_of_le (by rw [← hnb.out]; have := hlo.out; omega)) (by omega) (fun j h1 h2 => nth_of_le (by rw [← hna.out]; omega))]
            replace hTk := Lib.hid hTk
            have hT3 : T / 1000000000 ≤ 18000000000 := by omega
            have hGb : T % 1000000000 ≤ 999999999 := by omega
            obtain ⟨G, hG⟩ : ∃ G, T % 1000000000 = G := ⟨_, rfl⟩
            obtain ⟨D, hD⟩ : ∃ D, T / 1000000000 = D := ⟨_, rfl⟩
            have hdv := fun W => Div64_base T (by omega) W
            simp only [hG, hD] at hdv
            rw [hG] at hGb
            rw [hD] at hT3
            replace hG := Lib.hid hG
            replace hD := Lib.hid hD
            replace hdv := Lib.hid hdv
            have hGb' : (G : Int) ≤ 999999999 := by omega
            have hcell := hBr.cell (i := k) (by rw [hRl.out]; omega)
            have hfr := hBr.frozen k
            go_wp2_with (go_at_call 107; refine (hdv.out _).mono ?_; rintro e w2 ⟨rfl, q2, rfl⟩)
            go_roundw
            case rel => exact ⟨k + 1, D, R.set k G, by omega, by go_num, rfl, (hBr.drewN _).set' k rfl, by rw [List.length_set]; exact hRl.out, (fun j => by
              rw [nth_set (by rw [hRl.out]; omega)]
              split
              · omega
              · exact hRg.out j), by omega, by rw [← hG.out, ← hD.out]; exact col_step (by rw [hRl.out]; omega) hinv.out hTk.out, (ho.drewN _).setCell rfl _⟩
            case measure => simp [intOf]; omega
    · obtain ⟨hC9, hfin⟩ := col_last hga hgb (by rw [← hna.out, ← hnb.out]; have := hN.out; omega) hinv.out
      replace hfin := Lib.hid hfin
      have hC9' : (C : Int) ≤ 999999999 := by omega
      have hcell := hBr.cell (i := k) (by rw [hRl.out]; omega)
      have hfr := hBr.frozen k
      have hkN : (N : Int) - 1 = (k : Int) := by omega
      have hBF := hBr.set' k (x := C) rfl
      have hslF := hBF.sl (off := 0) (n := N) (c := N) (by rw [List.length_set, hRl.out]; omega) (Nat.le_refl _) (by omega)
      have hoF := ho.setCell (p := ⟨w.heap.size, k, none⟩) rfl (.int .u32 (C : Int))
      go_wp2_with (go_at_call 81; refine (trimmed_any _ _ _ _ _ hslF (by omega)).mono ?_; rintro e w4 ⟨k', hk', hz', ht', rfl, rfl⟩; replace hz' := Lib.hid hz'; replace ht' := Lib.hid ht')
      go_ret
      have hgF : ∀ j, nth (R.set k C) j < 1000000000 := fun j => by
        rw [nth_set (by rw [hRl.out]; omega)]
        split
        · omega
        · exact hRg.out j
      have hv : vs (R.set k C) 0 N = val la * val lb := by
        have e0 : N = k + 1 := by omega
        have e1 : vs (R.set k C) 0 k = vs R 0 k := vs_congr fun j hj => by rw [nth_set (by rw [hRl.out]; omega), if_neg (by omega)]
        rw [e0, vs_succ, e1, Nat.zero_add, nth_set (by rw [hRl.out]; omega), if_pos rfl, Nat.mul_comm]
        exact hfin.out
      rw [← hv]
      have hf := FM.trim (B := w.heap.size) hBF (Nat.le_refl _) (off := 0) (n := N) (c := N) (by rw [List.length_set, hRl.out]; omega) (Nat.le_refl _) (by omega) (fun j _ => hgF _) hk' hz'.out ht'.out
      exact ⟨_, _, _, rfl, hf.mono (by have := hN.out; omega), ((Below.refl w.heap.size w).alloc (Nat.le_refl _) _).trans (Only.below hoF (Nat.le_refl _) (by simp))⟩

end Go.Proofs.YtabibkhcdamlhaaDoor
