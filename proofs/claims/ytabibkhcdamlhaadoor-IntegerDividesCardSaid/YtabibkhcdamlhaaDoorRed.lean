/-
  Walks: estimate, reduce of package integer.
-/
import Derived.Test.YtabibkhcdamlhaaDoorDv
import Derived.Test.YtabibkhcdamlhaaDoorDBB
import Derived.Test.YtabibkhcdamlhaaDoorA
import Derived.Deep.QuietTactic
import Derived.BigQuiet
import Derived.Deep.Cut
set_option linter.unusedSimpArgs false
set_option linter.unusedVariables false
namespace Go.Proofs.YtabibkhcdamlhaaDoor
open Go.RowKit Num

/-- Div64, where the quotient fits. -/
theorem Div64_any (N y : Nat) (hN : N / 18446744073709551616 < y) (hy : y < 18446744073709551616) (w : World) :
    Calls Tryd.prog 107 #[.int .u64 ((N / 18446744073709551616 : Nat) : Int), .int .u64 ((N % 18446744073709551616 : Nat) : Int), .int .u64 (y : Int)] w (RetQ w (N / y)) := by
  have hl : N % 18446744073709551616 < 18446744073709551616 := Nat.mod_lt _ (by decide)
  by_cases h0 : N / 18446744073709551616 = 0
  · have hs : N % 18446744073709551616 = N := by omega
    rw [h0, hs]
    refine (Div64_lo N y (by omega) (by omega) hy w).mono ?_
    rintro e w' ⟨rfl, q, rfl⟩
    exact ⟨_, rfl, q, rfl⟩
  · have := Div64_hi (N / 18446744073709551616) (N % 18446744073709551616) y (by omega) hN hl hy w
    rwa [show N / 18446744073709551616 * 18446744073709551616 + N % 18446744073709551616 = N by omega] at this

set_option maxRecDepth 100000 in
set_option maxHeartbeats 1600000 in
/-- estimate. -/
theorem estimate_any (g off c p0 p1 p2 lead N : Nat) (w : World) (c0 : w.cell? ⟨g, off, none⟩ = some (.int .u32 (p0 : Int))) (c1 : w.cell? ⟨g, off + 1, none⟩ = some (.int .u32 (p1 : Int))) (c2 : w.cell? ⟨g, off + 2, none⟩ = some (.int .u32 (p2 : Int)))
    (h0 : p0 < 1000000000) (h1 : p1 < 1000000000) (h2 : p2 < 1000000000) (hl : 1000000000 ≤ lead) (hl2 : lead < 1000000000000000000) (hN : (p2 * 1000000000 + p1) * 1000000000 + p0 = N) :
    Calls Tryd.prog 120 #[.slice (some ⟨g, off, none⟩) 3 c, .int .u64 (lead : Int)] w fun e w' => e = .returned (.int .i64 ((min (N / lead) 999999999 : Nat) : Int)) ∧ ∃ q, w' = w.drewN q := by
  obtain ⟨X, hX⟩ : ∃ X, p2 * 1000000000 + p1 = X := ⟨_, rfl⟩
  rw [hX] at hN
  have hXI : (p2 : Int) * 1000000000 + (p1 : Int) = (X : Int) := by omega
  have hXb : X < 1000000000000000000 := by omega
  have hM := fun w => Tryd.bits_Mul64 X 1000000000 (by omega) (by omega) w
  obtain ⟨hi, hhi⟩ : ∃ hi, X * 1000000000 / 18446744073709551616 = hi := ⟨_, rfl⟩
  obtain ⟨lo, hlo⟩ : ∃ lo, X * 1000000000 % 18446744073709551616 = lo := ⟨_, rfl⟩
  rw [show ((1000000000 : Nat) : Int) = 1000000000 from rfl] at hM
  simp only [hhi, hlo] at hM
  have hA := fun w => add64 (lo : Int) (p0 : Int) (by omega) (by omega) w
  obtain ⟨l1, hl1⟩ : ∃ l1 : Nat, ((lo : Int) + (p0 : Int)) % 18446744073709551616 = (l1 : Int) := ⟨((lo + p0) % 18446744073709551616 : Nat), by omega⟩
  obtain ⟨cy, hcy⟩ : ∃ cy : Nat, ((lo : Int) + (p0 : Int)) / 18446744073709551616 = (cy : Int) := ⟨((lo + p0) / 18446744073709551616 : Nat), by omega⟩
  rw [hl1, hcy] at hA
  obtain ⟨h3, hh3⟩ : ∃ h3, hi + cy = h3 := ⟨_, rfl⟩
  have hhI : (hi : Int) + (cy : Int) = (h3 : Int) := by omega
  have e1 : N / 18446744073709551616 = h3 := by omega
  have e2 : N % 18446744073709551616 = l1 := by omega
  have hD := fun w => Div64_any N lead (by omega) (by omega) w
  rw [e1, e2] at hD
  obtain ⟨q, hq⟩ : ∃ q, N / lead = q := ⟨_, rfl⟩
  have hqb : q < 1000000000000000000 := by
    rw [← hq]
    have : N / lead ≤ N / 1000000000 := Nat.div_le_div_left hl (by omega)
    omega
  rw [hq] at hD ⊢
  obtain ⟨m, hm⟩ : ∃ m, min q 999999999 = m := ⟨_, rfl⟩
  have hmI : min (q : Int) 999999999 = (m : Int) := by omega
  have hmb : (m : Int) ≤ 999999999 := by omega
  have hh3b : (h3 : Int) ≤ 54210109 := by omega
  have hl1b : (l1 : Int) ≤ 18446744073709551615 := by omega
  have hp2b : (p2 : Int) ≤ 999999999 := by omega
  have hp1b : (p1 : Int) ≤ 999999999 := by omega
  have hp0b : (p0 : Int) ≤ 999999999 := by omega
  have hqbI : (q : Int) ≤ 999999999999999999 := by omega
  rw [hm]
  clear hhi hlo hl1 hcy hh3 e1 e2 hq hm hX hN hXb h0 h1 h2 hl hl2
  replace hM := Lib.hid hM
  replace hD := Lib.hid hD
  go_enter Tryd.func120, Tryd.ntmps120
  go_wp2
  go_quiet ((go_at_call 85; refine Calls.quiet_of_same (hM.out _)))
  go_wp2_with (first | (go_at_call 107; refine (hD.out _).mono ?_; rintro e w' ⟨r, rfl, k, rfl⟩))
  go_ret
  exact ⟨rfl, _, rfl⟩

theorem top_arith (a p x0 x1 x2 B : Nat) (h : a < p) : a + p * x0 + p * B * x1 + p * B * B * x2 < p * ((x2 * B + x1) * B + x0 + 1) := by
  have e : p * ((x2 * B + x1) * B + x0 + 1) = p * x0 + p * B * x1 + p * B * B * x2 + p := by grind
  rw [e]
  omega
theorem lead_arith (a p x0 x1 B : Nat) : a + p * x0 + p * B * x1 = a + p * (x1 * B + x0) := by grind

/-- The estimate is not below the quotient. -/
theorem est_ge {L b : List Nat} {j n' V N lead : Nat} (hL : ∀ i, i < n' + 3 → nth L (j + i) < 1000000000) (hbl : b.length = n' + 2) (hV : vs L j (n' + 3) = V)
    (hlead : nth b (n' + 1) * 1000000000 + nth b n' = lead) (hN : (nth L (j + n' + 2) * 1000000000 + nth L (j + n' + 1)) * 1000000000 + nth L (j + n') = N) (h0 : 0 < lead) (hb0 : 0 < val b) (_ : 0 < val b) :
    V < val b * 1000000000 → V / val b ≤ min (N / lead) 999999999 := by
  intro hVb
  have h1 : V / val b ≤ N / lead := by
    refine top_est (p := pw n') (lo := vs b 0 n') ?_ ?_ h0 hb0
    · rw [← hV, vs_succ, vs_succ, vs_succ, pw_succ, pw_succ, ← hN, ← Nat.add_assoc j, ← Nat.add_assoc j]
      exact top_arith _ _ _ _ _ _ (vs_lt fun i hi => hL i (by omega))
    · rw [← vs_all b (k := n' + 2) (by omega), vs_succ, vs_succ, pw_succ, ← hlead, Nat.zero_add, Nat.zero_add]
      exact lead_arith _ _ _ _ _
  have h2 : V / val b < 1000000000 := (Nat.div_lt_iff_lt_mul hb0).2 (by rw [Nat.mul_comm]; exact hVb)
  omega

theorem Only.cell_far {a b : World} {g k : Nat} (h : Only a b g) (hk : k < a.heap.size) (hne : k ≠ g) (i : Nat) : b.cell? ⟨k, i, none⟩ = a.cell? ⟨k, i, none⟩ :=
  World.cell?_of_block (h.block k hk (fun e => hne (by injection e)))

/-- reduce has put the rest in the place of the part, and returns the quotient. -/
def RetR (g j n : Nat) (L b : List Nat) (V : Nat) (w : World) (e : Ending) (w' : World) : Prop :=
  ∃ L' q, e = .returned (.int .u32 ((q : Nat) : Int)) ∧ q < 1000000000 ∧ Bl w' g L' ∧ L'.length = L.length ∧ (∀ i, (i < j ∨ j + n + 1 ≤ i) → nth L' i = nth L i) ∧ (∀ i, i < n → nth L' (j + i) < 1000000000) ∧ nth L' (j + n) = 0 ∧ (V < val b * 1000000000 → q = V / val b ∧ vs L' j n = V % val b) ∧ Only w w' g

theorem RetR.close {g j n : Nat} {L b L' : List Nat} {V d : Nat} {c : Int} {w w1 : World} (hbk : BackInv j n b L L' V d c) (hd9 : d ≤ 999999999) (hc : 0 ≤ c) (hb0 : 0 < val b) (hbn : val b ≤ pw n) (hB : Bl w1 g L') (hj : j + n < L.length) (ho : Only w w1 g) :
    RetR g j n L b V w (.returned (.int .u32 (d : Int))) (w1.setCell ⟨g, j + n, none⟩ (.int .u32 0)) := by
  have hdn := hbk.done hc hb0 hbn
  obtain ⟨g1, g2, g3, -⟩ := hbk
  have hn : ∀ i, nth (L'.set (j + n) 0) i = if i = j + n then 0 else nth L' i := fun i => nth_set (by omega) 0 i
  refine ⟨L'.set (j + n) 0, d, rfl, by omega, hB.set' (j + n) rfl, by simp [g1], fun i hi => ?_, fun i hi => ?_, ?_, fun hVb => ⟨(hdn hVb).1, ?_⟩, ho.setCell rfl _⟩
  · rw [hn, if_neg (by omega)]
    exact g2 i (by omega)
  · rw [hn, if_neg (by omega)]
    exact g3 i hi
  · rw [hn, if_pos rfl]
  · rw [← (hdn hVb).2.1]
    exact vs_congr fun i hi => by rw [hn, if_neg (by omega)]

set_option maxRecDepth 100000 in
set_option maxHeartbeats 800000 in
/-- reduce. -/
theorem reduce_any (g j n' m c : Nat) (L : List Nat) (A : Option Addr) (n cb : Nat) (b : List Nat) (lead V : Nat) (w : World) (hn' : n' + 2 = n) (hm : n + 1 = m) (hB : Bl w g L) (hj : j + (n + 1) ≤ L.length) (hc : n + 1 ≤ c) (hcm : c ≤ 2000000000)
    (hL : ∀ i, i < n + 1 → nth L (j + i) < 1000000000) (hb : Sl w A n cb b) (hgb : Grp b) (hne : ∀ k o, A = some ⟨k, o, none⟩ → k ≠ g) (hb0 : 0 < val b) (htop : nth b (n' + 1) ≠ 0) (hlead : nth b (n' + 1) * 1000000000 + nth b n' = lead)
    (hV : vs L j (n + 1) = V) (hn : n ≤ 1000000) :
    Calls Tryd.prog 108 #[.slice (some ⟨g, j, none⟩) m c, .slice A n cb, .int .u64 (lead : Int)] w (RetR g j n L b V w) := by
  have hlb := hb.len
  have q0 := hB.cell (i := j + n') (by omega)
  have q1 := hB.cell (i := j + n' + 1) (by omega)
  have q2 := hB.cell (i := j + n' + 2) (by omega)
  have b1 := hgb.get (n' + 1)
  have b0 := hgb.get n'
  obtain ⟨N, hN⟩ : ∃ N, (nth L (j + n' + 2) * 1000000000 + nth L (j + n' + 1)) * 1000000000 + nth L (j + n') = N := ⟨_, rfl⟩
  have hge := est_ge (V := V) (fun i hi => hL i (by omega)) (by omega) (by rw [show n' + 3 = n + 1 by omega]; exact hV) hlead hN (by omega) hb0 hb0
  have hest := fun cc => estimate_any g (j + n') cc _ _ _ lead N w q0 q1 q2 (hL n' (by omega)) (hL (n' + 1) (by omega)) (hL (n' + 2) (by omega)) (by omega) (by omega) hN
  obtain ⟨d, hd⟩ : ∃ d, min (N / lead) 999999999 = d := ⟨_, rfl⟩
  rw [hd] at hge hest
  have hd9 : d ≤ 999999999 := by omega
  have hbn : val b ≤ pw n := by have := val_lt hgb; rw [← hlb] at this; omega
  have hVV : V = vs L j n + pw n * nth L (j + n) := by rw [← hV, vs_succ]
  have hcap := hb.le_cap
  have hcl := hb.cap_le
  obtain ⟨kb, ob, rfl, hkl, hbc⟩ := hb.at_ (by omega)
  have hkg := hne kb ob rfl
  have hnI : (n : Int) - 2 = (n' : Int) := by omega
  have hbl : b.length ≤ n := by omega
  clear q0 q1 q2 b1 b0 hN hd htop hlead hV hne
  replace hest := Lib.hid hest
  replace hge := Lib.hid hge
  replace hVV := Lib.hid hVV
  replace hbn := Lib.hid hbn
  replace hL := Lib.hid hL
  replace hb0 := Lib.hid hb0
  replace hlb := Lib.hid hlb
  replace hbl := Lib.hid hbl
  replace hgb := Lib.hid hgb
  replace hbc := Lib.hid hbc
  have hnm : (n' : Int) ≤ (m : Int) := by omega
  have hnm3 : (m : Int) - (n' : Int) = 3 := by omega
  have hnm4 : m - n' = 3 := by omega
  replace hm := Lib.hid hm
  replace hn' := Lib.hid hn'
  go_enter Tryd.func108, Tryd.ntmps108
  go_upto_region 3 with (go_at_call 120; refine (hest.out _).mono ?_; rintro e w1 ⟨rfl, k, hw1⟩; have hw2 := hw1.symm; clear hw1)
  have ho1 : Only w w1 g := by rw [← hw2]; exact (Only.refl w g).drewN k
  have hB1 : Bl w1 g L := by rw [← hw2]; exact hB
  have hkl1 : kb < w1.heap.size := by rw [← hw2]; exact hkl
  have hb1 : Sl w1 (some ⟨kb, ob, none⟩) n cb b := by rw [← hw2]; exact hb
  have hbc1 : ∀ i, i < n → w1.cell? ⟨kb, ob + i, none⟩ = some (.int .u32 (nth b i : Nat)) := by rw [← hw2]; exact hbc.out
  replace hbc := Lib.hid hbc1
  replace hb1 := Lib.hid hb1
  have hds0 := RedInv.start j b L d
  clear hw2 hB hb hest hbc1
  have hdI : (d : Int) ≤ 999999999 := by omega
  go_wp2
  go_loopw [9, 10, 11, 22] (fun cv _ _ iv wr => ∃ (i : Nat) (c : Int) (L' : List Nat), i ≤ n ∧ iv = .int .i64 (i : Int) ∧ cv = .int .i64 c ∧ Bl wr g L' ∧ RedInv j b L L' i d c ∧ Only w1 wr g) (fun _ _ _ iv _ => n - (intOf iv).toNat)
  case atStart => exact ⟨0, 0, L, Nat.zero_le _, rfl, rfl, hB1, hds0, Only.refl _ _⟩
  case round =>
    obtain ⟨i, cr, L', hi, rfl, rfl, hBr, hinv, ho⟩ := hrel
    have hcr0 : -1000000000 ≤ cr := hinv.2.2.2.1
    have hcr1 : cr ≤ 0 := hinv.2.2.2.2.1
    have hL'l : L'.length = L.length := hinv.1
    by_cases hlt : i < n
    · have hcb := hbc.out i hlt
      have hcb2 : wr.cell? ⟨kb, ob + i, none⟩ = some (.int .u32 (nth b i : Nat)) := by
        rw [Only.cell_far ho hkl1 hkg]
        exact hcb
      have hcp := hBr.cell (i := j + i) (by omega)
      have hfp := hBr.frozen (j + i)
      have heq : nth L' (j + i) = nth L (j + i) := hinv.2.1 (j + i) (by omega)
      rw [heq] at hcp
      have hx9 := hL.out i (by omega)
      have hy9 := hgb.out.get i
      have hst := fun r c' h1 h2 h3 h4 => hinv.step (r := r) (c' := c') (by omega : j + i < L.length) h1 h2 h3 h4
      obtain ⟨x, hx⟩ : ∃ x, nth L (j + i) = x := ⟨_, rfl⟩
      obtain ⟨y, hy⟩ : ∃ y, nth b i = y := ⟨_, rfl⟩
      rw [hx] at hcp hx9 hst
      rw [hy] at hcb2 hy9 hst
      obtain ⟨P, hP⟩ : ∃ P, d * y = P := ⟨_, rfl⟩
      have hPb : P ≤ 999999998000000001 := by
        rw [← hP]
        exact Nat.mul_le_mul hd9 (show y ≤ 999999999 by omega)
      have hPI : (d : Int) * (y : Int) = (P : Int) := by rw [← hP, Int.natCast_mul]
      rw [hPI] at hst
      obtain ⟨T, hT⟩ : ∃ T : Int, (x : Int) - (P : Int) + cr = T := ⟨_, rfl⟩
      obtain ⟨r, hr⟩ : ∃ r : Nat, T % 1000000000 = (r : Int) := ⟨(T % 1000000000).toNat, by omega⟩
      obtain ⟨cq, hcq⟩ : ∃ cq : Int, T / 1000000000 = cq := ⟨_, rfl⟩
      have hst2 := hst r cq (by omega) (by omega) (by omega) (by omega)
      have hdb := fun w => divideByBase_any T (by omega) (by omega) w
      rw [hr, hcq] at hdb
      have hT0 : -1000000000000000000 ≤ T := by omega
      have hT1 : T ≤ 999999999 := by omega
      have hxI : (x : Int) ≤ 999999999 := by omega
      have hyI : (y : Int) ≤ 999999999 := by omega
      have hPbI : (P : Int) ≤ 999999998000000001 := by omega
      have hPw : IntKind.i64.wrap ((d : Int) * (y : Int)) = (P : Int) := by rw [hPI, IntKind.wrap_i64]; omega
      have hsub : (x : Int) - (P : Int) = T - cr := by omega
      replace hst2 := Lib.hid hst2
      replace hdb := Lib.hid hdb
      replace hx := Lib.hid hx
      replace hy := Lib.hid hy
      replace hP := Lib.hid hP
      replace hr := Lib.hid hr
      replace hcq := Lib.hid hcq
      clear hst hinv hx9 hy9 hPb hPI heq hcb hsub
      go_wp2_with (go_at_call 121; refine (hdb.out _).mono ?_; rintro e w2 ⟨rfl, hw3⟩; have hw4 := hw3.symm; clear hw3; subst hw4)
      exact ⟨⟨i + 1, cq, L'.set (j + i) r, hlt, by go_num, rfl, hBr.set' (j + i) rfl, hst2.out, ho.setCell rfl _⟩, by simp [intOf]; omega⟩
    · obtain rfl : i = n := by omega
      obtain ⟨p, hp⟩ : ∃ p, nth L (j + i) = p := ⟨_, rfl⟩
      have hp9 := hL.out i (by omega)
      rw [hp] at hp9
      have hcp := hBr.cell (i := j + i) (by omega)
      have heq : nth L' (j + i) = nth L (j + i) := hinv.2.1 (j + i) (by omega)
      rw [heq, hp] at hcp
      obtain ⟨c2, hc2⟩ : ∃ c2 : Int, cr + (p : Int) = c2 := ⟨_, rfl⟩
      have hbk := hinv.back (c2 := c2) hbl.out hVV.out (by rw [hp]; exact hc2.symm) hge.out
      have hc2a : -1000000000 ≤ c2 := by omega
      have hc2b : c2 ≤ 1000000000 := by omega
      have hmI : (i : Int) < (m : Int) := by have := hm.out; omega
      have hjl : j + i < L.length := by omega
      have hpI : (p : Int) ≤ 999999999 := by omega
      have hic : i ≤ c := by omega
      have hicI : (i : Int) ≤ (c : Int) := by omega
      have hBk := Lib.hid hbk
      have hmN : i ≤ m := by have := hm.out; omega
      replace hp := Lib.hid hp
      clear hbk hinv heq
      go_wp2
      go_loopw [8, 9] (fun dv cv wb => ∃ (d' : Nat) (c' : Int) (L2 : List Nat), dv = .int .i64 (d' : Int) ∧ cv = .int .i64 c' ∧ d' ≤ 999999999 ∧ -1000000000 ≤ c' ∧ c' ≤ 1000000000 ∧ Bl wb g L2 ∧ BackInv j i b L L2 V d' c' ∧ Only w1 wb g) (fun dv _ _ => (intOf dv).toNat)
      case atStart => exact ⟨d, c2, L', rfl, rfl, hd9, hc2a, hc2b, hBr, hBk.out, ho⟩
      case round =>
        clear hcp hBr hBk ho hL'l hc2 hc2a hc2b
        obtain ⟨d', c', L2, rfl, rfl, hd9', hca, hcb', hB2, hbk, ho2⟩ := hrel
        have hl2 : L2.length = L.length := hbk.1
        by_cases hneg : c' < 0
        · have hlt2 := hbk.below hneg hb0.out
          have hdp : 0 < d' := Nat.lt_of_le_of_lt (Nat.zero_le _) hlt2
          obtain ⟨d1, hd1⟩ : ∃ d1, d' = d1 + 1 := ⟨d' - 1, by omega⟩
          have hdI1 : (d' : Int) - 1 = (d1 : Int) := by omega
          rw [hd1] at hbk hlt2
          have hstep := fun L3 e h => hbk.step (L2 := L3) (e := e) hlt2 hbl.out h
          have hg2 : ∀ k, k < i → nth L2 (j + k) < 1000000000 := hbk.2.2.1
          have hbs : Sl wr (some ⟨kb, ob, none⟩) i cb b := hb1.out.only ho2 (fun _ k o e => by injection e with e; injection e with e1 e2; rw [← e1]; exact hkg)
          have hadd := addTo_any g j i c L2 (some ⟨kb, ob, none⟩) i cb b wr hB2 (by omega) hic hg2 hbs hgb.out (fun _ k o e => by injection e with e; injection e with e1 e2; rw [← e1]; exact hkg) (Nat.le_refl _) (by omega)
          have hdb9 : d1 ≤ 999999999 := by omega
          replace hstep := Lib.hid hstep
          replace hadd := Lib.hid hadd
          replace hd1 := Lib.hid hd1
          clear hbk hlt2 hg2 hbs
          go_wp2_with (go_at_call 92; refine hadd.out.mono ?_; rintro e w3 ⟨L3, cy, rfl, hB3, hadd3, ho3⟩; have hcy : (cy : Int) ≤ 1 := (by have := hadd3.2.2.2.1; omega); have hst3 := hstep.out _ _ hadd3; replace hst3 := Lib.hid hst3; clear hadd3)
          go_roundw
          case rel => exact ⟨d1, c' + (cy : Int), L3, rfl, rfl, hdb9, by omega, by omega, hB3, hst3.out, ho2.trans ho3⟩
          case measure => simp [intOf]; omega
        · have hcl0 : 0 ≤ c' := by omega
          have hcx := hB2.cell (i := j + i) (by omega)
          have hfx := hB2.frozen (j + i)
          have hd9I : (d' : Int) ≤ 999999999 := by omega
          have hend := RetR.close (w := w) (w1 := wr) hbk hd9' hcl0 hb0.out hbn.out hB2 hjl (ho1.trans ho2)
          replace hend := Lib.hid hend
          clear hbk
          go_wp2
          go_ret
          exact hend.out

end Go.Proofs.YtabibkhcdamlhaaDoor
