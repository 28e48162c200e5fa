/-
  Walk over the reference: Mul.
-/
import Derived.Test.YtabibkhcdamlhaaDoorS
import Derived.Test.YtabibkhcdamlhaaDoorK
import Derived.Test.YtabibkhcdamlhaaDoorC
import Derived.Deep.QuietTactic
import Derived.BigQuiet
set_option linter.unusedSimpArgs false
set_option linter.unusedVariables false
namespace Go.Proofs.YtabibkhcdamlhaaDoor
open Go.RowKit Num

set_option maxRecDepth 100000 in
set_option maxHeartbeats 4000000 in
/-- Mul of the reference. -/
theorem rMul_any (neg : Bool) (A : Option Addr) (n c : Nat) (x : Int) (neg2 : Bool) (A2 : Option Addr) (n2 c2 : Nat) (y : Int) (k k2 : Nat) (w : World) (hx : VI w neg A n c x k) (hy : VI w neg2 A2 n2 c2 y k2) (hk : k ≤ 100000000) (hk2 : k2 ≤ 100000000) :
    Calls Tryd.prog 35 #[.agg #[.bool neg, .slice A n c], .agg #[.bool neg2, .slice A2 n2 c2]] w (RetZ w (x * y) (k + k2)) := by
  have hb1 := ((Below.refl w.heap.size w).alloc (Nat.le_refl _) (.cells #[.bool neg, .slice A n c] 24)).alloc (by simp) (.cells #[.bool neg2, .slice A2 n2 c2] 24)
  have hb0 := hb1.alloc (by simp <;> omega) (.cells #[.bool false, .slice none 0 0] 24)
  clear hb1
  have tok1 : True := trivial
  go_enter Tryd.func35, Tryd.ntmps35
  go_wp2
  go_region_with (first | (go_at_call 13; have _t := tok1; clear tok1 _t; (refine (Value_any _ _ _ _ x k _ (hx.below (by first | exact hb0 | exact hb0.drew)) (by omega)).mono ?_; rintro e w1 ⟨neg1, A1, n1, c1, rfl, hi1, hb2⟩; replace hb2 := undrew hb2; have hbw1 := hb0.trans (hb2.mono (by simp <;> omega)); obtain ⟨⟨d1, d2, d3, d4, d5, d6⟩, ⟨e1, e2, e3, e4, e5, e6⟩, hsz⟩ := box3s hb2)) | (go_at_call 13; refine (Value_any _ _ _ _ y k2 _ (hy.below (by first | exact hbw1 | exact hbw1.drew)) (by omega)).mono ?_; rintro e w2 ⟨neg3, A3, n3, c3, rfl, hi2, hb3⟩; replace hi1 := hi1.below hb3; have hb4 := btr hb2 hb3; have hbw2 := hb0.trans (hb4.mono (by simp <;> omega)); clear d1 d2 d3 d4 d5 d6 e1 e2 e3 e4 e5 e6 hsz; obtain ⟨⟨d1, d2, d3, d4, d5, d6⟩, ⟨e1, e2, e3, e4, e5, e6⟩, hsz⟩ := box3s hb4))
  all_goals
    have hlt1 : w.heap.size < w2.heap.size := by omega
    have hlt2 : w.heap.size + 1 < w2.heap.size := by omega
    have hlt3 : w.heap.size + 1 + 1 < w2.heap.size := by omega
    obtain ⟨⟨g1, g2, g3, g4, g5, g6⟩, ⟨f1, f2, f3, f4, f5, f6⟩, hsW⟩ := boxes4 (u1 := .bool neg1) (u2 := .slice A1 n1 c1) (u3 := .bool neg3) (u4 := .slice A3 n3 c3) (Below.refl _ _) ⟨d1, d2, d3, d4, d5, d6⟩ ⟨e1, e2, e3, e4, e5, e6⟩ hsz
    have i1 := hi1.store4 d1 d2 d3 d4 (by omega) (.bool neg1) (.slice A1 n1 c1) (.bool neg3) (.slice A3 n3 c3)
    have i2 := hi2.store4 d1 d2 d3 d4 (by omega) (.bool neg1) (.slice A1 n1 c1) (.bool neg3) (.slice A3 n3 c3)
    have hbW : Below w.heap.size w ((((w2.setCell ⟨w.heap.size, 0, none⟩ (.bool neg1)).setCell ⟨w.heap.size, 1, none⟩ (.slice A1 n1 c1)).setCell ⟨w.heap.size + 1, 0, none⟩ (.bool neg3)).setCell ⟨w.heap.size + 1, 1, none⟩ (.slice A3 n3 c3)) := by
      repeat (first | exact hbw2 | refine Below.setCell ?_ (by simp) _)
    clear d1 d2 d3 d4 d5 d6 e1 e2 e3 e4 e5 e6 hsz hi1 hi2 hlt1 hlt2 hlt3
    generalize (((w2.setCell ⟨w.heap.size, 0, none⟩ (.bool neg1)).setCell ⟨w.heap.size, 1, none⟩ (.slice A1 n1 c1)).setCell ⟨w.heap.size + 1, 0, none⟩ (.bool neg3)).setCell ⟨w.heap.size + 1, 1, none⟩ (.slice A3 n3 c3) = W at g1 g2 g3 g4 g5 g6 f1 f2 f3 f4 f5 f6 hsW i1 i2 hbW ⊢
    have m1 := i1.mm
    have m2 := i2.mm
    have z1 := Lib.hid i1.sgnd
    have z2 := Lib.hid i2.sgnd
    clear i1 i2
    have hlt1 : w.heap.size < W.heap.size := by omega
    have hlt2 : w.heap.size + 1 < W.heap.size := by omega
    obtain ⟨la, hsa, hca, hma, hna⟩ := m1
    obtain ⟨lb, hsb, hcb, hmb, hnb⟩ := m2
    obtain ⟨N, hN⟩ : ∃ N, n1 + n3 = N := ⟨_, rfl⟩
    have hN2 : N ≤ 200000000 := by omega
    have hmk := run_make_u32 .i64 .i64 ((n1 : Int) + (n3 : Int)) N (by omega) (by omega)
    have ha1 := hsa.alloc (.cells (cells (zeros N)).toArray 48)
    have hb1 := hsb.alloc (.cells (cells (zeros N)).toArray 48)
    have hoa := Lib.hid hsa.old
    have hob := Lib.hid hsb.old
    have hB1 := Bl.new W (zeros N)
    have hla := Lib.hid hsa.len
    have hlb := Lib.hid hsb.len
    have hacap := hsa.le_cap
    have hacl := hsa.cap_le
    have hbcap := hsb.le_cap
    have hbcl := hsb.cap_le
    have hga := Lib.hid hca.1
    have hgb := Lib.hid hcb.1
    replace hma := Lib.hid hma
    replace hmb := Lib.hid hmb
    replace hN := Lib.hid hN
    clear hsa hsb hca hcb
    go_wp2
    go_loopw [6, 7, 8, 9] (fun i _ _ _ wr => ∃ i' R, i' ≤ n1 ∧ i = .int .i64 ((i' : Nat) : Int) ∧ Bl wr W.heap.size R ∧ R.length = N ∧ MO la lb R i' ∧ Only (W.alloc (.cells (cells (zeros N)).toArray 48)) wr W.heap.size) (fun i _ _ _ _ => n1 - (intOf i).toNat)
    case atStart => exact ⟨0, zeros N, Nat.zero_le _, rfl, hB1, zeros_length N, MO.zero _ _ _, Only.refl _ _⟩
    case round =>
      obtain ⟨i, R, hi, rfl, hBr, hRl, hmo, ho⟩ := hrel
      have c1 := (grown_old ho hlt1 0).trans g1
      have c2 := (grown_old ho hlt1 1).trans g2
      have c3 := (grown_old ho hlt2 0).trans g3
      have c4 := (grown_old ho hlt2 1).trans g4
      replace hRl := Lib.hid hRl
      replace hmo := Lib.hid hmo
      by_cases hlt : i < n1
      · go_wp2
        go_loopw [7, 8, 9] (fun cc j _ wr => ∃ j' C R', j' ≤ n3 ∧ j = .int .i64 ((j' : Nat) : Int) ∧ cc = .int .u64 ((C : Nat) : Int) ∧ Bl wr W.heap.size R' ∧ MR la lb R R' i j' C ∧ Only (W.alloc (.cells (cells (zeros N)).toArray 48)) wr W.heap.size) (fun _ j _ _ => n3 - (intOf j).toNat)
        case atStart => exact ⟨0, 0, R, Nat.zero_le _, rfl, rfl, hBr, MR.zero hmo.out.1, ho⟩
        case round =>
          clear c1 c2 c3 c4 hBr ho
          obtain ⟨j, C, R', hj, rfl, rfl, hBr, hmr, ho⟩ := hrel
          have c1 := (grown_old ho hlt1 0).trans g1
          have c2 := (grown_old ho hlt1 1).trans g2
          have c3 := (grown_old ho hlt2 0).trans g3
          have c4 := (grown_old ho hlt2 1).trans g4
          have hC : (C : Int) ≤ 999999999 := by have := hmr.2.2.2.1; omega
          have hRl' := Lib.hid (hmr.1.trans hRl.out)
          replace hmr := Lib.hid hmr
          by_cases hjl : j < n3
          · obtain ⟨q, hq⟩ : ∃ q, i + j = q := ⟨_, rfl⟩
            have hij : q < N := by have := hN.out; omega
            have hijI : (i : Int) + (j : Int) = (q : Int) := by omega
            obtain ⟨_, _, rfl, _, hcx0⟩ := (Sl.only ha1 ho (fun h b o e => by have := hoa.out (by omega) b o e; omega)).at_ (by omega)
            have hcx := hcx0 i hlt
            clear hcx0
            obtain ⟨_, _, rfl, _, hcy0⟩ := (Sl.only hb1 ho (fun h b o e => by have := hob.out (by omega) b o e; omega)).at_ (by omega)
            have hcy := hcy0 j hjl
            clear hcy0
            have hcell := hBr.cell (i := q) (by rw [hRl'.out]; exact hij)
            have hfr := hBr.frozen q
            obtain ⟨x', hx'⟩ : ∃ x', nth la i = x' := ⟨_, rfl⟩
            obtain ⟨y', hy'⟩ : ∃ y', nth lb j = y' := ⟨_, rfl⟩
            obtain ⟨r, hr⟩ : ∃ r, nth R' q = r := ⟨_, rfl⟩
            rw [hx'] at hcx
            rw [hy'] at hcy
            rw [hr] at hcell
            have hxb : x' ≤ 999999999 := by have := hga.out.get i; omega
            have hyb : y' ≤ 999999999 := by have := hgb.out.get j; omega
            have hrb : r ≤ 999999999 := by have := hmr.out.2.1 q; omega
            have hpb : x' * y' ≤ 999999998000000001 := Nat.mul_le_mul hxb hyb
            obtain ⟨p, hp⟩ : ∃ p, x' * y' = p := ⟨_, rfl⟩
            rw [hp] at hpb
            have hmul : IntKind.u64.wrap ((x' : Int) * (y' : Int)) = (p : Int) := by rw [IntKind.wrap_u64, ← Int.natCast_mul, hp]; omega
            obtain ⟨s, hs⟩ : ∃ s, r + p + C = s := ⟨_, rfl⟩
            have hs1 : (r : Int) + (p : Int) + (C : Int) = (s : Int) := by omega
            have hsb2 : (s : Int) ≤ 999999999999999999 := by omega
            have hx0 : (x' : Int) ≤ 999999999 := by omega
            have hy0 : (y' : Int) ≤ 999999999 := by omega
            have hr0 : (r : Int) ≤ 999999999 := by omega
            have hp0 : (p : Int) ≤ 999999998000000001 := by omega
            have hmr2 := Lib.hid (hmr.out.step (s := s) (by rw [hRl.out, hq]; exact hij) (by rw [hx', hy', hq, hr, hp, hs]) (by omega) (by omega))
            replace hx' := Lib.hid hx'
            replace hy' := Lib.hid hy'
            replace hr := Lib.hid hr
            replace hp := Lib.hid hp
            replace hs := Lib.hid hs
            replace hq := Lib.hid hq
            replace hijI := hijI
            go_wp2
            go_quiet (fail)
            go_wp2
            go_roundw
            case rel => exact ⟨j + 1, s / 1000000000, R'.set q (s % 1000000000), hjl, by go_num, by first | rfl | simp, (hBr.drewN _).set' q (by first | rfl | simp | omega), by have := hmr2.out; rwa [hq.out] at this, (ho.drewN _).setCell rfl _⟩
            case measure => simp [intOf]; omega
          · obtain rfl : j = n3 := by omega
            obtain ⟨q, hq⟩ : ∃ q, i + j = q := ⟨_, rfl⟩
            have hij : q < N := by have := hN.out; omega
            have hijI : (i : Int) + (j : Int) = (q : Int) := by omega
            have hcell := hBr.cell (i := q) (by rw [hRl'.out]; exact hij)
            have hfr := hBr.frozen q
            have hmo2 := Lib.hid (hmo.out.step (C := C) (by rw [← hlb.out]; exact hmr.out) (by rw [hRl.out, ← hlb.out, hq]; exact hij))
            replace hq := Lib.hid hq
            go_wp2
            go_roundw
            case rel => exact ⟨i + 1, R'.set q C, hlt, by go_num, hBr.set' q rfl, by rw [List.length_set]; exact hRl'.out, by have := hmo2.out; rwa [← hlb.out, hq.out] at this, ho.setCell rfl _⟩
            case measure => simp [intOf]; omega
      · obtain rfl : i = n1 := by omega
        have c5 := (grown_old ho (by omega : w.heap.size + 1 + 1 < W.heap.size) 0).trans g5
        have c6 := (grown_old ho (by omega : w.heap.size + 1 + 1 < W.heap.size) 1).trans g6
        have x1 := (grown_old_fr ho hlt1 0).trans f1
        have x2 := (grown_old_fr ho hlt1 1).trans f2
        have x3 := (grown_old_fr ho hlt2 0).trans f3
        have x4 := (grown_old_fr ho hlt2 1).trans f4
        have x5 := (grown_old_fr ho (by omega : w.heap.size + 1 + 1 < W.heap.size) 0).trans f5
        have x6 := (grown_old_fr ho (by omega : w.heap.size + 1 + 1 < W.heap.size) 1).trans f6
        have hsl := hBr.sl (off := 0) (n := N) (c := N) (by rw [hRl.out]; omega) (Nat.le_refl _) (by omega)
        rw [List.drop_zero, List.take_of_length_le (by rw [hRl.out]; exact Nat.le_refl _)] at hsl
        have hgR : Hid (Grp R) := Lib.hid (grp_of_get hmo.out.1)
        have hval : Hid (val R = x.natAbs * y.natAbs) := Lib.hid (by rw [hmo.out.2.2, vs_all la (by rw [← hla.out]; exact Nat.le_refl _), hma.out, hmb.out])
        have hwr : w.heap.size + 1 + 1 < wr.heap.size := by have := ho.size; simp at this; omega
        go_wp2_with (go_at_call 54; refine (made_any _ _ _ _ R _ hsl hgR.out (by omega)).mono ?_; rintro e w7 ⟨neg7, A7, n7, c7, rfl, hi7, hb7⟩; obtain ⟨⟨k1, k2', k3, k4, k5, k6⟩, ⟨t1, t2, t3, t4, t5, t6⟩, hs7⟩ := boxes6 hb7 ⟨c1, c2, c3, c4, c5, c6⟩ ⟨x1, x2, x3, x4, x5, x6⟩ hwr)
        refine bodyPost_ret (v := .agg #[.bool neg7, .slice A7 n7 c7]) (by simp [results, Tryd.results35, go_sem, k5, k6]) rfl ?_
        rw [hval.out, sgnd_mul z1.out z2.out] at hi7
        exact RetZ.close0 (hi7.mono (by have := hN.out; omega)) ((hbW.trans (((Below.refl W.heap.size W).alloc (Nat.le_refl _) _).mono (by omega))).trans ((Only.below (B := w.heap.size) ho (by omega) (by simp; omega)).trans (hb7.mono (by omega)))) (by omega) k5 k6

end Go.Proofs.YtabibkhcdamlhaaDoor
