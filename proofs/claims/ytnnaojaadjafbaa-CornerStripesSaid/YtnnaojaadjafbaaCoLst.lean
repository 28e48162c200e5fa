/-
  Walk: the law CornerStripes.
-/
import Derived.Test.YtnnaojaadjafbaaCoLs
import Derived.Test.YtnnaojaadjafbaaCoBy
set_option linter.unusedSimpArgs false
set_option linter.unusedVariables false
namespace Go.Proofs.Ytnnaojaadjafbaa
open Go.RowKit

/-- The pixels of a raster whose rows are all equal. -/
def strF (R : List Int) (a i : Nat) : Int := nth R (i % a)
def strL (R : List Int) (a b : Nat) : List Int := tab (a * b) (strF R a)
theorem str_gY {R : List Int} {a b i : Nat} (h1 : a ≤ i) (h2 : i + a < a * b) : gY a (strL R a b) i = 0 := by
  unfold gY strL
  rw [nth_tab h2, nth_tab (by omega)]
  unfold strF
  rw [Nat.add_mod_right]
  have : (i - a + a) % a = (i - a) % a := Nat.add_mod_right _ _
  rw [Nat.sub_add_cancel h1] at this
  rw [this]
  omega
theorem str_BC {a : Nat} {P : List Int} {p : Nat} : ∀ m : Nat, (∀ t, t < m → gY a P (nine a p t) = 0) → sB a P p m = 0 ∧ sC a P p m = 0
  | 0, _ => ⟨rfl, rfl⟩
  | m + 1, h => by
    obtain ⟨h1, h2⟩ := str_BC (P := P) (p := p) m (fun t ht => h t (by omega))
    simp only [sB, sC]
    rw [h1, h2, h m (by omega)]
    simp
theorem str_score (R : List Int) {a b : Nat} (i : Nat) (ha : 1 ≤ a) : scoreAt a b (strL R a b) i ≤ 0 := by
  unfold scoreAt
  split
  · rename_i hm
    obtain ⟨e1, e2⟩ := mod_div_nat i a ha
    have hz : ∀ t, t < 9 → gY a (strL R a b) (nine a i t) = 0 := by
      intro t ht
      have hn := nine_in (n := a * b) (j := t / 3) (i := t % 3) hm rfl (Nat.mod_lt _ (by omega)) (by omega)
      have he := nine_eq (a := a) (x := i % a) (y := i / a) (j := t / 3) (i := t % 3) (Nat.mod_lt _ (by omega)) (by have := hm.1.1; omega) (by have := hm.2.1; omega)
      rw [e1, show 3 * (t / 3) + t % 3 = t from by omega] at he
      rw [he] at hn
      exact str_gY hn.1 hn.2
    obtain ⟨h1, h2⟩ := str_BC 9 hz
    unfold sc scF
    rw [h1, h2]
    have := sq_nn (sA a (strL R a b) i 9)
    simp
    exact this
  · omega
theorem str_nth (R : List Int) {a b : Nat} (i : Nat) (ha : 1 ≤ a) : nth (scoresL a b (strL R a b)) i ≤ 0 := by
  by_cases hi : i < a * b
  · unfold scoresL
    rw [nth_tab hi]
    exact str_score R i ha
  · have : nth (scoresL a b (strL R a b)) i = 0 := by simp [nth, List.getD, List.getElem?_eq_none (show (scoresL a b (strL R a b)).length ≤ i by rw [scoresL, tab_length]; omega)]
    omega
theorem str_any (R : List Int) {a b : Nat} (ha : 1 ≤ a) : (scoresL a b (strL R a b)).any (fun s => decide (0 < s)) = false :=
  any_none fun j _ => decide_eq_false (by have := str_nth R (b := b) j ha; omega)
theorem str_cors (R : List Int) {a b : Nat} (ha : 1 ≤ a) (k : Nat) : corsF a (scoresL a b (strL R a b)) 0 k = [] := by
  unfold corsF
  rw [List.map_eq_nil_iff, List.filter_eq_nil_iff]
  intro i _
  have := str_nth R (b := b) i ha
  unfold selB
  rw [decide_eq_false (by omega)]
  simp
theorem str_scr {R : List Int} {a b : Nat} (hR : ∀ x ∈ R, 0 ≤ x ∧ x ≤ 255) (ha : 1 ≤ a) (ha2 : a ≤ 14) (hb : 1 ≤ b) (hb2 : b ≤ 14) (hl : R.length = a) : Scr a b 255 (strL R a b) := by
  refine ⟨⟨by omega, by rw [strL, tab_length]; simp, fun g hg => ?_⟩, by omega⟩
  unfold strL tab at hg
  obtain ⟨i, -, rfl⟩ := List.mem_map.1 hg
  unfold strF
  have hi : i % a < R.length := by rw [hl]; exact Nat.mod_lt _ (by omega)
  rw [nth_eq hi]
  exact hR _ (List.getElem_mem _)

theorem above_pred (w : World) : PredI 32 #[] (fun s => decide (0 < s)) w := fun W x _ => by
  show Calls Try.prog 32 #[.int .i64 x] W _
  by_cases h : 0 < x
  · have hd : decide (0 < x) = true := by simp [h]
    show Calls Try.prog 32 #[.int .i64 x] W fun e w' => e = .returned (.bool (decide (0 < x))) ∧ _
    rw [hd]
    replace hd := Lib.hid hd
    go_enter Try.func32, Try.ntmps32
    go_wp2
    go_ret
    exact ⟨by first | rfl | simp [h], Below.refl _ _⟩
  · have hd : decide (0 < x) = false := by simp [h]
    show Calls Try.prog 32 #[.int .i64 x] W fun e w' => e = .returned (.bool (decide (0 < x))) ∧ _
    rw [hd]
    replace hd := Lib.hid hd
    go_enter Try.func32, Try.ntmps32
    go_wp2
    go_ret
    exact ⟨ret_bool (by first | rfl | (simp; omega)), Below.refl _ _⟩
theorem size_set (w : World) (p : Addr) (u : Value) : (w.setCell p u).heap.size = w.heap.size := by simp [World.setCell]
theorem enters_above : ∀ args w, (callFunc 32 args).run Try.prog w = .ok (.enter 32 args) w := enters_of Try.func32 (by kernel_rfl) rfl

set_option maxRecDepth 100000 in
set_option maxHeartbeats 6400000 in
theorem lawStripes_any (A : Option Addr) (n c : Nat) (R : List Int) (z : Int) (w : World) (h : Sb w A n c R) (hz0 : 0 ≤ z) (hz1 : z ≤ 255) :
    Calls Try.prog 10 #[.slice A n c, .int .u8 z] w fun e w' => e = .returned (.bool true) ∧ Below w.heap.size w w' := by
  obtain ⟨⟨hlen, hcap, hcl, hat⟩, hR⟩ := id h
  clear hat
  by_cases hn : 1 ≤ n ∧ n ≤ 14
  · obtain ⟨hn1, hn2⟩ := hn
    obtain ⟨zn, rfl⟩ : ∃ zn : Nat, z = (zn : Int) := ⟨z.toNat, by omega⟩
    obtain ⟨b, hb⟩ : ∃ b : Nat, 1 + zn % 14 = b := ⟨_, rfl⟩
    have hb1 : 1 ≤ b := by omega
    have hb2 : b ≤ 14 := by omega
    have e1 : (zn : Int) % 14 = ((zn % 14 : Nat) : Int) := by omega
    have e2 : (zn : Int).tmod 14 = ((zn % 14 : Nat) : Int) := by rw [Int.tmod_eq_emod_of_nonneg (by omega)]; exact e1
    obtain ⟨zm, hzm⟩ : ∃ zm, zn % 14 = zm := ⟨_, rfl⟩
    rw [hzm] at e1 e2 hb
    have e3 : 1 + (zm : Int) = (b : Int) := by omega
    obtain ⟨bb, off, rfl, hbw, hc⟩ := h.at_ (by omega)
    have hscr := str_scr (R := R) (a := n) (b := b) hR hn1 hn2 hb1 hb2 hlen.symm
    have hf := str_cors R (a := n) (b := b) hn1 (n * b)
    have hany := str_any R (a := n) (b := b) hn1
    obtain ⟨P, hP⟩ : ∃ P, strL R n b = P := ⟨_, rfl⟩
    rw [hP] at hscr hf hany
    have c1 := Lib.hid (fun W A' c' (hW : Sl W A' (n * b) c' P) => Scores_ok n b 255 A' (n * b) c' P W hW hscr)
    have c2 := Lib.hid (fun W A' c' (hW : Sl W A' (n * b) c' P) => Find_few n b 255 A' (n * b) c' P 0 100 W hW hscr (by omega) (by omega) (by omega) (L := []) (by simpa using hf) (by decide) (k := 0) (by decide))
    simp only [Int.toNat_natCast] at c1 c2
    obtain ⟨S, hS⟩ : ∃ S, scoresL n b P = S := ⟨_, rfl⟩
    rw [hS] at c1 hany
    have hSl : Hid (S.length = n * b) := Lib.hid (by rw [← hS, scoresL, tab_length])
    have hnb : n * b ≤ 196 := Nat.mul_le_mul hn2 hb2
    obtain ⟨N, hN⟩ : ∃ N, n * b = N := ⟨_, rfl⟩
    rw [hN] at c1 c2 hSl hnb
    have hPt : Hid (tab N (strF R n) = P) := Lib.hid (by rw [← hP, strL, hN])
    have c3 := Lib.hid (fun W A' (hW : Sl W A' N N S) => ContainsFunc_ints _ _ _ enters_above A' N N S W hW (above_pred W) hany)
    replace hc := Lib.hid hc
    replace hscr := Lib.hid hscr
    replace hf := Lib.hid hf
    replace hany := Lib.hid hany
    replace hP := Lib.hid hP
    replace hS := Lib.hid hS
    replace hN := Lib.hid hN
    replace hlen := Lib.hid hlen
    replace hR := Lib.hid hR
    replace hzm := Lib.hid hzm
    replace h := Lib.hid h
    have hbz : (zn : Int) ≤ 255 := hz1
    go_enter Try.func10, Try.ntmps10
    go_wp2_with (go_at_call 11; refine (known_any _).mono ?_; rintro e w1 ⟨rfl, hb1'⟩)
    have hB1 := hb1'.alloc (Nat.le_trans (Nat.le_refl _) hb1'.size) (.cells #[.int .i64 (n : Int), .int .i64 (b : Int), .int .i64 255, .slice none 0 0] 24)
    have k1 := RB.new w1 n b 255 none 0 0
    obtain ⟨gB, hgB⟩ : ∃ gB, w1.heap.size = gB := ⟨_, rfl⟩
    have hz2 : (w1.alloc (.cells #[.int .i64 (n : Int), .int .i64 (b : Int), .int .i64 255, .slice none 0 0] 24)).heap.size = gB + 1 := by simp [hgB]
    have hwg : w.heap.size ≤ gB := by rw [← hgB]; exact hb1'.size
    obtain ⟨w2, hw2⟩ : ∃ w2, w1.alloc (.cells #[.int .i64 (n : Int), .int .i64 (b : Int), .int .i64 255, .slice none 0 0] 24) = w2 := ⟨_, rfl⟩
    rw [hw2] at hB1 k1 hz2 ⊢
    rw [hgB] at k1 ⊢
    replace hw2 := Lib.hid hw2
    replace hgB := Lib.hid hgB
    clear hb1'
    go_loopw [32] (fun i wr => ∃ (y q : Nat) (A' : Option Addr) (c' : Nat), y ≤ b ∧ i = .int .i64 (y : Int) ∧ Hid (q = y * n) ∧ wr.ownsRow (gB + 1) 3 1 (.slice A' q c') q (cells (tab q (strF R n))) ∧ RB wr gB n b 255 A' q c' ∧ Below w.heap.size w wr ∧ gB < wr.heap.size) (fun i _ => b - (intOf i).toNat)
    case atStart => exact ⟨0, 0, none, 0, Nat.zero_le _, rfl, Lib.hid (Nat.zero_mul _).symm, World.ownsRow_nil _ _ _ _, k1, hB1, by omega⟩
    case round =>
      clear k1 hB1
      obtain ⟨y, q, A', c', hy, rfl, hq, hown, k0, hB, hz⟩ := hrel
      by_cases hlt : y < b
      · have hji : (y : Int) < (b : Int) := by omega
        go_wp2
        obtain ⟨wo, rfl⟩ : ∃ wo, wo = wr := ⟨_, rfl⟩
        go_loopw [36] (fun i wr => ∃ (x q : Nat) (A' : Option Addr) (c' : Nat), x ≤ n ∧ i = .int .i64 (x : Int) ∧ Hid (q = y * n + x) ∧ wr.ownsRow (gB + 1) 3 1 (.slice A' q c') q (cells (tab q (strF R n))) ∧ RB wr gB n b 255 A' q c' ∧ Below w.heap.size w wr ∧ gB < wr.heap.size) (fun i _ => n - (intOf i).toNat)
        case atStart => exact ⟨0, q, A', c', Nat.zero_le _, rfl, Lib.hid (by rw [hq.out]; rfl), hown, k0, hB, hz⟩
        case round =>
          clear k0 hB hz hown hq
          obtain ⟨x, q, A', c', hx, rfl, hq, hown, k0, hB, hz⟩ := hrel
          obtain ⟨⟨d0, d1, d2, d3⟩, f0, f1, f2, f3⟩ := k0.cells
          by_cases hltx : x < n
          · have hii : (x : Int) < (n : Int) := by omega
            have hxn := Lib.hid hltx
            have hql : q < N := by rw [hq.out, ← hN.out, Nat.mul_comm n b]; exact row_lt hlt hltx
            have hcell := (hB.cell (p := ⟨bb, off + x, none⟩) hbw).trans (hc.out x hltx)
            obtain ⟨v, hv⟩ : ∃ v, nth R x = v := ⟨_, rfl⟩
            rw [hv] at hcell
            have hvr : 0 ≤ v ∧ v ≤ 255 := by
              have hxl : x < R.length := by rw [← hlen.out]; exact hltx
              rw [← hv, nth_eq hxl]; exact hR.out _ (List.getElem_mem _)
            obtain ⟨hv0, hv1⟩ := hvr
            have htab : Hid (cells (tab (q + 1) (strF R n)) = cells (tab q (strF R n)) ++ cells [v]) := Lib.hid (by
              rw [tab_succ, cells_append]
              have : strF R n q = v := by unfold strF; rw [hq.out, row_mod hxn.out, hv]
              rw [this])
            obtain ⟨i0, hi, hz00, hz01, hz02⟩ := info_parts infoI
            replace hv := Lib.hid hv
            go_wp2_with (at_builtin; refine wpList_append_own _ rfl _ _ 22 rfl (gB + 1) 3 i0 (.int .i64 0) 1 8 Try.underlying22 hi hz00 hz01 hz02 rfl (by decide) _ _ _ rfl (hown.alloc _) ⟨wr.heap.size, 0, none⟩ 1 1 (cells [v]) rfl rfl ?qc2 cells_one ?qc4 ?qc5 ?qc6 ?_)
            case qc2 =>
              intro j u hj
              rw [Addr.add_lit, Nat.zero_add, cell_of_row _ wr.heap.size j _ _ _ (heap_alloc_new wr _)]
              rw [← List.getElem?_toArray] at hj
              exact hj
            case qc4 => unfold maxLen; omega
            case qc5 => omega
            case qc6 => simp; omega
            intro v' w5 hown5 hgrow hnil
            have hlt4 := World.ownsRow.lt hown
            have hB5 : Below w.heap.size w w5 := (hB.alloc hB.size _).grown hgrow (by simp; omega) (fun q hq => by have := (hlt4 q hq).1; omega)
            have hk5 := ((k0.alloc _).grown' hgrow (fun e => by have := (hlt4 _ e).1; omega))
            have hz5 := hgrow.size
            simp only [World.size_alloc] at hz5
            obtain ⟨A5, c5, rfl⟩ := own_slI hown5
            have hlt5 := World.ownsRow.lt hown5
            clear d0 d1 d2 d3 f0 f1 f2 f3
            obtain ⟨⟨d0, d1, d2, d3⟩, f0, f1, f2, f3⟩ := hk5.cells
            replace hown5 := Lib.hid hown5
            replace hnil := Lib.hid hnil
            replace hgrow := Lib.hid hgrow
            go_wp2
            go_roundw
            case rel => exact ⟨x + 1, q + 1, A5, c5, hltx, by go_num, Lib.hid (by rw [hq.out]; omega), by rw [htab.out]; exact own_far hown5.out (fun q hq => by have := (hlt5 q hq).1; show q ≠ gB; omega) _, hk5.set3 _ _ _, hB5.setCell (by show w.heap.size ≤ gB; exact hwg) _, by rw [size_set]; omega⟩
            case measure => simp [intOf]; omega
          · obtain rfl : x = n := by omega
            have hii : ¬ (x : Int) < (x : Int) := by omega
            go_wp2
            go_roundw
            case rel => exact ⟨y + 1, q, A', c', hlt, by go_num, Lib.hid (by rw [hq.out, Nat.add_mul, Nat.one_mul]), hown, k0, hB, hz⟩
            case measure => simp [intOf]; omega
      · obtain rfl : y = b := by omega
        have hji : ¬ (y : Int) < (y : Int) := by omega
        have hqN : q = N := by rw [hq.out, ← hN.out, Nat.mul_comm]
        subst hqN
        have hsl := own_sl_int hown
        rw [hPt.out] at hsl
        obtain ⟨⟨d0, d1, d2, d3⟩, f0, f1, f2, f3⟩ := k0.cells
        go_wp2_with (first
          | (go_at_call 13; refine (c1.out _ _ _ hsl).mono ?_; rintro e w3 ⟨g, rfl, hg, hbl, hb3⟩; have k3 := k0.below hb3 hz; have hs3 := hsl.below hb3 (Nat.le_refl _); have hB3 := hB.trans (hb3.mono hB.size); clear d0 d1 d2 d3 f0 f1 f2 f3; obtain ⟨⟨d0, d1, d2, d3⟩, f0, f1, f2, f3⟩ := k3.cells)
          | (go_at_call 16; refine (c2.out _ _ _ hs3).mono ?_; rintro e w4 ⟨A4, c4, rfl, hcs4, hb4⟩; have k4 := k3.below hb4 k3.lt; replace hbl := hbl.below hb4 hbl.lt; have hB4 := hB3.trans (hb4.mono hB3.size); clear d0 d1 d2 d3 f0 f1 f2 f3; obtain ⟨⟨d0, d1, d2, d3⟩, f0, f1, f2, f3⟩ := k4.cells)
          | (go_at_call 31; refine (c3.out _ _ (hbl.sl0 hSl.out.symm (Nat.le_refl _) (by omega))).mono ?_; rintro e w5 ⟨rfl, hb5⟩))
        go_ret
        exact ⟨rfl, hB4.trans (hb5.mono hB4.size)⟩
  · have hbad : (n : Int) < 1 ∨ (1 : Int) ≤ n ∧ (14 : Int) < n := by omega
    have e2 : 0 ≤ z.tmod 14 ∧ z.tmod 14 ≤ 13 := by rw [Int.tmod_eq_emod_of_nonneg hz0]; omega
    replace h := Lib.hid h
    replace hR := Lib.hid hR
    replace hlen := Lib.hid hlen
    rcases hbad with p | ⟨p1, p⟩
    all_goals
      go_enter Try.func10, Try.ntmps10
      go_wp2_with (go_at_call 11; refine (known_any _).mono ?_; rintro e w1 ⟨rfl, hb1'⟩)
      go_ret
      exact ⟨rfl, hb1'⟩

end Go.Proofs.Ytnnaojaadjafbaa
