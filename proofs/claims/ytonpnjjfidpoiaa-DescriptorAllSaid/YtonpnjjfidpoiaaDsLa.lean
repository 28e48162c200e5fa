/-
  Walk: the law of all words.
-/
import Derived.Test.YtonpnjjfidpoiaaDsAll
import Derived.Test.YtonpnjjfidpoiaaDsEx
import Derived.Test.YtonpnjjfidpoiaaDsLw
set_option linter.unusedSimpArgs false
set_option linter.unusedVariables false
namespace Go.Proofs.Ytonpnjjfidpoiaa
open Go.RowKit

set_option maxRecDepth 100000 in
set_option maxHeartbeats 12800000 in
theorem all_many (W H : Int) (M : Int) (A : Option Addr) (n c : Nat) (P : List Int) (A2 : Option Addr) (n2 c2 : Nat) (l : List Tst) (w : World) (h : Sl w A n c P) (h2 : PS w A2 n2 c2 l) (hm : false = decide (n ≤ 600 ∧ n2 ≤ 70)) :
    Calls Try.prog 6 #[.agg #[.int .i64 W, .int .i64 H, .int .i64 M, .slice A n c], .slice A2 n2 c2] w fun e w' => e = .returned (.bool true) ∧ Below w.heap.size w w' := by
  have hcap := h.le_cap
  have hcl := h.cap_le
  have hcap2 := h2.le_cap
  have hcl2 := h2.cap_le
  have hs := Lib.hid (fun w' (hb : Below w.heap.size w w') => h.below hb (Nat.le_refl _))
  have hp := Lib.hid (fun w' (hb : Below w.heap.size w w') => h2.below hb (Nat.le_refl _))
  have hB0 := (Below.refl w.heap.size w).alloc (by first | exact Nat.le_refl _ | (simp <;> omega)) (.cells #[.int .i64 W, .int .i64 H, .int .i64 M, .slice A n c] 37)
  have k0 : KB _ _ _ _ := (KB.new w #[.int .i64 W, .int .i64 H, .int .i64 M, .slice A n c] 37)
  clear h h2
  replace hm := Lib.hid hm
  go_enter Try.func6, Try.ntmps6
  go_wp2_with (first
    | (go_at_call 11; refine (known_any _).mono ?_; rintro e w1 ⟨rfl, hb1⟩; (try simp only [World.size_alloc] at hb1); have z1 := hb1.size; (try simp only [World.size_alloc] at z1); replace k0 := k0.below hb1 (by omega); have hB1 := Below.trans hB0 (hb1.mono (by omega)); have k0_0 := k0.cell 0 rfl; have k0_1 := k0.cell 1 rfl; have k0_2 := k0.cell 2 rfl; have k0_3 := k0.cell 3 rfl)
    | (go_at_call 17; refine (few_any W H M A n c A2 n2 c2 _ (by omega) (by omega) hm.out).mono ?_; rintro e w2 ⟨rfl, hb2⟩; (try simp only [World.size_alloc] at hb2); have z2 := hb2.size; (try simp only [World.size_alloc] at z2); replace k0 := k0.below hb2 (by omega); have hB2 := Below.trans hB1 (hb2.mono (by omega)); clear k0_0 k0_1 k0_2 k0_3; have k0_0 := k0.cell 0 rfl; have k0_1 := k0.cell 1 rfl; have k0_2 := k0.cell 2 rfl; have k0_3 := k0.cell 3 rfl))
  go_ret
  exact ⟨rfl, hB2⟩

set_option maxRecDepth 100000 in
set_option maxHeartbeats 12800000 in
theorem all_bad (W H : Int) (M : Int) (A : Option Addr) (n c : Nat) (P : List Int) (A2 : Option Addr) (n2 c2 : Nat) (l : List Tst) (w : World) (h : Sl w A n c P) (h2 : PS w A2 n2 c2 l) (hm : true = decide (n ≤ 600 ∧ n2 ≤ 70)) (hr : rcode W H M P l = 1) :
    Calls Try.prog 6 #[.agg #[.int .i64 W, .int .i64 H, .int .i64 M, .slice A n c], .slice A2 n2 c2] w fun e w' => e = .returned (.bool true) ∧ Below w.heap.size w w' := by
  have hcap := h.le_cap
  have hcl := h.cap_le
  have hcap2 := h2.le_cap
  have hcl2 := h2.cap_le
  have hs := Lib.hid (fun w' (hb : Below w.heap.size w w') => h.below hb (Nat.le_refl _))
  have hp := Lib.hid (fun w' (hb : Below w.heap.size w w') => h2.below hb (Nat.le_refl _))
  have hB0 := (Below.refl w.heap.size w).alloc (by first | exact Nat.le_refl _ | (simp <;> omega)) (.cells #[.int .i64 W, .int .i64 H, .int .i64 M, .slice A n c] 37)
  have k0 : KB _ _ _ _ := (KB.new w #[.int .i64 W, .int .i64 H, .int .i64 M, .slice A n c] 37)
  clear h h2
  replace hm := Lib.hid hm
  replace hr := Lib.hid hr
  go_enter Try.func6, Try.ntmps6
  go_wp2_with (first
    | (go_at_call 11; refine (known_any _).mono ?_; rintro e w1 ⟨rfl, hb1⟩; (try simp only [World.size_alloc] at hb1); have z1 := hb1.size; (try simp only [World.size_alloc] at z1); replace k0 := k0.below hb1 (by omega); have hB1 := Below.trans hB0 (hb1.mono (by omega)); have k0_0 := k0.cell 0 rfl; have k0_1 := k0.cell 1 rfl; have k0_2 := k0.cell 2 rfl; have k0_3 := k0.cell 3 rfl)
    | (go_at_call 17; refine (few_any W H M A n c A2 n2 c2 _ (by omega) (by omega) hm.out).mono ?_; rintro e w2 ⟨rfl, hb2⟩; (try simp only [World.size_alloc] at hb2); have z2 := hb2.size; (try simp only [World.size_alloc] at z2); replace k0 := k0.below hb2 (by omega); have hB2 := Below.trans hB1 (hb2.mono (by omega)); clear k0_0 k0_1 k0_2 k0_3; have k0_0 := k0.cell 0 rfl; have k0_1 := k0.cell 1 rfl; have k0_2 := k0.cell 2 rfl; have k0_3 := k0.cell 3 rfl)
    | (go_at_call 22; refine (All_bad W H M A n c P A2 n2 c2 l _ (hs.out _ hB2) (hp.out _ hB2) hr.out).mono ?_; rintro e w3 ⟨rfl, hb3⟩; (try simp only [World.size_alloc] at hb3); have z3 := hb3.size; (try simp only [World.size_alloc] at z3); replace k0 := k0.below hb3 (by omega); have hB3 := Below.trans hB2 (hb3.mono (by omega)); clear k0_0 k0_1 k0_2 k0_3; have k0_0 := k0.cell 0 rfl; have k0_1 := k0.cell 1 rfl; have k0_2 := k0.cell 2 rfl; have k0_3 := k0.cell 3 rfl)
    | (go_at_call 19; refine (code_at (hs.out _ hB3) (hp.out _ hB3) hr.out).mono ?_; rintro e w4 ⟨rfl, hb4⟩; (try simp only [World.size_alloc] at hb4); have z4 := hb4.size; (try simp only [World.size_alloc] at z4); replace k0 := k0.below hb4 (by omega); have hB4 := Below.trans hB3 (hb4.mono (by omega)); clear k0_0 k0_1 k0_2 k0_3; have k0_0 := k0.cell 0 rfl; have k0_1 := k0.cell 1 rfl; have k0_2 := k0.cell 2 rfl; have k0_3 := k0.cell 3 rfl))
  go_ret
  exact ⟨rfl, hB4⟩

set_option maxRecDepth 100000 in
set_option maxHeartbeats 12800000 in
theorem all_ok (a b : Nat) (M : Int) (A : Option Addr) (n c : Nat) (P : List Int) (A2 : Option Addr) (n2 c2 : Nat) (l : List Tst) (w : World) (h : Sl w A n c P) (h2 : PS w A2 n2 c2 l) (hm : true = decide (n ≤ 600 ∧ n2 ≤ 70)) (hr : Ras a b M P) (hl : pat l = true) :
    Calls Try.prog 6 #[.agg #[.int .i64 a, .int .i64 b, .int .i64 M, .slice A n c], .slice A2 n2 c2] w fun e w' => e = .returned (.bool true) ∧ Below w.heap.size w w' := by
  have hcap := h.le_cap
  have hcl := h.cap_le
  have hcap2 := h2.le_cap
  have hcl2 := h2.cap_le
  have hs := Lib.hid (fun w' (hb : Below w.heap.size w w') => h.below hb (Nat.le_refl _))
  have hp := Lib.hid (fun w' (hb : Below w.heap.size w w') => h2.below hb (Nat.le_refl _))
  have hB0 := (Below.refl w.heap.size w).alloc (by first | exact Nat.le_refl _ | (simp <;> omega)) (.cells #[.int .i64 a, .int .i64 b, .int .i64 M, .slice A n c] 37)
  have k0 : KB _ _ _ _ := (KB.new w #[.int .i64 a, .int .i64 b, .int .i64 M, .slice A n c] 37)
  have hc := Lib.hid (rcode_ok hr hl)
  obtain ⟨a', b', ea, eb, ⟨ha1, ha2⟩, ⟨hb1', hb2'⟩, ⟨hM1, hM2⟩, hab, hl1, hl2⟩ := hr.nat
  obtain rfl : a = a' := by omega
  obtain rfl : b = b' := by omega
  have hP := Lib.hid hr.2.2
  have hwd := Lib.hid (fun I => wds_words (P := P) (a := a) (I := I) hl)
  replace hm := Lib.hid hm
  replace hr := Lib.hid hr
  replace hl := Lib.hid hl
  clear h h2 hab hl1 hl2 ea eb
  obtain ⟨i0, hi, hz0, hz1, hz2⟩ := info_parts infoPx
  obtain ⟨j0, hj, hy0, hy1, hy2⟩ := info_parts infoU
  obtain ⟨NF, hNF⟩ : ∃ N, (gotI a b l (b * a)).length = N := ⟨_, rfl⟩
  have hNF4 : NF ≤ 4096 := by
    have h1 := gotI_length a b l (b * a)
    have h3 : b * a ≤ 64 * 64 := Nat.mul_le_mul hb2' ha2
    omega
  replace hNF := Lib.hid hNF
  go_enter Try.func6, Try.ntmps6
  go_wp2_with (first
    | (go_at_call 11; refine (known_any _).mono ?_; rintro e w1 ⟨rfl, hb1⟩; (try simp only [World.size_alloc] at hb1); have z1 := hb1.size; (try simp only [World.size_alloc] at z1); replace k0 := k0.below hb1 (by omega); have hB1 := Below.trans hB0 (hb1.mono (by omega)); have k0_0 := k0.cell 0 rfl; have k0_1 := k0.cell 1 rfl; have k0_2 := k0.cell 2 rfl; have k0_3 := k0.cell 3 rfl)
    | (go_at_call 17; refine (few_any a b M A n c A2 n2 c2 _ (by omega) (by omega) hm.out).mono ?_; rintro e w2 ⟨rfl, hb2⟩; (try simp only [World.size_alloc] at hb2); have z2 := hb2.size; (try simp only [World.size_alloc] at z2); replace k0 := k0.below hb2 (by omega); have hB2 := Below.trans hB1 (hb2.mono (by omega)); clear k0_0 k0_1 k0_2 k0_3; have k0_0 := k0.cell 0 rfl; have k0_1 := k0.cell 1 rfl; have k0_2 := k0.cell 2 rfl; have k0_3 := k0.cell 3 rfl)
    | (go_at_call 22; refine (All_ok a b M A n c P A2 n2 c2 l _ (hs.out _ hB2) (hp.out _ hB2) hr.out hl.out).mono ?_; rintro e w3 ⟨⟨Ax, Au, cx, cu, rfl, hxs, hus⟩, hb3⟩; (try simp only [World.size_alloc] at hb3); have z3 := hb3.size; (try simp only [World.size_alloc] at z3); replace k0 := k0.below hb3 (by omega); have hB3 := Below.trans hB2 (hb3.mono (by omega)); clear k0_0 k0_1 k0_2 k0_3; have k0_0 := k0.cell 0 rfl; have k0_1 := k0.cell 1 rfl; have k0_2 := k0.cell 2 rfl; have k0_3 := k0.cell 3 rfl; rw [hNF.out]; rw [hNF.out] at hxs hus; replace hxs := Lib.hid hxs; replace hus := Lib.hid hus)
    | (go_at_call 19; refine (code_at (hs.out _ hB3) (hp.out _ hB3) hc.out).mono ?_; rintro e w4 ⟨rfl, hb4⟩; (try simp only [World.size_alloc] at hb4); have z4 := hb4.size; (try simp only [World.size_alloc] at z4); replace k0 := k0.below hb4 (by omega); have hB4 := Below.trans hB3 (hb4.mono (by omega)); clear k0_0 k0_1 k0_2 k0_3; have k0_0 := k0.cell 0 rfl; have k0_1 := k0.cell 1 rfl; have k0_2 := k0.cell 2 rfl; have k0_3 := k0.cell 3 rfl; replace hxs := Lib.hid (SR.below hxs.out hb4 (Nat.le_refl _)); replace hus := Lib.hid (hus.out.below hb4 (Nat.le_refl _))))
  clear k0_0 k0_2 k0_3
  have k3' := Lib.hid (fun w' (hb : Below w4.heap.size w4 w') => k0.below hb (by omega))
  have hxs' := Lib.hid (fun w' (hb : Below w4.heap.size w4 w') => SR.below hxs.out hb (Nat.le_refl _))
  have hus' := Lib.hid (fun w' (hb : Below w4.heap.size w4 w') => hus.out.below hb (Nat.le_refl _))
  clear hxs hus k0
  go_loopw [9, 10, 46] (fun v8 v9 i wr => ∃ y : Nat, y ≤ b ∧ i = .int .i64 (y : Int) ∧ TR w4.heap.size wr v8 v9 (plc a (gotI a b l (y * a))) (wds P a l (gotI a b l (y * a))) (gotI a b l (y * a)).length ∧ Below w4.heap.size w4 wr) (fun _ _ i _ => b - (intOf i).toNat)
  case atStart => exact ⟨0, Nat.zero_le _, rfl, by rw [Nat.zero_mul]; exact TR.nil _ _, Below.refl _ _⟩
  case round =>
    clear k0_1
    obtain ⟨y, hy, rfl, htr, hBr⟩ := hrel
    obtain ⟨w5, rfl⟩ : ∃ w5, w5 = wr := ⟨_, rfl⟩
    have kk := k3'.out _ hBr
    have e0 := kk.cell 0 rfl
    have e1 := kk.cell 1 rfl
    by_cases hlt : y < b
    · have hlt' : (y : Int) < (b : Int) := by omega
      replace htr := Lib.hid htr
      go_wp2
      go_loopw [9, 10, 51] (fun v8 v9 i wr => ∃ x : Nat, x ≤ a ∧ i = .int .i64 (x : Int) ∧ TR w4.heap.size wr v8 v9 (plc a (gotI a b l (y * a + x))) (wds P a l (gotI a b l (y * a + x))) (gotI a b l (y * a + x)).length ∧ Below w4.heap.size w4 wr) (fun _ _ i _ => a - (intOf i).toNat)
      case atStart => exact ⟨0, Nat.zero_le _, rfl, htr.out, hBr⟩
      case round =>
        clear e0 e1 kk htr hBr
        obtain ⟨x, hx, rfl, htr, hBr⟩ := hrel
        have kk := k3'.out _ hBr
        have e0 := kk.cell 0 rfl
        have e1 := kk.cell 1 rfl
        have e2 := kk.cell 2 rfl
        have e3 := kk.cell 3 rfl
        obtain ⟨t, htt⟩ : ∃ t, y * a + x = t := ⟨_, rfl⟩
        obtain ⟨I, hI⟩ : ∃ I, gotI a b l t = I := ⟨_, rfl⟩
        have hIl : I.length ≤ t := by rw [← hI]; exact gotI_length a b l t
        have ht5 : y * a + x ≤ 4096 := by
          have h1 : y * a ≤ 64 * 64 := Nat.mul_le_mul (by omega) ha2
          have h2 : (y + 1) * a ≤ b * a := Nat.mul_le_mul_right a (by omega)
          have h3 : b * a ≤ 64 * 64 := Nat.mul_le_mul hb2' ha2
          rw [Nat.add_mul] at h2
          omega
        obtain ⟨N, hN⟩ : ∃ N, I.length = N := ⟨_, rfl⟩
        have hN4 : N ≤ 4096 := by omega
        by_cases hltx : x < a
        · have hltx' : (x : Int) < (a : Int) := by omega
          have hrow := okAt_row (b := b) (p := l) (y := y) hltx
          have hpl := plc_one (y := y) hltx
          have hwo := wds_one (P := P) (p := l) (y := y) hltx
          rw [htt, hI] at htr
          rw [htt] at hrow hpl hwo
          rw [hN] at htr
          replace hN := Lib.hid hN
          replace hI := Lib.hid hI
          obtain ⟨ok, hok⟩ : ∃ ok, pfit a b l (x : Int) (y : Int) = ok := ⟨_, rfl⟩
          rw [hok] at hrow
          have hX : 0 ≤ (x : Int) ∧ (x : Int) < 64 := by omega
          have hY : 0 ≤ (y : Int) ∧ (y : Int) < 64 := by omega
          replace htt := Lib.hid htt
          have hnext : Hid (y * a + (x + 1) = t + 1) := Lib.hid (by rw [← htt.out]; omega)
          have hBw := hB4.trans (hBr.mono hB4.size)
          cases ok
          · have hwc := Lib.hid (lword_at a b M A n c P A2 n2 c2 l (R := .tuple #[.int .u64 0, .bool false]) (hs.out _ hBw) hr.out (hp.out _ hBw) hl.out hX hY (fun e => absurd e (by rw [hok]; decide)) (fun _ => rfl))
            have hg := Lib.hid (gotI_no hrow)
            replace htr := Lib.hid htr
            replace hok := Lib.hid hok
            clear hrow hpl hwo
            go_wp2_with (go_at_call 21; refine hwc.out.mono ?_; rintro e w6 ⟨rfl, hb6⟩)
            go_roundw
            case rel => exact ⟨x + 1, hltx, by go_num, by rw [hnext.out, hg.out, hI.out, hN.out]; exact htr.out.bel hb6, hBr.trans (hb6.mono hBr.size)⟩
            case measure => simp [intOf]; omega
          · obtain ⟨u, hu⟩ : ∃ u, wordOf P a l (x : Int) (y : Int) = u := ⟨_, rfl⟩
            rw [hu] at hwo
            have hwc := Lib.hid (lword_at a b M A n c P A2 n2 c2 l (R := .tuple #[.int .u64 (u : Int), .bool true]) (hs.out _ hBw) hr.out (hp.out _ hBw) hl.out hX hY (fun _ => by rw [hu]) (fun e => absurd e (by rw [hok]; decide)))
            have hg := Lib.hid (gotI_yes hrow)
            obtain ⟨L, hL⟩ : ∃ L, plc a I = L := ⟨_, rfl⟩
            obtain ⟨U, hU⟩ : ∃ U, wds P a l I = U := ⟨_, rfl⟩
            rw [hL, hU] at htr
            obtain ⟨A8, c8, rfl, -, -, -⟩ := own_form htr.o8
            obtain ⟨A9, c9, rfl, -, -, -⟩ := own_form htr.o9
            have hfin : Hid (plc a (gotI a b l (t + 1)) = L ++ [((x : Int), (y : Int))] ∧ wds P a l (gotI a b l (t + 1)) = U ++ [u] ∧ (gotI a b l (t + 1)).length = N + 1) := Lib.hid (by
              rw [hg.out, plc_append, wds_append, hI.out, hL, hU, hpl, hwo, List.length_append, hN.out]
              exact ⟨rfl, rfl, rfl⟩)
            have htr' := Lib.hid htr
            have hlt8 := fun q hq => (htr.o8.lt q hq).1
            have hlt9 := fun q hq => (htr.o9.lt q hq).1
            replace hlt8 := Lib.hid hlt8
            replace hlt9 := Lib.hid hlt9
            replace hok := Lib.hid hok
            replace hu := Lib.hid hu
            replace hL := Lib.hid hL
            replace hU := Lib.hid hU
            clear hrow hpl hwo htr
            go_wp2_with (first
              | (go_at_call 21; refine hwc.out.mono ?_; rintro e w6 ⟨rfl, hb6⟩)
              | (at_builtin; refine wpList_append_own_at _ rfl _ _ 47 rfl w4.heap.size 52 i0 (.agg #[.int .i64 0, .int .i64 0]) 2 16 Try.underlying47 hi hz0 hz1 hz2 rfl (by decide) _ _ _ rfl ((htr'.out.bel hb6).alloc _).o8 ⟨w6.heap.size, 0, none⟩ 1 1 (xcells [((x : Int), (y : Int))]) rfl rfl ?qc2 (xcells_one _) ?qc4 ?qc5 ?qc6 ?_))
            case qc2 =>
              intro j u hj
              rw [Addr.add_lit, Nat.zero_add, cell_of_row _ w6.heap.size j _ _ _ (heap_alloc_new w6 _)]
              rw [← List.getElem?_toArray] at hj
              exact hj
            case qc4 => unfold maxLen; omega
            case qc5 => omega
            case qc6 => have := hBr.size; have := hb6.size; simp; omega
            intro v' w7 hown7 hgrow7 hnil7 hv7
            obtain ⟨h8, h9, hne⟩ := ((htr'.out.bel hb6).alloc _).left hown7 hgrow7 (by rw [World.size_alloc]; exact hv7)
            have hz6 := hb6.size
            have hzr := hBr.size
            have hB6 := hBr.trans (hb6.mono hBr.size)
            have hB7 := (hB6.alloc hB6.size _).grown hgrow7 (by simp; omega) (fun q hq => hlt8.out q hq)
            have hz7 := hB7.size
            clear hgrow7 hnil7 hown7 hv7
            have h9a := World.ownsRow.alloc h9 (.cells #[.int .u64 (u : Int)] 31)
            have h8a := World.ownsRow.alloc h8 (.cells #[.int .u64 (u : Int)] 31)
            go_wp2_with (at_builtin; refine wpList_append_own_at _ rfl _ _ 48 rfl w4.heap.size 31 j0 (.int .u64 0) 1 8 Try.underlying48 hj hy0 hy1 hy2 rfl (by decide) _ _ _ rfl h9a ⟨w7.heap.size, 0, none⟩ 1 1 (ucells [u]) rfl rfl ?qd2 (ucells_one _) ?qd4 ?qd5 ?qd6 ?_)
            case qd2 => exact cell_one_new _ _ _
            case qd4 => unfold maxLen; omega
            case qd5 => omega
            case qd6 => simp; omega
            intro v2' w8 hown8 hgrow8 hnil8 hv8
            have htr8 := TR.right h8a h9a hne rfl hown8 hgrow8 (by rw [World.size_alloc]; exact hv8)
            have hB8 := (hB7.alloc hB7.size _).grown hgrow8 (by simp; omega) (fun q hq => hlt9.out q hq)
            clear hgrow8 hnil8 hown8 hv8 h8 h9 h9a h8a
            replace htr8 := Lib.hid htr8
            go_wp2
            go_roundw
            case rel => exact ⟨x + 1, hltx, by go_num, by rw [hnext.out, hfin.out.1, hfin.out.2.1, hfin.out.2.2]; exact htr8.out, hB8⟩
            case measure => simp [intOf]; omega
        · obtain rfl : x = a := by omega
          have hnext : Hid ((y + 1) * x = y * x + x) := Lib.hid (by rw [Nat.add_mul, Nat.one_mul])
          replace htr := Lib.hid htr
          replace hI := Lib.hid hI
          replace hN := Lib.hid hN
          replace htt := Lib.hid htt
          go_wp2
          go_roundw
          case rel => exact ⟨y + 1, hlt, by go_num, by rw [hnext.out]; exact htr.out, hBr⟩
          case measure => simp [intOf]; omega
    · obtain rfl : y = b := by omega
      rw [hNF.out] at htr
      obtain ⟨A8, c8, rfl, s8, -, -⟩ := own_form htr.o8
      obtain ⟨A9, c9, rfl, s9, -, -⟩ := own_form htr.o9
      have hxr := Lib.hid (xEqual_at (hxs'.out _ hBr) s8 (r := true) (decide_eq_true rfl))
      have hws : WS w5 A9 NF c9 (wds P a l (gotI a y l (y * a))) := ⟨s9, hwd.out _⟩
      replace hws := Lib.hid hws
      clear s8 s9 htr
      go_wp2_with (first | (go_at_call 23; refine hxr.out.mono ?_; rintro e w9 ⟨rfl, hb9⟩) | (go_at_call 24; refine (uEqual_at ((hus'.out _ hBr).below hb9 (Nat.le_refl _)) (hws.out.below hb9 (Nat.le_refl _)) (r := true) (decide_eq_true rfl)).mono ?_; rintro e w10 ⟨rfl, hb10⟩))
      go_ret
      have hz9 := hb9.size
      have hzr := hBr.size
      have hz4 := hB4.size
      exact ⟨rfl, ((hB4.trans (hBr.mono hB4.size)).trans (hb9.mono (by omega))).trans (hb10.mono (by omega))⟩

theorem lawAll_any (W H M : Int) (A : Option Addr) (n c : Nat) (P : List Int) (A2 : Option Addr) (n2 c2 : Nat) (l : List Tst) (w : World) (h : Sl w A n c P) (h2 : PS w A2 n2 c2 l) :
    Calls Try.prog 6 #[.agg #[.int .i64 W, .int .i64 H, .int .i64 M, .slice A n c], .slice A2 n2 c2] w fun e w' => e = .returned (.bool true) ∧ Below w.heap.size w w' := by
  cases hm : decide (n ≤ 600 ∧ n2 ≤ 70)
  · exact all_many W H M A n c P A2 n2 c2 l w h h2 hm.symm
  by_cases hr : Ras W H M P
  · cases hl : pat l
    · exact all_bad W H M A n c P A2 n2 c2 l w h h2 hm.symm (rcode_pat hl)
    · obtain ⟨a, b, rfl, rfl, -⟩ := hr.nat
      exact all_ok a b M A n c P A2 n2 c2 l w h h2 hm.symm hr hl
  · exact all_bad W H M A n c P A2 n2 c2 l w h h2 hm.symm (rcode_ras hr)

end Go.Proofs.Ytonpnjjfidpoiaa
