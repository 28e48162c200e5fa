/-
  Walks: All of package descriptor.
-/
import Derived.Test.YtonpnjjfidpoiaaDsRows
set_option linter.unusedSimpArgs false
set_option linter.unusedVariables false
namespace Go.Proofs.Ytonpnjjfidpoiaa
open Go.RowKit

theorem All_bad (W H M : Int) (A : Option Addr) (n c : Nat) (P : List Int) (A2 : Option Addr) (n2 c2 : Nat) (l : List Tst) (w : World) (h : Sl w A n c P) (h2 : PS w A2 n2 c2 l) (hr : rcode W H M P l = 1) :
    Calls Try.prog 22 #[.agg #[.int .i64 W, .int .i64 H, .int .i64 M, .slice A n c], .slice A2 n2 c2] w fun e w' => e = .returned (.tuple #[.slice none 0 0, .slice none 0 0, .int .i64 1]) ∧ Below w.heap.size w w' := by
  have hB := (Below.refl w.heap.size w).alloc (Nat.le_refl _) (.cells #[.int .i64 W, .int .i64 H, .int .i64 M, .slice A n c] 37)
  have hck := checked_any W H M A n c P A2 n2 c2 l _ (h.alloc (.cells #[.int .i64 W, .int .i64 H, .int .i64 M, .slice A n c] 37)) (h2.alloc (.cells #[.int .i64 W, .int .i64 H, .int .i64 M, .slice A n c] 37))
  rw [hr] at hck
  replace hck := Lib.hid hck
  clear h h2 hr
  go_enter Try.func22, Try.ntmps22
  go_wp2_with (go_at_call 40; refine hck.out.mono ?_; rintro e w1 ⟨rfl, hb1⟩; simp only [World.size_alloc] at hb1)
  exact bodyPost_ret (v := .tuple #[.slice none 0 0, .slice none 0 0, .int .i64 1]) (by simp [results, Try.results22, go_sem]) rfl ⟨rfl, hB.trans (hb1.mono (by omega))⟩

/-- The places and the words. -/
def RetA (w : World) (a b : Nat) (P : List Int) (l : List Tst) (t : Nat) (e : Ending) (w' : World) : Prop :=
  (∃ (A8 A9 : Option Addr) (c8 c9 : Nat), e = .returned (.tuple #[.slice A8 (gotI a b l t).length c8, .slice A9 (gotI a b l t).length c9, .int .i64 0]) ∧ SR w' A8 (gotI a b l t).length c8 2 (xcells (plc a (gotI a b l t))) ∧ WS w' A9 (gotI a b l t).length c9 (wds P a l (gotI a b l t))) ∧ Below w.heap.size w w'

set_option maxRecDepth 100000 in
set_option maxHeartbeats 12800000 in
theorem All_ok (a b : Nat) (M : Int) (A : Option Addr) (n c : Nat) (P : List Int) (A2 : Option Addr) (n2 c2 : Nat) (l : List Tst) (w : World) (h : Sl w A n c P) (h2 : PS w A2 n2 c2 l) (hr : Ras a b M P) (hp : pat l = true) :
    Calls Try.prog 22 #[.agg #[.int .i64 a, .int .i64 b, .int .i64 M, .slice A n c], .slice A2 n2 c2] w (RetA w a b P l (b * a)) := by
  have hB := (Below.refl w.heap.size w).alloc (Nat.le_refl _) (.cells #[.int .i64 a, .int .i64 b, .int .i64 M, .slice A n c] 37)
  have k0 : KB _ _ _ _ := KB.new w #[.int .i64 a, .int .i64 b, .int .i64 M, .slice A n c] 37
  have hs := Lib.hid (h.alloc (.cells #[.int .i64 a, .int .i64 b, .int .i64 M, .slice A n c] 37))
  have ht := Lib.hid (h2.alloc (.cells #[.int .i64 a, .int .i64 b, .int .i64 M, .slice A n c] 37))
  have hck := checked_any a b M A n c P A2 n2 c2 l _ hs.out ht.out
  rw [rcode_ok hr hp] at hck
  replace hck := Lib.hid hck
  obtain ⟨a', b', ea, eb, ⟨ha1, ha2⟩, ⟨hb1', hb2'⟩, ⟨hM1, hM2⟩, hab, hl1, hl2⟩ := hr.nat
  obtain rfl : a = a' := by omega
  obtain rfl : b = b' := by omega
  have hP := Lib.hid hr.2.2
  replace hr := Lib.hid hr
  have hwd := Lib.hid (fun I => wds_words (P := P) (a := a) (I := I) hp)
  replace hp := Lib.hid hp
  clear h h2 hab hl1 hl2 ea eb
  obtain ⟨i0, hi, hz0, hz1, hz2⟩ := info_parts infoPx
  obtain ⟨j0, hj, hy0, hy1, hy2⟩ := info_parts infoU
  go_enter Try.func22, Try.ntmps22
  go_wp2_with (first | (go_at_call 40; refine hck.out.mono ?_; rintro e w1 ⟨rfl, hb1⟩; simp only [World.size_alloc] at hb1; have zz1 := hb1.size; (try simp only [World.size_alloc] at zz1); have k1 := k0.below hb1 (by omega); replace hs := Lib.hid (hs.out.below hb1 (by simp)); replace ht := Lib.hid (ht.out.below hb1 (by simp)); have c0 := k1.cell 0 rfl; have c1 := k1.cell 1 rfl; have c2 := k1.cell 2 rfl; have c3 := k1.cell 3 rfl) | (go_at_call 42; refine (sumsOf_any a b M A n c P _ hs.out hr.out).mono ?_; rintro e w3 ⟨T, rfl, hT, hb3⟩; have zz3 := hb3.size; have k3 := k1.below hb3 (by omega); replace ht := Lib.hid (ht.out.below hb3 (Nat.le_refl _)); clear c0 c1 c2 c3; have hB3 := (hB.trans (hb1.mono (by omega))).trans (hb3.mono (by omega)); have d0 := k3.cell 0 rfl; have d1 := k3.cell 1 rfl; have d2 := k3.cell 2 rfl; have d3 := k3.cell 3 rfl))
  clear hs hck
  have hT' := Lib.hid (fun w' (hb : Below w3.heap.size w3 w') => hT.below hb)
  have k3' := Lib.hid (fun w' (hb : Below w3.heap.size w3 w') => k3.below hb (by omega))
  have ht' := Lib.hid (fun w' (hb : Below w3.heap.size w3 w') => ht.out.below hb (Nat.le_refl _))
  clear hT ht d0 d2 d3 k0 k1 hb1 hb3
  go_loopw [8, 9, 25] (fun v8 v9 i wr => ∃ y : Nat, y ≤ b ∧ i = .int .i64 (y : Int) ∧ TR w3.heap.size wr v8 v9 (plc a (gotI a b l (y * a))) (wds P a l (gotI a b l (y * a))) (gotI a b l (y * a)).length ∧ Below w3.heap.size w3 wr) (fun _ _ i _ => b - (intOf i).toNat)
  case atStart => exact ⟨0, Nat.zero_le _, rfl, by rw [Nat.zero_mul]; exact TR.nil _ _, Below.refl _ _⟩
  case round =>
    clear d1 k3
    obtain ⟨y, hy, rfl, htr, hBr⟩ := hrel
    obtain ⟨w5, rfl⟩ : ∃ w5, w5 = wr := ⟨_, rfl⟩
    have kk := k3'.out _ hBr
    have e0 := kk.cell 0 rfl
    have e1 := kk.cell 1 rfl
    by_cases hlt : y < b
    · have hlt' : (y : Int) < (b : Int) := by omega
      replace htr := Lib.hid htr
      go_wp2
      go_loopw [8, 9, 30] (fun v8 v9 i wr => ∃ x : Nat, x ≤ a ∧ i = .int .i64 (x : Int) ∧ TR w3.heap.size wr v8 v9 (plc a (gotI a b l (y * a + x))) (wds P a l (gotI a b l (y * a + x))) (gotI a b l (y * a + x)).length ∧ Below w3.heap.size w3 wr) (fun _ _ i _ => a - (intOf i).toNat)
      case atStart => exact ⟨0, Nat.zero_le _, rfl, htr.out, hBr⟩
      case round =>
        clear e0 e1 kk htr hBr
        rename_i v8' v9' _
        obtain ⟨x, hx, rfl, htr, hBr⟩ := hrel
        have kk := k3'.out _ hBr
        have e0 := kk.cell 0 rfl
        have e1 := kk.cell 1 rfl
        obtain ⟨t, htt⟩ : ∃ t, y * a + x = t := ⟨_, rfl⟩
        obtain ⟨I, hI⟩ : ∃ I, gotI a b l t = I := ⟨_, rfl⟩
        have hIl : I.length ≤ t := by rw [← hI]; exact gotI_length a b l t
        have ht5 : y * a + x ≤ 4096 := by
          have h1 : y * a ≤ 64 * 64 := Nat.mul_le_mul (by omega) ha2
          have h2 : (y + 1) * a ≤ b * a := Nat.mul_le_mul_right a (by omega)
          have h3 : b * a ≤ 64 * 64 := Nat.mul_le_mul hb2' ha2
          rw [Nat.add_mul] at h2
          omega
        obtain ⟨N, hN⟩ : ∃ N, I.length = N := ⟨_, rfl⟩
        have hN4 : N ≤ 4096 := by omega
        by_cases hltx : x < a
        · have hltx' : (x : Int) < (a : Int) := by omega
          have hrow := okAt_row (b := b) (p := l) (y := y) hltx
          have hpl := plc_one (y := y) hltx
          have hwo := wds_one (P := P) (p := l) (y := y) hltx
          rw [htt, hI] at htr
          rw [htt] at hrow hpl hwo
          rw [hN] at htr
          replace hN := Lib.hid hN
          replace hI := Lib.hid hI
          obtain ⟨ok, hok⟩ : ∃ ok, pfit a b l (x : Int) (y : Int) = ok := ⟨_, rfl⟩
          rw [hok] at hrow
          have hX : 0 ≤ (x : Int) ∧ (x : Int) < 64 := by omega
          have hY : 0 ≤ (y : Int) ∧ (y : Int) < 64 := by omega
          replace htt := Lib.hid htt
          have hnext : Hid (y * a + (x + 1) = t + 1) := Lib.hid (by rw [← htt.out]; omega)
          cases ok
          · have hwc := Lib.hid (sword_at T a b P M A2 n2 c2 l (R := .tuple #[.int .u64 0, .int .i64 15]) ha2 hb2' ⟨by omega, hM2⟩ hP.out (hT'.out _ hBr) (ht'.out _ hBr) hp.out hX hY (fun e => absurd e (by rw [hok]; decide)) (fun _ => rfl))
            have hg := Lib.hid (gotI_no hrow)
            replace htr := Lib.hid htr
            replace hok := Lib.hid hok
            clear hrow hpl hwo
            go_wp2_with (go_at_call 43; refine hwc.out.mono ?_; rintro e w6 ⟨rfl, hb6⟩)
            go_roundw
            case rel => exact ⟨x + 1, hltx, by go_num, by rw [hnext.out, hg.out, hI.out, hN.out]; exact htr.out.bel hb6, hBr.trans (hb6.mono hBr.size)⟩
            case measure => simp [intOf]; omega
          · obtain ⟨u, hu⟩ : ∃ u, wordOf P a l (x : Int) (y : Int) = u := ⟨_, rfl⟩
            rw [hu] at hwo
            have hwc := Lib.hid (sword_at T a b P M A2 n2 c2 l (R := .tuple #[.int .u64 (u : Int), .int .i64 0]) ha2 hb2' ⟨by omega, hM2⟩ hP.out (hT'.out _ hBr) (ht'.out _ hBr) hp.out hX hY (fun _ => by rw [hu]) (fun e => absurd e (by rw [hok]; decide)))
            have hg := Lib.hid (gotI_yes hrow)
            obtain ⟨L, hL⟩ : ∃ L, plc a I = L := ⟨_, rfl⟩
            obtain ⟨U, hU⟩ : ∃ U, wds P a l I = U := ⟨_, rfl⟩
            rw [hL, hU] at htr
            obtain ⟨A8, c8, rfl, -, -, -⟩ := own_form htr.o8
            obtain ⟨A9, c9, rfl, -, -, -⟩ := own_form htr.o9
            have hfin : Hid (plc a (gotI a b l (t + 1)) = L ++ [((x : Int), (y : Int))] ∧ wds P a l (gotI a b l (t + 1)) = U ++ [u] ∧ (gotI a b l (t + 1)).length = N + 1) := Lib.hid (by
              rw [hg.out, plc_append, wds_append, hI.out, hL, hU, hpl, hwo, List.length_append, hN.out]
              exact ⟨rfl, rfl, rfl⟩)
            have htr' := Lib.hid htr
            have hlt8 := fun q hq => (htr.o8.lt q hq).1
            have hlt9 := fun q hq => (htr.o9.lt q hq).1
            replace hlt8 := Lib.hid hlt8
            replace hlt9 := Lib.hid hlt9
            replace hok := Lib.hid hok
            replace hu := Lib.hid hu
            replace hL := Lib.hid hL
            replace hU := Lib.hid hU
            clear hrow hpl hwo htr
            go_wp2_with (first
              | (go_at_call 43; refine hwc.out.mono ?_; rintro e w6 ⟨rfl, hb6⟩)
              | (at_builtin; refine wpList_append_own_at _ rfl _ _ 47 rfl w3.heap.size 52 i0 (.agg #[.int .i64 0, .int .i64 0]) 2 16 Try.underlying47 hi hz0 hz1 hz2 rfl (by decide) _ _ _ rfl ((htr'.out.bel hb6).alloc _).o8 ⟨w6.heap.size, 0, none⟩ 1 1 (xcells [((x : Int), (y : Int))]) rfl rfl ?qc2 (xcells_one _) ?qc4 ?qc5 ?qc6 ?_))
            case qc2 =>
              intro j u hj
              rw [Addr.add_lit, Nat.zero_add, cell_of_row _ w6.heap.size j _ _ _ (heap_alloc_new w6 _)]
              rw [← List.getElem?_toArray] at hj
              exact hj
            case qc4 => unfold maxLen; omega
            case qc5 => omega
            case qc6 => have := hBr.size; have := hb6.size; simp; omega
            intro v' w7 hown7 hgrow7 hnil7 hv7
            obtain ⟨h8, h9, hne⟩ := ((htr'.out.bel hb6).alloc _).left hown7 hgrow7 (by rw [World.size_alloc]; exact hv7)
            have hz6 := hb6.size
            have hzr := hBr.size
            have hB6 := hBr.trans (hb6.mono hBr.size)
            have hB7 := (hB6.alloc hB6.size _).grown hgrow7 (by simp; omega) (fun q hq => hlt8.out q hq)
            have hz7 := hB7.size
            clear hgrow7 hnil7 hown7 hv7
            have h9a := World.ownsRow.alloc h9 (.cells #[.int .u64 (u : Int)] 31)
            have h8a := World.ownsRow.alloc h8 (.cells #[.int .u64 (u : Int)] 31)
            go_wp2_with (at_builtin; refine wpList_append_own_at _ rfl _ _ 48 rfl w3.heap.size 31 j0 (.int .u64 0) 1 8 Try.underlying48 hj hy0 hy1 hy2 rfl (by decide) _ _ _ rfl h9a ⟨w7.heap.size, 0, none⟩ 1 1 (ucells [u]) rfl rfl ?qd2 (ucells_one _) ?qd4 ?qd5 ?qd6 ?_)
            case qd2 => exact cell_one_new _ _ _
            case qd4 => unfold maxLen; omega
            case qd5 => omega
            case qd6 => simp; omega
            intro v2' w8 hown8 hgrow8 hnil8 hv8
            have htr8 := TR.right h8a h9a hne rfl hown8 hgrow8 (by rw [World.size_alloc]; exact hv8)
            have hB8 := (hB7.alloc hB7.size _).grown hgrow8 (by simp; omega) (fun q hq => hlt9.out q hq)
            clear hgrow8 hnil8 hown8 hv8 h8 h9 h9a h8a
            replace htr8 := Lib.hid htr8
            go_wp2
            go_roundw
            case rel => exact ⟨x + 1, hltx, by go_num, by rw [hnext.out, hfin.out.1, hfin.out.2.1, hfin.out.2.2]; exact htr8.out, hB8⟩
            case measure => simp [intOf]; omega
        · obtain rfl : x = a := by omega
          have hnext : Hid ((y + 1) * x = y * x + x) := Lib.hid (by rw [Nat.add_mul, Nat.one_mul])
          replace htr := Lib.hid htr
          replace hI := Lib.hid hI
          replace hN := Lib.hid hN
          replace htt := Lib.hid htt
          go_wp2
          go_roundw
          case rel => exact ⟨y + 1, hlt, by go_num, by rw [hnext.out]; exact htr.out, hBr⟩
          case measure => simp [intOf]; omega
    · obtain rfl : y = b := by omega
      obtain ⟨A8, c8, rfl, s8, -, -⟩ := own_form htr.o8
      obtain ⟨A9, c9, rfl, s9, -, -⟩ := own_form htr.o9
      have hfin : Hid (RetA w a y P l (y * a) (.returned (.tuple #[.slice A8 (gotI a y l (y * a)).length c8, .slice A9 (gotI a y l (y * a)).length c9, .int .i64 0])) w5) := Lib.hid ⟨⟨A8, A9, c8, c9, rfl, s8, s9, hwd.out _⟩, hB3.trans (hBr.mono hB3.size)⟩
      clear s8 s9 htr
      go_wp2
      exact bodyPost_ret (by simp [results, Try.results22, go_sem]) rfl hfin.out

end Go.Proofs.Ytonpnjjfidpoiaa
