/-
  Walk: the law of masked words and permuted lists.
-/
import Derived.Test.YtofoiocpopmifaaNbCw
import Derived.Test.YtofoiocpopmifaaNbCt
import Derived.Test.YtofoiocpopmifaaNbKn
import Derived.Test.YtofoiocpopmifaaNbEm
set_option linter.unusedSimpArgs false
set_option linter.unusedVariables false
namespace Go.Proofs.Ytofoiocpopmifaa
open Go.RowKit

theorem M45 (A : Option Addr) (n c : Nat) (a : List Nat) (A2 : Option Addr) (n2 c2 : Nat) (b : List Nat) (W : World) (h : WS W A n c a) (h2 : WS W A2 n2 c2 b) (hn : n ≤ 20) (hn2 : n2 ≤ 20) :
    Calls Try.prog 24 #[.slice A n c, .slice A2 n2 c2, .int .i64 4, .int .i64 5] W fun e w' => (∃ (l : List Mat) (A3 : Option Addr) (c3 : Nat), e = .returned (.tuple #[.slice A3 l.length c3, .int .i64 0]) ∧ RetM a b 4 5 l ∧ SR w' A3 l.length c3 3 (mcells l)) ∧ Below W.heap.size W w' :=
  Matches_ok A n c a A2 n2 c2 b 4 5 W h h2 (by omega) (by omega) (by omega) (by omega)

set_option maxRecDepth 100000 in
set_option maxHeartbeats 1600000 in
theorem lawMask_long (A : Option Addr) (n c : Nat) (A2 : Option Addr) (n2 c2 : Nat) (mk : Int) (w : World) (hn : n ≤ 9223372036854775807) (hn2 : n2 ≤ 9223372036854775807) (hl : 20 < n ∨ 20 < n2) :
    Calls Try.prog 10 #[.slice A n c, .slice A2 n2 c2, .int .u64 mk] w fun e w' => e = .returned (.bool true) ∧ Below w.heap.size w w' := by
  have hk := Lib.hid (known_any (w.alloc (.cells #[.int .u64 mk] 23)))
  have hb0 : Below w.heap.size w (w.alloc (.cells #[.int .u64 mk] 23)) := (Below.refl _ _).alloc (Nat.le_refl _) _
  by_cases h1 : 20 < n
  · have hi : (20 : Int) < (n : Int) := by omega
    clear hl
    go_enter Try.func10, Try.ntmps10
    go_wp2_with (go_at_call 11; refine hk.out.mono ?_; rintro e w1 ⟨rfl, hbw⟩)
    go_ret
    exact ⟨rfl, hb0.trans (hbw.mono hb0.size)⟩
  · have hi : ¬ (20 : Int) < (n : Int) := by omega
    have hi2 : (20 : Int) < (n2 : Int) := by omega
    clear hl
    go_enter Try.func10, Try.ntmps10
    go_wp2_with (go_at_call 11; refine hk.out.mono ?_; rintro e w1 ⟨rfl, hbw⟩)
    go_ret
    exact ⟨rfl, hb0.trans (hbw.mono hb0.size)⟩

set_option maxRecDepth 100000 in
set_option maxHeartbeats 6400000 in
theorem lawMask_ok (A : Option Addr) (n c : Nat) (a : List Nat) (A2 : Option Addr) (n2 c2 : Nat) (b : List Nat) (mk : Nat) (w : World) (h : WS w A n c a) (h2 : WS w A2 n2 c2 b) (hn : n ≤ 20) (hn2 : n2 ≤ 20) (hmk : mk < 2 ^ 64) (hA2 : A2 = none → c2 = 0) :
    Calls Try.prog 10 #[.slice A n c, .slice A2 n2 c2, .int .u64 (mk : Int)] w fun e w' => e = .returned (.bool true) ∧ Below w.heap.size w w' := by
  have hi : ¬ (20 : Int) < (n : Int) := by omega
  have hi2 : ¬ (20 : Int) < (n2 : Int) := by omega
  have hcap := h.le_cap
  have hcl := h.cap_le
  have hcap2 := h2.le_cap
  have hcl2 := h2.cap_le
  have hlen := Lib.hid h.len
  have hlen2 := Lib.hid h2.len
  have hWa := Lib.hid h.2
  have hWb := Lib.hid h2.2
  have sa := Lib.hid h
  have sb := Lib.hid h2
  have hk := Lib.hid (known_any (w.alloc (.cells #[.int .u64 (mk : Int)] 23)))
  have hb0 : Below w.heap.size w (w.alloc (.cells #[.int .u64 (mk : Int)] 23)) := (Below.refl _ _).alloc (Nat.le_refl _) _
  have q0 := cell_of_row _ w.heap.size 0 _ _ _ (heap_alloc_new w (.cells #[.int .u64 (mk : Int)] 23))
  simp only [List.getElem?_toArray, List.getElem?_cons_zero] at q0
  obtain ⟨W1, hW1⟩ : ∃ W1, w.alloc (.cells #[.int .u64 (mk : Int)] 23) = W1 := ⟨_, rfl⟩
  have z1 : W1.heap.size = w.heap.size + 1 := by rw [← hW1]; simp
  rw [hW1] at hk hb0 q0
  have keepM : ∀ W, Below W1.heap.size W1 W → w.heap.size < W.heap.size ∧ W.cell? ⟨w.heap.size, 0, none⟩ = some (.int .u64 (mk : Int)) := fun W hb => ⟨by have := hb.size; omega, (hb.cell (p := ⟨w.heap.size, 0, none⟩) (by show w.heap.size < _; omega)).trans q0⟩
  replace keepM := Lib.hid keepM
  have hmkh := Lib.hid hmk
  have hA2h := Lib.hid hA2
  have eg := enters_masked
  replace z1 := Lib.hid z1
  have tok1 : True := trivial
  have tok2 : True := trivial
  clear h h2 q0 hmk hA2
  go_enter Try.func10, Try.ntmps10
  go_wp2_with (first
    | (go_at_call 11; refine hk.out.mono ?_; rintro e w1 ⟨rfl, hbw⟩; have hB1 := hb0.trans (hbw.mono hb0.size))
    | (go_at_call 24; clear tok1; refine (M45 A n c a A2 n2 c2 b _ (sa.out.below hB1 (Nat.le_refl _)) (sb.out.below hB1 (Nat.le_refl _)) hn hn2).mono ?_; rintro e w2 ⟨⟨m, A3, c3, rfl, hret, hm⟩, hb2⟩; obtain ⟨ml, hml⟩ : ∃ ml, m.length = ml := ⟨_, rfl⟩; rw [hml] at hm; replace hret := Lib.hid hret; replace hm := Lib.hid hm; have hR2 := hbw.trans (hb2.mono hbw.size); have hB2 := hB1.trans (hb2.mono hB1.size))
    | (go_at_fn 30; clear tok2; refine (masked_any A n c a w.heap.size mk _ (sa.out.below hB2 (Nat.le_refl _)) (keepM.out _ hR2).1 (keepM.out _ hR2).2 hmkh.out (by omega)).mono ?_; rintro e w3 ⟨⟨A5, c5, rfl, hma⟩, hb3⟩; replace hma := Lib.hid hma; have hR3 := hR2.trans (hb3.mono hR2.size); have hB3 := hB2.trans (hb3.mono hB2.size))
    | (go_at_fn 30; refine (masked_any A2 n2 c2 b w.heap.size mk _ (sb.out.below hB3 (Nat.le_refl _)) (keepM.out _ hR3).1 (keepM.out _ hR3).2 hmkh.out (by omega)).mono ?_; rintro e w4 ⟨⟨A6, c6, rfl, hmb⟩, hb4⟩; have hma4 := Lib.hid (hma.out.below hb4 (Nat.le_refl _)); replace hmb := Lib.hid hmb; have hB4 := hB3.trans (hb4.mono hB3.size))
    | (go_at_call 24; refine (M45 A5 n c5 (msk a mk) A6 n2 c6 (msk b mk) _ hma4.out hmb.out hn hn2).mono ?_; rintro e w5 ⟨⟨m', A7, c7, rfl, hret', hm'⟩, hb5⟩; obtain rfl : m = m' := (hret.out.mask hret').symm; rw [hml] at hm'; have hm5 : MS w5 A3 ml c3 m := MS.below (show MS w2 A3 ml c3 m from hm.out) ((hb3.trans (hb4.mono hb3.size)).trans (hb5.mono (hb3.trans (hb4.mono hb3.size)).size)) (Nat.le_refl _); have heq := Lib.hid (kEq hm5 (show MS w5 A7 ml c7 m from hm')); replace hm5 := Lib.hid hm5; clear hm' hret'; have hB5 := hB4.trans (hb5.mono hB4.size))
    | (go_at_call 25; refine heq.out.mono ?_; rintro e w6 ⟨rfl, hb6⟩; have hm6 := Lib.hid (hm5.out.below hb6 (Nat.le_refl _)); have hBase := hB5.trans (hb6.mono hB5.size)))
  clear hm hma hma4 hmb hm5 heq hb2 hb3 hb4 hb5 hb6 hR2 hR3 hB1 hB2 hB3 hB4 hB5 hbw hk
  replace hml := Lib.hid hml
  go_loopw [64] (fun i wr => ∃ k : Nat, k ≤ n ∧ i = .int .i64 (k : Int) ∧ Hid (∀ i, i < k → NoTie b (nw a i)) ∧ Below w6.heap.size w6 wr) (fun i _ => n - (intOf i).toNat)
  case atStart => exact ⟨0, Nat.zero_le _, rfl, Lib.hid (fun i hi => absurd hi (Nat.not_lt_zero _)), Below.refl _ _⟩
  case round =>
    obtain ⟨k, hk, rfl, hno, hB⟩ := hrel
    by_cases hlt : k < n
    · have hki : (k : Int) < (n : Int) := by omega
      have hBw : Below w.heap.size w wr := hBase.trans (hB.mono hBase.size)
      have hs := sa.out.below hBw (Nat.le_refl _)
      obtain ⟨bo, oo, hAo, hbo, hco⟩ := hs.at_ (by omega)
      have hcx := hco k hlt
      obtain ⟨x, hx⟩ : ∃ x, nw a k = x := ⟨_, rfl⟩
      rw [hx] at hcx
      have hx64 : x < 2 ^ 64 := by rw [← hx]; exact hWa.out.nw k
      obtain ⟨Wx, hWx⟩ : ∃ Wx, wr.alloc (.cells #[.int .u64 (x : Int)] 23) = Wx := ⟨_, rfl⟩
      have hbx : Below wr.heap.size wr Wx := by rw [← hWx]; exact (Below.refl _ _).alloc (Nat.le_refl _) _
      have gx : Wx.cell? ⟨wr.heap.size, 0, none⟩ = some (.int .u64 (x : Int)) := by rw [← hWx]; exact cell_of_row _ wr.heap.size 0 _ _ _ (heap_alloc_new wr _)
      obtain ⟨gxa, hgxa⟩ : ∃ gxa, wr.heap.size = gxa := ⟨_, rfl⟩
      have hgz : gxa < Wx.heap.size := by rw [← hWx, ← hgxa]; simp
      have hBx : Below w.heap.size w Wx := hBw.trans (hbx.mono hBw.size)
      have hBbx : Below w6.heap.size w6 Wx := hB.trans (hbx.mono hB.size)
      rw [hgxa] at gx
      replace gx := Lib.hid gx
      replace hx64 := Lib.hid hx64
      replace hx := Lib.hid hx
      clear hs hco
      subst hAo
      go_wp2
      clear hcx
      go_loopw [70] (fun i wr => ∃ j : Nat, j ≤ n2 ∧ i = .int .i64 (j : Int) ∧ Hid (∀ i q, i < j → i < q → q < b.length → dst x (nw b i) ≠ dst x (nw b q)) ∧ Below Wx.heap.size Wx wr) (fun i _ => n2 - (intOf i).toNat)
      case atStart => exact ⟨0, Nat.zero_le _, rfl, Lib.hid (fun i q hi => absurd hi (Nat.not_lt_zero _)), by first | exact Below.refl _ _ | (rw [hWx]; exact Below.refl _ _)⟩
      case round =>
        obtain ⟨j, hj, rfl, hnj, hBj⟩ := hrel
        have hBjw : Below w.heap.size w wr := hBx.trans (hBj.mono hBx.size)
        have hBjb : Below w6.heap.size w6 wr := hBbx.trans (hBj.mono hBbx.size)
        by_cases hltj : j < n2
        · have hji : (j : Int) < (n2 : Int) := by omega
          have hs := sb.out.below hBjw (Nat.le_refl _)
          obtain ⟨bi, oi, rfl, hbi, hci⟩ := hs.at_ (by omega)
          have hcy := hci j hltj
          obtain ⟨y, hy⟩ : ∃ y, nw b j = y := ⟨_, rfl⟩
          rw [hy] at hcy
          have hy64 : y < 2 ^ 64 := by rw [← hy]; exact hWb.out.nw j
          obtain ⟨j1, hj1⟩ : ∃ j1, j + 1 = j1 := ⟨_, rfl⟩
          have hj1i : (j : Int) + 1 = (j1 : Int) := by omega
          have i1 : j1 ≤ n2 := by omega
          have i2 : (j1 : Int) ≤ (n2 : Int) := by omega
          have i3 : (0 : Int) ≤ (j1 : Int) := by omega
          have i4 : j1 ≤ c2 := by have := hs.le_cap; omega
          have i5 : (j1 : Int) ≤ (c2 : Int) := by omega
          obtain ⟨Ay, hAy⟩ : ∃ Ay : Option Addr, (if c2 = j1 then some ⟨bi, oi, none⟩ else some ⟨bi, oi + j1, none⟩) = Ay := ⟨_, rfl⟩
          have gxr := (hBj.cell (p := ⟨gxa, 0, none⟩) hgz).trans gx.out
          obtain ⟨Wy, hWy⟩ : ∃ Wy, wr.alloc (.cells #[.int .u64 (y : Int)] 23) = Wy := ⟨_, rfl⟩
          have hby : Below wr.heap.size wr Wy := by rw [← hWy]; exact (Below.refl _ _).alloc (Nat.le_refl _) _
          have gy : Wy.cell? ⟨wr.heap.size, 0, none⟩ = some (.int .u64 (y : Int)) := by rw [← hWy]; exact cell_of_row _ wr.heap.size 0 _ _ _ (heap_alloc_new wr _)
          have gxy := (hby.cell (p := ⟨gxa, 0, none⟩) (Nat.lt_of_lt_of_le hgz hBj.size)).trans gxr
          have gyz : wr.heap.size < Wy.heap.size := by rw [← hWy]; simp
          have hrest : WS Wy Ay (n2 - j1) (c2 - j1) (b.drop j1) := (hs.below hby (Nat.le_refl _)).rest i1 Ay (fun h => by rw [← hAy, if_neg (by have := hs.le_cap; omega)])
          obtain ⟨tb, htb⟩ : ∃ tb, (b.drop j1).any (tieB x y) = tb := ⟨_, rfl⟩
          have hpred : PredW 32 #[.pointer (some ⟨gxa, 0, none⟩), .pointer (some ⟨wr.heap.size, 0, none⟩)] (tieB x y) Wy := fun W z hz hbW =>
            tie2_any x y z gxa wr.heap.size W hx64.out hy64 hz ((hbW.cell (p := ⟨gxa, 0, none⟩) (by have := hBj.size; show gxa < _; omega)).trans gxy) ((hbW.cell (p := ⟨wr.heap.size, 0, none⟩) gyz).trans gy)
          have hcf := Lib.hid (ContainsFunc_words _ _ (tieB x y) enters_tie2 Ay (n2 - j1) (c2 - j1) (b.drop j1) Wy hrest hpred htb)
          have hWyw : Below w.heap.size w Wy := hBjw.trans (hby.mono hBjw.size)
          have hWyx : Below Wx.heap.size Wx Wy := hBj.trans (hby.mono hBj.size)
          have eg := enters_tie2
          replace hj1 := Lib.hid hj1
          replace hy := Lib.hid hy
          replace hy64 := Lib.hid hy64
          replace htb := Lib.hid htb
          clear hci hs gxr gy gxy hrest hpred
          cases tb
          · go_wp2_with (go_at_call 31; refine hcf.out.mono ?_; rintro e w9 ⟨rfl, hb9⟩)
            go_roundw
            case rel => exact ⟨j1, i1, by first | rfl | go_num, Lib.hid (fun i q hi hiq hq => (by
              by_cases e : i = j
              · subst e
                rw [hy.out]
                have hf := htb.out
                rw [List.any_eq_false] at hf
                have hq' : nw b q ∈ b.drop j1 := by
                  rw [nw_eq hq]
                  have := hj1.out
                  have hd : (b.drop j1)[q - j1]? = some b[q] := by rw [List.getElem?_drop, show j1 + (q - j1) = q from by omega, List.getElem?_eq_getElem hq]
                  exact List.mem_of_getElem? hd
                have := hf _ hq'
                unfold tieB at this
                simp at this
                omega
              · exact hnj.out i q (by have := hj1.out; omega) hiq hq)), hWyx.trans (hb9.mono hWyx.size)⟩
            case measure => (have := hj1.out; simp [intOf]; omega)
          · go_wp2_with (go_at_call 31; refine hcf.out.mono ?_; rintro e w9 ⟨rfl, hb9⟩)
            go_ret
            exact ⟨rfl, hWyw.trans (hb9.mono hWyw.size)⟩
        · have hjn : j = n2 := by omega
          have hji : ¬ (j : Int) < (n2 : Int) := by omega
          replace hjn := Lib.hid hjn
          go_wp2
          go_roundw
          case rel => exact ⟨k + 1, hlt, by go_num, Lib.hid (fun i hi => (by
            by_cases e : i = k
            · subst e
              rw [hx.out]
              exact fun p q hpq hq => hnj.out p q (by have e1 := hlen2.out; have e2 := hjn.out; omega) hpq hq
            · exact hno.out i (by omega))), hBjb⟩
          case measure => simp [intOf]; omega
    · have hkn : k = n := by omega
      have hki : ¬ (k : Int) < (n : Int) := by omega
      replace hkn := Lib.hid hkn
      have hno' : Hid (∀ i, i < a.length → NoTie b (nw a i)) := Lib.hid (fun i hi => hno.out i (by have e1 := hlen.out; have e2 := hkn.out; omega))
      have hBase0 := hBase
      replace hBase := hBase.trans (hB.mono hBase.size)
      have hm8 := Lib.hid (hm6.out.below hB (Nat.le_refl _))
      clear hno hm6
      obtain ⟨w8, rfl⟩ : ∃ w8, w8 = wr := ⟨_, rfl⟩
      clear hB
      go_wp2
      go_loopw [85] (fun i wr => ∃ k : Nat, k ≤ n2 ∧ i = .int .i64 (k : Int) ∧ Below w8.heap.size w8 wr) (fun i _ => n2 - (intOf i).toNat)
      case atStart => exact ⟨0, Nat.zero_le _, rfl, Below.refl _ _⟩
      case round =>
        obtain ⟨k, hk, rfl, hB⟩ := hrel
        by_cases hlt : k < n2
        · have hki : (k : Int) < (n2 : Int) := by omega
          have hBw : Below w.heap.size w wr := hBase.trans (hB.mono hBase.size)
          have hs := sb.out.below hBw (Nat.le_refl _)
          obtain ⟨bo, oo, hAo, hbo, hco⟩ := hs.at_ (by omega)
          have hcx := hco k hlt
          obtain ⟨x, hx⟩ : ∃ x, nw b k = x := ⟨_, rfl⟩
          rw [hx] at hcx
          have hx64 : x < 2 ^ 64 := by rw [← hx]; exact hWb.out.nw k
          obtain ⟨Wx, hWx⟩ : ∃ Wx, wr.alloc (.cells #[.int .u64 (x : Int)] 23) = Wx := ⟨_, rfl⟩
          have hbx : Below wr.heap.size wr Wx := by rw [← hWx]; exact (Below.refl _ _).alloc (Nat.le_refl _) _
          have gx : Wx.cell? ⟨wr.heap.size, 0, none⟩ = some (.int .u64 (x : Int)) := by rw [← hWx]; exact cell_of_row _ wr.heap.size 0 _ _ _ (heap_alloc_new wr _)
          obtain ⟨gxa, hgxa⟩ : ∃ gxa, wr.heap.size = gxa := ⟨_, rfl⟩
          have hgz : gxa < Wx.heap.size := by rw [← hWx, ← hgxa]; simp
          have hBx : Below w.heap.size w Wx := hBw.trans (hbx.mono hBw.size)
          have hBbx : Below w8.heap.size w8 Wx := hB.trans (hbx.mono hB.size)
          rw [hgxa] at gx
          replace gx := Lib.hid gx
          replace hx64 := Lib.hid hx64
          replace hx := Lib.hid hx
          clear hs hco
          subst hAo
          go_wp2
          clear hcx
          go_loopw [91] (fun i wr => ∃ j : Nat, j ≤ n ∧ i = .int .i64 (j : Int) ∧ Below Wx.heap.size Wx wr) (fun i _ => n - (intOf i).toNat)
          case atStart => exact ⟨0, Nat.zero_le _, rfl, by first | exact Below.refl _ _ | (rw [hWx]; exact Below.refl _ _)⟩
          case round =>
            obtain ⟨j, hj, rfl, hBj⟩ := hrel
            have hBjw : Below w.heap.size w wr := hBx.trans (hBj.mono hBx.size)
            have hBjb : Below w8.heap.size w8 wr := hBbx.trans (hBj.mono hBbx.size)
            by_cases hltj : j < n
            · have hji : (j : Int) < (n : Int) := by omega
              have hs := sa.out.below hBjw (Nat.le_refl _)
              obtain ⟨bi, oi, rfl, hbi, hci⟩ := hs.at_ (by omega)
              have hcy := hci j hltj
              obtain ⟨y, hy⟩ : ∃ y, nw a j = y := ⟨_, rfl⟩
              rw [hy] at hcy
              have hy64 : y < 2 ^ 64 := by rw [← hy]; exact hWa.out.nw j
              obtain ⟨j1, hj1⟩ : ∃ j1, j + 1 = j1 := ⟨_, rfl⟩
              have hj1i : (j : Int) + 1 = (j1 : Int) := by omega
              have i1 : j1 ≤ n := by omega
              have i2 : (j1 : Int) ≤ (n : Int) := by omega
              have i3 : (0 : Int) ≤ (j1 : Int) := by omega
              have i4 : j1 ≤ c := by have := hs.le_cap; omega
              have i5 : (j1 : Int) ≤ (c : Int) := by omega
              obtain ⟨Ay, hAy⟩ : ∃ Ay : Option Addr, (if c = j1 then some ⟨bi, oi, none⟩ else some ⟨bi, oi + j1, none⟩) = Ay := ⟨_, rfl⟩
              have gxr := (hBj.cell (p := ⟨gxa, 0, none⟩) hgz).trans gx.out
              obtain ⟨Wy, hWy⟩ : ∃ Wy, wr.alloc (.cells #[.int .u64 (y : Int)] 23) = Wy := ⟨_, rfl⟩
              have hby : Below wr.heap.size wr Wy := by rw [← hWy]; exact (Below.refl _ _).alloc (Nat.le_refl _) _
              have gy : Wy.cell? ⟨wr.heap.size, 0, none⟩ = some (.int .u64 (y : Int)) := by rw [← hWy]; exact cell_of_row _ wr.heap.size 0 _ _ _ (heap_alloc_new wr _)
              have gxy := (hby.cell (p := ⟨gxa, 0, none⟩) (Nat.lt_of_lt_of_le hgz hBj.size)).trans gxr
              have gyz : wr.heap.size < Wy.heap.size := by rw [← hWy]; simp
              have hrest : WS Wy Ay (n - j1) (c - j1) (a.drop j1) := (hs.below hby (Nat.le_refl _)).rest i1 Ay (fun h => by rw [← hAy, if_neg (by have := hs.le_cap; omega)])
              obtain ⟨tb, htb⟩ : ∃ tb, (a.drop j1).any (tieB x y) = tb := ⟨_, rfl⟩
              have hpred : PredW 33 #[.pointer (some ⟨gxa, 0, none⟩), .pointer (some ⟨wr.heap.size, 0, none⟩)] (tieB x y) Wy := fun W z hz hbW =>
                tie3_any x y z gxa wr.heap.size W hx64.out hy64 hz ((hbW.cell (p := ⟨gxa, 0, none⟩) (by have := hBj.size; show gxa < _; omega)).trans gxy) ((hbW.cell (p := ⟨wr.heap.size, 0, none⟩) gyz).trans gy)
              have hcf := Lib.hid (ContainsFunc_words _ _ (tieB x y) enters_tie3 Ay (n - j1) (c - j1) (a.drop j1) Wy hrest hpred htb)
              have hWyw : Below w.heap.size w Wy := hBjw.trans (hby.mono hBjw.size)
              have hWyx : Below Wx.heap.size Wx Wy := hBj.trans (hby.mono hBj.size)
              have eg := enters_tie3
              replace hj1 := Lib.hid hj1
              replace hy := Lib.hid hy
              replace hy64 := Lib.hid hy64
              replace htb := Lib.hid htb
              clear hci hs gxr gy gxy hrest hpred
              cases tb
              · go_wp2_with (go_at_call 31; refine hcf.out.mono ?_; rintro e w9 ⟨rfl, hb9⟩)
                go_roundw
                case rel => exact ⟨j1, i1, by first | rfl | go_num, hWyx.trans (hb9.mono hWyx.size)⟩
                case measure => (have := hj1.out; simp [intOf]; omega)
              · go_wp2_with (go_at_call 31; refine hcf.out.mono ?_; rintro e w9 ⟨rfl, hb9⟩)
                go_ret
                exact ⟨rfl, hWyw.trans (hb9.mono hWyw.size)⟩
            · have hjn : j = n := by omega
              have hji : ¬ (j : Int) < (n : Int) := by omega
              replace hjn := Lib.hid hjn
              go_wp2
              go_roundw
              case rel => exact ⟨k + 1, hlt, by go_num, hBjb⟩
              case measure => simp [intOf]; omega
        · have hkn2 : k = n2 := by omega
          have hki2 : ¬ (k : Int) < (n2 : Int) := by omega
          replace hkn2 := Lib.hid hkn2
          have hBase2 := hBase.trans (hB.mono hBase.size)
          have hm9 := Lib.hid (hm8.out.below hB (Nat.le_refl _))
          have hcw := Lib.hid (Clone_w A2 n2 c2 b wr (sb.out.below hBase2 (Nat.le_refl _)) (by omega) hA2h.out)
          obtain ⟨w9, rfl⟩ : ∃ w9, w9 = wr := ⟨_, rfl⟩
          clear hm8 hB
          have hml9 := hml.out
          replace hml := Lib.hid hml9
          go_wp2_with (first
            | (go_at_call 34; refine hcw.out.mono ?_; rintro e w10 ⟨⟨Ab, cb, rfl, hcl10⟩, hb10⟩; replace hcl10 := Lib.hid hcl10)
            | (go_at_call 35; refine (Reverse_w Ab n2 cb w9.heap.size b _ hcl10.out hlen2.out hWb.out hb10.size).mono ?_; rintro e w11 ⟨⟨rfl, rb, hrev, hsr⟩, hb11⟩; have hb12 := hb10.trans hb11; have hB11 := hBase2.trans (hb12.mono hBase2.size); replace hrev := Lib.hid hrev; replace hsr := Lib.hid hsr)
            | (go_at_call 24; refine (M45 A n c a Ab n2 cb rb _ (sa.out.below hB11 (Nat.le_refl _)) hsr.out hn hn2).mono ?_; rintro e w12 ⟨⟨m2, A8, c8, rfl, hret2, hm12⟩, hb13⟩; have hm2e := hret.out.rev hrev.out hno'.out hret2; have hml2 : m2.length = ml := (by rw [hm2e, List.length_map]; exact hml9); rw [hml2] at hm12; replace hm2e := Lib.hid hm2e; replace hm12 := Lib.hid hm12; replace hret2 := Lib.hid hret2))
          have hB12 := hB11.trans (hb13.mono hB11.size)
          have hm13 := Lib.hid (hm9.out.below (hb12.trans (hb13.mono hb12.size)) (Nat.le_refl _))
          have hm12' : Hid (MS w12 A8 ml c8 m2) := Lib.hid hm12.out
          have hcm1 := hm13.out.2.1
          have hcm2 := hm13.out.2.2.1
          have hcm3 := hm12'.out.2.1
          have hcm4 := hm12'.out.2.2.1
          clear hm9 hm12 hcw hb10 hb11 hb12 hb13
          replace hml2 := Lib.hid hml2
          replace hml9 := Lib.hid hml9
          go_loopw [125] (fun i wr => ∃ k : Nat, k ≤ ml ∧ i = .int .i64 (k : Int) ∧ Below w12.heap.size w12 wr) (fun i _ => ml - (intOf i).toNat)
          case atStart => exact ⟨0, Nat.zero_le _, rfl, Below.refl _ _⟩
          case round =>
            obtain ⟨k, hk, rfl, hB⟩ := hrel
            by_cases hlt : k < ml
            · have hki : (k : Int) < (ml : Int) := by omega
              have h1 := hm13.out.below hB (Nat.le_refl _)
              have h2 := hm12'.out.below hB (Nat.le_refl _)
              obtain ⟨b1, o1, rfl, hb1, hc1⟩ := h1.at_ (by omega)
              obtain ⟨b2, o2, rfl, hb2, hc2⟩ := h2.at_ (by omega)
              obtain ⟨x0, x1, x2⟩ := hc1 k hlt
              obtain ⟨y0, y1, y2⟩ := hc2 k hlt
              have hkm : k < m.length := by rw [hml.out]; exact hlt
              obtain ⟨⟨a1, a2, a3⟩, hx⟩ : ∃ x, matAt m k = x := ⟨_, rfl⟩
              have hmem : ((a1, a2, a3) : Mat) ∈ m := by rw [← hx, matAt_eq hkm]; exact List.getElem_mem _
              have ha2 : a2 < n2 := by
                rw [hlen2.out]
                exact ((hret.out.mem _).1 hmem).2.1.1
              obtain ⟨u, hu⟩ : ∃ u, n2 - 1 = u := ⟨_, rfl⟩
              obtain ⟨s, hs⟩ : ∃ s, u - a2 = s := ⟨_, rfl⟩
              have hy : matAt m2 k = (a1, s, a3) := by
                rw [hm2e.out, matAt_eq (by rw [List.length_map]; exact hkm), List.getElem_map, ← matAt_eq hkm, hx]
                simp only [revM, Prod.mk.injEq, true_and, and_true]
                rw [← hs, ← hu, hlen2.out]
              obtain ⟨v, hv⟩ : ∃ v, k * 3 = v := ⟨_, rfl⟩
              rw [hx, hv] at x0 x1 x2
              rw [hy, hv] at y0 y1 y2
              have hw1 : IntKind.i64.wrap ((n2 : Int) - 1) = (u : Int) := by rw [IntWalk.i64_left, IntWalk.wrap64_in _ (by omega)]; omega
              have hw2 : IntKind.i64.wrap ((u : Int) - (a2 : Int)) = (s : Int) := by rw [IntWalk.i64_left, IntWalk.wrap64_in _ (by omega)]; omega
              have hq1 := fun W => mat_neq_at (p := (a1, s, a3)) (q := (a1, s, a3)) (r := false) (by simp) W
              have hg1 := fun W X Y => mat_guard .neq X Y (a1 : Int) (s : Int) (a3 : Int) (a1 : Int) (s : Int) (a3 : Int) W
              have hBz := hB.size
              replace hx := Lib.hid hx
              replace hy := Lib.hid hy
              replace hu := Lib.hid hu
              replace hs := Lib.hid hs
              replace hmem := Lib.hid hmem
              replace hkm := Lib.hid hkm
              clear hc1 hc2 h1 h2
              go_wp2
              go_quiet (fail)
              go_wp2
              go_roundw
              case rel => exact ⟨k + 1, hlt, by go_num, below_drewN (hB.alloc hBz _) _⟩
              case measure => simp [intOf]; omega
            · have hki3 : ¬ (k : Int) < (ml : Int) := by omega
              go_wp2
              go_ret
              exact ⟨rfl, hB12.trans (hB.mono hB12.size)⟩

theorem lawMask_any (A : Option Addr) (n c : Nat) (a : List Nat) (A2 : Option Addr) (n2 c2 : Nat) (b : List Nat) (mk : Int) (w : World) (h : WS w A n c a) (h2 : WS w A2 n2 c2 b) (hmk : 0 ≤ mk ∧ mk ≤ 18446744073709551615) (hA2 : A2 = none → c2 = 0) :
    Calls Try.prog 10 #[.slice A n c, .slice A2 n2 c2, .int .u64 mk] w fun e w' => e = .returned (.bool true) ∧ Below w.heap.size w w' := by
  have q1 := h.le_cap
  have q2 := h.cap_le
  have q3 := h2.le_cap
  have q4 := h2.cap_le
  by_cases hl : 20 < n ∨ 20 < n2
  · exact lawMask_long A n c A2 n2 c2 mk w (by omega) (by omega) hl
  · obtain ⟨x, rfl⟩ : ∃ x : Nat, mk = (x : Int) := ⟨mk.toNat, by omega⟩
    exact lawMask_ok A n c a A2 n2 c2 b x w h h2 (by omega) (by omega) (by omega) hA2

end Go.Proofs.Ytofoiocpopmifaa
