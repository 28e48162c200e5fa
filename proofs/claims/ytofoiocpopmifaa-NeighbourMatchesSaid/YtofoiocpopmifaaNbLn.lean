/-
  Walk: the law of the nearest word.
-/
import Derived.Test.YtofoiocpopmifaaNbIn
import Derived.Test.YtofoiocpopmifaaNbKn
set_option linter.unusedSimpArgs false
set_option linter.unusedVariables false
namespace Go.Proofs.Ytofoiocpopmifaa
open Go.RowKit

theorem SR.one {w : World} {A : Option Addr} {n c : Nat} : SR (w.alloc (.cells #[.slice A n c] 22)) (some ⟨w.heap.size, 0, none⟩) 1 1 1 (lcells [(A, n, c)]) := SR.lit w (lcells [(A, n, c)]) 22 1 1 rfl (by omega)

set_option maxRecDepth 100000 in
set_option maxHeartbeats 1600000 in
theorem lawNearest_no (A : Option Addr) (n c : Nat) (x most : Int) (w : World) (hn : n ≤ 9223372036854775807) (hf : fewB n = false) :
    Calls Try.prog 3 #[.slice A n c, .int .u64 x, .int .i64 most] w fun e w' => e = .returned (.bool true) ∧ Below w.heap.size w w' := by
  have hk := Lib.hid (known_any w)
  have k1 := Lib.hid (fun W => few_any A n c W hn hf)
  replace hf := Lib.hid hf
  go_enter Try.func3, Try.ntmps3
  go_wp2_with (first
    | (go_at_call 11; refine hk.out.mono ?_; rintro e w1 ⟨rfl, hbw⟩)
    | (go_at_call 12; refine (k1.out _).mono ?_; rintro e w' ⟨rfl, rfl⟩))
  go_ret
  exact ⟨rfl, hbw⟩

set_option maxRecDepth 100000 in
set_option maxHeartbeats 1600000 in
theorem lawNearest_long (A : Option Addr) (n c : Nat) (x most : Int) (w : World) (hn : n ≤ 9223372036854775807) (hf : fewB n = true) (hl : 64 < n) :
    Calls Try.prog 3 #[.slice A n c, .int .u64 x, .int .i64 most] w fun e w' => e = .returned (.bool true) ∧ Below w.heap.size w w' := by
  have hk := Lib.hid (known_any w)
  have k1 := Lib.hid (fun W => few_any A n c W hn hf)
  have k2 := Lib.hid (fun W => Nearest_long A n c x W hn hl)
  have k3 := Lib.hid (fun W => Within_long A n c x most W hn hl)
  have k4 := Lib.hid (fun W : World => long_any (some ⟨W.heap.size, 0, none⟩) 1 1 [(A, n, c)] _ (SR.one (w := W)) (by simp; exact hn) (b := true) (by simp [longB, hl]))
  replace hf := Lib.hid hf
  go_enter Try.func3, Try.ntmps3
  go_wp2_with (first
    | (go_at_call 11; refine hk.out.mono ?_; rintro e w1 ⟨rfl, hbw⟩)
    | (go_at_call 12; refine (k1.out _).mono ?_; rintro e w' ⟨rfl, rfl⟩)
    | (go_at_call 13; refine (k2.out _).mono ?_; rintro e w' ⟨rfl, rfl⟩)
    | (go_at_call 14; refine (k3.out _).mono ?_; rintro e w' ⟨rfl, rfl⟩)
    | (go_at_call 15; refine (k4.out _).mono ?_; rintro e w' ⟨rfl, rfl⟩))
  go_ret
  exact ⟨rfl, hbw.alloc hbw.size _⟩

set_option maxRecDepth 100000 in
set_option maxHeartbeats 3200000 in
theorem lawNearest_none (A : Option Addr) (n c : Nat) (l : List Nat) (x : Nat) (most : Int) (w : World) (h : WS w A n c l) (hx : x < 2 ^ 64) (hf : fewB n = true) (hn : n ≤ 64) (h0 : n = 0) (hm1 : -9223372036854775808 ≤ most) (hm2 : most ≤ 9223372036854775807) :
    Calls Try.prog 3 #[.slice A n c, .int .u64 (x : Int), .int .i64 most] w fun e w' => e = .returned (.bool true) ∧ Below w.heap.size w w' := by
  subst h0
  have hcap := h.le_cap
  have hcl := h.cap_le
  have hlen := Lib.hid h.len
  have hW := Lib.hid h.2
  have hk := Lib.hid (known_any w)
  have k1 := Lib.hid (fun W => few_any A 0 c W (by omega) hf)
  have k4 := Lib.hid (fun W : World => long_any (some ⟨W.heap.size, 0, none⟩) 1 1 [(A, 0, c)] _ (SR.one (w := W)) (by simp; try omega) (b := false) (by simp [longB]; try omega))
  have k3 := Lib.hid (fun (W : World) (hb : Below w.heap.size w W) => Within_ok A 0 c l x most W (h.below hb (Nat.le_refl _)) hx hn hm1 hm2)
  have hs0 := Lib.hid h
  have hxh := Lib.hid hx
  replace hf := Lib.hid hf
  have k2 := Lib.hid (fun (W : World) => Nearest_none A c (x : Int) W)
  clear h hx
  go_enter Try.func3, Try.ntmps3
  go_wp2_with (first
    | (go_at_call 11; refine hk.out.mono ?_; rintro e w1 ⟨rfl, hbw⟩)
    | (go_at_call 12; refine (k1.out _).mono ?_; rintro e w' ⟨rfl, rfl⟩)
    | (go_at_call 13; refine (k2.out _).mono ?_; rintro e w' ⟨rfl, rfl⟩)
    | (go_at_call 14; refine (k3.out _ hbw).mono ?_; rintro e w2 ⟨⟨A2, c2, rfl, hin⟩, hb2⟩)
    | (go_at_call 15; refine (k4.out _).mono ?_; rintro e w' ⟨rfl, rfl⟩))
  have hb3 := (hbw.trans (hb2.mono hbw.size)).alloc (hbw.trans (hb2.mono hbw.size)).size (.cells #[.slice A 0 c] 22)
  obtain ⟨W3, hW3⟩ : ∃ W3, w2.alloc (.cells #[.slice A 0 c] 22) = W3 := ⟨_, rfl⟩
  have hin3 : IS W3 A2 (wiF l x most 0).length c2 (wiF l x most 0) := by rw [← hW3]; exact hin.alloc _
  rw [hW3] at hb3
  replace hin3 := Lib.hid hin3
  replace hb3 := Lib.hid hb3
  replace hW3 := Lib.hid hW3
  clear hin
  obtain ⟨ml, hml⟩ : ∃ ml, (wiF l x most 0).length = ml := ⟨_, rfl⟩
  rw [hml]
  go_loopw [12, 61] (fun kv i wr => ∃ k : Nat, k ≤ 0 ∧ i = .int .i64 (k : Int) ∧ wr.ownsRow W3.heap.size 3 1 kv (wiF l x most k).length (cells (wiF l x most k)) ∧ Below W3.heap.size W3 wr) (fun _ i _ => 0 - (intOf i).toNat)
  case atStart => exact ⟨0, Nat.zero_le _, rfl, World.ownsRow_nil _ _ _ _, by rw [hW3.out]; exact Below.refl _ _⟩
  case round =>
    obtain ⟨k, hkn, rfl, hown, hB⟩ := hrel
    have hB0 := hb3.out.trans (hB.mono hb3.out.size)
    obtain ⟨K, hK⟩ : ∃ K, wiF l x most k = K := ⟨_, rfl⟩
    have hKl : K.length ≤ k := by rw [← hK]; exact wiF_length l x most k
    obtain ⟨kl, hkl⟩ : ∃ kl, K.length = kl := ⟨_, rfl⟩
    have hsucc := wiF_succ l x most k
    rw [hK] at hown hsucc
    rw [hkl] at hown hKl
    obtain ⟨A3, c3, rfl, -, -, -⟩ := own_form hown
    obtain rfl : k = 0 := by omega
    have hki : ¬ ((0 : Nat) : Int) < 0 := by omega
    have hlk : ml = kl := by rw [← hml, hK, hkl]
    have hin4 : IS wr A2 kl c2 K := by
      have e := hin3.out.below hB (Nat.le_refl _)
      rw [hK, hkl] at e
      exact e
    have heq := iEqual_any A2 kl c2 K A3 kl c3 K wr hin4 (SR.of_own hown)
    rw [show eql K K = true from decide_eq_true rfl] at heq
    replace heq := Lib.hid heq
    subst hlk
    replace hml := Lib.hid hml
    replace hown := Lib.hid hown
    replace hin4 := Lib.hid hin4
    replace hK := Lib.hid hK
    replace hkl := Lib.hid hkl
    clear hsucc
    go_wp2_with (go_at_call 18; refine heq.out.mono ?_; rintro e w7 ⟨rfl, hb7⟩)
    go_ret
    exact ⟨rfl, hB0.trans (hb7.mono hB0.size)⟩

set_option maxRecDepth 100000 in
set_option maxHeartbeats 3200000 in
theorem lawNearest_some (A : Option Addr) (n c : Nat) (l : List Nat) (x : Nat) (most : Int) (w : World) (h : WS w A n c l) (hx : x < 2 ^ 64) (hf : fewB n = true) (hn : n ≤ 64) (h0 : 0 < n) (hm1 : -9223372036854775808 ≤ most) (hm2 : most ≤ 9223372036854775807) :
    Calls Try.prog 3 #[.slice A n c, .int .u64 (x : Int), .int .i64 most] w fun e w' => e = .returned (.bool true) ∧ Below w.heap.size w w' := by
  have hcap := h.le_cap
  have hcl := h.cap_le
  have hlen := Lib.hid h.len
  have hW := Lib.hid h.2
  have hk := Lib.hid (known_any w)
  have k1 := Lib.hid (fun W => few_any A n c W (by omega) hf)
  have k4 := Lib.hid (fun W : World => long_any (some ⟨W.heap.size, 0, none⟩) 1 1 [(A, n, c)] _ (SR.one (w := W)) (by simp; try omega) (b := false) (by simp [longB]; try omega))
  have k3 := Lib.hid (fun (W : World) (hb : Below w.heap.size w W) => Within_ok A n c l x most W (h.below hb (Nat.le_refl _)) hx hn hm1 hm2)
  have hs0 := Lib.hid h
  have hxh := Lib.hid hx
  replace hf := Lib.hid hf
  have k2 := Lib.hid (fun (W : World) (hb : Below w.heap.size w W) => Nearest_ok A n c l x W (h.below hb (Nat.le_refl _)) hx h0 hn)
  have k5 := Lib.hid (fun (W : World) (hb : Below w.heap.size w W) => lnearest_any A n c l x W (h.below hb (Nat.le_refl _)) hx h0 (by omega))
  have hnz : ((n : Int) == 0) = false := by simp; omega
  clear h hx
  go_enter Try.func3, Try.ntmps3
  go_wp2_with (first
    | (go_at_call 11; refine hk.out.mono ?_; rintro e w1 ⟨rfl, hbw⟩)
    | (go_at_call 12; refine (k1.out _).mono ?_; rintro e w' ⟨rfl, rfl⟩)
    | (go_at_call 13; refine (k2.out _ hbw).mono ?_; rintro e w' ⟨⟨i1, d1, rfl, hN⟩, rfl⟩; replace hN := Lib.hid hN)
    | (go_at_call 14; refine (k3.out _ hbw).mono ?_; rintro e w2 ⟨⟨A2, c2, rfl, hin⟩, hb2⟩)
    | (go_at_call 15; refine (k4.out _).mono ?_; rintro e w' ⟨rfl, rfl⟩))
  have hb3 := (hbw.trans (hb2.mono hbw.size)).alloc (hbw.trans (hb2.mono hbw.size)).size (.cells #[.slice A n c] 22)
  obtain ⟨W3, hW3⟩ : ∃ W3, w2.alloc (.cells #[.slice A n c] 22) = W3 := ⟨_, rfl⟩
  have hin3 : IS W3 A2 (wiF l x most n).length c2 (wiF l x most n) := by rw [← hW3]; exact hin.alloc _
  rw [hW3] at hb3
  replace hin3 := Lib.hid hin3
  replace hb3 := Lib.hid hb3
  replace hW3 := Lib.hid hW3
  clear hin
  obtain ⟨ml, hml⟩ : ∃ ml, (wiF l x most n).length = ml := ⟨_, rfl⟩
  rw [hml]
  go_loopw [12, 61] (fun kv i wr => ∃ k : Nat, k ≤ n ∧ i = .int .i64 (k : Int) ∧ wr.ownsRow W3.heap.size 3 1 kv (wiF l x most k).length (cells (wiF l x most k)) ∧ Below W3.heap.size W3 wr) (fun _ i _ => n - (intOf i).toNat)
  case atStart => exact ⟨0, Nat.zero_le _, rfl, World.ownsRow_nil _ _ _ _, by rw [hW3.out]; exact Below.refl _ _⟩
  case round =>
    obtain ⟨k, hkn, rfl, hown, hB⟩ := hrel
    have hB0 := hb3.out.trans (hB.mono hb3.out.size)
    obtain ⟨K, hK⟩ : ∃ K, wiF l x most k = K := ⟨_, rfl⟩
    have hKl : K.length ≤ k := by rw [← hK]; exact wiF_length l x most k
    obtain ⟨kl, hkl⟩ : ∃ kl, K.length = kl := ⟨_, rfl⟩
    have hsucc := wiF_succ l x most k
    rw [hK] at hown hsucc
    rw [hkl] at hown hKl
    obtain ⟨A3, c3, rfl, -, -, -⟩ := own_form hown
    by_cases hlt : k < n
    · have hki : (k : Int) < (n : Int) := by omega
      have hs := hs0.out.below hB0 (Nat.le_refl _)
      obtain ⟨bb, off, rfl, hbw', hc⟩ := hs.at_ (by omega)
      have hcm := hc k hlt
      obtain ⟨y, hy⟩ : ∃ y, nw l k = y := ⟨_, rfl⟩
      rw [hy] at hcm
      obtain ⟨d, hd⟩ : ∃ d, dst y x = d := ⟨_, rfl⟩
      have q1 := Lib.hid (fun W => Distance_any y x (by rw [← hy]; exact hW.out.nw k) hxh.out W hd)
      have q2 := Lib.hid (fun W => distance_any y x (by rw [← hy]; exact hW.out.nw k) hxh.out W hd)
      have hnb : nearB l x most k = decide ((d : Int) ≤ most) := by unfold nearB; rw [hy, hd]
      have hdd : ((d : Int) != (d : Int)) = false := by simp
      replace hy := Lib.hid hy
      replace hd := Lib.hid hd
      replace hK := Lib.hid hK
      replace hkl := Lib.hid hkl
      clear hc hs
      by_cases hle : (d : Int) ≤ most
      · have hs2 : Hid (wiF l x most (k + 1) = K ++ [(k : Int)]) := Lib.hid (by rw [hsucc, hnb]; simp [hle])
        clear hsucc hnb
        obtain ⟨i0, hi, hz0, hz1, hz2⟩ := info_parts infoIw
        have hBs := hB.size
        go_wp2_with (first
          | (go_at_call 16; refine (q1.out _).mono ?_; rintro e w' ⟨rfl, rfl⟩)
          | (go_at_call 17; refine (q2.out _).mono ?_; rintro e w' ⟨rfl, rfl⟩)
          | (at_builtin; refine wpList_append_own _ rfl _ _ 29 rfl W3.heap.size 3 i0 (.int .i64 0) 1 8 Try.underlying29 hi hz0 hz1 hz2 rfl (by decide) _ _ _ rfl (hown.alloc _) ⟨wr.heap.size, 0, none⟩ 1 1 (cells [(k : Int)]) rfl rfl ?qc2 (cells_one _) ?qc4 ?qc5 ?qc6 ?_))
        case qc2 =>
          intro j u hj
          rw [Addr.add_lit, Nat.zero_add, cell_of_row _ wr.heap.size j _ _ _ (heap_alloc_new wr _)]
          rw [← List.getElem?_toArray] at hj
          exact hj
        case qc4 => unfold maxLen; omega
        case qc5 => omega
        case qc6 => simp; omega
        intro v' w6 hown6 hgrow hnil
        have hown7 : w6.ownsRow W3.heap.size 3 1 v' (kl + 1) (cells (K ++ [(k : Int)])) := by rw [cells_append]; exact hown6
        have hlt4 := (World.ownsRow.lt hown)
        have hB7 := (hB.alloc (by omega) _).grown hgrow (by simp; omega) (fun q hq => (hlt4 q hq).1)
        go_wp2
        go_roundw
        case rel => exact ⟨k + 1, hlt, by go_num, by rw [hs2.out, List.length_append, hkl.out]; exact hown7, hB7⟩
        case measure => simp [intOf]; omega
      · have hs2 : Hid (wiF l x most (k + 1) = K) := Lib.hid (by rw [hsucc, hnb]; simp [hle])
        clear hsucc hnb
        replace hown := Lib.hid hown
        go_wp2_with (first
          | (go_at_call 16; refine (q1.out _).mono ?_; rintro e w' ⟨rfl, rfl⟩)
          | (go_at_call 17; refine (q2.out _).mono ?_; rintro e w' ⟨rfl, rfl⟩))
        go_roundw
        case rel => exact ⟨k + 1, hlt, by go_num, by rw [hs2.out, hkl.out]; exact hown.out, hB⟩
        case measure => simp [intOf]; omega
    · obtain rfl : k = n := by omega
      have hki : ¬ (k : Int) < (k : Int) := by omega
      have hlk : ml = kl := by rw [← hml, hK, hkl]
      have hin4 : IS wr A2 kl c2 K := by
        have e := hin3.out.below hB (Nat.le_refl _)
        rw [hK, hkl] at e
        exact e
      have heq := iEqual_any A2 kl c2 K A3 kl c3 K wr hin4 (SR.of_own hown)
      rw [show eql K K = true from decide_eq_true rfl] at heq
      replace heq := Lib.hid heq
      subst hlk
      replace hml := Lib.hid hml
      replace hown := Lib.hid hown
      replace hin4 := Lib.hid hin4
      replace hK := Lib.hid hK
      replace hkl := Lib.hid hkl
      clear hsucc
      go_wp2_with (first
        | (go_at_call 18; refine heq.out.mono ?_; rintro e w7 ⟨rfl, hb7⟩; have hb8 := hB0.trans (hb7.mono hB0.size))
        | (go_at_call 19; refine (k5.out _ hb8).mono ?_; rintro e w8 ⟨⟨i2, d2, rfl, hN2⟩, hb9⟩; obtain ⟨rfl, rfl⟩ := hN2.unique hN.out))
      go_ret
      exact ⟨rfl, hb8.trans (hb9.mono hb8.size)⟩

theorem lawNearest_any (A : Option Addr) (n c : Nat) (l : List Nat) (x most : Int) (w : World) (h : WS w A n c l) (hx : 0 ≤ x ∧ x ≤ 18446744073709551615) (hm1 : -9223372036854775808 ≤ most) (hm2 : most ≤ 9223372036854775807) :
    Calls Try.prog 3 #[.slice A n c, .int .u64 x, .int .i64 most] w fun e w' => e = .returned (.bool true) ∧ Below w.heap.size w w' := by
  obtain ⟨y, rfl⟩ : ∃ y : Nat, x = (y : Int) := ⟨x.toNat, by omega⟩
  have hcap := h.le_cap
  have hcl := h.cap_le
  cases hf : fewB n with
  | false => exact lawNearest_no A n c y most w (by omega) hf
  | true =>
    by_cases hl : 64 < n
    · exact lawNearest_long A n c y most w (by omega) hf hl
    · by_cases h0 : n = 0
      · exact lawNearest_none A n c l y most w h (by omega) hf (by omega) h0 hm1 hm2
      · exact lawNearest_some A n c l y most w h (by omega) hf (by omega) (by omega) hm1 hm2

end Go.Proofs.Ytofoiocpopmifaa
