/-
  Walk: the law of exchanged lists.
-/
import Derived.Test.YtofoiocpopmifaaNbCt
import Derived.Test.YtofoiocpopmifaaNbEm
import Derived.Test.YtofoiocpopmifaaNbKn
set_option linter.unusedSimpArgs false
set_option linter.unusedVariables false
namespace Go.Proofs.Ytofoiocpopmifaa
open Go.RowKit

theorem enters_excl : ∀ args w, (callFunc 29 args).run Try.prog w = .ok (.enter 29 args) w := enters_of Try.func29 (by kernel_rfl) rfl
theorem excl_any (x y z : Nat) (g : Nat) (A : Option Addr) (n c : Nat) (m : List Mat) (w : World) (h : MS w A n c m) (hg : g < w.heap.size) (hc : w.cell? ⟨g, 0, none⟩ = some (.slice A n c)) {b : Bool} (hb : decide (((x, y, z) : Mat) ∈ m) = b) :
    Calls Try.prog 29 #[.agg #[.int .i64 (x : Int), .int .i64 (y : Int), .int .i64 (z : Int)], .pointer (some ⟨g, 0, none⟩)] w fun e w' => e = .returned (.bool (!b)) ∧ Below w.heap.size w w' := by
  have hb0 := (Below.refl w.heap.size w).alloc (Nat.le_refl _) (.cells #[.int .i64 (x : Int), .int .i64 (y : Int), .int .i64 (z : Int)] 53)
  have hcon := Lib.hid (Contains_mats A n c m (x, y, z) _ (h.alloc (.cells #[.int .i64 (x : Int), .int .i64 (y : Int), .int .i64 (z : Int)] 53)) hb)
  clear h hb
  go_enter Try.func29, Try.ntmps29
  go_wp2_with (go_at_call 27; refine hcon.out.mono ?_; rintro e w' ⟨rfl, hb2⟩)
  go_ret
  exact ⟨rfl, hb0.trans (hb2.mono hb0.size)⟩
theorem excl_pred (g : Nat) (A : Option Addr) (n c : Nat) (m l : List Mat) (w : World) (h : MS w A n c m) (hg : g < w.heap.size) (hc : w.cell? ⟨g, 0, none⟩ = some (.slice A n c)) :
    PredM 29 #[.pointer (some ⟨g, 0, none⟩)] (fun x => !decide (x ∈ m)) l w := fun W x _ hb =>
  excl_any x.1 x.2.1 x.2.2 g A n c m W (h.below hb (Nat.le_refl _)) (Nat.lt_of_lt_of_le hg hb.size) ((hb.cell (p := ⟨g, 0, none⟩) hg).trans hc) rfl

set_option maxRecDepth 100000 in
set_option maxHeartbeats 1600000 in
theorem lawExch_long (A : Option Addr) (n c : Nat) (A2 : Option Addr) (n2 c2 : Nat) (r0 r1 r2 r3 : Int) (w : World) (hn : n ≤ 9223372036854775807) (hn2 : n2 ≤ 9223372036854775807) (hl : 20 < n ∨ 20 < n2) :
    Calls Try.prog 9 #[.slice A n c, .slice A2 n2 c2, .agg #[.int .u8 r0, .int .u8 r1, .int .u8 r2, .int .u8 r3]] w fun e w' => e = .returned (.bool true) ∧ Below w.heap.size w w' := by
  have hk := Lib.hid (known_any (w.alloc (.cells #[.int .u8 r0, .int .u8 r1, .int .u8 r2, .int .u8 r3] 56)))
  have hb0 : Below w.heap.size w (w.alloc (.cells #[.int .u8 r0, .int .u8 r1, .int .u8 r2, .int .u8 r3] 56)) := (Below.refl _ _).alloc (Nat.le_refl _) _
  by_cases h1 : 20 < n
  · have hi : (20 : Int) < (n : Int) := by omega
    clear hl
    go_enter Try.func9, Try.ntmps9
    go_wp2_with (go_at_call 11; refine hk.out.mono ?_; rintro e w1 ⟨rfl, hbw⟩)
    go_ret
    exact ⟨rfl, hb0.trans (hbw.mono hb0.size)⟩
  · have hi : ¬ (20 : Int) < (n : Int) := by omega
    have hi2 : (20 : Int) < (n2 : Int) := by omega
    clear hl
    go_enter Try.func9, Try.ntmps9
    go_wp2_with (go_at_call 11; refine hk.out.mono ?_; rintro e w1 ⟨rfl, hbw⟩)
    go_ret
    exact ⟨rfl, hb0.trans (hbw.mono hb0.size)⟩

set_option maxRecDepth 100000 in
set_option maxHeartbeats 3200000 in
theorem lawExch_ok (A : Option Addr) (n c : Nat) (a : List Nat) (A2 : Option Addr) (n2 c2 : Nat) (b : List Nat) (r0 r1 r2 r3 : Nat) (w : World) (h : WS w A n c a) (h2 : WS w A2 n2 c2 b) (hn : n ≤ 20) (hn2 : n2 ≤ 20) (hr0 : r0 ≤ 255) (hr1 : r1 ≤ 255) (hr2 : r2 ≤ 255) (hr3 : r3 ≤ 255) :
    Calls Try.prog 9 #[.slice A n c, .slice A2 n2 c2, .agg #[.int .u8 (r0 : Int), .int .u8 (r1 : Int), .int .u8 (r2 : Int), .int .u8 (r3 : Int)]] w fun e w' => e = .returned (.bool true) ∧ Below w.heap.size w w' := by
  have hi : ¬ (20 : Int) < (n : Int) := by omega
  have hi2 : ¬ (20 : Int) < (n2 : Int) := by omega
  have hcap := h.le_cap
  have hcl := h.cap_le
  have hcap2 := h2.le_cap
  have hcl2 := h2.cap_le
  obtain ⟨num, hnum⟩ : ∃ x, 1 + r0 = x := ⟨_, rfl⟩
  obtain ⟨den, hden⟩ : ∃ x, 1 + r1 = x := ⟨_, rfl⟩
  obtain ⟨oth, hoth⟩ : ∃ x, 1 + r2 = x := ⟨_, rfl⟩
  obtain ⟨mor, hmor⟩ : ∃ x, 1 + r3 = x := ⟨_, rfl⟩
  have v0 : IntKind.i64.wrap (1 + (r0 : Int)) = (num : Int) := by rw [IntWalk.i64_left, IntWalk.wrap64_in _ (by omega)]; omega
  have v1 : IntKind.i64.wrap (1 + (r1 : Int)) = (den : Int) := by rw [IntWalk.i64_left, IntWalk.wrap64_in _ (by omega)]; omega
  have v2 : IntKind.i64.wrap (1 + (r2 : Int)) = (oth : Int) := by rw [IntWalk.i64_left, IntWalk.wrap64_in _ (by omega)]; omega
  have v3 : IntKind.i64.wrap (1 + (r3 : Int)) = (mor : Int) := by rw [IntWalk.i64_left, IntWalk.wrap64_in _ (by omega)]; omega
  have hk := Lib.hid (known_any (w.alloc (.cells #[.int .u8 (r0 : Int), .int .u8 (r1 : Int), .int .u8 (r2 : Int), .int .u8 (r3 : Int)] 56)))
  have hb0 : Below w.heap.size w (w.alloc (.cells #[.int .u8 (r0 : Int), .int .u8 (r1 : Int), .int .u8 (r2 : Int), .int .u8 (r3 : Int)] 56)) := (Below.refl _ _).alloc (Nat.le_refl _) _
  have q := fun j => cell_of_row _ w.heap.size j _ _ _ (heap_alloc_new w (.cells #[.int .u8 (r0 : Int), .int .u8 (r1 : Int), .int .u8 (r2 : Int), .int .u8 (r3 : Int)] 56))
  have q0 := q 0
  have q1 := q 1
  have q2 := q 2
  have q3 := q 3
  clear q
  simp only [List.getElem?_toArray, List.getElem?_cons_zero, List.getElem?_cons_succ] at q0 q1 q2 q3
  obtain ⟨W1, hW1⟩ : ∃ W1, w.alloc (.cells #[.int .u8 (r0 : Int), .int .u8 (r1 : Int), .int .u8 (r2 : Int), .int .u8 (r3 : Int)] 56) = W1 := ⟨_, rfl⟩
  have z1 : W1.heap.size = w.heap.size + 1 := by rw [← hW1]; simp
  rw [hW1] at hk hb0 q0 q1 q2 q3
  have keepR : ∀ W, Below W1.heap.size W1 W → W.cell? ⟨w.heap.size, 0, none⟩ = some (.int .u8 (r0 : Int)) ∧ W.cell? ⟨w.heap.size, 1, none⟩ = some (.int .u8 (r1 : Int)) ∧ W.cell? ⟨w.heap.size, 2, none⟩ = some (.int .u8 (r2 : Int)) ∧ W.cell? ⟨w.heap.size, 3, none⟩ = some (.int .u8 (r3 : Int)) := fun W hb =>
    ⟨(hb.cell (p := ⟨w.heap.size, 0, none⟩) (by show w.heap.size < _; omega)).trans q0, (hb.cell (p := ⟨w.heap.size, 1, none⟩) (by show w.heap.size < _; omega)).trans q1, (hb.cell (p := ⟨w.heap.size, 2, none⟩) (by show w.heap.size < _; omega)).trans q2, (hb.cell (p := ⟨w.heap.size, 3, none⟩) (by show w.heap.size < _; omega)).trans q3⟩
  replace keepR := Lib.hid keepR
  have km1 := Lib.hid (fun (W : World) (hb : Below w.heap.size w W) => Matches_ok A n c a A2 n2 c2 b num den W (h.below hb (Nat.le_refl _)) (h2.below hb (Nat.le_refl _)) (by omega) (by omega) (by omega) (by omega))
  have km2 := Lib.hid (fun (W : World) (hb : Below w.heap.size w W) => Matches_ok A2 n2 c2 b A n c a num den W (h2.below hb (Nat.le_refl _)) (h.below hb (Nat.le_refl _)) (by omega) (by omega) (by omega) (by omega))
  have km3 := Lib.hid (fun (W : World) (hb : Below w.heap.size w W) => Matches_ok A n c a A2 n2 c2 b oth mor W (h.below hb (Nat.le_refl _)) (h2.below hb (Nat.le_refl _)) (by omega) (by omega) (by omega) (by omega))
  have hmp : 0 < mor := by omega
  have b0 : num ≤ 256 := by omega
  have b1 : den ≤ 256 := by omega
  have b2 : oth ≤ 256 := by omega
  have b3 : mor ≤ 256 := by omega
  replace z1 := Lib.hid z1
  replace hnum := Lib.hid hnum
  replace hden := Lib.hid hden
  replace hoth := Lib.hid hoth
  replace hmor := Lib.hid hmor
  have tok : True := trivial
  clear h h2 q0 q1 q2 q3
  go_enter Try.func9, Try.ntmps9
  go_wp2_with (go_at_call 11; refine hk.out.mono ?_; rintro e w1 ⟨rfl, hbw⟩)
  obtain ⟨t0, t1, t2, t3⟩ := keepR.out _ hbw
  have hB1 := hb0.trans (hbw.mono hb0.size)
  clear hk
  go_quiet (fail)
  obtain ⟨wq, hwq⟩ : ∃ wq, w1.drewN nq = wq := ⟨_, rfl⟩
  have hbq : Below W1.heap.size W1 wq := by rw [← hwq]; exact below_drewN hbw nq
  have hBq : Below w.heap.size w wq := by rw [← hwq]; exact below_drewN hB1 nq
  clear t0 t1 t2 t3
  go_wp2_with (first
    | (go_at_call 24; clear tok; refine (km1.out _ hBq).mono ?_; rintro e w2 ⟨⟨m, A3, c3, rfl, hret, hm⟩, hb2⟩; obtain ⟨ml, hml⟩ : ∃ ml, m.length = ml := ⟨_, rfl⟩; rw [hml] at hm; replace hret := Lib.hid hret; replace hm := Lib.hid hm; have hB2 := hBq.trans (hb2.mono hBq.size))
    | (go_at_call 24; refine (km2.out _ (hB2.alloc hB2.size _)).mono ?_; rintro e w4 ⟨⟨m2, A4, c4, rfl, hret2, hm2⟩, hb4⟩; have hml2 : m2.length = ml := (hret.out.len_swap hret2).symm.trans hml; rw [hml2] at hm2; replace hret2 := Lib.hid hret2; replace hm2 := Lib.hid hm2; have gm4 := (hb4.cell (p := ⟨w2.heap.size, 0, none⟩) (by simp)).trans (cell_of_row _ w2.heap.size 0 _ _ _ (heap_alloc_new w2 (.cells #[.slice A3 ml c3] 48))); simp only [List.getElem?_toArray, List.getElem?_cons_zero] at gm4; have hgz : w2.heap.size < w4.heap.size := (by have := hb4.size; simp at this; omega)))
  have hB4 : Below w.heap.size w w4 := (hB2.alloc hB2.size (.cells #[.slice A3 ml c3] 48)).trans (hb4.mono (hB2.alloc hB2.size (.cells #[.slice A3 ml c3] 48)).size)
  have hR4 : Below W1.heap.size W1 w4 := ((hbq.trans (hb2.mono hbq.size)).alloc (hbq.trans (hb2.mono hbq.size)).size (.cells #[.slice A3 ml c3] 48)).trans (hb4.mono ((hbq.trans (hb2.mono hbq.size)).alloc (hbq.trans (hb2.mono hbq.size)).size (.cells #[.slice A3 ml c3] 48)).size)
  have hm4 : MS w4 A3 ml c3 m := MS.below (MS.alloc (show MS w2 A3 ml c3 m from hm.out) (.cells #[.slice A3 ml c3] 48)) hb4 (Nat.le_refl _)
  have hn4 : MS w4 A4 ml c4 m2 := hm2.out
  have hmcl := hm4.2.2.1
  have hmcap := hm4.2.1
  replace hm4 := Lib.hid hm4
  replace hn4 := Lib.hid hn4
  obtain ⟨gm, hgm⟩ : ∃ gm, w2.heap.size = gm := ⟨_, rfl⟩
  rw [hgm] at gm4 hgz ⊢
  replace hml := Lib.hid hml
  replace hml2 := Lib.hid hml2
  replace hgm := Lib.hid hgm
  replace gm4 := Lib.hid gm4
  clear hb2 hb4 hm hm2 hbq hBq hB2
  go_loopw [67] (fun i wr => ∃ k : Nat, k ≤ ml ∧ i = .int .i64 (k : Int) ∧ Below w4.heap.size w4 wr) (fun i _ => ml - (intOf i).toNat)
  case atStart => exact ⟨0, Nat.zero_le _, rfl, Below.refl _ _⟩
  case round =>
    obtain ⟨k, hk, rfl, hB⟩ := hrel
    by_cases hlt : k < ml
    · have hki : (k : Int) < (ml : Int) := by omega
      have hs := hm4.out.below hB (Nat.le_refl _)
      obtain ⟨bk, off, rfl, hbw', hc⟩ := hs.at_ (by omega)
      obtain ⟨x0, x1, x2⟩ := hc k hlt
      obtain ⟨⟨a1, a2, a3⟩, hx⟩ : ∃ x, matAt m k = x := ⟨_, rfl⟩
      obtain ⟨u, hu⟩ : ∃ u, k * 3 = u := ⟨_, rfl⟩
      rw [hx, hu] at x0 x1 x2
      have hmem : ((a1, a2, a3) : Mat) ∈ m := by rw [← hx, matAt_eq (by rw [hml.out]; exact hlt)]; exact List.getElem_mem _
      have hsw := hret.out.swap_mem hret2.out hmem
      have hct := Lib.hid (fun W (hb : Below w4.heap.size w4 W) => Contains_mats A4 ml c4 m2 (a2, a1, a3) W (hn4.out.below hb (Nat.le_refl _)) (b := true) (decide_eq_true hsw))
      have hsz := hB.size
      replace hx := Lib.hid hx
      replace hmem := Lib.hid hmem
      replace hsw := Lib.hid hsw
      clear hc hs
      go_wp2_with (go_at_call 27; refine (hct.out _ (hB.alloc hsz _)).mono ?_; rintro e w5 ⟨rfl, hb5⟩)
      have hB5 := (hB.alloc hsz (.cells #[.int .i64 (a1 : Int), .int .i64 (a2 : Int), .int .i64 (a3 : Int)] 53)).trans (hb5.mono (hB.alloc hsz (.cells #[.int .i64 (a1 : Int), .int .i64 (a2 : Int), .int .i64 (a3 : Int)] 53)).size)
      go_roundw
      case rel => exact ⟨k + 1, hlt, by go_num, hB5⟩
      case measure => simp [intOf]; omega
    · obtain rfl : k = ml := by omega
      have hki : ¬ (k : Int) < (k : Int) := by omega
      obtain ⟨t0, t1, t2, t3⟩ := keepR.out _ (hR4.trans (hB.mono hR4.size))
      have hB6 := hB4.trans (hB.mono hB4.size)
      have gm6 := (hB.cell (p := ⟨gm, 0, none⟩) hgz).trans gm4.out
      have hg6 : gm < wr.heap.size := Nat.lt_of_lt_of_le hgz hB.size
      have hm6 := hm4.out.below hB (Nat.le_refl _)
      obtain ⟨p1, hp1⟩ : ∃ p, oth * den = p := ⟨_, rfl⟩
      obtain ⟨p2, hp2⟩ : ∃ p, num * mor = p := ⟨_, rfl⟩
      have hp1i : (oth : Int) * (den : Int) = (p1 : Int) := by rw [← hp1]; simp
      have hp2i : (num : Int) * (mor : Int) = (p2 : Int) := by rw [← hp2]; simp
      have hp1b : p1 ≤ 256 * 256 := by rw [← hp1]; exact Nat.mul_le_mul b2 b1
      have hp2b : p2 ≤ 256 * 256 := by rw [← hp2]; exact Nat.mul_le_mul b0 b3
      replace hp1 := Lib.hid hp1
      replace hp2 := Lib.hid hp2
      have eg := enters_excl
      go_wp2
      go_quiet (fail)
      by_cases hpp : p2 < p1
      · have hppi : (p2 : Int) < (p1 : Int) := by omega
        go_wp2
        go_ret
        exact ⟨rfl, below_drewN hB6 _⟩
      · have hppi : ¬ (p2 : Int) < (p1 : Int) := by omega
        have hle : Hid (oth * den ≤ num * mor) := Lib.hid (by rw [hp1.out, hp2.out]; omega)
        clear t0 t1 t2 t3
        go_wp2_with (first
          | (go_at_call 24; refine (km3.out _ (below_drewN hB6 nq)).mono ?_; rintro e w7 ⟨⟨m3, A5, c5, rfl, hret3, hm7⟩, hb7⟩; obtain ⟨ml3, hml3⟩ : ∃ ml, m3.length = ml := ⟨_, rfl⟩; rw [hml3] at hm7; have hb7' := undrewN hb7; have hz7 := hb7'.size; have gm7 := (hb7'.cell (p := ⟨gm, 0, none⟩) hg6).trans gm6; have hm7m := hm6.below hb7' (Nat.le_refl _); have hany : m3.any (fun x => !decide (x ∈ m)) = false := (by rw [List.any_eq_false]; intro x hx; have := hret.out.less hret3 hle.out hmp hx; simp [this]); have hcf := Lib.hid (ContainsFunc_mats _ _ (fun x => !decide (x ∈ m)) enters_excl A5 ml3 c5 m3 w7 hm7 (excl_pred gm A3 k c3 m m3 w7 hm7m (by omega) gm7) hany); clear hm7 hm7m hany hret3)
          | (go_at_call 28; refine hcf.out.mono ?_; rintro e w8 ⟨rfl, hb8⟩))
        go_ret
        exact ⟨rfl, (hB6.trans (hb7'.mono hB6.size)).trans (hb8.mono (hB6.trans (hb7'.mono hB6.size)).size)⟩

theorem lawExch_any (A : Option Addr) (n c : Nat) (a : List Nat) (A2 : Option Addr) (n2 c2 : Nat) (b : List Nat) (r0 r1 r2 r3 : Int) (w : World) (h : WS w A n c a) (h2 : WS w A2 n2 c2 b) (hr0 : 0 ≤ r0 ∧ r0 ≤ 255) (hr1 : 0 ≤ r1 ∧ r1 ≤ 255) (hr2 : 0 ≤ r2 ∧ r2 ≤ 255) (hr3 : 0 ≤ r3 ∧ r3 ≤ 255) :
    Calls Try.prog 9 #[.slice A n c, .slice A2 n2 c2, .agg #[.int .u8 r0, .int .u8 r1, .int .u8 r2, .int .u8 r3]] w fun e w' => e = .returned (.bool true) ∧ Below w.heap.size w w' := by
  have q1 := h.le_cap
  have q2 := h.cap_le
  have q3 := h2.le_cap
  have q4 := h2.cap_le
  by_cases hl : 20 < n ∨ 20 < n2
  · exact lawExch_long A n c A2 n2 c2 r0 r1 r2 r3 w (by omega) (by omega) hl
  · obtain ⟨x0, rfl⟩ : ∃ x : Nat, r0 = (x : Int) := ⟨r0.toNat, by omega⟩
    obtain ⟨x1, rfl⟩ : ∃ x : Nat, r1 = (x : Int) := ⟨r1.toNat, by omega⟩
    obtain ⟨x2, rfl⟩ : ∃ x : Nat, r2 = (x : Int) := ⟨r2.toNat, by omega⟩
    obtain ⟨x3, rfl⟩ : ∃ x : Nat, r3 = (x : Int) := ⟨r3.toNat, by omega⟩
    exact lawExch_ok A n c a A2 n2 c2 b x0 x1 x2 x3 w h h2 (by omega) (by omega) (by omega) (by omega) (by omega) (by omega)

end Go.Proofs.Ytofoiocpopmifaa
