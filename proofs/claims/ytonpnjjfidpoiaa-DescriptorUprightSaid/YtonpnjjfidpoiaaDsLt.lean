/-
  Walk: the law of turned patterns.
-/
import Derived.Test.YtonpnjjfidpoiaaDsTa
import Derived.Test.YtonpnjjfidpoiaaDsRt
import Derived.Test.YtonpnjjfidpoiaaDsLw
import Derived.Test.YtonpnjjfidpoiaaDsLf
set_option linter.unusedSimpArgs false
set_option linter.unusedVariables false
namespace Go.Proofs.Ytonpnjjfidpoiaa
open Go.RowKit

theorem lturned_pat {A : Option Addr} {n c : Nat} {l : List Tst} {w : World} (h : PS w A n c l) (hp : pat l = true) :
    Calls Try.prog 27 #[.slice A n c] w fun e w' => (∃ A2 c2, e = .returned (.slice A2 n c2) ∧ PS w' A2 n c2 (l.map trT)) ∧ Below w.heap.size w w' := by
  have := pat_iff.1 hp
  rw [← h.len] at this
  exact lturned_any A n c l w h (by omega) (by rw [← h.len]; exact this.2)
theorem tEqual_at {A : Option Addr} {n c : Nat} {l : List Tst} {A2 : Option Addr} {n2 c2 : Nat} {l2 : List Tst} {w : World} (h : PS w A n c l) (h2 : PS w A2 n2 c2 l2) {r : Bool} (hr : eqp l l2 = r) :
    Calls Try.prog 26 #[.slice A n c, .slice A2 n2 c2] w fun e w' => e = .returned (.bool r) ∧ Below w.heap.size w w' := hr ▸ tEqual_any A n c l A2 n2 c2 l2 w h h2
theorem rTurn_sl {a b : Nat} {M : Int} {A : Option Addr} {n c : Nat} {P : List Int} {w : World} (h : Sl w A n c P) (hr : Ras a b M P) :
    Calls Try.prog 29 #[.agg #[.int .i64 a, .int .i64 b, .int .i64 M, .slice A n c]] w fun e w' => (∃ A2 n2 c2, e = .returned (.agg #[.int .i64 b, .int .i64 a, .int .i64 M, .slice A2 n2 c2]) ∧ Sl w' A2 n2 c2 (turned a b P)) ∧ Below w.heap.size w w' := by
  refine (rTurn_any a b M A n c P w h hr).mono ?_
  rintro e w' ⟨g, n2, c2, rfl, -, hbl, hn, hc, hcm, hb⟩
  simp only [Int.toNat_natCast] at hbl hn
  refine ⟨⟨_, n2, c2, rfl, ?_⟩, hb⟩
  have := hbl.sl (off := 0) (n := n2) (by omega) hc hcm
  rw [List.drop_zero, List.take_of_length_le (by omega)] at this
  exact this
theorem ins_turn {a b : Nat} {x y : Int} : ins b a y ((a : Int) - 1 - x) = ins a b x y := by
  rw [Bool.eq_iff_iff, ins_iff, ins_iff]
  omega
theorem map_trT3 (l : List Tst) : (((l.map trT).map trT).map trT).map trT = l := map_trT4 l

set_option maxRecDepth 100000 in
set_option maxHeartbeats 6400000 in
theorem turns_many (W H : Int) (M : Int) (A : Option Addr) (n c : Nat) (P : List Int) (A2 : Option Addr) (n2 c2 : Nat) (l : List Tst) (x y : Int) (w : World) (h : Sl w A n c P) (h2 : PS w A2 n2 c2 l) (hm : false = decide (n ≤ 600 ∧ n2 ≤ 70)) :
    Calls Try.prog 7 #[.agg #[.int .i64 W, .int .i64 H, .int .i64 M, .slice A n c], .slice A2 n2 c2, .agg #[.int .i64 x, .int .i64 y]] w fun e w' => e = .returned (.bool true) ∧ Below w.heap.size w w' := by
  have hcap := h.le_cap
  have hcl := h.cap_le
  have hcap2 := h2.le_cap
  have hcl2 := h2.cap_le
  have hlen2 := Lib.hid h2.len
  have hs := Lib.hid (fun w' (hb : Below w.heap.size w w') => h.below hb (Nat.le_refl _))
  have hp := Lib.hid (fun w' (hb : Below w.heap.size w w') => h2.below hb (Nat.le_refl _))
  have hB0 := ((Below.refl w.heap.size w).alloc (by first | exact Nat.le_refl _ | (simp <;> omega)) (.cells #[.int .i64 W, .int .i64 H, .int .i64 M, .slice A n c] 37)).alloc (by first | exact Nat.le_refl _ | (simp <;> omega)) (.cells #[.int .i64 x, .int .i64 y] 38)
  have k0 : KB _ _ _ _ := ((KB.new w #[.int .i64 W, .int .i64 H, .int .i64 M, .slice A n c] 37).alloc (.cells #[.int .i64 x, .int .i64 y] 38))
  have k1 : KB _ _ _ _ := (KB.new (w.alloc (.cells #[.int .i64 W, .int .i64 H, .int .i64 M, .slice A n c] 37)) #[.int .i64 x, .int .i64 y] 38)
  simp only [World.size_alloc] at k1
  clear h h2
  replace hm := Lib.hid hm
  go_enter Try.func7, Try.ntmps7
  go_wp2_with (first
    | (go_at_call 11; refine (known_any _).mono ?_; rintro e w1 ⟨rfl, hb1⟩; (try simp only [World.size_alloc] at hb1); have z1 := hb1.size; (try simp only [World.size_alloc] at z1); replace k0 := k0.below hb1 (by omega); replace k1 := k1.below hb1 (by omega); have hB1 := Below.trans hB0 (hb1.mono (by omega)); have k0_0 := k0.cell 0 rfl; have k0_1 := k0.cell 1 rfl; have k0_2 := k0.cell 2 rfl; have k0_3 := k0.cell 3 rfl; have k1_0 := k1.cell 0 rfl; have k1_1 := k1.cell 1 rfl)
    | (go_at_call 17; refine (few_any W H M A n c A2 n2 c2 _ (by omega) (by omega) hm.out).mono ?_; rintro e w2 ⟨rfl, hb2⟩; (try simp only [World.size_alloc] at hb2); have z2 := hb2.size; (try simp only [World.size_alloc] at z2); replace k0 := k0.below hb2 (by omega); replace k1 := k1.below hb2 (by omega); have hB2 := Below.trans hB1 (hb2.mono (by omega)); clear k0_0 k0_1 k0_2 k0_3 k1_0 k1_1; have k0_0 := k0.cell 0 rfl; have k0_1 := k0.cell 1 rfl; have k0_2 := k0.cell 2 rfl; have k0_3 := k0.cell 3 rfl; have k1_0 := k1.cell 0 rfl; have k1_1 := k1.cell 1 rfl))
  go_ret
  exact ⟨rfl, hB2⟩

set_option maxRecDepth 100000 in
set_option maxHeartbeats 6400000 in
theorem turns_bad (W H : Int) (M : Int) (A : Option Addr) (n c : Nat) (P : List Int) (A2 : Option Addr) (n2 c2 : Nat) (l : List Tst) (x y : Int) (w : World) (h : Sl w A n c P) (h2 : PS w A2 n2 c2 l) (hm : true = decide (n ≤ 600 ∧ n2 ≤ 70)) (hl : pat l = false) :
    Calls Try.prog 7 #[.agg #[.int .i64 W, .int .i64 H, .int .i64 M, .slice A n c], .slice A2 n2 c2, .agg #[.int .i64 x, .int .i64 y]] w fun e w' => e = .returned (.bool true) ∧ Below w.heap.size w w' := by
  have hcap := h.le_cap
  have hcl := h.cap_le
  have hcap2 := h2.le_cap
  have hcl2 := h2.cap_le
  have hlen2 := Lib.hid h2.len
  have hs := Lib.hid (fun w' (hb : Below w.heap.size w w') => h.below hb (Nat.le_refl _))
  have hp := Lib.hid (fun w' (hb : Below w.heap.size w w') => h2.below hb (Nat.le_refl _))
  have hB0 := ((Below.refl w.heap.size w).alloc (by first | exact Nat.le_refl _ | (simp <;> omega)) (.cells #[.int .i64 W, .int .i64 H, .int .i64 M, .slice A n c] 37)).alloc (by first | exact Nat.le_refl _ | (simp <;> omega)) (.cells #[.int .i64 x, .int .i64 y] 38)
  have k0 : KB _ _ _ _ := ((KB.new w #[.int .i64 W, .int .i64 H, .int .i64 M, .slice A n c] 37).alloc (.cells #[.int .i64 x, .int .i64 y] 38))
  have k1 : KB _ _ _ _ := (KB.new (w.alloc (.cells #[.int .i64 W, .int .i64 H, .int .i64 M, .slice A n c] 37)) #[.int .i64 x, .int .i64 y] 38)
  simp only [World.size_alloc] at k1
  clear h h2
  replace hm := Lib.hid hm
  replace hl := Lib.hid hl
  go_enter Try.func7, Try.ntmps7
  go_wp2_with (first
    | (go_at_call 11; refine (known_any _).mono ?_; rintro e w1 ⟨rfl, hb1⟩; (try simp only [World.size_alloc] at hb1); have z1 := hb1.size; (try simp only [World.size_alloc] at z1); replace k0 := k0.below hb1 (by omega); replace k1 := k1.below hb1 (by omega); have hB1 := Below.trans hB0 (hb1.mono (by omega)); have k0_0 := k0.cell 0 rfl; have k0_1 := k0.cell 1 rfl; have k0_2 := k0.cell 2 rfl; have k0_3 := k0.cell 3 rfl; have k1_0 := k1.cell 0 rfl; have k1_1 := k1.cell 1 rfl)
    | (go_at_call 17; refine (few_any W H M A n c A2 n2 c2 _ (by omega) (by omega) hm.out).mono ?_; rintro e w2 ⟨rfl, hb2⟩; (try simp only [World.size_alloc] at hb2); have z2 := hb2.size; (try simp only [World.size_alloc] at z2); replace k0 := k0.below hb2 (by omega); replace k1 := k1.below hb2 (by omega); have hB2 := Below.trans hB1 (hb2.mono (by omega)); clear k0_0 k0_1 k0_2 k0_3 k1_0 k1_1; have k0_0 := k0.cell 0 rfl; have k0_1 := k0.cell 1 rfl; have k0_2 := k0.cell 2 rfl; have k0_3 := k0.cell 3 rfl; have k1_0 := k1.cell 0 rfl; have k1_1 := k1.cell 1 rfl)
    | (go_at_call 25; refine (Turned_bad A2 n2 c2 l _ (hp.out _ hB2) hl.out).mono ?_; rintro e w3 ⟨rfl, hb3⟩; (try simp only [World.size_alloc] at hb3); have z3 := hb3.size; (try simp only [World.size_alloc] at z3); replace k0 := k0.below hb3 (by omega); replace k1 := k1.below hb3 (by omega); have hB3 := Below.trans hB2 (hb3.mono (by omega)); clear k0_0 k0_1 k0_2 k0_3 k1_0 k1_1; have k0_0 := k0.cell 0 rfl; have k0_1 := k0.cell 1 rfl; have k0_2 := k0.cell 2 rfl; have k0_3 := k0.cell 3 rfl; have k1_0 := k1.cell 0 rfl; have k1_1 := k1.cell 1 rfl)
    | (go_at_call 13; refine (pattern_at (hp.out _ hB3) hl.out).mono ?_; rintro e w4 ⟨rfl, hb4⟩; (try simp only [World.size_alloc] at hb4); have z4 := hb4.size; (try simp only [World.size_alloc] at z4); replace k0 := k0.below hb4 (by omega); replace k1 := k1.below hb4 (by omega); have hB4 := Below.trans hB3 (hb4.mono (by omega)); clear k0_0 k0_1 k0_2 k0_3 k1_0 k1_1; have k0_0 := k0.cell 0 rfl; have k0_1 := k0.cell 1 rfl; have k0_2 := k0.cell 2 rfl; have k0_3 := k0.cell 3 rfl; have k1_0 := k1.cell 0 rfl; have k1_1 := k1.cell 1 rfl))
  go_ret
  exact ⟨rfl, hB4⟩

set_option maxRecDepth 100000 in
set_option maxHeartbeats 6400000 in
theorem turns_noras (W H : Int) (M : Int) (A : Option Addr) (n c : Nat) (P : List Int) (A2 : Option Addr) (n2 c2 : Nat) (l : List Tst) (x y : Int) (w : World) (h : Sl w A n c P) (h2 : PS w A2 n2 c2 l) (hm : true = decide (n ≤ 600 ∧ n2 ≤ 70)) (hl : pat l = true) (hr : ¬ Ras W H M P) :
    Calls Try.prog 7 #[.agg #[.int .i64 W, .int .i64 H, .int .i64 M, .slice A n c], .slice A2 n2 c2, .agg #[.int .i64 x, .int .i64 y]] w fun e w' => e = .returned (.bool true) ∧ Below w.heap.size w w' := by
  have hcap := h.le_cap
  have hcl := h.cap_le
  have hcap2 := h2.le_cap
  have hcl2 := h2.cap_le
  have hlen2 := Lib.hid h2.len
  have hs := Lib.hid (fun w' (hb : Below w.heap.size w w') => h.below hb (Nat.le_refl _))
  have hp := Lib.hid (fun w' (hb : Below w.heap.size w w') => h2.below hb (Nat.le_refl _))
  have hB0 := ((Below.refl w.heap.size w).alloc (by first | exact Nat.le_refl _ | (simp <;> omega)) (.cells #[.int .i64 W, .int .i64 H, .int .i64 M, .slice A n c] 37)).alloc (by first | exact Nat.le_refl _ | (simp <;> omega)) (.cells #[.int .i64 x, .int .i64 y] 38)
  have k0 : KB _ _ _ _ := ((KB.new w #[.int .i64 W, .int .i64 H, .int .i64 M, .slice A n c] 37).alloc (.cells #[.int .i64 x, .int .i64 y] 38))
  have k1 : KB _ _ _ _ := (KB.new (w.alloc (.cells #[.int .i64 W, .int .i64 H, .int .i64 M, .slice A n c] 37)) #[.int .i64 x, .int .i64 y] 38)
  simp only [World.size_alloc] at k1
  clear h h2
  have hl1 := Lib.hid (pat_trT hl)
  have hl2 := Lib.hid (pat_trT hl1.out)
  have hl3 := Lib.hid (pat_trT hl2.out)
  have hn70 : n2 ≤ 70 := by have := of_decide_eq_true hm.symm; omega
  replace hm := Lib.hid hm
  replace hl := Lib.hid hl
  replace hr := Lib.hid hr
  have tokA : True := trivial
  have tokB : True := trivial
  have tokC : True := trivial
  have tokD : True := trivial
  have tokE : True := trivial
  go_enter Try.func7, Try.ntmps7
  go_wp2_with (first
    | (go_at_call 11; refine (known_any _).mono ?_; rintro e w1 ⟨rfl, hb1⟩; (try simp only [World.size_alloc] at hb1); have z1 := hb1.size; (try simp only [World.size_alloc] at z1); replace k0 := k0.below hb1 (by omega); replace k1 := k1.below hb1 (by omega); have hB1 := Below.trans hB0 (hb1.mono (by omega)); have k0_0 := k0.cell 0 rfl; have k0_1 := k0.cell 1 rfl; have k0_2 := k0.cell 2 rfl; have k0_3 := k0.cell 3 rfl; have k1_0 := k1.cell 0 rfl; have k1_1 := k1.cell 1 rfl)
    | (go_at_call 17; refine (few_any W H M A n c A2 n2 c2 _ (by omega) (by omega) hm.out).mono ?_; rintro e w2 ⟨rfl, hb2⟩; (try simp only [World.size_alloc] at hb2); have z2 := hb2.size; (try simp only [World.size_alloc] at z2); replace k0 := k0.below hb2 (by omega); replace k1 := k1.below hb2 (by omega); have hB2 := Below.trans hB1 (hb2.mono (by omega)); clear k0_0 k0_1 k0_2 k0_3 k1_0 k1_1; have k0_0 := k0.cell 0 rfl; have k0_1 := k0.cell 1 rfl; have k0_2 := k0.cell 2 rfl; have k0_3 := k0.cell 3 rfl; have k1_0 := k1.cell 0 rfl; have k1_1 := k1.cell 1 rfl)
    | (go_at_call 25; refine (Turned_ok A2 n2 c2 l _ (hp.out _ hB2) hl.out).mono ?_; rintro e w3 ⟨gq, rfl, hpb, hb3⟩; (try simp only [World.size_alloc] at hb3); have z3 := hb3.size; (try simp only [World.size_alloc] at z3); replace k0 := k0.below hb3 (by omega); replace k1 := k1.below hb3 (by omega); have hB3 := Below.trans hB2 (hb3.mono (by omega)); clear k0_0 k0_1 k0_2 k0_3 k1_0 k1_1; have k0_0 := k0.cell 0 rfl; have k0_1 := k0.cell 1 rfl; have k0_2 := k0.cell 2 rfl; have k0_3 := k0.cell 3 rfl; have k1_0 := k1.cell 0 rfl; have k1_1 := k1.cell 1 rfl; have hq := Lib.hid (hpb.ps (n := n2) (by rw [List.length_map]; exact hlen2.out) (by omega)); clear hpb)
    | (go_at_call 13; clear tokA; refine (pattern_at (hp.out _ hB3) hl.out).mono ?_; rintro e w4 ⟨rfl, hb4⟩; (try simp only [World.size_alloc] at hb4); have z4 := hb4.size; (try simp only [World.size_alloc] at z4); replace k0 := k0.below hb4 (by omega); replace k1 := k1.below hb4 (by omega); have hB4 := Below.trans hB3 (hb4.mono (by omega)); clear k0_0 k0_1 k0_2 k0_3 k1_0 k1_1; have k0_0 := k0.cell 0 rfl; have k0_1 := k0.cell 1 rfl; have k0_2 := k0.cell 2 rfl; have k0_3 := k0.cell 3 rfl; have k1_0 := k1.cell 0 rfl; have k1_1 := k1.cell 1 rfl; replace hq := Lib.hid (hq.out.below hb4 (Nat.le_refl _)))
    | (go_at_call 27; clear tokB; refine (lturned_pat (hp.out _ hB4) hl.out).mono ?_; rintro e w5 ⟨⟨A5, c5, rfl, ht5⟩, hb5⟩; (try simp only [World.size_alloc] at hb5); have z5 := hb5.size; (try simp only [World.size_alloc] at z5); replace k0 := k0.below hb5 (by omega); replace k1 := k1.below hb5 (by omega); have hB5 := Below.trans hB4 (hb5.mono (by omega)); clear k0_0 k0_1 k0_2 k0_3 k1_0 k1_1; have k0_0 := k0.cell 0 rfl; have k0_1 := k0.cell 1 rfl; have k0_2 := k0.cell 2 rfl; have k0_3 := k0.cell 3 rfl; have k1_0 := k1.cell 0 rfl; have k1_1 := k1.cell 1 rfl; replace hq := Lib.hid (hq.out.below hb5 (Nat.le_refl _)); replace ht5 := Lib.hid ht5)
    | (go_at_call 26; clear tokC; refine (tEqual_at hq.out ht5.out (r := true) (decide_eq_true rfl)).mono ?_; rintro e w6 ⟨rfl, hb6⟩; (try simp only [World.size_alloc] at hb6); have z6 := hb6.size; (try simp only [World.size_alloc] at z6); replace k0 := k0.below hb6 (by omega); replace k1 := k1.below hb6 (by omega); have hB6 := Below.trans hB5 (hb6.mono (by omega)); clear k0_0 k0_1 k0_2 k0_3 k1_0 k1_1; have k0_0 := k0.cell 0 rfl; have k0_1 := k0.cell 1 rfl; have k0_2 := k0.cell 2 rfl; have k0_3 := k0.cell 3 rfl; have k1_0 := k1.cell 0 rfl; have k1_1 := k1.cell 1 rfl; replace hq := Lib.hid (hq.out.below hb6 (Nat.le_refl _)))
    | (go_at_call 13; refine (pattern_at hq.out hl1.out).mono ?_; rintro e w7 ⟨rfl, hb7⟩; (try simp only [World.size_alloc] at hb7); have z7 := hb7.size; (try simp only [World.size_alloc] at z7); replace k0 := k0.below hb7 (by omega); replace k1 := k1.below hb7 (by omega); have hB7 := Below.trans hB6 (hb7.mono (by omega)); clear k0_0 k0_1 k0_2 k0_3 k1_0 k1_1; have k0_0 := k0.cell 0 rfl; have k0_1 := k0.cell 1 rfl; have k0_2 := k0.cell 2 rfl; have k0_3 := k0.cell 3 rfl; have k1_0 := k1.cell 0 rfl; have k1_1 := k1.cell 1 rfl; replace hq := Lib.hid (hq.out.below hb7 (Nat.le_refl _)))
    | (go_at_call 27; clear tokD; refine (lturned_pat hq.out hl1.out).mono ?_; rintro e w8 ⟨⟨A6, c6, rfl, ht6⟩, hb8⟩; (try simp only [World.size_alloc] at hb8); have z8 := hb8.size; (try simp only [World.size_alloc] at z8); replace k0 := k0.below hb8 (by omega); replace k1 := k1.below hb8 (by omega); have hB8 := Below.trans hB7 (hb8.mono (by omega)); clear k0_0 k0_1 k0_2 k0_3 k1_0 k1_1; have k0_0 := k0.cell 0 rfl; have k0_1 := k0.cell 1 rfl; have k0_2 := k0.cell 2 rfl; have k0_3 := k0.cell 3 rfl; have k1_0 := k1.cell 0 rfl; have k1_1 := k1.cell 1 rfl; replace hq := Lib.hid (hq.out.below hb8 (Nat.le_refl _)); replace ht6 := Lib.hid ht6)
    | (go_at_call 27; clear tokE; refine (lturned_pat ht6.out hl2.out).mono ?_; rintro e w9 ⟨⟨A7, c7, rfl, ht7⟩, hb9⟩; (try simp only [World.size_alloc] at hb9); have z9 := hb9.size; (try simp only [World.size_alloc] at z9); replace k0 := k0.below hb9 (by omega); replace k1 := k1.below hb9 (by omega); have hB9 := Below.trans hB8 (hb9.mono (by omega)); clear k0_0 k0_1 k0_2 k0_3 k1_0 k1_1; have k0_0 := k0.cell 0 rfl; have k0_1 := k0.cell 1 rfl; have k0_2 := k0.cell 2 rfl; have k0_3 := k0.cell 3 rfl; have k1_0 := k1.cell 0 rfl; have k1_1 := k1.cell 1 rfl; replace hq := Lib.hid (hq.out.below hb9 (Nat.le_refl _)); replace ht7 := Lib.hid ht7)
    | (go_at_call 27; refine (lturned_pat ht7.out hl3.out).mono ?_; rintro e w10 ⟨⟨A8, c8, rfl, ht8⟩, hb10⟩; (try simp only [World.size_alloc] at hb10); have z10 := hb10.size; (try simp only [World.size_alloc] at z10); replace k0 := k0.below hb10 (by omega); replace k1 := k1.below hb10 (by omega); have hB10 := Below.trans hB9 (hb10.mono (by omega)); clear k0_0 k0_1 k0_2 k0_3 k1_0 k1_1; have k0_0 := k0.cell 0 rfl; have k0_1 := k0.cell 1 rfl; have k0_2 := k0.cell 2 rfl; have k0_3 := k0.cell 3 rfl; have k1_0 := k1.cell 0 rfl; have k1_1 := k1.cell 1 rfl; replace hq := Lib.hid (hq.out.below hb10 (Nat.le_refl _)); replace ht8 := Lib.hid ht8)
    | (go_at_call 26; refine (tEqual_at ht8.out (hp.out _ hB10) (r := true) (decide_eq_true (map_trT3 l))).mono ?_; rintro e w11 ⟨rfl, hb11⟩; (try simp only [World.size_alloc] at hb11); have z11 := hb11.size; (try simp only [World.size_alloc] at z11); replace k0 := k0.below hb11 (by omega); replace k1 := k1.below hb11 (by omega); have hB11 := Below.trans hB10 (hb11.mono (by omega)); clear k0_0 k0_1 k0_2 k0_3 k1_0 k1_1; have k0_0 := k0.cell 0 rfl; have k0_1 := k0.cell 1 rfl; have k0_2 := k0.cell 2 rfl; have k0_3 := k0.cell 3 rfl; have k1_0 := k1.cell 0 rfl; have k1_1 := k1.cell 1 rfl; replace hq := Lib.hid (hq.out.below hb11 (Nat.le_refl _)))
    | (go_at_call 28; refine (rCheck_no (hs.out _ hB11) hr.out).mono ?_; rintro e w12 ⟨rfl, hb12⟩; (try simp only [World.size_alloc] at hb12); have z12 := hb12.size; (try simp only [World.size_alloc] at z12); replace k0 := k0.below hb12 (by omega); replace k1 := k1.below hb12 (by omega); have hB12 := Below.trans hB11 (hb12.mono (by omega)); clear k0_0 k0_1 k0_2 k0_3 k1_0 k1_1; have k0_0 := k0.cell 0 rfl; have k0_1 := k0.cell 1 rfl; have k0_2 := k0.cell 2 rfl; have k0_3 := k0.cell 3 rfl; have k1_0 := k1.cell 0 rfl; have k1_1 := k1.cell 1 rfl))
  go_ret
  exact ⟨rfl, hB12⟩

set_option maxRecDepth 100000 in
set_option maxHeartbeats 6400000 in
theorem turns_out (a b : Nat) (M : Int) (A : Option Addr) (n c : Nat) (P : List Int) (A2 : Option Addr) (n2 c2 : Nat) (l : List Tst) (x y : Int) (w : World) (h : Sl w A n c P) (h2 : PS w A2 n2 c2 l) (hm : true = decide (n ≤ 600 ∧ n2 ≤ 70)) (hl : pat l = true) (hr : Ras a b M P) (hi : ins a b x y = false) :
    Calls Try.prog 7 #[.agg #[.int .i64 a, .int .i64 b, .int .i64 M, .slice A n c], .slice A2 n2 c2, .agg #[.int .i64 x, .int .i64 y]] w fun e w' => e = .returned (.bool true) ∧ Below w.heap.size w w' := by
  have hcap := h.le_cap
  have hcl := h.cap_le
  have hcap2 := h2.le_cap
  have hcl2 := h2.cap_le
  have hlen2 := Lib.hid h2.len
  have hs := Lib.hid (fun w' (hb : Below w.heap.size w w') => h.below hb (Nat.le_refl _))
  have hp := Lib.hid (fun w' (hb : Below w.heap.size w w') => h2.below hb (Nat.le_refl _))
  have hB0 := ((Below.refl w.heap.size w).alloc (by first | exact Nat.le_refl _ | (simp <;> omega)) (.cells #[.int .i64 a, .int .i64 b, .int .i64 M, .slice A n c] 37)).alloc (by first | exact Nat.le_refl _ | (simp <;> omega)) (.cells #[.int .i64 x, .int .i64 y] 38)
  have k0 : KB _ _ _ _ := ((KB.new w #[.int .i64 a, .int .i64 b, .int .i64 M, .slice A n c] 37).alloc (.cells #[.int .i64 x, .int .i64 y] 38))
  have k1 : KB _ _ _ _ := (KB.new (w.alloc (.cells #[.int .i64 a, .int .i64 b, .int .i64 M, .slice A n c] 37)) #[.int .i64 x, .int .i64 y] 38)
  simp only [World.size_alloc] at k1
  clear h h2
  have hl1 := Lib.hid (pat_trT hl)
  have hl2 := Lib.hid (pat_trT hl1.out)
  have hl3 := Lib.hid (pat_trT hl2.out)
  have hn70 : n2 ≤ 70 := by have := of_decide_eq_true hm.symm; omega
  replace hm := Lib.hid hm
  replace hl := Lib.hid hl
  replace hr := Lib.hid hr
  replace hi := Lib.hid hi
  have tokA : True := trivial
  have tokB : True := trivial
  have tokC : True := trivial
  have tokD : True := trivial
  have tokE : True := trivial
  go_enter Try.func7, Try.ntmps7
  go_wp2_with (first
    | (go_at_call 11; refine (known_any _).mono ?_; rintro e w1 ⟨rfl, hb1⟩; (try simp only [World.size_alloc] at hb1); have z1 := hb1.size; (try simp only [World.size_alloc] at z1); replace k0 := k0.below hb1 (by omega); replace k1 := k1.below hb1 (by omega); have hB1 := Below.trans hB0 (hb1.mono (by omega)); have k0_0 := k0.cell 0 rfl; have k0_1 := k0.cell 1 rfl; have k0_2 := k0.cell 2 rfl; have k0_3 := k0.cell 3 rfl; have k1_0 := k1.cell 0 rfl; have k1_1 := k1.cell 1 rfl)
    | (go_at_call 17; refine (few_any a b M A n c A2 n2 c2 _ (by omega) (by omega) hm.out).mono ?_; rintro e w2 ⟨rfl, hb2⟩; (try simp only [World.size_alloc] at hb2); have z2 := hb2.size; (try simp only [World.size_alloc] at z2); replace k0 := k0.below hb2 (by omega); replace k1 := k1.below hb2 (by omega); have hB2 := Below.trans hB1 (hb2.mono (by omega)); clear k0_0 k0_1 k0_2 k0_3 k1_0 k1_1; have k0_0 := k0.cell 0 rfl; have k0_1 := k0.cell 1 rfl; have k0_2 := k0.cell 2 rfl; have k0_3 := k0.cell 3 rfl; have k1_0 := k1.cell 0 rfl; have k1_1 := k1.cell 1 rfl)
    | (go_at_call 25; refine (Turned_ok A2 n2 c2 l _ (hp.out _ hB2) hl.out).mono ?_; rintro e w3 ⟨gq, rfl, hpb, hb3⟩; (try simp only [World.size_alloc] at hb3); have z3 := hb3.size; (try simp only [World.size_alloc] at z3); replace k0 := k0.below hb3 (by omega); replace k1 := k1.below hb3 (by omega); have hB3 := Below.trans hB2 (hb3.mono (by omega)); clear k0_0 k0_1 k0_2 k0_3 k1_0 k1_1; have k0_0 := k0.cell 0 rfl; have k0_1 := k0.cell 1 rfl; have k0_2 := k0.cell 2 rfl; have k0_3 := k0.cell 3 rfl; have k1_0 := k1.cell 0 rfl; have k1_1 := k1.cell 1 rfl; have hq := Lib.hid (hpb.ps (n := n2) (by rw [List.length_map]; exact hlen2.out) (by omega)); clear hpb)
    | (go_at_call 13; clear tokA; refine (pattern_at (hp.out _ hB3) hl.out).mono ?_; rintro e w4 ⟨rfl, hb4⟩; (try simp only [World.size_alloc] at hb4); have z4 := hb4.size; (try simp only [World.size_alloc] at z4); replace k0 := k0.below hb4 (by omega); replace k1 := k1.below hb4 (by omega); have hB4 := Below.trans hB3 (hb4.mono (by omega)); clear k0_0 k0_1 k0_2 k0_3 k1_0 k1_1; have k0_0 := k0.cell 0 rfl; have k0_1 := k0.cell 1 rfl; have k0_2 := k0.cell 2 rfl; have k0_3 := k0.cell 3 rfl; have k1_0 := k1.cell 0 rfl; have k1_1 := k1.cell 1 rfl; replace hq := Lib.hid (hq.out.below hb4 (Nat.le_refl _)))
    | (go_at_call 27; clear tokB; refine (lturned_pat (hp.out _ hB4) hl.out).mono ?_; rintro e w5 ⟨⟨A5, c5, rfl, ht5⟩, hb5⟩; (try simp only [World.size_alloc] at hb5); have z5 := hb5.size; (try simp only [World.size_alloc] at z5); replace k0 := k0.below hb5 (by omega); replace k1 := k1.below hb5 (by omega); have hB5 := Below.trans hB4 (hb5.mono (by omega)); clear k0_0 k0_1 k0_2 k0_3 k1_0 k1_1; have k0_0 := k0.cell 0 rfl; have k0_1 := k0.cell 1 rfl; have k0_2 := k0.cell 2 rfl; have k0_3 := k0.cell 3 rfl; have k1_0 := k1.cell 0 rfl; have k1_1 := k1.cell 1 rfl; replace hq := Lib.hid (hq.out.below hb5 (Nat.le_refl _)); replace ht5 := Lib.hid ht5)
    | (go_at_call 26; clear tokC; refine (tEqual_at hq.out ht5.out (r := true) (decide_eq_true rfl)).mono ?_; rintro e w6 ⟨rfl, hb6⟩; (try simp only [World.size_alloc] at hb6); have z6 := hb6.size; (try simp only [World.size_alloc] at z6); replace k0 := k0.below hb6 (by omega); replace k1 := k1.below hb6 (by omega); have hB6 := Below.trans hB5 (hb6.mono (by omega)); clear k0_0 k0_1 k0_2 k0_3 k1_0 k1_1; have k0_0 := k0.cell 0 rfl; have k0_1 := k0.cell 1 rfl; have k0_2 := k0.cell 2 rfl; have k0_3 := k0.cell 3 rfl; have k1_0 := k1.cell 0 rfl; have k1_1 := k1.cell 1 rfl; replace hq := Lib.hid (hq.out.below hb6 (Nat.le_refl _)))
    | (go_at_call 13; refine (pattern_at hq.out hl1.out).mono ?_; rintro e w7 ⟨rfl, hb7⟩; (try simp only [World.size_alloc] at hb7); have z7 := hb7.size; (try simp only [World.size_alloc] at z7); replace k0 := k0.below hb7 (by omega); replace k1 := k1.below hb7 (by omega); have hB7 := Below.trans hB6 (hb7.mono (by omega)); clear k0_0 k0_1 k0_2 k0_3 k1_0 k1_1; have k0_0 := k0.cell 0 rfl; have k0_1 := k0.cell 1 rfl; have k0_2 := k0.cell 2 rfl; have k0_3 := k0.cell 3 rfl; have k1_0 := k1.cell 0 rfl; have k1_1 := k1.cell 1 rfl; replace hq := Lib.hid (hq.out.below hb7 (Nat.le_refl _)))
    | (go_at_call 27; clear tokD; refine (lturned_pat hq.out hl1.out).mono ?_; rintro e w8 ⟨⟨A6, c6, rfl, ht6⟩, hb8⟩; (try simp only [World.size_alloc] at hb8); have z8 := hb8.size; (try simp only [World.size_alloc] at z8); replace k0 := k0.below hb8 (by omega); replace k1 := k1.below hb8 (by omega); have hB8 := Below.trans hB7 (hb8.mono (by omega)); clear k0_0 k0_1 k0_2 k0_3 k1_0 k1_1; have k0_0 := k0.cell 0 rfl; have k0_1 := k0.cell 1 rfl; have k0_2 := k0.cell 2 rfl; have k0_3 := k0.cell 3 rfl; have k1_0 := k1.cell 0 rfl; have k1_1 := k1.cell 1 rfl; replace hq := Lib.hid (hq.out.below hb8 (Nat.le_refl _)); replace ht6 := Lib.hid ht6)
    | (go_at_call 27; clear tokE; refine (lturned_pat ht6.out hl2.out).mono ?_; rintro e w9 ⟨⟨A7, c7, rfl, ht7⟩, hb9⟩; (try simp only [World.size_alloc] at hb9); have z9 := hb9.size; (try simp only [World.size_alloc] at z9); replace k0 := k0.below hb9 (by omega); replace k1 := k1.below hb9 (by omega); have hB9 := Below.trans hB8 (hb9.mono (by omega)); clear k0_0 k0_1 k0_2 k0_3 k1_0 k1_1; have k0_0 := k0.cell 0 rfl; have k0_1 := k0.cell 1 rfl; have k0_2 := k0.cell 2 rfl; have k0_3 := k0.cell 3 rfl; have k1_0 := k1.cell 0 rfl; have k1_1 := k1.cell 1 rfl; replace hq := Lib.hid (hq.out.below hb9 (Nat.le_refl _)); replace ht7 := Lib.hid ht7)
    | (go_at_call 27; refine (lturned_pat ht7.out hl3.out).mono ?_; rintro e w10 ⟨⟨A8, c8, rfl, ht8⟩, hb10⟩; (try simp only [World.size_alloc] at hb10); have z10 := hb10.size; (try simp only [World.size_alloc] at z10); replace k0 := k0.below hb10 (by omega); replace k1 := k1.below hb10 (by omega); have hB10 := Below.trans hB9 (hb10.mono (by omega)); clear k0_0 k0_1 k0_2 k0_3 k1_0 k1_1; have k0_0 := k0.cell 0 rfl; have k0_1 := k0.cell 1 rfl; have k0_2 := k0.cell 2 rfl; have k0_3 := k0.cell 3 rfl; have k1_0 := k1.cell 0 rfl; have k1_1 := k1.cell 1 rfl; replace hq := Lib.hid (hq.out.below hb10 (Nat.le_refl _)); replace ht8 := Lib.hid ht8)
    | (go_at_call 26; refine (tEqual_at ht8.out (hp.out _ hB10) (r := true) (decide_eq_true (map_trT3 l))).mono ?_; rintro e w11 ⟨rfl, hb11⟩; (try simp only [World.size_alloc] at hb11); have z11 := hb11.size; (try simp only [World.size_alloc] at z11); replace k0 := k0.below hb11 (by omega); replace k1 := k1.below hb11 (by omega); have hB11 := Below.trans hB10 (hb11.mono (by omega)); clear k0_0 k0_1 k0_2 k0_3 k1_0 k1_1; have k0_0 := k0.cell 0 rfl; have k0_1 := k0.cell 1 rfl; have k0_2 := k0.cell 2 rfl; have k0_3 := k0.cell 3 rfl; have k1_0 := k1.cell 0 rfl; have k1_1 := k1.cell 1 rfl; replace hq := Lib.hid (hq.out.below hb11 (Nat.le_refl _)))
    | (go_at_call 28; refine (rCheck_ok (hs.out _ hB11) hr.out).mono ?_; rintro e w12 ⟨rfl, hb12⟩; (try simp only [World.size_alloc] at hb12); have z12 := hb12.size; (try simp only [World.size_alloc] at z12); replace k0 := k0.below hb12 (by omega); replace k1 := k1.below hb12 (by omega); have hB12 := Below.trans hB11 (hb12.mono (by omega)); clear k0_0 k0_1 k0_2 k0_3 k1_0 k1_1; have k0_0 := k0.cell 0 rfl; have k0_1 := k0.cell 1 rfl; have k0_2 := k0.cell 2 rfl; have k0_3 := k0.cell 3 rfl; have k1_0 := k1.cell 0 rfl; have k1_1 := k1.cell 1 rfl)
    | (go_at_call 20; refine (rInside_at hi.out _).mono ?_; rintro e w13 ⟨rfl, hb13⟩; (try simp only [World.size_alloc] at hb13); have z13 := hb13.size; (try simp only [World.size_alloc] at z13); replace k0 := k0.below hb13 (by omega); replace k1 := k1.below hb13 (by omega); have hB13 := Below.trans hB12 (hb13.mono (by omega)); clear k0_0 k0_1 k0_2 k0_3 k1_0 k1_1; have k0_0 := k0.cell 0 rfl; have k0_1 := k0.cell 1 rfl; have k0_2 := k0.cell 2 rfl; have k0_3 := k0.cell 3 rfl; have k1_0 := k1.cell 0 rfl; have k1_1 := k1.cell 1 rfl))
  go_ret
  exact ⟨rfl, hB13⟩

set_option maxRecDepth 100000 in
set_option maxHeartbeats 6400000 in
theorem turns_unfit (a b : Nat) (M : Int) (A : Option Addr) (n c : Nat) (P : List Int) (A2 : Option Addr) (n2 c2 : Nat) (l : List Tst) (x y : Int) (w : World) (h : Sl w A n c P) (h2 : PS w A2 n2 c2 l) (hm : true = decide (n ≤ 600 ∧ n2 ≤ 70)) (hl : pat l = true) (hr : Ras a b M P) (hi : ins a b x y = true) (hf : pfit a b l x y = false) :
    Calls Try.prog 7 #[.agg #[.int .i64 a, .int .i64 b, .int .i64 M, .slice A n c], .slice A2 n2 c2, .agg #[.int .i64 x, .int .i64 y]] w fun e w' => e = .returned (.bool true) ∧ Below w.heap.size w w' := by
  have hcap := h.le_cap
  have hcl := h.cap_le
  have hcap2 := h2.le_cap
  have hcl2 := h2.cap_le
  have hlen2 := Lib.hid h2.len
  have hs := Lib.hid (fun w' (hb : Below w.heap.size w w') => h.below hb (Nat.le_refl _))
  have hp := Lib.hid (fun w' (hb : Below w.heap.size w w') => h2.below hb (Nat.le_refl _))
  have hB0 := ((Below.refl w.heap.size w).alloc (by first | exact Nat.le_refl _ | (simp <;> omega)) (.cells #[.int .i64 a, .int .i64 b, .int .i64 M, .slice A n c] 37)).alloc (by first | exact Nat.le_refl _ | (simp <;> omega)) (.cells #[.int .i64 x, .int .i64 y] 38)
  have k0 : KB _ _ _ _ := ((KB.new w #[.int .i64 a, .int .i64 b, .int .i64 M, .slice A n c] 37).alloc (.cells #[.int .i64 x, .int .i64 y] 38))
  have k1 : KB _ _ _ _ := (KB.new (w.alloc (.cells #[.int .i64 a, .int .i64 b, .int .i64 M, .slice A n c] 37)) #[.int .i64 x, .int .i64 y] 38)
  simp only [World.size_alloc] at k1
  clear h h2
  have hl1 := Lib.hid (pat_trT hl)
  have hl2 := Lib.hid (pat_trT hl1.out)
  have hl3 := Lib.hid (pat_trT hl2.out)
  have hn70 : n2 ≤ 70 := by have := of_decide_eq_true hm.symm; omega
  replace hm := Lib.hid hm
  replace hl := Lib.hid hl
  obtain ⟨⟨xa, xb⟩, ya, yb⟩ := ins_iff.1 hi
  obtain ⟨hw1, hw2, hw3⟩ := hr.1
  have hi2 := Lib.hid ((ins_turn (a := a) (b := b) (x := x) (y := y)).trans hi)
  have hf2 := Lib.hid ((pfit_trT (a := a) (b := b) (l := l) (x := x) (y := y)).trans hf)
  have hr2 := Lib.hid hr.turned
  have i1 : IntKind.i64.wrap ((a : Int) - 1) = (a : Int) - 1 := IntWalk.i64_in _ (by omega)
  have i2 : IntKind.i64.wrap ((a : Int) - 1 - x) = (a : Int) - 1 - x := IntWalk.i64_in _ (by omega)
  replace hr := Lib.hid hr
  replace hi := Lib.hid hi
  replace hf := Lib.hid hf
  have tokA : True := trivial
  have tokB : True := trivial
  have tokC : True := trivial
  have tokD : True := trivial
  have tokE : True := trivial
  go_enter Try.func7, Try.ntmps7
  go_wp2_with (first
    | (go_at_call 11; refine (known_any _).mono ?_; rintro e w1 ⟨rfl, hb1⟩; (try simp only [World.size_alloc] at hb1); have z1 := hb1.size; (try simp only [World.size_alloc] at z1); replace k0 := k0.below hb1 (by omega); replace k1 := k1.below hb1 (by omega); have hB1 := Below.trans hB0 (hb1.mono (by omega)); have k0_0 := k0.cell 0 rfl; have k0_1 := k0.cell 1 rfl; have k0_2 := k0.cell 2 rfl; have k0_3 := k0.cell 3 rfl; have k1_0 := k1.cell 0 rfl; have k1_1 := k1.cell 1 rfl)
    | (go_at_call 17; refine (few_any a b M A n c A2 n2 c2 _ (by omega) (by omega) hm.out).mono ?_; rintro e w2 ⟨rfl, hb2⟩; (try simp only [World.size_alloc] at hb2); have z2 := hb2.size; (try simp only [World.size_alloc] at z2); replace k0 := k0.below hb2 (by omega); replace k1 := k1.below hb2 (by omega); have hB2 := Below.trans hB1 (hb2.mono (by omega)); clear k0_0 k0_1 k0_2 k0_3 k1_0 k1_1; have k0_0 := k0.cell 0 rfl; have k0_1 := k0.cell 1 rfl; have k0_2 := k0.cell 2 rfl; have k0_3 := k0.cell 3 rfl; have k1_0 := k1.cell 0 rfl; have k1_1 := k1.cell 1 rfl)
    | (go_at_call 25; refine (Turned_ok A2 n2 c2 l _ (hp.out _ hB2) hl.out).mono ?_; rintro e w3 ⟨gq, rfl, hpb, hb3⟩; (try simp only [World.size_alloc] at hb3); have z3 := hb3.size; (try simp only [World.size_alloc] at z3); replace k0 := k0.below hb3 (by omega); replace k1 := k1.below hb3 (by omega); have hB3 := Below.trans hB2 (hb3.mono (by omega)); clear k0_0 k0_1 k0_2 k0_3 k1_0 k1_1; have k0_0 := k0.cell 0 rfl; have k0_1 := k0.cell 1 rfl; have k0_2 := k0.cell 2 rfl; have k0_3 := k0.cell 3 rfl; have k1_0 := k1.cell 0 rfl; have k1_1 := k1.cell 1 rfl; have hq := Lib.hid (hpb.ps (n := n2) (by rw [List.length_map]; exact hlen2.out) (by omega)); clear hpb)
    | (go_at_call 13; clear tokA; refine (pattern_at (hp.out _ hB3) hl.out).mono ?_; rintro e w4 ⟨rfl, hb4⟩; (try simp only [World.size_alloc] at hb4); have z4 := hb4.size; (try simp only [World.size_alloc] at z4); replace k0 := k0.below hb4 (by omega); replace k1 := k1.below hb4 (by omega); have hB4 := Below.trans hB3 (hb4.mono (by omega)); clear k0_0 k0_1 k0_2 k0_3 k1_0 k1_1; have k0_0 := k0.cell 0 rfl; have k0_1 := k0.cell 1 rfl; have k0_2 := k0.cell 2 rfl; have k0_3 := k0.cell 3 rfl; have k1_0 := k1.cell 0 rfl; have k1_1 := k1.cell 1 rfl; replace hq := Lib.hid (hq.out.below hb4 (Nat.le_refl _)))
    | (go_at_call 27; clear tokB; refine (lturned_pat (hp.out _ hB4) hl.out).mono ?_; rintro e w5 ⟨⟨A5, c5, rfl, ht5⟩, hb5⟩; (try simp only [World.size_alloc] at hb5); have z5 := hb5.size; (try simp only [World.size_alloc] at z5); replace k0 := k0.below hb5 (by omega); replace k1 := k1.below hb5 (by omega); have hB5 := Below.trans hB4 (hb5.mono (by omega)); clear k0_0 k0_1 k0_2 k0_3 k1_0 k1_1; have k0_0 := k0.cell 0 rfl; have k0_1 := k0.cell 1 rfl; have k0_2 := k0.cell 2 rfl; have k0_3 := k0.cell 3 rfl; have k1_0 := k1.cell 0 rfl; have k1_1 := k1.cell 1 rfl; replace hq := Lib.hid (hq.out.below hb5 (Nat.le_refl _)); replace ht5 := Lib.hid ht5)
    | (go_at_call 26; clear tokC; refine (tEqual_at hq.out ht5.out (r := true) (decide_eq_true rfl)).mono ?_; rintro e w6 ⟨rfl, hb6⟩; (try simp only [World.size_alloc] at hb6); have z6 := hb6.size; (try simp only [World.size_alloc] at z6); replace k0 := k0.below hb6 (by omega); replace k1 := k1.below hb6 (by omega); have hB6 := Below.trans hB5 (hb6.mono (by omega)); clear k0_0 k0_1 k0_2 k0_3 k1_0 k1_1; have k0_0 := k0.cell 0 rfl; have k0_1 := k0.cell 1 rfl; have k0_2 := k0.cell 2 rfl; have k0_3 := k0.cell 3 rfl; have k1_0 := k1.cell 0 rfl; have k1_1 := k1.cell 1 rfl; replace hq := Lib.hid (hq.out.below hb6 (Nat.le_refl _)))
    | (go_at_call 13; refine (pattern_at hq.out hl1.out).mono ?_; rintro e w7 ⟨rfl, hb7⟩; (try simp only [World.size_alloc] at hb7); have z7 := hb7.size; (try simp only [World.size_alloc] at z7); replace k0 := k0.below hb7 (by omega); replace k1 := k1.below hb7 (by omega); have hB7 := Below.trans hB6 (hb7.mono (by omega)); clear k0_0 k0_1 k0_2 k0_3 k1_0 k1_1; have k0_0 := k0.cell 0 rfl; have k0_1 := k0.cell 1 rfl; have k0_2 := k0.cell 2 rfl; have k0_3 := k0.cell 3 rfl; have k1_0 := k1.cell 0 rfl; have k1_1 := k1.cell 1 rfl; replace hq := Lib.hid (hq.out.below hb7 (Nat.le_refl _)))
    | (go_at_call 27; clear tokD; refine (lturned_pat hq.out hl1.out).mono ?_; rintro e w8 ⟨⟨A6, c6, rfl, ht6⟩, hb8⟩; (try simp only [World.size_alloc] at hb8); have z8 := hb8.size; (try simp only [World.size_alloc] at z8); replace k0 := k0.below hb8 (by omega); replace k1 := k1.below hb8 (by omega); have hB8 := Below.trans hB7 (hb8.mono (by omega)); clear k0_0 k0_1 k0_2 k0_3 k1_0 k1_1; have k0_0 := k0.cell 0 rfl; have k0_1 := k0.cell 1 rfl; have k0_2 := k0.cell 2 rfl; have k0_3 := k0.cell 3 rfl; have k1_0 := k1.cell 0 rfl; have k1_1 := k1.cell 1 rfl; replace hq := Lib.hid (hq.out.below hb8 (Nat.le_refl _)); replace ht6 := Lib.hid ht6)
    | (go_at_call 27; clear tokE; refine (lturned_pat ht6.out hl2.out).mono ?_; rintro e w9 ⟨⟨A7, c7, rfl, ht7⟩, hb9⟩; (try simp only [World.size_alloc] at hb9); have z9 := hb9.size; (try simp only [World.size_alloc] at z9); replace k0 := k0.below hb9 (by omega); replace k1 := k1.below hb9 (by omega); have hB9 := Below.trans hB8 (hb9.mono (by omega)); clear k0_0 k0_1 k0_2 k0_3 k1_0 k1_1; have k0_0 := k0.cell 0 rfl; have k0_1 := k0.cell 1 rfl; have k0_2 := k0.cell 2 rfl; have k0_3 := k0.cell 3 rfl; have k1_0 := k1.cell 0 rfl; have k1_1 := k1.cell 1 rfl; replace hq := Lib.hid (hq.out.below hb9 (Nat.le_refl _)); replace ht7 := Lib.hid ht7)
    | (go_at_call 27; refine (lturned_pat ht7.out hl3.out).mono ?_; rintro e w10 ⟨⟨A8, c8, rfl, ht8⟩, hb10⟩; (try simp only [World.size_alloc] at hb10); have z10 := hb10.size; (try simp only [World.size_alloc] at z10); replace k0 := k0.below hb10 (by omega); replace k1 := k1.below hb10 (by omega); have hB10 := Below.trans hB9 (hb10.mono (by omega)); clear k0_0 k0_1 k0_2 k0_3 k1_0 k1_1; have k0_0 := k0.cell 0 rfl; have k0_1 := k0.cell 1 rfl; have k0_2 := k0.cell 2 rfl; have k0_3 := k0.cell 3 rfl; have k1_0 := k1.cell 0 rfl; have k1_1 := k1.cell 1 rfl; replace hq := Lib.hid (hq.out.below hb10 (Nat.le_refl _)); replace ht8 := Lib.hid ht8)
    | (go_at_call 26; refine (tEqual_at ht8.out (hp.out _ hB10) (r := true) (decide_eq_true (map_trT3 l))).mono ?_; rintro e w11 ⟨rfl, hb11⟩; (try simp only [World.size_alloc] at hb11); have z11 := hb11.size; (try simp only [World.size_alloc] at z11); replace k0 := k0.below hb11 (by omega); replace k1 := k1.below hb11 (by omega); have hB11 := Below.trans hB10 (hb11.mono (by omega)); clear k0_0 k0_1 k0_2 k0_3 k1_0 k1_1; have k0_0 := k0.cell 0 rfl; have k0_1 := k0.cell 1 rfl; have k0_2 := k0.cell 2 rfl; have k0_3 := k0.cell 3 rfl; have k1_0 := k1.cell 0 rfl; have k1_1 := k1.cell 1 rfl; replace hq := Lib.hid (hq.out.below hb11 (Nat.le_refl _)))
    | (go_at_call 28; refine (rCheck_ok (hs.out _ hB11) hr.out).mono ?_; rintro e w12 ⟨rfl, hb12⟩; (try simp only [World.size_alloc] at hb12); have z12 := hb12.size; (try simp only [World.size_alloc] at z12); replace k0 := k0.below hb12 (by omega); replace k1 := k1.below hb12 (by omega); have hB12 := Below.trans hB11 (hb12.mono (by omega)); clear k0_0 k0_1 k0_2 k0_3 k1_0 k1_1; have k0_0 := k0.cell 0 rfl; have k0_1 := k0.cell 1 rfl; have k0_2 := k0.cell 2 rfl; have k0_3 := k0.cell 3 rfl; have k1_0 := k1.cell 0 rfl; have k1_1 := k1.cell 1 rfl; replace hq := Lib.hid (hq.out.below hb12 (Nat.le_refl _)))
    | (go_at_call 20; refine (rInside_at hi.out _).mono ?_; rintro e w13 ⟨rfl, hb13⟩; (try simp only [World.size_alloc] at hb13); have z13 := hb13.size; (try simp only [World.size_alloc] at z13); replace k0 := k0.below hb13 (by omega); replace k1 := k1.below hb13 (by omega); have hB13 := Below.trans hB12 (hb13.mono (by omega)); clear k0_0 k0_1 k0_2 k0_3 k1_0 k1_1; have k0_0 := k0.cell 0 rfl; have k0_1 := k0.cell 1 rfl; have k0_2 := k0.cell 2 rfl; have k0_3 := k0.cell 3 rfl; have k1_0 := k1.cell 0 rfl; have k1_1 := k1.cell 1 rfl; replace hq := Lib.hid (hq.out.below hb13 (Nat.le_refl _)))
    | (go_at_call 18; refine (Describe_in a b M A n c P A2 n2 c2 l x y _ (hs.out _ hB13) (hp.out _ hB13) hr.out hl.out hi.out (u := 0) (k := 15) (fun e => absurd e (by rw [hf.out]; decide)) (fun _ => ⟨rfl, rfl⟩)).mono ?_; rintro e w14 ⟨rfl, hb14⟩; (try simp only [World.size_alloc] at hb14); have z14 := hb14.size; (try simp only [World.size_alloc] at z14); replace k0 := k0.below hb14 (by omega); replace k1 := k1.below hb14 (by omega); have hB14 := Below.trans hB13 (hb14.mono (by omega)); clear k0_0 k0_1 k0_2 k0_3 k1_0 k1_1; have k0_0 := k0.cell 0 rfl; have k0_1 := k0.cell 1 rfl; have k0_2 := k0.cell 2 rfl; have k0_3 := k0.cell 3 rfl; have k1_0 := k1.cell 0 rfl; have k1_1 := k1.cell 1 rfl; replace hq := Lib.hid (hq.out.below hb14 (Nat.le_refl _))))
  have keepS : ∀ w', Below w14.heap.size w14 w' → w'.cell? ⟨w.heap.size, 0, none⟩ = some (.int .i64 a) ∧ w'.cell? ⟨w.heap.size, 1, none⟩ = some (.int .i64 b) ∧ w'.cell? ⟨w.heap.size, 2, none⟩ = some (.int .i64 M) ∧ w'.cell? ⟨w.heap.size, 3, none⟩ = some (.slice A n c) ∧ w'.cell? ⟨w.heap.size + 1, 0, none⟩ = some (.int .i64 x) ∧ w'.cell? ⟨w.heap.size + 1, 1, none⟩ = some (.int .i64 y) := by
    intro w' hb
    have kk : ∀ (bk ok : Nat), bk < w14.heap.size → w'.cell? ⟨bk, ok, none⟩ = w14.cell? ⟨bk, ok, none⟩ := fun bk ok hlt => hb.cell (p := ⟨bk, ok, none⟩) hlt
    exact ⟨(kk _ _ k0.lt).trans k0_0, (kk _ _ k0.lt).trans k0_1, (kk _ _ k0.lt).trans k0_2, (kk _ _ k0.lt).trans k0_3, (kk _ _ k1.lt).trans k1_0, (kk _ _ k1.lt).trans k1_1⟩
  replace keepS := Lib.hid keepS
  have qtok1 : True := trivial
  have qtok2 : True := trivial
  go_region_held3 (fun w' => w'.cell? ⟨w.heap.size, 0, none⟩ = some (.int .i64 a) ∧ w'.cell? ⟨w.heap.size, 1, none⟩ = some (.int .i64 b) ∧ w'.cell? ⟨w.heap.size, 2, none⟩ = some (.int .i64 M) ∧ w'.cell? ⟨w.heap.size, 3, none⟩ = some (.slice A n c) ∧ w'.cell? ⟨w.heap.size + 1, 0, none⟩ = some (.int .i64 x) ∧ w'.cell? ⟨w.heap.size + 1, 1, none⟩ = some (.int .i64 y))
    (exact keepS.out _ (by repeat (first | exact qB2 | exact qB1 | exact (Below.refl w14.heap.size w14) | refine Below.drew ?_ | refine Below.drewN ?_ _ | refine Below.alloc ?_ (by first | omega | (simp <;> omega)) _)))
    (first | (go_at_call 29; clear qtok1; refine (rTurn_sl (hs.out _ (btr3 hB14 (by repeat (first | exact (Below.refl w14.heap.size w14) | refine Below.drew ?_ | refine Below.drewN ?_ _ | refine Below.alloc ?_ (by first | omega | (simp <;> omega)) _)) (by omega))) hr.out).mono ?_; rintro e qw1 ⟨⟨A9, n9, c9, rfl, hs9⟩, qh1⟩; have qB1 : Below w14.heap.size w14 qw1 := Below.trans (by repeat (first | exact (Below.refl w14.heap.size w14) | refine Below.drew ?_ | refine Below.drewN ?_ _ | refine Below.alloc ?_ (by first | omega | (simp <;> omega)) _)) (qh1.mono (by first | omega | (simp <;> omega))); have qs1 := qB1.size; have hs9' := Lib.hid hs9; clear hs9; have hq9 := Lib.hid (hq.out.below qB1 (Nat.le_refl _))) | (go_at_call 18; clear qtok2; refine (Describe_in b a M A9 n9 c9 (turned a b P) (some ⟨gq, 0, none⟩) n2 n2 (l.map trT) y ((a : Int) - 1 - x) _ hs9'.out hq9.out hr2.out hl1.out hi2.out (u := 0) (k := 15) (fun e => absurd e (by rw [hf2.out]; decide)) (fun _ => ⟨rfl, rfl⟩)).mono ?_; rintro e qw2 ⟨rfl, qh2⟩; have qB2 : Below w14.heap.size w14 qw2 := Below.trans (by repeat (first | exact qB1 | refine Below.drew ?_ | refine Below.drewN ?_ _ | refine Below.alloc ?_ (by first | omega | (simp <;> omega)) _)) (qh2.mono (by first | omega | (simp <;> omega))); have qs2 := qB2.size))
  go_wp2
  go_ret
  exact ⟨rfl, hB14.trans (qB2.mono (by omega))⟩

set_option maxRecDepth 100000 in
set_option maxHeartbeats 6400000 in
theorem turns_fit (a b : Nat) (M : Int) (A : Option Addr) (n c : Nat) (P : List Int) (A2 : Option Addr) (n2 c2 : Nat) (l : List Tst) (x y : Int) (w : World) (h : Sl w A n c P) (h2 : PS w A2 n2 c2 l) (hm : true = decide (n ≤ 600 ∧ n2 ≤ 70)) (hl : pat l = true) (hr : Ras a b M P) (hi : ins a b x y = true) (hf : pfit a b l x y = true) :
    Calls Try.prog 7 #[.agg #[.int .i64 a, .int .i64 b, .int .i64 M, .slice A n c], .slice A2 n2 c2, .agg #[.int .i64 x, .int .i64 y]] w fun e w' => e = .returned (.bool true) ∧ Below w.heap.size w w' := by
  have hcap := h.le_cap
  have hcl := h.cap_le
  have hcap2 := h2.le_cap
  have hcl2 := h2.cap_le
  have hlen2 := Lib.hid h2.len
  have hs := Lib.hid (fun w' (hb : Below w.heap.size w w') => h.below hb (Nat.le_refl _))
  have hp := Lib.hid (fun w' (hb : Below w.heap.size w w') => h2.below hb (Nat.le_refl _))
  have hB0 := ((Below.refl w.heap.size w).alloc (by first | exact Nat.le_refl _ | (simp <;> omega)) (.cells #[.int .i64 a, .int .i64 b, .int .i64 M, .slice A n c] 37)).alloc (by first | exact Nat.le_refl _ | (simp <;> omega)) (.cells #[.int .i64 x, .int .i64 y] 38)
  have k0 : KB _ _ _ _ := ((KB.new w #[.int .i64 a, .int .i64 b, .int .i64 M, .slice A n c] 37).alloc (.cells #[.int .i64 x, .int .i64 y] 38))
  have k1 : KB _ _ _ _ := (KB.new (w.alloc (.cells #[.int .i64 a, .int .i64 b, .int .i64 M, .slice A n c] 37)) #[.int .i64 x, .int .i64 y] 38)
  simp only [World.size_alloc] at k1
  clear h h2
  have hl1 := Lib.hid (pat_trT hl)
  have hl2 := Lib.hid (pat_trT hl1.out)
  have hl3 := Lib.hid (pat_trT hl2.out)
  have hn70 : n2 ≤ 70 := by have := of_decide_eq_true hm.symm; omega
  replace hm := Lib.hid hm
  replace hl := Lib.hid hl
  obtain ⟨⟨xa, xb⟩, ya, yb⟩ := ins_iff.1 hi
  obtain ⟨hw1, hw2, hw3⟩ := hr.1
  have hi2 := Lib.hid ((ins_turn (a := a) (b := b) (x := x) (y := y)).trans hi)
  have hf2 := Lib.hid ((pfit_trT (a := a) (b := b) (l := l) (x := x) (y := y)).trans hf)
  have hr2 := Lib.hid hr.turned
  obtain ⟨u, hu⟩ : ∃ u : Int, (wordOf P a l x y : Int) = u := ⟨_, rfl⟩
  have hu2 : Hid ((wordOf (turned a b P) b (l.map trT) y ((a : Int) - 1 - x) : Int) = u) := Lib.hid (by rw [wordOf_trT hl.out hf]; exact hu)
  replace hu := Lib.hid hu
  have i1 : IntKind.i64.wrap ((a : Int) - 1) = (a : Int) - 1 := IntWalk.i64_in _ (by omega)
  have i2 : IntKind.i64.wrap ((a : Int) - 1 - x) = (a : Int) - 1 - x := IntWalk.i64_in _ (by omega)
  replace hr := Lib.hid hr
  replace hi := Lib.hid hi
  replace hf := Lib.hid hf
  have tokA : True := trivial
  have tokB : True := trivial
  have tokC : True := trivial
  have tokD : True := trivial
  have tokE : True := trivial
  go_enter Try.func7, Try.ntmps7
  go_wp2_with (first
    | (go_at_call 11; refine (known_any _).mono ?_; rintro e w1 ⟨rfl, hb1⟩; (try simp only [World.size_alloc] at hb1); have z1 := hb1.size; (try simp only [World.size_alloc] at z1); replace k0 := k0.below hb1 (by omega); replace k1 := k1.below hb1 (by omega); have hB1 := Below.trans hB0 (hb1.mono (by omega)); have k0_0 := k0.cell 0 rfl; have k0_1 := k0.cell 1 rfl; have k0_2 := k0.cell 2 rfl; have k0_3 := k0.cell 3 rfl; have k1_0 := k1.cell 0 rfl; have k1_1 := k1.cell 1 rfl)
    | (go_at_call 17; refine (few_any a b M A n c A2 n2 c2 _ (by omega) (by omega) hm.out).mono ?_; rintro e w2 ⟨rfl, hb2⟩; (try simp only [World.size_alloc] at hb2); have z2 := hb2.size; (try simp only [World.size_alloc] at z2); replace k0 := k0.below hb2 (by omega); replace k1 := k1.below hb2 (by omega); have hB2 := Below.trans hB1 (hb2.mono (by omega)); clear k0_0 k0_1 k0_2 k0_3 k1_0 k1_1; have k0_0 := k0.cell 0 rfl; have k0_1 := k0.cell 1 rfl; have k0_2 := k0.cell 2 rfl; have k0_3 := k0.cell 3 rfl; have k1_0 := k1.cell 0 rfl; have k1_1 := k1.cell 1 rfl)
    | (go_at_call 25; refine (Turned_ok A2 n2 c2 l _ (hp.out _ hB2) hl.out).mono ?_; rintro e w3 ⟨gq, rfl, hpb, hb3⟩; (try simp only [World.size_alloc] at hb3); have z3 := hb3.size; (try simp only [World.size_alloc] at z3); replace k0 := k0.below hb3 (by omega); replace k1 := k1.below hb3 (by omega); have hB3 := Below.trans hB2 (hb3.mono (by omega)); clear k0_0 k0_1 k0_2 k0_3 k1_0 k1_1; have k0_0 := k0.cell 0 rfl; have k0_1 := k0.cell 1 rfl; have k0_2 := k0.cell 2 rfl; have k0_3 := k0.cell 3 rfl; have k1_0 := k1.cell 0 rfl; have k1_1 := k1.cell 1 rfl; have hq := Lib.hid (hpb.ps (n := n2) (by rw [List.length_map]; exact hlen2.out) (by omega)); clear hpb)
    | (go_at_call 13; clear tokA; refine (pattern_at (hp.out _ hB3) hl.out).mono ?_; rintro e w4 ⟨rfl, hb4⟩; (try simp only [World.size_alloc] at hb4); have z4 := hb4.size; (try simp only [World.size_alloc] at z4); replace k0 := k0.below hb4 (by omega); replace k1 := k1.below hb4 (by omega); have hB4 := Below.trans hB3 (hb4.mono (by omega)); clear k0_0 k0_1 k0_2 k0_3 k1_0 k1_1; have k0_0 := k0.cell 0 rfl; have k0_1 := k0.cell 1 rfl; have k0_2 := k0.cell 2 rfl; have k0_3 := k0.cell 3 rfl; have k1_0 := k1.cell 0 rfl; have k1_1 := k1.cell 1 rfl; replace hq := Lib.hid (hq.out.below hb4 (Nat.le_refl _)))
    | (go_at_call 27; clear tokB; refine (lturned_pat (hp.out _ hB4) hl.out).mono ?_; rintro e w5 ⟨⟨A5, c5, rfl, ht5⟩, hb5⟩; (try simp only [World.size_alloc] at hb5); have z5 := hb5.size; (try simp only [World.size_alloc] at z5); replace k0 := k0.below hb5 (by omega); replace k1 := k1.below hb5 (by omega); have hB5 := Below.trans hB4 (hb5.mono (by omega)); clear k0_0 k0_1 k0_2 k0_3 k1_0 k1_1; have k0_0 := k0.cell 0 rfl; have k0_1 := k0.cell 1 rfl; have k0_2 := k0.cell 2 rfl; have k0_3 := k0.cell 3 rfl; have k1_0 := k1.cell 0 rfl; have k1_1 := k1.cell 1 rfl; replace hq := Lib.hid (hq.out.below hb5 (Nat.le_refl _)); replace ht5 := Lib.hid ht5)
    | (go_at_call 26; clear tokC; refine (tEqual_at hq.out ht5.out (r := true) (decide_eq_true rfl)).mono ?_; rintro e w6 ⟨rfl, hb6⟩; (try simp only [World.size_alloc] at hb6); have z6 := hb6.size; (try simp only [World.size_alloc] at z6); replace k0 := k0.below hb6 (by omega); replace k1 := k1.below hb6 (by omega); have hB6 := Below.trans hB5 (hb6.mono (by omega)); clear k0_0 k0_1 k0_2 k0_3 k1_0 k1_1; have k0_0 := k0.cell 0 rfl; have k0_1 := k0.cell 1 rfl; have k0_2 := k0.cell 2 rfl; have k0_3 := k0.cell 3 rfl; have k1_0 := k1.cell 0 rfl; have k1_1 := k1.cell 1 rfl; replace hq := Lib.hid (hq.out.below hb6 (Nat.le_refl _)))
    | (go_at_call 13; refine (pattern_at hq.out hl1.out).mono ?_; rintro e w7 ⟨rfl, hb7⟩; (try simp only [World.size_alloc] at hb7); have z7 := hb7.size; (try simp only [World.size_alloc] at z7); replace k0 := k0.below hb7 (by omega); replace k1 := k1.below hb7 (by omega); have hB7 := Below.trans hB6 (hb7.mono (by omega)); clear k0_0 k0_1 k0_2 k0_3 k1_0 k1_1; have k0_0 := k0.cell 0 rfl; have k0_1 := k0.cell 1 rfl; have k0_2 := k0.cell 2 rfl; have k0_3 := k0.cell 3 rfl; have k1_0 := k1.cell 0 rfl; have k1_1 := k1.cell 1 rfl; replace hq := Lib.hid (hq.out.below hb7 (Nat.le_refl _)))
    | (go_at_call 27; clear tokD; refine (lturned_pat hq.out hl1.out).mono ?_; rintro e w8 ⟨⟨A6, c6, rfl, ht6⟩, hb8⟩; (try simp only [World.size_alloc] at hb8); have z8 := hb8.size; (try simp only [World.size_alloc] at z8); replace k0 := k0.below hb8 (by omega); replace k1 := k1.below hb8 (by omega); have hB8 := Below.trans hB7 (hb8.mono (by omega)); clear k0_0 k0_1 k0_2 k0_3 k1_0 k1_1; have k0_0 := k0.cell 0 rfl; have k0_1 := k0.cell 1 rfl; have k0_2 := k0.cell 2 rfl; have k0_3 := k0.cell 3 rfl; have k1_0 := k1.cell 0 rfl; have k1_1 := k1.cell 1 rfl; replace hq := Lib.hid (hq.out.below hb8 (Nat.le_refl _)); replace ht6 := Lib.hid ht6)
    | (go_at_call 27; clear tokE; refine (lturned_pat ht6.out hl2.out).mono ?_; rintro e w9 ⟨⟨A7, c7, rfl, ht7⟩, hb9⟩; (try simp only [World.size_alloc] at hb9); have z9 := hb9.size; (try simp only [World.size_alloc] at z9); replace k0 := k0.below hb9 (by omega); replace k1 := k1.below hb9 (by omega); have hB9 := Below.trans hB8 (hb9.mono (by omega)); clear k0_0 k0_1 k0_2 k0_3 k1_0 k1_1; have k0_0 := k0.cell 0 rfl; have k0_1 := k0.cell 1 rfl; have k0_2 := k0.cell 2 rfl; have k0_3 := k0.cell 3 rfl; have k1_0 := k1.cell 0 rfl; have k1_1 := k1.cell 1 rfl; replace hq := Lib.hid (hq.out.below hb9 (Nat.le_refl _)); replace ht7 := Lib.hid ht7)
    | (go_at_call 27; refine (lturned_pat ht7.out hl3.out).mono ?_; rintro e w10 ⟨⟨A8, c8, rfl, ht8⟩, hb10⟩; (try simp only [World.size_alloc] at hb10); have z10 := hb10.size; (try simp only [World.size_alloc] at z10); replace k0 := k0.below hb10 (by omega); replace k1 := k1.below hb10 (by omega); have hB10 := Below.trans hB9 (hb10.mono (by omega)); clear k0_0 k0_1 k0_2 k0_3 k1_0 k1_1; have k0_0 := k0.cell 0 rfl; have k0_1 := k0.cell 1 rfl; have k0_2 := k0.cell 2 rfl; have k0_3 := k0.cell 3 rfl; have k1_0 := k1.cell 0 rfl; have k1_1 := k1.cell 1 rfl; replace hq := Lib.hid (hq.out.below hb10 (Nat.le_refl _)); replace ht8 := Lib.hid ht8)
    | (go_at_call 26; refine (tEqual_at ht8.out (hp.out _ hB10) (r := true) (decide_eq_true (map_trT3 l))).mono ?_; rintro e w11 ⟨rfl, hb11⟩; (try simp only [World.size_alloc] at hb11); have z11 := hb11.size; (try simp only [World.size_alloc] at z11); replace k0 := k0.below hb11 (by omega); replace k1 := k1.below hb11 (by omega); have hB11 := Below.trans hB10 (hb11.mono (by omega)); clear k0_0 k0_1 k0_2 k0_3 k1_0 k1_1; have k0_0 := k0.cell 0 rfl; have k0_1 := k0.cell 1 rfl; have k0_2 := k0.cell 2 rfl; have k0_3 := k0.cell 3 rfl; have k1_0 := k1.cell 0 rfl; have k1_1 := k1.cell 1 rfl; replace hq := Lib.hid (hq.out.below hb11 (Nat.le_refl _)))
    | (go_at_call 28; refine (rCheck_ok (hs.out _ hB11) hr.out).mono ?_; rintro e w12 ⟨rfl, hb12⟩; (try simp only [World.size_alloc] at hb12); have z12 := hb12.size; (try simp only [World.size_alloc] at z12); replace k0 := k0.below hb12 (by omega); replace k1 := k1.below hb12 (by omega); have hB12 := Below.trans hB11 (hb12.mono (by omega)); clear k0_0 k0_1 k0_2 k0_3 k1_0 k1_1; have k0_0 := k0.cell 0 rfl; have k0_1 := k0.cell 1 rfl; have k0_2 := k0.cell 2 rfl; have k0_3 := k0.cell 3 rfl; have k1_0 := k1.cell 0 rfl; have k1_1 := k1.cell 1 rfl; replace hq := Lib.hid (hq.out.below hb12 (Nat.le_refl _)))
    | (go_at_call 20; refine (rInside_at hi.out _).mono ?_; rintro e w13 ⟨rfl, hb13⟩; (try simp only [World.size_alloc] at hb13); have z13 := hb13.size; (try simp only [World.size_alloc] at z13); replace k0 := k0.below hb13 (by omega); replace k1 := k1.below hb13 (by omega); have hB13 := Below.trans hB12 (hb13.mono (by omega)); clear k0_0 k0_1 k0_2 k0_3 k1_0 k1_1; have k0_0 := k0.cell 0 rfl; have k0_1 := k0.cell 1 rfl; have k0_2 := k0.cell 2 rfl; have k0_3 := k0.cell 3 rfl; have k1_0 := k1.cell 0 rfl; have k1_1 := k1.cell 1 rfl; replace hq := Lib.hid (hq.out.below hb13 (Nat.le_refl _)))
    | (go_at_call 18; refine (Describe_in a b M A n c P A2 n2 c2 l x y _ (hs.out _ hB13) (hp.out _ hB13) hr.out hl.out hi.out (u := u) (k := 0) (fun _ => ⟨hu.out.symm, rfl⟩) (fun e => absurd e (by rw [hf.out]; decide))).mono ?_; rintro e w14 ⟨rfl, hb14⟩; (try simp only [World.size_alloc] at hb14); have z14 := hb14.size; (try simp only [World.size_alloc] at z14); replace k0 := k0.below hb14 (by omega); replace k1 := k1.below hb14 (by omega); have hB14 := Below.trans hB13 (hb14.mono (by omega)); clear k0_0 k0_1 k0_2 k0_3 k1_0 k1_1; have k0_0 := k0.cell 0 rfl; have k0_1 := k0.cell 1 rfl; have k0_2 := k0.cell 2 rfl; have k0_3 := k0.cell 3 rfl; have k1_0 := k1.cell 0 rfl; have k1_1 := k1.cell 1 rfl; replace hq := Lib.hid (hq.out.below hb14 (Nat.le_refl _))))
  have keepS : ∀ w', Below w14.heap.size w14 w' → w'.cell? ⟨w.heap.size, 0, none⟩ = some (.int .i64 a) ∧ w'.cell? ⟨w.heap.size, 1, none⟩ = some (.int .i64 b) ∧ w'.cell? ⟨w.heap.size, 2, none⟩ = some (.int .i64 M) ∧ w'.cell? ⟨w.heap.size, 3, none⟩ = some (.slice A n c) ∧ w'.cell? ⟨w.heap.size + 1, 0, none⟩ = some (.int .i64 x) ∧ w'.cell? ⟨w.heap.size + 1, 1, none⟩ = some (.int .i64 y) := by
    intro w' hb
    have kk : ∀ (bk ok : Nat), bk < w14.heap.size → w'.cell? ⟨bk, ok, none⟩ = w14.cell? ⟨bk, ok, none⟩ := fun bk ok hlt => hb.cell (p := ⟨bk, ok, none⟩) hlt
    exact ⟨(kk _ _ k0.lt).trans k0_0, (kk _ _ k0.lt).trans k0_1, (kk _ _ k0.lt).trans k0_2, (kk _ _ k0.lt).trans k0_3, (kk _ _ k1.lt).trans k1_0, (kk _ _ k1.lt).trans k1_1⟩
  replace keepS := Lib.hid keepS
  have qtok1 : True := trivial
  have qtok2 : True := trivial
  go_region_held3 (fun w' => w'.cell? ⟨w.heap.size, 0, none⟩ = some (.int .i64 a) ∧ w'.cell? ⟨w.heap.size, 1, none⟩ = some (.int .i64 b) ∧ w'.cell? ⟨w.heap.size, 2, none⟩ = some (.int .i64 M) ∧ w'.cell? ⟨w.heap.size, 3, none⟩ = some (.slice A n c) ∧ w'.cell? ⟨w.heap.size + 1, 0, none⟩ = some (.int .i64 x) ∧ w'.cell? ⟨w.heap.size + 1, 1, none⟩ = some (.int .i64 y))
    (exact keepS.out _ (by repeat (first | exact qB2 | exact qB1 | exact (Below.refl w14.heap.size w14) | refine Below.drew ?_ | refine Below.drewN ?_ _ | refine Below.alloc ?_ (by first | omega | (simp <;> omega)) _)))
    (first | (go_at_call 29; clear qtok1; refine (rTurn_sl (hs.out _ (btr3 hB14 (by repeat (first | exact (Below.refl w14.heap.size w14) | refine Below.drew ?_ | refine Below.drewN ?_ _ | refine Below.alloc ?_ (by first | omega | (simp <;> omega)) _)) (by omega))) hr.out).mono ?_; rintro e qw1 ⟨⟨A9, n9, c9, rfl, hs9⟩, qh1⟩; have qB1 : Below w14.heap.size w14 qw1 := Below.trans (by repeat (first | exact (Below.refl w14.heap.size w14) | refine Below.drew ?_ | refine Below.drewN ?_ _ | refine Below.alloc ?_ (by first | omega | (simp <;> omega)) _)) (qh1.mono (by first | omega | (simp <;> omega))); have qs1 := qB1.size; have hs9' := Lib.hid hs9; clear hs9; have hq9 := Lib.hid (hq.out.below qB1 (Nat.le_refl _))) | (go_at_call 18; clear qtok2; refine (Describe_in b a M A9 n9 c9 (turned a b P) (some ⟨gq, 0, none⟩) n2 n2 (l.map trT) y ((a : Int) - 1 - x) _ hs9'.out hq9.out hr2.out hl1.out hi2.out (u := u) (k := 0) (fun _ => ⟨hu2.out.symm, rfl⟩) (fun e => absurd e (by rw [hf2.out]; decide))).mono ?_; rintro e qw2 ⟨rfl, qh2⟩; have qB2 : Below w14.heap.size w14 qw2 := Below.trans (by repeat (first | exact qB1 | refine Below.drew ?_ | refine Below.drewN ?_ _ | refine Below.alloc ?_ (by first | omega | (simp <;> omega)) _)) (qh2.mono (by first | omega | (simp <;> omega))); have qs2 := qB2.size))
  go_wp2
  go_ret
  exact ⟨rfl, hB14.trans (qB2.mono (by omega))⟩

theorem lawTurns_any (W H M : Int) (A : Option Addr) (n c : Nat) (P : List Int) (A2 : Option Addr) (n2 c2 : Nat) (l : List Tst) (x y : Int) (w : World) (h : Sl w A n c P) (h2 : PS w A2 n2 c2 l) :
    Calls Try.prog 7 #[.agg #[.int .i64 W, .int .i64 H, .int .i64 M, .slice A n c], .slice A2 n2 c2, .agg #[.int .i64 x, .int .i64 y]] w fun e w' => e = .returned (.bool true) ∧ Below w.heap.size w w' := by
  cases hm : decide (n ≤ 600 ∧ n2 ≤ 70)
  · exact turns_many W H M A n c P A2 n2 c2 l x y w h h2 hm.symm
  cases hl : pat l
  · exact turns_bad W H M A n c P A2 n2 c2 l x y w h h2 hm.symm hl
  by_cases hr : Ras W H M P
  · obtain ⟨a, b, rfl, rfl, -⟩ := hr.nat
    cases hi : ins a b x y
    · exact turns_out a b M A n c P A2 n2 c2 l x y w h h2 hm.symm hl hr hi
    · cases hf : pfit a b l x y
      · exact turns_unfit a b M A n c P A2 n2 c2 l x y w h h2 hm.symm hl hr hi hf
      · exact turns_fit a b M A n c P A2 n2 c2 l x y w h h2 hm.symm hl hr hi hf
  · exact turns_noras W H M A n c P A2 n2 c2 l x y w h h2 hm.symm hl hr

end Go.Proofs.Ytonpnjjfidpoiaa
