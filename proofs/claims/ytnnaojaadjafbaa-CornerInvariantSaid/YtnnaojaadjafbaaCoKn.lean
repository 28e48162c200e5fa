/-
  Walks: known, few of the law.
-/
import Derived.Test.YtnnaojaadjafbaaCoEx
import Derived.Test.YtnnaojaadjafbaaCoEq
import Derived.Test.YtnnaojaadjafbaaCoT
set_option linter.unusedSimpArgs false
set_option linter.unusedVariables false
namespace Go.Proofs.Ytnnaojaadjafbaa
open Go.RowKit

theorem CS.lit (W : World) (l : List Cor) (hl : l.length ≤ 1000) : CS (W.alloc (.cells (ccells l).toArray 36)) (some ⟨W.heap.size, 0, none⟩) l.length l.length l := by
  refine ⟨rfl, Nat.le_refl _, by omega, fun _ => ⟨W.heap.size, 0, rfl, fun i hi => ?_⟩⟩
  obtain ⟨e0, e1, e2⟩ := ccells_at hi
  have k := fun j => cell_of_row _ W.heap.size j _ _ _ (heap_alloc_new W (.cells (ccells l).toArray 36))
  refine ⟨?_, ?_, ?_⟩
  · rw [k, List.getElem?_toArray, Nat.zero_add]; exact e0
  · rw [k, List.getElem?_toArray, Nat.zero_add]; exact e1
  · rw [k, List.getElem?_toArray, Nat.zero_add]; exact e2

theorem kScores (g : Nat) (W : World) (h : Bl W g exP) :
    Calls Try.prog 13 #[.agg #[.int .i64 5, .int .i64 5, .int .i64 10, .slice (some ⟨g, 0, none⟩) 25 25]] W fun e w' => ∃ g', e = .returned (.tuple #[.slice (some ⟨g', 0, none⟩) 25 25, .int .i64 0]) ∧ W.heap.size ≤ g' ∧ Bl w' g' (scoresL 5 5 exP) ∧ Below W.heap.size W w' :=
  Scores_ok 5 5 10 (some ⟨g, 0, none⟩) 25 25 exP W (h.sl0 rfl (by omega) (by omega)) ex_scr
theorem kFind (g : Nat) (W : World) (h : Bl W g exP) :
    Calls Try.prog 16 #[.agg #[.int .i64 5, .int .i64 5, .int .i64 10, .slice (some ⟨g, 0, none⟩) 25 25], .int .i64 0, .int .i64 9] W fun e w' => ∃ A' c', e = .returned (.tuple #[.slice A' 1 c', .int .i64 0]) ∧ CS w' A' 1 c' [(160, 160, 3110000)] ∧ Below W.heap.size W w' :=
  Find_few 5 5 10 (some ⟨g, 0, none⟩) 25 25 exP 0 9 W (h.sl0 rfl (by omega) (by omega)) ex_scr (by omega) (by omega) (by omega) (L := [(160, 160, 3110000)]) ex_cors (by decide) (k := 1) (by decide)
theorem kOffset (W : World) :
    Calls Try.prog 24 #[.int .i64 0, .int .i64 4, .int .i64 2] W fun e w' => e = .returned (.tuple #[.int .i64 11, .int .i64 0]) ∧ W = w' := by
  have := Offset_any 0 4 2 W
  rw [ex_off.1, ex_off.2] at this
  exact this
def kL : List Cor := [(3, 0, 0), (5, 0, 0), (9, 0, 0)]
theorem kThin (A : Option Addr) (c : Nat) (W : World) (h : CS W A 3 c kL) :
    Calls Try.prog 19 #[.slice A 3 c, .int .i64 4] W fun e w' => ∃ A' c', e = .returned (.tuple #[.slice A' 2 c', .int .i64 0]) ∧ CS w' A' 2 c' [(3, 0, 0), (9, 0, 0)] ∧ Below W.heap.size W w' := by
  have hok : ThinOk 4 kL := thinC_ok.1 (by decide)
  refine (Thin_ok 4 A 3 c kL W h hok).mono ?_
  rintro e w' ⟨v, rfl, hown, hb⟩
  have ht : thinF 4 kL = [(3, 0, 0), (9, 0, 0)] := ex_thin
  rw [ht] at hown
  obtain ⟨A', c', rfl, hcs, -, -⟩ := own_form hown
  exact ⟨A', c', rfl, hcs, hb⟩
theorem kEq {A A2 : Option Addr} {n c n2 c2 : Nat} {l : List Cor} {W : World} (h : CS W A n c l) (h2 : CS W A2 n2 c2 l) :
    Calls Try.prog 18 #[.slice A n c, .slice A2 n2 c2] W fun e w' => e = .returned (.bool true) ∧ Below W.heap.size W w' := by
  have := cEqual_any A n c l A2 n2 c2 l W h h2
  rw [show eqc l l = true from decide_eq_true rfl] at this
  exact this

set_option maxRecDepth 100000 in
set_option maxHeartbeats 3200000 in
theorem known_any (w : World) :
    Calls Try.prog 11 #[] w fun e w' => e = .returned (.bool true) ∧ Below w.heap.size w w' := by
  have tok1 : True := trivial
  have tok2 : True := trivial
  go_enter Try.func11, Try.ntmps11
  go_wp2_with (first
    | (go_at_call 33; clear tok1; refine (example_any _).mono ?_; rintro e w1 ⟨g1, rfl, hg1, hbl1, hb1⟩)
    | (go_at_call 13; refine (kScores g1 _ hbl1).mono ?_; rintro e w2 ⟨g2, rfl, hg2, hbl2, hb2⟩; replace hb2 := hb1.trans (hb2.mono hb1.size))
    | (go_at_call 33; clear tok2; refine (example_any _).mono ?_; rintro e w3 ⟨g3, rfl, hg3, hbl3, hb3⟩; replace hbl2 := hbl2.below hb3 hbl2.lt; replace hb3 := hb2.trans (hb3.mono hb2.size))
    | (go_at_call 16; refine (kFind g3 _ hbl3).mono ?_; rintro e w4 ⟨A4, c4, rfl, hcs4, hb4⟩; replace hbl2 := hbl2.below hb4 hbl2.lt; replace hb4 := hb3.trans (hb4.mono hb3.size))
    | (go_at_call 24; refine (kOffset _).mono ?_; rintro e w4' ⟨rfl, rfl⟩)
    | (go_at_call 19; refine (kThin _ _ _ (CS.lit _ kL (by decide))).mono ?_; rintro e w5 ⟨A5, c5, rfl, hcs5, hb5⟩; replace hcs4 := (hcs4.alloc _).below hb5 (Nat.le_refl _); replace hbl2 := (hbl2.alloc _).below hb5 (by have := hbl2.lt; simp; omega); replace hb5 := (hb4.alloc hb4.size _).trans (hb5.mono (by have := hb4.size; simp; omega)); have hc12 : w5.cell? ⟨g2, 12, none⟩ = some (.int .i64 3110000) := (hbl2.cell (i := 12) (by rw [ex_slen]; omega)).trans (by rw [ex_scores]); have tok3 : True := trivial)
    | (go_at_call 18; clear tok3; refine (kEq (hcs4.alloc _) (CS.lit _ [(160, 160, 3110000)] (by decide))).mono ?_; rintro e w6 ⟨rfl, hb6⟩; replace hcs5 := (hcs5.alloc _).below hb6 (Nat.le_refl _); replace hb6 := (hb5.alloc hb5.size _).trans (hb6.mono (by have := hb5.size; simp; omega)))
    | (go_at_call 18; refine (kEq (hcs5.alloc _) (CS.lit _ [(3, 0, 0), (9, 0, 0)] (by decide))).mono ?_; rintro e w7 ⟨rfl, hb7⟩; replace hb7 := (hb6.alloc hb6.size _).trans (hb7.mono (by have := hb6.size; simp; omega))))
  go_ret
  exact ⟨rfl, hb7⟩

theorem few_any (W H M : Int) (A : Option Addr) (n c : Nat) (w : World) (hn : n ≤ 9223372036854775807) :
    Calls Try.prog 12 #[.agg #[.int .i64 W, .int .i64 H, .int .i64 M, .slice A n c]] w fun e w' => e = .returned (.bool (decide (n ≤ 200))) ∧ Below w.heap.size w w' := by
  have hb0 := (Below.refl w.heap.size w).alloc (Nat.le_refl _) (.cells #[.int .i64 W, .int .i64 H, .int .i64 M, .slice A n c] 24)
  by_cases h : n ≤ 200
  · have hv : Hid (decide (n ≤ 200) = true) := Lib.hid (by simp [h])
    have hi : (n : Int) ≤ 200 := by omega
    go_enter Try.func12, Try.ntmps12
    go_wp2
    go_ret
    exact ⟨ret_bool (by rw [hv.out]), hb0⟩
  · have hv : Hid (decide (n ≤ 200) = false) := Lib.hid (by simp [h])
    have hi : ¬ (n : Int) ≤ 200 := by omega
    go_enter Try.func12, Try.ntmps12
    go_wp2
    go_ret
    exact ⟨ret_bool (by first | rfl | (rw [hv.out]; simp; omega)), hb0⟩

end Go.Proofs.Ytnnaojaadjafbaa
