/-
  Walk: the law of the matches, where Matches matches.
-/
import Derived.Test.YtofoiocpopmifaaNbLx
set_option linter.unusedSimpArgs false
set_option linter.unusedVariables false
namespace Go.Proofs.Ytofoiocpopmifaa
open Go.RowKit

theorem RetM.none {a b : List Nat} {num den : Nat} {l : List Mat} (h : RetM a b num den l) (h0 : a.length = 0 ∨ b.length = 0) : l = [] := by
  rcases h with ⟨_, h⟩ | ⟨h1, h2, _⟩
  · exact h
  · omega
theorem RetM.some {a b : List Nat} {num den : Nat} {l : List Mat} (h : RetM a b num den l) (h1 : 0 < a.length) (h2 : 0 < b.length) : ∃ Lc Lb, Chosen b a Lc ∧ Chosen a b Lb ∧ l = matF a b num den Lc Lb a.length := by
  rcases h with ⟨h0, _⟩ | ⟨_, _, h⟩
  · omega
  · exact h

set_option maxRecDepth 100000 in
set_option maxHeartbeats 1600000 in
theorem lawMatches_none (A : Option Addr) (n c : Nat) (a : List Nat) (A2 : Option Addr) (n2 c2 : Nat) (b : List Nat) (num den : Nat) (w : World) (h : WS w A n c a) (h2 : WS w A2 n2 c2 b) (hf1 : fewB n = true) (hf2 : fewB n2 = true) (hl : ¬ (64 < n ∨ 64 < n2)) (hnum : 1 ≤ num ∧ num ≤ 1000) (hden : 1 ≤ den ∧ den ≤ 1000) (h0 : n = 0 ∨ n2 = 0) :
    Calls Try.prog 8 #[.slice A n c, .slice A2 n2 c2, .agg #[.int .i64 (num : Int), .int .i64 (den : Int)]] w fun e w' => e = .returned (.bool true) ∧ Below w.heap.size w w' := by
  have hs1 : n ≤ 20 := by have := fewB_iff.1 hf1; omega
  have hs2 : n2 ≤ 20 := by have := fewB_iff.1 hf2; omega
  have hn : n ≤ 9223372036854775807 := by omega
  have hn2 : n2 ≤ 9223372036854775807 := by omega
  obtain ⟨u, hu⟩ : ∃ u : Int, (num : Int) = u := ⟨_, rfl⟩
  obtain ⟨v, hv⟩ : ∃ u : Int, (den : Int) = u := ⟨_, rfl⟩
  have hu1 : 1 ≤ u := by omega
  have hu2 : u ≤ 1000 := by omega
  have hv1 : 1 ≤ v := by omega
  have hv2 : v ≤ 1000 := by omega
  rw [hu, hv]
  have hk := Lib.hid (known_any (w.alloc (.cells #[.int .i64 u, .int .i64 v] 47)))
  have hb0 : Below w.heap.size w (w.alloc (.cells #[.int .i64 u, .int .i64 v] 47)) := (Below.refl _ _).alloc (Nat.le_refl _) _
  have q0 := cell_of_row _ w.heap.size 0 _ _ _ (heap_alloc_new w (.cells #[.int .i64 u, .int .i64 v] 47))
  have q1 := cell_of_row _ w.heap.size 1 _ _ _ (heap_alloc_new w (.cells #[.int .i64 u, .int .i64 v] 47))
  simp only [List.getElem?_toArray, List.getElem?_cons_zero, List.getElem?_cons_succ] at q0 q1
  obtain ⟨W1, hW1⟩ : ∃ W1, w.alloc (.cells #[.int .i64 u, .int .i64 v] 47) = W1 := ⟨_, rfl⟩
  have z1 : W1.heap.size = w.heap.size + 1 := by rw [← hW1]; simp
  rw [hW1] at hk hb0 q0 q1
  have kf1 := Lib.hid (fun W => few_any A n c W hn hf1)
  replace z1 := Lib.hid z1
  replace q0 := Lib.hid q0
  replace q1 := Lib.hid q1
  replace hf1 := Lib.hid hf1
  have kl := Lib.hid (fun W : World => long_any (some ⟨W.heap.size, 0, none⟩) 2 2 [(A, n, c), (A2, n2, c2)] _ (SR.two (w := W)) (by intro p hp; simp at hp; rcases hp with rfl | rfl <;> assumption) (b := false) (by simp [longB]; omega))
  have km := fun (W : World) (hb : Below w.heap.size w W) => Matches_ok A n c a A2 n2 c2 b num den W (h.below hb (Nat.le_refl _)) (h2.below hb (Nat.le_refl _)) (by omega) (by omega) hnum hden
  rw [hu, hv] at km
  replace km := Lib.hid km
  have kr := Lib.hid (fun (W : World) (hb : Below w.heap.size w W) => lmatches_none A n c a A2 n2 c2 u v W (h.below hb (Nat.le_refl _)) h0 (by omega))
  have h0' : Hid (a.length = 0 ∨ b.length = 0) := Lib.hid (by rw [← h.len, ← h2.len]; exact h0)
  replace h0 := Lib.hid h0
  clear h h2
  replace hl := Lib.hid hl
  replace hu := Lib.hid hu
  replace hv := Lib.hid hv
  have kf2 := Lib.hid (fun W => few_any A2 n2 c2 W hn2 hf2)
  replace hf2 := Lib.hid hf2
  have tok : True := trivial
  rcases (by omega : u < v ∨ v ≤ u) with huv | huv
  all_goals
    go_enter Try.func8, Try.ntmps8
    go_wp2_with (first
      | (go_at_call 11; refine hk.out.mono ?_; rintro e w1 ⟨rfl, hbw⟩; have hz1 : w.heap.size < w1.heap.size := (by have := hbw.size; have := z1.out; omega); have t0 := (hbw.cell (p := ⟨w.heap.size, 0, none⟩) (by have := z1.out; show w.heap.size < _; omega)).trans q0.out; have t1 := (hbw.cell (p := ⟨w.heap.size, 1, none⟩) (by have := z1.out; show w.heap.size < _; omega)).trans q1.out; have hB1 := hb0.trans (hbw.mono hb0.size))
      | (go_at_call 12; clear tok; refine (kf1.out _).mono ?_; rintro e w' ⟨rfl, rfl⟩)
      | (go_at_call 12; refine (kf2.out _).mono ?_; rintro e w' ⟨rfl, rfl⟩)
      | (go_at_call 24; refine (km.out _ hB1).mono ?_; rintro e w2 ⟨⟨m, A3, c3, rfl, hret, hm⟩, hb2⟩; have hz2 := hb2.size; replace t0 := (hb2.cell (p := ⟨w.heap.size, 0, none⟩) hz1).trans t0; replace t1 := (hb2.cell (p := ⟨w.heap.size, 1, none⟩) hz1).trans t1; have hz3 : w.heap.size < w2.heap.size := (by omega); have hB2 := hB1.trans (hb2.mono hB1.size); replace hret := Lib.hid hret; replace hm := Lib.hid hm)
      | (go_at_call 15; refine (kl.out _).mono ?_; rintro e w' ⟨rfl, rfl⟩)
      | (go_at_call 26; refine (kr.out _ (hB2.alloc hB2.size _)).mono ?_; rintro e w3 ⟨rfl, rfl⟩; have hmn : m = [] := hret.out.none h0'.out; subst hmn; have hm5 := SR.alloc hm.out (.cells #[.slice A n c, .slice A2 n2 c2] 22); have hm4 : MS (w2.alloc (.cells #[.slice A n c, .slice A2 n2 c2] 22)) none 0 0 [] := SR.nil _ 3; have hB3 := hB2.alloc hB2.size (.cells #[.slice A n c, .slice A2 n2 c2] 22))
      | (go_at_call 25; refine (kEq hm5 hm4).mono ?_; rintro e w4 ⟨rfl, hb4⟩))
    all_goals (go_ret; exact ⟨rfl, hB3.trans (hb4.mono hB3.size)⟩)

set_option maxRecDepth 100000 in
set_option maxHeartbeats 1600000 in
theorem lawMatches_some (A : Option Addr) (n c : Nat) (a : List Nat) (A2 : Option Addr) (n2 c2 : Nat) (b : List Nat) (num den : Nat) (w : World) (h : WS w A n c a) (h2 : WS w A2 n2 c2 b) (hf1 : fewB n = true) (hf2 : fewB n2 = true) (hl : ¬ (64 < n ∨ 64 < n2)) (hnum : 1 ≤ num ∧ num ≤ 1000) (hden : 1 ≤ den ∧ den ≤ 1000) (h0 : 0 < n) (h02 : 0 < n2) :
    Calls Try.prog 8 #[.slice A n c, .slice A2 n2 c2, .agg #[.int .i64 (num : Int), .int .i64 (den : Int)]] w fun e w' => e = .returned (.bool true) ∧ Below w.heap.size w w' := by
  have hs1 : n ≤ 20 := by have := fewB_iff.1 hf1; omega
  have hs2 : n2 ≤ 20 := by have := fewB_iff.1 hf2; omega
  have hn : n ≤ 9223372036854775807 := by omega
  have hn2 : n2 ≤ 9223372036854775807 := by omega
  obtain ⟨u, hu⟩ : ∃ u : Int, (num : Int) = u := ⟨_, rfl⟩
  obtain ⟨v, hv⟩ : ∃ u : Int, (den : Int) = u := ⟨_, rfl⟩
  have hu1 : 1 ≤ u := by omega
  have hu2 : u ≤ 1000 := by omega
  have hv1 : 1 ≤ v := by omega
  have hv2 : v ≤ 1000 := by omega
  rw [hu, hv]
  have hk := Lib.hid (known_any (w.alloc (.cells #[.int .i64 u, .int .i64 v] 47)))
  have hb0 : Below w.heap.size w (w.alloc (.cells #[.int .i64 u, .int .i64 v] 47)) := (Below.refl _ _).alloc (Nat.le_refl _) _
  have q0 := cell_of_row _ w.heap.size 0 _ _ _ (heap_alloc_new w (.cells #[.int .i64 u, .int .i64 v] 47))
  have q1 := cell_of_row _ w.heap.size 1 _ _ _ (heap_alloc_new w (.cells #[.int .i64 u, .int .i64 v] 47))
  simp only [List.getElem?_toArray, List.getElem?_cons_zero, List.getElem?_cons_succ] at q0 q1
  obtain ⟨W1, hW1⟩ : ∃ W1, w.alloc (.cells #[.int .i64 u, .int .i64 v] 47) = W1 := ⟨_, rfl⟩
  have z1 : W1.heap.size = w.heap.size + 1 := by rw [← hW1]; simp
  rw [hW1] at hk hb0 q0 q1
  have kf1 := Lib.hid (fun W => few_any A n c W hn hf1)
  replace z1 := Lib.hid z1
  replace q0 := Lib.hid q0
  replace q1 := Lib.hid q1
  replace hf1 := Lib.hid hf1
  have kl := Lib.hid (fun W : World => long_any (some ⟨W.heap.size, 0, none⟩) 2 2 [(A, n, c), (A2, n2, c2)] _ (SR.two (w := W)) (by intro p hp; simp at hp; rcases hp with rfl | rfl <;> assumption) (b := false) (by simp [longB]; omega))
  have km := fun (W : World) (hb : Below w.heap.size w W) => Matches_ok A n c a A2 n2 c2 b num den W (h.below hb (Nat.le_refl _)) (h2.below hb (Nat.le_refl _)) (by omega) (by omega) hnum hden
  rw [hu, hv] at km
  replace km := Lib.hid km
  have kr := fun (Lc Lb : List Cho) (W : World) (hb : Below w.heap.size w W) => lmatches_some A n c a A2 n2 c2 b num den Lc Lb W (h.below hb (Nat.le_refl _)) (h2.below hb (Nat.le_refl _)) (by omega) (by omega) h0 h02 hnum.2 hden.2
  rw [hu, hv] at kr
  replace kr := Lib.hid kr
  have hla := Lib.hid h.len
  have hlb := Lib.hid h2.len
  clear h h2
  replace hl := Lib.hid hl
  replace hu := Lib.hid hu
  replace hv := Lib.hid hv
  have kf2 := Lib.hid (fun W => few_any A2 n2 c2 W hn2 hf2)
  replace hf2 := Lib.hid hf2
  have tok : True := trivial
  rcases (by omega : u < v ∨ v ≤ u) with huv | huv
  all_goals
    go_enter Try.func8, Try.ntmps8
    go_wp2_with (first
      | (go_at_call 11; refine hk.out.mono ?_; rintro e w1 ⟨rfl, hbw⟩; have hz1 : w.heap.size < w1.heap.size := (by have := hbw.size; have := z1.out; omega); have t0 := (hbw.cell (p := ⟨w.heap.size, 0, none⟩) (by have := z1.out; show w.heap.size < _; omega)).trans q0.out; have t1 := (hbw.cell (p := ⟨w.heap.size, 1, none⟩) (by have := z1.out; show w.heap.size < _; omega)).trans q1.out; have hB1 := hb0.trans (hbw.mono hb0.size))
      | (go_at_call 12; clear tok; refine (kf1.out _).mono ?_; rintro e w' ⟨rfl, rfl⟩)
      | (go_at_call 12; refine (kf2.out _).mono ?_; rintro e w' ⟨rfl, rfl⟩)
      | (go_at_call 24; refine (km.out _ hB1).mono ?_; rintro e w2 ⟨⟨m, A3, c3, rfl, hret, hm⟩, hb2⟩; have hz2 := hb2.size; replace t0 := (hb2.cell (p := ⟨w.heap.size, 0, none⟩) hz1).trans t0; replace t1 := (hb2.cell (p := ⟨w.heap.size, 1, none⟩) hz1).trans t1; have hz3 : w.heap.size < w2.heap.size := (by omega); have hB2 := hB1.trans (hb2.mono hB1.size); replace hret := Lib.hid hret; replace hm := Lib.hid hm)
      | (go_at_call 15; refine (kl.out _).mono ?_; rintro e w' ⟨rfl, rfl⟩)
      | (go_at_call 26; obtain ⟨Lc, Lb, hLc, hLb, hmm⟩ := hret.out.some (by rw [← hla.out]; exact h0) (by rw [← hlb.out]; exact h02); refine (kr.out Lc Lb _ (hB2.alloc hB2.size _) hLc hLb).mono ?_; rintro e w3 ⟨⟨v3, rfl, ho3⟩, hb3⟩; rw [hla.out, ← hmm] at ho3; obtain ⟨A5, c5, rfl, hm4', -, -⟩ := own_form ho3; have hm4 : MS w3 A5 m.length c5 m := hm4'; have hm5 : MS w3 A3 m.length c3 m := SR.below (SR.alloc hm.out (.cells #[.slice A n c, .slice A2 n2 c2] 22)) hb3 (Nat.le_refl _); have heq := Lib.hid (kEq hm5 hm4); clear hm4' hm4 hm5 ho3; replace hmm := Lib.hid hmm; replace hLc := Lib.hid hLc; replace hLb := Lib.hid hLb; have hB3 := (hB2.alloc hB2.size (.cells #[.slice A n c, .slice A2 n2 c2] 22)).trans (hb3.mono (hB2.alloc hB2.size (.cells #[.slice A n c, .slice A2 n2 c2] 22)).size))
      | (go_at_call 25; refine heq.out.mono ?_; rintro e w4 ⟨rfl, hb4⟩))
    all_goals (go_ret; exact ⟨rfl, hB3.trans (hb4.mono hB3.size)⟩)

end Go.Proofs.Ytofoiocpopmifaa
