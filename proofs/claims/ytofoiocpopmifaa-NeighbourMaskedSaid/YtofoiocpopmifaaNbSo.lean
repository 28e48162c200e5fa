/-
  Walks: the stable sort of at most twenty numbers by a key.
-/
import Derived.Test.YtofoiocpopmifaaNbBl
set_option linter.unusedSimpArgs false
set_option linter.unusedVariables false
namespace Go.Proofs.Ytofoiocpopmifaa
open Go.RowKit

/-- The comparison of two keys. -/
def cmp3 (a b : Nat) : Int := if a < b then -1 else if b < a then 1 else 0
theorem cmp3_neg {a b : Nat} : decide (cmp3 a b < 0) = decide (a < b) := by
  unfold cmp3
  by_cases h : a < b
  · simp [h]
  · by_cases h2 : b < a
    · simp [h, h2]
    · simp [h, h2]

/-- What is asked of a function value that compares two numbers by a key: it only draws. -/
def CmpF (f : Nat) (lb : Array Value) (κ : Int → Nat) (ok : Int → Prop) (w : World) (g : Nat) : Prop :=
  ∀ (W : World) (x y : Int), Only w W g → ok x → ok y → Calls Try.prog f (#[.int .i64 x, .int .i64 y] ++ lb) W fun e w' => e = .returned (.int .i64 (cmp3 (κ x) (κ y))) ∧ ∃ m, w' = W.drewN m

/-- The places of a list are exchanged. -/
def swp (M : List Int) (j : Nat) : List Int := (M.set j (nth M (j - 1))).set (j - 1) (nth M j)
theorem swp_length (M : List Int) (j : Nat) : (swp M j).length = M.length := by simp [swp]
theorem swp_perm {M : List Int} {j : Nat} (h0 : 0 < j) (h : j < M.length) : (swp M j).Perm M := by
  unfold swp
  have h1 : j - 1 < M.length := by omega
  rw [nth_eq h1, nth_eq h]
  exact List.set_set_perm h h1
theorem swp_nth {M : List Int} {j : Nat} (h0 : 0 < j) (h : j < M.length) (i : Nat) : nth (swp M j) i = if i = j - 1 then nth M j else if i = j then nth M (j - 1) else nth M i := by
  unfold swp
  by_cases e : i = j - 1
  · rw [if_pos e, e, nth_set_self (by rw [List.length_set]; omega)]
  · rw [if_neg e, nth_set_ne (Ne.symm e)]
    by_cases e2 : i = j
    · rw [if_pos e2, e2, nth_set_self h]
    · rw [if_neg e2, nth_set_ne (Ne.symm e2)]

/-- The first i numbers ascend. -/
def Asc (κ : Int → Nat) (M : List Int) (i : Nat) : Prop := ∀ p q, p < q → q < i → κ (nth M p) ≤ κ (nth M q)
/-- The first i + 1 ascend, but for the one at j, which is at most those behind it. -/
def AscBut (κ : Int → Nat) (M : List Int) (i j : Nat) : Prop :=
  (∀ p q, p < q → q ≤ i → p ≠ j → q ≠ j → κ (nth M p) ≤ κ (nth M q)) ∧ ∀ q, j < q → q ≤ i → κ (nth M j) ≤ κ (nth M q)
theorem AscBut.start {κ : Int → Nat} {M : List Int} {i : Nat} (h : Asc κ M i) : AscBut κ M i i := ⟨fun p q h1 h2 h3 h4 => h p q h1 (by omega), fun q h1 h2 => by omega⟩
theorem AscBut.done0 {κ : Int → Nat} {M : List Int} {i : Nat} (h : AscBut κ M i 0) : Asc κ M (i + 1) := fun p q h1 h2 => by
  by_cases e : p = 0
  · subst e; exact h.2 q h1 (by omega)
  · exact h.1 p q h1 (by omega) e (by omega)
theorem AscBut.done {κ : Int → Nat} {M : List Int} {i j : Nat} (h : AscBut κ M i j) (h0 : 0 < j) (hj : j ≤ i) (hle : ¬ κ (nth M j) < κ (nth M (j - 1))) : Asc κ M (i + 1) := fun p q h1 h2 => by
  by_cases e : p = j
  · subst e; exact h.2 q h1 (by omega)
  · by_cases e2 : q = j
    · subst e2
      by_cases e3 : p = q - 1
      · subst e3; omega
      · have := h.1 p (q - 1) (by omega) (by omega) (by omega) (by omega); omega
    · exact h.1 p q h1 (by omega) e e2
theorem AscBut.step {κ : Int → Nat} {M : List Int} {i j : Nat} (h : AscBut κ M i j) (h0 : 0 < j) (hj : j ≤ i) (hi : i < M.length) (hlt : κ (nth M j) < κ (nth M (j - 1))) : AscBut κ (swp M j) i (j - 1) := by
  have hn := swp_nth h0 (M := M) (by omega)
  refine ⟨fun p q h1 h2 h3 h4 => ?_, fun q h1 h2 => ?_⟩
  · rw [hn p, hn q, if_neg h3, if_neg h4]
    by_cases e : p = j
    · rw [if_pos e, if_neg (by omega)]
      exact h.1 (j - 1) q (by omega) h2 (by omega) (by omega)
    · rw [if_neg e]
      by_cases e2 : q = j
      · rw [if_pos e2]; exact h.1 p (j - 1) (by omega) (by omega) e (by omega)
      · rw [if_neg e2]; exact h.1 p q h1 h2 e e2
  · rw [hn (j - 1), hn q, if_pos rfl, if_neg (by omega)]
    by_cases e2 : q = j
    · rw [if_pos e2]; omega
    · rw [if_neg e2]; exact h.2 q (by omega) h2

theorem nth_app_mid {P M S : List Int} {i : Nat} (h : i < M.length) : nth (P ++ (M ++ S)) (P.length + i) = nth M i := by
  simp only [nth, List.getD]
  rw [List.getElem?_append_right (by omega), Nat.add_sub_cancel_left, List.getElem?_append_left h]
theorem set_app_mid {P M S : List Int} {i : Nat} (h : i < M.length) (x : Int) : (P ++ (M ++ S)).set (P.length + i) x = P ++ (M.set i x ++ S) := by
  rw [List.set_append_right _ _ (by omega), Nat.add_sub_cancel_left, List.set_append_left _ _ h]

set_option maxRecDepth 100000 in
set_option maxHeartbeats 3200000 in
theorem insertion_any (f : Nat) (lb : Array Value) (κ : Int → Nat) (ok : Int → Prop) (eg : ∀ args w, (callFunc f args).run Try.prog w = .ok (.enter f args) w) (g n c : Nat) (P M S : List Int) (w : World) (hbl : Bl w g (P ++ (M ++ S))) (hn : M.length = n) (hnc : n ≤ c) (hcm : c ≤ 9223372036854775807) (hn20 : n ≤ 1000) (h1 : 1 ≤ n)
    (hok : ∀ x ∈ M, ok x) (hcmp : CmpF f lb κ ok w g) :
    Calls Try.prog 70 #[.slice (some ⟨g, P.length, none⟩) n c, .int .i64 0, .int .i64 (n : Int), .func (.func f) #[] lb] w fun e w' => (e = .returned (.tuple #[]) ∧ ∃ M', Bl w' g (P ++ (M' ++ S)) ∧ M'.Perm M ∧ Asc κ M' n) ∧ Only w w' g := by
  have hcmp' := Lib.hid hcmp
  have hok' := Lib.hid hok
  clear hcmp hok
  obtain ⟨off, hoff⟩ : ∃ off, P.length = off := ⟨_, rfl⟩
  rw [hoff]
  go_enter Try.func70, Try.ntmps70
  go_wp2
  go_loopw [8] (fun i wr => ∃ (k : Nat) (N : List Int), k < n ∧ i = .int .i64 ((k : Int) + 1) ∧ Bl wr g (P ++ (N ++ S)) ∧ N.Perm M ∧ Hid (Asc κ N (k + 1)) ∧ Only w wr g) (fun i _ => n - (intOf i).toNat)
  case atStart => exact ⟨0, M, by omega, by first | rfl | simp, hbl, List.Perm.refl _, Lib.hid (fun p q h1 h2 => by omega), Only.refl _ _⟩
  case round =>
    clear hbl
    obtain ⟨k, N, hk, rfl, hbl, hperm, hasc, ho⟩ := hrel
    by_cases hlt : k + 1 < n
    · have hki : (k : Int) + 1 < (n : Int) := by omega
      have hst : Hid (AscBut κ N (k + 1) (k + 1)) := Lib.hid (AscBut.start hasc.out)
      clear hasc
      go_wp2
      obtain ⟨wo, hwo⟩ : ∃ wo, wo = wr := ⟨_, rfl⟩
      go_loopw [9] (fun j wr => ∃ (m : Nat) (N : List Int), m ≤ k + 1 ∧ j = .int .i64 (m : Int) ∧ Bl wr g (P ++ (N ++ S)) ∧ N.Perm M ∧ Hid (AscBut κ N (k + 1) m) ∧ Only w wr g) (fun j _ => (intOf j).toNat)
      case atStart => exact ⟨k + 1, N, Nat.le_refl _, by first | rfl | simp, hbl, hperm, hst, ho⟩
      case round =>
        clear hbl hperm hst ho hwo
        obtain ⟨m, N, hm, rfl, hbl, hperm, hbut, ho⟩ := hrel
        have hNl : N.length = n := hperm.length_eq.trans hn
        by_cases hm0 : 0 < m
        · have hd0 : decide ((0 : Int) < (m : Int)) = true := by simp; omega
          have hm0i : (0 : Int) < (m : Int) := by omega
          obtain ⟨x, hx⟩ : ∃ x, nth N m = x := ⟨_, rfl⟩
          obtain ⟨y, hy⟩ : ∃ y, nth N (m - 1) = y := ⟨_, rfl⟩
          have hmn : m < n := by omega
          have hcx := hbl.cell (i := off + m) (by simp; omega)
          have hcy := hbl.cell (i := off + (m - 1)) (by simp; omega)
          rw [← hoff, nth_app_mid (by omega), hx, hoff] at hcx
          rw [← hoff, nth_app_mid (by omega), hy, hoff] at hcy
          have hokx : ok x := hok'.out x (hperm.mem_iff.1 (by rw [← hx, nth_eq (by omega)]; exact List.getElem_mem _))
          have hoky : ok y := hok'.out y (hperm.mem_iff.1 (by rw [← hy, nth_eq (by omega)]; exact List.getElem_mem _))
          have hcall := fun q => Lib.hid (hcmp'.out (wr.drewN q) x y (ho.drewN q) hokx hoky)
          obtain ⟨m1, hm1⟩ : ∃ m1, m - 1 = m1 := ⟨_, rfl⟩
          have hw1 : IntKind.i64.wrap ((m : Int) - 1) = (m1 : Int) := by rw [IntWalk.i64_left, IntWalk.wrap64_in _ (by omega)]; omega
          have hmi : (m : Int) - 1 = (m1 : Int) := by omega
          have hstep0 := @AscBut.step κ N (k + 1) m hbut.out hm0 hm (by omega)
          have hdone0 := @AscBut.done κ N (k + 1) m hbut.out hm0 hm
          rw [hx, hy] at hstep0 hdone0
          have hswb : (P ++ (N ++ S)).set (off + m) y = P ++ (N.set m y ++ S) := by rw [← hoff]; exact set_app_mid (by omega) y
          have hswc : (P ++ (N.set m y ++ S)).set (off + m1) x = P ++ (swp N m ++ S) := by
            rw [← hoff, set_app_mid (by rw [List.length_set]; omega) x]
            unfold swp
            rw [hx, hy, hm1]
          have hswp := (swp_perm (M := N) hm0 (by omega)).trans hperm
          rw [hm1] at hcy hstep0
          have fx := hbl.frozen (off + m)
          have fy := hbl.frozen (off + m1)
          have i1 : (0 : Int) ≤ (m : Int) := by omega
          have i2 : (m : Int) < (n : Int) := by omega
          have i3 : (0 : Int) ≤ (m1 : Int) := by omega
          have i4 : (m1 : Int) < (n : Int) := by omega
          have hne : m ≠ m1 := by omega
          have hne2 : m1 ≠ m := by omega
          obtain ⟨r, hr⟩ : ∃ r, cmp3 (κ x) (κ y) = r := ⟨_, rfl⟩
          have hrr : decide (r < 0) = decide (κ x < κ y) := by rw [← hr]; exact cmp3_neg
          rw [hr] at hcall
          replace hr := Lib.hid hr
          replace hx := Lib.hid hx
          replace hy := Lib.hid hy
          replace hNl := Lib.hid hNl
          have hm1h := Lib.hid hm1
          clear hokx hoky
          by_cases hxy : κ x < κ y
          · have hrn : decide (r < 0) = true := by rw [hrr]; simp [hxy]
            have hrn' : r < 0 := by simpa using hrn
            have hst2 := Lib.hid (hstep0 hxy)
            clear hstep0 hdone0 hrr hm1
            replace hxy := Lib.hid hxy
            replace hperm := Lib.hid hperm
            replace hswp := Lib.hid hswp
            replace hswb := Lib.hid hswb
            replace hswc := Lib.hid hswc
            go_wp2
            go_quiet ((go_at_fn f; exact Calls.quiet_of (hcall _).out))
            go_wp2
            go_region
            go_wp2
            go_roundw
            case rel =>
              refine ⟨m1, swp N m, by omega, ?_, ?_, hswp.out, hst2.out, ?_⟩
              · first | rfl | go_num | (show Value.int .i64 _ = _; rw [hmi])
              · rw [← hswc.out, ← hswb.out]
                first | exact (((hbl.drewN _).set _ _).set _ _).drew | exact ((hbl.drewN _).set _ _).set _ _
              · first | exact ((((ho.drewN _).setCell rfl _).setCell rfl _)).drew | exact (((ho.drewN _).setCell rfl _).setCell rfl _)
            case measure => simp [intOf]; omega
          · have hrn : decide (r < 0) = false := by rw [hrr]; simp [hxy]
            have hrn' : ¬ r < 0 := by simpa using hrn
            have hdn := Lib.hid (hdone0 hxy)
            clear hstep0 hdone0 hrr hm1
            replace hxy := Lib.hid hxy
            replace hperm := Lib.hid hperm
            replace hswp := Lib.hid hswp
            replace hswb := Lib.hid hswb
            replace hswc := Lib.hid hswc
            go_wp2
            go_quiet ((go_at_fn f; exact Calls.quiet_of (hcall _).out))
            go_wp2
            go_roundw
            case rel => exact ⟨k + 1, N, hlt, by go_num, hbl.drewN _, hperm.out, hdn, ho.drewN _⟩
            case measure => simp [intOf]; omega
        · obtain rfl : m = 0 := by omega
          have hdn := Lib.hid hbut.out.done0
          have hd0 : decide ((0 : Int) < ((0 : Nat) : Int)) = false := by simp
          go_wp2
          go_quiet (fail)
          go_wp2
          go_roundw
          case rel => exact ⟨k + 1, N, hlt, by go_num, hbl.drewN _, hperm, hdn, ho.drewN _⟩
          case measure => simp [intOf]; omega
    · obtain rfl : k + 1 = n := by omega
      have hki : ¬ (k : Int) + 1 < ((k + 1 : Nat) : Int) := by omega
      go_wp2
      go_end0
      exact ⟨⟨rfl, N, hbl, hperm, hasc.out⟩, ho⟩

end Go.Proofs.Ytofoiocpopmifaa
