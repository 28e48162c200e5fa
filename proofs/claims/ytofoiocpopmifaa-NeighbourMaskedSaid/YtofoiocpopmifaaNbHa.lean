/-
  Walks: the stable sort of at most nineteen numbers; cmp.Compare; the closures of halved; halved.
-/
import Derived.Test.YtofoiocpopmifaaNbSo
import Derived.Test.YtofoiocpopmifaaNbNe
import Derived.Deep.RegionWith
set_option linter.unusedSimpArgs false
set_option linter.unusedVariables false
namespace Go.Proofs.Ytofoiocpopmifaa
open Go.RowKit

theorem stable_any (f : Nat) (lb : Array Value) (κ : Int → Nat) (ok : Int → Prop) (eg : ∀ args w, (callFunc f args).run Try.prog w = .ok (.enter f args) w) (g n c : Nat) (P M S : List Int) (w : World) (hbl : Bl w g (P ++ (M ++ S))) (hn : M.length = n) (hnc : n ≤ c) (hcm : c ≤ 9223372036854775807) (hn20 : n ≤ 19) (h1 : 1 ≤ n)
    (hok : ∀ x ∈ M, ok x) (hcmp : CmpF f lb κ ok w g) :
    Calls Try.prog 66 #[.slice (some ⟨g, P.length, none⟩) n c, .int .i64 (n : Int), .func (.func f) #[] lb] w fun e w' => (e = .returned (.tuple #[]) ∧ ∃ M', Bl w' g (P ++ (M' ++ S)) ∧ M'.Perm M ∧ Asc κ M' n) ∧ Only w w' g := by
  have hi := Lib.hid (insertion_any f lb κ ok eg g n c P M S w hbl hn hnc hcm (by omega) h1 hok hcmp)
  have h1 : ¬ (20 : Int) ≤ (n : Int) := by omega
  have h2 : ¬ (20 : Int) < (n : Int) := by omega
  clear hbl hok hcmp
  go_enter Try.func66, Try.ntmps66
  go_wp2
  go_loopw [7, 8] (fun a b wr => a = .int .i64 0 ∧ b = .int .i64 20 ∧ w = wr) (fun _ _ _ => 0)
  case atStart => exact ⟨rfl, rfl, rfl⟩
  case round =>
    obtain ⟨rfl, rfl, rfl⟩ := hrel
    go_wp2_with (go_at_call 70; refine (hi.out).mono ?_; rintro e w2 ⟨⟨rfl, M', hbl, hpm, hasc⟩, ho⟩)
    go_loopw [6] (fun a wr => a = .int .i64 20 ∧ w2 = wr) (fun _ _ => 0)
    case atStart => exact ⟨rfl, rfl⟩
    case round =>
      obtain ⟨rfl, rfl⟩ := hrel
      go_wp2
      (first | (go_end0; exact ⟨⟨rfl, M', hbl, hpm, hasc⟩, ho⟩) | exact bodyPost_ret (results_none rfl _ _ _) rfl ⟨⟨rfl, M', hbl, hpm, hasc⟩, ho⟩)

theorem sort_any (f : Nat) (lb : Array Value) (κ : Int → Nat) (ok : Int → Prop) (eg : ∀ args w, (callFunc f args).run Try.prog w = .ok (.enter f args) w) (g n c : Nat) (P M S : List Int) (w : World) (hbl : Bl w g (P ++ (M ++ S))) (hn : M.length = n) (hnc : n ≤ c) (hcm : c ≤ 9223372036854775807) (hn20 : n ≤ 19) (h1 : 1 ≤ n)
    (hok : ∀ x ∈ M, ok x) (hcmp : CmpF f lb κ ok w g) :
    Calls Try.prog 61 #[.slice (some ⟨g, P.length, none⟩) n c, .func (.func f) #[] lb] w fun e w' => (e = .returned (.tuple #[]) ∧ ∃ M', Bl w' g (P ++ (M' ++ S)) ∧ M'.Perm M ∧ Asc κ M' n) ∧ Only w w' g := by
  have hi := Lib.hid (stable_any f lb κ ok eg g n c P M S w hbl hn hnc hcm hn20 h1 hok hcmp)
  clear hbl hok hcmp
  go_enter Try.func61, Try.ntmps61
  go_wp2_with (go_at_call 66; refine (hi.out).mono ?_; rintro e w2 ⟨⟨rfl, M', hbl, hpm, hasc⟩, ho⟩)
  (first | (go_end0; exact ⟨⟨rfl, M', hbl, hpm, hasc⟩, ho⟩) | exact bodyPost_ret (results_none rfl _ _ _) rfl ⟨⟨rfl, M', hbl, hpm, hasc⟩, ho⟩)

theorem isNaN_any (x : Int) (w : World) :
    Calls Try.prog 67 #[.int .i64 x] w fun e w' => e = .returned (.bool false) ∧ w = w' := by
  have h : (x != x) = false := by simp
  go_enter Try.func67, Try.ntmps67
  go_wp2
  go_ret
  exact ⟨ret_bool (by first | rfl | exact h), rfl⟩
theorem compare_any (a b : Nat) (w : World) :
    Calls Try.prog 63 #[.int .i64 (a : Int), .int .i64 (b : Int)] w fun e w' => e = .returned (.int .i64 (cmp3 a b)) ∧ w = w' := by
  have hv : cmp3 a b = if a < b then -1 else if b < a then 1 else 0 := rfl
  rcases Nat.lt_trichotomy a b with h | h | h
  · rw [if_pos h] at hv
    have hi : (a : Int) < (b : Int) := by omega
    replace hv := Lib.hid hv
    go_enter Try.func63, Try.ntmps63
    go_wp2_with (go_at_call 67; refine (isNaN_any _ _).mono ?_; rintro e w' ⟨rfl, rfl⟩)
    go_ret
    exact ⟨ret_int hv.out.symm, rfl⟩
  · subst h
    rw [if_neg (by omega), if_neg (by omega)] at hv
    replace hv := Lib.hid hv
    go_enter Try.func63, Try.ntmps63
    go_wp2_with (go_at_call 67; refine (isNaN_any _ _).mono ?_; rintro e w' ⟨rfl, rfl⟩)
    go_ret
    exact ⟨ret_int hv.out.symm, rfl⟩
  · rw [if_neg (by omega), if_pos h] at hv
    have hi : (b : Int) < (a : Int) := by omega
    have hi2 : ¬ (a : Int) < (b : Int) := by omega
    replace hv := Lib.hid hv
    go_enter Try.func63, Try.ntmps63
    go_wp2_with (go_at_call 67; refine (isNaN_any _ _).mono ?_; rintro e w' ⟨rfl, rfl⟩)
    go_ret
    exact ⟨ret_int hv.out.symm, rfl⟩

theorem keyed_any (A : Option Addr) (n c : Nat) (l : List Nat) (t i g1 g2 : Nat) (w : World) (h : WS w A n c l) (ht : t < n) (hi : i < n) (hn : n ≤ 1000000) (k1 : w.cell? ⟨g1, 0, none⟩ = some (.slice A n c)) (k2 : w.cell? ⟨g2, 0, none⟩ = some (.int .i64 (t : Int))) {d : Nat} (hd : dst (nw l t) (nw l i) = d) :
    Calls Try.prog 60 #[.int .i64 (i : Int), .pointer (some ⟨g1, 0, none⟩), .pointer (some ⟨g2, 0, none⟩)] w fun e w' => e = .returned (.int .i64 (d : Int)) ∧ ∃ m, w' = w.drewN m := by
  have hcap := h.le_cap
  have hcl := h.cap_le
  obtain ⟨b, off, rfl, hbw, hc⟩ := h.at_ (by omega)
  obtain ⟨x, hx⟩ : ∃ x, nw l t = x := ⟨_, rfl⟩
  obtain ⟨y, hy⟩ : ∃ y, nw l i = y := ⟨_, rfl⟩
  have c1 := hc t ht
  have c2 := hc i hi
  rw [hx] at c1
  rw [hy] at c2
  rw [hx, hy] at hd
  have hcall := Lib.hid (fun W => Distance_any x y (by rw [← hx]; exact h.2.nw t) (by rw [← hy]; exact h.2.nw i) W hd)
  have i1 : (t : Int) < (n : Int) := by omega
  have i2 : (i : Int) < (n : Int) := by omega
  replace hx := Lib.hid hx
  replace hy := Lib.hid hy
  replace hd := Lib.hid hd
  clear hc h
  go_enter Try.func60, Try.ntmps60
  go_wp2
  go_quiet ((go_at_call 16; exact Calls.quiet_of_same ((hcall.out _).mono fun _ _ h => ⟨h.1, h.2.symm⟩)))
  go_wp2
  go_ret
  exact ⟨rfl, _, rfl⟩

theorem enters_keyed : ∀ args w, (callFunc 60 args).run Try.prog w = .ok (.enter 60 args) w := enters_of Try.func60 (by kernel_rfl) rfl
theorem enters_less : ∀ args w, (callFunc 62 args).run Try.prog w = .ok (.enter 62 args) w := enters_of Try.func62 (by kernel_rfl) rfl

theorem less_any (A : Option Addr) (n c : Nat) (l : List Nat) (t i j g1 g2 g3 : Nat) (w : World) (h : WS w A n c l) (ht : t < n) (hi : i < n) (hj : j < n) (hn : n ≤ 1000000) (k1 : w.cell? ⟨g1, 0, none⟩ = some (.slice A n c)) (k2 : w.cell? ⟨g2, 0, none⟩ = some (.int .i64 (t : Int))) (k3 : w.cell? ⟨g3, 0, none⟩ = some (.func (.func 60) #[] #[.pointer (some ⟨g1, 0, none⟩), .pointer (some ⟨g2, 0, none⟩)])) :
    Calls Try.prog 62 #[.int .i64 (i : Int), .int .i64 (j : Int), .pointer (some ⟨g3, 0, none⟩)] w fun e w' => e = .returned (.int .i64 (cmp3 (dst (nw l t) (nw l i)) (dst (nw l t) (nw l j)))) ∧ ∃ m, w' = w.drewN m := by
  obtain ⟨d, hd⟩ : ∃ d, dst (nw l t) (nw l i) = d := ⟨_, rfl⟩
  obtain ⟨d2, hd2⟩ : ∃ d, dst (nw l t) (nw l j) = d := ⟨_, rfl⟩
  have h1 := fun q => Lib.hid (keyed_any A n c l t i g1 g2 (w.drewN q) (h.drewN q) ht hi hn k1 k2 hd)
  have h2 := fun q => Lib.hid (keyed_any A n c l t j g1 g2 (w.drewN q) (h.drewN q) ht hj hn k1 k2 hd2)
  have h3 := Lib.hid (compare_any d d2)
  have eg := enters_keyed
  rw [hd, hd2]
  replace hd := Lib.hid hd
  replace hd2 := Lib.hid hd2
  clear k1 k2 h
  go_enter Try.func62, Try.ntmps62
  go_wp2
  go_quiet (first | (go_at_fn 60; go_at_call_of 60 (Value.int .i64 (i : Int)); exact Calls.quiet_of (h1 _).out) | (go_at_fn 60; go_at_call_of 60 (Value.int .i64 (j : Int)); exact Calls.quiet_of (h2 _).out) | (go_at_call 63; exact Calls.quiet_of_same ((h3.out _).mono fun _ _ h => ⟨h.1, h.2.symm⟩)))
  go_wp2
  go_ret
  exact ⟨rfl, _, rfl⟩

end Go.Proofs.Ytofoiocpopmifaa
