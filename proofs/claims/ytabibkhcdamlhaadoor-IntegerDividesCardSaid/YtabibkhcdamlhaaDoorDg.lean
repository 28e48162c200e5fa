/-
  Walk: divideGroups of package integer.
-/
import Derived.Test.YtabibkhcdamlhaaDoorDl
import Derived.Test.YtabibkhcdamlhaaDoorLogA
import Derived.Test.YtabibkhcdamlhaaDoorNa
import Derived.Test.YtabibkhcdamlhaaDoorSml
set_option linter.unusedSimpArgs false
set_option linter.unusedVariables false
namespace Go.Proofs.YtabibkhcdamlhaaDoor
open Go.RowKit Num

theorem cmpi_lt0 {a b : Nat} (h : a < b) : ∃ s, cmpi (a : Int) (b : Int) = s ∧ s < 0 := ⟨_, rfl, by unfold cmpi; split <;> omega⟩
theorem cmpi_ge0 {a b : Nat} (h : b ≤ a) : ∃ s, cmpi (a : Int) (b : Int) = s ∧ ¬ s < 0 := ⟨_, rfl, by unfold cmpi; split <;> (try split) <;> omega⟩

/-- The quotient and the rest. -/
def RetD (w : World) (m d ka kd : Nat) (e : Ending) (w' : World) : Prop :=
  ∃ A3 n3 c3 A4 n4 c4, e = .returned (.tuple #[.slice A3 n3 c3, .slice A4 n4 c4]) ∧ FM w' w.heap.size A3 n3 c3 (m / d) ka ∧ FM w' w.heap.size A4 n4 c4 (m % d) kd ∧ Below w.heap.size w w'

set_option maxRecDepth 100000 in
set_option maxHeartbeats 1600000 in
/-- divideGroups. -/
theorem divideGroups_any (A : Option Addr) (na ca m ka : Nat) (A2 : Option Addr) (n cb d kd : Nat) (w : World) (ha : MM w A na ca m ka) (hb : MM w A2 n cb d kd) (hka : ka ≤ 1000000) (hkd : kd ≤ 1000000) (hd : 0 < d) :
    Calls Tryd.prog 69 #[.slice A na ca, .slice A2 n cb] w (RetD w m d ka kd) := by
  by_cases hlt : m < d
  · obtain ⟨s, hs, hs0⟩ := cmpi_lt0 hlt
    have hq : m / d = 0 := Nat.div_eq_of_lt hlt
    have hr : m % d = m := Nat.mod_eq_of_lt hlt
    go_enter Tryd.func69, Tryd.ntmps69
    go_wp2_with (first | (go_at_call 73; refine (compare_c hs ha hb (by omega)).mono ?_; rintro e w1 ⟨rfl, hb1⟩) | (go_at_call 53; refine (copied_mm (ha.below hb1) (by omega)).mono ?_; rintro e w2 ⟨A3, c3, rfl, hf3, hb3⟩))
    refine bodyPost_ret (v := .tuple #[.slice none 0 0, .slice A3 na c3]) (by simp [results, Tryd.results69, go_sem]) rfl ?_
    refine ⟨_, _, _, _, _, _, rfl, ?_, ?_, hb1.trans (hb3.mono hb1.size)⟩
    · rw [hq]; exact FM.nil _ _ _
    · rw [hr]; exact (hf3.base hb1.size).tight hb (by omega)
  · obtain ⟨s, hs, hs0⟩ := cmpi_ge0 (Nat.le_of_not_lt hlt)
    have hmd : m % d ≤ d := Nat.le_of_lt (Nat.mod_lt _ hd)
    obtain ⟨lb, hsb, hcb, hvb, hnb⟩ := hb
    obtain ⟨la, hsa, hca, hva, hna⟩ := ha
    have hlb := hsb.len
    have hla := hsa.len
    have hn0 : n ≠ 0 := fun h => by
      have : lb = [] := by apply List.eq_nil_of_length_eq_zero; omega
      rw [this, val_nil] at hvb; omega
    have hnna : n ≤ na := Nat.le_of_not_lt fun h => hlt (by rw [← hva, ← hvb]; exact hca.len_lt hcb (by omega))
    have ha : MM w A na ca m ka := ⟨la, hsa, hca, hva, hna⟩
    have hb : MM w A2 n cb d kd := ⟨lb, hsb, hcb, hvb, hnb⟩
    by_cases h1 : n = 1
    · subst h1
      have hd0 : nth lb 0 = d := by
        match lb, hlb with
        | [x], _ => rw [← hvb]; simp [val, nth]
      have hd9 : d < 1000000000 := by rw [← hd0]; exact hcb.1.get 0
      obtain ⟨kb, ob, rfl, hkb, hc⟩ := hsb.at_ (by omega)
      have hc0 := hc 0 (by omega)
      rw [hd0, Nat.add_zero] at hc0
      have hcap := hsb.le_cap
      clear hc hlb hla hsa hca hva hna hsb hcb hvb hnb hd0 hn0 hlt
      go_enter Tryd.func69, Tryd.ntmps69
      go_wp2_with (first | (go_at_call 73; refine (compare_c hs ha hb (by omega)).mono ?_; rintro e w1 ⟨rfl, hb1⟩; have hc1 := (hb1.cell (p := ⟨kb, ob, none⟩) hkb).trans hc0) | (go_at_call 90; refine (divideShort_any _ _ _ m ka d _ (ha.below hb1) (by omega) hd (by omega)).mono ?_; rintro e w2 ⟨A3, n3, c3, rfl, hf3, hb3⟩) | (go_at_call 64; refine (ofNumber_any (m % d) (by omega) _).mono ?_; rintro e w3 ⟨A4, n4, c4, rfl, hf4, hb4⟩))
      refine bodyPost_ret (v := .tuple #[.slice A3 n3 c3, .slice A4 n4 c4]) (by simp [results, Tryd.results69, go_sem]) rfl ?_
      have hs1 := hb1.size
      have hs2 := hb3.size
      exact ⟨_, _, _, _, _, _, rfl, (hf3.below hb4).base hs1, (hf4.base (Nat.le_trans hs1 hs2)).tight hb hmd, (hb1.trans (hb3.mono hs1)).trans (hb4.mono (Nat.le_trans hs1 hs2))⟩
    · obtain ⟨n', hn'⟩ : ∃ n', n' + 2 = n := ⟨n - 2, by omega⟩
      have h1I : ¬ (n : Int) = 1 := by omega
      clear hlb hla hsa hca hva hna hsb hcb hvb hnb hn0 hlt
      replace hn' := Lib.hid hn'
      go_enter Tryd.func69, Tryd.ntmps69
      go_wp2_with (first | (go_at_call 73; refine (compare_c hs ha hb (by omega)).mono ?_; rintro e w1 ⟨rfl, hb1⟩) | (go_at_call 91; refine (divideLong_any _ _ _ m ka _ n' n _ d kd _ (ha.below hb1) (hb.below hb1) hka hkd hn'.out hnna).mono ?_; rintro e w2 ⟨A3, n3, c3, A4, n4, c4, rfl, hf3, hf4, hb3⟩))
      refine bodyPost_ret (v := .tuple #[.slice A3 n3 c3, .slice A4 n4 c4]) (by simp [results, Tryd.results69, go_sem]) rfl ?_
      exact ⟨_, _, _, _, _, _, rfl, hf3.base hb1.size, hf4.base hb1.size, hb1.trans (hb3.mono hb1.size)⟩

end Go.Proofs.YtabibkhcdamlhaaDoor
