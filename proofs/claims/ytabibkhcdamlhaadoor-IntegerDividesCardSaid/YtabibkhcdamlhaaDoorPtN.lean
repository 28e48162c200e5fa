/-
  Plain numbers: the reference's long division.
-/
import Derived.Test.YtabibkhcdamlhaaDoorNum
import Derived.Test.YtabibkhcdamlhaaDoorLogA
set_option linter.unusedSimpArgs false
set_option linter.unusedVariables false
namespace Go.Proofs.YtabibkhcdamlhaaDoor
open Num

/-- The quotient's groups from p on are there, and the rest. -/
def PtInv (la : List Nat) (d : Nat) (Q : List Nat) (N p rest : Nat) : Prop :=
  Q.length = N ∧ (∀ i, nth Q i < 1000000000) ∧ rest < d ∧ d * val (Q.drop p) + rest = val (la.drop p)

theorem PtInv.start {la Q : List Nat} {d N rest : Nat} (hQ : Q.length = N) (hz : ∀ i, nth Q i = 0) (hr : val (la.drop N) = rest) (hlt : rest < d) : PtInv la d Q N N rest :=
  ⟨hQ, fun i => by rw [hz]; omega, hlt, by rw [List.drop_of_length_le (by omega), val_nil, hr]; simp⟩

theorem PtInv.step {la Q : List Nat} {d N x rest s : Nat} (h : PtInv la d Q N (x + 1) rest) (hx : x < N) (hxl : x < la.length) (hg : nth la x < 1000000000) (hs : rest * 1000000000 + nth la x = s) :
    s / d < 1000000000 ∧ PtInv la d (Q.set x (s / d)) N x (s % d) := by
  obtain ⟨h1, h2, h3, h4⟩ := h
  have hd : 0 < d := by omega
  have hq : s / d < 1000000000 := by
    rw [Nat.div_lt_iff_lt_mul hd, ← hs]
    have : (rest + 1) * 1000000000 ≤ d * 1000000000 := Nat.mul_le_mul_right _ h3
    rw [Nat.mul_comm 1000000000 d]
    omega
  have hn : ∀ i, nth (Q.set x (s / d)) i = if i = x then s / d else nth Q i := fun i => nth_set (by omega) _ i
  refine ⟨hq, by simpa using h1, fun i => ?_, Nat.mod_lt _ hd, ?_⟩
  · rw [hn]
    split
    · exact hq
    · exact h2 i
  · rw [val_drop_succ _ _ (show x < (Q.set x (s / d)).length by simp; omega), hn, if_pos rfl, val_drop_succ la x hxl, ← h4]
    have e : val ((Q.set x (s / d)).drop (x + 1)) = val (Q.drop (x + 1)) := by rw [List.drop_set_of_lt (by omega)]
    rw [e]
    have hm := Nat.div_add_mod s d
    obtain ⟨g, hg'⟩ : ∃ g, s / d = g := ⟨_, rfl⟩
    obtain ⟨r, hr'⟩ : ∃ r, s % d = r := ⟨_, rfl⟩
    obtain ⟨t, ht⟩ : ∃ t, val (Q.drop (x + 1)) = t := ⟨_, rfl⟩
    rw [hg', hr', ← hs] at hm
    rw [hg', hr', ht]
    have e1 : d * (g + 1000000000 * t) = d * g + 1000000000 * (d * t) := by grind
    rw [e1]
    omega

theorem PtInv.done {la Q : List Nat} {d N rest : Nat} (h : PtInv la d Q N 0 rest) : val Q = val la / d ∧ rest = val la % d := by
  obtain ⟨h1, h2, h3, h4⟩ := h
  rw [List.drop_zero, List.drop_zero] at h4
  have hd : 0 < d := by omega
  rw [← h4, Nat.mul_add_div hd, Nat.div_eq_of_lt h3, Nat.mul_add_mod, Nat.mod_eq_of_lt h3]
  exact ⟨rfl, rfl⟩

/-- The guess is not above the quotient. -/
theorem guess_le {R lb : List Nat} {n1 S top : Nat} (hR : R.length ≤ n1 + 2) (hS : val R = S) (hb : lb.length = n1 + 1) (hgb : Grp lb) (ht : nth lb n1 = top) (hb0 : 0 < val lb) :
    (nth R (n1 + 1) * 1000000000 + nth R n1) / (top + 1) ≤ S / val lb := by
  have e1 : val R = vs R 0 n1 + pw n1 * nth R n1 + pw (n1 + 1) * nth R (n1 + 1) := by
    rw [← vs_all R (k := n1 + 2) hR, vs_succ, vs_succ, Nat.zero_add, Nat.zero_add]
  have e2 : val lb = vs lb 0 n1 + pw n1 * top := by
    rw [← vs_all lb (k := n1 + 1) (by omega), vs_succ, Nat.zero_add, ht]
  have h3 : vs lb 0 n1 < pw n1 := vs_lt fun i _ => hgb.get _
  obtain ⟨T, hT⟩ : ∃ T, nth R (n1 + 1) * 1000000000 + nth R n1 = T := ⟨_, rfl⟩
  obtain ⟨g, hg⟩ : ∃ g, T / (top + 1) = g := ⟨_, rfl⟩
  have h4 : g * (top + 1) ≤ T := by rw [← hg]; exact Nat.div_mul_le_self _ _
  rw [hT, hg, Nat.le_div_iff_mul_le hb0, ← hS]
  have h5 : pw n1 * T ≤ val R := by
    rw [e1, ← hT, pw_succ]
    have : pw n1 * (nth R (n1 + 1) * 1000000000 + nth R n1) = pw n1 * nth R n1 + pw n1 * 1000000000 * nth R (n1 + 1) := by grind
    omega
  have h6 : val lb ≤ pw n1 * (top + 1) := by rw [e2, Nat.mul_add]; omega
  calc g * val lb ≤ g * (pw n1 * (top + 1)) := Nat.mul_le_mul_left _ h6
    _ = pw n1 * (g * (top + 1)) := by grind
    _ ≤ pw n1 * T := Nat.mul_le_mul_left _ h4
    _ ≤ val R := h5

/-- The factor leaves the divisor as long as it is. -/
theorem factor_len {lb : List Nat} {n1 top F : Nat} (hb : lb.length = n1 + 1) (hgb : Grp lb) (ht : nth lb n1 = top) (htop : top < 1000000000) (hF : 1000000000 / (top + 1) = F) : 0 < F ∧ F ≤ 1000000000 ∧ val lb * F < pw (n1 + 1) := by
  have hF0 : 0 < F := by rw [← hF]; exact Nat.div_pos (by omega) (by omega)
  have hF1 : F * (top + 1) ≤ 1000000000 := by rw [← hF]; exact Nat.div_mul_le_self _ _
  have e2 : val lb = vs lb 0 n1 + pw n1 * top := by
    rw [← vs_all lb (k := n1 + 1) (by omega), vs_succ, Nat.zero_add, ht]
  have h3 : vs lb 0 n1 < pw n1 := vs_lt fun i _ => hgb.get _
  refine ⟨hF0, by rw [← hF]; exact Nat.div_le_self _ _, ?_⟩
  have h4 : val lb < pw n1 * (top + 1) := by rw [e2, Nat.mul_add]; omega
  calc val lb * F < pw n1 * (top + 1) * F := (Nat.mul_lt_mul_right hF0).2 h4
    _ = pw n1 * (F * (top + 1)) := by grind
    _ ≤ pw n1 * 1000000000 := Nat.mul_le_mul_left _ hF1
    _ = pw (n1 + 1) := (pw_succ _).symm

theorem can_len_ge {l : List Nat} (h : Cano l) {n : Nat} (hv : pw n ≤ val l) : n + 1 ≤ l.length := by
  apply Classical.byContradiction
  intro hlt
  have h1 := val_lt h.1
  have h2 := pw_le (show l.length ≤ n by omega)
  omega

theorem MM.tight {w w0 : World} {A A0 : Option Addr} {n c v k n0 c0 m k0 : Nat} (h : MM w A n c v k) (hm : MM w0 A0 n0 c0 m k0) (hle : v ≤ m) : MM w A n c v k0 := by
  obtain ⟨l, hf, hc, rfl, hn⟩ := h
  obtain ⟨l0, hs0, hc0, rfl, hn0⟩ := hm
  refine ⟨l, hf, hc, rfl, ?_⟩
  have h1 := hf.len
  have h2 := hs0.len
  apply Classical.byContradiction
  intro hlt
  have := hc0.len_lt hc (by omega)
  omega

end Go.Proofs.YtabibkhcdamlhaaDoor
