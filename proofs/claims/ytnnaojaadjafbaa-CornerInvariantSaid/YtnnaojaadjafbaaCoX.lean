/-
  Walks: the closure of corner, corner of package corner.
-/
import Derived.Test.YtnnaojaadjafbaaCoW
import Derived.Test.YtnnaojaadjafbaaCoO
set_option linter.unusedSimpArgs false
set_option linter.unusedVariables false
namespace Go.Proofs.Ytnnaojaadjafbaa
open Go.RowKit

/-- A coordinate of a corner. -/
def posI (S : List Int) (i p st : Nat) : Int := 64 * (p : Int) + 32 + off (nth S (i - st)) (nth S i) (nth S (i + st))
/-- The corner of a place. -/
def corI (a : Nat) (S : List Int) (i : Nat) : Cor := (posI S i (i % a) 1, posI S i (i / a) a, nth S i)

set_option maxHeartbeats 1600000 in
theorem position_any (A : Option Addr) (n c i p st g1 g2 : Nat) (S : List Int) (w : World) (h : Sl w A n c S) (k1 : w.cell? ⟨g1, 1, none⟩ = some (.slice A n c)) (k2 : w.cell? ⟨g2, 0, none⟩ = some (.int .i64 (i : Int))) (hp : p ≤ 4096) (hn : n ≤ 4096) (h1 : st ≤ i) (h2 : i + st < n) (hm : Mag S) {z : Int} (hz : posI S i p st = z) :
    Calls Try.prog 64 #[.int .i64 p, .int .i64 st, .pointer (some ⟨g1, 0, none⟩), .pointer (some ⟨g2, 0, none⟩)] w fun e w' => e = .returned (.int .i64 z) ∧ Below w.heap.size w w' := by
  have hcap := h.le_cap
  have hcl := h.cap_le
  obtain ⟨bb, off', rfl, hbw, hc⟩ := h.at_ (by omega)
  have c0 := hc i (by omega)
  have c1 := hc (i - st) (by omega)
  have c2 := hc (i + st) (by omega)
  have ho := Lib.hid (fun W : World => offset_any (nth S (i - st)) (nth S i) (nth S (i + st)) W (hm _) (hm _) (hm _))
  have hr := off_range (nth S (i - st)) (nth S i) (nth S (i + st))
  have hz' : 64 * (p : Int) + 32 + off (nth S (i - st)) (nth S i) (nth S (i + st)) = z := hz
  obtain ⟨o, hoo⟩ : ∃ o, off (nth S (i - st)) (nth S i) (nth S (i + st)) = o := ⟨_, rfl⟩
  rw [hoo] at ho hr hz'
  obtain ⟨v0, e0⟩ : ∃ v, nth S i = v := ⟨_, rfl⟩
  obtain ⟨v1, e1⟩ : ∃ v, nth S (i - st) = v := ⟨_, rfl⟩
  obtain ⟨v2, e2⟩ : ∃ v, nth S (i + st) = v := ⟨_, rfl⟩
  rw [e0] at c0 ho
  rw [e1] at c1 ho
  rw [e2] at c2 ho
  obtain ⟨r1, r2⟩ := hr
  obtain ⟨im, him⟩ : ∃ im, i - st = im := ⟨_, rfl⟩
  obtain ⟨ip, hip⟩ : ∃ im, i + st = im := ⟨_, rfl⟩
  have mm : (i : Int) - (st : Int) = (im : Int) := by omega
  have mp : (i : Int) + (st : Int) = (ip : Int) := by omega
  rw [him] at c1
  rw [hip] at c2 h2
  have l1 : im < n := by omega
  have l2 : i < n := by omega
  replace hoo := Lib.hid hoo
  replace e0 := Lib.hid e0
  replace e1 := Lib.hid e1
  replace e2 := Lib.hid e2
  replace him := Lib.hid him
  replace hip := Lib.hid hip
  replace hz := Lib.hid hz
  replace hz' := Lib.hid hz'
  clear hc hm h h1
  go_enter Try.func64, Try.ntmps64
  go_wp2
  go_quiet ((go_at_call 50; exact Calls.quiet_of_same ((ho.out _).mono fun _ _ h => ⟨h.1, h.2.symm⟩)))
  go_wp2
  go_ret
  exact ⟨ret_int hz'.out, by first | exact Below.refl _ _ | exact below_drewN (Below.refl _ _) _⟩

end Go.Proofs.Ytnnaojaadjafbaa
