/-
  Walks: slices.Clone, Reverse at empty []uint64; the rest of a list.
-/
import Derived.Test.YtofoiocpopmifaaNbMm
set_option linter.unusedSimpArgs false
set_option linter.unusedVariables false
namespace Go.Proofs.Ytofoiocpopmifaa
open Go.RowKit

theorem WS.rest {w : World} {b off n c k : Nat} {l : List Nat} (h : WS w (some ⟨b, off, none⟩) n c l) (hk : k ≤ n) (A' : Option Addr) (hA : k < n → A' = some ⟨b, off + k, none⟩) : WS w A' (n - k) (c - k) (l.drop k) := by
  have h1 := h.len
  have h2 := h.le_cap
  have h3 := h.cap_le
  refine ⟨⟨by rw [ucells_length, List.length_drop]; omega, by omega, by omega, fun h0 => ?_⟩, fun x hx => h.2 x (List.mem_of_mem_drop hx)⟩
  obtain ⟨b', off', e, hb, hc⟩ := h.1.at_ (by omega)
  cases e
  refine ⟨b, off + k, hA (by omega), hb, fun j u hj => ?_⟩
  have hj' : (ucells l)[k + j]? = some u := by
    rw [← hj]
    unfold ucells
    rw [List.map_drop, List.getElem?_drop]
  rw [Nat.add_assoc]
  exact hc _ _ hj'

set_option maxHeartbeats 1600000 in
theorem Clone_zero (A : Option Addr) (c : Nat) (w : World) (hc : c ≤ 9223372036854775807) (hA : A = none → c = 0) :
    Calls Try.prog 34 #[.slice A 0 c] w fun e w' => (∃ A' c', e = .returned (.slice A' 0 c') ∧ c' ≤ 9223372036854775807) ∧ Below w.heap.size w w' := by
  have q22 : ∀ (w : World) (a : Option Addr) (n c n' c' : Nat), (binOp .eql 22 (.slice a n c) (.slice none n' c')).run Try.prog w = .ok (.bool a.isNone) w := fun w a n c n' c' => Lib.run_eql_slice_nil w _ _ a n c n' c' Try.underlying22
  cases A with
  | none =>
    go_enter Try.func34, Try.ntmps34
    go_wp2
    go_ret
    exact ⟨⟨_, _, rfl, by omega⟩, Below.refl _ _⟩
  | some a =>
    clear hA
    go_enter Try.func34, Try.ntmps34
    go_wp2
    go_ret
    exact ⟨⟨_, _, rfl, by omega⟩, (Below.refl _ _).alloc (Nat.le_refl _) _⟩

theorem Reverse_zero (A : Option Addr) (c : Nat) (w : World) :
    Calls Try.prog 35 #[.slice A 0 c] w fun e w' => e = .returned (.tuple #[]) ∧ w = w' := by
  go_enter Try.func35, Try.ntmps35
  go_wp2
  go_loopw [2, 3] (fun i j wr => i = .int .i64 0 ∧ j = .int .i64 (-1) ∧ w = wr) (fun i _ _ => 0)
  case atStart => exact ⟨rfl, by first | rfl | simp, rfl⟩
  case round =>
    obtain ⟨rfl, rfl, rfl⟩ := hrel
    go_wp2
    go_end0
    exact ⟨rfl, rfl⟩

end Go.Proofs.Ytofoiocpopmifaa
