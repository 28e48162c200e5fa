/-
  Walks: slices.Clone and Reverse at []uint64 of any length: a list read backwards.
-/
import Derived.Test.YtofoiocpopmifaaNbCz
set_option linter.unusedSimpArgs false
set_option linter.unusedVariables false
namespace Go.Proofs.Ytofoiocpopmifaa
open Go.RowKit

theorem Bw.ws {w : World} {g n c : Nat} {L : List Nat} (h : Bw w g L) (hn : n = L.length) (hnc : n ≤ c) (hc : c ≤ 9223372036854775807) (hW : Words L) : WS w (some ⟨g, 0, none⟩) n c L := by
  refine ⟨⟨by rw [ucells_length]; omega, hnc, hc, fun _ => ⟨g, 0, rfl, h.lt, fun j u hj => ?_⟩⟩, hW⟩
  have hjl : j < L.length := by
    have := (List.getElem?_eq_some_iff.1 hj).1
    rwa [ucells_length] at this
  rw [Nat.zero_add, h.cell hjl, ← hj, ucells_at hjl]
theorem Rev.words {b rb : List Nat} (h : Rev b rb) (hW : Words b) : Words rb := fun x hx => by
  obtain ⟨i, hi, rfl⟩ := List.mem_iff_getElem.1 hx
  have := h.2 i (by rw [← h.1]; exact hi)
  rw [nw_eq hi] at this
  rw [this]
  exact hW.nw _
/-- A clone that can be written. -/
def CloneOk (w : World) (B : Nat) (A : Option Addr) (n c : Nat) (l : List Nat) : Prop :=
  (n = 0 ∧ c ≤ 9223372036854775807) ∨ ∃ g, A = some ⟨g, 0, none⟩ ∧ B ≤ g ∧ Bw w g l ∧ 0 < n ∧ n ≤ c ∧ c ≤ 9223372036854775807
theorem Clone_w (A : Option Addr) (n c : Nat) (l : List Nat) (w : World) (h : WS w A n c l) (hn : n ≤ 1000) (hA : A = none → c = 0) :
    Calls Try.prog 34 #[.slice A n c] w fun e w' => (∃ A' c', e = .returned (.slice A' n c') ∧ CloneOk w' w.heap.size A' n c' l) ∧ Below w.heap.size w w' := by
  have hcl := h.cap_le
  by_cases h0 : n = 0
  · subst h0
    exact (Clone_zero A c w hcl hA).mono fun e w' ⟨⟨A', c', he, hc⟩, hb⟩ => ⟨⟨A', c', he, .inl ⟨rfl, hc⟩⟩, hb⟩
  · exact (Clone_some A n c l w h (by omega) (by omega)).mono fun e w' ⟨g, c', he, hg, hbl, hnc, hcm, hb⟩ => ⟨⟨_, c', he, .inr ⟨g, rfl, hg, hbl, by omega, hnc, hcm⟩⟩, hb⟩
theorem Reverse_w (A : Option Addr) (n c B : Nat) (l : List Nat) (w : World) (h : CloneOk w B A n c l) (hl : n = l.length) (hW : Words l) (hB : B ≤ w.heap.size) :
    Calls Try.prog 35 #[.slice A n c] w fun e w' => (e = .returned (.tuple #[]) ∧ ∃ rb, Rev l rb ∧ WS w' A n c rb) ∧ Below B w w' := by
  rcases h with ⟨rfl, hc⟩ | ⟨g, rfl, hg, hbl, h0, hnc, hcm⟩
  · obtain rfl : l = [] := List.eq_nil_of_length_eq_zero hl.symm
    exact (Reverse_zero A c w).mono fun e w' ⟨he, hw⟩ => ⟨⟨he, [], ⟨rfl, fun i hi => by simp at hi⟩, ⟨by simp [ucells], by omega, hc, fun h => by omega⟩, hW⟩, hw ▸ Below.refl B w⟩
  · exact (Reverse_any g 0 n c l w hbl h0 (by omega) hnc hcm).mono fun e w' ⟨⟨he, L, hL, hr⟩, ho⟩ => ⟨⟨he, L, by
      have hr' : Reved l L 0 l.length := by rw [← hl]; exact hr
      refine ⟨hr'.rev, hL.ws (by rw [hr.1]; exact hl) hnc hcm (hr'.rev.words hW)⟩⟩, ho.below hg hB⟩

end Go.Proofs.Ytofoiocpopmifaa
