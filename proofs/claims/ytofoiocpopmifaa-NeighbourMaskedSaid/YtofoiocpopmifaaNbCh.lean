/-
  Walks: choices, isClear of package neighbour.
-/
import Derived.Test.YtofoiocpopmifaaNbNe
set_option linter.unusedSimpArgs false
set_option linter.unusedVariables false
namespace Go.Proofs.Ytofoiocpopmifaa
open Go.RowKit

/-- Choices: index, distance. -/
abbrev Cho := Nat × Nat
def choAt (l : List Cho) (i : Nat) : Cho := l.getD i (0, 0)
theorem choAt_eq {l : List Cho} {i : Nat} (h : i < l.length) : choAt l i = l[i] := by simp [choAt, List.getD, List.getElem?_eq_getElem h]
def chcells (l : List Cho) : List Value := l.flatMap fun v => [.int .i64 (v.1 : Int), .int .i64 (v.2 : Int)]
theorem chcells_length : ∀ l : List Cho, (chcells l).length = l.length * 2
  | [] => rfl
  | c :: l => by
    have := chcells_length l
    simp only [chcells, List.flatMap_cons, List.length_append, List.length_cons, List.length_nil] at this ⊢
    omega
theorem chcells_at : ∀ {l : List Cho} {i : Nat}, i < l.length → (chcells l)[i * 2]? = some (.int .i64 ((choAt l i).1 : Int)) ∧ (chcells l)[i * 2 + 1]? = some (.int .i64 ((choAt l i).2 : Int))
  | [], i, h => by simp at h
  | e :: l, 0, h => ⟨rfl, rfl⟩
  | e :: l, i + 1, h => by
    have := chcells_at (l := l) (i := i) (by simpa using h)
    rw [show (i + 1) * 2 = i * 2 + 1 + 1 from by omega]
    exact this

/-- Is the choice clear: no other word of the list is too near? -/
def clearB (l : List Nat) (x k d num den : Nat) : Bool := decide (∀ i, i < l.length → i ≠ k → d * den ≤ num * dst (nw l i) x)

set_option maxRecDepth 100000 in
set_option maxHeartbeats 1600000 in
theorem isClear_any (A : Option Addr) (n c : Nat) (l : List Nat) (x k d num den : Nat) (w : World) (h : WS w A n c l) (hx : x < 2 ^ 64) (hn : n ≤ 1000000) (hk : k ≤ 1000000) (hd : d ≤ 64) (hnum : num ≤ 1000) (hden : den ≤ 1000) {b : Bool} (hb : clearB l x k d num den = b) :
    Calls Try.prog 59 #[.agg #[.int .i64 (k : Int), .int .i64 (d : Int)], .slice A n c, .int .u64 (x : Int), .int .i64 (num : Int), .int .i64 (den : Int)] w fun e w' => e = .returned (.bool b) ∧ Below w.heap.size w w' := by
  have hcap := h.le_cap
  have hcl := h.cap_le
  have hlen := Lib.hid h.len
  have hW := Lib.hid h.2
  obtain ⟨W1, hW1⟩ : ∃ W1, w.alloc (.cells #[.int .i64 (k : Int), .int .i64 (d : Int)] 92) = W1 := ⟨_, rfl⟩
  have hb1 : Below w.heap.size w W1 := by rw [← hW1]; exact (Below.refl _ _).alloc (Nat.le_refl _) _
  have hs1 : WS W1 A n c l := by rw [← hW1]; exact h.alloc _
  have q0 : W1.cell? ⟨w.heap.size, 0, none⟩ = some (.int .i64 (k : Int)) := by rw [← hW1]; exact cell_of_row _ w.heap.size 0 _ _ _ (heap_alloc_new w _)
  have q1 : W1.cell? ⟨w.heap.size, 1, none⟩ = some (.int .i64 (d : Int)) := by rw [← hW1]; exact cell_of_row _ w.heap.size 1 _ _ _ (heap_alloc_new w _)
  have z1 : w.heap.size < W1.heap.size := by rw [← hW1]; simp
  have hxh := Lib.hid hx
  have hs1' := Lib.hid hs1
  have hW1' := Lib.hid hW1
  have q0' := Lib.hid q0
  have q1' := Lib.hid q1
  clear h hs1 hx q0 q1
  have hdd : d * den ≤ 64 * 1000 := Nat.mul_le_mul hd hden
  obtain ⟨dd, hdd'⟩ : ∃ dd, d * den = dd := ⟨_, rfl⟩
  rw [hdd'] at hdd
  have hddi : (d : Int) * (den : Int) = (dd : Int) := by rw [← hdd']; simp
  have hwd : IntKind.i64.wrap ((d : Int) * (den : Int)) = (dd : Int) := by rw [hddi, IntWalk.i64_left, IntWalk.wrap64_in _ (by omega)]
  replace hdd' := Lib.hid hdd'
  replace hddi := Lib.hid hddi
  go_enter Try.func59, Try.ntmps59
  go_wp2
  go_loopw [15] (fun i wr => ∃ m : Nat, m ≤ n ∧ i = .int .i64 (m : Int) ∧ Hid (∀ i, i < m → i ≠ k → dd ≤ num * dst (nw l i) x) ∧ Below W1.heap.size W1 wr) (fun i _ => n - (intOf i).toNat)
  case atStart => exact ⟨0, Nat.zero_le _, rfl, Lib.hid (fun i hi => absurd hi (Nat.not_lt_zero _)), by first | exact Below.refl _ _ | (rw [hW1]; exact Below.refl _ _)⟩
  case round =>
    obtain ⟨m, hm, rfl, hag, hB⟩ := hrel
    have r0 := (hB.cell (p := ⟨w.heap.size, 0, none⟩) z1).trans q0'.out
    have r1 := (hB.cell (p := ⟨w.heap.size, 1, none⟩) z1).trans q1'.out
    by_cases hlt : m < n
    · have hki : (m : Int) < (n : Int) := by omega
      have hs := hs1'.out.below hB (Nat.le_refl _)
      obtain ⟨bb, off, rfl, hbw, hc⟩ := hs.at_ (by omega)
      obtain ⟨y, hy⟩ : ∃ y, nw l m = y := ⟨_, rfl⟩
      have hcm := hc m hlt
      rw [hy] at hcm
      obtain ⟨e, he⟩ : ∃ e, dst y x = e := ⟨_, rfl⟩
      have he64 : e ≤ 64 := by rw [← he]; exact dst_le _ _
      have k1 := Lib.hid (fun W => Distance_any y x (by rw [← hy]; exact hW.out.nw m) hxh.out W he)
      have hne : num * e ≤ 1000 * 64 := Nat.mul_le_mul hnum he64
      obtain ⟨ee, hee⟩ : ∃ ee, num * e = ee := ⟨_, rfl⟩
      rw [hee] at hne
      have hwe : IntKind.i64.wrap ((num : Int) * (e : Int)) = (ee : Int) := by
        rw [show (num : Int) * (e : Int) = (ee : Int) from by rw [← hee]; simp, IntWalk.i64_left, IntWalk.wrap64_in _ (by omega)]
      have hag' : ∀ (hv : m ≠ k → dd ≤ ee), Hid (∀ i, i < m + 1 → i ≠ k → dd ≤ num * dst (nw l i) x) := fun hv => Lib.hid fun i hi hik => by
        by_cases e' : i = m
        · subst e'; rw [hy, he, hee]; exact hv hik
        · exact hag.out i (by omega) hik
      replace hy := Lib.hid hy
      replace he := Lib.hid he
      replace hee := Lib.hid hee
      clear hc hs
      by_cases hmk : m = k
      · have hd1 : ((m : Int) != (k : Int)) = false := by simp [hmk]
        have hnx := hag' (fun h => absurd hmk h)
        clear hag'
        replace hmk := Lib.hid hmk
        go_wp2
        go_quiet ((go_at_call 16; exact Calls.quiet_of_same ((k1.out _).mono fun _ _ h => ⟨h.1, h.2.symm⟩)))
        go_wp2
        go_roundw
        case rel => exact ⟨m + 1, hlt, by go_num, hnx, below_drewN hB _⟩
        case measure => simp [intOf]; omega
      · have hd1 : ((m : Int) != (k : Int)) = true := by rw [bne_iff_ne]; omega
        by_cases hle : dd ≤ ee
        · have hd2 : decide ((ee : Int) < (dd : Int)) = false := by simp; omega
          have hnx := hag' (fun _ => hle)
          clear hag'
          replace hmk := Lib.hid hmk
          go_wp2
          go_quiet ((go_at_call 16; exact Calls.quiet_of_same ((k1.out _).mono fun _ _ h => ⟨h.1, h.2.symm⟩)))
          go_wp2
          go_roundw
          case rel => exact ⟨m + 1, hlt, by go_num, hnx, below_drewN hB _⟩
          case measure => simp [intOf]; omega
        · have hd2 : decide ((ee : Int) < (dd : Int)) = true := by simp; omega
          have hd3 : ee < dd := by omega
          have hres : b = false := by
            rw [← hb]
            exact decide_eq_false fun hall => hle (by
              have := hall m (by rw [← hlen.out]; exact hlt) hmk
              rw [hy.out, he.out, hee.out, hdd'.out] at this
              exact this)
          subst hres
          clear hag'
          replace hmk := Lib.hid hmk
          replace hle := Lib.hid hle
          replace hb := Lib.hid hb
          go_wp2
          go_quiet ((go_at_call 16; exact Calls.quiet_of_same ((k1.out _).mono fun _ _ h => ⟨h.1, h.2.symm⟩)))
          go_wp2
          go_ret
          exact ⟨rfl, below_drewN (hb1.trans (hB.mono hb1.size)) _⟩
    · obtain rfl : m = n := by omega
      have hki : ¬ (m : Int) < (m : Int) := by omega
      have hres : b = true := by
        rw [← hb]
        exact decide_eq_true fun i hi hik => by rw [hdd'.out]; exact hag.out i (by rw [hlen.out]; exact hi) hik
      subst hres
      replace hb := Lib.hid hb
      go_wp2
      go_ret
      exact ⟨rfl, hb1.trans (hB.mono hb1.size)⟩

end Go.Proofs.Ytofoiocpopmifaa
