/-
  Memory: slices of corners, rows of corners of the call's own.
-/
import Derived.Test.YtnnaojaadjafbaaCoSpec
import Derived.Test.YtnnaojaadjafbaaRaA
set_option linter.unusedSimpArgs false
set_option linter.unusedVariables false
namespace Go.Proofs.Ytnnaojaadjafbaa
open Go.RowKit

theorem infoI : (Try.prog.info? 3).map (fun i => (i.zero, i.size, i.bytes)) = some (some (.int .i64 0), 1, 8) := by kernel_rfl
theorem infoC : (Try.prog.info? 36).map (fun i => (i.zero, i.size, i.bytes)) = some (some (.agg #[.int .i64 0, .int .i64 0, .int .i64 0]), 3, 24) := by kernel_rfl
/-- A slice value reads as a list of corners. -/
def CS (w : World) (A : Option Addr) (n c : Nat) (l : List Cor) : Prop :=
  n = l.length ∧ n ≤ c ∧ c ≤ 9223372036854775807 ∧ (0 < n → ∃ b off, A = some ⟨b, off, none⟩ ∧ ∀ i, i < n → w.cell? ⟨b, off + i * 3, none⟩ = some (.int .i64 (corAt l i).1) ∧ w.cell? ⟨b, off + i * 3 + 1, none⟩ = some (.int .i64 (corAt l i).2.1) ∧ w.cell? ⟨b, off + i * 3 + 2, none⟩ = some (.int .i64 (corAt l i).2.2))
def ccells (l : List Cor) : List Value := l.flatMap fun c => [.int .i64 c.1, .int .i64 c.2.1, .int .i64 c.2.2]
theorem ccells_length : ∀ l : List Cor, (ccells l).length = l.length * 3
  | [] => rfl
  | c :: l => by
    have := ccells_length l
    simp only [ccells, List.flatMap_cons, List.length_append, List.length_cons, List.length_nil] at this ⊢
    omega
theorem ccells_append (a b : List Cor) : ccells (a ++ b) = ccells a ++ ccells b := by simp [ccells]
theorem ccells_one (l : List Cor) : ∀ u ∈ ccells l, u.oneCell' = true := by
  intro u hu
  unfold ccells at hu
  obtain ⟨e, _, h⟩ := List.mem_flatMap.1 hu
  simp only [List.mem_cons, List.not_mem_nil, or_false] at h
  rcases h with rfl | rfl | rfl <;> rfl
theorem ccells_at : ∀ {l : List Cor} {i : Nat}, i < l.length → (ccells l)[i * 3]? = some (.int .i64 (corAt l i).1) ∧ (ccells l)[i * 3 + 1]? = some (.int .i64 (corAt l i).2.1) ∧ (ccells l)[i * 3 + 2]? = some (.int .i64 (corAt l i).2.2)
  | [], i, h => by simp at h
  | e :: l, 0, h => ⟨rfl, rfl, rfl⟩
  | e :: l, i + 1, h => by
    have := ccells_at (l := l) (i := i) (by simpa using h)
    rw [show (i + 1) * 3 = i * 3 + 1 + 1 + 1 from by omega]
    exact this

section
variable {w w' : World} {A : Option Addr} {n c : Nat} {l : List Cor}
theorem CS.nil (w : World) : CS w none 0 0 [] := ⟨rfl, Nat.le_refl _, by omega, fun h => by omega⟩
theorem CS.at_ (h : CS w A n c l) (h0 : 0 < n) : ∃ b off, A = some ⟨b, off, none⟩ ∧ b < w.heap.size ∧ ∀ i, i < n → w.cell? ⟨b, off + i * 3, none⟩ = some (.int .i64 (corAt l i).1) ∧ w.cell? ⟨b, off + i * 3 + 1, none⟩ = some (.int .i64 (corAt l i).2.1) ∧ w.cell? ⟨b, off + i * 3 + 2, none⟩ = some (.int .i64 (corAt l i).2.2) := by
  obtain ⟨b, off, e, hc⟩ := h.2.2.2 h0
  exact ⟨b, off, e, World.block_lt_of_cell? w _ (hc 0 h0).1, hc⟩
theorem CS.keep (h : CS w A n c l) (hk : 0 < n → ∀ b i, (∃ off, A = some ⟨b, off, none⟩) → b < w.heap.size → w'.cell? ⟨b, i, none⟩ = w.cell? ⟨b, i, none⟩) : CS w' A n c l :=
  ⟨h.1, h.2.1, h.2.2.1, fun h0 => by
    obtain ⟨b, off, e, hb, hc⟩ := h.at_ h0
    exact ⟨b, off, e, fun i hi => ⟨(hk h0 b _ ⟨off, e⟩ hb).trans (hc i hi).1, (hk h0 b _ ⟨off, e⟩ hb).trans (hc i hi).2.1, (hk h0 b _ ⟨off, e⟩ hb).trans (hc i hi).2.2⟩⟩⟩
theorem CS.below (h : CS w A n c l) {B : Nat} (hb : Below B w w') (hB : w.heap.size ≤ B) : CS w' A n c l :=
  h.keep fun _ b i _ hlt => hb.cell (p := ⟨b, i, none⟩) (Nat.lt_of_lt_of_le hlt hB)
theorem CS.below' (h : CS w A n c l) {B : Nat} (hb : Below B w w') (hB : 0 < n → ∀ b off, A = some ⟨b, off, none⟩ → b < B) : CS w' A n c l :=
  h.keep fun h0 b i ⟨off, e⟩ _ => hb.cell (p := ⟨b, i, none⟩) (hB h0 b off e)
theorem CS.old (h : CS w A n c l) : 0 < n → ∀ b off, A = some ⟨b, off, none⟩ → b < w.heap.size := fun h0 b off e => by
  obtain ⟨b', off', e', hb, _⟩ := h.at_ h0
  rw [e] at e'
  cases e'
  exact hb
theorem CS.alloc (h : CS w A n c l) (o : Obj) : CS (w.alloc o) A n c l :=
  h.keep fun _ b i _ hlt => World.cell?_alloc_lt w o ⟨b, i, none⟩ hlt
theorem CS.drewN (h : CS w A n c l) (k : Nat) : CS (w.drewN k) A n c l := h
theorem CS.take (h : CS w A n c l) {k : Nat} (hk : k ≤ n) : CS w A k c (l.take k) := by
  refine ⟨by rw [List.length_take, ← h.1]; omega, by have := h.2.1; omega, h.2.2.1, fun h0 => ?_⟩
  obtain ⟨b, off, e, _, hc⟩ := h.at_ (by omega)
  refine ⟨b, off, e, fun i hi => ?_⟩
  have : corAt (l.take k) i = corAt l i := by simp [corAt, List.getD, List.getElem?_take, hi]
  rw [this]
  exact hc i (by omega)
theorem CS.of_own {B : Nat} (h : w.ownsRow B 36 3 (.slice A n c) n (ccells l)) : CS w A n c l := by
  have h1 := h.1
  rw [ccells_length] at h1
  rcases h.2 with ⟨h2, h0⟩ | ⟨g, cap, cur, h2, hB, hh, hnc, hcm, hcs, htake⟩
  · cases h2
    exact ⟨by omega, Nat.le_refl _, by omega, fun h => by omega⟩
  · cases h2
    refine ⟨by omega, hnc, by simpa [maxLen] using hcm, fun h0 => ⟨g, 0, rfl, fun i hi => ?_⟩⟩
    obtain ⟨e0, e1, e2⟩ := ccells_at (l := l) (i := i) (by omega)
    have hcell := h.cells (g := g) (by simp [Value.ownBlock])
    refine ⟨?_, ?_, ?_⟩
    · have := hcell _ _ e0; rw [Addr.add_lit] at this; exact this
    · have := hcell _ _ e1; rw [Addr.add_lit] at this; rw [Nat.add_assoc]; exact this
    · have := hcell _ _ e2; rw [Addr.add_lit] at this; rw [Nat.add_assoc]; exact this
theorem own_form {v : Value} {B : Nat} (h : w.ownsRow B 36 3 v n (ccells l)) : ∃ A c, v = .slice A n c ∧ CS w A n c l ∧ (A = none → c = 0) ∧ ∀ b off, A = some ⟨b, off, none⟩ → B ≤ b := by
  rcases h.2 with ⟨h2, h0⟩ | ⟨g, cap, cur, h2, hB, -⟩
  · subst h2 h0
    exact ⟨none, 0, rfl, CS.of_own h, fun _ => rfl, fun b off e => (by cases e)⟩
  · subst h2
    exact ⟨_, cap, rfl, CS.of_own h, fun e => (by cases e), fun b off e => (by cases e; exact hB)⟩
/-- The cells of corners in memory. -/
theorem CS.cells {a : Addr} (h : CS w (some a) n c l) : ∀ j u, (ccells l)[j]? = some u → w.cell? (a.add j) = some u := by
  intro j u hj
  have hjl : j < n * 3 := by
    have := (List.getElem?_eq_some_iff.1 hj).1
    rw [ccells_length, ← h.1] at this
    exact this
  obtain ⟨b, off, e, -, hc⟩ := h.at_ (by omega)
  cases e
  obtain ⟨e0, e1, e2⟩ := ccells_at (l := l) (i := j / 3) (by have := h.1; omega)
  obtain ⟨c0, c1, c2⟩ := hc (j / 3) (by omega)
  rw [Addr.add_lit]
  have h3 : j % 3 = 0 ∨ j % 3 = 1 ∨ j % 3 = 2 := by omega
  rcases h3 with h3 | h3 | h3
  · rw [show j / 3 * 3 = j from by omega] at e0 c0
    rw [c0, ← hj, e0]
  · rw [show j / 3 * 3 + 1 = j from by omega] at e1
    rw [show off + j / 3 * 3 + 1 = off + j from by omega] at c1
    rw [c1, ← hj, e1]
  · rw [show j / 3 * 3 + 2 = j from by omega] at e2
    rw [show off + j / 3 * 3 + 2 = off + j from by omega] at c2
    rw [c2, ← hj, e2]
end

section
variable {w w' : World} {B : Nat} {e : TypeId} {k : Nat} {v : Value} {n : Nat} {xs : List Value}
theorem own_far (h : w.ownsRow B e k v n xs) {p : Addr} (hp : ∀ q, v.ownBlock = some q → q ≠ p.block) (u : Value) : (w.setCell p u).ownsRow B e k v n xs := by
  refine h.kept (row := some p.block) ⟨rfl, rfl, rfl, by simp [World.setCell], fun i _ hi => Below.heap_setCell w p u i (fun e => hi (by rw [e]))⟩ ?_
  cases hv : v.ownBlock with
  | none => exact .inl rfl
  | some q => exact .inr fun e => hp q hv (by injection e)
theorem own_bel (h : w.ownsRow B e k v n xs) (hb : Below w.heap.size w w') : w'.ownsRow B e k v n xs := by
  refine h.kept (row := none) ⟨hb.os, hb.tape, hb.output, hb.size, fun i hi _ => hb.block i hi⟩ ?_
  cases hv : v.ownBlock with
  | none => exact .inl rfl
  | some q => exact .inr (by simp)
theorem own_mono (h : w.ownsRow B e k v n xs) {B' : Nat} (hB : B' ≤ B) : w.ownsRow B' e k v n xs := by
  refine ⟨h.1, ?_⟩
  rcases h.2 with h' | ⟨g, cap, cur, h1, h2, h3⟩
  · exact .inl h'
  · exact .inr ⟨g, cap, cur, h1, by omega, h3⟩
end

/-- What is asked of a function value that takes a corner of a list: in every later world it says p, and leaves what lay. -/
def PredC (g : Nat) (lb : Array Value) (p : Cor → Bool) (l : List Cor) (w : World) : Prop :=
  ∀ (W : World) (x : Cor), x ∈ l → Below w.heap.size w W → Calls Try.prog g (#[.agg #[.int .i64 x.1, .int .i64 x.2.1, .int .i64 x.2.2]] ++ lb) W fun e w' => e = .returned (.bool (p x)) ∧ Below W.heap.size W w'
theorem PredC.at_ {g : Nat} {lb : Array Value} {p : Cor → Bool} {l : List Cor} {w : World} (h : PredC g lb p l w) {x : Cor} (hm : x ∈ l) {b : Bool} (hx : p x = b) (W : World) (hb : Below w.heap.size w W) :
    Calls Try.prog g (#[.agg #[.int .i64 x.1, .int .i64 x.2.1, .int .i64 x.2.2]] ++ lb) W fun e w' => e = .returned (.bool b) ∧ Below W.heap.size W w' := hx ▸ h W x hm hb
theorem canyI {l : List Cor} {p : Cor → Bool} {k : Nat} (hk : k < l.length) (h : p (corAt l k) = true) : l.any p = true := by
  rw [corAt_eq hk] at h
  exact List.any_eq_true.2 ⟨_, List.getElem_mem hk, h⟩
theorem canyN {l : List Cor} {p : Cor → Bool} (h : ∀ j, j < l.length → p (corAt l j) = false) : l.any p = false := by
  rw [List.any_eq_false]
  intro x hx
  obtain ⟨i, hi, rfl⟩ := List.mem_iff_getElem.1 hx
  have := h i hi
  rw [corAt_eq hi] at this
  simp [this]

set_option maxHeartbeats 1600000 in
theorem IndexFunc_cors (g : Nat) (lb : Array Value) (p : Cor → Bool) (eg : ∀ args w, (callFunc g args).run Try.prog w = .ok (.enter g args) w) (A : Option Addr) (n c : Nat) (l : List Cor) (w : World) (h : CS w A n c l) (hp : PredC g lb p l w) :
    Calls Try.prog 49 #[.slice A n c, .func (.func g) #[] lb] w fun e w' => (∃ r : Int, e = .returned (.int .i64 r) ∧ decide (0 ≤ r) = l.any p) ∧ Below w.heap.size w w' := by
  have hcap := h.2.1
  have hcl := h.2.2.1
  have hlen := Lib.hid h.1
  have hp' := Lib.hid hp
  clear hp
  go_enter Try.func49, Try.ntmps49
  go_wp2
  go_loopw [8] (fun i wr => ∃ k : Nat, k ≤ n ∧ i = .int .i64 k ∧ Below w.heap.size w wr ∧ Hid (∀ j, j < k → p (corAt l j) = false)) (fun i _ => n - (intOf i).toNat)
  case atStart => exact ⟨0, Nat.zero_le _, rfl, Below.refl _ _, Lib.hid fun j hj => absurd hj (Nat.not_lt_zero _)⟩
  case round =>
    obtain ⟨k, hk, rfl, hB, HA⟩ := hrel
    by_cases hlt : k < n
    · obtain ⟨b, off, rfl, hbw, hc⟩ := (h.below hB (Nat.le_refl _)).at_ (by omega)
      obtain ⟨q0, q1, q2⟩ := hc k hlt
      clear hc h
      have hmem : corAt l k ∈ l := by rw [corAt_eq (by rw [← hlen.out]; exact hlt)]; exact List.getElem_mem _
      obtain ⟨⟨x, y, s⟩, hy⟩ : ∃ y, corAt l k = y := ⟨_, rfl⟩
      rw [hy] at q0 q1 q2 hmem
      obtain ⟨m, hm⟩ : ∃ m, k * 3 = m := ⟨_, rfl⟩
      simp only [hm] at q0 q1 q2
      replace hy := Lib.hid hy
      cases hq : p (x, y, s) with
      | true =>
        have hcall := Lib.hid (hp'.out.at_ hmem hq)
        replace hq := Lib.hid hq
        replace hmem := Lib.hid hmem
        go_wp2_with (go_at_fn g; refine (hcall.out _ hB).mono ?_; rintro e w' ⟨rfl, hb2⟩)
        go_ret
        exact ⟨⟨_, rfl, by rw [canyI (by rw [← hlen.out]; exact hlt) (by rw [hy.out]; exact hq.out)]; simp⟩, hB.trans (hb2.mono hB.size)⟩
      | false =>
        have hcall := Lib.hid (hp'.out.at_ hmem hq)
        replace hq := Lib.hid hq
        replace hmem := Lib.hid hmem
        go_wp2_with (go_at_fn g; refine (hcall.out _ hB).mono ?_; rintro e w' ⟨rfl, hb2⟩)
        exact ⟨⟨k + 1, hlt, by go_num, hB.trans (hb2.mono hB.size), Lib.hid fun j hj => (by
          by_cases e : j = k
          · rw [e, hy.out]; exact hq.out
          · exact HA.out j (by omega))⟩, by simp [intOf]; omega⟩
    · obtain rfl : k = n := by omega
      go_wp2
      go_ret
      exact ⟨⟨_, rfl, by rw [canyN (by rw [← hlen.out]; exact HA.out)]; simp⟩, hB⟩

theorem ContainsFunc_cors (g : Nat) (lb : Array Value) (p : Cor → Bool) (eg : ∀ args w, (callFunc g args).run Try.prog w = .ok (.enter g args) w) (A : Option Addr) (n c : Nat) (l : List Cor) (w : World) (h : CS w A n c l) (hp : PredC g lb p l w) {b : Bool} (hb : l.any p = b) :
    Calls Try.prog 22 #[.slice A n c, .func (.func g) #[] lb] w fun e w' => e = .returned (.bool b) ∧ Below w.heap.size w w' := by
  subst hb
  have hcon := Lib.hid (IndexFunc_cors g lb p eg A n c l w h hp)
  generalize l.any p = b at hcon
  clear h hp
  go_enter Try.func22, Try.ntmps22
  go_wp2_with (go_at_call 49; refine hcon.out.mono ?_; rintro e w' ⟨⟨r, rfl, hr⟩, hb2⟩; replace hr := Lib.hid hr)
  go_ret
  exact ⟨ret_bool hr.out, hb2⟩

end Go.Proofs.Ytnnaojaadjafbaa
