/-
  A region that draws its order, by an invariant of what has come up.
-/
import Derived.Test.YtofoiocpopmifaaChecked
import Derived.WalkKit
set_option linter.unusedSimpArgs false
set_option linter.unusedVariables false
namespace Go.Proofs.Ytofoiocpopmifaa
open Go.RowKit

section
variable {P : Program} {ops : Array Oper} {Q : Exit → Act → World → Prop} {md : Region.Mode} {I : Array Bool → Act → World → Prop}

/-- How many have not come up yet. -/
def openN (L : List Bool) : Nat := L.countP (fun b => !b)

theorem openN_set (L : List Bool) (i : Nat) (h : L[i]? = some false) : openN (L.set i true) + 1 = openN L := by
  induction L generalizing i with
  | nil => simp at h
  | cons b L ih =>
    cases i with
    | zero => simp at h; subst h; simp [openN]
    | succ i =>
      simp only [List.getElem?_cons_succ] at h
      have := ih i h
      unfold openN at *
      cases b <;> simp [List.countP_cons, List.set_cons_succ] at * <;> omega

/-- One operation keeps the invariant. -/
def StepAt (P : Program) (md : Region.Mode) (ops : Array Oper) (Q : Exit → Act → World → Prop) (I : Array Bool → Act → World → Prop) (i : Nat) (o : Oper) : Prop :=
  ∀ (L : Array Bool) (a : Act) (w : World) (K : Act → World → Prop), I L a w → L.getD i true = false → (∀ e ∈ o.after, Region.binds md e = true → L.getD e.on false = true) →
    (∀ a' w', I (L.setIfInBounds i true) a' w' → K a' w') → if Region.wanted o (yielded ops a.tmps) = true then Oper.wp P o a w K Q else K (a.put o.dst undef) w

def StepsFrom (P : Program) (md : Region.Mode) (ops : Array Oper) (Q : Exit → Act → World → Prop) (I : Array Bool → Act → World → Prop) (k : Nat) (l : List Oper) : Prop :=
  ∀ j o, l[j]? = some o → StepAt P md ops Q I (k + j) o

theorem steps_nil {k : Nat} : StepsFrom P md ops Q I k [] := fun j o h => by simp at h
theorem steps_cons {k : Nat} {o : Oper} {l : List Oper} (h : StepAt P md ops Q I k o) (hs : StepsFrom P md ops Q I (k + 1) l) : StepsFrom P md ops Q I k (o :: l) := fun j o' ho => by
  cases j with
  | zero => simp at ho; subst ho; exact h
  | succ j =>
    simp only [List.getElem?_cons_succ] at ho
    have := hs j o' ho
    rwa [show k + 1 + j = k + (j + 1) by omega] at this

theorem mem_ready {L : Array Bool} {i : Nat} (h : i ∈ Region.ready md ops L) : ∃ o, ops[i]? = some o ∧ L.getD i true = false ∧ ∀ e ∈ o.after, Region.binds md e = true → L.getD e.on false = true := by
  unfold Region.ready at h
  obtain ⟨hr, hf⟩ := List.mem_filter.1 h
  cases ho : ops[i]? with
  | none => simp [ho] at hf
  | some o =>
    simp only [ho, Option.map_some, Option.getD_some, Bool.and_eq_true, Bool.not_eq_true'] at hf
    refine ⟨o, rfl, hf.1, fun e he hb => ?_⟩
    have := Array.all_eq_true_iff_forall_mem.1 hf.2 e he
    simpa [hb] using this

theorem ready_mem {L : Array Bool} {i : Nat} {o : Oper} (ho : ops[i]? = some o) (hL : L.getD i true = false) (ha : ∀ e ∈ o.after, Region.binds md e = true → L.getD e.on false = true) : i ∈ Region.ready md ops L := by
  unfold Region.ready
  refine List.mem_filter.2 ⟨List.mem_range.2 (by
    rcases Nat.lt_or_ge i ops.size with h | h
    · exact h
    · rw [Array.getElem?_eq_none h] at ho; simp at ho), ?_⟩
  simp only [ho, Option.map_some, Option.getD_some, hL, Bool.not_false, Bool.true_and]
  refine Array.all_eq_true_iff_forall_mem.2 fun e he => ?_
  cases hb : Region.binds md e with
  | false => simp
  | true => simp [ha e he hb]

/-- Each waits for earlier ones alone. -/
def Fwd (md : Region.Mode) (ops : Array Oper) : Bool := (List.range ops.size).all fun i => ((ops[i]?).map fun o => o.after.all fun e => !Region.binds md e || decide (e.on < i)).getD false

theorem all_listed {L : Array Bool} (hf : Fwd md ops = true) (hs : L.size = ops.size) (hr : Region.ready md ops L = []) : ∀ i, i < ops.size → L.getD i false = true := by
  intro i
  induction i using Nat.strongRecOn with
  | ind i ih =>
    intro hi
    have ho : ops[i]? = some ops[i] := Array.getElem?_eq_getElem hi
    have hfi := List.all_eq_true.1 hf i (List.mem_range.2 hi)
    simp only [ho, Option.map_some, Option.getD_some] at hfi
    cases hL : L.getD i true with
    | false =>
      have := ready_mem (md := md) ho hL (fun e he hb => by
        have hlt0 := Array.all_eq_true_iff_forall_mem.1 hfi e he
        rw [hb, Bool.not_true, Bool.false_or] at hlt0
        have hlt := of_decide_eq_true hlt0
        exact ih e.on hlt (by omega))
      rw [hr] at this
      cases this
    | true =>
      rw [Array.getD_eq_getD_getElem?] at hL ⊢
      rw [Array.getElem?_eq_getElem (by omega)] at hL ⊢
      simpa using hL

theorem wpAny_inv (hf : Fwd md ops = true) (hsz : ∀ L a w, I L a w → L.size = ops.size) (hs : StepsFrom P md ops Q I 0 ops.toList)
    (hd : ∀ L a w, I L a w → (∀ i, i < ops.size → L.getD i false = true) → Q .normal a w) :
    ∀ (fuel : Nat) (L : Array Bool) (a : Act) (w : World), I L a w → openN L.toList ≤ fuel → wpAny P md ops Q fuel L a w := by
  intro fuel
  induction fuel with
  | zero =>
    intro L a w hI hn
    have hr : Region.ready md ops L = [] := by
      rcases List.eq_nil_or_concat (Region.ready md ops L) with h | ⟨l, i, h⟩
      · exact h
      · exfalso
        have hi : i ∈ Region.ready md ops L := by rw [h]; simp
        obtain ⟨o, ho, hL, _⟩ := mem_ready hi
        have hlt : i < L.size := by
          rw [hsz L a w hI]
          rcases Nat.lt_or_ge i ops.size with h | h
          · exact h
          · rw [Array.getElem?_eq_none h] at ho; simp at ho
        have h2 := openN_set L.toList i (by
          rw [Array.getD_eq_getD_getElem?, Array.getElem?_eq_getElem hlt] at hL
          rw [Array.getElem?_toList, Array.getElem?_eq_getElem hlt]
          simpa using hL)
        omega
    exact ⟨hr, hd L a w hI (all_listed hf (hsz L a w hI) hr)⟩
  | succ fuel ih =>
    intro L a w hI hn
    refine ⟨fun hr => hd L a w hI (all_listed hf (hsz L a w hI) hr), fun i hi => ?_⟩
    obtain ⟨o, ho, hL, ha⟩ := mem_ready hi
    have hlt : i < L.size := by
      rw [hsz L a w hI]
      rcases Nat.lt_or_ge i ops.size with h | h
      · exact h
      · rw [Array.getElem?_eq_none h] at ho; simp at ho
    have h2 := openN_set L.toList i (by
      rw [Array.getD_eq_getD_getElem?, Array.getElem?_eq_getElem hlt] at hL
      rw [Array.getElem?_toList, Array.getElem?_eq_getElem hlt]
      simpa using hL)
    have hst := hs i o (by rw [Array.getElem?_toList]; exact ho)
    rw [Nat.zero_add] at hst
    refine wpOp_step ho fun K' hK => ?_
    refine hst L a w K' hI hL ha fun a' w' hI' => hK a' w' (ih _ a' w' hI' ?_)
    simp only [Array.toList_setIfInBounds]
    omega

/-- A region that draws its order, by an invariant. -/
theorem wp_region_inv {id : Nat} {l : List Oper} {a : Act} {w : World} {I : Array Bool → Act → World → Prop} (hm : P.follows .mixedOrders = true) (hf : Fwd .any l.toArray = true) (hsz : ∀ L a w, I L a w → L.size = l.length)
    (h0 : I (Array.replicate l.length false) a w.drew) (hs : StepsFrom P .any l.toArray Q I 0 l)
    (hd : ∀ L a w, I L a w → (∀ i, i < l.length → L.getD i false = true) → Q .normal a w) : (Code.region id l.toArray true).wp P Q a w := by
  refine wp_region_any hm ?_
  have hrep : openN (Array.replicate l.length false).toList ≤ l.length := by
    unfold openN
    refine Nat.le_trans List.countP_le_length (by simp)
  have hlen : l.toArray.size = l.length := by simp
  rw [hlen]
  exact wpAny_inv (P := P) (ops := l.toArray) (Q := Q) (md := .any) (I := I) hf (fun L a w h => (hsz L a w h).trans hlen.symm) (by rw [List.toList_toArray]; exact hs) (fun L a w h hall => hd L a w h (fun i hi => hall i (by rw [hlen]; exact hi))) l.length (Array.replicate l.length false) a w.drew h0 hrep

/-- The same, the invariant speaking of the state in which the region begins. -/
theorem wp_region_inv0 {id : Nat} {l : List Oper} {a : Act} {w : World} {I0 : Act → Array Bool → Act → World → Prop} (hm : P.follows .mixedOrders = true) (hf : Fwd .any l.toArray = true) (hsz : ∀ L a' w, I0 a L a' w → L.size = l.length)
    (h0 : I0 a (Array.replicate l.length false) a w.drew) (hs : StepsFrom P .any l.toArray Q (I0 a) 0 l)
    (hd : ∀ L a' w, I0 a L a' w → (∀ i, i < l.length → L.getD i false = true) → Q .normal a' w) : (Code.region id l.toArray true).wp P Q a w :=
  wp_region_inv (I := I0 a) hm hf hsz h0 hs hd

end
end Go.Proofs.Ytofoiocpopmifaa

/-
  A region that draws its order, by an invariant with stages: which of some operations have come up (always the first of them), and facts of the slots.
-/
namespace Go.Proofs.Ytofoiocpopmifaa
open Go.RowKit

/-- Operation j has come up. -/
abbrev On (L : Array Bool) (j : Nat) : Prop := L.getD j false = true
/-- Of the operations ch exactly the first k have come up. -/
def Stg (ch : List Nat) (k : Nat) (L : Array Bool) : Prop := k ≤ ch.length ∧ ∀ q c, ch[q]? = some c → L.getD c false = decide (q < k)
/-- What holds as soon as operation i has come up. -/
def FC (L : Array Bool) (i : Nat) (P : Prop) : Prop := On L i → P

theorem getD_set_ne {L : Array Bool} {i j : Nat} (h : i ≠ j) : (L.setIfInBounds i true).getD j false = L.getD j false := by
  rw [Array.getD_eq_getD_getElem?, Array.getD_eq_getD_getElem?, Array.getElem?_setIfInBounds, if_neg h]
theorem getD_set_eq {L : Array Bool} {i : Nat} (h : i < L.size) : (L.setIfInBounds i true).getD i false = true := by
  rw [Array.getD_eq_getD_getElem?, Array.getElem?_setIfInBounds, if_pos rfl, if_pos h]
  rfl

theorem stg_start {ch : List Nat} {n : Nat} : Stg ch 0 (Array.replicate n false) := by
  refine ⟨Nat.zero_le _, fun q c _ => ?_⟩
  rw [Array.getD_eq_getD_getElem?, Array.getElem?_replicate]
  split <;> rfl
theorem stg_keep {ch : List Nat} {k i : Nat} {L : Array Bool} (h : Stg ch k L) (hi : ch.contains i = false) : Stg ch k (L.setIfInBounds i true) := by
  refine ⟨h.1, fun q c hc => ?_⟩
  rw [getD_set_ne]
  · exact h.2 q c hc
  · rintro rfl
    have := List.mem_of_getElem? hc
    rw [← List.contains_iff_mem] at this
    rw [hi] at this
    cases this
theorem stg_zero {ch : List Nat} {k i : Nat} {L : Array Bool} (h : Stg ch k L) (hi : ch[0]? = some i) (hoff : L.getD i true = false) (hL : i < L.size) : k = 0 := by
  have h1 := h.2 0 i hi
  have h2 : L.getD i false = false := by
    rw [Array.getD_eq_getD_getElem?, Array.getElem?_eq_getElem hL] at hoff ⊢
    simpa using hoff
  rw [h2] at h1
  have := of_decide_eq_false h1.symm
  omega
theorem stg_at {ch : List Nat} {k i p : Nat} {L : Array Bool} (j : Nat) (h : Stg ch k L) (hi : ch[j + 1]? = some i) (hp : ch[j]? = some p) (hoff : L.getD i true = false) (hL : i < L.size) (hon : On L p) : k = j + 1 := by
  have h1 := h.2 (j + 1) i hi
  have h2 : L.getD i false = false := by
    rw [Array.getD_eq_getD_getElem?, Array.getElem?_eq_getElem hL] at hoff ⊢
    simpa using hoff
  rw [h2] at h1
  have h3 := of_decide_eq_false h1.symm
  have h4 := h.2 j p hp
  rw [hon] at h4
  have h5 := of_decide_eq_true h4.symm
  omega
theorem stg_next {ch : List Nat} {j i : Nat} {L : Array Bool} (h : Stg ch j L) (hi : ch[j]? = some i) (hd : ch.Nodup) (hL : i < L.size) : Stg ch (j + 1) (L.setIfInBounds i true) := by
  have hj := (List.getElem?_eq_some_iff.1 hi).1
  refine ⟨hj, fun q c hc => ?_⟩
  by_cases hq : q = j
  · subst hq
    rw [hi] at hc
    cases hc
    rw [getD_set_eq hL]
    exact (decide_eq_true (by omega)).symm
  · rw [getD_set_ne, h.2 q c hc]
    · exact decide_eq_decide.2 (by omega)
    · rintro rfl
      have h1 := (List.getElem?_eq_some_iff.1 hc)
      have h2 := (List.getElem?_eq_some_iff.1 hi)
      obtain ⟨a1, b1⟩ := h1
      obtain ⟨a2, b2⟩ := h2
      exact hq ((List.getElem_inj hd).1 (b1.trans b2.symm))
theorem stg_done {ch : List Nat} {k n : Nat} {L : Array Bool} (h : Stg ch k L) (hall : ∀ i, i < n → L.getD i false = true) (hn : ch.all (fun c => decide (c < n)) = true) : k = ch.length := by
  rcases Nat.lt_or_ge k ch.length with hk | hk
  · have h1 := h.2 k ch[k] (List.getElem?_eq_getElem hk)
    rw [hall _ (of_decide_eq_true (List.all_eq_true.1 hn _ (List.getElem_mem hk)))] at h1
    have := of_decide_eq_true h1.symm
    omega
  · have := h.1
    omega

theorem FC.keep {L : Array Bool} {i j : Nat} {P : Prop} (h : FC L j P) (hne : i ≠ j) : FC (L.setIfInBounds i true) j P := fun e => h (by unfold On at e; rwa [getD_set_ne hne] at e)
theorem FC.new {L : Array Bool} {i : Nat} {P : Prop} (h : P) : FC L i P := fun _ => h
theorem FC.start {n i : Nat} {P : Prop} : FC (Array.replicate n false) i P := fun h => by
  unfold On at h
  rw [Array.getD_eq_getD_getElem?, Array.getElem?_replicate] at h
  split at h <;> cases h
theorem FC.put {L : Array Bool} {i j : Nat} {P : Prop} (h : P) : FC (L.setIfInBounds i true) j P := fun _ => h

theorem On.set {L : Array Bool} {j : Nat} (h : On L j) (i : Nat) : On (L.setIfInBounds i true) j := by
  by_cases hij : i = j
  · subst hij
    unfold On at h ⊢
    rw [Array.getD_eq_getD_getElem?] at h ⊢
    rw [Array.getElem?_setIfInBounds, if_pos rfl]
    split
    · rfl
    · rename_i hlt
      rw [Array.getElem?_eq_none (by omega)] at h
      cases h
  · unfold On at h ⊢
    rwa [getD_set_ne hij]
theorem on_off {L : Array Bool} {i : Nat} (hi : L.getD i true = false) (h : On L i) : False := by
  unfold On at h
  rw [Array.getD_eq_getD_getElem?] at hi h
  cases hc : L[i]? with
  | none => rw [hc] at h; cases h
  | some b => rw [hc] at hi h; simp at hi h; rw [hi] at h; cases h
theorem stg_le {ch : List Nat} {k c : Nat} {L : Array Bool} (q : Nat) (h : Stg ch k L) (hc : ch[q]? = some c) (hoff : ¬ On L c) : k ≤ q := by
  have h1 := h.2 q c hc
  rcases Nat.lt_or_ge q k with hq | hq
  · rw [decide_eq_true hq] at h1
    exact absurd h1 hoff
  · exact hq
theorem FC.map {L : Array Bool} {i : Nat} {P Q : Prop} (h : FC L i P) (f : P → Q) : FC L i Q := fun e => f (h e)
/-- All of these have come up as soon as operation i has. -/
def FA (L : Array Bool) (i : Nat) (js : List Nat) : Prop := On L i → ∀ j ∈ js, On L j
theorem FA.keep {L : Array Bool} {i j : Nat} {js : List Nat} (h : FA L j js) (hne : i ≠ j) : FA (L.setIfInBounds i true) j js := fun e q hq => (h (by unfold On at e; rwa [getD_set_ne hne] at e) q hq).set i
theorem FA.put {L : Array Bool} {i j : Nat} {js : List Nat} (h : ∀ q ∈ js, On L q) : FA (L.setIfInBounds i true) j js := fun _ q hq => (h q hq).set i
theorem FA.start {n i : Nat} {js : List Nat} : FA (Array.replicate n false) i js := fun h => by
  unfold On at h
  rw [Array.getD_eq_getD_getElem?, Array.getElem?_replicate] at h
  split at h <;> cases h
/-- What holds as soon as both operations have come up. -/
def FT (L : Array Bool) (i j : Nat) (P : Prop) : Prop := On L i → On L j → P
theorem FT.keep {L : Array Bool} {i a b : Nat} {P : Prop} (h : FT L a b P) (h1 : i ≠ a) (h2 : i ≠ b) : FT (L.setIfInBounds i true) a b P := fun e f => h (by unfold On at e; rwa [getD_set_ne h1] at e) (by unfold On at f; rwa [getD_set_ne h2] at f)
theorem FT.left {L : Array Bool} {i b : Nat} {P : Prop} (h : FC L b P) (h2 : i ≠ b) : FT (L.setIfInBounds i true) i b P := fun _ f => h (by unfold On at f; rwa [getD_set_ne h2] at f)
theorem FT.right {L : Array Bool} {i a : Nat} {P : Prop} (h : FC L a P) (h2 : i ≠ a) : FT (L.setIfInBounds i true) a i P := fun e _ => h (by unfold On at e; rwa [getD_set_ne h2] at e)
theorem FT.start {n i j : Nat} {P : Prop} : FT (Array.replicate n false) i j P := fun h => by
  unfold On at h
  rw [Array.getD_eq_getD_getElem?, Array.getElem?_replicate] at h
  split at h <;> cases h

/-- What an operation waits for has come up. -/
theorem waits {md : Region.Mode} {o : Oper} {L : Array Bool} (ha : ∀ e ∈ o.after, Region.binds md e = true → L.getD e.on false = true) (j : Nat) (h : o.after.toList.any (fun e => Region.binds md e && e.on == j) = true) : On L j := by
  obtain ⟨e, he, hb⟩ := List.any_eq_true.1 h
  simp only [Bool.and_eq_true, beq_iff_eq] at hb
  have := ha e (Array.mem_toList_iff.1 he) hb.1
  rwa [hb.2] at this

/-- The same for several. -/
theorem waits_all {md : Region.Mode} {o : Oper} {L : Array Bool} (ha : ∀ e ∈ o.after, Region.binds md e = true → L.getD e.on false = true) (js : List Nat) (h : js.all (fun j => o.after.toList.any (fun e => Region.binds md e && e.on == j)) = true) : ∀ j ∈ js, On L j := fun j hj =>
  waits ha j (List.all_eq_true.1 h j hj)

end Go.Proofs.Ytofoiocpopmifaa
