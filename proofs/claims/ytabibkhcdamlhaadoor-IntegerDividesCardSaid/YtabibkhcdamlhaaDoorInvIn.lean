/-
  A region that draws its order, inside a fence, by an invariant of what has come up.
-/
import Derived.Test.YtabibkhcdamlhaaDoorInv
import Derived.RegionIn
set_option linter.unusedSimpArgs false
set_option linter.unusedVariables false
namespace Go.Proofs.YtabibkhcdamlhaaDoor
open Go.RowKit

section
variable {F : Fence} {n : Nat} {P : Program} {ops : Array Oper} {Q : Exit → Act → World → Prop} {md : Region.Mode} {I : Array Bool → Act → World → Prop}

/-- One operation keeps the invariant. -/
def StepAtIn (F : Fence) (n : Nat) (P : Program) (md : Region.Mode) (ops : Array Oper) (Q : Exit → Act → World → Prop) (I : Array Bool → Act → World → Prop) (i : Nat) (o : Oper) : Prop :=
  ∀ (L : Array Bool) (a : Act) (w : World) (K : Act → World → Prop), I L a w → L.getD i true = false → (∀ e ∈ o.after, Region.binds md e = true → L.getD e.on false = true) →
    (∀ a' w', I (L.setIfInBounds i true) a' w' → K a' w') → if Region.wanted o (yielded ops a.tmps) = true then Oper.wpIn F n P o a w K Q else (∀ f, o.about P w a.eval = some f → F.fn f) ∧ K (a.put o.dst undef) w

def StepsFromIn (F : Fence) (n : Nat) (P : Program) (md : Region.Mode) (ops : Array Oper) (Q : Exit → Act → World → Prop) (I : Array Bool → Act → World → Prop) (k : Nat) (l : List Oper) : Prop :=
  ∀ j o, l[j]? = some o → StepAtIn F n P md ops Q I (k + j) o

theorem stepsIn_nil {k : Nat} : StepsFromIn F n P md ops Q I k [] := fun j o h => by simp at h
theorem stepsIn_cons {k : Nat} {o : Oper} {l : List Oper} (h : StepAtIn F n P md ops Q I k o) (hs : StepsFromIn F n P md ops Q I (k + 1) l) : StepsFromIn F n P md ops Q I k (o :: l) := fun j o' ho => by
  cases j with
  | zero => simp at ho; subst ho; exact h
  | succ j =>
    simp only [List.getElem?_cons_succ] at ho
    have := hs j o' ho
    rwa [show k + 1 + j = k + (j + 1) by omega] at this

theorem wpAnyIn_inv (hf : Fwd md ops = true) (hsz : ∀ L a w, I L a w → L.size = ops.size) (hs : StepsFromIn F n P md ops Q I 0 ops.toList)
    (hd : ∀ L a w, I L a w → (∀ i, i < ops.size → L.getD i false = true) → Q .normal a w) :
    ∀ (fuel : Nat) (L : Array Bool) (a : Act) (w : World), I L a w → openN L.toList ≤ fuel → wpAnyIn F n P md ops Q fuel L a w := by
  intro fuel
  induction fuel with
  | zero =>
    intro L a w hI hn
    have hr : Region.ready md ops L = [] := by
      rcases List.eq_nil_or_concat (Region.ready md ops L) with h | ⟨l, i, h⟩
      · exact h
      · exfalso
        have hi : i ∈ Region.ready md ops L := by rw [h]; simp
        obtain ⟨o, ho, hL, _⟩ := mem_ready hi
        have hlt : i < L.size := by
          rw [hsz L a w hI]
          rcases Nat.lt_or_ge i ops.size with h | h
          · exact h
          · rw [Array.getElem?_eq_none h] at ho; simp at ho
        have h2 := openN_set L.toList i (by
          rw [Array.getD_eq_getD_getElem?, Array.getElem?_eq_getElem hlt] at hL
          rw [Array.getElem?_toList, Array.getElem?_eq_getElem hlt]
          simpa using hL)
        omega
    exact ⟨hr, hd L a w hI (all_listed hf (hsz L a w hI) hr)⟩
  | succ fuel ih =>
    intro L a w hI hn
    refine ⟨fun hr => hd L a w hI (all_listed hf (hsz L a w hI) hr), fun i hi => ?_⟩
    obtain ⟨o, ho, hL, ha⟩ := mem_ready hi
    have hlt : i < L.size := by
      rw [hsz L a w hI]
      rcases Nat.lt_or_ge i ops.size with h | h
      · exact h
      · rw [Array.getElem?_eq_none h] at ho; simp at ho
    have h2 := openN_set L.toList i (by
      rw [Array.getD_eq_getD_getElem?, Array.getElem?_eq_getElem hlt] at hL
      rw [Array.getElem?_toList, Array.getElem?_eq_getElem hlt]
      simpa using hL)
    have hst := hs i o (by rw [Array.getElem?_toList]; exact ho)
    rw [Nat.zero_add] at hst
    refine wpOpIn_step ho fun K' hK => ?_
    refine hst L a w K' hI hL ha fun a' w' hI' => hK a' w' (ih _ a' w' hI' ?_)
    simp only [Array.toList_setIfInBounds]
    omega

/-- A region that draws its order, by an invariant. -/
theorem wpIn_region_inv {id : Nat} {l : List Oper} {a : Act} {w : World} {I : Array Bool → Act → World → Prop} (hm : P.follows .mixedOrders = true) (hf : Fwd .any l.toArray = true) (hsz : ∀ L a w, I L a w → L.size = l.length)
    (h0 : I (Array.replicate l.length false) a w.drew) (hs : StepsFromIn F n P .any l.toArray Q I 0 l)
    (hd : ∀ L a w, I L a w → (∀ i, i < l.length → L.getD i false = true) → Q .normal a w) : (Code.region id l.toArray true).wpIn F n P Q a w := by
  refine wpIn_region_any hm ?_
  have hrep : openN (Array.replicate l.length false).toList ≤ l.length := by
    unfold openN
    refine Nat.le_trans List.countP_le_length (by simp)
  have hlen : l.toArray.size = l.length := by simp
  rw [hlen]
  exact wpAnyIn_inv (F := F) (n := n) (P := P) (ops := l.toArray) (Q := Q) (md := .any) (I := I) hf (fun L a w h => (hsz L a w h).trans hlen.symm) (by rw [List.toList_toArray]; exact hs) (fun L a w h hall => hd L a w h (fun i hi => hall i (by rw [hlen]; exact hi))) l.length (Array.replicate l.length false) a w.drew h0 hrep

/-- The same, the invariant speaking of the state in which the region begins. -/
theorem wpIn_region_inv0 {id : Nat} {l : List Oper} {a : Act} {w : World} {I0 : Act → Array Bool → Act → World → Prop} (hm : P.follows .mixedOrders = true) (hf : Fwd .any l.toArray = true) (hsz : ∀ L a' w, I0 a L a' w → L.size = l.length)
    (h0 : I0 a (Array.replicate l.length false) a w.drew) (hs : StepsFromIn F n P .any l.toArray Q (I0 a) 0 l)
    (hd : ∀ L a' w, I0 a L a' w → (∀ i, i < l.length → L.getD i false = true) → Q .normal a' w) : (Code.region id l.toArray true).wpIn F n P Q a w :=
  wpIn_region_inv (I := I0 a) hm hf hsz h0 hs hd

end
end Go.Proofs.YtabibkhcdamlhaaDoor
