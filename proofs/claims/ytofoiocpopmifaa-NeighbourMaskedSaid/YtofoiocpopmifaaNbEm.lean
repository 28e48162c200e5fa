/-
  What Matches returns: its members; exchanged lists; a smaller ratio.
-/
import Derived.Test.YtofoiocpopmifaaNbMx
import Derived.Test.YtofoiocpopmifaaNbKp
set_option linter.unusedSimpArgs false
set_option linter.unusedVariables false
namespace Go.Proofs.Ytofoiocpopmifaa

/-- A match. -/
def Mtc (a b : List Nat) (num den : Nat) (t : Mat) : Prop :=
  t.1 < a.length ∧ Near b (nw a t.1) t.2.1 t.2.2 ∧ Near a (nw b t.2.1) t.1 t.2.2 ∧ clearB b (nw a t.1) t.2.1 t.2.2 num den = true ∧ clearB a (nw b t.2.1) t.1 t.2.2 num den = true
theorem near_comm {a b : List Nat} {i j d d' : Nat} (h : Near b (nw a i) j d) (h' : Near a (nw b j) i d') : d = d' := by
  rw [← h.2.1, ← h'.2.1]; exact dst_comm _ _
theorem RetM.mem {a b : List Nat} {num den : Nat} {l : List Mat} (h : RetM a b num den l) (t : Mat) : t ∈ l ↔ Mtc a b num den t := by
  obtain ⟨i, j, d⟩ := t
  rcases h with ⟨h0, rfl⟩ | ⟨h1, h2, Lc, Lb, hc, hb, rfl⟩
  · constructor
    · intro h; cases h
    · rintro ⟨g1, g2, -⟩
      have := g2.1
      simp only at g1 this
      omega
  · unfold matF
    simp only [List.mem_map, List.mem_filter, List.mem_range]
    constructor
    · rintro ⟨k, ⟨hk, hsel⟩, he⟩
      have n1 := hc.2 k hk
      have n2 := hb.2 _ n1.1
      unfold selB at hsel
      simp only [Bool.and_eq_true, beq_iff_eq] at hsel
      obtain ⟨s1, s2, s3⟩ := hsel
      cases he
      rw [s1] at n2 s3
      have hd := near_comm n1 n2
      rw [← hd] at n2 s3
      exact ⟨hk, n1, n2, s2, s3⟩
    · rintro ⟨g1, g2, g3, g4, g5⟩
      simp only at g1 g2 g3 g4 g5
      obtain ⟨e1, e2⟩ := (hc.2 i g1).unique g2
      have n2 := hb.2 j g2.1
      obtain ⟨e3, e4⟩ := n2.unique g3
      refine ⟨i, ⟨g1, ?_⟩, by rw [e1, e2]⟩
      unfold selB
      rw [e1, e2, e3, e4, g4, g5]
      simp
theorem RetM.nodup {a b : List Nat} {num den : Nat} {l : List Mat} (h : RetM a b num den l) : l.Nodup := by
  rcases h with ⟨_, rfl⟩ | ⟨_, _, Lc, Lb, _, _, rfl⟩
  · exact List.nodup_nil
  · unfold matF List.Nodup
    rw [List.pairwise_map]
    have : ((List.range a.length).filter (selB a b num den Lc Lb)).Pairwise (fun x y => x ≠ y) := List.Pairwise.filter _ List.nodup_range
    refine this.imp ?_
    intro x y hxy he
    exact hxy (by injection he)
theorem len_le : ∀ {l1 l2 : List Mat}, l1.Nodup → (∀ x ∈ l1, x ∈ l2) → l1.length ≤ l2.length
  | [], l2, _, _ => Nat.zero_le _
  | x :: t, l2, hn, hs => by
    have hx := hs x (List.mem_cons_self ..)
    have hn' := List.nodup_cons.1 hn
    have := len_le (l1 := t) (l2 := l2.erase x) hn'.2 (fun y hy => (List.mem_erase_of_ne (by rintro rfl; exact hn'.1 hy)).2 (hs y (List.mem_cons_of_mem _ hy)))
    rw [List.length_erase_of_mem hx] at this
    have hpos : 0 < l2.length := List.length_pos_of_mem hx
    simp only [List.length_cons]
    omega
def swapM (t : Mat) : Mat := (t.2.1, t.1, t.2.2)
theorem Mtc.swap {a b : List Nat} {num den : Nat} {t : Mat} (h : Mtc a b num den t) : Mtc b a num den (swapM t) := by
  obtain ⟨i, j, d⟩ := t
  obtain ⟨g1, g2, g3, g4, g5⟩ := h
  exact ⟨g2.1, g3, g2, g5, g4⟩
theorem RetM.swap_mem {a b : List Nat} {num den : Nat} {l l' : List Mat} (h : RetM a b num den l) (h' : RetM b a num den l') {t : Mat} (ht : t ∈ l) : swapM t ∈ l' := (h'.mem _).2 ((h.mem t).1 ht).swap
theorem RetM.len_swap {a b : List Nat} {num den : Nat} {l l' : List Mat} (h : RetM a b num den l) (h' : RetM b a num den l') : l.length = l'.length := by
  have key : ∀ {x y : List Nat} {m m' : List Mat}, RetM x y num den m → RetM y x num den m' → m.length ≤ m'.length := fun {x y m m'} g g' => by
    have hn : (m.map swapM).Nodup := by
      unfold List.Nodup
      rw [List.pairwise_map]
      refine g.nodup.imp ?_
      rintro ⟨i, j, d⟩ ⟨i', j', d'⟩ hne he
      simp only [swapM, Prod.mk.injEq] at he
      exact hne (by obtain ⟨rfl, rfl, rfl⟩ := he; rfl)
    have := len_le (l2 := m') hn (fun z hz => by
      obtain ⟨t, ht, rfl⟩ := List.mem_map.1 hz
      exact g.swap_mem g' ht)
    rwa [List.length_map] at this
  exact Nat.le_antisymm (key h h') (key h' h)
theorem clear_less {l : List Nat} {x k d num den o m : Nat} (hle : o * den ≤ num * m) (hm : 0 < m) (h : clearB l x k d o m = true) : clearB l x k d num den = true := by
  unfold clearB at *
  simp only [decide_eq_true_eq] at h ⊢
  intro i hi hne
  have h1 := h i hi hne
  generalize dst (nw l i) x = s at *
  -- d * m ≤ o * s
  have e1 : d * den * m ≤ num * s * m := by
    have a1 := Nat.mul_le_mul_right den h1
    have a2 := Nat.mul_le_mul_right s hle
    calc d * den * m = d * m * den := by rw [Nat.mul_assoc, Nat.mul_comm den m, ← Nat.mul_assoc]
      _ ≤ o * s * den := a1
      _ = o * den * s := by rw [Nat.mul_assoc, Nat.mul_comm s den, ← Nat.mul_assoc]
      _ ≤ num * m * s := a2
      _ = num * s * m := by rw [Nat.mul_assoc, Nat.mul_comm m s, ← Nat.mul_assoc]
  exact Nat.le_of_mul_le_mul_right e1 hm
theorem RetM.less {a b : List Nat} {num den o m : Nat} {l l' : List Mat} (h : RetM a b num den l) (h' : RetM a b o m l') (hle : o * den ≤ num * m) (hm : 0 < m) {t : Mat} (ht : t ∈ l') : t ∈ l := by
  obtain ⟨g1, g2, g3, g4, g5⟩ := (h'.mem t).1 ht
  exact (h.mem t).2 ⟨g1, g2, g3, clear_less hle hm g4, clear_less hle hm g5⟩

end Go.Proofs.Ytofoiocpopmifaa
