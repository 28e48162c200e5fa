/-
  Numerals: what digits are worth, and that the text of an integer and what Parse reads are inverse to each other.
-/
import Derived.Test.YtalbdjnanmcoeaaDoorX
namespace Go.Proofs.YtalbdjnanmcoeaaDoor
open Go.RowKit Go.Shelf Num

/-- A decimal digit's byte. -/
def isDg (b : UInt8) : Prop := 48 ≤ b.toNat ∧ b.toNat ≤ 57
/-- What digits are worth. -/
def dv (bs : List UInt8) : Nat := bs.foldl (fun a b => 10 * a + (b.toNat - 48)) 0
/-- A numeral: digits without zeros ahead. -/
def Numl (bs : List UInt8) : Prop := bs ≠ [] ∧ (∀ b ∈ bs, isDg b) ∧ (bs.head? = some 48 → bs.length = 1)

theorem dv_from (bs : List UInt8) : ∀ a, bs.foldl (fun a b => 10 * a + (b.toNat - 48)) a = a * 10 ^ bs.length + dv bs := by
  induction bs with
  | nil => intro a; simp [dv]
  | cons b bs ih =>
    intro a
    have h0 := ih (10 * 0 + (b.toNat - 48))
    have h1 := ih (10 * a + (b.toNat - 48))
    simp only [dv, List.foldl_cons, List.length_cons] at h0 h1 ⊢
    rw [h0, h1, Nat.pow_succ, Nat.add_mul, Nat.add_mul]
    rw [show a * (10 ^ bs.length * 10) = 10 * a * 10 ^ bs.length by rw [Nat.mul_comm (10 ^ bs.length) 10, ← Nat.mul_assoc, Nat.mul_comm a 10]]
    simp
    omega
theorem dv_nil : dv [] = 0 := rfl
theorem dv_append (a b : List UInt8) : dv (a ++ b) = dv a * 10 ^ b.length + dv b := by
  unfold dv
  rw [List.foldl_append]
  exact dv_from b _
theorem dv_snoc (a : List UInt8) (b : UInt8) : dv (a ++ [b]) = 10 * dv a + (b.toNat - 48) := by
  unfold dv
  rw [List.foldl_append]
  rfl
theorem dv_cons (b : UInt8) (bs : List UInt8) : dv (b :: bs) = (b.toNat - 48) * 10 ^ bs.length + dv bs := by
  have := dv_from bs (10 * 0 + (b.toNat - 48))
  simpa [dv] using this
theorem dv_lt {bs : List UInt8} (h : ∀ b ∈ bs, isDg b) : dv bs < 10 ^ bs.length := by
  induction bs with
  | nil => simp [dv]
  | cons b bs ih =>
    have h1 := ih (fun b hb => h b (List.mem_cons_of_mem _ hb))
    have h2 := h b (List.mem_cons_self ..)
    rw [dv_cons, List.length_cons, Nat.pow_succ]
    have h3 : b.toNat - 48 ≤ 9 := by have := h2.2; omega
    have := Nat.mul_le_mul_right (10 ^ bs.length) h3
    omega
theorem dv_inj {a b : List UInt8} (ha : ∀ x ∈ a, isDg x) (hb : ∀ x ∈ b, isDg x) (hl : a.length = b.length) (h : dv a = dv b) : a = b := by
  induction a generalizing b with
  | nil => cases b with
    | nil => rfl
    | cons y b => simp at hl
  | cons x a ih =>
    cases b with
    | nil => simp at hl
    | cons y b =>
      have ha' : ∀ x ∈ a, isDg x := fun b hb => ha b (List.mem_cons_of_mem _ hb)
      have hb' : ∀ x ∈ b, isDg x := fun c hc => hb c (List.mem_cons_of_mem _ hc)
      have l1 := dv_lt ha'
      have l2 := dv_lt hb'
      have hl' : a.length = b.length := by simpa using hl
      rw [dv_cons, dv_cons, hl'] at h
      rw [hl'] at l1
      have hp : 0 < 10 ^ b.length := Nat.pow_pos (by omega)
      have e1 : x.toNat - 48 = y.toNat - 48 := by
        have q1 : ((x.toNat - 48) * 10 ^ b.length + dv a) / 10 ^ b.length = x.toNat - 48 := by
          rw [Nat.mul_comm, Nat.mul_add_div hp, Nat.div_eq_of_lt l1, Nat.add_zero]
        have q2 : ((y.toNat - 48) * 10 ^ b.length + dv b) / 10 ^ b.length = y.toNat - 48 := by
          rw [Nat.mul_comm, Nat.mul_add_div hp, Nat.div_eq_of_lt l2, Nat.add_zero]
        rw [← q1, ← q2, h]
      rw [e1] at h
      have e2 : dv a = dv b := by omega
      have hx := ha x (List.mem_cons_self ..)
      have hy := hb y (List.mem_cons_self ..)
      have e3 : x = y := by
        apply UInt8.toNat_inj.1
        have := hx.1; have := hy.1
        omega
      rw [e3, ih ha' hb' hl' e2]
theorem Numl.ge {b : UInt8} {bs : List UInt8} (h : Numl (b :: bs)) (h1 : bs ≠ []) : 10 ^ bs.length ≤ dv (b :: bs) := by
  have hb := h.2.1 b (List.mem_cons_self ..)
  have h0 : b ≠ 48 := fun e => by
    have := h.2.2 (by rw [e]; rfl)
    simp at this
    exact h1 this
  have hb1 : 1 ≤ b.toNat - 48 := by
    have : b.toNat ≠ 48 := fun e => h0 (UInt8.toNat_inj.1 e)
    have := hb.1
    omega
  rw [dv_cons]
  have := Nat.mul_le_mul_right (10 ^ bs.length) hb1
  omega
theorem Numl.len_le {a b : List UInt8} (ha : Numl a) (hb : Numl b) (h : dv a = dv b) : b.length ≤ a.length := by
  rcases b with _ | ⟨y, b⟩
  · simp
  · by_cases hb0 : b = []
    · subst hb0
      have := List.length_pos_iff.2 ha.1
      simp only [List.length_cons, List.length_nil]; omega
    · have h1 := hb.ge hb0
      have h2 := dv_lt ha.2.1
      rw [← h] at h1
      have h3 : 10 ^ b.length < 10 ^ a.length := by omega
      have := (Nat.pow_lt_pow_iff_right (by decide : 1 < 10)).1 h3
      simp only [List.length_cons]
      omega
theorem Numl.inj {a b : List UInt8} (ha : Numl a) (hb : Numl b) (h : dv a = dv b) : a = b :=
  dv_inj ha.2.1 hb.2.1 (Nat.le_antisymm (hb.len_le ha h.symm) (ha.len_le hb h)) h

theorem dig_toNat {d : Nat} (h : d < 10) : (UInt8.ofNat (48 + d)).toNat = 48 + d := by
  rw [UInt8.toNat_ofNat']; omega
theorem isDg_dig {d : Nat} (h : d < 10) : isDg (UInt8.ofNat (48 + d)) := by
  unfold isDg; rw [dig_toNat h]; omega

theorem dec_dv (u : Nat) : dv (Lib.decDigits u) = u ∧ Numl (Lib.decDigits u) := by
  induction u using Nat.strongRecOn with
  | _ u ih =>
    by_cases h : u < 10
    · rw [Lib.decDigits_one h]
      refine ⟨?_, by simp, ?_, fun _ => rfl⟩
      · simp only [dv, List.foldl_cons, List.foldl_nil]; rw [dig_toNat h]; omega
      · intro b hb
        rw [List.mem_singleton] at hb
        rw [hb]
        exact isDg_dig h
    · obtain ⟨h1, h2⟩ := ih (u / 10) (by omega)
      have hd : u % 10 < 10 := by omega
      rw [Lib.decDigits, dif_neg h]
      refine ⟨?_, by simp, ?_, ?_⟩
      · rw [dv_snoc, h1, dig_toNat hd]; omega
      · intro b hb
        rcases List.mem_append.1 hb with hb | hb
        · exact h2.2.1 b hb
        · rw [List.mem_singleton] at hb
          rw [hb]
          exact isDg_dig hd
      · intro hh
        have h3 : (Lib.decDigits (u / 10)).head? = some 48 := by
          cases hc : Lib.decDigits (u / 10) with
          | nil => exact absurd hc h2.1
          | cons y ys => rw [hc] at hh; simpa using hh
        have h4 := h2.2.2 h3
        cases hc : Lib.decDigits (u / 10) with
        | nil => exact absurd hc h2.1
        | cons y ys =>
          rw [hc] at h3 h4 h1
          simp at h3 h4
          subst h3 h4
          have : dv [48] = 0 := rfl
          omega

theorem pads_dg (g k : Nat) : ∀ b ∈ pads g k, isDg b := by
  induction k with
  | zero => intro b hb; simp [pads] at hb
  | succ k ih =>
    intro b hb
    rw [pads] at hb
    rcases List.mem_append.1 hb with hb | hb
    · exact ih b hb
    · rw [List.mem_singleton] at hb
      rw [hb]
      exact isDg_dig (Nat.mod_lt _ (by decide))
theorem pads_dv_le (g : Nat) (hg : g < 1000000000) : ∀ k, k < 9 → dv (pads g k) = g / (10 * unit9 k) := by
  intro k
  induction k with
  | zero => intro _; simp [pads, dv, unit9]; omega
  | succ k ih =>
    intro hk
    have h := ih (by omega)
    have hd : g / unit9 k % 10 < 10 := Nat.mod_lt _ (by decide)
    have hu : 10 * unit9 (k + 1) = unit9 k := by
      rcases k with _ | _ | _ | _ | _ | _ | _ | _ | k <;> first | decide | omega
    rw [pads, dv_snoc, h, show (48 + g / unit9 k % 10).toUInt8 = UInt8.ofNat (48 + g / unit9 k % 10) from rfl, dig_toNat hd, hu, Nat.mul_comm 10 (unit9 k), ← Nat.div_div_eq_div_mul]
    omega
theorem pads_dv (g : Nat) (hg : g < 1000000000) : dv (pads g 9) = g := by
  have h := pads_dv_le g hg 8 (by omega)
  have hu : unit9 8 = 1 := by decide
  have hd : g / unit9 8 % 10 < 10 := Nat.mod_lt _ (by decide)
  rw [pads, dv_snoc, h, show (48 + g / unit9 8 % 10).toUInt8 = UInt8.ofNat (48 + g / unit9 8 % 10) from rfl, dig_toNat hd, hu]
  omega
theorem Numl.append {a b : List UInt8} (ha : Numl a) (h0 : 0 < dv a) (hb : ∀ x ∈ b, isDg x) : Numl (a ++ b) := by
  refine ⟨by simp [ha.1], fun x hx => (List.mem_append.1 hx).elim (ha.2.1 x) (hb x), fun hh => ?_⟩
  cases a with
  | nil => exact absurd rfl ha.1
  | cons y ys =>
    simp at hh
    subst hh
    have := ha.2.2 rfl
    simp at this
    subst this
    have : dv [48] = 0 := rfl
    omega

theorem flat_ok {l : List Nat} (hc : Cano l) (hl : l ≠ []) : ∀ k, k + 1 ≤ l.length → dv ((down l.length (k + 1)).flatMap (chunk l)) = val (l.drop (l.length - (k + 1))) ∧ Numl ((down l.length (k + 1)).flatMap (chunk l)) ∧ 0 < dv ((down l.length (k + 1)).flatMap (chunk l)) := by
  have hp := List.length_pos_iff.2 hl
  have htop : nth l (l.length - 1) ≠ 0 := ((can_iff.1 hc).2).resolve_left hl
  intro k
  induction k with
  | zero =>
    intro _
    have e : (down l.length (0 + 1)).flatMap (chunk l) = Lib.decDigits (nth l (l.length - 1)) := by simp [down, chunk]
    obtain ⟨h1, h2⟩ := dec_dv (nth l (l.length - 1))
    rw [e, h1, Nat.zero_add, val_drop_succ _ _ (by omega), show l.length - 1 + 1 = l.length by omega, List.drop_length, val_nil]
    exact ⟨by omega, h2, by omega⟩
  | succ k ih =>
    intro hk
    obtain ⟨h1, h2, h3⟩ := ih (by omega)
    have hx : ¬ (l.length - 1 - (k + 1) = l.length - 1) := by omega
    have e : (down l.length (k + 1 + 1)).flatMap (chunk l) = (down l.length (k + 1)).flatMap (chunk l) ++ pads (nth l (l.length - 1 - (k + 1))) 9 := by
      rw [down_succ, List.flatMap_append, List.flatMap_cons, List.flatMap_nil, List.append_nil]
      congr 1
      unfold chunk
      rw [if_neg hx]
    have hg := hc.1.get (l.length - 1 - (k + 1))
    rw [e, dv_append, pads_length, pads_dv _ hg, h1, val_drop_succ l (l.length - (k + 1 + 1)) (by omega), show l.length - (k + 1 + 1) + 1 = l.length - (k + 1) by omega, show l.length - 1 - (k + 1) = l.length - (k + 1 + 1) by omega]
    rw [h1] at h3
    exact ⟨by omega, h2.append (by rw [h1]; exact h3) (pads_dg _ _), by omega⟩

/-- The digits of a magnitude that is not 0. -/
theorem flat_all {l : List Nat} (hc : Cano l) (hl : l ≠ []) : dv ((down l.length l.length).flatMap (chunk l)) = val l ∧ Numl ((down l.length l.length).flatMap (chunk l)) := by
  have hp := List.length_pos_iff.2 hl
  have := flat_ok hc hl (l.length - 1) (by omega)
  rw [show l.length - 1 + 1 = l.length by omega, Nat.sub_self, List.drop_zero] at this
  exact ⟨this.1, this.2.1⟩

/-- Does a text begin with '-'? -/
def ngs (bs : List UInt8) : Bool := bs.head? == some 45
/-- The text behind a '-' at its beginning. -/
def nbs (bs : List UInt8) : List UInt8 := if ngs bs then bs.tail else bs
/-- Is a text the decimal text of an integer? -/
def Dec (bs : List UInt8) : Prop := Numl (nbs bs) ∧ ¬ (ngs bs = true ∧ nbs bs = [48])
/-- The integer of a text. -/
def zOf (bs : List UInt8) : Int := sgnd (ngs bs) (dv (nbs bs))

theorem Numl.not_minus {bs : List UInt8} (h : Numl bs) : ngs bs = false := by
  cases bs with
  | nil => rfl
  | cons y ys =>
    unfold ngs
    have := h.2.1 y (List.mem_cons_self ..)
    simp only [List.head?_cons]
    rw [beq_eq_false_iff_ne]
    intro e
    injection e with e
    rw [e] at this
    exact absurd this.1 (by decide)

theorem bs_eq (bs : List UInt8) : bs = (if ngs bs then [45] else []) ++ nbs bs := by
  unfold nbs
  cases bs with
  | nil => rfl
  | cons y ys =>
    by_cases h : y = 45
    · subst h; rfl
    · have : ngs (y :: ys) = false := by
        unfold ngs
        simp [h]
      rw [this]
      rfl

theorem sgn_app (neg : Bool) {b : List UInt8} (h : Numl b) : ngs ((if neg then [45] else []) ++ b) = neg ∧ nbs ((if neg then [45] else []) ++ b) = b := by
  cases neg with
  | true => exact ⟨rfl, rfl⟩
  | false =>
    have := h.not_minus
    refine ⟨this, ?_⟩
    unfold nbs
    simp only [Bool.false_eq_true, if_false, List.nil_append]
    rw [this]
    rfl

theorem num48 : Numl [48] := ⟨by simp, fun b hb => by rw [List.mem_singleton] at hb; rw [hb]; unfold isDg; decide, fun _ => rfl⟩

/-- The text of an integer is a decimal text, and the integer's. -/
theorem txt_dec {neg : Bool} {l : List Nat} (h : CanZ neg l) : Dec (txt neg l) ∧ zOf (txt neg l) = sval neg l := by
  by_cases hl : l = []
  · subst hl
    have hn : neg = false := h.2 rfl
    subst hn
    exact ⟨⟨num48, fun e => absurd e.1 (by decide)⟩, rfl⟩
  · obtain ⟨h1, h2⟩ := flat_all h.1 hl
    have e : txt neg l = (if neg then [45] else []) ++ (down l.length l.length).flatMap (chunk l) := if_neg hl
    obtain ⟨s1, s2⟩ := sgn_app neg h2
    unfold Dec zOf
    rw [e, s1, s2, h1]
    refine ⟨⟨h2, fun ⟨_, e⟩ => ?_⟩, rfl⟩
    rw [e] at h1
    have := h.1.ne_zero (List.length_pos_iff.2 hl)
    have h48 : dv [48] = 0 := rfl
    omega

/-- A decimal text is the text of its integer. -/
theorem dec_txt {neg : Bool} {l : List Nat} {bs : List UInt8} (h : CanZ neg l) (hd : Dec bs) (hz : sval neg l = zOf bs) : txt neg l = bs := by
  obtain ⟨t1, t2⟩ := txt_dec h
  obtain ⟨a1, a2⟩ := t1
  obtain ⟨b1, b2⟩ := hd
  have ez : zOf (txt neg l) = zOf bs := t2.trans hz
  unfold zOf at ez
  have em : dv (nbs (txt neg l)) = dv (nbs bs) := by
    have := congrArg Int.natAbs ez
    rwa [sgnd_natAbs, sgnd_natAbs] at this
  have en := a1.inj b1 em
  have es : ngs (txt neg l) = ngs bs := by
    by_cases h0 : dv (nbs bs) = 0
    · have hb : nbs bs = [48] := b1.inj num48 (by rw [h0]; rfl)
      have ha : nbs (txt neg l) = [48] := en.trans hb
      have f1 : ngs (txt neg l) = false := by
        cases hc : ngs (txt neg l) with
        | false => rfl
        | true => exact absurd ⟨hc, ha⟩ a2
      have f2 : ngs bs = false := by
        cases hc : ngs bs with
        | false => rfl
        | true => exact absurd ⟨hc, hb⟩ b2
      rw [f1, f2]
    · rw [em] at ez
      cases hc : ngs (txt neg l) <;> cases hd : ngs bs <;> rw [hc, hd] at ez <;> first | rfl | (exfalso; simp [sgnd] at ez; omega)
  rw [bs_eq (txt neg l), bs_eq bs, es, en]

/-- The text is not long. -/
theorem txt_length {neg : Bool} {l : List Nat} (h : CanZ neg l) : (txt neg l).length ≤ 9 * l.length + 1 := by
  unfold txt
  split
  · simp
  · rw [List.length_append]
    have : ∀ xs : List Nat, (xs.flatMap (chunk l)).length ≤ 9 * xs.length := chunks_length h.1.1
    have := this (down l.length l.length)
    rw [show (down l.length l.length).length = l.length by simp [down]] at this
    split <;> simp only [List.length_cons, List.length_nil] <;> omega

end Go.Proofs.YtalbdjnanmcoeaaDoor
