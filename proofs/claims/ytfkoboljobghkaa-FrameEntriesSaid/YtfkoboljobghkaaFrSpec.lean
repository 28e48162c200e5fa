/-
  Bits packed into bytes; the codes of numbers; the file of a frame, as lists of numbers.
-/
import Derived.Test.YtfkoboljobghkaaRaMem
set_option linter.unusedSimpArgs false
set_option linter.unusedVariables false
namespace Go.Proofs.Ytfkoboljobghkaa
open Go.RowKit

theorem nth_end {l : List Int} {i : Nat} (h : l.length ≤ i) : nth l i = 0 := by simp [nth, List.getD, List.getElem?_eq_none h]
theorem nth_left {a b : List Int} {i : Nat} (h : i < a.length) : nth (a ++ b) i = nth a i := by simp [nth, List.getD, List.getElem?_append_left h]
theorem nth_right {a b : List Int} {i : Nat} (h : a.length ≤ i) : nth (a ++ b) i = nth b (i - a.length) := by simp [nth, List.getD, List.getElem?_append_right h]
theorem nth_snoc {l : List Int} {b : Int} (i : Nat) : nth (l ++ [b]) i = nth l i + if i = l.length then b else 0 := by
  by_cases h : i < l.length
  · rw [nth_left h, if_neg (by omega), Int.add_zero]
  · by_cases e : i = l.length
    · subst e
      rw [if_pos rfl, nth_right (Nat.le_refl _), Nat.sub_self, nth_end (l := l) (Nat.le_refl _), Int.zero_add]
      rfl
    · rw [if_neg e, nth_end (l := l) (by omega), nth_end (l := l ++ [b]) (by simp; omega), Int.add_zero]

/-- The byte whose bits stand from a place of a list on, the first in the most significant place. -/
def byteAt (l : List Int) (o : Nat) : Int := nth l o * 128 + nth l (o + 1) * 64 + nth l (o + 2) * 32 + nth l (o + 3) * 16 + nth l (o + 4) * 8 + nth l (o + 5) * 4 + nth l (o + 6) * 2 + nth l (o + 7)
/-- Bits in bytes, filled up with zeros. -/
def pack (l : List Int) : List Int := (List.range ((l.length + 7) / 8)).map fun i => byteAt l (8 * i)

theorem pack_nil : pack [] = [] := rfl
theorem pack_length (l : List Int) : (pack l).length = (l.length + 7) / 8 := by simp [pack]
theorem nth_pack {l : List Int} {i : Nat} (h : i < (l.length + 7) / 8) : nth (pack l) i = byteAt l (8 * i) := by
  rw [nth_eq (by rw [pack_length]; exact h)]
  simp [pack]

/-- A list of bits. -/
def IsBits (l : List Int) : Prop := ∀ x ∈ l, x = 0 ∨ x = 1
theorem IsBits.nth {l : List Int} (h : IsBits l) (i : Nat) : nth l i = 0 ∨ nth l i = 1 := by
  by_cases hi : i < l.length
  · rw [nth_eq hi]; exact h _ (List.getElem_mem hi)
  · exact .inl (nth_end (by omega))
theorem IsBits.nil : IsBits [] := fun x hx => by cases hx
theorem IsBits.append {a b : List Int} (ha : IsBits a) (hb : IsBits b) : IsBits (a ++ b) := fun x hx => by
  rcases List.mem_append.1 hx with h | h
  · exact ha x h
  · exact hb x h
theorem IsBits.one {b : Int} (h : b = 0 ∨ b = 1) : IsBits [b] := fun x hx => by
  rcases List.mem_singleton.1 hx with rfl
  exact h

theorem byteAt_range {l : List Int} (h : IsBits l) (o : Nat) : 0 ≤ byteAt l o ∧ byteAt l o < 256 := by
  unfold byteAt
  have h0 := h.nth o; have h1 := h.nth (o + 1); have h2 := h.nth (o + 2); have h3 := h.nth (o + 3); have h4 := h.nth (o + 4); have h5 := h.nth (o + 5); have h6 := h.nth (o + 6); have h7 := h.nth (o + 7)
  omega

/-- Further bits behind whole bytes begin a new byte. -/
theorem pack_snoc0 {l : List Int} {b : Int} (h : l.length % 8 = 0) : pack (l ++ [b]) = pack l ++ [b * 128] := by
  have hl : (l ++ [b]).length = l.length + 1 := by simp
  apply nth_ext
  · simp only [pack_length, hl, List.length_append, List.length_cons, List.length_nil]; omega
  · intro i hi
    rw [pack_length, hl] at hi
    rw [nth_pack (by rw [hl]; exact hi)]
    by_cases hlt : i < (l.length + 7) / 8
    · rw [nth_left (by rw [pack_length]; exact hlt), nth_pack hlt]
      unfold byteAt
      simp only [nth_snoc]
      rw [if_neg (by omega), if_neg (by omega), if_neg (by omega), if_neg (by omega), if_neg (by omega), if_neg (by omega), if_neg (by omega), if_neg (by omega)]
      omega
    · rw [nth_right (by rw [pack_length]; omega), pack_length]
      have hi2 : i = l.length / 8 := by omega
      unfold byteAt
      simp only [nth_snoc]
      rw [if_pos (by omega), if_neg (by omega), if_neg (by omega), if_neg (by omega), if_neg (by omega), if_neg (by omega), if_neg (by omega), if_neg (by omega)]
      rw [nth_end (l := l) (by omega), nth_end (l := l) (by omega), nth_end (l := l) (by omega), nth_end (l := l) (by omega), nth_end (l := l) (by omega), nth_end (l := l) (by omega), nth_end (l := l) (by omega), nth_end (l := l) (by omega)]
      rw [show i - (l.length + 7) / 8 = 0 from by omega]
      simp [nth]

/-- Within a byte they are added in their place. -/
theorem pack_snoc1 {l : List Int} {b : Int} (h : l.length % 8 ≠ 0) : pack (l ++ [b]) = (pack l).set (l.length / 8) (nth (pack l) (l.length / 8) + b * (2 ^ (7 - l.length % 8) : Nat)) := by
  have hl : (l ++ [b]).length = l.length + 1 := by simp
  apply nth_ext
  · simp only [pack_length, hl, List.length_set]; omega
  · intro i hi
    rw [pack_length, hl] at hi
    have hlt : i < (l.length + 7) / 8 := by omega
    rw [nth_pack (by rw [hl]; exact hi)]
    by_cases e : i = l.length / 8
    · rw [e, nth_set_self (by rw [pack_length]; omega), nth_pack (by omega)]
      obtain ⟨q, r, hq, hr, hr8⟩ : ∃ q r, l.length = 8 * q + r ∧ 0 < r ∧ r < 8 := ⟨l.length / 8, l.length % 8, by omega, by omega, by omega⟩
      have hq2 : l.length / 8 = q := by omega
      have hr2 : l.length % 8 = r := by omega
      rw [hq2, hr2]
      unfold byteAt
      simp only [nth_snoc]
      rw [hq]
      have hc : r = 1 ∨ r = 2 ∨ r = 3 ∨ r = 4 ∨ r = 5 ∨ r = 6 ∨ r = 7 := by omega
      rcases hc with rfl | rfl | rfl | rfl | rfl | rfl | rfl <;> simp <;> omega
    · rw [nth_set_ne (fun e' => e e'.symm), nth_pack hlt]
      unfold byteAt
      simp only [nth_snoc]
      rw [if_neg (by omega), if_neg (by omega), if_neg (by omega), if_neg (by omega), if_neg (by omega), if_neg (by omega), if_neg (by omega), if_neg (by omega)]
      omega

/-- The last byte has zeros where no bit has been written yet. -/
theorem pack_low {l : List Int} (hb : IsBits l) (h : l.length % 8 ≠ 0) : ∃ q : Nat, nth (pack l) (l.length / 8) = ((2 ^ (8 - l.length % 8) * q : Nat) : Int) ∧ 2 ^ (8 - l.length % 8) * q < 256 := by
  rw [nth_pack (by omega)]
  have hr := byteAt_range hb (8 * (l.length / 8))
  obtain ⟨q, r, hq, hr0, hr8⟩ : ∃ q r, l.length = 8 * q + r ∧ 0 < r ∧ r < 8 := ⟨l.length / 8, l.length % 8, by omega, by omega, by omega⟩
  have hq2 : l.length / 8 = q := by omega
  have hr2 : l.length % 8 = r := by omega
  rw [hq2] at hr
  rw [hq2, hr2]
  have h0 := hb.nth (8 * q); have h1 := hb.nth (8 * q + 1); have h2 := hb.nth (8 * q + 2); have h3 := hb.nth (8 * q + 3); have h4 := hb.nth (8 * q + 4); have h5 := hb.nth (8 * q + 5); have h6 := hb.nth (8 * q + 6); have h7 := hb.nth (8 * q + 7)
  have e : ∀ j, r ≤ j → nth l (8 * q + j) = 0 := fun j hj => nth_end (by omega)
  unfold byteAt at hr ⊢
  have hc : r = 1 ∨ r = 2 ∨ r = 3 ∨ r = 4 ∨ r = 5 ∨ r = 6 ∨ r = 7 := by omega
  have e7 := e 7 (by omega)
  rw [e7] at hr ⊢
  rcases hc with rfl | rfl | rfl | rfl | rfl | rfl | rfl
  · rw [e 1 (by omega), e 2 (by omega), e 3 (by omega), e 4 (by omega), e 5 (by omega), e 6 (by omega)] at *
    exact ⟨(nth l (8 * q)).toNat, by omega, by omega⟩
  · rw [e 2 (by omega), e 3 (by omega), e 4 (by omega), e 5 (by omega), e 6 (by omega)] at *
    exact ⟨(nth l (8 * q) * 2 + nth l (8 * q + 1)).toNat, by omega, by omega⟩
  · rw [e 3 (by omega), e 4 (by omega), e 5 (by omega), e 6 (by omega)] at *
    exact ⟨(nth l (8 * q) * 4 + nth l (8 * q + 1) * 2 + nth l (8 * q + 2)).toNat, by omega, by omega⟩
  · rw [e 4 (by omega), e 5 (by omega), e 6 (by omega)] at *
    exact ⟨(nth l (8 * q) * 8 + nth l (8 * q + 1) * 4 + nth l (8 * q + 2) * 2 + nth l (8 * q + 3)).toNat, by omega, by omega⟩
  · rw [e 5 (by omega), e 6 (by omega)] at *
    exact ⟨(nth l (8 * q) * 16 + nth l (8 * q + 1) * 8 + nth l (8 * q + 2) * 4 + nth l (8 * q + 3) * 2 + nth l (8 * q + 4)).toNat, by omega, by omega⟩
  · rw [e 6 (by omega)] at *
    exact ⟨(nth l (8 * q) * 32 + nth l (8 * q + 1) * 16 + nth l (8 * q + 2) * 8 + nth l (8 * q + 3) * 4 + nth l (8 * q + 4) * 2 + nth l (8 * q + 5)).toNat, by omega, by omega⟩
  · exact ⟨(nth l (8 * q) * 64 + nth l (8 * q + 1) * 32 + nth l (8 * q + 2) * 16 + nth l (8 * q + 3) * 8 + nth l (8 * q + 4) * 4 + nth l (8 * q + 5) * 2 + nth l (8 * q + 6)).toNat, by omega, by omega⟩

/-- The low bits of a number, the most significant first. -/
def low (v : Int) (k : Nat) : List Int := (List.range k).map fun j => v / (2 ^ (k - 1 - j) : Nat) % 2
/-- The code of a number with a parameter. -/
def code (k : Nat) (v : Int) : List Int := List.replicate (v / (2 ^ k : Nat)).toNat 1 ++ [0] ++ low v k
/-- The number of bits of the codes of a row. -/
def bitsOf (l : List Int) (k : Nat) : Int := (l.map fun v : Int => v / ((2 ^ k : Nat) : Int) + 1 + (k : Int)).sum
/-- The least parameter below m + 1 with the fewest bits. -/
def bestTo (l : List Int) : Nat → Nat
  | 0 => 0
  | m + 1 => if bitsOf l (m + 1) < bitsOf l (bestTo l m) then m + 1 else bestTo l m
def best (l : List Int) : Nat := bestTo l 16
theorem bestTo_le (l : List Int) (m : Nat) : bestTo l m ≤ m := by
  induction m with
  | zero => simp [bestTo]
  | succ m ih => unfold bestTo; split <;> omega
theorem best_le (l : List Int) : best l ≤ 16 := bestTo_le l 16
theorem bestTo_least (l : List Int) (m : Nat) : ∀ k, k ≤ m → bitsOf l (bestTo l m) ≤ bitsOf l k := by
  induction m with
  | zero => intro k hk; obtain rfl : k = 0 := by omega
            simp [bestTo]
  | succ m ih =>
    intro k hk
    unfold bestTo
    by_cases e : k = m + 1
    · subst e; split <;> omega
    · have := ih k (by omega); split <;> omega

theorem low_bits (v : Int) (k : Nat) : IsBits (low v k) := fun x hx => by
  obtain ⟨j, _, rfl⟩ := List.mem_map.1 hx
  omega
theorem code_bits (k : Nat) (v : Int) : IsBits (code k v) := by
  refine (IsBits.append ?_ (.one (.inl rfl))).append (low_bits v k)
  intro x hx
  exact .inr (List.eq_of_mem_replicate hx)
theorem low_length (v : Int) (k : Nat) : (low v k).length = k := by simp [low]
theorem code_length (k : Nat) (v : Int) : (code k v).length = (v / (2 ^ k : Nat)).toNat + 1 + k := by simp [code, low_length]; omega

/-- A row of a file. -/
def codes (k : Nat) (l : List Int) : List Int := l.flatMap (code k)
def rowB (l : List Int) : List Int := (best l : Int) :: pack (codes (best l) l)
theorem codes_bits (k : Nat) (l : List Int) : IsBits (codes k l) := fun x hx => by
  obtain ⟨v, _, hv⟩ := List.mem_flatMap.1 hx
  exact code_bits k v x hv
theorem codes_snoc (k : Nat) (l : List Int) (v : Int) : codes k (l ++ [v]) = codes k l ++ code k v := by simp [codes]

/-- A number as four bytes. -/
def word (n : Int) : List Int := [n / 16777216 % 256, n / 65536 % 256, n / 256 % 256, n % 256]
/-- The bytes of a text. -/
def txt (s : ByteArray) : List Int := s.data.toList.map fun b => (b.toNat : Int)
theorem txt_length (s : ByteArray) : (txt s).length = s.size := by simp [txt]
def ent (e : ByteArray × ByteArray) : List Int := txt e.1 ++ [32] ++ txt e.2 ++ [10]

/-- What a pixel should be according to those before it. -/
def predI (W : Nat) (P : List Int) (i : Nat) : Int :=
  if i = 0 then 0 else if i < W then nth P (i - 1) else if i % W = 0 then nth P (i - W)
  else if max (nth P (i - 1)) (nth P (i - W)) ≤ nth P (i - W - 1) then min (nth P (i - 1)) (nth P (i - W))
  else if nth P (i - W - 1) ≤ min (nth P (i - 1)) (nth P (i - W)) then max (nth P (i - 1)) (nth P (i - W))
  else nth P (i - 1) + nth P (i - W) - nth P (i - W - 1)
/-- The residual of a difference. -/
def resid (r m : Int) : Int := if m < 2 * r then (if 0 < r - m then 2 * (r - m) - 1 else -2 * (r - m)) else (if 0 < r then 2 * r - 1 else -2 * r)
/-- The signed difference of a residual. -/
def diffI (v : Int) : Int := if v % 2 = 1 then (v + 1) / 2 else -(v / 2)
def residI (W : Nat) (M : Int) (P : List Int) (i : Nat) : Int := resid ((nth P i - predI W P i + (M + 1)) % (M + 1)) (M + 1)
def residuals (W : Nat) (M : Int) (P : List Int) : List Int := (List.range P.length).map (residI W M P)
theorem residuals_length (W : Nat) (M : Int) (P : List Int) : (residuals W M P).length = P.length := by simp [residuals]
theorem nth_residuals {W : Nat} {M : Int} {P : List Int} {i : Nat} (h : i < P.length) : nth (residuals W M P) i = residI W M P i := by
  rw [nth_eq (by rw [residuals_length]; exact h)]
  simp [residuals]

/-- The numbers of a list that are those of a row. -/
def rowOf (W : Nat) (l : List Int) (y : Nat) : List Int := (l.drop (y * W)).take W
/-- The file of a frame. -/
def headB : List Int := [70, 82, 65, 77, 69, 49, 10]
def fileB (E : List (ByteArray × ByteArray)) (W H : Nat) (M : Int) (P : List Int) : List Int :=
  headB ++ E.flatMap ent ++ [10] ++ word W ++ word H ++ word M ++ (List.range H).flatMap fun y => rowB (rowOf W (residuals W M P) y)

theorem predI_range {W : Nat} {M : Int} {P : List Int} {i : Nat} (h : ∀ g ∈ P, 0 ≤ g ∧ g ≤ M) (hM : 0 ≤ M) : 0 ≤ predI W P i ∧ predI W P i ≤ M := by
  have hn : ∀ j, 0 ≤ nth P j ∧ nth P j ≤ M := fun j => by
    by_cases hj : j < P.length
    · rw [nth_eq hj]; exact h _ (List.getElem_mem hj)
    · rw [nth_end (by omega)]; omega
  have h1 := hn (i - 1); have h2 := hn (i - W); have h3 := hn (i - W - 1)
  unfold predI
  split
  · omega
  split
  · omega
  split
  · omega
  split
  · omega
  split <;> omega
theorem resid_range {r m : Int} (h0 : 0 ≤ r) (h1 : r < m) : 0 ≤ resid r m ∧ resid r m < m := by
  unfold resid
  split
  · split <;> omega
  · split <;> omega

end Go.Proofs.Ytfkoboljobghkaa
