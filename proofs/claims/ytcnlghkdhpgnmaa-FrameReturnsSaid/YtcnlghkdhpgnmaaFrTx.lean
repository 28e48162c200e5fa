/-
  Bits as text; padded bits; the numbers of eight bits.
-/
import Derived.Test.YtcnlghkdhpgnmaaFrAp
import Derived.Test.YtcnlghkdhpgnmaaFrEn
import Derived.Laws.RangeString
set_option linter.unusedSimpArgs false
set_option linter.unusedVariables false
namespace Go.Proofs.Ytcnlghkdhpgnmaa
open Go.RowKit

/-- Bits as digits. -/
def btxt (bs : List Int) : ByteArray := ⟨(bs.map fun b => UInt8.ofNat (48 + b.toNat)).toArray⟩
theorem btxt_size (bs : List Int) : (btxt bs).size = bs.length := by simp [btxt, ByteArray.size]
theorem ba_ext {a b : ByteArray} (h : a.data = b.data) : a = b := by cases a; cases b; cases h; rfl
theorem btxt_append (a b : List Int) : btxt a ++ btxt b = btxt (a ++ b) := ba_ext (by simp [btxt])
theorem btxt_one : btxt [1] = ⟨#[49]⟩ := rfl
theorem btxt_zero : btxt [0] = ⟨#[48]⟩ := rfl
theorem btxt_nil : btxt [] = ⟨#[]⟩ := rfl
theorem btxt_at {bs : List Int} (h : IsBits bs) {i : Nat} (hi : i < (btxt bs).size) : (((btxt bs)[i]'hi).toNat : Int) = 48 + nth bs i := by
  have hi' : i < bs.length := by rw [← btxt_size]; exact hi
  have e : (btxt bs)[i]'hi = UInt8.ofNat (48 + (bs[i]).toNat) := by
    show (btxt bs).data[i]'_ = _
    simp [btxt]
  rw [e, nth_eq hi']
  rcases h _ (List.getElem_mem hi') with h0 | h0 <;> rw [h0] <;> rfl
theorem btxt_extract (bs : List Int) (i k : Nat) : (btxt bs).extract i (i + k) = btxt ((bs.drop i).take k) := by
  apply ba_ext
  simp [btxt, List.map_drop, List.map_take]

theorem IsBits.drop {l : List Int} (h : IsBits l) (i : Nat) : IsBits (l.drop i) := fun x hx => h x (List.mem_of_mem_drop hx)
theorem IsBits.take {l : List Int} (h : IsBits l) (i : Nat) : IsBits (l.take i) := fun x hx => h x (List.mem_of_mem_take hx)
theorem IsBits.zeros (z : Nat) : IsBits (List.replicate z 0) := fun x hx => .inl (List.eq_of_mem_replicate hx)

/-- Zeros behind bits change no byte. -/
theorem nth_zeros (bs : List Int) (z i : Nat) : nth (bs ++ List.replicate z 0) i = nth bs i := by
  by_cases h : i < bs.length
  · rw [nth_left h]
  · rw [nth_right (by omega), nth_end (l := bs) (by omega)]
    by_cases h2 : i - bs.length < z
    · rw [nth_eq (by simpa using h2)]; simp
    · exact nth_end (by simp; omega)
theorem pack_zeros {bs : List Int} {z : Nat} (h : (bs.length + z + 7) / 8 = (bs.length + 7) / 8) : pack (bs ++ List.replicate z 0) = pack bs := by
  refine nth_ext (by rw [pack_length, pack_length]; simp; exact h) fun i hi => ?_
  rw [pack_length] at hi
  have hi2 : i < (bs.length + 7) / 8 := by rw [← h]; simpa using hi
  rw [nth_pack hi, nth_pack hi2]
  unfold byteAt
  simp only [nth_zeros]

/-- The number of which some bits are the digits. -/
def bnum (l : List Int) : Int := l.foldl (fun n b => 2 * n + b) 0
theorem bnum_snoc (l : List Int) (b : Int) : bnum (l ++ [b]) = 2 * bnum l + b := by simp [bnum]
theorem bnum_byte {bs : List Int} {o : Nat} (h : o + 8 ≤ bs.length) : bnum ((bs.drop o).take 8) = byteAt bs o := by
  have e : (bs.drop o).take 8 = [nth bs o, nth bs (o + 1), nth bs (o + 2), nth bs (o + 3), nth bs (o + 4), nth bs (o + 5), nth bs (o + 6), nth bs (o + 7)] := by
    refine nth_ext (by simp; omega) fun i hi => ?_
    have hi8 : i < 8 := by simp at hi; omega
    rw [nth_take hi8, nth_drop]
    have : i = 0 ∨ i = 1 ∨ i = 2 ∨ i = 3 ∨ i = 4 ∨ i = 5 ∨ i = 6 ∨ i = 7 := by omega
    rcases this with rfl | rfl | rfl | rfl | rfl | rfl | rfl | rfl <;> rfl
  rw [e]
  simp only [bnum, List.foldl_cons, List.foldl_nil, byteAt]
  omega
theorem bnum_take {l : List Int} {i : Nat} (h : i < l.length) : bnum (l.take (i + 1)) = 2 * bnum (l.take i) + nth l i := by
  rw [take_succ_nth h, bnum_snoc]
theorem bnum_range {l : List Int} (h : IsBits l) : ∀ i, i ≤ 8 → 0 ≤ bnum (l.take i) ∧ bnum (l.take i) < 2 ^ i := by
  intro i
  induction i with
  | zero => intro _; simp [bnum]
  | succ i ih =>
    intro hi
    have := ih (by omega)
    by_cases hl : i < l.length
    · rw [bnum_take hl, Int.pow_succ]
      have := h.nth i
      omega
    · rw [List.take_of_length_le (by omega)]
      rw [List.take_of_length_le (by omega)] at this
      rw [Int.pow_succ]
      omega
theorem pack_take {bs : List Int} {m : Nat} (h : m < (bs.length + 7) / 8) : (pack bs).take (m + 1) = (pack bs).take m ++ [byteAt bs (8 * m)] := by
  rw [take_succ_nth (by rw [pack_length]; exact h), nth_pack h]

/-- append of bytes at a step of a region that draws its order. -/
theorem step_app_rowR {ops : Array Oper} {o : Oper} {a : Act} {K : Act → World → Prop} {Q : Exit → Act → World → Prop} {X : Prop} (w : World) (hgd : o.guard = none) (sl x : Operand)
    (ho : o.op = .call { callee := .builtin .append, args := #[sl, x], argTypes := #[53, 53] })
    (B r c q : Nat) (l news : List Int) (g2 off m c2 : Nat) (hsl : a.eval sl = .slice (some ⟨r, 0, none⟩) q c) (hx : a.eval x = .slice (some ⟨g2, off, none⟩) m c2) (hq : q = l.length) (hm : m = news.length) (h : FS w B r c l) (h0 : 0 < l.length) (h1 : 1 ≤ news.length) (hl : l.length ≤ 1000000) (hs : news.length ≤ 1000000) (hB : B ≤ w.heap.size)
    (hnews : ∀ j u, (cells8 news)[j]? = some u → w.cell? ((⟨g2, off, none⟩ : Addr).add j) = some u)
    (hk : ∀ r' c' w', Ob w' B r' c' (l ++ news) → (∀ g, Kx B g w w') → K (a.put o.dst (.slice (some ⟨r', 0, none⟩) (q + m) c')) w') :
    if Region.wanted o (yielded ops a.tmps) = true then Oper.wp Try.prog o a w K Q else X := by
  subst hq
  subst hm
  have hw : Region.wanted o (yielded ops a.tmps) = true := by simp [Region.wanted, hgd]
  rw [if_pos hw]
  obtain ⟨r', c', w', hr, h2, h3⟩ := app_row o.type B r c l news g2 off c2 w h h0 h1 hl hs hB hnews
  unfold Oper.wp execOp
  simp only [ho, resolve, invoke, builtin, Sem.run_bind, Sem.run_pure, Result.andThen_ok, List.map_toArray, List.map_cons, List.map_nil, hsl, hx, hr]
  exact hk r' c' w' h2 h3

end Go.Proofs.Ytcnlghkdhpgnmaa
