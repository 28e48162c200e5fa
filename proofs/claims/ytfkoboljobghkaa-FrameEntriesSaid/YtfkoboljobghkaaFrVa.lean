/-
  Walk: the law's valued.
-/
import Derived.Test.YtfkoboljobghkaaFrCm
set_option linter.unusedSimpArgs false
set_option linter.unusedVariables false
namespace Go.Proofs.Ytfkoboljobghkaa
open Go.RowKit Go.Shelf

theorem any_txt {s : ByteArray} {p : Nat → Bool} {j : Nat} (hj : j < s.size) (h : p (byt s j) = true) : ((txt s).any fun b => p b.toNat) = true := by
  refine List.any_eq_true.2 ⟨nth (txt s) j, ?_, ?_⟩
  · rw [nth_eq (by rw [txt_length]; exact hj)]; exact List.getElem_mem _
  · rw [txt_nth s hj]; simpa using h
theorem none_txt {s : ByteArray} {p : Nat → Bool} (h : ∀ j, j < s.size → p (byt s j) = false) : ((txt s).any fun b => p b.toNat) = false := by
  rw [List.any_eq_false]
  intro x hx
  obtain ⟨i, hi, rfl⟩ := List.mem_iff_getElem.1 hx
  rw [txt_length] at hi
  have := txt_nth s hi
  rw [nth_eq (by rw [txt_length]; exact hi)] at this
  rw [this]
  simpa using h i hi

theorem byt_get {s : ByteArray} {i : Nat} (h : i < s.size) : byt s i = (s[i]'h).toNat := by
  unfold byt
  have e : s.get! i = s.data[i]'h := by
    show s.data[i]! = _
    rw [getElem!_pos s.data i h]
  rw [e]
  rfl

set_option maxRecDepth 100000 in
set_option maxHeartbeats 3200000 in
theorem valued_any (s : ByteArray) (w : World) (hs : s.size ≤ 1000000000) :
    Calls Try.prog 45 #[.string s] w fun e w' => e = .returned (.int .i64 (valC s)) ∧ Below w.heap.size w w' := by
  by_cases h1 : 120 < s.size
  · have hv : Hid (valC s = 9) := Lib.hid (by simp [valC, h1])
    go_enter Try.func45, Try.ntmps45
    go_wp2
    go_ret
    exact ⟨ret_int hv.out.symm, Below.refl _ _⟩
  · go_enter Try.func45, Try.ntmps45
    go_wp2
    go_loopw [9] (fun i wr => ∃ k : Nat, k ≤ s.size ∧ i = .int .i64 (k : Int) ∧ Hid (∀ j, j < k → isBad (byt s j) = false) ∧ wr = w) (fun i _ => s.size - (intOf i).toNat)
    case atStart => exact ⟨0, Nat.zero_le _, rfl, Lib.hid fun j hj => absurd hj (Nat.not_lt_zero _), rfl⟩
    case round =>
      obtain ⟨k, hk, rfl, h0, rfl⟩ := hrel
      by_cases hlt : k < s.size
      · have hz := byt_get hlt
        by_cases z1 : (s[k]'hlt).toNat < 32
        · have hv : Hid (valC s = 8) := Lib.hid (by simp [valC, h1, any_txt hlt (show isBad (byt s k) = true by rw [hz]; simp [isBad, z1])])
          replace hz := Lib.hid hz
          go_wp2
          go_ret
          exact ⟨ret_int hv.out.symm, Below.refl _ _⟩
        · by_cases z2 : 126 < (s[k]'hlt).toNat
          · have hv : Hid (valC s = 8) := Lib.hid (by simp [valC, h1, any_txt hlt (show isBad (byt s k) = true by rw [hz]; simp [isBad, z2])])
            replace hz := Lib.hid hz
            go_wp2
            go_ret
            exact ⟨ret_int hv.out.symm, Below.refl _ _⟩
          · have hv : Hid (isBad (byt s k) = false) := Lib.hid (by rw [hz]; simp [isBad]; omega)
            replace hz := Lib.hid hz
            go_wp2
            refine ⟨⟨k + 1, hlt, by go_num, Lib.hid (fun j hj => ?_), trivial⟩, by simp [intOf]; omega⟩
            by_cases e : j = k
            · rw [e]; exact hv.out
            · exact h0.out j (by omega)
      · obtain rfl : k = s.size := by omega
        have hv : Hid (valC s = 0) := Lib.hid (by simp [valC, h1, none_txt h0.out])
        go_wp2
        go_ret
        exact ⟨ret_int hv.out.symm, Below.refl _ _⟩

end Go.Proofs.Ytfkoboljobghkaa
