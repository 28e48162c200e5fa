/-
  The file of a frame is read as the frame.
-/
import Derived.Test.YtcnlghkdhpgnmaaFrRo
import Derived.Test.YtcnlghkdhpgnmaaFrDc
import Derived.Test.YtcnlghkdhpgnmaaFrRw
set_option linter.unusedSimpArgs false
set_option linter.unusedVariables false
namespace Go.Proofs.Ytcnlghkdhpgnmaa
open Go.RowKit Go.Shelf

theorem entC_good {E : List Ent} {j : Nat} (h : entC E j = 0) : keyB (keyAt E j) = true ∧ valC (valAt E j) = 0 := by
  unfold entC at h
  by_cases h1 : keyB (keyAt E j) = false
  · rw [if_pos h1] at h; cases h
  · rw [if_neg h1] at h
    by_cases h2 : 0 < j ∧ less (keyAt E (j - 1)) (keyAt E j) = false
    · rw [if_pos h2] at h; cases h
    · rw [if_neg h2] at h
      exact ⟨by simpa using h1, h⟩
theorem key_fine {s : ByteArray} (h : keyB s = true) : 10 ∉ txt s ∧ 32 ∉ txt s := by
  unfold keyB at h
  simp only [Bool.and_eq_true, Bool.not_eq_true'] at h
  have ha := List.any_eq_false.1 h.2.2
  exact ⟨fun hm => ha _ hm (by decide), fun hm => ha _ hm (by decide)⟩
theorem val_fine {s : ByteArray} (h : valC s = 0) : 10 ∉ txt s := by
  unfold valC at h
  by_cases h1 : 120 < s.size
  · rw [if_pos h1] at h; cases h
  · rw [if_neg h1] at h
    by_cases h2 : ((txt s).any fun b => isBad b.toNat) = true
    · rw [if_pos h2] at h; cases h
    · intro hm
      exact h2 (List.any_eq_true.2 ⟨10, hm, by decide⟩)
theorem fine_all {E : List Ent} (h : metaC E = 0) : ∀ e ∈ E, Fine e := by
  intro e he
  obtain ⟨j, hj, rfl⟩ := List.getElem_of_mem he
  obtain ⟨hk, hv⟩ := entC_good ((metaC_zero h).2 j hj)
  have e1 : keyAt E j = E[j].1 := by simp [keyAt, List.getD, List.getElem?_eq_getElem hj]
  have e2 : valAt E j = E[j].2 := by simp [valAt, List.getD, List.getElem?_eq_getElem hj]
  rw [e1] at hk
  rw [e2] at hv
  exact ⟨(key_fine hk).1, (key_fine hk).2, val_fine hv⟩

/-- The file of a frame is read as the frame. -/
theorem readF_fileB {E : List Ent} {W H : Nat} {M : Int} {P : List Int} (hg : Good W H M P E) : readF (fileB E W H M P) = some ⟨E, W, H, M, P⟩ := by
  obtain ⟨hr, hm⟩ := hg
  have hf := hr.1
  obtain ⟨T, hT⟩ : ∃ T, (List.range H).flatMap (fun y => rowB (rowOf W (residuals W M P) y)) = T := ⟨_, rfl⟩
  have hfile : fileB E W H M P = headB ++ (E.flatMap ent ++ 10 :: (word W ++ (word H ++ (word M ++ T)))) := by
    unfold fileB
    rw [hT]
    simp
  have hd : (fileB E W H M P).drop 7 = E.flatMap ent ++ 10 :: (word W ++ (word H ++ (word M ++ T))) := by
    rw [hfile, show 7 = headB.length from rfl, List.drop_left]
  have hp : Lib.hasPrefix (Lib.bytesOf (fileB E W H M P)) (Lib.bytesOf headB) = true := by
    show (Lib.bytesOf headB).isPrefixOf (Lib.bytesOf (fileB E W H M P)) = true
    rw [List.isPrefixOf_iff_prefix, hfile]
    exact ⟨Lib.bytesOf (E.flatMap ent ++ 10 :: (word W ++ (word H ++ (word M ++ T)))), by simp [Lib.bytesOf]⟩
  have hlen : E.length < ((fileB E W H M P).drop 7).length + 1 := by
    have h1 : ∀ E : List Ent, E.length ≤ (E.flatMap ent).length := by
      intro E
      induction E with
      | nil => simp
      | cons e E ih => obtain ⟨k, v⟩ := e; rw [List.flatMap_cons, List.length_append, List.length_cons, ent_length]; omega
    have := h1 E
    rw [hd, List.length_append]
    omega
  have hmr := metaR_ents (word W ++ (word H ++ (word M ++ T))) E [] _ hlen (fine_all hm)
  rw [List.nil_append] at hmr
  unfold readF
  rw [if_neg (by rw [hp]; simp), hd]
  rw [hd] at hmr
  rw [hmr]
  show rest3 E (numB 4 ⟨word W ++ (word H ++ (word M ++ T)), 0, 0⟩).1 _ _ _ = _
  obtain ⟨a1, a2⟩ := numB_word (s := ⟨word W ++ (word H ++ (word M ++ T)), 0, 0⟩) (n := (W : Int)) rfl (by omega) (by omega)
  obtain ⟨b1, b2⟩ := numB_word (n := (H : Int)) a2 (by omega) (by omega)
  obtain ⟨c1, c2⟩ := numB_word (n := M) b2 (by omega) (by omega)
  rw [a1, b1, c1]
  have hRl : (residuals W M P).length = H * W := by
    rw [residuals_length]
    have h1 := hr.2.1
    have : ((P.length : Nat) : Int) = ((H * W : Nat) : Int) := by rw [h1]; simp [Int.mul_comm]
    omega
  have hrows := rowsR_rows (residuals_row hr) hRl (s := (numB 4 (numB 4 (numB 4 ⟨word W ++ (word H ++ (word M ++ T)), 0, 0⟩).2).2).2) (by rw [c2, hT]) H (Nat.le_refl _)
  unfold rest3
  rw [if_neg (by rw [hfm_iff.2 hf]; simp), Int.toNat_natCast, Int.toNat_natCast, hrows.1, List.take_of_length_le (by omega), if_neg (by rw [restC_residuals hr]; simp), rest_residuals (by omega) (by omega) hr.2.2]

theorem word_byt (n : Int) : Byt (word n) := fun x hx => by
  simp only [word, List.mem_cons, List.not_mem_nil, or_false] at hx
  omega
theorem pack_byt {l : List Int} (h : IsBits l) : Byt (pack l) := fun x hx => by
  obtain ⟨i, _, rfl⟩ := List.mem_map.1 hx
  have := byteAt_range h (8 * i)
  omega
theorem Byt.append {a b : List Int} (ha : Byt a) (hb : Byt b) : Byt (a ++ b) := fun x hx => by
  rcases List.mem_append.1 hx with h | h
  · exact ha x h
  · exact hb x h
theorem fileB_byt (E : List Ent) (W H : Nat) (M : Int) (P : List Int) : Byt (fileB E W H M P) := by
  unfold fileB
  refine Byt.append (Byt.append (Byt.append (Byt.append (Byt.append (Byt.append ?_ ?_) ?_) (word_byt _)) (word_byt _)) (word_byt _)) ?_
  · intro x hx
    simp only [headB, List.mem_cons, List.not_mem_nil, or_false] at hx
    omega
  · intro x hx
    obtain ⟨e, _, he⟩ := List.mem_flatMap.1 hx
    have h10 : Byt [10] := fun y hy => by have := List.mem_singleton.1 hy; omega
    have h32 : Byt [32] := fun y hy => by have := List.mem_singleton.1 hy; omega
    exact Byt.append (Byt.append (Byt.append (txt_byt _) h32) (txt_byt _)) h10 x he
  · intro x hx
    have := List.mem_singleton.1 hx
    omega
  · intro x hx
    obtain ⟨y, _, hy⟩ := List.mem_flatMap.1 hx
    rcases List.mem_cons.1 hy with h | h
    · have := best_le (rowOf W (residuals W M P) y); omega
    · exact pack_byt (codes_bits _ _) x h

end Go.Proofs.Ytcnlghkdhpgnmaa
