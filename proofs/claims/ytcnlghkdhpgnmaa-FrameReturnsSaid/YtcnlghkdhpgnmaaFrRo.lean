/-
  A reader reads what a writer has written: rows, words, entries, files.
-/
import Derived.Test.YtcnlghkdhpgnmaaFrRm
set_option linter.unusedSimpArgs false
set_option linter.unusedVariables false
namespace Go.Proofs.Ytcnlghkdhpgnmaa
open Go.RowKit Go.Shelf

theorem nth_low {v : Int} {k i : Nat} (h : i < k) : nth (low v k) i = v / ((2 ^ (k - 1 - i) : Nat) : Int) % 2 := by
  rw [nth_eq (by rw [low_length]; exact h)]; simp [low]
theorem nth_ones (q i : Nat) (h : i < q) : nth (List.replicate q (1 : Int)) i = 1 := by
  rw [nth_eq (by simpa using h)]; simp

/-- A code is read as its number. -/
theorem Ats.deco {bs T : List Int} (hb : IsBits bs) {o k : Nat} {v : Int} {s : RS} (h : Ats bs T o s) (hv : 0 ≤ v) (hv2 : v ≤ 65535) (hl : o + (code k v).length ≤ bs.length) (hc : ∀ i, i < (code k v).length → nth bs (o + i) = nth (code k v) i) :
    (Go.Proofs.Ytcnlghkdhpgnmaa.deco k s).1 = v ∧ Ats bs T (o + (code k v).length) (Go.Proofs.Ytcnlghkdhpgnmaa.deco k s).2 := by
  rw [code_length] at hl hc ⊢
  obtain ⟨q, hq⟩ : ∃ q, (v / ((2 ^ k : Nat) : Int)).toNat = q := ⟨_, rfl⟩
  have hq0 : 0 ≤ v / ((2 ^ k : Nat) : Int) := Int.ediv_nonneg hv (Int.natCast_nonneg _)
  have hqv : v / ((2 ^ k : Nat) : Int) = (q : Int) := by omega
  have hcode : code k v = List.replicate q 1 ++ ([0] ++ low v k) := by unfold code; rw [hq, List.append_assoc]
  rw [hq] at hl hc ⊢
  rw [hcode] at hc
  have ho := h.ones hb q o s (by omega)
    (fun i hi => by rw [hc i (by omega), nth_left (by simpa using hi), nth_ones q i hi])
    (by rw [hc q (by omega), nth_right (by simp)]; simp [nth])
  have hlw := Ats.lows hb v hv hv2 k (o + q + 1) (Go.Proofs.Ytcnlghkdhpgnmaa.ones s.room s).2 ho.2 (by omega) (fun i hi => by
    rw [show o + q + 1 + i = o + (q + 1 + i) from by omega, hc (q + 1 + i) (by omega), nth_right (by simp; omega), nth_right (by simp; omega)]
    simp only [List.length_replicate, List.length_cons, List.length_nil]
    rw [show q + 1 + i - q - (0 + 1) = i from by omega, nth_low hi])
  unfold Go.Proofs.Ytcnlghkdhpgnmaa.deco
  rw [ho.1, ← hqv, show o + (q + 1 + k) = o + q + 1 + k from by omega]
  exact hlw

theorem codes_split {k m : Nat} {l : List Int} (h : m < l.length) : codes k l = codes k (l.take m) ++ (code k (nth l m) ++ codes k (l.drop (m + 1))) := by
  have : l = l.take m ++ (nth l m :: l.drop (m + 1)) := by
    rw [nth_eq h, ← List.drop_eq_getElem_cons h, List.take_append_drop]
  conv => lhs; rw [this]
  simp [codes]

/-- The numbers of a row. -/
theorem Ats.nums {T l : List Int} {k : Nat} (hl : Row l) {s : RS} (h : Ats (codes k l) T 0 s) : ∀ m, m ≤ l.length → (numsR k m s).1 = l.take m ∧ Ats (codes k l) T (codes k (l.take m)).length (numsR k m s).2
  | 0, _ => ⟨by simp [numsR], by simpa [numsR, codes] using h⟩
  | m + 1, hm => by
    obtain ⟨i1, i2⟩ := Ats.nums hl h m (by omega)
    have hs := codes_split (k := k) (l := l) (m := m) (by omega)
    have hv := hl.nth m
    have hd := i2.deco (codes_bits k l) (k := k) (v := nth l m) hv.1 hv.2 (by
        have := congrArg List.length hs
        simp only [List.length_append] at this
        omega)
      (fun i hi => by
        conv => lhs; rw [hs]
        rw [nth_right (by omega), Nat.add_sub_cancel_left, nth_left hi])
    have ht := codes_take (l := l) (j := m) k (by omega)
    refine ⟨?_, ?_⟩
    · show (numsR k m s).1 ++ [(Go.Proofs.Ytcnlghkdhpgnmaa.deco k (numsR k m s).2).1] = _
      rw [i1, hd.1, take_succ_nth (by omega)]
    · show Ats _ _ _ (Go.Proofs.Ytcnlghkdhpgnmaa.deco k (numsR k m s).2).2
      rw [ht, List.length_append]
      exact hd.2

/-- A row. -/
theorem rowR_row {l T : List Int} (hl : Row l) {s : RS} (h : s.R = rowB l ++ T) : (rowR l.length s).1 = l ∧ (rowR l.length s).2.R = T := by
  have hk : (nth s.R 0).toNat = best l := by rw [h]; simp [rowB, nth]
  have ha : Ats (codes (best l) l) T 0 s.byte := by
    refine ⟨?_, rfl, fun h0 => absurd rfl h0⟩
    show s.R.drop 1 = _
    rw [h]
    simp [rowB]
  obtain ⟨n1, n2, -, -⟩ := ha.nums hl l.length (Nat.le_refl _)
  unfold rowR
  rw [hk]
  refine ⟨by rw [n1, List.take_length], ?_⟩
  rw [n2, List.take_length, List.drop_of_length_le (by rw [pack_length]; exact Nat.le_refl _)]
  rfl

/-- The rows. -/
theorem rowsR_rows {W H : Nat} {R : List Int} (hR : Row R) (hl : R.length = H * W) {s : RS} (h : s.R = (List.range H).flatMap fun y => rowB (rowOf W R y)) : ∀ m, m ≤ H → (rowsR W m s).1 = R.take (m * W) ∧ (rowsR W m s).2.R = ((List.range H).drop m).flatMap fun y => rowB (rowOf W R y)
  | 0, _ => ⟨by simp [rowsR], h⟩
  | m + 1, hm => by
    obtain ⟨i1, i2⟩ := rowsR_rows hR hl h m (by omega)
    have hlen : (rowOf W R m).length = W := by
      have h1 : (m + 1) * W ≤ H * W := Nat.mul_le_mul_right _ hm
      rw [Nat.succ_mul] at h1
      unfold rowOf
      rw [List.length_take, List.length_drop]
      omega
    have hd : (List.range H).drop m = m :: (List.range H).drop (m + 1) := by
      rw [List.drop_eq_getElem_cons (by rw [List.length_range]; omega), List.getElem_range]
    rw [hd, List.flatMap_cons] at i2
    have hr := rowR_row (row_of W hR m) i2
    rw [hlen] at hr
    refine ⟨?_, hr.2⟩
    show (rowsR W m s).1 ++ (rowR W (rowsR W m s).2).1 = _
    rw [i1, hr.1, Nat.succ_mul]
    unfold rowOf
    rw [← List.take_add]

/-- A number of four bytes. -/
theorem numB_word {n : Int} {T : List Int} {s : RS} (h : s.R = word n ++ T) (h0 : 0 ≤ n) (h1 : n ≤ 65535) : (numB 4 s).1 = n ∧ (numB 4 s).2.R = T := by
  have e0 : numB 1 s = (orb 0 (n / 16777216 % 256), s.byte) := by
    show (orb 0 (nth s.R 0), s.byte) = _
    rw [h]; rfl
  have r1 : s.byte.R = n / 65536 % 256 :: n / 256 % 256 :: n % 256 :: T := by show s.R.drop 1 = _; rw [h]; rfl
  have e1 : numB 2 s = (orb (orb 0 (n / 16777216 % 256)) (n / 65536 % 256), s.byte.byte) := by
    show (orb (numB 1 s).1 (nth (numB 1 s).2.R 0), (numB 1 s).2.byte) = _
    rw [e0]
    simp only [r1]
    rfl
  have r2 : s.byte.byte.R = n / 256 % 256 :: n % 256 :: T := by show s.byte.R.drop 1 = _; rw [r1]; rfl
  have e2 : numB 3 s = (orb (orb (orb 0 (n / 16777216 % 256)) (n / 65536 % 256)) (n / 256 % 256), s.byte.byte.byte) := by
    show (orb (numB 2 s).1 (nth (numB 2 s).2.R 0), (numB 2 s).2.byte) = _
    rw [e1]
    simp only [r2]
    rfl
  have r3 : s.byte.byte.byte.R = n % 256 :: T := by show s.byte.byte.R.drop 1 = _; rw [r2]; rfl
  have e3 : numB 4 s = (orb (orb (orb (orb 0 (n / 16777216 % 256)) (n / 65536 % 256)) (n / 256 % 256)) (n % 256), s.byte.byte.byte.byte) := by
    show (orb (numB 3 s).1 (nth (numB 3 s).2.R 0), (numB 3 s).2.byte) = _
    rw [e2]
    simp only [r3]
    rfl
  rw [e3]
  refine ⟨?_, by show s.byte.byte.byte.R.drop 1 = _; rw [r3]; rfl⟩
  show orb (orb (orb (orb 0 (n / 16777216 % 256)) (n / 65536 % 256)) (n / 256 % 256)) (n % 256) = n
  have o1 : orb 0 (n / 16777216 % 256) = n / 16777216 % 256 := by rw [orb_eq (by omega) (by omega) (by omega) (by omega)]; omega
  have o2 : orb (n / 16777216 % 256) (n / 65536 % 256) = n / 65536 := by rw [orb_eq (by omega) (by omega) (by omega) (by omega)]; omega
  have o3 : orb (n / 65536) (n / 256 % 256) = n / 256 := by rw [orb_eq (by omega) (by omega) (by omega) (by omega)]; omega
  have o4 : orb (n / 256) (n % 256) = n := by rw [orb_eq (by omega) (by omega) (by omega) (by omega)]; omega
  rw [o1, o2, o3, o4]

/-- Where a byte stands first. -/
theorem u8_ne {a b : Int} (ha : 0 ≤ a ∧ a ≤ 255) (hb : 0 ≤ b ∧ b ≤ 255) (h : a ≠ b) : (UInt8.ofNat a.toNat == UInt8.ofNat b.toNat) = false := by
  rw [beq_eq_false_iff_ne]
  intro e
  have := congrArg UInt8.toNat e
  simp at this
  omega
theorem cutI_at {x : Int} (hx : 0 ≤ x ∧ x ≤ 255) (post : List Int) : ∀ pre : List Int, Byt pre → x ∉ pre → cutI x (pre ++ x :: post) = pre.length
  | [], _, _ => by
    show Lib.indexByte (UInt8.ofNat x.toNat :: Lib.bytesOf post) (UInt8.ofNat x.toNat) = 0
    unfold Lib.indexByte
    rw [if_pos (by simp)]
  | b :: pre, hb, hn => by
    have ih := cutI_at hx post pre (fun y hy => hb y (List.mem_cons_of_mem _ hy)) (fun hm => hn (List.mem_cons_of_mem _ hm))
    have hne : b ≠ x := fun e => hn (e ▸ List.mem_cons_self)
    have hu := u8_ne (hb b List.mem_cons_self) hx hne
    show Lib.indexByte (UInt8.ofNat b.toNat :: Lib.bytesOf (pre ++ x :: post)) (UInt8.ofNat x.toNat) = _
    have ih' : Lib.indexByte (Lib.bytesOf (pre ++ x :: post)) (UInt8.ofNat x.toNat) = pre.length := ih
    unfold Lib.indexByte
    rw [if_neg (by rw [hu]; simp), ih', if_neg (by first | (simp; done) | (simp; omega))]
    simp

theorem txt_byt (s : ByteArray) : Byt (txt s) := fun x hx => by
  obtain ⟨b, _, rfl⟩ := List.mem_map.1 hx
  have := b.toNat_lt
  omega
theorem str_txt (s : ByteArray) : strOfNums (txt s) = s := by
  cases s with
  | mk d =>
    unfold strOfNums txt
    congr 1
    apply Array.ext'
    simp [List.map_map, Function.comp_def]

/-- An entry without the bytes that part entries. -/
def Fine (e : Ent) : Prop := 10 ∉ txt e.1 ∧ 32 ∉ txt e.1 ∧ 10 ∉ txt e.2
theorem metaR_ents (T : List Int) : ∀ (E E0 : List Ent) (f : Nat), E.length < f → (∀ e ∈ E, Fine e) → metaR f (E.flatMap ent ++ 10 :: T) E0 = some (E0 ++ E, T)
  | [], E0, f + 1, _, _ => by
    have hc : cutI 10 (10 :: T) = 0 := cutI_at (by omega) T [] (fun y hy => by cases hy) (by simp)
    show metaR (f + 1) (10 :: T) E0 = _
    unfold metaR
    rw [hc, if_neg (by omega), if_pos rfl]
    simp
  | e :: E, E0, f + 1, hf, hE => by
    obtain ⟨h1, h2, h3⟩ := hE e List.mem_cons_self
    obtain ⟨ks, vs⟩ := e
    have hb : ((ks, vs) :: E).flatMap ent ++ 10 :: T = (txt ks ++ 32 :: txt vs) ++ 10 :: (E.flatMap ent ++ 10 :: T) := by simp [ent]
    have hc := cutI_at (x := 10) (by omega) (E.flatMap ent ++ 10 :: T) (txt ks ++ 32 :: txt vs) (fun y hy => by
      rcases List.mem_append.1 hy with h | h
      · exact txt_byt _ y h
      · rcases List.mem_cons.1 h with h | h
        · omega
        · exact txt_byt _ y h) (by
      intro hm
      rcases List.mem_append.1 hm with h | h
      · exact h1 h
      · rcases List.mem_cons.1 h with h | h
        · cases h
        · exact h3 h)
    have hc2 := cutI_at (x := 32) (by omega) (txt vs) (txt ks) (txt_byt _) h2
    have hl : (txt ks ++ 32 :: txt vs).length = ks.size + 1 + vs.size := by simp [txt_length]; omega
    rw [hl] at hc
    rw [txt_length] at hc2
    have ht : ((txt ks ++ 32 :: txt vs) ++ 10 :: (E.flatMap ent ++ 10 :: T)).take (ks.size + 1 + vs.size) = txt ks ++ 32 :: txt vs := by rw [← hl, List.take_left]
    have hd : ((txt ks ++ 32 :: txt vs) ++ 10 :: (E.flatMap ent ++ 10 :: T)).drop (ks.size + 1 + vs.size + 1) = E.flatMap ent ++ 10 :: T := by
      rw [← hl, ← List.drop_drop, List.drop_left]; rfl
    rw [hb]
    unfold metaR
    rw [hc, if_neg (by omega), if_neg (by omega), Int.toNat_natCast, ht, hc2, if_neg (by omega), Int.toNat_natCast, hd]
    have e1 : (txt ks ++ 32 :: txt vs).take ks.size = txt ks := by rw [← txt_length, List.take_left]
    have e2 : (txt ks ++ 32 :: txt vs).drop (ks.size + 1) = txt vs := by rw [← txt_length, ← List.drop_drop, List.drop_left]; rfl
    rw [e1, e2, str_txt, str_txt, metaR_ents T E _ f (by simp at hf; omega) (fun e he => hE e (List.mem_cons_of_mem _ he))]
    simp

end Go.Proofs.Ytcnlghkdhpgnmaa
