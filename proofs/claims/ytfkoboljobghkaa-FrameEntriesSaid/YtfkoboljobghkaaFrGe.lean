/-
  Walks: Get of package frame; the place of a key in metadata.
-/
import Derived.Test.YtfkoboljobghkaaFrFd
import Derived.Test.YtfkoboljobghkaaFrEa
set_option linter.unusedSimpArgs false
set_option linter.unusedVariables false
namespace Go.Proofs.Ytfkoboljobghkaa
open Go.RowKit Go.Shelf

theorem less_trans {a b c : ByteArray} (h : less a b = true) (k : less b c = true) : less a c = true := by
  rw [less_eq, decide_eq_true_iff] at *
  exact List.lt_trans h k
theorem less_irrefl (a : ByteArray) : less a a = false := by
  rw [less_eq, decide_eq_false_iff_not]
  exact List.lt_irrefl _
theorem less_asymm {a b : ByteArray} (h : less a b = true) : less b a = false := by
  cases k : less b a with
  | false => rfl
  | true => have := less_trans h k; rw [less_irrefl] at this; cases this
theorem list_total : ∀ x y : List UInt8, ¬ x < y → x ≠ y → y < x
  | [], [], _, h => absurd rfl h
  | [], _ :: _, h, _ => absurd (List.nil_lt_cons _ _) h
  | _ :: _, [], _, _ => List.nil_lt_cons _ _
  | a :: x, b :: y, h, hn => by
    rw [List.cons_lt_cons_iff] at h ⊢
    by_cases h1 : a < b
    · exact absurd (.inl h1) h
    · by_cases h2 : b < a
      · exact .inl h2
      · have h3 : a = b := UInt8.le_antisymm (UInt8.not_lt.1 h2) (UInt8.not_lt.1 h1)
        subst h3
        exact .inr ⟨rfl, list_total x y (fun e => h (.inr ⟨rfl, e⟩)) fun e => hn (by rw [e])⟩
theorem less_total {a b : ByteArray} (h : less a b = false) (hn : a ≠ b) : less b a = true := by
  rw [less_eq, decide_eq_false_iff_not] at h
  rw [less_eq, decide_eq_true_iff]
  exact list_total _ _ h fun e => hn (cmpT_zero.1 ((compareB _ _).2.2 e))

/-- The keys of metadata are in order. -/
theorem entC_sorted {E : List Ent} {j : Nat} (h : entC E j = 0) (hj : 0 < j) : less (keyAt E (j - 1)) (keyAt E j) = true := by
  unfold entC at h
  by_cases h1 : keyB (keyAt E j) = false
  · rw [if_pos h1] at h; cases h
  · rw [if_neg h1] at h
    by_cases h2 : less (keyAt E (j - 1)) (keyAt E j) = false
    · rw [if_pos ⟨hj, h2⟩] at h; cases h
    · simpa using h2
theorem meta_sorted {E : List Ent} (h : metaC E = 0) {i : Nat} : ∀ j, i < j → j < E.length → less (keyAt E i) (keyAt E j) = true
  | 0, h1, _ => absurd h1 (Nat.not_lt_zero _)
  | j + 1, h1, h2 => by
    have hs := entC_sorted ((metaC_zero h).2 (j + 1) h2) (Nat.succ_pos _)
    rw [Nat.add_sub_cancel] at hs
    rcases Nat.lt_or_ge i j with h3 | h3
    · exact less_trans (meta_sorted h j h3 (by omega)) hs
    · obtain rfl : i = j := by omega
      exact hs
theorem posOf_ex {E : List Ent} (h : metaC E = 0) (k : ByteArray) : ∃ p, PosOf E k p := by
  suffices ∀ m, m ≤ E.length → ∃ p, p ≤ m ∧ ∀ j, j < m → (less (keyAt E j) k = true ↔ j < p) by
    obtain ⟨p, h1, h2⟩ := this E.length (Nat.le_refl _)
    exact ⟨p, h1, h2⟩
  intro m
  induction m with
  | zero => exact fun _ => ⟨0, Nat.le_refl _, fun j hj => absurd hj (Nat.not_lt_zero _)⟩
  | succ m ih =>
    intro hm
    obtain ⟨p, h1, h2⟩ := ih (by omega)
    by_cases hl : less (keyAt E m) k = true
    · refine ⟨m + 1, Nat.le_refl _, fun j hj => ⟨fun _ => hj, fun _ => ?_⟩⟩
      rcases Nat.lt_or_ge j m with h3 | h3
      · exact less_trans (meta_sorted h m h3 (by omega)) hl
      · obtain rfl : j = m := by omega
        exact hl
    · refine ⟨p, by omega, fun j hj => ?_⟩
      rcases Nat.lt_or_ge j m with h3 | h3
      · exact h2 j h3
      · obtain rfl : j = m := by omega
        exact ⟨fun e => absurd e hl, fun e => by omega⟩

theorem Get_no (A : Option Addr) (n c : Nat) (E : List Ent) (W H M : Int) (A2 : Option Addr) (n2 c2 : Nat) (P : List Int) (k : ByteArray) (w : World) (h : En w A n c E) (h2 : Sl w A2 n2 c2 P) {r : Int} (hr : RasC W H M P E r) (hr0 : r ≠ 0) :
    Calls Try.prog 36 #[.agg #[.slice A n c, .int .i64 W, .int .i64 H, .int .i64 M, .slice A2 n2 c2], .string k] w fun e w' => e = .returned (.tuple #[.string ⟨#[]⟩, .int .i64 r]) ∧ Below w.heap.size w w' := by
  have hb0 := (Below.refl w.heap.size w).alloc (Nat.le_refl _) (.cells #[.slice A n c, .int .i64 W, .int .i64 H, .int .i64 M, .slice A2 n2 c2] 27)
  have hcon := Lib.hid (fCheck_any A n c E W H M A2 n2 c2 P _ (h.alloc (.cells #[.slice A n c, .int .i64 W, .int .i64 H, .int .i64 M, .slice A2 n2 c2] 27)) (h2.alloc _) hr)
  have hne : (r != 0) = true := by simp [hr0]
  replace hr0 := Lib.hid hr0
  replace hr := Lib.hid hr
  go_enter Try.func36, Try.ntmps36
  go_wp2_with (go_at_call 14; refine hcon.out.mono ?_; rintro e w2 ⟨rfl, hb2⟩)
  go_ret2
  exact ⟨rfl, hb0.trans (hb2.mono (by simp))⟩

/-- The box of a frame, behind calls. -/
theorem frameBox (w w' : World) (x0 x1 x2 x3 x4 : Value) (hb : Below (w.heap.size + 1) (w.alloc (.cells #[x0, x1, x2, x3, x4] 27)) w') :
    w'.cell? ⟨w.heap.size, 0, none⟩ = some x0 ∧ w'.cell? ⟨w.heap.size, 1, none⟩ = some x1 ∧ w'.cell? ⟨w.heap.size, 2, none⟩ = some x2 ∧ w'.cell? ⟨w.heap.size, 3, none⟩ = some x3 ∧ w'.cell? ⟨w.heap.size, 4, none⟩ = some x4 :=
  box5 (t := 27) (by rw [hb.block _ (by omega)]; exact heap_alloc_new w _)

theorem rasC_good {W H M : Int} {P : List Int} {E : List Ent} (h : Good W H M P E) : RasC W H M P E 0 := .inr ⟨h.1, h.2.symm⟩

set_option maxHeartbeats 1600000 in
theorem Get_missing (A : Option Addr) (n c : Nat) (E : List Ent) (W H M : Int) (A2 : Option Addr) (n2 c2 : Nat) (P : List Int) (k : ByteArray) (p : Nat) (w : World) (h : En w A n c E) (h2 : Sl w A2 n2 c2 P) (hg : Good W H M P E) (hp : PosOf E k p) (ha : isAt E k p = false) :
    Calls Try.prog 36 #[.agg #[.slice A n c, .int .i64 W, .int .i64 H, .int .i64 M, .slice A2 n2 c2], .string k] w fun e w' => e = .returned (.tuple #[.string ⟨#[]⟩, .int .i64 6]) ∧ Below w.heap.size w w' := by
  have hb0 := (Below.refl w.heap.size w).alloc (Nat.le_refl _) (.cells #[.slice A n c, .int .i64 W, .int .i64 H, .int .i64 M, .slice A2 n2 c2] 27)
  have hE := h.alloc (.cells #[.slice A n c, .int .i64 W, .int .i64 H, .int .i64 M, .slice A2 n2 c2] 27)
  have hcon := Lib.hid (fCheck_any A n c E W H M A2 n2 c2 P _ hE (h2.alloc _) (rasC_good hg))
  have hn : n ≤ 1000000 := by have := (metaC_zero hg.2).1; have := h.1; omega
  have hfi := Lib.hid (fun W hW => ha ▸ find_any A n c E k p W hW hn hp)
  replace hE := Lib.hid hE
  clear h h2 hg hp ha
  go_enter Try.func36, Try.ntmps36
  go_wp2_with (first
    | (go_at_call 14; refine hcon.out.mono ?_; rintro e w2 ⟨rfl, hb2⟩; obtain ⟨x0, x1, x2, x3, x4⟩ := frameBox w w2 _ _ _ _ _ (hb2.mono (by simp)))
    | (go_at_call 66; refine (hfi.out _ (hE.out.below hb2 (Nat.le_refl _))).mono ?_; rintro e w3 ⟨rfl, hb3⟩))
  go_ret2
  exact ⟨rfl, hb0.trans ((hb2.trans (hb3.mono hb2.size)).mono (by simp))⟩

set_option maxHeartbeats 1600000 in
theorem Get_yes (A : Option Addr) (n c : Nat) (E : List Ent) (W H M : Int) (A2 : Option Addr) (n2 c2 : Nat) (P : List Int) (k : ByteArray) (p : Nat) (w : World) (h : En w A n c E) (h2 : Sl w A2 n2 c2 P) (hg : Good W H M P E) (hp : PosOf E k p) (ha : isAt E k p = true) :
    Calls Try.prog 36 #[.agg #[.slice A n c, .int .i64 W, .int .i64 H, .int .i64 M, .slice A2 n2 c2], .string k] w fun e w' => e = .returned (.tuple #[.string (valAt E p), .int .i64 0]) ∧ Below w.heap.size w w' := by
  have hb0 := (Below.refl w.heap.size w).alloc (Nat.le_refl _) (.cells #[.slice A n c, .int .i64 W, .int .i64 H, .int .i64 M, .slice A2 n2 c2] 27)
  have hE := h.alloc (.cells #[.slice A n c, .int .i64 W, .int .i64 H, .int .i64 M, .slice A2 n2 c2] 27)
  have hcon := Lib.hid (fCheck_any A n c E W H M A2 n2 c2 P _ hE (h2.alloc _) (rasC_good hg))
  have hn : n ≤ 1000000 := by have := (metaC_zero hg.2).1; have := h.1; omega
  have hcap := h.2.1
  have hcl := h.2.2.1
  have hfi := Lib.hid (fun W hW => ha ▸ find_any A n c E k p W hW hn hp)
  have hpn : p < n := by
    unfold isAt at ha
    have := (of_decide_eq_true ha).1
    rw [h.1]; exact this
  obtain ⟨b, off, rfl, hbw, hcs⟩ := h.at_ (by omega)
  obtain ⟨c0, c1⟩ := hcs p hpn
  obtain ⟨v, hv⟩ : ∃ v, valAt E p = v := ⟨_, rfl⟩
  obtain ⟨q, hq⟩ : ∃ q, p * 2 = q := ⟨_, rfl⟩
  rw [hq] at c0 c1
  rw [hv] at c1 ⊢
  replace hE := Lib.hid hE
  clear h h2 hg hp ha hcs hv
  go_enter Try.func36, Try.ntmps36
  go_wp2_with (first
    | (go_at_call 14; refine hcon.out.mono ?_; rintro e w2 ⟨rfl, hb2⟩; obtain ⟨x0, x1, x2, x3, x4⟩ := frameBox w w2 _ _ _ _ _ (hb2.mono (by simp)))
    | (go_at_call 66; refine (hfi.out _ (hE.out.below hb2 (Nat.le_refl _))).mono ?_; rintro e w3 ⟨rfl, hb3⟩; have hb4 := hb0.trans ((hb2.trans (hb3.mono hb2.size)).mono (by simp)); have y0 := (hb3.cell (p := ⟨w.heap.size, 0, none⟩) (by have := hb2.size; simp at this; show w.heap.size < _; omega)).trans x0; have y1 := (hb4.cell (p := ⟨b, off + q + 1, none⟩) hbw).trans c1))
  go_ret2
  exact ⟨rfl, hb4⟩

end Go.Proofs.Ytfkoboljobghkaa
