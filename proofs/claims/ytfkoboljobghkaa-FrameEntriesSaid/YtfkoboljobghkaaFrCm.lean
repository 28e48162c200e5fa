/-
  Walks: checkMeta and Check of package frame.
-/
import Derived.Test.YtfkoboljobghkaaFrSl
import Derived.Laws.Cover1
set_option linter.unusedSimpArgs false
set_option linter.unusedVariables false
namespace Go.Proofs.Ytfkoboljobghkaa
open Go.RowKit Go.Shelf

abbrev Ent := ByteArray × ByteArray
def keyAt (E : List Ent) (i : Nat) : ByteArray := (E.getD i (ByteArray.empty, ByteArray.empty)).1
def valAt (E : List Ent) (i : Nat) : ByteArray := (E.getD i (ByteArray.empty, ByteArray.empty)).2
def less (a b : ByteArray) : Bool := Op.bytesLess a.toList b.toList
/-- The code of the entry with a number. -/
def entC (E : List Ent) (i : Nat) : Int := if keyB (keyAt E i) = false then 10 else if 0 < i ∧ less (keyAt E (i - 1)) (keyAt E i) = false then 5 else valC (valAt E i)
def firstC : List Int → Int
  | [] => 0
  | c :: l => if c = 0 then firstC l else c
theorem firstC_hit {l : List Int} {i : Nat} (hi : i < l.length) (h0 : ∀ j, j < i → nth l j = 0) (h : nth l i ≠ 0) : firstC l = nth l i := by
  induction l generalizing i with
  | nil => simp at hi
  | cons c l ih =>
    unfold firstC
    cases i with
    | zero => rw [if_neg (by simpa [nth] using h)]; rfl
    | succ i =>
      have hc : c = 0 := by have := h0 0 (by omega); simpa [nth] using this
      rw [if_pos hc]
      have := ih (i := i) (by simpa using hi) (fun j hj => by have := h0 (j + 1) (by omega); simpa [nth] using this) (by simpa [nth] using h)
      rw [this]
      simp [nth]
theorem firstC_none {l : List Int} (h0 : ∀ j, j < l.length → nth l j = 0) : firstC l = 0 := by
  induction l with
  | nil => rfl
  | cons c l ih =>
    unfold firstC
    have hc : c = 0 := by have := h0 0 (by simp); simpa [nth] using this
    rw [if_pos hc]
    exact ih fun j hj => by have := h0 (j + 1) (by simp; omega); simpa [nth] using this
/-- The code of metadata. -/
def metaC (E : List Ent) : Int := if 32 < E.length then 3 else firstC ((List.range E.length).map (entC E))
theorem nth_range {f : Nat → Int} {n i : Nat} (h : i < n) : nth ((List.range n).map f) i = f i := by
  rw [nth_eq (by simpa using h)]; simp
theorem metaC_hit {E : List Ent} {i : Nat} (hl : ¬ 32 < E.length) (hi : i < E.length) (h0 : ∀ j, j < i → entC E j = 0) (h : entC E i ≠ 0) : metaC E = entC E i := by
  unfold metaC
  rw [if_neg hl, firstC_hit (i := i) (by simpa using hi) (fun j hj => by rw [nth_range (by omega)]; exact h0 j hj) (by rw [nth_range hi]; exact h), nth_range hi]
theorem metaC_none {E : List Ent} (hl : ¬ 32 < E.length) (h0 : ∀ j, j < E.length → entC E j = 0) : metaC E = 0 := by
  unfold metaC
  rw [if_neg hl, firstC_none]
  intro j hj
  rw [List.length_map, List.length_range] at hj
  rw [nth_range hj]
  exact h0 j hj

/-- Entries in memory. -/
def En (w : World) (A : Option Addr) (n c : Nat) (E : List Ent) : Prop :=
  n = E.length ∧ n ≤ c ∧ c ≤ 9223372036854775807 ∧ (0 < n → ∃ b off, A = some ⟨b, off, none⟩ ∧ ∀ i, i < n → w.cell? ⟨b, off + i * 2, none⟩ = some (.string (keyAt E i)) ∧ w.cell? ⟨b, off + i * 2 + 1, none⟩ = some (.string (valAt E i))) ∧
  ∀ i, (keyAt E i).size ≤ 1000000000 ∧ (valAt E i).size ≤ 1000000000
section
variable {w w' : World} {A : Option Addr} {n c : Nat} {E : List Ent}
theorem En.at_ (h : En w A n c E) (h0 : 0 < n) : ∃ b off, A = some ⟨b, off, none⟩ ∧ b < w.heap.size ∧ ∀ i, i < n → w.cell? ⟨b, off + i * 2, none⟩ = some (.string (keyAt E i)) ∧ w.cell? ⟨b, off + i * 2 + 1, none⟩ = some (.string (valAt E i)) := by
  obtain ⟨b, off, e, hc⟩ := h.2.2.2.1 h0
  exact ⟨b, off, e, World.block_lt_of_cell? w _ (hc 0 h0).1, hc⟩
theorem En.keep (h : En w A n c E) (hk : 0 < n → ∀ b i, (∃ off, A = some ⟨b, off, none⟩) → b < w.heap.size → w'.cell? ⟨b, i, none⟩ = w.cell? ⟨b, i, none⟩) : En w' A n c E :=
  ⟨h.1, h.2.1, h.2.2.1, fun h0 => by
    obtain ⟨b, off, e, hb, hc⟩ := h.at_ h0
    exact ⟨b, off, e, fun i hi => ⟨(hk h0 b _ ⟨off, e⟩ hb).trans (hc i hi).1, (hk h0 b _ ⟨off, e⟩ hb).trans (hc i hi).2⟩⟩, h.2.2.2.2⟩
theorem En.below (h : En w A n c E) {B : Nat} (hb : Below B w w') (hB : w.heap.size ≤ B) : En w' A n c E :=
  h.keep fun _ b i _ hlt => hb.cell (p := ⟨b, i, none⟩) (Nat.lt_of_lt_of_le hlt hB)
theorem En.alloc (h : En w A n c E) (o : Obj) : En (w.alloc o) A n c E :=
  h.keep fun _ b i _ hlt => World.cell?_alloc_lt w o ⟨b, i, none⟩ hlt
end

theorem isKey_at {s : ByteArray} {b : Bool} (h : keyB s = b) (w : World) (hs : s.size ≤ 1000000000) :
    Calls Try.prog 67 #[.string s] w fun e w' => e = .returned (.bool b) ∧ Below w.heap.size w w' := h ▸ isKey_any s w (by omega)
theorem checkValue_at {s : ByteArray} {r : Int} (h : valC s = r) (w : World) (hs : s.size ≤ 1000000000) :
    Calls Try.prog 68 #[.string s] w fun e w' => e = .returned (.int .i64 r) ∧ Below w.heap.size w w' := h ▸ checkValue_any s w (by omega)

/-- The box of an entry: what a walk reads. -/
theorem entBox (w w' : World) (k v : Value) (hb : Below (w.heap.size + 1) (w.alloc (.cells #[k, v] 68)) w') :
    (w'.cell? ⟨w.heap.size, 0, none⟩ = some k ∧ w'.cell? ⟨w.heap.size, 1, none⟩ = some v) ∧ w'.frozen? ⟨w.heap.size, 0, none⟩ = false ∧ w'.frozen? ⟨w.heap.size, 1, none⟩ = false :=
  box2 (t := 68) (by rw [hb.block _ (by omega)]; exact heap_alloc_new w _)

set_option maxRecDepth 100000 in
set_option maxHeartbeats 6400000 in
theorem checkMeta_any (A : Option Addr) (n c : Nat) (E : List Ent) (w : World) (h : En w A n c E) :
    Calls Try.prog 49 #[.slice A n c] w fun e w' => e = .returned (.int .i64 (metaC E)) ∧ Below w.heap.size w w' := by
  have hlen := h.1
  have hcap := h.2.1
  have hcl := h.2.2.1
  by_cases hl : 32 < n
  · have hv : Hid (metaC E = 3) := Lib.hid (by unfold metaC; rw [if_pos (by omega)])
    clear hlen h
    go_enter Try.func49, Try.ntmps49
    go_wp2
    go_ret
    exact ⟨ret_int hv.out.symm, Below.refl _ _⟩
  have hl2 : n ≤ 32 := by omega
  have hE : Hid (¬ 32 < E.length) := Lib.hid (by omega)
  replace hlen := Lib.hid hlen
  replace h := Lib.hid h
  go_enter Try.func49, Try.ntmps49
  go_wp2
  go_loopw [11] (fun i wr => ∃ k : Nat, k ≤ n ∧ i = .int .i64 (k : Int) ∧ Hid (∀ j, j < k → entC E j = 0) ∧ Below w.heap.size w wr) (fun i _ => n - (intOf i).toNat)
  case atStart => exact ⟨0, Nat.zero_le _, rfl, Lib.hid fun j hj => absurd hj (Nat.not_lt_zero _), Below.refl _ _⟩
  case round =>
    obtain ⟨k, hk, rfl, h0, hB⟩ := hrel
    by_cases hlt : k < n
    · obtain ⟨b, off, rfl, hbw, hc⟩ := (h.out.below hB (Nat.le_refl _)).at_ (by omega)
      obtain ⟨c0, c1⟩ := hc k hlt
      obtain ⟨s0, s1⟩ := h.out.2.2.2.2 k
      have hsize := hB.size
      obtain ⟨ks, hks⟩ : ∃ s, keyAt E k = s := ⟨_, rfl⟩
      obtain ⟨vs, hvs⟩ : ∃ s, valAt E k = s := ⟨_, rfl⟩
      rw [hks] at c0 s0
      rw [hvs] at c1 s1
      obtain ⟨q, hq⟩ : ∃ q, k * 2 = q := ⟨_, rfl⟩
      rw [hq] at c0 c1
      have hBa := hB.alloc hB.size (.cells #[.string ks, .string vs] 68)
      have hhit := Lib.hid (fun h => metaC_hit (i := k) hE.out (by rw [← hlen.out]; exact hlt) h0.out h)
      obtain ⟨b1, hb1⟩ : ∃ b, keyB ks = b := ⟨_, rfl⟩
      have hck := Lib.hid (fun W => isKey_at hb1 W s0)
      cases b1
      · have he : Hid (entC E k = 10) := Lib.hid (by unfold entC; rw [hks, hb1]; rfl)
        replace hks := Lib.hid hks
        replace hvs := Lib.hid hvs
        replace hb1 := Lib.hid hb1
        clear hc
        go_wp2_with (go_at_call 67; refine (hck.out _).mono ?_; rintro e w2 ⟨rfl, hb2⟩)
        go_ret
        refine ⟨ret_int ?_, hBa.trans (hb2.mono (by simp; omega))⟩
        rw [hhit.out (by rw [he.out]; decide), he.out]
      · by_cases hord : 0 < k ∧ less (keyAt E (k - 1)) ks = false
        · have he : Hid (entC E k = 5) := Lib.hid (by unfold entC; rw [hks, hb1, if_neg (by simp), if_pos hord])
          obtain ⟨m, rfl⟩ : ∃ m, k = m + 1 := ⟨k - 1, by omega⟩
          obtain ⟨p0, p1⟩ := hc m (by omega)
          rw [Nat.add_sub_cancel] at hord
          obtain ⟨ps, hps⟩ : ∃ s, keyAt E m = s := ⟨_, rfl⟩
          rw [hps] at p0 hord
          obtain ⟨q2, hq2⟩ : ∃ q, m * 2 = q := ⟨_, rfl⟩
          rw [hq2] at p0 p1
          have hlss : Op.bytesLess ps.toList ks.toList = false := hord.2
          replace hks := Lib.hid hks
          replace hvs := Lib.hid hvs
          replace hb1 := Lib.hid hb1
          replace hps := Lib.hid hps
          clear hc hord
          go_wp2_with (go_at_call 67; refine (hck.out _).mono ?_; rintro e w2 ⟨rfl, hb2⟩; simp only [World.size_alloc] at hb2; obtain ⟨⟨x0, x1⟩, x2, x3⟩ := entBox wr w2 _ _ hb2; have p2 := (hb2.cell (p := ⟨b, off + q2, none⟩) (by show b < _; omega)).trans ((World.cell?_alloc_lt wr _ ⟨b, off + q2, none⟩ hbw).trans p0))
          go_quiet (fail)
          go_wp2
          go_ret
          refine ⟨ret_int ?_, below_drewN (hBa.trans (hb2.mono (by omega))) _⟩
          rw [hhit.out (by rw [he.out]; decide), he.out]
        · obtain ⟨r, hr⟩ : ∃ r, valC vs = r := ⟨_, rfl⟩
          have he : Hid (entC E k = r) := Lib.hid (by unfold entC; rw [hks, hb1, if_neg (by simp), if_neg hord, hvs, hr])
          have hcv := Lib.hid (fun W => checkValue_at hr W s1)
          replace hks := Lib.hid hks
          replace hvs := Lib.hid hvs
          replace hb1 := Lib.hid hb1
          replace hr := Lib.hid hr
          by_cases hr0 : r = 0
          · subst hr0
            have hnext : Hid (∀ j, j < k + 1 → entC E j = 0) := Lib.hid (fun j hj => by
              by_cases e : j = k
              · rw [e]; exact he.out
              · exact h0.out j (by omega))
            have hme : Hid (n - (k + 1) < n - k) := Lib.hid (by omega)
            cases k with
            | zero =>
              obtain rfl : q = 0 := by omega
              rw [Nat.add_zero] at c0 c1
              clear hc hord hq
              go_wp2_with (go_at_call 67; refine (hck.out _).mono ?_; rintro e w2 ⟨rfl, hb2⟩; simp only [World.size_alloc] at hb2; obtain ⟨⟨x0, x1⟩, x2, x3⟩ := entBox wr w2 _ _ hb2)
              go_quiet (fail)
              go_wp2_with (go_at_call 68; refine (hcv.out _).mono ?_; rintro e w3 ⟨rfl, hb3⟩; have hb4 := (below_drewN (Below.refl w2.heap.size w2) nq).trans (hb3.mono (by simp)))
              refine ⟨⟨1, hlt, by go_num, hnext.out, (hBa.trans (hb2.mono (by omega))).trans (hb4.mono (by have := hb2.size; simp at this; omega))⟩, by simp [intOf]; omega⟩
            | succ m =>
              obtain ⟨p0, p1⟩ := hc m (by omega)
              rw [Nat.add_sub_cancel] at hord
              obtain ⟨ps, hps⟩ : ∃ s, keyAt E m = s := ⟨_, rfl⟩
              rw [hps] at p0 hord
              obtain ⟨q2, hq2⟩ : ∃ q, m * 2 = q := ⟨_, rfl⟩
              rw [hq2] at p0 p1
              have hlss : Op.bytesLess ps.toList ks.toList = true := by
                have : ¬ less ps ks = false := fun e => hord ⟨by omega, e⟩
                simpa [less] using this
              replace hps := Lib.hid hps
              clear hc hord
              go_wp2_with (go_at_call 67; refine (hck.out _).mono ?_; rintro e w2 ⟨rfl, hb2⟩; simp only [World.size_alloc] at hb2; obtain ⟨⟨x0, x1⟩, x2, x3⟩ := entBox wr w2 _ _ hb2; have p2 := (hb2.cell (p := ⟨b, off + q2, none⟩) (by show b < _; omega)).trans ((World.cell?_alloc_lt wr _ ⟨b, off + q2, none⟩ hbw).trans p0))
              go_quiet (fail)
              go_wp2_with (go_at_call 68; refine (hcv.out _).mono ?_; rintro e w3 ⟨rfl, hb3⟩; have hb4 := (below_drewN (Below.refl w2.heap.size w2) nq).trans (hb3.mono (by simp)))
              refine ⟨⟨m + 1 + 1, hlt, by go_num, hnext.out, (hBa.trans (hb2.mono (by omega))).trans (hb4.mono (by have := hb2.size; simp at this; omega))⟩, by simp [intOf]; omega⟩
          · have hne : (r != 0) = true := by simp [hr0]
            replace hr0 := Lib.hid hr0
            cases k with
            | zero =>
              obtain rfl : q = 0 := by omega
              rw [Nat.add_zero] at c0 c1
              clear hc hord hq
              go_wp2_with (go_at_call 67; refine (hck.out _).mono ?_; rintro e w2 ⟨rfl, hb2⟩; simp only [World.size_alloc] at hb2; obtain ⟨⟨x0, x1⟩, x2, x3⟩ := entBox wr w2 _ _ hb2)
              go_quiet (fail)
              go_wp2_with (go_at_call 68; refine (hcv.out _).mono ?_; rintro e w3 ⟨rfl, hb3⟩; have hb4 := (below_drewN (Below.refl w2.heap.size w2) nq).trans (hb3.mono (by simp)))
              go_ret
              refine ⟨ret_int ?_, (hBa.trans (hb2.mono (by omega))).trans (hb4.mono (by have := hb2.size; simp at this; omega))⟩
              rw [hhit.out (by rw [he.out]; exact hr0.out), he.out]
            | succ m =>
              obtain ⟨p0, p1⟩ := hc m (by omega)
              rw [Nat.add_sub_cancel] at hord
              obtain ⟨ps, hps⟩ : ∃ s, keyAt E m = s := ⟨_, rfl⟩
              rw [hps] at p0 hord
              obtain ⟨q2, hq2⟩ : ∃ q, m * 2 = q := ⟨_, rfl⟩
              rw [hq2] at p0 p1
              have hlss : Op.bytesLess ps.toList ks.toList = true := by
                have : ¬ less ps ks = false := fun e => hord ⟨by omega, e⟩
                simpa [less] using this
              replace hps := Lib.hid hps
              clear hc hord
              go_wp2_with (go_at_call 67; refine (hck.out _).mono ?_; rintro e w2 ⟨rfl, hb2⟩; simp only [World.size_alloc] at hb2; obtain ⟨⟨x0, x1⟩, x2, x3⟩ := entBox wr w2 _ _ hb2; have p2 := (hb2.cell (p := ⟨b, off + q2, none⟩) (by show b < _; omega)).trans ((World.cell?_alloc_lt wr _ ⟨b, off + q2, none⟩ hbw).trans p0))
              go_quiet (fail)
              go_wp2_with (go_at_call 68; refine (hcv.out _).mono ?_; rintro e w3 ⟨rfl, hb3⟩; have hb4 := (below_drewN (Below.refl w2.heap.size w2) nq).trans (hb3.mono (by simp)))
              go_ret
              refine ⟨ret_int ?_, (hBa.trans (hb2.mono (by omega))).trans (hb4.mono (by have := hb2.size; simp at this; omega))⟩
              rw [hhit.out (by rw [he.out]; exact hr0.out), he.out]
    · obtain rfl : k = n := by omega
      have hv : Hid (metaC E = 0) := Lib.hid (metaC_none hE.out (by rw [← hlen.out]; exact h0.out))
      go_wp2
      go_ret
      exact ⟨ret_int hv.out.symm, hB⟩

/-- A frame's code. -/
def RasC (W H M : Int) (P : List Int) (E : List Ent) (r : Int) : Prop := ¬ Ras W H M P ∧ r = 1 ∨ Ras W H M P ∧ r = metaC E

set_option maxRecDepth 100000 in
set_option maxHeartbeats 3200000 in
theorem fCheck_any (A : Option Addr) (n c : Nat) (E : List Ent) (W H M : Int) (A2 : Option Addr) (n2 c2 : Nat) (P : List Int) (w : World) (h : En w A n c E) (h2 : Sl w A2 n2 c2 P) {r : Int} (hr : RasC W H M P E r) :
    Calls Try.prog 14 #[.agg #[.slice A n c, .int .i64 W, .int .i64 H, .int .i64 M, .slice A2 n2 c2]] w fun e w' => e = .returned (.int .i64 r) ∧ Below w.heap.size w w' := by
  have hb0 := (Below.refl w.heap.size w).alloc (Nat.le_refl _) (.cells #[.slice A n c, .int .i64 W, .int .i64 H, .int .i64 M, .slice A2 n2 c2] 27)
  have hs := h2.alloc (.cells #[.slice A n c, .int .i64 W, .int .i64 H, .int .i64 M, .slice A2 n2 c2] 27)
  have hn := h.alloc (.cells #[.slice A n c, .int .i64 W, .int .i64 H, .int .i64 M, .slice A2 n2 c2] 27)
  rcases hr with ⟨hr, rfl⟩ | ⟨hr, hm⟩
  · have hcon := Lib.hid (Check_no hs hr)
    replace hr := Lib.hid hr
    go_enter Try.func14, Try.ntmps14
    go_wp2_with (go_at_call 48; refine hcon.out.mono ?_; rintro e w2 ⟨rfl, hb2⟩)
    go_ret
    exact ⟨rfl, hb0.trans (hb2.mono (by simp))⟩
  · have hcon := Lib.hid (Check_ok hs hr)
    have hcm := Lib.hid (fun W hW => checkMeta_any A n c E W hW)
    replace hr := Lib.hid hr
    replace hn := Lib.hid hn
    replace hm := Lib.hid hm
    go_enter Try.func14, Try.ntmps14
    go_wp2_with (first | (go_at_call 48; refine hcon.out.mono ?_; rintro e w2 ⟨rfl, hb2⟩; have x0 : w2.cell? ⟨w.heap.size, 0, none⟩ = some (.slice A n c) := (hb2.cell (p := ⟨w.heap.size, 0, none⟩) (by simp)).trans (by simp [go_sem])) | (go_at_call 49; refine (hcm.out _ (hn.out.below hb2 (Nat.le_refl _))).mono ?_; rintro e w3 ⟨rfl, hb3⟩))
    go_ret
    exact ⟨ret_int hm.out.symm, hb0.trans ((hb2.trans (hb3.mono hb2.size)).mono (by simp))⟩

end Go.Proofs.Ytfkoboljobghkaa
