/-
  Walks: row and number of a reader.
-/
import Derived.Test.YtfkoboljobghkaaFrDe
set_option linter.unusedSimpArgs false
set_option linter.unusedVariables false
namespace Go.Proofs.Ytfkoboljobghkaa
open Go.RowKit

theorem RS.room_le (s : RS) {C : Nat} (h : s.room ≤ C) (h7 : 7 ≤ C) : s.next.room ≤ C := by
  by_cases h0 : s.room = 0
  · have h1 : s.left = 0 := by unfold RS.room at h0; omega
    have h2 : s.R = [] := List.length_eq_zero_iff.1 (by unfold RS.room at h0; omega)
    have hf : s.full = ⟨[], 0, 8⟩ := by unfold RS.full; rw [if_pos h1, h2]; rfl
    unfold RS.room RS.next
    rw [hf]
    simpa using h7
  · rw [RS.room_next s h0]; omega
theorem RS.room_byte (s : RS) : s.byte.room ≤ s.room := by
  unfold RS.room RS.byte
  simp only [List.length_drop]
  omega
theorem ones_room {C : Nat} (h7 : 7 ≤ C) : ∀ f s, s.room ≤ C → (ones f s).2.room ≤ C
  | 0, s, h => RS.room_le s h h7
  | f + 1, s, h => by
    unfold ones
    split
    · exact ones_room h7 f s.next (RS.room_le s h h7)
    · exact RS.room_le s h h7
theorem lows_room {C : Nat} (h7 : 7 ≤ C) : ∀ k v s, s.room ≤ C → (lows k v s).2.room ≤ C
  | 0, _, s, h => h
  | k + 1, v, s, h => lows_room h7 k _ s.next (RS.room_le s h h7)
theorem deco_room {C : Nat} (h7 : 7 ≤ C) (k : Nat) (s : RS) (h : s.room ≤ C) : (deco k s).2.room ≤ C := lows_room h7 _ _ _ (ones_room h7 _ _ h)

/-- So many numbers. -/
def numsR (k : Nat) : Nat → RS → List Int × RS
  | 0, s => ([], s)
  | m + 1, s => ((numsR k m s).1 ++ [(deco k (numsR k m s).2).1], (deco k (numsR k m s).2).2)
theorem numsR_length (k : Nat) : ∀ m s, (numsR k m s).1.length = m
  | 0, s => rfl
  | m + 1, s => by unfold numsR; rw [List.length_append, numsR_length k m s]; rfl
theorem numsR_room {C : Nat} (h7 : 7 ≤ C) (k : Nat) : ∀ m s, s.room ≤ C → (numsR k m s).2.room ≤ C
  | 0, s, h => h
  | m + 1, s, h => deco_room h7 k _ (numsR_room h7 k m s h)
/-- A row of so many. -/
def rowR (a : Nat) (s : RS) : List Int × RS := numsR (nth s.R 0).toNat a s.byte

theorem Only.fresh {w w' : World} {g : Nat} (h : Only w w' g) {p : Addr} (hp : w.heap.size ≤ p.block) (u : Value) : Only w (w'.setCell p u) g :=
  ⟨h.os, h.tape, h.output, by simpa [World.setCell] using h.size, fun i hi hne => (Below.heap_setCell w' p u i (by omega)).trans (h.block i hi hne)⟩
theorem Rd.lt {w : World} {g : Nat} {s : RS} (h : Rd w g s) : g < w.heap.size := by
  obtain ⟨A, n, c, hbox, -⟩ := h
  exact (Array.getElem?_eq_some_iff.1 hbox).1
theorem Rd.keep {w w' : World} {g : Nat} {s : RS} (h : Rd w g s) (hk : ∀ k, k < w.heap.size → w'.heap[k]? = w.heap[k]?) : Rd w' g s := by
  have hl := h.lt
  obtain ⟨A, n, c, hbox, hs, hr⟩ := h
  refine ⟨A, n, c, (hk g hl).trans hbox, hs.keep fun _ b i _ hlt => World.cell?_of_block (hk b hlt), hr⟩
theorem Rd.byt {w : World} {g : Nat} {s : RS} (h : Rd w g s) : Byt s.R := by
  obtain ⟨A, n, c, hbox, hs, hne, hby, -⟩ := h
  exact hby

theorem rdec_at {g k : Nat} {s : RS} {w : World} {u : Int} (h : Rd w g s) (hk : k ≤ 255) (hr : s.room ≤ 100000000) (hu : u = (k : Int)) :
    Calls Try.prog 98 #[.int .i64 u, .func (.func 99) #[.pointer (some ⟨g, 0, none⟩)] #[]] w fun e w' => e = .returned (.int .i64 (deco k s).1) ∧ Rd w' g (deco k s).2 ∧ Only w w' g := by
  subst hu
  exact rdec_any g k s w h hk hr

set_option maxHeartbeats 1600000 in
set_option maxRecDepth 100000 in
theorem rrow_any (g a : Nat) (s : RS) (w : World) (h : Rd w g s) (ha : a ≤ 64) (hr : s.room ≤ 10000000) :
    Calls Try.prog 86 #[.pointer (some ⟨g, 0, none⟩), .int .i64 (a : Int)] w fun e w' =>
      ∃ g2, e = .returned (.slice (some ⟨g2, 0, none⟩) a a) ∧ w.heap.size ≤ g2 ∧ Bl w' g2 (rowR a s).1 ∧ Rd w' g (rowR a s).2 ∧ Only w w' g := by
  have hgl := h.lt
  have hx := h.byt.nth 0
  obtain ⟨k, hk⟩ : ∃ k : Nat, nth s.R 0 = (k : Int) := ⟨(nth s.R 0).toNat, by omega⟩
  have hcall := rbyte_any g s w h
  rw [hk] at hcall hx
  have hrow : Hid (rowR a s = numsR k a s.byte) := Lib.hid (by unfold rowR; rw [hk]; rfl)
  have hrm := Lib.hid (fun m => numsR_room (C := 10000000) (by omega) k m s.byte (Nat.le_trans (RS.room_byte s) hr))
  have hmk := run_make_i64 .i64 .i64 (a : Int) a rfl (by omega)
  have hbl := fun W : World => Bl.new W (List.replicate a 0)
  have hZl : Hid ((List.replicate a (0 : Int)).length = a) := Lib.hid (by simp)
  replace hbl := Lib.hid hbl
  generalize (List.replicate a (0 : Int)) = Z at hmk hbl hZl ⊢
  generalize hC : (cells Z).toArray = C at hmk hbl
  have hk255 : k ≤ 255 := by omega
  replace hcall := Lib.hid hcall
  replace hk := Lib.hid hk
  clear hC
  go_enter Try.func86, Try.ntmps86
  go_wp2_with (go_at_call 97; refine hcall.out.mono ?_; rintro e w2 ⟨rfl, hR2, hO2⟩; replace hR2 := Lib.hid hR2)
  have hsz2 := hO2.size
  have hbz := hbl.out w2
  have hR3 : Rd (w2.alloc (.cells C 3)) g s.byte := hR2.out.keep fun k hk => Below.heap_alloc w2 _ k hk
  replace hR3 := Lib.hid hR3
  go_loopw [15] (fun i wr => ∃ (m : Nat) (L : List Int), m ≤ a ∧ i = .int .i64 (m : Int) ∧ Hid (Rd wr g (numsR k m s.byte).2) ∧ Bl wr w2.heap.size L ∧ L.length = a ∧ Hid (∀ j, j < m → nth L j = nth (numsR k m s.byte).1 j) ∧ Only w wr g) (fun i _ => a - (intOf i).toNat)
  case atStart => exact ⟨0, Z, Nat.zero_le _, rfl, hR3, hbz, hZl.out, Lib.hid (fun j hj => absurd hj (Nat.not_lt_zero _)), hO2.alloc _⟩
  case round =>
    obtain ⟨m, L, hm, rfl, hR, hB, hLl, hag, hO⟩ := hrel
    by_cases hlt : m < a
    · have hrmm := hrm.out m
      have hcd := Lib.hid (fun (u : Int) hu => rdec_at (u := u) hR.out hk255 (by omega) hu)
      have hne : w2.heap.size ≠ g := by omega
      obtain ⟨v, hv⟩ : ∃ v, (deco k (numsR k m s.byte).2).1 = v := ⟨_, rfl⟩
      have hnew : Hid (numsR k (m + 1) s.byte = ((numsR k m s.byte).1 ++ [v], (deco k (numsR k m s.byte).2).2)) := Lib.hid (by rw [← hv]; rfl)
      have hln := Lib.hid (numsR_length k m s.byte)
      rw [hv] at hcd
      replace hv := Lib.hid hv
      clear hrmm
      go_wp2_with (go_at_call 98; refine (hcd.out _ rfl).mono ?_; rintro e w4 ⟨rfl, hR4, hO4⟩; replace hR4 := Lib.hid hR4; have hB4 := hB.only hO4 hne; have x1 := hB4.cell (i := m) (by omega); have x2 := hB4.frozen m)
      refine ⟨⟨m + 1, L.set m v, hlt, by go_num, ?_, hB4.set m v, by rw [List.length_set]; exact hLl, Lib.hid ?_, (hO.trans hO4).fresh (by show w.heap.size ≤ w2.heap.size; omega) _⟩, by simp [intOf]; omega⟩
      · refine Lib.hid ?_
        rw [hnew.out]
        have := hR4.out
        have hl4 := this.lt
        obtain ⟨A, n, c, hbox, hs, hr5, hr6⟩ := this
        refine ⟨A, n, c, ?_, ?_, hr5, hr6⟩
        · rw [Below.heap_setCell w4 ⟨w2.heap.size, m, none⟩ _ g (fun e => hne e.symm)]; exact hbox
        · exact hs.keep fun h0 b i ⟨off, e⟩ hlt => World.cell?_of_block (Below.heap_setCell w4 ⟨w2.heap.size, m, none⟩ _ b (by have := hr5 h0 b off e; show b ≠ w2.heap.size; omega))
      · intro j hj
        rw [hnew.out]
        by_cases e : j = m
        · rw [e, nth_set_self (by omega), nth_right (by rw [hln.out]; exact Nat.le_refl _), hln.out, Nat.sub_self]; rfl
        · rw [nth_set_ne (fun e' => e e'.symm), nth_left (by rw [hln.out]; omega)]
          exact hag.out j (by omega)
    · obtain rfl : m = a := by omega
      have hL : L = (rowR m s).1 := by
        rw [hrow.out]
        exact nth_ext (by rw [numsR_length]; exact hLl) (fun j hj => hag.out j (by omega))
      have hR5 : Rd wr g (rowR m s).2 := by rw [hrow.out]; exact hR.out
      subst hL
      replace hR5 := Lib.hid hR5
      go_wp2
      go_ret
      exact ⟨_, rfl, by omega, hB, hR5.out, hO⟩

/-- A number of so many bytes. -/
def orb (n x : Int) : Int := bits .or .i64 (wrap64 (n * 256)) x
def numB : Nat → RS → Int × RS
  | 0, s => (0, s)
  | m + 1, s => (orb (numB m s).1 (nth (numB m s).2.R 0), (numB m s).2.byte)

set_option maxHeartbeats 1600000 in
set_option maxRecDepth 100000 in
theorem rnum_any (g : Nat) (s : RS) (w : World) (h : Rd w g s) :
    Calls Try.prog 85 #[.pointer (some ⟨g, 0, none⟩)] w fun e w' => e = .returned (.int .i64 (numB 4 s).1) ∧ Rd w' g (numB 4 s).2 ∧ Only w w' g := by
  replace h := Lib.hid h
  go_enter Try.func85, Try.ntmps85
  go_wp2
  go_loopw [3, 4] (fun v i wr => ∃ (m : Nat) (x : Int) (t : RS), m ≤ 4 ∧ i = .int .i64 (m : Int) ∧ v = .int .i64 x ∧ Hid (numB m s = (x, t)) ∧ Hid (Rd wr g t) ∧ Only w wr g) (fun _ i _ => 4 - (intOf i).toNat)
  case atStart => exact ⟨0, 0, s, by omega, rfl, rfl, Lib.hid rfl, h, Only.refl _ _⟩
  case round =>
    obtain ⟨m, x, t, hm, rfl, rfl, hn, hR, hO⟩ := hrel
    by_cases hlt : m < 4
    · have hcall := rbyte_any g t wr hR.out
      have hby := hR.out.byt.nth 0
      obtain ⟨y, hy⟩ : ∃ y, nth t.R 0 = y := ⟨_, rfl⟩
      rw [hy] at hcall hby
      have hnew : Hid (numB (m + 1) s = (orb x y, t.byte)) := Lib.hid (by unfold numB; rw [hn.out, hy])
      replace hcall := Lib.hid hcall
      replace hy := Lib.hid hy
      go_wp2_with (go_at_call 97; refine hcall.out.mono ?_; rintro e w2 ⟨rfl, hR2, hO2⟩; replace hR2 := Lib.hid hR2)
      exact ⟨⟨m + 1, _, t.byte, hlt, by go_num, rfl, hnew, hR2, hO.trans hO2⟩, by simp [intOf]; omega⟩
    · obtain rfl : m = 4 := by omega
      go_wp2
      go_ret
      rw [hn.out]
      exact ⟨rfl, hR.out, hO⟩

end Go.Proofs.Ytfkoboljobghkaa
