/-
  Walk: read of package frame.
-/
import Derived.Test.YtfkoboljobghkaaFrMt
import Derived.Test.YtfkoboljobghkaaFrRr
import Derived.Test.YtfkoboljobghkaaFrRe
import Derived.Test.YtfkoboljobghkaaFrCh
set_option linter.unusedSimpArgs false
set_option linter.unusedVariables false
namespace Go.Proofs.Ytfkoboljobghkaa
open Go.RowKit Go.Shelf

/-- Rows of numbers. -/
def rowsR (a : Nat) : Nat → RS → List Int × RS
  | 0, s => ([], s)
  | m + 1, s => ((rowsR a m s).1 ++ (rowR a (rowsR a m s).2).1, (rowR a (rowsR a m s).2).2)
theorem rowR_length (a : Nat) (s : RS) : (rowR a s).1.length = a := numsR_length _ _ _
theorem rowsR_length (a : Nat) : ∀ m s, (rowsR a m s).1.length = m * a
  | 0, s => by simp [rowsR]
  | m + 1, s => by unfold rowsR; rw [List.length_append, rowsR_length a m s, rowR_length, Nat.succ_mul]
theorem rowR_room {C : Nat} (h7 : 7 ≤ C) (a : Nat) (s : RS) (h : s.room ≤ C) : (rowR a s).2.room ≤ C := numsR_room h7 _ _ _ (Nat.le_trans (RS.room_byte s) h)
theorem rowsR_room {C : Nat} (h7 : 7 ≤ C) (a : Nat) : ∀ m s, s.room ≤ C → (rowsR a m s).2.room ≤ C
  | 0, s, h => h
  | m + 1, s, h => rowR_room h7 a _ (rowsR_room h7 a m s h)
theorem numB_room {C : Nat} : ∀ m s, s.room ≤ C → (numB m s).2.room ≤ C
  | 0, s, h => h
  | m + 1, s, h => Nat.le_trans (RS.room_byte _) (numB_room m s h)

/-- A frame as it is read: entries, width, height, the greatest value, pixels. -/
structure FR where
  E : List Ent
  W : Int
  H : Int
  M : Int
  P : List Int
def rest3 (E : List Ent) (W H M : Int) (s : RS) : Option FR :=
  if hfm W H M = false then none
  else if restC W H M (rowsR W.toNat H.toNat s).1 ≠ 0 then none
  else some ⟨E, W, H, M, rest W.toNat M (rowsR W.toNat H.toNat s).1⟩
/-- What may be the frame of a file. -/
def readF (b : List Int) : Option FR :=
  if Lib.hasPrefix (Lib.bytesOf b) (Lib.bytesOf headB) = false then none
  else match metaR ((b.drop 7).length + 1) (b.drop 7) [] with
    | none => none
    | some (E, t) => rest3 E (numB 4 ⟨t, 0, 0⟩).1 (numB 4 (numB 4 ⟨t, 0, 0⟩).2).1 (numB 4 (numB 4 (numB 4 ⟨t, 0, 0⟩).2).2).1 (numB 4 (numB 4 (numB 4 ⟨t, 0, 0⟩).2).2).2

/-- What read returns. -/
def ReadP (w : World) (r : Option FR) (e : Ending) (w' : World) : Prop :=
  (match r with
   | none => ∃ v, e = .returned (.tuple #[v, .bool false])
   | some f => ∃ A n c g k, e = .returned (.tuple #[.agg #[.slice A n c, .int .i64 f.W, .int .i64 f.H, .int .i64 f.M, .slice (some ⟨g, 0, none⟩) k k], .bool true]) ∧ k = f.P.length ∧ w.heap.size ≤ g ∧ Bl w' g f.P ∧ w'.ownsRow w.heap.size 68 2 (.slice A n c) f.E.length (ecells f.E) ∧ n = f.E.length) ∧ Below w.heap.size w w'

theorem box5f {w : World} {g : Nat} {x0 x1 x2 x3 x4 : Value} {t : TypeId} (h : w.heap[g]? = some (.cells #[x0, x1, x2, x3, x4] t (0, 0))) :
    w.frozen? ⟨g, 0, none⟩ = false ∧ w.frozen? ⟨g, 1, none⟩ = false ∧ w.frozen? ⟨g, 2, none⟩ = false ∧ w.frozen? ⟨g, 3, none⟩ = false ∧ w.frozen? ⟨g, 4, none⟩ = false := by
  refine ⟨?_, ?_, ?_, ?_, ?_⟩
  all_goals exact frozen_of_row w g _ _ _ h
theorem cell5 {w : World} {g : Nat} {x0 x1 x2 x3 x4 : Value} {t : TypeId} (h : w.heap[g]? = some (.cells #[x0, x1, x2, x3, x4] t (0, 0))) :
    w.cell? ⟨g, 0, none⟩ = some x0 ∧ w.cell? ⟨g, 1, none⟩ = some x1 ∧ w.cell? ⟨g, 2, none⟩ = some x2 ∧ w.cell? ⟨g, 3, none⟩ = some x3 ∧ w.cell? ⟨g, 4, none⟩ = some x4 := by
  refine ⟨?_, ?_, ?_, ?_, ?_⟩
  all_goals rw [cell_of_row w g _ _ _ _ h]; rfl
theorem put5 {w : World} {g : Nat} {x0 x1 x2 x3 x4 : Value} {t : TypeId} (h : w.heap[g]? = some (.cells #[x0, x1, x2, x3, x4] t (0, 0))) (y0 y1 y2 y3 y4 : Value) :
    (((((w.setCell ⟨g, 0, none⟩ y0).setCell ⟨g, 1, none⟩ y1).setCell ⟨g, 2, none⟩ y2).setCell ⟨g, 3, none⟩ y3).setCell ⟨g, 4, none⟩ y4).heap[g]? = some (.cells #[y0, y1, y2, y3, y4] t (0, 0)) := by
  have e1 := heap_setCell_same w g 0 _ _ y0 h
  have e2 := heap_setCell_same _ g 1 _ _ y1 e1
  have e3 := heap_setCell_same _ g 2 _ _ y2 e2
  have e4 := heap_setCell_same _ g 3 _ _ y3 e3
  have e5 := heap_setCell_same _ g 4 _ _ y4 e4
  rw [e5]
  rfl

theorem metaR_suffix : ∀ f b E E' t, metaR f b E = some (E', t) → ∃ k, t = b.drop k
  | 0, b, E, E', t, h => by cases h
  | f + 1, b, E, E', t, h => by
    unfold metaR at h
    split at h
    · cases h
    split at h
    · cases h; exact ⟨1, rfl⟩
    split at h
    · cases h
    · obtain ⟨k, hk⟩ := metaR_suffix f _ _ _ _ h
      exact ⟨(cutI 10 b).toNat + 1 + k, by rw [hk, List.drop_drop]⟩

theorem Rd.below {w w' : World} {g : Nat} {s : RS} (h : Rd w g s) {B : Nat} (hb : Below B w w') (hg : g < B) : Rd w' g s := by
  obtain ⟨A, n, c, hbox, hs, hl, hr⟩ := h
  exact ⟨A, n, c, (hb.block g hg).trans hbox, hs.keep fun h0 b i ⟨off, e⟩ hlt => World.cell?_of_block (hb.block b (by have := hl h0 b off e; omega)), hl, hr⟩
theorem Rd.start {w : World} {A : Option Addr} {n c : Nat} {l : List Int} (hs : Sb w A n c l) (hb : Byt l) : Rd (w.alloc (.cells #[.slice A n c, .int .u8 0, .int .i64 0] 116)) w.heap.size ⟨l, 0, 0⟩ :=
  ⟨A, n, c, heap_alloc_new w _, hs.alloc _, fun h0 b off e => hs.old h0 b off e, hb, by simp, by simp⟩
theorem own_slice {w : World} {B : Nat} {e : TypeId} {k : Nat} {v : Value} {n : Nat} {xs : List Value} (h : w.ownsRow B e k v n xs) : ∃ A c, v = .slice A n c ∧ n ≤ c ∧ c ≤ 9223372036854775807 := by
  rcases h.2 with ⟨rfl, rfl⟩ | ⟨g, cap, cur, rfl, hB, hh, hnc, hcm, -⟩
  · exact ⟨none, 0, rfl, Nat.le_refl _, by omega⟩
  · exact ⟨_, cap, rfl, hnc, by simpa [maxLen] using hcm⟩

theorem own_sl_int {w : World} {B : Nat} {A : Option Addr} {n c : Nat} {P : List Int} (h : w.ownsRow B 3 1 (.slice A n c) n (cells P)) : Sl w A n c P := by
  have h1 := h.1
  rw [cells_length, Nat.mul_one] at h1
  rcases h.2 with ⟨h2, h0⟩ | ⟨g, cap, cur, h2, hB, hh, hnc, hcm, hcs, htake⟩
  · cases h2
    exact ⟨h1.symm, Nat.le_refl _, by omega, fun h => by omega⟩
  · cases h2
    refine ⟨h1.symm, hnc, by simpa [maxLen] using hcm, fun h0 => ?_⟩
    obtain ⟨g', cap', he, _, hbl, _⟩ := Bl.of_own h h0
    injection he with e1 e2 e3
    injection e1 with e1
    injection e1 with e1
    subst e1
    exact ⟨g, 0, rfl, fun i hi => by rw [Nat.zero_add]; exact hbl.cell (by omega)⟩

section
variable {w w' : World} {B : Nat} {e : TypeId} {k : Nat} {v : Value} {n : Nat} {xs : List Value}
theorem own_far (h : w.ownsRow B e k v n xs) {p : Addr} (hp : ∀ q, v.ownBlock = some q → q ≠ p.block) (u : Value) : (w.setCell p u).ownsRow B e k v n xs := by
  refine h.kept (row := some p.block) ⟨rfl, rfl, rfl, by simp [World.setCell], fun i _ hi => Below.heap_setCell w p u i (fun e => hi (by rw [e]))⟩ ?_
  cases hv : v.ownBlock with
  | none => exact .inl rfl
  | some q => exact .inr fun e => hp q hv (by injection e)
theorem own_bel (h : w.ownsRow B e k v n xs) (hb : Below w.heap.size w w') : w'.ownsRow B e k v n xs := by
  refine h.kept (row := none) ⟨hb.os, hb.tape, hb.output, hb.size, fun i hi _ => hb.block i hi⟩ ?_
  cases hv : v.ownBlock with
  | none => exact .inl rfl
  | some q => exact .inr (by simp)
theorem own_mono (h : w.ownsRow B e k v n xs) {B' : Nat} (hB : B' ≤ B) : w.ownsRow B' e k v n xs := by
  refine ⟨h.1, ?_⟩
  rcases h.2 with h' | ⟨g, cap, cur, h1, h2, h3⟩
  · exact .inl h'
  · exact .inr ⟨g, cap, cur, h1, by omega, h3⟩
end

theorem Sb.bytes {w : World} {A : Option Addr} {n c : Nat} {l : List Int} (h : Sb w A n c l) : Lib.BytesIn w A n l := fun hn => by
  obtain ⟨b, off, e, hc⟩ := h.2.2.2 hn
  exact ⟨b, off, e, hc⟩

set_option maxRecDepth 100000 in
set_option maxHeartbeats 6400000 in
theorem read_any (A : Option Addr) (n c : Nat) (l : List Int) (w : World) (h : Tl w w (.slice A n c) l) (hb : Byt l) (hn : n ≤ 1100000) :
    Calls Try.prog 65 #[.slice A n c] w (ReadP w (readF l)) := by
  have hc7 := Lib.run_convert_bytes_const (P := Try.prog) (w.alloc (.cells #[.slice none 0 0, .int .i64 0, .int .i64 0, .int .i64 0, .slice none 0 0] 27)) 53 5 #[.int .u8 70, .int .u8 82, .int .u8 65, .int .u8 77, .int .u8 69, .int .u8 49, .int .u8 10] 7 7 Try.underlying53 Try.underlying5
  simp only [List.size_toArray, List.length_cons, List.length_nil, Nat.reduceAdd, World.size_alloc] at hc7
  obtain ⟨_, _, _, e, hs, hA, hold⟩ := h
  cases e
  have hcap := hs.le_cap
  have hcl := hs.cap_le
  have hlen := hs.len
  have hb0 := (Below.refl w.heap.size w).alloc (Nat.le_refl _) (.cells #[.slice none 0 0, .int .i64 0, .int .i64 0, .int .i64 0, .slice none 0 0] 27)
  have hs1 := (hs.alloc (.cells #[.slice none 0 0, .int .i64 0, .int .i64 0, .int .i64 0, .slice none 0 0] 27)).alloc (.cells #[.int .u8 70, .int .u8 82, .int .u8 65, .int .u8 77, .int .u8 69, .int .u8 49, .int .u8 10] 5 (7, 8))
  have hlit : Lib.BytesIn ((w.alloc (.cells #[.slice none 0 0, .int .i64 0, .int .i64 0, .int .i64 0, .slice none 0 0] 27)).alloc (.cells #[.int .u8 70, .int .u8 82, .int .u8 65, .int .u8 77, .int .u8 69, .int .u8 49, .int .u8 10] 5 (7, 8))) (some ⟨w.heap.size + 1, 0, none⟩) 7 headB := fun _ => ⟨w.heap.size + 1, 0, rfl, fun i hi => by
    have hX := heap_alloc_new (w.alloc (.cells #[.slice none 0 0, .int .i64 0, .int .i64 0, .int .i64 0, .slice none 0 0] 27)) (.cells #[.int .u8 70, .int .u8 82, .int .u8 65, .int .u8 77, .int .u8 69, .int .u8 49, .int .u8 10] 5 (7, 8))
    rw [World.size_alloc] at hX
    rw [Nat.zero_add, cell_of_row _ _ i _ _ _ hX]
    have : i = 0 ∨ i = 1 ∨ i = 2 ∨ i = 3 ∨ i = 4 ∨ i = 5 ∨ i = 6 := by omega
    rcases this with rfl | rfl | rfl | rfl | rfl | rfl | rfl <;> rfl⟩
  have hcp := Try.bytes_CutPrefix_all A (some ⟨w.heap.size + 1, 0, none⟩) n c 7 7 l headB _ hlen.symm rfl hcap hs1.bytes hlit
  obtain ⟨res, hres⟩ : ∃ r, readF l = r := ⟨_, rfl⟩
  unfold readF at hres
  rw [show readF l = res from hres]
  obtain ⟨pb, hpb⟩ : ∃ x, Lib.hasPrefix (Lib.bytesOf l) (Lib.bytesOf headB) = x := ⟨_, rfl⟩
  rw [hpb] at hres hcp
  cases pb
  · rw [if_pos rfl] at hres
    subst hres
    replace hcp := Lib.hid hcp
    replace hlen := Lib.hid hlen
    generalize hV : Lib.trimPrefixV A n c l headB = V at hcp
    replace hV := Lib.hid hV
    go_enter Try.func65, Try.ntmps65
    go_wp2_with (go_at_call 83; refine hcp.out.mono ?_; rintro e w2 ⟨rfl, rfl⟩)
    refine bodyPost_ret (v := .tuple #[.agg #[.slice none 0 0, .int .i64 0, .int .i64 0, .int .i64 0, .slice none 0 0], .bool false]) (by simp [results, Try.results65, go_sem]) rfl ⟨⟨_, rfl⟩, ?_⟩
    repeat (first | refine Below.setCell ?_ (by simp <;> omega) _ | refine Below.alloc ?_ (by simp <;> omega) _ | exact Below.refl _ _)
  · rw [if_neg (by simp)] at hres
    have h7 : 7 ≤ n := by
      have h1 : (Lib.bytesOf headB).isPrefixOf (Lib.bytesOf l) = true := hpb
      have h2 := (List.isPrefixOf_iff_prefix.1 h1).length_le
      simp [Lib.bytesOf, headB] at h2
      omega
    obtain ⟨fb, foff, rfl, -, -⟩ := hs.at_ (by omega)
    have hV : Lib.trimPrefixV (some ⟨fb, foff, none⟩) n c l headB = Lib.sliceFrom fb foff n c 7 := by
      show Lib.bytesTrimPrefix fb foff n c l headB = _
      unfold Lib.bytesTrimPrefix
      rw [if_pos hpb]
      rfl
    rw [hV] at hcp
    have hTl := Tl.from (w0 := w) hs1 (fun e => by cases e) hold (by omega) h7
    have hfv : Lib.fromV (some ⟨fb, foff, none⟩) n c 7 = Lib.sliceFrom fb foff n c 7 := by
      unfold Lib.fromV Lib.sliceFrom
      simp [Addr.add]
    rw [hfv] at hTl
    unfold Lib.sliceFrom at hTl hcp
    obtain ⟨A2, hA2⟩ : ∃ A2, (if c = 7 then (some ⟨fb, foff, none⟩ : Option Addr) else some ⟨fb, foff + 7, none⟩) = A2 := ⟨_, rfl⟩
    rw [hA2] at hTl hcp
    obtain ⟨W1, hW1⟩ : ∃ W1, (w.alloc (.cells #[.slice none 0 0, .int .i64 0, .int .i64 0, .int .i64 0, .slice none 0 0] 27)).alloc (.cells #[.int .u8 70, .int .u8 82, .int .u8 65, .int .u8 77, .int .u8 69, .int .u8 49, .int .u8 10] 5 (7, 8)) = W1 := ⟨_, rfl⟩
    have hs11 : W1.heap.size = w.heap.size + 2 := by rw [← hW1]; simp
    have hB1 : Below w.heap.size w W1 := by rw [← hW1]; exact hb0.alloc (by simp) _
    have hfb1 : W1.heap[w.heap.size]? = some (.cells #[.slice none 0 0, .int .i64 0, .int .i64 0, .int .i64 0, .slice none 0 0] 27 (0, 0)) := by
      rw [← hW1, Below.heap_alloc _ _ w.heap.size (by simp)]; exact heap_alloc_new w _
    have hl7 : (l.drop 7).length = n - 7 := by rw [List.length_drop]; omega
    rw [hW1] at hcp hTl hc7
    have hmt := readMeta_any A2 (n - 7) (c - 7) (l.drop 7) W1 (by
      obtain ⟨A9, n9, c9, e9, h91, h92, h93⟩ := hTl
      exact ⟨A9, n9, c9, e9, h91, h92, fun h0 b off e => by have := h93 h0 b off e; omega⟩) (by omega)
    rw [← hl7] at hmt
    obtain ⟨mr, hmr⟩ : ∃ r, metaR ((l.drop 7).length + 1) (l.drop 7) [] = r := ⟨_, rfl⟩
    rw [hmr] at hmt hres
    rw [hl7] at hmt
    replace hcp := Lib.hid hcp
    replace hmt := Lib.hid hmt
    replace hlen := Lib.hid hlen
    cases mr with
    | none =>
      have hres : none = res := hres
      subst hres
      replace hmr := Lib.hid hmr
      go_enter Try.func65, Try.ntmps65
      go_wp2_with (first | (go_at_call 83; refine hcp.out.mono ?_; rintro e w2 ⟨rfl, rfl⟩) | (go_at_call 84; refine hmt.out.mono ?_; rintro e w3 ⟨⟨v1, v2, rfl⟩, hb3⟩; have hfb3 := (hb3.block w.heap.size (by omega)).trans hfb1; obtain ⟨x0, x1, x2, x3, x4⟩ := cell5 hfb3; obtain ⟨y0, y1, y2, y3, y4⟩ := box5f hfb3))
      have hq := put5 hfb3 (.slice none 0 0) (.int .i64 0) (.int .i64 0) (.int .i64 0) (.slice none 0 0)
      clear x0 x1 x2 x3 x4 y0 y1 y2 y3 y4
      obtain ⟨x0, x1, x2, x3, x4⟩ := cell5 hq
      refine bodyPost_ret (v := .tuple #[.agg #[.slice none 0 0, .int .i64 0, .int .i64 0, .int .i64 0, .slice none 0 0], .bool false]) (by simp [results, Try.results65, go_sem, x0, x1, x2, x3, x4]) rfl ⟨⟨_, rfl⟩, ?_⟩
      repeat (refine Below.setCell ?_ (by simp <;> omega) _)
      exact hB1.trans (hb3.mono (by omega))
    | some mr =>
      obtain ⟨E, tl⟩ := mr
      obtain ⟨x1, s1, hN1⟩ : ∃ x s, numB 4 ⟨tl, 0, 0⟩ = (x, s) := ⟨_, _, rfl⟩
      obtain ⟨x2, s2, hN2⟩ : ∃ x s, numB 4 s1 = (x, s) := ⟨_, _, rfl⟩
      obtain ⟨x3, s3, hN3⟩ : ∃ x s, numB 4 s2 = (x, s) := ⟨_, _, rfl⟩
      have hres : rest3 E x1 x2 x3 s3 = res := by
        have : rest3 E (numB 4 ⟨tl, 0, 0⟩).1 (numB 4 (numB 4 ⟨tl, 0, 0⟩).2).1 (numB 4 (numB 4 (numB 4 ⟨tl, 0, 0⟩).2).2).1 (numB 4 (numB 4 (numB 4 ⟨tl, 0, 0⟩).2).2).2 = res := hres
        rw [hN1, hN2, hN3] at this
        exact this
      obtain ⟨kd, hkd⟩ := metaR_suffix _ _ _ _ _ hmr
      have hbt : Byt tl := fun x hx => hb x (List.mem_of_mem_drop (List.mem_of_mem_drop (hkd ▸ hx)))
      have htl : tl.length ≤ 1100000 := by rw [hkd, List.length_drop, List.length_drop, ← hlen.out]; omega
      have hroom : Hid (s3.room ≤ 9000000) := Lib.hid (by
        have h0 : (⟨tl, 0, 0⟩ : RS).room ≤ 9000000 := by unfold RS.room; simp; omega
        have h1 := numB_room 4 _ h0
        rw [hN1] at h1
        have h2 := numB_room 4 _ h1
        rw [hN2] at h2
        have h3 := numB_room 4 _ h2
        rw [hN3] at h3
        exact h3)
      have hn1 := Lib.hid (fun g W (h : Rd W g ⟨tl, 0, 0⟩) => rnum_any g _ W h)
      have hn2 := Lib.hid (fun g W (h : Rd W g s1) => rnum_any g _ W h)
      have hn3 := Lib.hid (fun g W (h : Rd W g s2) => rnum_any g _ W h)
      rw [hN1] at hn1
      rw [hN2] at hn2
      rw [hN3] at hn3
      have tok1 : True := trivial
      have tok2 : True := trivial
      replace hmr := Lib.hid hmr
      replace hbt := Lib.hid hbt
      unfold rest3 at hres
      by_cases hf : hfm x1 x2 x3 = false
      · rw [if_pos hf] at hres
        subst hres
        have hcon := Lib.hid (fun W' => New_no x1 x2 x3 W' hf)
        replace hf := Lib.hid hf
        clear hN1 hN2 hN3 hkd
        go_enter Try.func65, Try.ntmps65
        go_wp2_with (first | (go_at_call 83; refine hcp.out.mono ?_; rintro e w2 ⟨rfl, rfl⟩) | (go_at_call 84; refine hmt.out.mono ?_; rintro e w3 ⟨⟨v1, v2, rfl, hown3, A4, n4, c4, rfl, hs4, hA4, ho4⟩, hb3⟩; have hsz3 := hb3.size; have hfb3 := (hb3.block w.heap.size (by omega)).trans hfb1; have hRd := Lib.hid (Rd.start hs4 hbt.out); replace hown3 := Lib.hid hown3; replace hs4 := Lib.hid hs4) | (go_at_call 85; have _t := tok1; clear tok1 _t; refine (hn1.out _ _ hRd.out).mono ?_; rintro e w5 ⟨rfl, hR5, hO5⟩; replace hR5 := Lib.hid hR5) | (go_at_call 85; have _t := tok2; clear tok2 _t; refine (hn2.out _ _ hR5.out).mono ?_; rintro e w6 ⟨rfl, hR6, hO6⟩; replace hR6 := Lib.hid hR6) | (go_at_call 85; refine (hn3.out _ _ hR6.out).mono ?_; rintro e w7 ⟨rfl, hR7, hO7⟩; replace hR7 := Lib.hid hR7; have hO := (hO5.trans hO6).trans hO7; have hsz7 := hO.size; simp only [World.size_alloc] at hsz7; have hfb7 := (hO.block w.heap.size (by simp; omega) (fun e => by injection e; omega)).trans ((Below.heap_alloc w3 _ w.heap.size (by omega)).trans hfb3)) | (go_at_call 51; refine (hcon.out _).mono ?_; rintro e w8 ⟨rfl, hb8⟩; have hsz8 := hb8.size; have hfb8 := (hb8.block w.heap.size (by omega)).trans hfb7; have hlt8 : w.heap.size < w8.heap.size := (by omega); obtain ⟨z0, z1, z2, z3, z4⟩ := cell5 hfb8; obtain ⟨y0, y1, y2, y3, y4⟩ := box5f hfb8))
        have hq := put5 hfb8 (.slice none 0 0) (.int .i64 0) (.int .i64 0) (.int .i64 0) (.slice none 0 0)
        have hq2 := (Below.heap_alloc _ (.cells #[.int .i64 0, .int .i64 0, .int .i64 0, .slice none 0 0] 25) w.heap.size (by simp [World.setCell]; omega)).trans hq
        clear z0 z1 z2 z3 z4 y0 y1 y2 y3 y4
        obtain ⟨z0, z1, z2, z3, z4⟩ := cell5 hq2
        refine bodyPost_ret (v := .tuple #[.agg #[.slice none 0 0, .int .i64 0, .int .i64 0, .int .i64 0, .slice none 0 0], .bool false]) (by simp [results, Try.results65, go_sem, z0, z1, z2, z3, z4]) rfl ⟨⟨_, rfl⟩, ?_⟩
        have hB3 : Below w.heap.size w w3 := hB1.trans (hb3.mono (by omega))
        have hB7 : Below w.heap.size w w7 := (hB3.alloc (by omega) (.cells #[.slice A4 n4 c4, .int .u8 0, .int .i64 0] 116)).trans (hO.below (by omega) (by simp; omega))
        refine Below.alloc ?_ (by simp [World.setCell]; omega) _
        repeat (refine Below.setCell ?_ (by simp <;> omega) _)
        exact hB7.trans (hb8.mono (by omega))
      · rw [if_neg hf] at hres
        have hf : hfm x1 x2 x3 = true := by simpa using hf
        have hr3 := hfm_iff.1 hf
        obtain ⟨a, rfl⟩ : ∃ a : Nat, x1 = (a : Int) := ⟨x1.toNat, by omega⟩
        obtain ⟨b, rfl⟩ : ∃ b : Nat, x2 = (b : Int) := ⟨x2.toNat, by omega⟩
        rw [Int.toNat_natCast, Int.toNat_natCast] at hres
        have hcon := Lib.hid (fun W' => New_own a b x3 W' hf)
        have ha64 : a ≤ 64 := by omega
        have hb64 : b ≤ 64 := by omega
        obtain ⟨i0, hi, hz0, hz1, hz2⟩ := info_parts infoI
        have hrm := Lib.hid (fun j => rowsR_room (C := 9000000) (by omega) a j s3 hroom.out)
        replace hf := Lib.hid hf
        replace hres := Lib.hid hres
        clear hN1 hN2 hN3 hkd
        go_enter Try.func65, Try.ntmps65
        go_wp2_with (first | (go_at_call 83; refine hcp.out.mono ?_; rintro e w2 ⟨rfl, rfl⟩) | (go_at_call 84; refine hmt.out.mono ?_; rintro e w3 ⟨⟨v1, v2, rfl, hown3, A4, n4, c4, rfl, hs4, hA4, ho4⟩, hb3⟩; have hsz3 := hb3.size; have hfb3 := (hb3.block w.heap.size (by omega)).trans hfb1; have hRd := Lib.hid (Rd.start hs4 hbt.out); replace hown3 := Lib.hid hown3; replace hs4 := Lib.hid hs4) | (go_at_call 85; have _t := tok1; clear tok1 _t; refine (hn1.out _ _ hRd.out).mono ?_; rintro e w5 ⟨rfl, hR5, hO5⟩; replace hR5 := Lib.hid hR5) | (go_at_call 85; have _t := tok2; clear tok2 _t; refine (hn2.out _ _ hR5.out).mono ?_; rintro e w6 ⟨rfl, hR6, hO6⟩; replace hR6 := Lib.hid hR6) | (go_at_call 85; refine (hn3.out _ _ hR6.out).mono ?_; rintro e w7 ⟨rfl, hR7, hO7⟩; replace hR7 := Lib.hid hR7; have hO := (hO5.trans hO6).trans hO7; have hsz7 := hO.size; simp only [World.size_alloc] at hsz7; have hfb7 := (hO.block w.heap.size (by simp; omega) (fun e => by injection e; omega)).trans ((Below.heap_alloc w3 _ w.heap.size (by omega)).trans hfb3)) | (go_at_call 51; refine (hcon.out _).mono ?_; rintro e w8 ⟨rg, rfl, hrg, hrb, hb8⟩; have hsz8 := hb8.size; have hfb8 := (hb8.block w.heap.size (by omega)).trans hfb7; have hR8 := hR7.out.below hb8 (by omega); replace hR8 := Lib.hid hR8))
        have hB3 : Below w.heap.size w w3 := hB1.trans (hb3.mono (by omega))
        have hB7 : Below w.heap.size w w7 := (hB3.alloc (by omega) (.cells #[.slice A4 n4 c4, .int .u8 0, .int .i64 0] 116)).trans (hO.below (by omega) (by simp; omega))
        have hB8 : Below w.heap.size w w8 := hB7.trans (hb8.mono (by omega))
        have hown8 : w8.ownsRow w2.heap.size 68 2 v1 E.length (ecells E) := by
          have h3l := World.ownsRow.lt hown3.out
          have e4 := World.ownsRow.alloc hown3.out (.cells #[.slice A4 n4 c4, .int .u8 0, .int .i64 0] 116)
          refine (e4.kept hO (.inr fun e => by have := (h3l _ e).2; omega)).kept (row := none) ⟨hb8.os, hb8.tape, hb8.output, hb8.size, fun k hk _ => hb8.block k hk⟩ ?_
          cases v1.ownBlock <;> simp
        obtain ⟨w9, hw9⟩ : ∃ w9, w8.alloc (.cells #[.int .i64 (a : Int), .int .i64 (b : Int), .int .i64 x3, .slice (some ⟨rg, 0, none⟩) (a * b) (a * b)] 25) = w9 := ⟨_, rfl⟩
        have hs9 : w9.heap.size = w8.heap.size + 1 := by rw [← hw9]; simp
        have hB9 : Below w.heap.size w w9 := by rw [← hw9]; exact hB8.alloc (by omega) _
        have hfb9 : w9.heap[w.heap.size]? = some (.cells #[.slice none 0 0, .int .i64 0, .int .i64 0, .int .i64 0, .slice none 0 0] 27 (0, 0)) := by
          rw [← hw9, Below.heap_alloc _ _ w.heap.size (by omega)]; exact hfb8
        have hR9 : Rd w9 w3.heap.size s3 := by rw [← hw9]; exact hR8.out.keep fun k hk => Below.heap_alloc w8 _ k hk
        have hown9 : w9.ownsRow w2.heap.size 68 2 v1 E.length (ecells E) := by rw [← hw9]; exact World.ownsRow.alloc hown8 _
        have hv1l := World.ownsRow.lt hown3.out
        rw [hw9]
        replace hown9 := Lib.hid hown9
        replace hR9 := Lib.hid hR9
        clear hown8
        go_loopw [13, 51] (fun v i wr => ∃ (j : Nat), j ≤ b ∧ i = .int .i64 (j : Int) ∧ wr.ownsRow w9.heap.size 3 1 v (j * a) (cells (rowsR a j s3).1) ∧ Hid (Rd wr w3.heap.size (rowsR a j s3).2) ∧ Only w9 wr w3.heap.size) (fun _ i _ => b - (intOf i).toNat)
        case atStart => exact ⟨0, Nat.zero_le _, rfl, by rw [Nat.zero_mul]; exact World.ownsRow_nil w9 _ _ _, Lib.hid hR9.out, Only.refl _ _⟩
        case round =>
          obtain ⟨j, hj, rfl, hown, hR, hOr⟩ := hrel
          have hszr := hOr.size
          by_cases hlt : j < b
          · have hcall := rrow_any w3.heap.size a (rowsR a j s3).2 wr hR.out ha64 (by have := hrm.out j; omega)
            have hll := rowR_length a (rowsR a j s3).2
            have hnext : Hid (rowsR a (j + 1) s3 = ((rowsR a j s3).1 ++ (rowR a (rowsR a j s3).2).1, (rowR a (rowsR a j s3).2).2)) := Lib.hid rfl
            obtain ⟨L, hL⟩ : ∃ L, (rowR a (rowsR a j s3).2).1 = L := ⟨_, rfl⟩
            rw [hL] at hcall hll
            have hL' := Lib.hid hL
            have hjb : j * a ≤ 4096 := by
              have : j * a ≤ 64 * 64 := Nat.mul_le_mul (by omega) ha64
              omega
            have hwl := World.ownsRow.lt hown
            replace hcall := Lib.hid hcall
            replace hll := Lib.hid hll
            clear hL
            go_wp2_with (first | (go_at_call 86; refine hcall.out.mono ?_; rintro e w10 ⟨g2, rfl, hg2, hbl2, hR10, hO10⟩; replace hR10 := Lib.hid hR10; have hown10 := hown.kept hO10 (.inr fun e => (by have := (hwl _ e).1; omega))) | (at_builtin; refine wpList_append_own _ rfl _ _ 23 rfl w9.heap.size 3 i0 (.int .i64 0) 1 8 Try.underlying23 hi hz0 hz1 hz2 rfl (by decide) _ _ _ rfl hown10 ⟨g2, 0, none⟩ a a (cells L) rfl ?qc1 ?qc2 ?qc3 ?qc4 ?qc5 ?qc6 ?_))
            case qc1 => rw [cells_length, hll.out, Nat.mul_one]
            case qc2 =>
              intro q u hq
              have hqn : q < L.length := by
                have := (List.getElem?_eq_some_iff.1 hq).1
                rwa [cells_length] at this
              rw [cells_at hqn] at hq
              cases hq
              rw [Addr.add_lit, Nat.zero_add]
              exact hbl2.cell hqn
            case qc3 => exact cells_one
            case qc4 => unfold maxLen; omega
            case qc5 => omega
            case qc6 => have := hO10.size; omega
            intro v' w11 hown11 hgr11 hnil11
            have hOx : Only w9 w10 w3.heap.size := hOr.trans hO10
            have hB11 : Below w9.heap.size w10 w11 := (Below.refl _ w10).grown hgr11 (by have := hOx.size; omega) (fun k hk => (World.ownsRow.lt hown10 k hk).1)
            have hR11 : Rd w11 w3.heap.size (rowR a (rowsR a j s3).2).2 := hR10.out.below hB11 (by omega)
            have hO11 : Only w9 w11 w3.heap.size := ⟨hB11.os.trans hOx.os, hB11.tape.trans hOx.tape, hB11.output.trans hOx.output, Nat.le_trans hOx.size hB11.size, fun k hk hne => (hB11.block k hk).trans (hOx.block k hk hne)⟩
            go_wp2
            refine ⟨⟨j + 1, hlt, by go_num, ?_, Lib.hid ?_, hO11⟩, by simp [intOf]; omega⟩
            · rw [hnext.out, hL'.out, cells_append, Nat.succ_mul, hs9]
              exact hown11
            · rw [hnext.out]; exact hR11
          · obtain rfl : j = b := by omega
            obtain ⟨Ar, cr, rfl, hrc1, hrc2⟩ := own_slice hown
            obtain ⟨Am, cm, rfl, hmc1, hmc2⟩ := own_slice hown9.out
            have hsl := own_sl_int hown
            obtain ⟨L, hL⟩ : ∃ L, (rowsR a j s3).1 = L := ⟨_, rfl⟩
            rw [hL] at hsl hown
            have hfbr : wr.heap[w.heap.size]? = some (.cells #[.slice none 0 0, .int .i64 0, .int .i64 0, .int .i64 0, .slice none 0 0] 27 (0, 0)) := (hOr.block w.heap.size (by omega) (fun e => by injection e; omega)).trans hfb9
            have hBr : Below w.heap.size w wr := hB9.trans (hOr.below (by omega) (by omega))
            have hres' := hres.out
            rw [hL] at hres'
            by_cases hz : restC (a : Int) (j : Int) x3 L = 0
            · have hcr := Lib.hid (Restore_yes a j x3 Ar (j * a) cr L wr hsl hz)
              rw [if_neg (by simp [hz])] at hres'
              subst hres'
              have hll := hsl.len
              have hrl := rest_length a x3 (j * a) L hll.symm
              replace hz := Lib.hid hz
              replace hll := Lib.hid hll
              replace hrl := Lib.hid hrl
              replace hL := Lib.hid hL
              go_wp2_with (go_at_call 18; refine hcr.out.mono ?_; rintro e w12 ⟨g12, rfl, hg12, hbl12, hb12⟩; have hsz12 := hb12.size; have hfb12 := (hb12.block w.heap.size (by omega)).trans hfbr; have hlt12 : w.heap.size < w12.heap.size := (by omega); obtain ⟨z0, z1, z2, z3, z4⟩ := cell5 hfb12; obtain ⟨y0, y1, y2, y3, y4⟩ := box5f hfb12)
              have hq := put5 hfb12 (.slice Am E.length cm) (.int .i64 (a : Int)) (.int .i64 (j : Int)) (.int .i64 x3) (.slice (some ⟨g12, 0, none⟩) (j * a) (j * a))
              have hq2 := (Below.heap_alloc _ (.cells #[.int .i64 (a : Int), .int .i64 (j : Int), .int .i64 x3, .slice (some ⟨g12, 0, none⟩) (j * a) (j * a)] 25) w.heap.size (by simp [World.setCell]; omega)).trans hq
              clear z0 z1 z2 z3 z4 y0 y1 y2 y3 y4
              obtain ⟨z0, z1, z2, z3, z4⟩ := cell5 hq2
              refine bodyPost_ret (v := .tuple #[.agg #[.slice Am E.length cm, .int .i64 (a : Int), .int .i64 (j : Int), .int .i64 x3, .slice (some ⟨g12, 0, none⟩) (j * a) (j * a)], .bool true]) (by simp [results, Try.results65, go_sem, z0, z1, z2, z3, z4]) rfl ?_
              have hvl := fun q hq => hv1l q hq
              have o1 := hown9.out.kept hOr (.inr fun e => by have := (hvl _ e).2; omega)
              have o2 := own_bel o1 hb12
              have hne5 : ∀ q, (Value.slice Am E.length cm).ownBlock = some q → q ≠ w.heap.size := fun q hq => by have := (hvl q hq).1; omega
              have o3 := own_far (p := ⟨w.heap.size, 4, none⟩) (own_far (p := ⟨w.heap.size, 3, none⟩) (own_far (p := ⟨w.heap.size, 2, none⟩) (own_far (p := ⟨w.heap.size, 1, none⟩) (own_far (p := ⟨w.heap.size, 0, none⟩) o2 hne5 (.slice Am E.length cm)) hne5 (.int .i64 (a : Int))) hne5 (.int .i64 (j : Int))) hne5 (.int .i64 x3)) hne5 (.slice (some ⟨g12, 0, none⟩) (j * a) (j * a))
              refine ⟨⟨Am, E.length, cm, g12, j * a, rfl, hrl.out.symm, by omega, ?_, own_mono (World.ownsRow.alloc o3 _) (by omega), rfl⟩, ?_⟩
              · refine Bl.alloc ?_ _
                repeat (refine Bl.far ?_ (by show g12 ≠ w.heap.size; omega) _)
                rw [← hL.out] at hbl12
                exact hL.out ▸ hbl12
              · refine Below.alloc ?_ (by simp [World.setCell]; omega) _
                repeat (refine Below.setCell ?_ (by simp <;> omega) _)
                exact hBr.trans (hb12.mono (by omega))
            · have hcr := Lib.hid (Restore_no (a : Int) (j : Int) x3 Ar (j * a) cr L wr hsl rfl hz)
              rw [if_pos hz] at hres'
              subst hres'
              obtain ⟨rc, hrc⟩ : ∃ rc, restC (a : Int) (j : Int) x3 L = rc := ⟨_, rfl⟩
              rw [hrc] at hcr hz
              have hrc0 : (rc == 0) = false := by rw [beq_eq_false_iff_ne]; exact hz
              replace hz := Lib.hid hz
              replace hrc := Lib.hid hrc
              replace hL := Lib.hid hL
              go_wp2_with (go_at_call 18; refine hcr.out.mono ?_; rintro e w12 ⟨rfl, hb12⟩; have hsz12 := hb12.size; have hfb12 := (hb12.block w.heap.size (by omega)).trans hfbr; have hlt12 : w.heap.size < w12.heap.size := (by omega); obtain ⟨z0, z1, z2, z3, z4⟩ := cell5 hfb12; obtain ⟨y0, y1, y2, y3, y4⟩ := box5f hfb12)
              have hq := put5 hfb12 (.slice Am E.length cm) (.int .i64 0) (.int .i64 0) (.int .i64 0) (.slice none 0 0)
              have hq2 := (Below.heap_alloc _ (.cells #[.int .i64 0, .int .i64 0, .int .i64 0, .slice none 0 0] 25) w.heap.size (by simp [World.setCell]; omega)).trans hq
              clear z0 z1 z2 z3 z4 y0 y1 y2 y3 y4
              obtain ⟨z0, z1, z2, z3, z4⟩ := cell5 hq2
              refine bodyPost_ret (v := .tuple #[.agg #[.slice Am E.length cm, .int .i64 0, .int .i64 0, .int .i64 0, .slice none 0 0], .bool false]) (by simp [results, Try.results65, go_sem, z0, z1, z2, z3, z4]) rfl ?_
              refine ⟨⟨_, rfl⟩, ?_⟩
              refine Below.alloc ?_ (by simp [World.setCell]; omega) _
              repeat (refine Below.setCell ?_ (by simp <;> omega) _)
              exact hBr.trans (hb12.mono (by omega))

end Go.Proofs.Ytfkoboljobghkaa
