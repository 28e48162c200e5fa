/-
  Walk: Decode of package frame where it refuses.
-/
import Derived.Test.YtcnlghkdhpgnmaaFrRn
import Derived.Test.YtcnlghkdhpgnmaaFrDc
import Derived.Test.YtcnlghkdhpgnmaaFrMa
set_option linter.unusedSimpArgs false
set_option linter.unusedVariables false
namespace Go.Proofs.Ytcnlghkdhpgnmaa
open Go.RowKit Go.Shelf

set_option maxRecDepth 100000 in
set_option maxHeartbeats 6400000 in
theorem Decode_none (A : Option Addr) (n c : Nat) (l : List Int) (w : World) (h : Tl w w (.slice A n c) l) (hb : Byt l) (hn : n ≤ 1048576) (hf : readF l = none) :
    Calls Try.prog 34 #[.slice A n c] w (NoF 8 w) := by
  have hb0 := (Below.refl w.heap.size w).alloc (Nat.le_refl _) (.cells #[.slice none 0 0, .int .i64 0, .int .i64 0, .int .i64 0, .slice none 0 0] 27)
  have hT := h.grow hb0
  have hTw : Tl (w.alloc (.cells #[.slice none 0 0, .int .i64 0, .int .i64 0, .int .i64 0, .slice none 0 0] 27)) (w.alloc (.cells #[.slice none 0 0, .int .i64 0, .int .i64 0, .int .i64 0, .slice none 0 0] 27)) (.slice A n c) l := by
    obtain ⟨A9, n9, c9, e9, h91, h92, h93⟩ := hT
    exact ⟨A9, n9, c9, e9, h91, h92, fun h0 b off e => by have := h93 h0 b off e; simp; omega⟩
  have hrd := read_any2 A n c l _ hTw hb (by omega)
  rw [hf] at hrd
  have hsl : Sb w A n c l := by
    obtain ⟨A9, n9, c9, e9, h91, h92, h93⟩ := h
    cases e9; exact h91
  have hcap := hsl.le_cap
  have hcl := hsl.cap_le
  have hlen := Lib.hid hsl.len
  have hfb0 := heap_alloc_new w (.cells #[.slice none 0 0, .int .i64 0, .int .i64 0, .int .i64 0, .slice none 0 0] 27)
  replace hrd := Lib.hid hrd
  replace hf := Lib.hid hf
  go_enter Try.func34, Try.ntmps34
  go_wp2_with (go_at_call 65; refine hrd.out.mono ?_; rintro e w2 ⟨⟨A2, n2, c2, rfl⟩, hb2⟩; have hsz2 := hb2.size; simp only [World.size_alloc] at hsz2 hb2; have hfb2 := (Below.heap_alloc w2 (.cells #[.slice A2 n2 c2, .int .i64 0, .int .i64 0, .int .i64 0, .slice none 0 0] 27) w.heap.size (by omega)).trans ((hb2.block w.heap.size (by omega)).trans hfb0); obtain ⟨z0, z1, z2, z3, z4⟩ := cell5 hfb2; obtain ⟨y0, y1, y2, y3, y4⟩ := box5f hfb2)
  have hq := put5 hfb2 (.slice none 0 0) (.int .i64 0) (.int .i64 0) (.int .i64 0) (.slice none 0 0)
  clear z0 z1 z2 z3 z4 y0 y1 y2 y3 y4
  obtain ⟨z0, z1, z2, z3, z4⟩ := cell5 hq
  refine bodyPost_ret (v := .tuple #[.agg #[.slice none 0 0, .int .i64 0, .int .i64 0, .int .i64 0, .slice none 0 0], .int .i64 8]) (by simp [results, Try.results34, go_sem, z0, z1, z2, z3, z4]) rfl ⟨rfl, ?_⟩
  repeat (refine Below.setCell ?_ (by simp <;> omega) _)
  exact (hb0.trans (hb2.mono (by omega))).alloc (by omega) _

theorem hfm_len {a b : Nat} {M : Int} (hf : hfm a b M = true) {l : List Int} (h : restC a b M l = 0) : l.length ≤ 4096 := by
  have hr := hfm_iff.1 hf
  obtain ⟨a1, a2⟩ := area hr.1.1 hr.1.2 hr.2.1.1 hr.2.1.2
  unfold restC at h
  rw [if_neg (by rw [hf]; simp)] at h
  by_cases hl : (l.length : Int) ≠ (a : Int) * (b : Int)
  · rw [if_pos hl] at h; cases h
  · have : (l.length : Int) = (a : Int) * (b : Int) := Classical.not_not.1 hl
    omega
theorem bt_of {b : Bool} (h : ¬ b = false) : b = true := by cases b <;> simp_all
/-- What is read is a raster. -/
theorem readF_ras {b : List Int} {f : FR} (h : readF b = some f) : Ras f.W f.H f.M f.P := by
  unfold readF at h
  split at h
  · cases h
  · split at h
    · cases h
    · rename_i E t hm
      unfold rest3 at h
      split at h
      · cases h
      rename_i hf
      split at h
      · cases h
      rename_i hz
      cases h
      have hf := bt_of hf
      have hr := hfm_iff.1 hf
      generalize (numB 4 ⟨t, 0, 0⟩).1 = x1 at *
      generalize (numB 4 (numB 4 ⟨t, 0, 0⟩).2).1 = x2 at *
      generalize (numB 4 (numB 4 (numB 4 ⟨t, 0, 0⟩).2).2).1 = x3 at *
      generalize (rowsR x1.toNat x2.toNat (numB 4 (numB 4 (numB 4 ⟨t, 0, 0⟩).2).2).2).1 = L at *
      obtain ⟨a, rfl⟩ : ∃ a : Nat, x1 = (a : Int) := ⟨x1.toNat, by omega⟩
      obtain ⟨b, rfl⟩ : ∃ b : Nat, x2 = (b : Int) := ⟨x2.toNat, by omega⟩
      have hz : restC a b x3 L = 0 := Classical.not_not.1 hz
      simp only [Int.toNat_natCast]
      unfold restC at hz
      rw [if_neg (by rw [hf]; simp)] at hz
      by_cases hl : (L.length : Int) ≠ (a : Int) * (b : Int)
      · rw [if_pos hl] at hz; cases hz
      · exact ⟨hr, by rw [rest_length a x3 _ L rfl]; exact Classical.not_not.1 hl, rest_range (by omega) (by omega)⟩

set_option maxRecDepth 100000 in
set_option maxHeartbeats 6400000 in
theorem Decode_bad (A : Option Addr) (n c : Nat) (l : List Int) (w : World) (h : Tl w w (.slice A n c) l) (hb : Byt l) (hn : n ≤ 1048576) (E : List Ent) (fW fH M : Int) (P : List Int) (hf : readF l = some ⟨E, fW, fH, M, P⟩) {r : Int} (hrc : RasC fW fH M P E r) (hr0 : r ≠ 0) :
    Calls Try.prog 34 #[.slice A n c] w (NoF 8 w) := by
  have hb0 := (Below.refl w.heap.size w).alloc (Nat.le_refl _) (.cells #[.slice none 0 0, .int .i64 0, .int .i64 0, .int .i64 0, .slice none 0 0] 27)
  have hT := h.grow hb0
  have hTw : Tl (w.alloc (.cells #[.slice none 0 0, .int .i64 0, .int .i64 0, .int .i64 0, .slice none 0 0] 27)) (w.alloc (.cells #[.slice none 0 0, .int .i64 0, .int .i64 0, .int .i64 0, .slice none 0 0] 27)) (.slice A n c) l := by
    obtain ⟨A9, n9, c9, e9, h91, h92, h93⟩ := hT
    exact ⟨A9, n9, c9, e9, h91, h92, fun h0 b off e => by have := h93 h0 b off e; simp; omega⟩
  have hrd := read_any2 A n c l _ hTw hb (by omega)
  rw [hf] at hrd
  have hsl : Sb w A n c l := by
    obtain ⟨A9, n9, c9, e9, h91, h92, h93⟩ := h
    cases e9; exact h91
  have hcap := hsl.le_cap
  have hcl := hsl.cap_le
  have hlen := Lib.hid hsl.len
  have hfb0 := heap_alloc_new w (.cells #[.slice none 0 0, .int .i64 0, .int .i64 0, .int .i64 0, .slice none 0 0] 27)
  replace hrd := Lib.hid hrd
  have hszs := Lib.hid (readF_sizes hf)
  have hPl : Hid (P.length ≤ 4096) := Lib.hid (readF_ras hf).pos.2
  replace hf := Lib.hid hf
  have hrn : (r != 0) = true := by rw [bne_iff_ne]; exact hr0
  replace hrc := Lib.hid hrc
  replace hr0 := Lib.hid hr0
  go_enter Try.func34, Try.ntmps34
  go_wp2_with (first | (go_at_call 65; refine hrd.out.mono ?_; rintro e w2 ⟨⟨A2, n2, c2, g, k, rfl, hk, hgl, hbl, hown, hn2⟩, hb2⟩; have hsz2 := hb2.size; dsimp only at hk hbl hown hn2; simp only [World.size_alloc] at hsz2 hb2 hgl hown; have hfb2 := (hb2.block w.heap.size (by omega)).trans hfb0; have hkb : k ≤ 4096 := (by rw [hk]; exact hPl.out); have hsl2 := hbl.sl0 (n := k) (c := k) hk (Nat.le_refl _) (by omega); have hen2 := En.of_own hown hn2 (fun e he => by have := hszs.out e he; have := hlen.out; omega); replace hn2 := Lib.hid hn2; replace hk2 := Lib.hid hk; clear hk) | (go_at_call 31; refine (Encode_no A2 n2 c2 E fW fH M (some ⟨g, 0, none⟩) k k P _ (hen2.alloc _) (hsl2.alloc _) hrc.out hr0.out).mono ?_; rintro e w4 ⟨rfl, hb4⟩; have hsz4 := hb4.size; simp only [World.size_alloc] at hsz4 hb4; have hB2 := hb0.trans (hb2.mono (by omega)); have hB4 := (hB2.alloc (by omega) (.cells #[.slice A2 n2 c2, .int .i64 fW, .int .i64 fH, .int .i64 M, .slice (some ⟨g, 0, none⟩) k k] 27)).trans (hb4.mono (by omega)); have hfb4 := (hb4.block w.heap.size (by omega)).trans ((Below.heap_alloc w2 _ w.heap.size (by omega)).trans hfb2); obtain ⟨z0, z1, z2, z3, z4⟩ := cell5 hfb4; obtain ⟨y0, y1, y2, y3, y4⟩ := box5f hfb4))
  have hq := put5 hfb4 (.slice none 0 0) (.int .i64 0) (.int .i64 0) (.int .i64 0) (.slice none 0 0)
  clear z0 z1 z2 z3 z4 y0 y1 y2 y3 y4
  obtain ⟨z0, z1, z2, z3, z4⟩ := cell5 hq
  refine bodyPost_ret (v := .tuple #[.agg #[.slice none 0 0, .int .i64 0, .int .i64 0, .int .i64 0, .slice none 0 0], .int .i64 8]) (by simp [results, Try.results34, go_sem, z0, z1, z2, z3, z4]) rfl ⟨rfl, ?_⟩
  repeat (refine Below.setCell ?_ (by simp <;> omega) _)
  exact hB4

set_option maxRecDepth 100000 in
set_option maxHeartbeats 6400000 in
theorem Decode_other (A : Option Addr) (n c : Nat) (l : List Int) (w : World) (h : Tl w w (.slice A n c) l) (hb : Byt l) (hn : n ≤ 1048576) (E : List Ent) (fW fH : Nat) (M : Int) (P : List Int) (hf : readF l = some ⟨E, fW, fH, M, P⟩) (hg : Good fW fH M P E) (heq : (Lib.bytesOf (fileB E fW fH M P) == Lib.bytesOf l) = false) :
    Calls Try.prog 34 #[.slice A n c] w (NoF 8 w) := by
  have hb0 := (Below.refl w.heap.size w).alloc (Nat.le_refl _) (.cells #[.slice none 0 0, .int .i64 0, .int .i64 0, .int .i64 0, .slice none 0 0] 27)
  have hT := h.grow hb0
  have hTw : Tl (w.alloc (.cells #[.slice none 0 0, .int .i64 0, .int .i64 0, .int .i64 0, .slice none 0 0] 27)) (w.alloc (.cells #[.slice none 0 0, .int .i64 0, .int .i64 0, .int .i64 0, .slice none 0 0] 27)) (.slice A n c) l := by
    obtain ⟨A9, n9, c9, e9, h91, h92, h93⟩ := hT
    exact ⟨A9, n9, c9, e9, h91, h92, fun h0 b off e => by have := h93 h0 b off e; simp; omega⟩
  have hrd := read_any2 A n c l _ hTw hb (by omega)
  rw [hf] at hrd
  have hsl : Sb w A n c l := by
    obtain ⟨A9, n9, c9, e9, h91, h92, h93⟩ := h
    cases e9; exact h91
  have hcap := hsl.le_cap
  have hcl := hsl.cap_le
  have hlen := Lib.hid hsl.len
  have hfb0 := heap_alloc_new w (.cells #[.slice none 0 0, .int .i64 0, .int .i64 0, .int .i64 0, .slice none 0 0] 27)
  replace hrd := Lib.hid hrd
  have hszs := Lib.hid (readF_sizes hf)
  have hPl : Hid (P.length ≤ 4096) := Lib.hid (readF_ras hf).pos.2
  replace hf := Lib.hid hf
  replace hg := Lib.hid hg
  replace heq := Lib.hid heq
  go_enter Try.func34, Try.ntmps34
  go_wp2_with (first | (go_at_call 65; refine hrd.out.mono ?_; rintro e w2 ⟨⟨A2, n2, c2, g, k, rfl, hk, hgl, hbl, hown, hn2⟩, hb2⟩; have hsz2 := hb2.size; dsimp only at hk hbl hown hn2; simp only [World.size_alloc] at hsz2 hb2 hgl hown; have hfb2 := (hb2.block w.heap.size (by omega)).trans hfb0; have hkb : k ≤ 4096 := (by rw [hk]; exact hPl.out); have hsl2 := hbl.sl0 (n := k) (c := k) hk (Nat.le_refl _) (by omega); have hen2 := En.of_own hown hn2 (fun e he => by have := hszs.out e he; have := hlen.out; omega); replace hn2 := Lib.hid hn2; replace hk2 := Lib.hid hk; clear hk) | (go_at_call 31; refine (Encode_yes A2 n2 c2 E fW fH M (some ⟨g, 0, none⟩) k k P _ (hen2.alloc _) (hsl2.alloc _) hg.out).mono ?_; rintro e w4 ⟨r4, c4, rfl, hob4, hb4⟩; have hsz4 := hb4.size; simp only [World.size_alloc] at hsz4 hb4; have hB2 := hb0.trans (hb2.mono (by omega)); have hB4 := (hB2.alloc (by omega) (.cells #[.slice A2 n2 c2, .int .i64 (fW : Int), .int .i64 (fH : Int), .int .i64 M, .slice (some ⟨g, 0, none⟩) k k] 27)).trans (hb4.mono (by omega)); have hsl4 := hsl.below hB4 (Nat.le_refl _); have hfb4 := (hb4.block w.heap.size (by omega)).trans ((Below.heap_alloc w2 _ w.heap.size (by omega)).trans hfb2); obtain ⟨z0, z1, z2, z3, z4⟩ := cell5 hfb4; obtain ⟨y0, y1, y2, y3, y4⟩ := box5f hfb4) | (go_at_call 32; refine (Try.bytes_Equal_all _ _ _ _ _ _ (fileB E fW fH M P) l w4 rfl hlen.out.symm hob4.bytes hsl4.bytes).mono ?_; rintro e w5 ⟨he, rfl⟩; rw [heq.out] at he; subst he))
  have hq := put5 hfb4 (.slice none 0 0) (.int .i64 0) (.int .i64 0) (.int .i64 0) (.slice none 0 0)
  clear z0 z1 z2 z3 z4 y0 y1 y2 y3 y4
  obtain ⟨z0, z1, z2, z3, z4⟩ := cell5 hq
  refine bodyPost_ret (v := .tuple #[.agg #[.slice none 0 0, .int .i64 0, .int .i64 0, .int .i64 0, .slice none 0 0], .int .i64 8]) (by simp [results, Try.results34, go_sem, z0, z1, z2, z3, z4]) rfl ⟨rfl, ?_⟩
  repeat (refine Below.setCell ?_ (by simp <;> omega) _)
  exact hB4

end Go.Proofs.Ytcnlghkdhpgnmaa
