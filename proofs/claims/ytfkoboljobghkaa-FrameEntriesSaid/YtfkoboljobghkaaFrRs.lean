/-
  Walks: residualsOf and Residuals of package frame.
-/
import Derived.Test.YtfkoboljobghkaaFrPr
set_option linter.unusedSimpArgs false
set_option linter.unusedVariables false
namespace Go.Proofs.Ytfkoboljobghkaa
open Go.RowKit

/-- The list that is filled up to a place. -/
def UpTo (L R : List Int) (k : Nat) : Prop := L.length = R.length ∧ ∀ j, j < k → nth L j = nth R j
theorem UpTo.done {L R : List Int} {k : Nat} (h : UpTo L R k) (hk : R.length ≤ k) : L = R := nth_ext h.1 fun j hj => h.2 j (by rw [h.1] at hj; omega)
theorem UpTo.set {L R : List Int} {k : Nat} {x : Int} (h : UpTo L R k) (hk : k < R.length) (hx : nth R k = x) : UpTo (L.set k x) R (k + 1) := by
  refine ⟨by rw [List.length_set]; exact h.1, fun j hj => ?_⟩
  by_cases e : j = k
  · rw [e, nth_set_self (by rw [h.1]; exact hk), hx]
  · rw [nth_set_ne (fun e' => e e'.symm)]; exact h.2 j (by omega)

set_option maxHeartbeats 3200000 in
set_option maxRecDepth 100000 in
theorem residualsOf_any (W : Nat) (H M : Int) (b off n c : Nat) (P : List Int) (w : World) (h : Sl w (some ⟨b, off, none⟩) n c P) (hr : Ras W H M P) :
    Calls Try.prog 50 #[.agg #[.int .i64 (W : Int), .int .i64 H, .int .i64 M, .slice (some ⟨b, off, none⟩) n c]] w fun e w' =>
      ∃ g, e = .returned (.slice (some ⟨g, 0, none⟩) n n) ∧ w.heap.size ≤ g ∧ Bl w' g (residuals W M P) ∧ Below w.heap.size w w' := by
  obtain ⟨⟨⟨w1, w2⟩, ⟨h1, h2⟩, m1, m2⟩, har, hP⟩ := hr
  obtain ⟨a1, a2⟩ := area w1 w2 h1 h2
  have hlen := h.len
  have hn : n ≤ 4096 := by omega
  have hn0 : 0 < n := by omega
  have hP' : ∀ g ∈ P, 0 ≤ g ∧ g ≤ 65535 := fun g hg => by have := hP g hg; omega
  have hcap := h.le_cap
  have hcl := h.cap_le
  have hmk := run_make_i64 .i64 .i64 (n : Int) n rfl (by omega)
  have hbl := fun W : World => Bl.new W (List.replicate n 0)
  have hl0 : Hid ((List.replicate n (0 : Int)).length = (residuals W M P).length) := Lib.hid (by rw [List.length_replicate, residuals_length]; exact hlen)
  have hRl : Hid ((residuals W M P).length = n) := Lib.hid (by rw [residuals_length]; exact hlen.symm)
  have hRn : Hid (∀ i, i < n → nth (residuals W M P) i = residI W M P i) := Lib.hid (fun i hi => nth_residuals (by rw [← hlen]; exact hi))
  have hrng : Hid (∀ i, 0 ≤ predI W P i ∧ predI W P i ≤ M) := Lib.hid (fun i => predI_range hP (by omega))
  replace hbl := Lib.hid hbl
  generalize (List.replicate n (0 : Int)) = Z at hmk hbl hl0 ⊢
  generalize hC : (cells Z).toArray = C at hmk hbl
  generalize hR : residuals W M P = R at hl0 hRl hRn ⊢
  have hfr := RB.new w W H M (some ⟨b, off, none⟩) n c
  have hb0 := (Below.refl w.heap.size w).alloc (Nat.le_refl _) (.cells #[.int .i64 (W : Int), .int .i64 H, .int .i64 M, .slice (some ⟨b, off, none⟩) n c] 25)
  have hb1 := hb0.alloc (by simp) (.cells C 3)
  have hbw := h.old hn0 b off rfl
  replace h := Lib.hid h
  replace hP := Lib.hid hP
  replace hP' := Lib.hid hP'
  replace hlen := Lib.hid hlen
  clear har a1 a2 hC hR
  go_enter Try.func50, Try.ntmps50
  go_wp2
  have hbz := hbl.out (w.alloc (.cells #[.int .i64 (W : Int), .int .i64 H, .int .i64 M, .slice (some ⟨b, off, none⟩) n c] 25))
  rw [World.size_alloc] at hbz
  go_loopw [17] (fun i wr => ∃ (k : Nat) (L : List Int), k ≤ n ∧ i = .int .i64 (k : Int) ∧ Bl wr (w.heap.size + 1) L ∧ UpTo L R k ∧ RB wr w.heap.size W H M (some ⟨b, off, none⟩) n c ∧ Below w.heap.size w wr) (fun i _ => n - (intOf i).toNat)
  case atStart => exact ⟨0, Z, Nat.zero_le _, rfl, hbz, ⟨hl0.out, fun j hj => absurd hj (Nat.not_lt_zero _)⟩, hfr.alloc _, hb1⟩
  case round =>
    obtain ⟨k, L, hk, rfl, hB, hU, hRB, hW⟩ := hrel
    by_cases hlt : k < n
    · obtain ⟨⟨d0, d1, d2, d3⟩, f0, f1, f2, f3⟩ := hRB.cells
      have hs := h.out.below hW (Nat.le_refl _)
      obtain ⟨b', off', e', hbw', hc⟩ := hs.at_ (by omega)
      cases e'
      have hcell := hc k hlt
      clear hc
      have hrng1 := hrng.out k
      obtain ⟨p, hp⟩ : ∃ p, predI W P k = p := ⟨_, rfl⟩
      have hpc := prediction_any W k H M b off n c P wr hs (by omega) (by omega) hlt hn hP'.out hp rfl
      obtain ⟨y, hy⟩ : ∃ y, nth P k = y := ⟨_, rfl⟩
      have hym : 0 ≤ y ∧ y ≤ M := by
        have hkl : k < P.length := by rw [← hlen.out]; exact hlt
        rw [nth_eq hkl] at hy
        rw [← hy]
        exact hP.out _ (List.getElem_mem hkl)
      rw [hp] at hrng1
      rw [hy] at hcell
      have hne : M + 1 ≠ 0 := by omega
      have ht : (y - p + (M + 1)).tmod (M + 1) = (y - p + (M + 1)) % (M + 1) := Int.tmod_eq_emod_of_nonneg (by omega)
      obtain ⟨d, hd⟩ : ∃ d, (y - p + (M + 1)) % (M + 1) = d := ⟨_, rfl⟩
      have hdr : 0 ≤ d ∧ d < M + 1 := by rw [← hd]; exact ⟨Int.emod_nonneg _ hne, Int.emod_lt_of_pos _ (by omega)⟩
      obtain ⟨s, hs2⟩ : ∃ s, resid d (M + 1) = s := ⟨_, rfl⟩
      have hval : Hid (nth R k = s) := Lib.hid (by rw [hRn.out k hlt]; unfold residI; rw [hy, hp, hd, hs2])
      have hrc := Lib.hid (fun W => residual_any d (M + 1) W hdr.1 hdr.2 (by omega) hs2)
      have hLl : L.length = n := by rw [hU.1, hRl.out]
      replace hpc := Lib.hid hpc
      replace hy := Lib.hid hy
      replace hp := Lib.hid hp
      replace hs2 := Lib.hid hs2
      rw [hd] at ht
      have hgl := hB.lt
      clear hd
      go_wp2_with (first | (go_at_call 54; refine hpc.out.mono ?_; rintro e w3 ⟨rfl, hb3⟩; have hB3 := hB.below hb3 hgl; have x1 := hB3.cell (i := k) (by omega); have x2 := hB3.frozen k) | (go_at_call 76; refine (hrc.out _).mono ?_; rintro e w4 ⟨rfl, rfl⟩))
      refine ⟨⟨k + 1, L.set k s, hlt, by go_num, hB3.set k s, hU.set (by rw [hRl.out]; exact hlt) hval.out, ?_, (hW.trans (hb3.mono hW.size)).setCell (p := ⟨w.heap.size + 1, k, none⟩) (by show w.heap.size ≤ w.heap.size + 1; omega) _⟩, by simp [intOf]; omega⟩
      exact (hRB.below hb3 hRB.lt).far (p := ⟨w.heap.size + 1, k, none⟩) (by show w.heap.size ≠ w.heap.size + 1; omega) _
    · obtain rfl : k = n := by omega
      have hfin := hU.done (by rw [hRl.out]; exact Nat.le_refl _)
      subst hfin
      go_wp2
      go_ret
      exact ⟨_, rfl, by omega, hB, hW⟩

theorem Ras.pos {W H M : Int} {P : List Int} (h : Ras W H M P) : 0 < P.length ∧ P.length ≤ 4096 := by
  obtain ⟨⟨⟨w1, w2⟩, ⟨h1, h2⟩, m1, m2⟩, har, hP⟩ := h
  obtain ⟨a1, a2⟩ := area w1 w2 h1 h2
  omega

end Go.Proofs.Ytfkoboljobghkaa
