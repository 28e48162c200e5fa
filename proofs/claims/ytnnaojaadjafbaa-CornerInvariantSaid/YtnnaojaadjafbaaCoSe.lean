/-
  Walks: scoresOf, Scores of package corner.
-/
import Derived.Test.YtnnaojaadjafbaaCoSd
import Derived.Test.YtnnaojaadjafbaaCoO
set_option linter.unusedSimpArgs false
set_option linter.unusedVariables false
namespace Go.Proofs.Ytnnaojaadjafbaa
open Go.RowKit

theorem mod_div_nat (k a : Nat) (ha : 1 ≤ a) : (k / a) * a + k % a = k ∧ k % a < a := ⟨by rw [Nat.mul_comm]; exact Nat.div_add_mod k a, Nat.mod_lt _ ha⟩
theorem Mid_win {a b x y : Nat} : Mid a b x y ↔ win (x : Int) 2 ((a : Int) - 2 - 1) = true ∧ win (y : Int) 2 ((b : Int) - 2 - 1) = true := by
  unfold Mid
  rw [win_iff, win_iff]
  omega

/-- The first k of n places hold the values of f, the others 0. -/
def FZ (f : Nat → Int) (n k : Nat) (L : List Int) : Prop := L.length = n ∧ (∀ i, i < k → nth L i = f i) ∧ ∀ i, k ≤ i → nth L i = 0
theorem FZ.start (f : Nat → Int) (n : Nat) : FZ f n 0 (List.replicate n 0) := ⟨by simp, fun i hi => absurd hi (by omega), fun i _ => by
  by_cases h : i < n
  · rw [nth_eq (by simpa using h)]; simp
  · simp [nth, List.getD, List.getElem?_eq_none (show (List.replicate n (0 : Int)).length ≤ i by simp; omega)]⟩
theorem FZ.zero {f : Nat → Int} {n k : Nat} {L : List Int} (h : FZ f n k L) (hv : f k = 0) : FZ f n (k + 1) L := ⟨h.1, fun i hi => by
  by_cases e : i = k
  · rw [e, hv]; exact h.2.2 k (Nat.le_refl _)
  · exact h.2.1 i (by omega), fun i hi => h.2.2 i (by omega)⟩
theorem FZ.step {f : Nat → Int} {n k : Nat} {L : List Int} (h : FZ f n k L) (hk : k < n) {v : Int} (hv : f k = v) : FZ f n (k + 1) (L.set k v) := by
  refine ⟨by rw [List.length_set]; exact h.1, fun i hi => ?_, fun i hi => ?_⟩
  · by_cases e : i = k
    · subst e; rw [nth_set_self (by rw [h.1]; exact hk)]; exact hv.symm
    · rw [nth_set_ne (by omega)]; exact h.2.1 i (by omega)
  · rw [nth_set_ne (by omega)]; exact h.2.2 i (by omega)
theorem FZ.done {f : Nat → Int} {n : Nat} {L : List Int} (h : FZ f n n L) : L = tab n f := nth_ext (by rw [h.1, tab_length]) fun i hi => by
  rw [h.1] at hi
  rw [h.2.1 i hi, nth_tab hi]

set_option maxRecDepth 100000 in
set_option maxHeartbeats 3200000 in
theorem scoresOf_any (a b : Nat) (M : Int) (bb off n c : Nat) (P : List Int) (w : World) (h : Sl w (some ⟨bb, off, none⟩) n c P) (ha1 : 1 ≤ a) (ha2 : a ≤ 64) (hb1 : 1 ≤ b) (hb2 : b ≤ 64) (hn : a * b = n) (hg : Grey P) :
    Calls Try.prog 35 #[.agg #[.int .i64 a, .int .i64 b, .int .i64 M, .slice (some ⟨bb, off, none⟩) n c]] w fun e w' => ∃ g, e = .returned (.slice (some ⟨g, 0, none⟩) n n) ∧ w.heap.size ≤ g ∧ Bl w' g (scoresL a b P) ∧ Below w.heap.size w w' := by
  have hb0 := ((Below.refl w.heap.size w).alloc (Nat.le_refl _) (.cells #[.int .i64 a, .int .i64 b, .int .i64 M, .slice (some ⟨bb, off, none⟩) n c] 24)).alloc (by simp) (.cells (cells (List.replicate n 0)).toArray 3)
  have hs0 := (h.alloc (.cells #[.int .i64 a, .int .i64 b, .int .i64 M, .slice (some ⟨bb, off, none⟩) n c] 24)).alloc (.cells (cells (List.replicate n 0)).toArray 3)
  have k0 := (RB.new w a b M (some ⟨bb, off, none⟩) n c).alloc (.cells (cells (List.replicate n 0)).toArray 3)
  have hbl0 := Bl.new (w.alloc (.cells #[.int .i64 a, .int .i64 b, .int .i64 M, .slice (some ⟨bb, off, none⟩) n c] 24)) (List.replicate n 0)
  simp only [World.size_alloc] at hbl0
  have hn4 : n ≤ 4096 := by rw [← hn]; exact Nat.mul_le_mul ha2 hb2
  have hmk := run_make_i64 .i64 .i64 (n : Int) n rfl (by omega)
  have hbw := h.old (by
    have := Nat.mul_le_mul ha1 hb1
    omega) bb off rfl
  obtain ⟨L0, hL0⟩ : ∃ L0, List.replicate n (0 : Int) = L0 := ⟨_, rfl⟩
  have hL0l : Hid (FZ (scoreAt a b P) n 0 L0) := Lib.hid (by rw [← hL0]; exact FZ.start _ _)
  rw [hL0] at hmk hbl0 hs0 k0 hb0
  clear hL0
  replace hn := Lib.hid hn
  replace hg := Lib.hid hg
  clear h
  obtain ⟨C0, hC0⟩ : ∃ C0, (cells L0).toArray = C0 := ⟨_, rfl⟩
  rw [hC0] at hmk hbl0 hs0 k0 hb0
  replace hC0 := Lib.hid hC0
  go_enter Try.func35, Try.ntmps35
  go_wp2
  go_loopw [13] (fun i wr => ∃ (k : Nat) (L : List Int), k ≤ n ∧ i = .int .i64 (k : Int) ∧ RB wr w.heap.size a b M (some ⟨bb, off, none⟩) n c ∧ Bl wr (w.heap.size + 1) L ∧ Hid (FZ (scoreAt a b P) n k L) ∧ Sl wr (some ⟨bb, off, none⟩) n c P ∧ Below w.heap.size w wr ∧ w.heap.size + 1 < wr.heap.size) (fun i _ => n - (intOf i).toNat)
  case atStart => exact ⟨0, L0, Nat.zero_le _, rfl, k0, hbl0, hL0l, hs0, hb0, by simp⟩
  case round =>
    clear k0 hbl0 hs0 hb0
    obtain ⟨k, L, hk, rfl, k0, hbl, hfill, hs, hB, hz⟩ := hrel
    obtain ⟨⟨d0, d1, d2, d3⟩, f0, f1, f2, f3⟩ := k0.cells
    by_cases hlt : k < n
    · obtain ⟨m1, m2⟩ := mod_div_nat k a ha1
      obtain ⟨x, hx⟩ : ∃ x, k % a = x := ⟨_, rfl⟩
      obtain ⟨y, hy⟩ : ∃ y, k / a = y := ⟨_, rfl⟩
      rw [hx] at m1 m2
      rw [hy] at m1
      have hyk : y ≤ k := by rw [← hy]; exact Nat.div_le_self _ _
      have x1 : (k : Int) % (a : Int) = (x : Int) := by rw [← hx]; simp
      have y1 : (k : Int) / (a : Int) = (y : Int) := by rw [← hy]; simp
      have x2 : (k : Int).tmod (a : Int) = (x : Int) := by rw [Int.tmod_eq_emod_of_nonneg (by omega)]; exact x1
      have y2 : (k : Int).tdiv (a : Int) = (y : Int) := by rw [Int.tdiv_eq_ediv_of_nonneg (by omega)]; exact y1
      have a0 : ¬ (a : Int) = 0 := by omega
      have hki : (k : Int) < (n : Int) := by omega
      obtain ⟨b1, hb1'⟩ : ∃ b1, win (x : Int) 2 ((a : Int) - 2 - 1) = b1 := ⟨_, rfl⟩
      obtain ⟨b2, hb2'⟩ : ∃ b2, win (y : Int) 2 ((b : Int) - 2 - 1) = b2 := ⟨_, rfl⟩
      have k1 := Lib.hid (cwithin_at hb1')
      have k2 := Lib.hid (cwithin_at hb2')
      have hmid : Mid a b x y ↔ b1 = true ∧ b2 = true := by rw [Mid_win, hb1', hb2']
      have hsA : scoreAt a b P k = if b1 = true ∧ b2 = true then sc a P k else 0 := by
        unfold scoreAt
        rw [hx, hy]
        by_cases hq : Mid a b x y
        · rw [if_pos hq, if_pos (hmid.1 hq)]
        · rw [if_neg hq, if_neg (fun e => hq (hmid.2 e))]
      obtain ⟨t, ht⟩ : ∃ t, nth L k = t := ⟨_, rfl⟩
      have htc := hbl.cell (i := k) (by rw [hfill.out.1]; exact hlt)
      have htf := hbl.frozen k
      rw [ht] at htc
      replace hx := Lib.hid hx
      replace hy := Lib.hid hy
      replace hb1' := Lib.hid hb1'
      replace hb2' := Lib.hid hb2'
      replace ht := Lib.hid ht
      replace hsA := Lib.hid hsA
      replace m1 := Lib.hid m1
      have tok : True := trivial
      cases b1
      · have hz0 : Hid (scoreAt a b P k = 0) := Lib.hid (by rw [hsA.out]; simp)
        clear hmid
        go_wp2
        go_quiet (fail)
        go_wp2_with (go_at_call 37; refine (k1.out _).mono ?_; rintro e w' ⟨rfl, rfl⟩)
        go_roundw
        case rel => exact ⟨k + 1, L, hlt, by go_num, k0, hbl, Lib.hid (hfill.out.zero hz0.out), hs, by first | exact hB | exact below_drewN hB _, hz⟩
        case measure => simp [intOf]; omega
      · cases b2
        · have hz0 : Hid (scoreAt a b P k = 0) := Lib.hid (by rw [hsA.out]; simp)
          clear hmid
          go_wp2
          go_quiet (fail)
          go_wp2_with (first | (go_at_call 37; clear tok; refine (k1.out _).mono ?_; rintro e w' ⟨rfl, rfl⟩) | (go_at_call 37; refine (k2.out _).mono ?_; rintro e w' ⟨rfl, rfl⟩))
          go_roundw
          case rel => exact ⟨k + 1, L, hlt, by go_num, k0, hbl, Lib.hid (hfill.out.zero hz0.out), hs, by first | exact hB | exact below_drewN hB _, hz⟩
          case measure => simp [intOf]; omega
        · obtain ⟨z, hz0⟩ : ∃ z, sc a P k = z := ⟨_, rfl⟩
          have hzA : Hid (scoreAt a b P k = z) := Lib.hid (by rw [hsA.out, ← hz0]; simp)
          have hcall := Lib.hid (fun q => score_any a b M bb off n c x y P (wr.drewN q) (hs.drewN q) ha2 hb2 hn.out (hmid.2 ⟨rfl, rfl⟩) hg.out (z := z) (by rw [m1.out]; exact hz0))
          replace hz0 := Lib.hid hz0
          clear hmid
          have keepT : ∀ (q : Nat) (w' : World), Below (wr.drewN q).heap.size (wr.drewN q) w' → w'.cell? ⟨w.heap.size + 1, k, none⟩ = some (.int .i64 t) ∧ w'.frozen? ⟨w.heap.size + 1, k, none⟩ = false := fun q w' hb => ⟨((undrewN hb).cell (p := ⟨w.heap.size + 1, k, none⟩) hz).trans htc, ((undrewN hb).frozen (p := ⟨w.heap.size + 1, k, none⟩) hz).trans htf⟩
          replace keepT := Lib.hid keepT
          go_wp2
          go_quiet (fail)
          go_wp2_with (first | (go_at_call 37; clear tok; refine (k1.out _).mono ?_; rintro e w' ⟨rfl, rfl⟩) | (go_at_call 37; refine (k2.out _).mono ?_; rintro e w' ⟨rfl, rfl⟩) | (go_at_call 56; refine (hcall.out _).mono ?_; rintro e w4 ⟨rfl, hb4⟩; obtain ⟨t1, t2⟩ := keepT.out _ _ hb4))
          have hb4' := undrewN hb4
          have hz4 := hb4'.size
          go_roundw
          case rel =>
            refine ⟨k + 1, L.set k z, hlt, by go_num, (k0.below hb4' k0.lt).far (by simp) _, (hbl.below hb4' hbl.lt).set _ _, Lib.hid (hfill.out.step hlt hzA.out), ?_, (hB.trans (hb4'.mono hB.size)).setCell (by simp) _, by simp [World.setCell]; omega⟩
            exact (hs.below hb4' (Nat.le_refl _)).keep fun _ b' j ⟨off', e⟩ _ => World.cell?_setCell_other _ _ _ _ (fun e2 => by cases e; cases e2; omega)
          case measure => simp [intOf]; omega
    · obtain rfl : k = n := by omega
      have hdone := Lib.hid (hfill.out.done)
      go_wp2
      go_ret
      exact ⟨w.heap.size + 1, rfl, by omega, by rw [scoresL, hn.out, ← hdone.out]; exact hbl, hB⟩

/-- A raster that has scores. -/
def Scr (W H M : Int) (P : List Int) : Prop := Ras W H M P ∧ M ≤ 1023
/-- The code of a raster. -/
def AskR (W H M : Int) (P : List Int) (r : Int) : Prop := (r = 1 ∧ ¬ Ras W H M P) ∨ (r = 3 ∧ Ras W H M P ∧ 1023 < M) ∨ (r = 0 ∧ Scr W H M P)
theorem AskR.ex (W H M : Int) (P : List Int) : ∃ r, AskR W H M P r := by
  by_cases h : Ras W H M P
  · by_cases h2 : M ≤ 1023
    · exact ⟨0, .inr (.inr ⟨rfl, h, h2⟩)⟩
    · exact ⟨3, .inr (.inl ⟨rfl, h, by omega⟩)⟩
  · exact ⟨1, .inl ⟨rfl, h⟩⟩
theorem AskR.zero {W H M : Int} {P : List Int} (h : AskR W H M P 0) : Scr W H M P := by
  rcases h with ⟨h, _⟩ | ⟨h, _⟩ | ⟨_, h⟩
  · cases h
  · cases h
  · exact h
theorem AskR.of {W H M : Int} {P : List Int} {r : Int} (h : AskR W H M P r) (hs : Scr W H M P) : r = 0 := by
  rcases h with ⟨_, h⟩ | ⟨_, _, h⟩ | ⟨h, _⟩
  · exact absurd hs.1 h
  · have := hs.2; omega
  · exact h
theorem Ras.len_pos {W H M : Int} {P : List Int} (h : Ras W H M P) : 0 < P.length := by
  obtain ⟨_, _, _, _, _, _, _, _, _, h⟩ := h.nat
  exact h

theorem Scores_no (W H M : Int) (A : Option Addr) (n c : Nat) (P : List Int) (w : World) (h : Sl w A n c P) {r : Int} (hr : AskR W H M P r) (hr0 : r ≠ 0) :
    Calls Try.prog 13 #[.agg #[.int .i64 W, .int .i64 H, .int .i64 M, .slice A n c]] w fun e w' => e = .returned (.tuple #[.slice none 0 0, .int .i64 r]) ∧ Below w.heap.size w w' := by
  have hb0 := (Below.refl w.heap.size w).alloc (Nat.le_refl _) (.cells #[.int .i64 W, .int .i64 H, .int .i64 M, .slice A n c] 24)
  have hs := h.alloc (.cells #[.int .i64 W, .int .i64 H, .int .i64 M, .slice A n c] 24)
  have k0 := RB.new w W H M A n c
  rcases hr with ⟨rfl, hr⟩ | ⟨rfl, hr, hM⟩ | ⟨rfl, hr⟩
  · have hc := Lib.hid (Check_no hs hr)
    replace hr := Lib.hid hr
    clear h hs
    go_enter Try.func13, Try.ntmps13
    go_wp2_with (go_at_call 34; refine (hc.out).mono ?_; rintro e w1 ⟨rfl, hb1⟩)
    exact bodyPost_ret (v := .tuple #[.slice none 0 0, .int .i64 1]) (by simp [results, Try.results13, go_sem]) rfl ⟨rfl, hb0.trans (hb1.mono (by simp))⟩
  · have hc := Lib.hid (Check_ok hs hr)
    replace hr := Lib.hid hr
    clear h hs
    go_enter Try.func13, Try.ntmps13
    go_wp2_with (go_at_call 34; refine (hc.out).mono ?_; rintro e w1 ⟨rfl, hb1⟩; obtain ⟨⟨d0, d1, d2, d3⟩, f0, f1, f2, f3⟩ := (k0.below hb1 (by simp)).cells)
    exact bodyPost_ret (v := .tuple #[.slice none 0 0, .int .i64 3]) (by simp [results, Try.results13, go_sem]) rfl ⟨rfl, hb0.trans (hb1.mono (by simp))⟩
  · exact absurd rfl hr0

theorem Scores_ok (W H M : Int) (A : Option Addr) (n c : Nat) (P : List Int) (w : World) (h : Sl w A n c P) (hr : Scr W H M P) :
    Calls Try.prog 13 #[.agg #[.int .i64 W, .int .i64 H, .int .i64 M, .slice A n c]] w fun e w' => ∃ g, e = .returned (.tuple #[.slice (some ⟨g, 0, none⟩) n n, .int .i64 0]) ∧ w.heap.size ≤ g ∧ Bl w' g (scoresL W.toNat H.toNat P) ∧ Below w.heap.size w w' := by
  have hb0 := (Below.refl w.heap.size w).alloc (Nat.le_refl _) (.cells #[.int .i64 W, .int .i64 H, .int .i64 M, .slice A n c] 24)
  have hs := h.alloc (.cells #[.int .i64 W, .int .i64 H, .int .i64 M, .slice A n c] 24)
  have k0 := RB.new w W H M A n c
  obtain ⟨hr, hM⟩ := hr
  have hc := Lib.hid (Check_ok hs hr)
  have hg : Grey P := fun g hg => by have := hr.2.2 g hg; omega
  obtain ⟨a, b, rfl, rfl, ⟨ha1, ha2⟩, ⟨hb1, hb2⟩, ⟨hM1, hM2⟩, hab, hl1, hl2⟩ := hr.nat
  obtain ⟨bb, off, rfl, hbbw, -⟩ := h.at_ (by rw [h.len]; exact hl2)
  simp only [Int.toNat_natCast]
  have hnab : a * b = n := by rw [h.len, hab]
  have hcall := Lib.hid (fun W hW => scoresOf_any a b M bb off n c P W hW ha1 ha2 hb1 hb2 hnab hg)
  replace hr := Lib.hid hr
  replace hs := Lib.hid hs
  clear h hg
  go_enter Try.func13, Try.ntmps13
  go_wp2_with (first | (go_at_call 34; refine (hc.out).mono ?_; rintro e w1 ⟨rfl, hb3⟩; obtain ⟨⟨d0, d1, d2, d3⟩, f0, f1, f2, f3⟩ := (k0.below hb3 (by simp)).cells) | (go_at_call 35; refine (hcall.out _ (hs.out.below hb3 (Nat.le_refl _))).mono ?_; rintro e w2 ⟨g, rfl, hg, hbl, hb4⟩))
  have hz := hb3.size
  simp only [World.size_alloc] at hz
  exact bodyPost_ret (v := .tuple #[.slice (some ⟨g, 0, none⟩) n n, .int .i64 0]) (by simp [results, Try.results13, go_sem]) rfl ⟨g, rfl, by omega, hbl, (hb0.trans (hb3.mono (by simp))).trans (hb4.mono (by omega))⟩

theorem Asked_any (W H M : Int) (A : Option Addr) (n c : Nat) (P : List Int) (w : World) (h : Sl w A n c P) {r : Int} (hr : AskR W H M P r) :
    Calls Try.prog 26 #[.agg #[.int .i64 W, .int .i64 H, .int .i64 M, .slice A n c]] w fun e w' => e = .returned (.int .i64 r) ∧ Below w.heap.size w w' := by
  have hb0 := (Below.refl w.heap.size w).alloc (Nat.le_refl _) (.cells #[.int .i64 W, .int .i64 H, .int .i64 M, .slice A n c] 24)
  have hs := h.alloc (.cells #[.int .i64 W, .int .i64 H, .int .i64 M, .slice A n c] 24)
  have k0 := RB.new w W H M A n c
  rcases hr with ⟨rfl, hr⟩ | ⟨rfl, hr, hM⟩ | ⟨rfl, hr, hM⟩
  · have hc := Lib.hid (rCheck_no hs hr)
    replace hr := Lib.hid hr
    clear h hs
    go_enter Try.func26, Try.ntmps26
    go_wp2_with (go_at_call 51; refine (hc.out).mono ?_; rintro e w1 ⟨rfl, hb1⟩)
    go_ret
    exact ⟨rfl, hb0.trans (hb1.mono (by simp))⟩
  · have hc := Lib.hid (rCheck_ok hs hr)
    replace hr := Lib.hid hr
    clear h hs
    go_enter Try.func26, Try.ntmps26
    go_wp2_with (go_at_call 51; refine (hc.out).mono ?_; rintro e w1 ⟨rfl, hb1⟩; obtain ⟨⟨d0, d1, d2, d3⟩, f0, f1, f2, f3⟩ := (k0.below hb1 (by simp)).cells)
    go_ret
    exact ⟨rfl, hb0.trans (hb1.mono (by simp))⟩
  · have hc := Lib.hid (rCheck_ok hs hr)
    replace hr := Lib.hid hr
    clear h hs
    go_enter Try.func26, Try.ntmps26
    go_wp2_with (go_at_call 51; refine (hc.out).mono ?_; rintro e w1 ⟨rfl, hb1⟩; obtain ⟨⟨d0, d1, d2, d3⟩, f0, f1, f2, f3⟩ := (k0.below hb1 (by simp)).cells)
    go_ret
    exact ⟨rfl, hb0.trans (hb1.mono (by simp))⟩

end Go.Proofs.Ytnnaojaadjafbaa
