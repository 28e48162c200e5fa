/-
  Walk: the law's check.
-/
import Derived.Test.YtfkoboljobghkaaFrKe
import Derived.Test.YtfkoboljobghkaaFrB
set_option linter.unusedSimpArgs false
set_option linter.unusedVariables false
namespace Go.Proofs.Ytfkoboljobghkaa
open Go.RowKit Go.Shelf

theorem keyed_at {s : ByteArray} {b : Bool} (h : keyB s = b) (w : World) (hs : s.size ≤ 1000000000) :
    Calls Try.prog 44 #[.string s] w fun e w' => e = .returned (.bool b) ∧ Below w.heap.size w w' := h ▸ keyed_any s w (by omega)
theorem valued_at {s : ByteArray} {r : Int} (h : valC s = r) (w : World) (hs : s.size ≤ 1000000000) :
    Calls Try.prog 45 #[.string s] w fun e w' => e = .returned (.int .i64 r) ∧ Below w.heap.size w w' := h ▸ valued_any s w (by omega)

theorem tri : ∀ x y : List UInt8, (Op.bytesLess x y || x == y) = !Op.bytesLess y x
  | [], [] => rfl
  | a :: x, [] => by simp [Op.bytesLess]
  | [], b :: y => by simp [Op.bytesLess]
  | a :: x, b :: y => by
    have ih := tri x y
    by_cases h1 : a = b
    · subst h1
      simpa [Op.bytesLess, UInt8.lt_irrefl] using ih
    · by_cases h2 : a < b
      · have h3 : ¬ b < a := fun h => UInt8.lt_irrefl a (UInt8.lt_trans h2 h)
        have h4 : ¬ b = a := fun h => h1 h.symm
        simp [Op.bytesLess, h1, h2, h3, h4]
      · have h3 : b < a := by
          rw [UInt8.lt_iff_toNat_lt] at h2 ⊢
          have : a.toNat ≠ b.toNat := fun h => h1 (UInt8.toNat_inj.1 h)
          omega
        simp [Op.bytesLess, h1, h2, h3]

set_option maxRecDepth 100000 in
set_option maxHeartbeats 6400000 in
theorem lcheck_any (A : Option Addr) (n c : Nat) (E : List Ent) (W H M : Int) (A2 : Option Addr) (n2 c2 : Nat) (P : List Int) (w : World) (h : En w A n c E) (h2 : Sl w A2 n2 c2 P) {r : Int} (hr : RasC W H M P E r) :
    Calls Try.prog 15 #[.agg #[.slice A n c, .int .i64 W, .int .i64 H, .int .i64 M, .slice A2 n2 c2]] w fun e w' => e = .returned (.int .i64 r) ∧ Below w.heap.size w w' := by
  have hb0 := (Below.refl w.heap.size w).alloc (Nat.le_refl _) (.cells #[.slice A n c, .int .i64 W, .int .i64 H, .int .i64 M, .slice A2 n2 c2] 27)
  have hs := h2.alloc (.cells #[.slice A n c, .int .i64 W, .int .i64 H, .int .i64 M, .slice A2 n2 c2] 27)
  have hn := h.alloc (.cells #[.slice A n c, .int .i64 W, .int .i64 H, .int .i64 M, .slice A2 n2 c2] 27)
  rcases hr with ⟨hr, rfl⟩ | ⟨hr, hm⟩
  · have hcon := Lib.hid (rCheck_no hs hr)
    replace hr := Lib.hid hr
    go_enter Try.func15, Try.ntmps15
    go_wp2_with (go_at_call 17; refine hcon.out.mono ?_; rintro e w2 ⟨rfl, hb2⟩)
    go_ret
    exact ⟨rfl, hb0.trans (hb2.mono (by simp))⟩
  have hcon := Lib.hid (rCheck_ok hs hr)
  replace hr := Lib.hid hr
  have hlen := h.1
  have hcap := h.2.1
  have hcl := h.2.2.1
  replace hn := Lib.hid hn
  clear h h2 hs
  by_cases hl : 32 < n
  · have hv : Hid (r = 3) := Lib.hid (by rw [hm]; unfold metaC; rw [if_pos (by omega)])
    replace hm := Lib.hid hm
    clear hlen
    go_enter Try.func15, Try.ntmps15
    go_wp2_with (go_at_call 17; refine hcon.out.mono ?_; rintro e v ⟨rfl, hb2⟩; have xv : v.cell? ⟨w.heap.size, 0, none⟩ = some (.slice A n c) := (hb2.cell (p := ⟨w.heap.size, 0, none⟩) (by simp)).trans (by simp [go_sem]))
    go_ret
    exact ⟨ret_int hv.out.symm, hb0.trans (hb2.mono (by simp))⟩
  have hl2 : n ≤ 32 := by omega
  have hE : Hid (¬ 32 < E.length) := Lib.hid (by omega)
  have hme0 := Lib.hid hm
  clear hm
  replace hlen := Lib.hid hlen
  go_enter Try.func15, Try.ntmps15
  go_wp2_with (go_at_call 17; refine hcon.out.mono ?_; rintro e v ⟨rfl, hb2⟩; have xv : v.cell? ⟨w.heap.size, 0, none⟩ = some (.slice A n c) := (hb2.cell (p := ⟨w.heap.size, 0, none⟩) (by simp)).trans (by simp [go_sem]))
  have hsv := hb2.size
  simp only [World.size_alloc] at hsv
  have hfv : w.heap.size < v.heap.size := by omega
  have h := Lib.hid (hn.out.below hb2 (Nat.le_refl _))
  have hfin := Lib.hid (fun w' (hx : Below v.heap.size v w') => (hb0.trans (hb2.mono (by simp))).trans (hx.mono (by omega)))
  clear hb2 hb0 hn hcon
  go_loopw [20] (fun i wr => ∃ k : Nat, k ≤ n ∧ i = .int .i64 (k : Int) ∧ Hid (∀ j, j < k → entC E j = 0) ∧ Below v.heap.size v wr) (fun i _ => n - (intOf i).toNat)
  case atStart => exact ⟨0, Nat.zero_le _, rfl, Lib.hid fun j hj => absurd hj (Nat.not_lt_zero _), Below.refl _ _⟩
  case round =>
    obtain ⟨k, hk, rfl, h0, hB⟩ := hrel
    by_cases hlt : k < n
    · obtain ⟨b, off, rfl, hbw, hc⟩ := (h.out.below hB (Nat.le_refl _)).at_ (by omega)
      obtain ⟨c0, c1⟩ := hc k hlt
      obtain ⟨s0, s1⟩ := h.out.2.2.2.2 k
      have hsize := hB.size
      have hfw : w.heap.size < wr.heap.size := by omega
      have xr : wr.cell? ⟨w.heap.size, 0, none⟩ = some (.slice (some ⟨b, off, none⟩) n c) := (hB.cell (p := ⟨w.heap.size, 0, none⟩) hfv).trans xv
      obtain ⟨ks, hks⟩ : ∃ s, keyAt E k = s := ⟨_, rfl⟩
      obtain ⟨vs, hvs⟩ : ∃ s, valAt E k = s := ⟨_, rfl⟩
      rw [hks] at c0 s0
      rw [hvs] at c1 s1
      obtain ⟨q, hq⟩ : ∃ q, k * 2 = q := ⟨_, rfl⟩
      rw [hq] at c0 c1
      have hBa := hB.alloc hB.size (.cells #[.string ks, .string vs] 68)
      have hhit := Lib.hid (fun h => metaC_hit (i := k) hE.out (by rw [← hlen.out]; exact hlt) h0.out h)
      obtain ⟨b1, hb1⟩ : ∃ b, keyB ks = b := ⟨_, rfl⟩
      have hck := Lib.hid (fun W => keyed_at hb1 W s0)
      cases b1
      · have he : Hid (entC E k = 10) := Lib.hid (by unfold entC; rw [hks, hb1]; rfl)
        replace hks := Lib.hid hks
        replace hvs := Lib.hid hvs
        replace hb1 := Lib.hid hb1
        clear hc
        go_wp2_with (go_at_call 44; refine (hck.out _).mono ?_; rintro e w2 ⟨rfl, hb2⟩)
        go_ret
        refine ⟨ret_int ?_, hfin.out _ (hBa.trans (hb2.mono (by simp; omega)))⟩
        rw [hme0.out, hhit.out (by rw [he.out]; decide), he.out]
      · by_cases hord : 0 < k ∧ less (keyAt E (k - 1)) ks = false
        · have he : Hid (entC E k = 5) := Lib.hid (by unfold entC; rw [hks, hb1, if_neg (by simp), if_pos hord])
          obtain ⟨m, rfl⟩ : ∃ m, k = m + 1 := ⟨k - 1, by omega⟩
          obtain ⟨p0, p1⟩ := hc m (by omega)
          rw [Nat.add_sub_cancel] at hord
          obtain ⟨ps, hps⟩ : ∃ s, keyAt E m = s := ⟨_, rfl⟩
          rw [hps] at p0 hord
          obtain ⟨q2, hq2⟩ : ∃ q, m * 2 = q := ⟨_, rfl⟩
          rw [hq2] at p0 p1
          have hlss : Op.bytesLess ps.toList ks.toList = false := hord.2
          have htri := tri ks.toList ps.toList
          rw [hlss] at htri
          obtain ⟨u1, hu1⟩ : ∃ u, Op.bytesLess ks.toList ps.toList = u := ⟨_, rfl⟩
          obtain ⟨u2, hu2⟩ : ∃ u, (ks.toList == ps.toList) = u := ⟨_, rfl⟩
          rw [hu1, hu2] at htri
          clear hlss
          replace hks := Lib.hid hks
          replace hvs := Lib.hid hvs
          replace hb1 := Lib.hid hb1
          replace hps := Lib.hid hps
          clear hc hord
          cases u1 <;> cases u2
          · exact absurd htri (by decide)
          all_goals
            clear htri
            go_wp2_with (go_at_call 44; refine (hck.out _).mono ?_; rintro e w2 ⟨rfl, hb2⟩; simp only [World.size_alloc] at hb2; obtain ⟨⟨x0, x1⟩, x2, x3⟩ := entBox wr w2 _ _ hb2; have f2 := (hb2.cell (p := ⟨w.heap.size, 0, none⟩) (by show w.heap.size < _; omega)).trans ((World.cell?_alloc_lt wr _ ⟨w.heap.size, 0, none⟩ hfw).trans xr); have p2 := (hb2.cell (p := ⟨b, off + q2, none⟩) (by show b < _; omega)).trans ((World.cell?_alloc_lt wr _ ⟨b, off + q2, none⟩ hbw).trans p0))
            go_quiet (fail)
            go_wp2
            go_ret
            refine ⟨ret_int ?_, hfin.out _ (below_drewN (hBa.trans (hb2.mono (by omega))) _)⟩
            rw [hme0.out, hhit.out (by rw [he.out]; decide), he.out]
        · obtain ⟨r, hr⟩ : ∃ r, valC vs = r := ⟨_, rfl⟩
          have he : Hid (entC E k = r) := Lib.hid (by unfold entC; rw [hks, hb1, if_neg (by simp), if_neg hord, hvs, hr])
          have hcv := Lib.hid (fun W => valued_at hr W s1)
          replace hks := Lib.hid hks
          replace hvs := Lib.hid hvs
          replace hb1 := Lib.hid hb1
          replace hr := Lib.hid hr
          by_cases hr0 : r = 0
          · subst hr0
            have hnext : Hid (∀ j, j < k + 1 → entC E j = 0) := Lib.hid (fun j hj => by
              by_cases e : j = k
              · rw [e]; exact he.out
              · exact h0.out j (by omega))
            have hme : Hid (n - (k + 1) < n - k) := Lib.hid (by omega)
            cases k with
            | zero =>
              obtain rfl : q = 0 := by omega
              rw [Nat.add_zero] at c0 c1
              clear hc hord hq
              go_wp2_with (go_at_call 44; refine (hck.out _).mono ?_; rintro e w2 ⟨rfl, hb2⟩; simp only [World.size_alloc] at hb2; obtain ⟨⟨x0, x1⟩, x2, x3⟩ := entBox wr w2 _ _ hb2; have f2 := (hb2.cell (p := ⟨w.heap.size, 0, none⟩) (by show w.heap.size < _; omega)).trans ((World.cell?_alloc_lt wr _ ⟨w.heap.size, 0, none⟩ hfw).trans xr))
              go_quiet (fail)
              go_wp2_with (go_at_call 45; refine (hcv.out _).mono ?_; rintro e w3 ⟨rfl, hb3⟩; have hb4 := (below_drewN (Below.refl w2.heap.size w2) nq).trans (hb3.mono (by simp)))
              refine ⟨⟨1, hlt, by go_num, hnext.out, (hBa.trans (hb2.mono (by omega))).trans (hb4.mono (by have := hb2.size; simp at this; omega))⟩, by simp [intOf]; omega⟩
            | succ m =>
              obtain ⟨p0, p1⟩ := hc m (by omega)
              rw [Nat.add_sub_cancel] at hord
              obtain ⟨ps, hps⟩ : ∃ s, keyAt E m = s := ⟨_, rfl⟩
              rw [hps] at p0 hord
              obtain ⟨q2, hq2⟩ : ∃ q, m * 2 = q := ⟨_, rfl⟩
              rw [hq2] at p0 p1
              have hlss : Op.bytesLess ps.toList ks.toList = true := by
                have : ¬ less ps ks = false := fun e => hord ⟨by omega, e⟩
                simpa [less] using this
              have htri := tri ks.toList ps.toList
              rw [hlss] at htri
              have hA := (Bool.or_eq_false_iff.1 htri).1
              have hB2 := (Bool.or_eq_false_iff.1 htri).2
              clear htri hlss
              replace hps := Lib.hid hps
              clear hc hord
              go_wp2_with (go_at_call 44; refine (hck.out _).mono ?_; rintro e w2 ⟨rfl, hb2⟩; simp only [World.size_alloc] at hb2; obtain ⟨⟨x0, x1⟩, x2, x3⟩ := entBox wr w2 _ _ hb2; have f2 := (hb2.cell (p := ⟨w.heap.size, 0, none⟩) (by show w.heap.size < _; omega)).trans ((World.cell?_alloc_lt wr _ ⟨w.heap.size, 0, none⟩ hfw).trans xr); have p2 := (hb2.cell (p := ⟨b, off + q2, none⟩) (by show b < _; omega)).trans ((World.cell?_alloc_lt wr _ ⟨b, off + q2, none⟩ hbw).trans p0))
              go_quiet (fail)
              go_wp2_with (go_at_call 45; refine (hcv.out _).mono ?_; rintro e w3 ⟨rfl, hb3⟩; have hb4 := (below_drewN (Below.refl w2.heap.size w2) nq).trans (hb3.mono (by simp)))
              refine ⟨⟨m + 1 + 1, hlt, by go_num, hnext.out, (hBa.trans (hb2.mono (by omega))).trans (hb4.mono (by have := hb2.size; simp at this; omega))⟩, by simp [intOf]; omega⟩
          · have hne : (r != 0) = true := by simp [hr0]
            replace hr0 := Lib.hid hr0
            cases k with
            | zero =>
              obtain rfl : q = 0 := by omega
              rw [Nat.add_zero] at c0 c1
              clear hc hord hq
              go_wp2_with (go_at_call 44; refine (hck.out _).mono ?_; rintro e w2 ⟨rfl, hb2⟩; simp only [World.size_alloc] at hb2; obtain ⟨⟨x0, x1⟩, x2, x3⟩ := entBox wr w2 _ _ hb2; have f2 := (hb2.cell (p := ⟨w.heap.size, 0, none⟩) (by show w.heap.size < _; omega)).trans ((World.cell?_alloc_lt wr _ ⟨w.heap.size, 0, none⟩ hfw).trans xr))
              go_quiet (fail)
              go_wp2_with (go_at_call 45; refine (hcv.out _).mono ?_; rintro e w3 ⟨rfl, hb3⟩; have hb4 := (below_drewN (Below.refl w2.heap.size w2) nq).trans (hb3.mono (by simp)))
              go_ret
              refine ⟨ret_int ?_, hfin.out _ ((hBa.trans (hb2.mono (by omega))).trans (hb4.mono (by have := hb2.size; simp at this; omega)))⟩
              rw [hme0.out, hhit.out (by rw [he.out]; exact hr0.out), he.out]
            | succ m =>
              obtain ⟨p0, p1⟩ := hc m (by omega)
              rw [Nat.add_sub_cancel] at hord
              obtain ⟨ps, hps⟩ : ∃ s, keyAt E m = s := ⟨_, rfl⟩
              rw [hps] at p0 hord
              obtain ⟨q2, hq2⟩ : ∃ q, m * 2 = q := ⟨_, rfl⟩
              rw [hq2] at p0 p1
              have hlss : Op.bytesLess ps.toList ks.toList = true := by
                have : ¬ less ps ks = false := fun e => hord ⟨by omega, e⟩
                simpa [less] using this
              have htri := tri ks.toList ps.toList
              rw [hlss] at htri
              have hA := (Bool.or_eq_false_iff.1 htri).1
              have hB2 := (Bool.or_eq_false_iff.1 htri).2
              clear htri hlss
              replace hps := Lib.hid hps
              clear hc hord
              go_wp2_with (go_at_call 44; refine (hck.out _).mono ?_; rintro e w2 ⟨rfl, hb2⟩; simp only [World.size_alloc] at hb2; obtain ⟨⟨x0, x1⟩, x2, x3⟩ := entBox wr w2 _ _ hb2; have f2 := (hb2.cell (p := ⟨w.heap.size, 0, none⟩) (by show w.heap.size < _; omega)).trans ((World.cell?_alloc_lt wr _ ⟨w.heap.size, 0, none⟩ hfw).trans xr); have p2 := (hb2.cell (p := ⟨b, off + q2, none⟩) (by show b < _; omega)).trans ((World.cell?_alloc_lt wr _ ⟨b, off + q2, none⟩ hbw).trans p0))
              go_quiet (fail)
              go_wp2_with (go_at_call 45; refine (hcv.out _).mono ?_; rintro e w3 ⟨rfl, hb3⟩; have hb4 := (below_drewN (Below.refl w2.heap.size w2) nq).trans (hb3.mono (by simp)))
              go_ret
              refine ⟨ret_int ?_, hfin.out _ ((hBa.trans (hb2.mono (by omega))).trans (hb4.mono (by have := hb2.size; simp at this; omega)))⟩
              rw [hme0.out, hhit.out (by rw [he.out]; exact hr0.out), he.out]
    · obtain rfl : k = n := by omega
      have hv : Hid (metaC E = 0) := Lib.hid (metaC_none hE.out (by rw [← hlen.out]; exact h0.out))
      go_wp2
      go_ret
      exact ⟨ret_int (hme0.out.trans hv.out).symm, hfin.out _ (hB)⟩

end Go.Proofs.Ytfkoboljobghkaa
