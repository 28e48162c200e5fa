/-
  Walk: the law of sizes.
-/
import Derived.Test.YtcnlghkdhpgnmaaFrSx
import Derived.Deep.RegionHeld3
set_option linter.unusedSimpArgs false
set_option linter.unusedVariables false
namespace Go.Proofs.Ytcnlghkdhpgnmaa
open Go.RowKit Go.Shelf

theorem Sl.drop1 {w : World} {g n : Nat} {l : List Int} (h : Sl w (some ⟨g, 0, none⟩) n n l) (hk : 1 ≤ n) : Sl w (if n = 1 then some ⟨g, 0, none⟩ else some ⟨g, 1, none⟩) (n - 1) (n - 1) (l.drop 1) := by
  have := h.drop hk
  simpa [Addr.add] using this

set_option maxRecDepth 100000 in
set_option maxHeartbeats 6400000 in
theorem lawSizes_ok (A : Option Addr) (n c : Nat) (E : List Ent) (W H : Nat) (M : Int) (gA offA n2 c2 : Nat) (P : List Int) (d : Int) (w : World) (h : En0 w A n c E) (h2 : Sl w (some ⟨gA, offA, none⟩) n2 c2 P) (hd : 0 ≤ d ∧ d ≤ 65535) (hsm : smallB n2 E M = true) (hg : Good W H M P E) :
    Calls Try.prog 11 #[.agg #[.slice A n c, .int .i64 (W : Int), .int .i64 (H : Int), .int .i64 M, .slice (some ⟨gA, offA, none⟩) n2 c2], .int .u16 d] w fun e w' => e = .returned (.bool true) ∧ Below w.heap.size w w' := by
  have hfew : fewB n2 E = true := by unfold smallB at hsm; rw [Bool.and_eq_true] at hsm; exact hsm.1
  have hM2 : M ≤ 2048 := by unfold smallB at hsm; rw [Bool.and_eq_true] at hsm; simpa using hsm.2
  have hb0 := (Below.refl w.heap.size w).alloc (Nat.le_refl _) (.cells #[.slice A n c, .int .i64 (W : Int), .int .i64 (H : Int), .int .i64 M, .slice (some ⟨gA, offA, none⟩) n2 c2] 27)
  have hn0 := Lib.hid (h.alloc (.cells #[.slice A n c, .int .i64 (W : Int), .int .i64 (H : Int), .int .i64 M, .slice (some ⟨gA, offA, none⟩) n2 c2] 27))
  have hn := Lib.hid (hn0.out.few hfew)
  have hs := Lib.hid (h2.alloc (.cells #[.slice A n c, .int .i64 (W : Int), .int .i64 (H : Int), .int .i64 M, .slice (some ⟨gA, offA, none⟩) n2 c2] 27))
  have hz0 := heap_alloc_new w (.cells #[.slice A n c, .int .i64 (W : Int), .int .i64 (H : Int), .int .i64 M, .slice (some ⟨gA, offA, none⟩) n2 c2] 27)
  have hcf := fun v (hv : En0 v A n c E) => small_any A n c E (W : Int) (H : Int) M (some ⟨gA, offA, none⟩) n2 c2 v hv (by have := h2.le_cap; have := h2.cap_le; omega)
  rw [hsm] at hcf
  replace hcf := Lib.hid hcf
  have hck := Lib.hid (fun v (hv : En v A n c E) (hv2 : Sl v (some ⟨gA, offA, none⟩) n2 c2 P) => lcheck_any A n c E (W : Int) (H : Int) M (some ⟨gA, offA, none⟩) n2 c2 P v hv hv2 (r := 0) (.inr ⟨hg.1, hg.2.symm⟩))
  obtain ⟨FL, hFL⟩ : ∃ L, (fileB E W H M P).length = L := ⟨_, rfl⟩
  have hce : ∀ v, En v A n c E → Sl v (some ⟨gA, offA, none⟩) n2 c2 P → Calls Try.prog 31 #[.agg #[.slice A n c, .int .i64 (W : Int), .int .i64 (H : Int), .int .i64 M, .slice (some ⟨gA, offA, none⟩) n2 c2]] v fun e w' => ∃ r c', e = .returned (.tuple #[.slice (some ⟨r, 0, none⟩) FL c', .int .i64 0]) ∧ Below v.heap.size v w' := fun v hv hv2 =>
    (Encode_yes A n c E W H M (some ⟨gA, offA, none⟩) n2 c2 P v hv hv2 hg).mono (fun e w' ⟨r, c', he, ho, hb⟩ => ⟨r, c', by rw [hFL] at he; exact he, hb⟩)
  replace hce := Lib.hid hce
  have hle := fileB_le (E := E) hg.1
  have hlenE := h.1
  have hcapE := h.2.1
  have hclE := h.2.2.1
  have hlenP := h2.len
  have hcapP := h2.le_cap
  have hclP := h2.cap_le
  have hE32 := (metaC_zero hg.2).1
  have hents := Lib.hid (ents_length hg.2)
  obtain ⟨⟨⟨w1', w2'⟩, ⟨v1, v2⟩, m1, m2⟩, har, hP⟩ := id hg.1
  obtain ⟨q2, hq2⟩ : ∃ q, (17 * W + 7) / 8 = q := ⟨_, rfl⟩
  have hq2i : (17 * (W : Int) + 7) / 8 = (q2 : Int) := by rw [← hq2]; omega
  obtain ⟨K, hK⟩ : ∃ K, H * (1 + q2) = K := ⟨_, rfl⟩
  have hKi : (H : Int) * (1 + (q2 : Int)) = (K : Int) := by rw [← hK]; simp
  have hq2b : q2 ≤ 200 := by omega
  have hKb : K ≤ 20000 := by
    rw [← hK]
    have : H * (1 + q2) ≤ 64 * 201 := Nat.mul_le_mul (by omega) (by omega)
    omega
  rw [hq2, hK, hFL] at hle
  have hpp := hg.1.pos
  have hn20 : 0 < n2 := by omega
  have hn24 : n2 ≤ 4096 := by omega
  have hras := Lib.hid hg.1
  have hle2 := Lib.hid hle
  have hlE := Lib.hid hlenE
  have hlP := Lib.hid hlenP
  replace hP := Lib.hid hP
  replace hg := Lib.hid hg
  replace hFL := Lib.hid hFL
  replace hq2 := Lib.hid hq2
  replace hK := Lib.hid hK
  clear h h2 hsm hfew hle hlenE hlenP har hpp
  go_enter Try.func11, Try.ntmps11
  go_wp2_with (first
    | (go_at_call 12; refine (known_any _).mono ?_; rintro e w1 ⟨rfl, hb1⟩; obtain ⟨x0, x1, x2, x3, x4⟩ := cell5 ((hb1.block w.heap.size (by simp)).trans hz0))
    | (go_at_call 30; refine (hcf.out _ (hn0.out.below hb1 (Nat.le_refl _))).mono ?_; rintro e w2 ⟨rfl, hb2'⟩; have hb2 := hb1.trans (hb2'.mono hb1.size); clear hb2' x0 x1 x2 x3 x4; obtain ⟨x0, x1, x2, x3, x4⟩ := cell5 ((hb2.block w.heap.size (by simp)).trans hz0))
    | (go_at_call 15; refine (hck.out _ (hn.out.below hb2 (Nat.le_refl _)) (hs.out.below hb2 (Nat.le_refl _))).mono ?_; rintro e w3 ⟨rfl, hb3'⟩; have hb3 := hb2.trans (hb3'.mono hb2.size); clear hb3' x0 x1 x2 x3 x4; obtain ⟨x0, x1, x2, x3, x4⟩ := cell5 ((hb3.block w.heap.size (by simp)).trans hz0))
    | (go_at_call 31; refine (hce.out _ (hn.out.below hb3 (Nat.le_refl _)) (hs.out.below hb3 (Nat.le_refl _))).mono ?_; rintro e w4 ⟨r4, c4, rfl, hb4'⟩; have hb4 := hb3.trans (hb4'.mono hb3.size); clear hb4' x0 x1 x2 x3 x4; obtain ⟨x0, x1, x2, x3, x4⟩ := cell5 ((hb4.block w.heap.size (by simp)).trans hz0)))
  clear x0 x1 x2 x3 x4
  go_loopw [7, 34] (fun ho io wr => ∃ (j : Nat) (x : Int), j ≤ n ∧ io = .int .i64 (j : Int) ∧ ho = .int .i64 x ∧ Hid (x = 20 + (((E.take j).flatMap ent).length : Int)) ∧ 0 ≤ x ∧ x ≤ 10000 ∧ Below (w.alloc (.cells #[.slice A n c, .int .i64 (W : Int), .int .i64 (H : Int), .int .i64 M, .slice (some ⟨gA, offA, none⟩) n2 c2] 27)).heap.size (w.alloc (.cells #[.slice A n c, .int .i64 (W : Int), .int .i64 (H : Int), .int .i64 M, .slice (some ⟨gA, offA, none⟩) n2 c2] 27)) wr) (fun _ io _ => n - (intOf io).toNat)
  case atStart => exact ⟨0, 20, Nat.zero_le _, rfl, rfl, Lib.hid (by simp), by omega, by omega, hb4⟩
  case round =>
    clear hb1 hb2 hb3 hb4
    obtain ⟨j, x, hj, rfl, rfl, hx, hx0, hx1, hB⟩ := hrel
    by_cases hlt : j < n
    · obtain ⟨b, off, rfl, hbw, hc⟩ := (hn.out.below hB (Nat.le_refl _)).at_ (by omega)
      obtain ⟨c0, c1⟩ := hc j hlt
      have hnx : Hid (((E.take (j + 1)).flatMap ent).length = ((E.take j).flatMap ent).length + ((keyAt E j).size + (valAt E j).size + 2)) := Lib.hid (by rw [ents_take (by rw [← hlE.out]; exact hlt), List.length_append, ent_length])
      have hbd := hents.out (j + 1) (by rw [← hlE.out]; exact hlt)
      rw [hnx.out] at hbd
      obtain ⟨ks, hks⟩ : ∃ s, keyAt E j = s := ⟨_, rfl⟩
      obtain ⟨vs, hvs⟩ : ∃ s, valAt E j = s := ⟨_, rfl⟩
      rw [hks] at c0 hbd
      rw [hvs] at c1 hbd
      have hnx2 : Hid (((E.take (j + 1)).flatMap ent).length = ((E.take j).flatMap ent).length + (ks.size + vs.size + 2)) := Lib.hid (by rw [hnx.out, hks, hvs])
      obtain ⟨q, hq⟩ : ∃ q, j * 2 = q := ⟨_, rfl⟩
      rw [hq] at c0 c1
      have hxb : x + ((ks.size : Int) + (vs.size : Int) + 2) ≤ 10000 := by have := hx.out; have := hlE.out; omega
      replace hks := Lib.hid hks
      replace hvs := Lib.hid hvs
      replace hbd := Lib.hid hbd
      clear hc
      go_wp2
      refine ⟨⟨j + 1, _, hlt, by go_num, rfl, Lib.hid ?_, by omega, hxb, hB.alloc hB.size _⟩, by simp [intOf]; omega⟩
      rw [hnx2.out, hx.out]
      omega
    · obtain rfl : n = j := by omega
      obtain ⟨w5, rfl⟩ : ∃ w5, w5 = wr := ⟨_, rfl⟩
      have hxe : x = 20 + ((E.flatMap ent).length : Int) := by rw [hx.out, List.take_of_length_le (by rw [← hlE.out]; exact Nat.le_refl _)]
      have hcmp : ¬ (x + (K : Int) < (FL : Int)) := by have := hle2.out; omega
      replace hxe := Lib.hid hxe
      obtain ⟨x0, x1, x2, x3, x4⟩ := cell5 ((hB.block w.heap.size (by simp)).trans hz0)
      by_cases hH : (1 : Int) < (H : Int)
      · by_cases hW : (1 : Int) < (W : Int)
        · go_wp2
          go_ret
          exact ⟨rfl, hb0.trans (hB.mono (by simp))⟩
        · have hline : Hid (W = 1 ∨ H = 1) := Lib.hid (.inl (by omega))
          go_wp2_with (go_at_call 47; refine (Clone_some (some ⟨gA, offA, none⟩) n2 c2 P _ ((hs.out.below hB (Nat.le_refl _)).alloc _) hn20 (by omega)).mono ?_; rintro e w6 ⟨g6, c6, rfl, hg6, hbl6, hnc6, hcm6, hb6'⟩; have kR := (RB.new w5 (W : Int) (H : Int) M (some ⟨gA, offA, none⟩) n2 c2).below hb6' (by simp); obtain ⟨⟨d0, d1, d2, d3⟩, f0, f1, f2, f3⟩ := kR.cells)
          simp only [World.size_alloc] at hg6
          have hsz6 := hb6'.size
          simp only [World.size_alloc] at hsz6
          have hszB := hB.size
          simp only [World.size_alloc] at hszB
          have hB6 := (hB.alloc hB.size (.cells #[.int .i64 (W : Int), .int .i64 (H : Int), .int .i64 M, .slice (some ⟨gA, offA, none⟩) n2 c2] 25)).trans (hb6'.mono (by simp; omega))
          have hq6 := (hB6.block w.heap.size (by simp)).trans hz0
          obtain ⟨w7, hw7⟩ : ∃ w7, w6.setCell ⟨w5.heap.size, 3, none⟩ (.slice (some ⟨g6, 0, none⟩) n2 c6) = w7 := ⟨_, rfl⟩
          rw [hw7]
          have kR7 : RB w7 w5.heap.size W H M (some ⟨g6, 0, none⟩) n2 c6 := by rw [← hw7]; exact kR.set3 _ _ _
          have hbl7 : Bl w7 g6 P := by rw [← hw7]; exact hbl6.far (by show g6 ≠ w5.heap.size; omega) _
          have hB7 : Below (w.alloc (.cells #[.slice A n c, .int .i64 (W : Int), .int .i64 (H : Int), .int .i64 M, .slice (some ⟨gA, offA, none⟩) n2 c2] 27)).heap.size (w.alloc (.cells #[.slice A n c, .int .i64 (W : Int), .int .i64 (H : Int), .int .i64 M, .slice (some ⟨gA, offA, none⟩) n2 c2] 27)) w7 := by rw [← hw7]; exact hB6.setCell (by simp; omega) _
          have hs7 : w7.heap.size = w6.heap.size := by rw [← hw7]; simp [World.setCell]
          replace hw7 := Lib.hid hw7
          clear d0 d1 d2 d3 f0 f1 f2 f3 kR x0 x1 x2 x3 x4
          have hbl6l := hbl7.lt
          go_loopw [88] (fun io w8 => ∃ (k : Nat) (L : List Int), k ≤ n2 ∧ io = .int .i64 (k : Int) ∧ Bl w8 g6 L ∧ Hid (L.length = n2 ∧ (∀ i, i < k → nth L i = mov d (M + 1) (nth P i)) ∧ ∀ i, k ≤ i → nth L i = nth P i) ∧ RB w8 w5.heap.size W H M (some ⟨g6, 0, none⟩) n2 c6 ∧ Only w7 w8 g6) (fun io _ => n2 - (intOf io).toNat)
          case atStart => exact ⟨0, P, Nat.zero_le _, rfl, hbl7, Lib.hid ⟨hlP.out.symm, fun i hi => absurd hi (Nat.not_lt_zero _), fun i _ => rfl⟩, kR7, Only.refl _ _⟩
          case round =>
            clear hbl7 kR7
            obtain ⟨k, L, hk, rfl, hbl, hL, kR, hO⟩ := hrel
            obtain ⟨⟨d0, d1, d2, d3⟩, f0, f1, f2, f3⟩ := kR.cells
            by_cases hlk : k < n2
            · have hLl := hL.out.1
              have y0 := hbl.cell (i := k) (by rw [hLl]; exact hlk)
              have y1 := hbl.frozen k
              rw [hL.out.2.2 k (Nat.le_refl _)] at y0
              obtain ⟨y, hy⟩ : ∃ y, nth P k = y := ⟨_, rfl⟩
              have hyr : 0 ≤ y ∧ y ≤ M := by rw [← hy, nth_eq (by rw [← hlP.out]; exact hlk)]; exact hP.out _ (List.getElem_mem _)
              rw [hy] at y0
              have hne : M + 1 ≠ 0 := by omega
              obtain ⟨u, hu⟩ : ∃ u, (y + d) % (M + 1) = u := ⟨_, rfl⟩
              have hur : 0 ≤ u ∧ u ≤ M := by rw [← hu]; exact ⟨Int.emod_nonneg _ hne, by have := Int.emod_lt_of_pos (y + d) (b := M + 1) (by omega); omega⟩
              have ht : (y + d).tmod (M + 1) = u := by rw [Int.tmod_eq_emod_of_nonneg (by omega), hu]
              have hwA : IntKind.i64.wrap (y + d) = y + d := IntWalk.i64_in _ (by omega)
              have hwB : IntKind.i64.wrap (M + 1) = M + 1 := IntWalk.i64_in _ (by omega)
              have hwC : IntKind.i64.wrap d = d := IntWalk.i64_in _ (by omega)
              have hwD : IntKind.i64.wrap u = u := IntWalk.i64_in _ (by omega)
              have hkl : Hid (nth P k = y) := Lib.hid hy
              replace hu := Lib.hid hu
              clear hy
              go_wp2
              go_region
              all_goals go_wp2
              all_goals
                refine ⟨⟨k + 1, L.set k u, hlk, by go_num, hbl.set k _, Lib.hid ⟨by rw [List.length_set]; exact hLl, fun i hi => ?_, fun i hi => ?_⟩, kR.far (p := ⟨g6, k, none⟩) (by show w5.heap.size ≠ g6; omega) _, by first | exact (hO.setCell (p := ⟨g6, k, none⟩) rfl _).drew | exact hO.setCell (p := ⟨g6, k, none⟩) rfl _⟩, by simp [intOf]; omega⟩
                · by_cases e : i = k
                  · rw [e, nth_set_self (by rw [hLl]; exact hlk), hkl.out]; exact hu.out.symm
                  · rw [nth_set_ne (fun e' => e e'.symm)]; exact hL.out.2.1 i (by omega)
                · rw [nth_set_ne (by omega)]; exact hL.out.2.2 i (by omega)
            · obtain rfl : n2 = k := by omega
              have hLe : L = P.map (mov d (M + 1)) := nth_ext (by rw [List.length_map, hL.out.1, hlP.out]) fun i hi => by
                rw [hL.out.1] at hi
                rw [nth_map (by rw [← hlP.out]; exact hi), hL.out.2.1 i hi]
              have hB8 : Below (w.alloc (.cells #[.slice A n c, .int .i64 (W : Int), .int .i64 (H : Int), .int .i64 M, .slice (some ⟨gA, offA, none⟩) n2 c2] 27)).heap.size (w.alloc (.cells #[.slice A n c, .int .i64 (W : Int), .int .i64 (H : Int), .int .i64 M, .slice (some ⟨gA, offA, none⟩) n2 c2] 27)) wr := hB7.trans (hO.below (by simp; omega) (by rw [hs7]; simp; omega))
              have hz8 := (hO.block w.heap.size (by omega) (fun e => by injection e; omega)).trans ((hB7.block w.heap.size (by simp)).trans hz0)
              obtain ⟨x0, x1, x2, x3, x4⟩ := cell5 hz8
              have hsl8 := hbl.sl0 (n := n2) (c := c6) hL.out.1.symm hnc6 hcm6
              rw [hLe] at hsl8
              have hr1 := Lib.hid (fun W' hW => Residuals_yes W (H : Int) M gA offA n2 c2 P W' hW hras.out)
              have hr2 := Lib.hid (fun W' hW => Residuals_yes W (H : Int) M g6 0 n2 c6 (P.map (mov d (M + 1))) W' hW (moved_ras hras.out))
              have hmv := Lib.hid (residuals_moved (a := d) hras.out hline.out)
              have hl1 := Lib.hid (residuals_length W M P)
              have hl2 := Lib.hid (residuals_length W M (P.map (mov d (M + 1))))
              obtain ⟨R1, hR1⟩ : ∃ R, residuals W M P = R := ⟨_, rfl⟩
              obtain ⟨R2, hR2⟩ : ∃ R, residuals W M (P.map (mov d (M + 1))) = R := ⟨_, rfl⟩
              rw [hR1] at hr1 hmv hl1
              rw [hR2] at hr2 hmv hl2
              have hk1 : Hid (n2 = R1.length) := Lib.hid (by rw [hl1.out]; exact hlP.out)
              have hk2 : Hid (n2 = R2.length) := Lib.hid (by rw [hl2.out, List.length_map]; exact hlP.out)
              replace hLe := Lib.hid hLe
              replace hR1 := Lib.hid hR1
              replace hR2 := Lib.hid hR2
              replace hsl8 := Lib.hid hsl8
              replace hbl := Lib.hid hbl
              clear hl1 hl2
              have tok1 : True := trivial
              go_wp2_with (first
                | (go_at_call 16; have _t := tok1; clear tok1 _t; refine (hr1.out _ (hs.out.below hB8 (Nat.le_refl _))).mono ?_; rintro e w9 ⟨g9, rfl, hg9, hbl9, hb9⟩; replace hbl9 := Lib.hid hbl9; have hsl9 := Lib.hid (hsl8.out.below hb9 (Nat.le_refl _)); have kR9 := kR.below hb9 kR.lt; clear d0 d1 d2 d3 f0 f1 f2 f3 x0 x1 x2 x3 x4; obtain ⟨⟨d0, d1, d2, d3⟩, f0, f1, f2, f3⟩ := kR9.cells)
                | (go_at_call 16; refine (hr2.out _ hsl9.out).mono ?_; rintro e w10 ⟨g10, rfl, hg10, hbl10, hb10⟩; replace hbl10 := Lib.hid hbl10))
              have hB10 : Below (w.alloc (.cells #[.slice A n c, .int .i64 (W : Int), .int .i64 (H : Int), .int .i64 M, .slice (some ⟨gA, offA, none⟩) n2 c2] 27)).heap.size (w.alloc (.cells #[.slice A n c, .int .i64 (W : Int), .int .i64 (H : Int), .int .i64 M, .slice (some ⟨gA, offA, none⟩) n2 c2] 27)) w10 := (hB8.trans (hb9.mono (by have := hB8.size; omega))).trans (hb10.mono (by have := hB8.size; have := hb9.size; omega))
              have hS1 := Lib.hid (((hbl9.out.below hb10 hbl9.out.lt).sl0 hk1.out (Nat.le_refl _) (by omega)).drop1 (by omega))
              have hS2 := (hbl10.out.sl0 hk2.out (Nat.le_refl _) (by omega)).drop1 (by omega)
              rw [hmv.out] at hS2
              replace hS2 := Lib.hid hS2
              have hcE := fun (W' : World) A1 A2 h1 h2 => sEqual_any A1 (n2 - 1) (n2 - 1) (R1.drop 1) A2 (n2 - 1) (n2 - 1) (R1.drop 1) W' h1 h2
              rw [eql_self] at hcE
              replace hcE := Lib.hid hcE
              have h1a : (1 : Int) ≤ (n2 : Int) := by omega
              have h1b : 1 ≤ n2 := by omega
              have hfin := Lib.hid (hb0.trans (hB10.mono (by simp)))
              have hs10 := hB10.size
              simp only [World.size_alloc] at hs10
              clear hB10 hb0
              by_cases e1 : n2 = 1
              · subst e1
                have hT1 := hS1.out
                have hT2 := hS2.out
                rw [if_pos rfl] at hT1 hT2
                simp only [Nat.sub_self] at hT1 hT2 hcE
                replace hT1 := Lib.hid hT1
                replace hT2 := Lib.hid hT2
                go_region_held3 (fun w' => True) (exact trivial) (first | (go_at_call 19; refine (hcE.out _ _ _ (by exact hT1.out) (by exact hT2.out)).mono ?_; rintro e w11 ⟨rfl, hb11⟩; replace hb11 := undrew hb11))
                go_wp2
                go_ret
                exact ⟨ret_bool (by first | rfl | simp), hfin.out.trans (hb11.mono (by omega))⟩
              · have hT1 := hS1.out
                have hT2 := hS2.out
                rw [if_neg e1] at hT1 hT2
                replace hT1 := Lib.hid hT1
                replace hT2 := Lib.hid hT2
                go_region_held3 (fun w' => True) (exact trivial) (first | (go_at_call 19; refine (hcE.out _ _ _ (by exact hT1.out) (by exact hT2.out)).mono ?_; rintro e w11 ⟨rfl, hb11⟩; replace hb11 := undrew hb11))
                go_wp2
                go_ret
                exact ⟨ret_bool (by first | rfl | simp), hfin.out.trans (hb11.mono (by omega))⟩
      · have hline : Hid (W = 1 ∨ H = 1) := Lib.hid (.inr (by omega))
        go_wp2_with (go_at_call 47; refine (Clone_some (some ⟨gA, offA, none⟩) n2 c2 P _ ((hs.out.below hB (Nat.le_refl _)).alloc _) hn20 (by omega)).mono ?_; rintro e w6 ⟨g6, c6, rfl, hg6, hbl6, hnc6, hcm6, hb6'⟩; have kR := (RB.new w5 (W : Int) (H : Int) M (some ⟨gA, offA, none⟩) n2 c2).below hb6' (by simp); obtain ⟨⟨d0, d1, d2, d3⟩, f0, f1, f2, f3⟩ := kR.cells)
        simp only [World.size_alloc] at hg6
        have hsz6 := hb6'.size
        simp only [World.size_alloc] at hsz6
        have hszB := hB.size
        simp only [World.size_alloc] at hszB
        have hB6 := (hB.alloc hB.size (.cells #[.int .i64 (W : Int), .int .i64 (H : Int), .int .i64 M, .slice (some ⟨gA, offA, none⟩) n2 c2] 25)).trans (hb6'.mono (by simp; omega))
        have hq6 := (hB6.block w.heap.size (by simp)).trans hz0
        obtain ⟨w7, hw7⟩ : ∃ w7, w6.setCell ⟨w5.heap.size, 3, none⟩ (.slice (some ⟨g6, 0, none⟩) n2 c6) = w7 := ⟨_, rfl⟩
        rw [hw7]
        have kR7 : RB w7 w5.heap.size W H M (some ⟨g6, 0, none⟩) n2 c6 := by rw [← hw7]; exact kR.set3 _ _ _
        have hbl7 : Bl w7 g6 P := by rw [← hw7]; exact hbl6.far (by show g6 ≠ w5.heap.size; omega) _
        have hB7 : Below (w.alloc (.cells #[.slice A n c, .int .i64 (W : Int), .int .i64 (H : Int), .int .i64 M, .slice (some ⟨gA, offA, none⟩) n2 c2] 27)).heap.size (w.alloc (.cells #[.slice A n c, .int .i64 (W : Int), .int .i64 (H : Int), .int .i64 M, .slice (some ⟨gA, offA, none⟩) n2 c2] 27)) w7 := by rw [← hw7]; exact hB6.setCell (by simp; omega) _
        have hs7 : w7.heap.size = w6.heap.size := by rw [← hw7]; simp [World.setCell]
        replace hw7 := Lib.hid hw7
        clear d0 d1 d2 d3 f0 f1 f2 f3 kR x0 x1 x2 x3 x4
        have hbl6l := hbl7.lt
        go_loopw [88] (fun io w8 => ∃ (k : Nat) (L : List Int), k ≤ n2 ∧ io = .int .i64 (k : Int) ∧ Bl w8 g6 L ∧ Hid (L.length = n2 ∧ (∀ i, i < k → nth L i = mov d (M + 1) (nth P i)) ∧ ∀ i, k ≤ i → nth L i = nth P i) ∧ RB w8 w5.heap.size W H M (some ⟨g6, 0, none⟩) n2 c6 ∧ Only w7 w8 g6) (fun io _ => n2 - (intOf io).toNat)
        case atStart => exact ⟨0, P, Nat.zero_le _, rfl, hbl7, Lib.hid ⟨hlP.out.symm, fun i hi => absurd hi (Nat.not_lt_zero _), fun i _ => rfl⟩, kR7, Only.refl _ _⟩
        case round =>
          clear hbl7 kR7
          obtain ⟨k, L, hk, rfl, hbl, hL, kR, hO⟩ := hrel
          obtain ⟨⟨d0, d1, d2, d3⟩, f0, f1, f2, f3⟩ := kR.cells
          by_cases hlk : k < n2
          · have hLl := hL.out.1
            have y0 := hbl.cell (i := k) (by rw [hLl]; exact hlk)
            have y1 := hbl.frozen k
            rw [hL.out.2.2 k (Nat.le_refl _)] at y0
            obtain ⟨y, hy⟩ : ∃ y, nth P k = y := ⟨_, rfl⟩
            have hyr : 0 ≤ y ∧ y ≤ M := by rw [← hy, nth_eq (by rw [← hlP.out]; exact hlk)]; exact hP.out _ (List.getElem_mem _)
            rw [hy] at y0
            have hne : M + 1 ≠ 0 := by omega
            obtain ⟨u, hu⟩ : ∃ u, (y + d) % (M + 1) = u := ⟨_, rfl⟩
            have hur : 0 ≤ u ∧ u ≤ M := by rw [← hu]; exact ⟨Int.emod_nonneg _ hne, by have := Int.emod_lt_of_pos (y + d) (b := M + 1) (by omega); omega⟩
            have ht : (y + d).tmod (M + 1) = u := by rw [Int.tmod_eq_emod_of_nonneg (by omega), hu]
            have hwA : IntKind.i64.wrap (y + d) = y + d := IntWalk.i64_in _ (by omega)
            have hwB : IntKind.i64.wrap (M + 1) = M + 1 := IntWalk.i64_in _ (by omega)
            have hwC : IntKind.i64.wrap d = d := IntWalk.i64_in _ (by omega)
            have hwD : IntKind.i64.wrap u = u := IntWalk.i64_in _ (by omega)
            have hkl : Hid (nth P k = y) := Lib.hid hy
            replace hu := Lib.hid hu
            clear hy
            go_wp2
            go_region
            all_goals go_wp2
            all_goals
              refine ⟨⟨k + 1, L.set k u, hlk, by go_num, hbl.set k _, Lib.hid ⟨by rw [List.length_set]; exact hLl, fun i hi => ?_, fun i hi => ?_⟩, kR.far (p := ⟨g6, k, none⟩) (by show w5.heap.size ≠ g6; omega) _, by first | exact (hO.setCell (p := ⟨g6, k, none⟩) rfl _).drew | exact hO.setCell (p := ⟨g6, k, none⟩) rfl _⟩, by simp [intOf]; omega⟩
              · by_cases e : i = k
                · rw [e, nth_set_self (by rw [hLl]; exact hlk), hkl.out]; exact hu.out.symm
                · rw [nth_set_ne (fun e' => e e'.symm)]; exact hL.out.2.1 i (by omega)
              · rw [nth_set_ne (by omega)]; exact hL.out.2.2 i (by omega)
          · obtain rfl : n2 = k := by omega
            have hLe : L = P.map (mov d (M + 1)) := nth_ext (by rw [List.length_map, hL.out.1, hlP.out]) fun i hi => by
              rw [hL.out.1] at hi
              rw [nth_map (by rw [← hlP.out]; exact hi), hL.out.2.1 i hi]
            have hB8 : Below (w.alloc (.cells #[.slice A n c, .int .i64 (W : Int), .int .i64 (H : Int), .int .i64 M, .slice (some ⟨gA, offA, none⟩) n2 c2] 27)).heap.size (w.alloc (.cells #[.slice A n c, .int .i64 (W : Int), .int .i64 (H : Int), .int .i64 M, .slice (some ⟨gA, offA, none⟩) n2 c2] 27)) wr := hB7.trans (hO.below (by simp; omega) (by rw [hs7]; simp; omega))
            have hz8 := (hO.block w.heap.size (by omega) (fun e => by injection e; omega)).trans ((hB7.block w.heap.size (by simp)).trans hz0)
            obtain ⟨x0, x1, x2, x3, x4⟩ := cell5 hz8
            have hsl8 := hbl.sl0 (n := n2) (c := c6) hL.out.1.symm hnc6 hcm6
            rw [hLe] at hsl8
            have hr1 := Lib.hid (fun W' hW => Residuals_yes W (H : Int) M gA offA n2 c2 P W' hW hras.out)
            have hr2 := Lib.hid (fun W' hW => Residuals_yes W (H : Int) M g6 0 n2 c6 (P.map (mov d (M + 1))) W' hW (moved_ras hras.out))
            have hmv := Lib.hid (residuals_moved (a := d) hras.out hline.out)
            have hl1 := Lib.hid (residuals_length W M P)
            have hl2 := Lib.hid (residuals_length W M (P.map (mov d (M + 1))))
            obtain ⟨R1, hR1⟩ : ∃ R, residuals W M P = R := ⟨_, rfl⟩
            obtain ⟨R2, hR2⟩ : ∃ R, residuals W M (P.map (mov d (M + 1))) = R := ⟨_, rfl⟩
            rw [hR1] at hr1 hmv hl1
            rw [hR2] at hr2 hmv hl2
            have hk1 : Hid (n2 = R1.length) := Lib.hid (by rw [hl1.out]; exact hlP.out)
            have hk2 : Hid (n2 = R2.length) := Lib.hid (by rw [hl2.out, List.length_map]; exact hlP.out)
            replace hLe := Lib.hid hLe
            replace hR1 := Lib.hid hR1
            replace hR2 := Lib.hid hR2
            replace hsl8 := Lib.hid hsl8
            replace hbl := Lib.hid hbl
            clear hl1 hl2
            have tok1 : True := trivial
            go_wp2_with (first
              | (go_at_call 16; have _t := tok1; clear tok1 _t; refine (hr1.out _ (hs.out.below hB8 (Nat.le_refl _))).mono ?_; rintro e w9 ⟨g9, rfl, hg9, hbl9, hb9⟩; replace hbl9 := Lib.hid hbl9; have hsl9 := Lib.hid (hsl8.out.below hb9 (Nat.le_refl _)); have kR9 := kR.below hb9 kR.lt; clear d0 d1 d2 d3 f0 f1 f2 f3 x0 x1 x2 x3 x4; obtain ⟨⟨d0, d1, d2, d3⟩, f0, f1, f2, f3⟩ := kR9.cells)
              | (go_at_call 16; refine (hr2.out _ hsl9.out).mono ?_; rintro e w10 ⟨g10, rfl, hg10, hbl10, hb10⟩; replace hbl10 := Lib.hid hbl10))
            have hB10 : Below (w.alloc (.cells #[.slice A n c, .int .i64 (W : Int), .int .i64 (H : Int), .int .i64 M, .slice (some ⟨gA, offA, none⟩) n2 c2] 27)).heap.size (w.alloc (.cells #[.slice A n c, .int .i64 (W : Int), .int .i64 (H : Int), .int .i64 M, .slice (some ⟨gA, offA, none⟩) n2 c2] 27)) w10 := (hB8.trans (hb9.mono (by have := hB8.size; omega))).trans (hb10.mono (by have := hB8.size; have := hb9.size; omega))
            have hS1 := Lib.hid (((hbl9.out.below hb10 hbl9.out.lt).sl0 hk1.out (Nat.le_refl _) (by omega)).drop1 (by omega))
            have hS2 := (hbl10.out.sl0 hk2.out (Nat.le_refl _) (by omega)).drop1 (by omega)
            rw [hmv.out] at hS2
            replace hS2 := Lib.hid hS2
            have hcE := fun (W' : World) A1 A2 h1 h2 => sEqual_any A1 (n2 - 1) (n2 - 1) (R1.drop 1) A2 (n2 - 1) (n2 - 1) (R1.drop 1) W' h1 h2
            rw [eql_self] at hcE
            replace hcE := Lib.hid hcE
            have h1a : (1 : Int) ≤ (n2 : Int) := by omega
            have h1b : 1 ≤ n2 := by omega
            have hfin := Lib.hid (hb0.trans (hB10.mono (by simp)))
            have hs10 := hB10.size
            simp only [World.size_alloc] at hs10
            clear hB10 hb0
            by_cases e1 : n2 = 1
            · subst e1
              have hT1 := hS1.out
              have hT2 := hS2.out
              rw [if_pos rfl] at hT1 hT2
              simp only [Nat.sub_self] at hT1 hT2 hcE
              replace hT1 := Lib.hid hT1
              replace hT2 := Lib.hid hT2
              go_region_held3 (fun w' => True) (exact trivial) (first | (go_at_call 19; refine (hcE.out _ _ _ (by exact hT1.out) (by exact hT2.out)).mono ?_; rintro e w11 ⟨rfl, hb11⟩; replace hb11 := undrew hb11))
              go_wp2
              go_ret
              exact ⟨ret_bool (by first | rfl | simp), hfin.out.trans (hb11.mono (by omega))⟩
            · have hT1 := hS1.out
              have hT2 := hS2.out
              rw [if_neg e1] at hT1 hT2
              replace hT1 := Lib.hid hT1
              replace hT2 := Lib.hid hT2
              go_region_held3 (fun w' => True) (exact trivial) (first | (go_at_call 19; refine (hcE.out _ _ _ (by exact hT1.out) (by exact hT2.out)).mono ?_; rintro e w11 ⟨rfl, hb11⟩; replace hb11 := undrew hb11))
              go_wp2
              go_ret
              exact ⟨ret_bool (by first | rfl | simp), hfin.out.trans (hb11.mono (by omega))⟩

end Go.Proofs.Ytcnlghkdhpgnmaa
