/-
  Walks: Paste of the reference.
-/
import Derived.Test.YtehnemdifkjhcaaRaW
set_option linter.unusedSimpArgs false
set_option linter.unusedVariables false
namespace Go.Proofs.Ytehnemdifkjhcaa
open Go.RowKit

/-- The place k of the result, as far as the pixels before (J, I) are pasted. -/
def pgc (a2 b2 : Nat) (x y : Int) (J I : Int) (j i : Nat) : Prop := (x ≤ (i : Int) ∧ (i : Int) < x + a2) ∧ (y ≤ (j : Int) ∧ (j : Int) < y + b2) ∧ ((j : Int) - y < J ∨ ((j : Int) - y = J ∧ (i : Int) - x < I))
instance {a2 b2 : Nat} {x y J I : Int} {j i : Nat} : Decidable (pgc a2 b2 x y J I j i) := by unfold pgc; infer_instance
def pgr (a2 b2 : Nat) (x y : Int) (P P2 : List Int) (J I : Int) (j i k : Nat) : Int :=
  if pgc a2 b2 x y J I j i then nth P2 (((j : Int) - y).toNat * a2 + ((i : Int) - x).toNat) else nth P k
def pg (a a2 b2 : Nat) (x y : Int) (P P2 : List Int) (J I : Int) (k : Nat) : Int := pgr a2 b2 x y P P2 J I (k / a) (k % a) k
theorem pg_at {a a2 b2 : Nat} {x y : Int} {P P2 : List Int} {J I : Int} {j i : Nat} (hi : i < a) : pg a a2 b2 x y P P2 J I (j * a + i) = pgr a2 b2 x y P P2 J I j i (j * a + i) := by unfold pg; rw [row_mod hi, row_div hi]
theorem pg_congr {a b a2 b2 : Nat} {x y : Int} {P P2 : List Int} {J I J' I' : Int} (h : ∀ j i : Nat, j < b → i < a → (pgc a2 b2 x y J I j i ↔ pgc a2 b2 x y J' I' j i)) : ∀ k, k < b * a → pg a a2 b2 x y P P2 J I k = pg a a2 b2 x y P P2 J' I' k := by
  intro k hk
  obtain ⟨j, i, hj, hi, rfl⟩ := grid hk
  rw [pg_at hi, pg_at hi]
  unfold pgr
  simp only [h j i hj hi]
theorem pg_pf {a b a2 b2 : Nat} {x y : Int} {P P2 : List Int} {J I : Int} (h : ∀ j i : Nat, j < b → i < a → (pgc a2 b2 x y J I j i ↔ ((x ≤ (i : Int) ∧ (i : Int) < x + a2) ∧ y ≤ (j : Int) ∧ (j : Int) < y + b2 ∧ (j : Int) - y < b2))) : ∀ k, k < b * a → pg a a2 b2 x y P P2 J I k = pf a a2 b2 x y P P2 b2 k := by
  intro k hk
  obtain ⟨j, i, hj, hi, rfl⟩ := grid hk
  rw [pg_at hi, pf_at hi]
  unfold pgr pfr
  simp only [h j i hj hi]
theorem pg_none {a b a2 b2 : Nat} {x y : Int} {P P2 : List Int} : ∀ k, k < b * a → nth P k = pg a a2 b2 x y P P2 0 0 k := by
  intro k hk
  obtain ⟨j, i, hj, hi, rfl⟩ := grid hk
  rw [pg_at hi]
  unfold pgr
  rw [if_neg (by unfold pgc; omega)]
theorem pg_set {a b a2 b2 : Nat} {x y : Int} {P P2 L : List Int} {j i yj xi q : Nat} {v : Int} (hlen : L.length = b * a) (hL : ∀ k, k < b * a → nth L k = pg a a2 b2 x y P P2 j i k) (hxi : x + i = (xi : Int)) (hyj : y + j = (yj : Int)) (hq : yj * a = q) (hyb : yj < b) (hxa : xi < a) (hi2 : i < a2) (hj2 : j < b2) (hv : nth P2 (j * a2 + i) = v) :
    (L.set (q + xi) v).length = b * a ∧ ∀ k, k < b * a → nth (L.set (q + xi) v) k = pg a a2 b2 x y P P2 j ((i + 1 : Nat) : Int) k := by
  refine ⟨by rw [List.length_set]; exact hlen, fun k hk => ?_⟩
  have hLk := hL k hk
  obtain ⟨jr, ir, hjr, hir, rfl⟩ := grid hk
  rw [pg_at hir] at hLk ⊢
  by_cases e : jr = yj ∧ ir = xi
  · obtain ⟨rfl, rfl⟩ := e
    subst hq
    rw [nth_set_self (by rw [hlen]; exact row_lt hjr hir)]
    unfold pgr
    rw [if_pos (by unfold pgc; omega), show ((jr : Int) - y).toNat = j by omega, show ((ir : Int) - x).toNat = i by omega, hv]
  · have hne : q + xi ≠ jr * a + ir := by
      intro e2
      apply e
      have h1 : (q + xi) / a = yj := by rw [← hq]; exact row_div hxa
      have h2 : (q + xi) % a = xi := by rw [← hq]; exact row_mod hxa
      rw [e2, row_div hir] at h1
      rw [e2, row_mod hir] at h2
      exact ⟨h1, h2⟩
    rw [nth_set_ne hne, hLk]
    unfold pgr
    have : pgc a2 b2 x y (j : Int) (i : Int) jr ir ↔ pgc a2 b2 x y (j : Int) ((i + 1 : Nat) : Int) jr ir := by unfold pgc; omega
    simp only [this]

theorem insT {W H M : Int} {A : Option Addr} {n c : Nat} {x y : Int} {w : World} {b : Bool} (hb : ins W H x y = b) :
    Calls Try.prog 23 #[.agg #[.int .i64 W, .int .i64 H, .int .i64 M, .slice A n c], .int .i64 x, .int .i64 y] w fun e w' => e = .returned (.bool b) ∧ Below w.heap.size w w' := hb ▸ rInside_any W H M A n c x y w

set_option maxRecDepth 100000 in
set_option maxHeartbeats 8000000 in
/-- Paste of the reference. -/
theorem rPaste_any (a b a2 b2 : Nat) (M : Int) (A : Option Addr) (n c : Nat) (P : List Int) (A2 : Option Addr) (n2 c2 : Nat) (P2 : List Int) (x y : Int) (w : World) (h : Sl w A n c P) (hA : A = none → c = 0) (h2 : Sl w A2 n2 c2 P2) (hr : Ras a b M P) (hr2 : Ras a2 b2 M P2) (hx : -64 ≤ x ∧ x ≤ 64) (hy : -64 ≤ y ∧ y ≤ 64) :
    Calls Try.prog 29 #[.agg #[.int .i64 a, .int .i64 b, .int .i64 M, .slice A n c], .agg #[.int .i64 a2, .int .i64 b2, .int .i64 M, .slice A2 n2 c2], .int .i64 x, .int .i64 y] w (RetF w a b M (pasted a a2 b2 x y P P2)) := by
  obtain ⟨k0, k1, k2, hb0, hz⟩ := pasteW_facts a b M A n c a2 b2 M A2 n2 c2 w
  have hs2 := Lib.hid (fun w' (hb : Below w.heap.size w w') => h2.below hb (Nat.le_refl _))
  obtain ⟨a', b', ea, eb, ⟨ha1, ha2⟩, ⟨hb1, hb2⟩, ⟨hM1, hM2⟩, hab, hl1, hl2⟩ := hr.nat
  obtain rfl : a = a' := by omega
  obtain rfl : b = b' := by omega
  obtain ⟨a', b', ea, eb, ⟨ga1, ga2⟩, ⟨gb1, gb2⟩, -, gab, gl1, gl2⟩ := hr2.nat
  obtain rfl : a2 = a' := by omega
  obtain rfl : b2 = b' := by omega
  have hnP := h.len
  have hnP2 := h2.len
  have hnn : n = b * a := by rw [hnP, hab, Nat.mul_comm]
  have hnn2 : n2 = b2 * a2 := by rw [hnP2, gab, Nat.mul_comm]
  have hP0 : 0 < P.length := by omega
  have hcop := Lib.hid (fun w' (hb : Below w.heap.size w w') => (rCopy_any a b M A n c P w' (h.below hb (Nat.le_refl _)) hA (by omega)).mono fun e w2 hret => hret.ret hP0)
  obtain ⟨bs, offs, rfl, hbsw, -⟩ := h2.at_ (by omega)
  have hPl := Lib.hid (show P.length = b * a by omega)
  obtain ⟨hx1, hx2⟩ := hx
  obtain ⟨hy1, hy2⟩ := hy
  have hn4 : n ≤ 4096 := by omega
  have hn42 : n2 ≤ 4096 := by omega
  replace hnn := Lib.hid hnn
  replace hnn2 := Lib.hid hnn2
  replace hz := Lib.hid hz
  clear hr hr2 hab hnP hl1 hl2 h h2 ea eb gab gl1 gl2 hnP2 hP0
  go_enter Try.func29, Try.ntmps29
  go_wp2_with (go_at_call 17; refine (hcop.out _ hb0).mono ?_; rintro e w3 ⟨g, n3, c3, rfl, hg, hbz, hn3, hc1, hc2, hb5⟩; rw [hz.out] at hb5 hg; have z3 := hb5.size; rw [hz.out] at z3; replace k0 := k0.below hb5 (by omega); replace k1 := k1.below hb5 (by omega); replace k2 := k2.below hb5 (by omega); have hB3 := hb0.trans (hb5.mono (by omega)); replace hn3 := Lib.hid hn3)
  obtain rfl : n = n3 := by rw [hn3.out, hPl.out, hnn.out]
  have hgB := hbz.lt
  have k5 := RB.new w3 a b M (some ⟨g, 0, none⟩) n c3
  replace k0 := k0.alloc (.cells #[.int .i64 a, .int .i64 b, .int .i64 M, .slice (some ⟨g, 0, none⟩) n c3] 24)
  replace k1 := k1.alloc (.cells #[.int .i64 a, .int .i64 b, .int .i64 M, .slice (some ⟨g, 0, none⟩) n c3] 24)
  replace k2 := k2.alloc (.cells #[.int .i64 a, .int .i64 b, .int .i64 M, .slice (some ⟨g, 0, none⟩) n c3] 24)
  replace hbz := hbz.alloc (.cells #[.int .i64 a, .int .i64 b, .int .i64 M, .slice (some ⟨g, 0, none⟩) n c3] 24)
  have hsl2 := (hs2.out _ hB3).alloc (.cells #[.int .i64 a, .int .i64 b, .int .i64 M, .slice (some ⟨g, 0, none⟩) n c3] 24)
  have hB4 := hB3.alloc hB3.size (.cells #[.int .i64 a, .int .i64 b, .int .i64 M, .slice (some ⟨g, 0, none⟩) n c3] 24)
  have F0 : PI w _ w3.heap.size g n c a b M A n2 c2 a2 b2 M (some ⟨bs, offs, none⟩) P2 c3 P (fun L => L.length = b * a ∧ ∀ k, k < b * a → nth L k = pg a a2 b2 x y P P2 ((0 : Nat) : Int) 0 k) := ⟨k0, k1, k2, k5, hbz, ⟨hPl.out, pg_none⟩, hsl2, fun b o e _ => by cases e; exact hbsw, hB4, by simp, by omega, hgB⟩
  clear k0 k1 k2 k5 hbz hB4 hB3 hb0 hb5 hsl2 hs2 hcop
  go_loopw [10] (fun i wr => ∃ (j : Nat) (L : List Int), j ≤ b2 ∧ i = .int .i64 (j : Int) ∧ PI w wr w3.heap.size g n c a b M A n2 c2 a2 b2 M (some ⟨bs, offs, none⟩) P2 c3 L (fun L => L.length = b * a ∧ ∀ k, k < b * a → nth L k = pg a a2 b2 x y P P2 (j : Int) 0 k)) (fun i _ => b2 - (intOf i).toNat)
  case atStart => exact ⟨0, _, Nat.zero_le _, rfl, F0⟩
  case round =>
    clear F0
    obtain ⟨j, L, hj, rfl, F⟩ := hrel
    obtain ⟨d0, d1, d2, d3, d4, d5, d6, d7, d8, d9, d10, d11⟩ := F.cellsOnly (Only.refl wr g)
    by_cases hlt : j < b2
    · go_wp2
      go_loopw [11] (fun s wr => ∃ (i : Nat) (L : List Int), i ≤ a2 ∧ s = .int .i64 (i : Int) ∧ PI w wr w3.heap.size g n c a b M A n2 c2 a2 b2 M (some ⟨bs, offs, none⟩) P2 c3 L (fun L => L.length = b * a ∧ ∀ k, k < b * a → nth L k = pg a a2 b2 x y P P2 (j : Int) (i : Int) k)) (fun i _ => a2 - (intOf i).toNat)
      case atStart => exact ⟨0, _, Nat.zero_le _, rfl, F⟩
      case round =>
        clear F d0 d1 d2 d3 d4 d5 d6 d7 d8 d9 d10 d11
        obtain ⟨i, L, hi, rfl, F⟩ := hrel
        obtain ⟨d0, d1, d2, d3, d4, d5, d6, d7, d8, d9, d10, d11⟩ := F.cellsOnly (Only.refl wr g)
        by_cases hlti : i < a2
        · have hw1 : IntKind.i64.wrap (x + (i : Int)) = x + (i : Int) := IntWalk.i64_in _ (by omega)
          have hw2 : IntKind.i64.wrap (y + (j : Int)) = y + (j : Int) := IntWalk.i64_in _ (by omega)
          by_cases hin : (0 ≤ x + (i : Int) ∧ x + (i : Int) < a) ∧ 0 ≤ y + (j : Int) ∧ y + (j : Int) < b
          · obtain ⟨xi, hxi⟩ : ∃ m : Nat, x + i = (m : Int) := ⟨(x + i).toNat, by omega⟩
            obtain ⟨yj, hyj⟩ : ∃ m : Nat, y + j = (m : Int) := ⟨(y + j).toNat, by omega⟩
            obtain ⟨q, hq⟩ : ∃ q, yj * a = q := ⟨_, rfl⟩
            obtain ⟨q2, hq2⟩ : ∃ q2, j * a2 = q2 := ⟨_, rfl⟩
            have hyb : yj < b := by omega
            have hxa : xi < a := by omega
            have hins := Lib.hid (show ins a b xi yj = true from ins_iff.2 ⟨⟨by omega, by omega⟩, by omega, by omega⟩)
            have hqi : (yj : Int) * (a : Int) = (q : Int) := by rw [← hq]; simp
            have hl1 : q + xi < n := by rw [← hq, hnn.out]; exact row_lt hyb hxa
            have hl2 : q2 + i < n2 := by rw [← hq2, hnn2.out]; exact row_lt hlt hlti
            obtain ⟨v, hv⟩ : ∃ v, nth P2 (q2 + i) = v := ⟨_, rfl⟩
            have hst := F.st
            have hset := Lib.hid (pg_set (v := v) hst.1 hst.2 hxi hyj hq hyb hxa hlti hlt (by rw [hq2]; exact hv))
            have htc := F.bl.cell (i := q + xi) (by rw [hst.1, ← hnn.out]; exact hl1)
            have htf := F.bl.frozen (q + xi)
            obtain ⟨u, hu⟩ : ∃ u, nth L (q + xi) = u := ⟨_, rfl⟩
            rw [hu] at htc
            have hgw := F.bl.lt
            have keepS := Lib.hid (fun w' (ho : Only wr w' g) => F.cellsOnly ho)
            have keepT : ∀ w', Below wr.heap.size wr w' → w'.cell? ⟨g, q + xi, none⟩ = some (.int .i64 u) ∧ w'.frozen? ⟨g, q + xi, none⟩ = false ∧ wr.heap.size ≤ w'.heap.size := fun w' hb => ⟨(hb.cell (p := ⟨g, q + xi, none⟩) hgw).trans htc, (hb.frozen (p := ⟨g, q + xi, none⟩) hgw).trans htf, hb.size⟩
            have hsl := Lib.hid (fun w' (hb : Below wr.heap.size wr w') => F.sl.below hb (Nat.le_refl _))
            have hblT := Lib.hid (fun (W : World) (hb : Below wr.heap.size wr W) => F.bl.below hb F.bl.lt)
            replace keepT := Lib.hid keepT
            replace hq := Lib.hid hq
            replace hq2 := Lib.hid hq2
            replace hu := Lib.hid hu
            have hv := Lib.hid hv
            have hE : (q : Int) + x + (i : Int) = (q : Int) + (xi : Int) := by omega
            have hwx : IntKind.i64.wrap ((q : Int) + x) = (q : Int) + x := IntWalk.i64_in _ (by omega)
            clear htc htf hst hin
            have hwA : IntKind.i64.wrap (yj : Int) = (yj : Int) := IntWalk.i64_in _ (by omega)
            have hwB : IntKind.i64.wrap (xi : Int) = (xi : Int) := IntWalk.i64_in _ (by omega)
            have hwC : IntKind.i64.wrap (q : Int) = (q : Int) := IntWalk.i64_in _ (by omega)
            have hwD : IntKind.i64.wrap ((q : Int) + (xi : Int)) = (q : Int) + (xi : Int) := IntWalk.i64_in _ (by omega)
            have hwE : (0 : Int) ≤ (q : Int) + (xi : Int) := by omega
            have hwF : ((q : Int) + (xi : Int)).toNat = q + xi := by omega
            have hwG : (q : Int) + (xi : Int) < (n : Int) := by omega
            go_upto_region 9 with (go_at_call 23; refine (insT hins.out).mono ?_; rintro e w7 ⟨rfl, hb7⟩; clear d0 d1 d2 d3 d4 d5 d6 d7 d8 d9 d10 d11; have F7 := F.only (S' := fun _ => True) (Only.of_below hb7 g) (F.bl.below hb7 F.bl.lt) trivial; obtain ⟨d0, d1, d2, d3, d4, d5, d6, d7, d8, d9, d10, d11⟩ := F7.cellsOnly (Only.refl w7 g))
            go_region_held3 (fun w' => w'.cell? ⟨w.heap.size, 0, none⟩ = some (.int .i64 a) ∧ w'.cell? ⟨w.heap.size, 1, none⟩ = some (.int .i64 b) ∧ w'.cell? ⟨w.heap.size, 2, none⟩ = some (.int .i64 M) ∧ w'.cell? ⟨w.heap.size, 3, none⟩ = some (.slice A n c) ∧ w'.cell? ⟨w.heap.size + 1, 0, none⟩ = some (.int .i64 a2) ∧ w'.cell? ⟨w.heap.size + 1, 1, none⟩ = some (.int .i64 b2) ∧ w'.cell? ⟨w.heap.size + 1, 2, none⟩ = some (.int .i64 M) ∧ w'.cell? ⟨w.heap.size + 1, 3, none⟩ = some (.slice (some ⟨bs, offs, none⟩) n2 c2) ∧ w'.cell? ⟨w3.heap.size, 0, none⟩ = some (.int .i64 a) ∧ w'.cell? ⟨w3.heap.size, 1, none⟩ = some (.int .i64 b) ∧ w'.cell? ⟨w3.heap.size, 2, none⟩ = some (.int .i64 M) ∧ w'.cell? ⟨w3.heap.size, 3, none⟩ = some (.slice (some ⟨g, 0, none⟩) n c3))
              (exact keepS.out _ (by repeat (first | refine Only.drew ?_ | refine Only.setCell ?_ rfl _ | exact Only.of_below qB1 g | exact Only.of_below hb7 g)))
              (first | (go_at_call 24; refine (rAt_at i j q2 (hsl.out _ (by repeat (first | refine Below.drew ?_ | exact hb7))) rfl rfl hq2.out.symm hl2 (by omega) hv.out).mono ?_; rintro e qw1 ⟨rfl, qh1⟩; have qB1 : Below wr.heap.size wr qw1 := Below.trans (by repeat (first | refine Below.drew ?_ | exact hb7)) (qh1.mono (by have := hb7.size; first | omega | (simp <;> omega))); obtain ⟨t1, t2, t3⟩ := keepT.out _ qB1))
            go_wp2
            go_roundw
            case rel => exact ⟨i + 1, _, hlti, by go_num, F.only ((Only.of_below qB1 g).setCell rfl _) ((hblT.out _ qB1).set _ _) hset.out⟩
            case measure => simp [intOf]; omega
          · have hins := Lib.hid (show ins a b (x + i) (y + j) = false by
              cases e : ins a b (x + i) (y + j)
              · rfl
              · exact absurd (ins_iff.1 e) hin)
            have hskip := Lib.hid (fun (F' : L.length = b * a ∧ ∀ k, k < b * a → nth L k = pg a a2 b2 x y P P2 (j : Int) (i : Int) k) => (show L.length = b * a ∧ ∀ k, k < b * a → nth L k = pg a a2 b2 x y P P2 (j : Int) ((i + 1 : Nat) : Int) k from ⟨F'.1, fun k hk => (F'.2 k hk).trans (pg_congr (b := b) (by intros; unfold pgc; omega) k hk)⟩))
            clear hin
            go_wp2_with (go_at_call 23; refine (insT hins.out).mono ?_; rintro e w7 ⟨rfl, hb7⟩)
            go_roundw
            case rel => exact ⟨i + 1, L, hlti, by go_num, F.only (Only.of_below hb7 g) (F.bl.below hb7 F.bl.lt) (hskip.out F.st)⟩
            case measure => simp [intOf]; omega
        · obtain rfl : i = a2 := by omega
          go_wp2
          go_roundw
          case rel => exact ⟨j + 1, L, hlt, by go_num, F.weak fun F' => ⟨F'.1, fun k hk => (F'.2 k hk).trans (pg_congr (b := b) (by intros; unfold pgc; omega) k hk)⟩⟩
          case measure => simp [intOf]; omega
    · obtain rfl : j = b2 := by omega
      have hL : L = pasted a a2 j x y P P2 := pasted_eq (F.st.1.trans hPl.out.symm) fun k hk => by
        rw [F.st.2 k (by rw [← hPl.out]; exact hk)]
        exact pg_pf (b := b) (by intros; unfold pgc; omega) k (by rw [← hPl.out]; exact hk)
      replace hL := Lib.hid hL
      obtain ⟨⟨d12, d13, d14, d15⟩, f12, f13, f14, f15⟩ := F.k2.cells
      have hgne := F.gne
      have hbz := F.bl
      have hB := F.below
      have hLl := Lib.hid (show n = (pasted a a2 j x y P P2).length by rw [pasted, tab_length, hPl.out, hnn.out])
      go_wp2
      refine bodyPost_ret (v := .agg #[.int .i64 a, .int .i64 b, .int .i64 M, .slice (some ⟨g, 0, none⟩) n c3]) (by simp [results, Try.results29, go_sem, d12, d13, d14, d15, f12, f13, f14, f15]) rfl ?_
      refine ⟨g, n, c3, rfl, by omega, ?_, hLl.out, hc1, hc2, ?_⟩
      · repeat (refine Bl.far ?_ (by simp <;> omega) _)
        rw [← hL.out]
        exact hbz
      · repeat (refine Below.setCell ?_ (by simp <;> omega) _)
        exact hB

end Go.Proofs.Ytehnemdifkjhcaa
