/-
  Walks: Turn of the reference.
-/
import Derived.Test.YtehnemdifkjhcaaRaF
set_option linter.unusedSimpArgs false
set_option linter.unusedVariables false
namespace Go.Proofs.Ytehnemdifkjhcaa
open Go.RowKit

theorem rAt_at {a : Nat} {H M : Int} {A : Option Addr} {n c : Nat} {P : List Int} {w : World} {x y : Int} {v : Int} (i j q : Nat) (h : Sl w A n c P) (hx : x = (i : Int)) (hy : y = (j : Int)) (hq : q = j * a) (hle : q + i < n) (hn : n ≤ 1000000) (hv : nth P (q + i) = v) :
    Calls Try.prog 24 #[.agg #[.int .i64 a, .int .i64 H, .int .i64 M, .slice A n c], .int .i64 x, .int .i64 y] w fun e w' => e = .returned (.int .i64 v) ∧ Below w.heap.size w w' :=
  hv ▸ rAt_any a H M A n c P w x y i j q h hx hy hq hle hn

/-- What holds while a result is filled: the argument's box, the zero box of the result, the box of the new raster, its pixels. -/
structure FI (w wr : World) (B5 g bb off n c : Nat) (W H M : Int) (P : List Int) (W2 H2 M2 : Int) (N c2 : Nat) (f : Nat → Int) (L : List Int) (k : Nat) : Prop where
  k0 : RB wr w.heap.size W H M (some ⟨bb, off, none⟩) n c
  k1 : RB wr (w.heap.size + 1) 0 0 0 none 0 0
  k5 : RB wr B5 W2 H2 M2 (some ⟨g, 0, none⟩) N c2
  bl : Bl wr g L
  fill : Fill f N k L
  sl : Sl wr (some ⟨bb, off, none⟩) n c P
  below : Below w.heap.size w wr
  size : B5 < wr.heap.size
  gne : w.heap.size + 1 < g
  g5 : g < B5
  bbl : bb < w.heap.size

section
variable {w wr w1 : World} {B5 g bb off n c N c2 : Nat} {W H M W2 H2 M2 : Int} {P L : List Int} {f : Nat → Int} {k k' i : Nat} {v : Int}
theorem FI.at_ (h : FI w wr B5 g bb off n c W H M P W2 H2 M2 N c2 f L k) (e : k = k') : FI w wr B5 g bb off n c W H M P W2 H2 M2 N c2 f L k' := e ▸ h
theorem FI.later (h : FI w wr B5 g bb off n c W H M P W2 H2 M2 N c2 f L k) (hb : Below wr.heap.size wr w1) : FI w w1 B5 g bb off n c W H M P W2 H2 M2 N c2 f L k :=
  ⟨h.k0.below hb h.k0.lt, h.k1.below hb h.k1.lt, h.k5.below hb h.k5.lt, h.bl.below hb h.bl.lt, h.fill, h.sl.below hb (Nat.le_refl _), h.below.trans (hb.mono h.below.size), by have := hb.size; have := h.size; omega, h.gne, h.g5, h.bbl⟩
theorem FI.store (h : FI w wr B5 g bb off n c W H M P W2 H2 M2 N c2 f L k) (hk : k < N) (hv : f k = v) (hi : i = k) (hk' : k' = k + 1) :
    FI w (wr.setCell ⟨g, i, none⟩ (.int .i64 v)) B5 g bb off n c W H M P W2 H2 M2 N c2 f (L.set i v) k' := by
  subst hi hk'
  have h1 := h.gne
  have h2 := h.g5
  have h3 := h.bbl
  have h4 := h.size
  refine ⟨h.k0.far (by simp; omega) _, h.k1.far (by simp; omega) _, h.k5.far (by simp; omega) _, h.bl.set _ _, h.fill.step hk hv.symm, ?_, h.below.setCell (by simp; omega) _, by simp; omega, h1, h2, h3⟩
  exact h.sl.keep fun _ b' j ⟨off', e⟩ _ => World.cell?_setCell_other _ _ _ _ (fun e2 => by cases e; cases e2; omega)
theorem FI.next (h : FI w wr B5 g bb off n c W H M P W2 H2 M2 N c2 f L k) (hb : Below wr.heap.size wr w1) (hk : k < N) (hv : f k = v) (hi : i = k) (hk' : k' = k + 1) :
    FI w (w1.setCell ⟨g, i, none⟩ (.int .i64 v)) B5 g bb off n c W H M P W2 H2 M2 N c2 f (L.set i v) k' := (h.later hb).store hk hv hi hk'
theorem FI.only (h : FI w wr B5 g bb off n c W H M P W2 H2 M2 N c2 f L k) {w' : World} (ho : Only wr w' g) (b o : Nat) (hb : b < wr.heap.size) (hg : b ≠ g) : w'.cell? ⟨b, o, none⟩ = wr.cell? ⟨b, o, none⟩ :=
  World.cell?_of_block (ho.block b hb (fun e => hg (by injection e)))
/-- The cells of the two boxes, in every world in which only g's block has changed. -/
theorem FI.cellsOnly (h : FI w wr B5 g bb off n c W H M P W2 H2 M2 N c2 f L k) {w' : World} (ho : Only wr w' g) :
    w'.cell? ⟨w.heap.size, 0, none⟩ = some (.int .i64 W) ∧ w'.cell? ⟨w.heap.size, 1, none⟩ = some (.int .i64 H) ∧ w'.cell? ⟨w.heap.size, 2, none⟩ = some (.int .i64 M) ∧ w'.cell? ⟨w.heap.size, 3, none⟩ = some (.slice (some ⟨bb, off, none⟩) n c) ∧
    w'.cell? ⟨B5, 0, none⟩ = some (.int .i64 W2) ∧ w'.cell? ⟨B5, 1, none⟩ = some (.int .i64 H2) ∧ w'.cell? ⟨B5, 2, none⟩ = some (.int .i64 M2) ∧ w'.cell? ⟨B5, 3, none⟩ = some (.slice (some ⟨g, 0, none⟩) N c2) := by
  obtain ⟨⟨d0, d1, d2, d3⟩, -⟩ := h.k0.cells
  obtain ⟨⟨d4, d5, d6, d7⟩, -⟩ := h.k5.cells
  have h1 := h.gne
  have h2 := h.g5
  have h4 := h.size
  have h5 := h.k0.lt
  refine ⟨(h.only ho _ _ ?_ ?_).trans d0, (h.only ho _ _ ?_ ?_).trans d1, (h.only ho _ _ ?_ ?_).trans d2, (h.only ho _ _ ?_ ?_).trans d3, (h.only ho _ _ ?_ ?_).trans d4, (h.only ho _ _ ?_ ?_).trans d5, (h.only ho _ _ ?_ ?_).trans d6, (h.only ho _ _ ?_ ?_).trans d7⟩ <;> omega
end

set_option maxRecDepth 100000 in
set_option maxHeartbeats 4000000 in
/-- Turn of the reference. -/
theorem rTurn_any (W H M : Int) (A : Option Addr) (n c : Nat) (P : List Int) (w : World) (h : Sl w A n c P) (hr : Ras W H M P) :
    Calls Try.prog 32 #[.agg #[.int .i64 W, .int .i64 H, .int .i64 M, .slice A n c]] w (RetF w H W M (turned W.toNat H.toNat P)) := by
  have hb0 := ((Below.refl w.heap.size w).alloc (Nat.le_refl _) (.cells #[.int .i64 W, .int .i64 H, .int .i64 M, .slice A n c] 24)).alloc (by simp) (.cells #[.int .i64 0, .int .i64 0, .int .i64 0, .slice none 0 0] 24)
  have hs := (h.alloc (.cells #[.int .i64 W, .int .i64 H, .int .i64 M, .slice A n c] 24)).alloc (.cells #[.int .i64 0, .int .i64 0, .int .i64 0, .slice none 0 0] 24)
  have k0 := (RB.new w W H M A n c).alloc (.cells #[.int .i64 0, .int .i64 0, .int .i64 0, .slice none 0 0] 24)
  have k1 := RB.new (w.alloc (.cells #[.int .i64 W, .int .i64 H, .int .i64 M, .slice A n c] 24)) 0 0 0 none 0 0
  simp only [World.size_alloc] at k1
  obtain ⟨a, b, rfl, rfl, ⟨ha1, ha2⟩, ⟨hb1, hb2⟩, ⟨hM1, hM2⟩, hab, hl1, hl2⟩ := hr.nat
  have hnP := hs.len
  obtain ⟨bb, off, rfl, hbbw, -⟩ := h.at_ (by rw [h.len]; exact hl2)
  simp only [Int.toNat_natCast]
  have hncap := hs.le_cap
  have hccap := hs.cap_le
  have hfin : Hid (b * a = n ∧ a * b = n) := Lib.hid ⟨by rw [hnP, hab, Nat.mul_comm], by rw [hnP, hab]⟩
  have hn4 : n ≤ 4096 := by omega
  have hnew := Lib.hid (fun W : World => (rNew_any b a M W hb1 hb2 ha1 ha2))
  rw [hfin.out.1] at hnew
  have hn0 : 0 < n := by omega
  clear hr hab hnP hl1 hl2 h
  go_enter Try.func32, Try.ntmps32
  go_wp2_with (go_at_call 20; refine (hnew.out _).mono ?_; rintro e w2 hret; obtain ⟨g, N, c2, rfl, hg, hbz, hN, hc1, hc2, hb4⟩ := hret.ret (by simp; exact hn0); simp only [List.length_replicate] at hN; subst hN; simp only [World.size_alloc] at hg hb4; replace k0 := k0.below hb4 (by omega); replace k1 := k1.below hb4 (by omega); replace hs := hs.below hb4 (by simp); replace hb0 := hb0.trans (hb4.mono (by omega)); clear hb4 hret)
  have hgB := hbz.lt
  have k5 := RB.new w2 b a M (some ⟨g, 0, none⟩) N c2
  replace k0 := k0.alloc (.cells #[.int .i64 b, .int .i64 a, .int .i64 M, .slice (some ⟨g, 0, none⟩) N c2] 24)
  replace k1 := k1.alloc (.cells #[.int .i64 b, .int .i64 a, .int .i64 M, .slice (some ⟨g, 0, none⟩) N c2] 24)
  replace hbz := hbz.alloc (.cells #[.int .i64 b, .int .i64 a, .int .i64 M, .slice (some ⟨g, 0, none⟩) N c2] 24)
  replace hs := hs.alloc (.cells #[.int .i64 b, .int .i64 a, .int .i64 M, .slice (some ⟨g, 0, none⟩) N c2] 24)
  replace hb0 := hb0.alloc hb0.size (.cells #[.int .i64 b, .int .i64 a, .int .i64 M, .slice (some ⟨g, 0, none⟩) N c2] 24)
  have F0 : FI w _ w2.heap.size g bb off N c a b M P b a M N c2 (turnf a b P) _ 0 := ⟨k0, k1, k5, hbz, Fill.start (by simp), hs, hb0, by simp, by omega, hgB, hbbw⟩
  clear k0 k1 k5 hbz hs hb0 hnew
  go_loopw [4] (fun i wr => ∃ (y : Nat) (L : List Int), y ≤ a ∧ i = .int .i64 (y : Int) ∧ FI w wr w2.heap.size g bb off N c a b M P b a M N c2 (turnf a b P) L (y * b)) (fun i _ => a - (intOf i).toNat)
  case atStart => exact ⟨0, _, Nat.zero_le _, rfl, F0.at_ (by simp)⟩
  case round =>
    clear F0
    obtain ⟨y, L, hy, rfl, F⟩ := hrel
    obtain ⟨d0, d1, d2, d3, d4, d5, d6, d7⟩ := F.cellsOnly (Only.refl wr g)
    by_cases hlt : y < a
    · go_wp2
      go_loopw [5] (fun i wr => ∃ (x : Nat) (L : List Int), x ≤ b ∧ i = .int .i64 (x : Int) ∧ FI w wr w2.heap.size g bb off N c a b M P b a M N c2 (turnf a b P) L (y * b + x)) (fun i _ => b - (intOf i).toNat)
      case atStart => exact ⟨0, _, Nat.zero_le _, rfl, F⟩
      case round =>
        clear F d0 d1 d2 d3 d4 d5 d6 d7
        obtain ⟨x, L, hx, rfl, F⟩ := hrel
        obtain ⟨d0, d1, d2, d3, d4, d5, d6, d7⟩ := F.cellsOnly (Only.refl wr g)
        by_cases hltx : x < b
        · obtain ⟨q, hq⟩ : ∃ q, y * b = q := ⟨_, rfl⟩
          obtain ⟨q2, hq2⟩ : ∃ q2, x * a = q2 := ⟨_, rfl⟩
          obtain ⟨m, hm⟩ : ∃ m : Nat, a - 1 - y = m := ⟨_, rfl⟩
          have hmi : (a : Int) - 1 - (y : Int) = (m : Int) := by omega
          have hqi : (y : Int) * (b : Int) = (q : Int) := by rw [← hq]; simp
          have hl1 : q + x < N := by rw [← hq, ← hfin.out.2]; exact row_lt hlt hltx
          have hl2 : q2 + m < N := by rw [← hq2, ← hfin.out.1]; exact row_lt hltx (by omega)
          have hval : turnf a b P (y * b + x) = nth P (q2 + m) := by rw [turnf_at hltx, hq2, hm]
          obtain ⟨v, hv⟩ : ∃ v, nth P (q2 + m) = v := ⟨_, rfl⟩
          have htc := F.bl.cell (i := q + x) (by rw [F.fill.1]; exact hl1)
          have htf := F.bl.frozen (q + x)
          obtain ⟨u, hu⟩ : ∃ u, nth L (q + x) = u := ⟨_, rfl⟩
          rw [hu] at htc
          have hgw := F.bl.lt
          have keepS := Lib.hid (fun w' (ho : Only wr w' g) => F.cellsOnly ho)
          have keepT : ∀ w', Below wr.heap.size wr w' → w'.cell? ⟨g, q + x, none⟩ = some (.int .i64 u) ∧ w'.frozen? ⟨g, q + x, none⟩ = false ∧ wr.heap.size ≤ w'.heap.size := fun w' hb => ⟨(hb.cell (p := ⟨g, q + x, none⟩) hgw).trans htc, (hb.frozen (p := ⟨g, q + x, none⟩) hgw).trans htf, hb.size⟩
          have hsl := Lib.hid (fun w' (hb : Below wr.heap.size wr w') => F.sl.below hb (Nat.le_refl _))
          replace keepT := Lib.hid keepT
          replace hval := Lib.hid (hval.trans hv)
          replace hq := Lib.hid hq
          replace hq2 := Lib.hid hq2
          replace hm := Lib.hid hm
          replace hu := Lib.hid hu
          have hv := Lib.hid hv
          clear htc htf
          have hwA : IntKind.i64.wrap ((a : Int) - 1) = (a : Int) - 1 := IntWalk.i64_in _ (by omega)
          have hwB : IntKind.i64.wrap (m : Int) = (m : Int) := IntWalk.i64_in _ (by omega)
          have hwC : IntKind.i64.wrap (q : Int) = (q : Int) := IntWalk.i64_in _ (by omega)
          have hwD : IntKind.i64.wrap ((q : Int) + (x : Int)) = (q : Int) + (x : Int) := IntWalk.i64_in _ (by omega)
          have hwE : (0 : Int) ≤ (q : Int) + (x : Int) := by omega
          have hwF : ((q : Int) + (x : Int)).toNat = q + x := by omega
          have hwG : (q : Int) + (x : Int) < (N : Int) := by omega
          go_wp2
          go_region_held3 (fun w' => w'.cell? ⟨w.heap.size, 0, none⟩ = some (.int .i64 a) ∧ w'.cell? ⟨w.heap.size, 1, none⟩ = some (.int .i64 b) ∧ w'.cell? ⟨w.heap.size, 2, none⟩ = some (.int .i64 M) ∧ w'.cell? ⟨w.heap.size, 3, none⟩ = some (.slice (some ⟨bb, off, none⟩) N c) ∧ w'.cell? ⟨w2.heap.size, 0, none⟩ = some (.int .i64 b) ∧ w'.cell? ⟨w2.heap.size, 1, none⟩ = some (.int .i64 a) ∧ w'.cell? ⟨w2.heap.size, 2, none⟩ = some (.int .i64 M) ∧ w'.cell? ⟨w2.heap.size, 3, none⟩ = some (.slice (some ⟨g, 0, none⟩) N c2))
            (exact keepS.out _ (by repeat (first | refine Only.drew ?_ | refine Only.setCell ?_ rfl _ | exact Only.of_below qB1 g | exact Only.refl wr g)))
            (first | (go_at_call 24; refine (rAt_at m x q2 (hsl.out _ (by repeat (first | refine Below.drew ?_ | exact Below.refl _ _))) rfl rfl hq2.out.symm hl2 (by omega) hv.out).mono ?_; rintro e qw1 ⟨rfl, qh1⟩; have qB1 : Below wr.heap.size wr qw1 := Below.trans (by repeat (first | refine Below.drew ?_ | exact Below.refl _ _)) (qh1.mono (by first | omega | (simp <;> omega))); obtain ⟨t1, t2, t3⟩ := keepT.out _ qB1))
          go_wp2
          go_roundw
          case rel => exact ⟨x + 1, _, hltx, by go_num, F.next qB1 (by rw [hq.out]; exact hl1) hval.out (by rw [hq.out]) (by omega)⟩
          case measure => simp [intOf]; omega
        · obtain rfl : x = b := by omega
          go_wp2
          go_roundw
          case rel => exact ⟨y + 1, L, hlt, by go_num, F.at_ (by rw [Nat.add_mul, Nat.one_mul])⟩
          case measure => simp [intOf]; omega
    · obtain rfl : y = a := by omega
      obtain ⟨⟨d8, d9, d10, d11⟩, f8, f9, f10, f11⟩ := F.k1.cells
      have hdone := Lib.hid ((F.fill.at_ hfin.out.2).done)
      have hgne := F.gne
      have hbz := F.bl
      have hB := F.below
      go_wp2
      refine bodyPost_ret (v := .agg #[.int .i64 b, .int .i64 y, .int .i64 M, .slice (some ⟨g, 0, none⟩) N c2]) (by simp [results, Try.results32, go_sem, d8, d9, d10, d11, f8, f9, f10, f11]) rfl ?_
      refine ⟨g, N, c2, rfl, by omega, ?_, by rw [turned, tab_length, hfin.out.2], hc1, hc2, ?_⟩
      · repeat (refine Bl.far ?_ (by simp <;> omega) _)
        rw [turned, hfin.out.2, ← hdone.out]
        exact hbz
      · repeat (refine Below.setCell ?_ (by simp <;> omega) _)
        exact hB

end Go.Proofs.Ytehnemdifkjhcaa
