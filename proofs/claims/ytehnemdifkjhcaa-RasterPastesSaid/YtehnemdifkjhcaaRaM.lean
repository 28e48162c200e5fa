/-
  Walks: replaced, Map of package raster; Map of the reference.
-/
import Derived.Test.YtehnemdifkjhcaaRaL
set_option linter.unusedSimpArgs false
set_option linter.unusedVariables false
namespace Go.Proofs.Ytehnemdifkjhcaa
open Go.RowKit

/-- What is asked of a function value that takes an int and gives one, at the numbers of a list. -/
def MapI (g : Nat) (lb : Array Value) (φ : Int → Int) (P : List Int) (w : World) : Prop :=
  ∀ (W : World) (x : Int), x ∈ P → Below w.heap.size w W → Calls Try.prog g (#[.int .i64 x] ++ lb) W fun e w' => e = .returned (.int .i64 (φ x)) ∧ Below W.heap.size W w'

def mapped (φ : Int → Int) (P : List Int) : List Int := tab P.length fun i => φ (nth P i)
theorem mapped_length (φ : Int → Int) (P : List Int) : (mapped φ P).length = P.length := tab_length _ _

set_option maxRecDepth 100000 in
set_option maxHeartbeats 4000000 in
/-- replaced: each number is replaced. -/
theorem replaced_any (g0 : Nat) (lb : Array Value) (φ : Int → Int) (eg : ∀ args w, (callFunc g0 args).run Try.prog w = .ok (.enter g0 args) w) (a b : Nat) (M most : Int) (A : Option Addr) (n c : Nat) (P : List Int) (w : World) (h : Sl w A n c P) (hr : Ras a b M P) (hφ : MapI g0 lb φ P w) :
    Calls Try.prog 58 #[.agg #[.int .i64 a, .int .i64 b, .int .i64 M, .slice A n c], .int .i64 most, .func (.func g0) #[] lb] w (RetF w a b most (mapped φ P)) := by
  have hb0 := ((Below.refl w.heap.size w).alloc (Nat.le_refl _) (.cells #[.int .i64 a, .int .i64 b, .int .i64 M, .slice A n c] 24)).alloc (by simp) (.cells #[.int .i64 0, .int .i64 0, .int .i64 0, .slice none 0 0] 24)
  have hs := (h.alloc (.cells #[.int .i64 a, .int .i64 b, .int .i64 M, .slice A n c] 24)).alloc (.cells #[.int .i64 0, .int .i64 0, .int .i64 0, .slice none 0 0] 24)
  have k0 := (RB.new w a b M A n c).alloc (.cells #[.int .i64 0, .int .i64 0, .int .i64 0, .slice none 0 0] 24)
  have k1 := RB.new (w.alloc (.cells #[.int .i64 a, .int .i64 b, .int .i64 M, .slice A n c] 24)) 0 0 0 none 0 0
  simp only [World.size_alloc] at k1
  obtain ⟨a', b', ea, eb, ⟨ha1, ha2⟩, ⟨hb1, hb2⟩, -, hab, hl1, hl2⟩ := hr.nat
  obtain rfl : a = a' := by omega
  obtain rfl : b = b' := by omega
  have hnP := hs.len
  obtain ⟨bb, off, rfl, hbbw, -⟩ := h.at_ (by rw [h.len]; exact hl2)
  have hncap := hs.le_cap
  have hccap := hs.cap_le
  have hfin : Hid (a * b = n) := Lib.hid (by rw [hnP, hab])
  have hPn := Lib.hid hnP
  have hn4 : n ≤ 4096 := by omega
  have hbl := Lib.hid (fun W : World => blank_any a b most W ha1 ha2 hb1 hb2)
  rw [hfin.out] at hbl
  replace hφ := Lib.hid hφ
  clear hr hab hnP hl1 hl2 h ea eb
  go_enter Try.func58, Try.ntmps58
  go_wp2_with (go_at_call 51; refine (hbl.out _).mono ?_; rintro e w2 ⟨g, rfl, hg, hbz, hb4⟩; simp only [World.size_alloc] at hg hb4; have hgB := hbz.lt; replace k0 := (k0.below hb4 (by omega)).alloc (.cells #[.int .i64 a, .int .i64 b, .int .i64 most, .slice (some ⟨g, 0, none⟩) n n] 24); replace k1 := (k1.below hb4 (by omega)).alloc (.cells #[.int .i64 a, .int .i64 b, .int .i64 most, .slice (some ⟨g, 0, none⟩) n n] 24); replace hs := (hs.below hb4 (by simp)).alloc (.cells #[.int .i64 a, .int .i64 b, .int .i64 most, .slice (some ⟨g, 0, none⟩) n n] 24); replace hb0 := hb0.trans (hb4.mono (by omega)); replace hb0 := hb0.alloc hb0.size (.cells #[.int .i64 a, .int .i64 b, .int .i64 most, .slice (some ⟨g, 0, none⟩) n n] 24); have k5 := RB.new w2 a b most (some ⟨g, 0, none⟩) n n; clear hb4; replace hbz := hbz.alloc (.cells #[.int .i64 a, .int .i64 b, .int .i64 most, .slice (some ⟨g, 0, none⟩) n n] 24); have F0 : FI w _ w2.heap.size g bb off n c a b M P a b most n n (fun i => φ (nth P i)) _ 0 := (⟨k0, k1, k5, hbz, Fill.start (by simp), hs, hb0, by simp, by omega, hgB, hbbw⟩); obtain ⟨⟨d0, d1, d2, d3⟩, f0, f1, f2, f3⟩ := k0.cells)
  clear k0 k1 k5 hbz hs hb0 hbl d0 d1 d2 d3 f0 f1 f2 f3
  go_loopw [19] (fun i wr => ∃ (j : Nat) (L : List Int), j ≤ n ∧ i = .int .i64 (j : Int) ∧ FI w wr w2.heap.size g bb off n c a b M P a b most n n (fun i => φ (nth P i)) L j) (fun i _ => n - (intOf i).toNat)
  case atStart => exact ⟨0, _, Nat.zero_le _, rfl, F0⟩
  case round =>
    clear F0
    obtain ⟨j, L, hj, rfl, F⟩ := hrel
    by_cases hlt : j < n
    · obtain ⟨d0, d1, d2, d3, d4, d5, d6, d7⟩ := F.cellsOnly (Only.refl wr g)
      obtain ⟨b', off', e, hbw', hcc⟩ := F.sl.at_ (by omega)
      cases e
      have hcell := hcc j hlt
      clear hcc
      obtain ⟨v, hv⟩ : ∃ v, nth P j = v := ⟨_, rfl⟩
      rw [hv] at hcell
      have hmem : v ∈ P := by rw [← hv, nth_eq (by rw [← hPn.out]; exact hlt)]; exact List.getElem_mem _
      have hcall := Lib.hid (fun W hB => hφ.out W v hmem hB)
      obtain ⟨u, hu⟩ : ∃ u, φ v = u := ⟨_, rfl⟩
      rw [hu] at hcall
      have hval : φ (nth P j) = u := by rw [hv, hu]
      have htc := F.bl.cell (i := j) (by rw [F.fill.1]; exact hlt)
      have htf := F.bl.frozen j
      obtain ⟨z, hz⟩ : ∃ z, nth L j = z := ⟨_, rfl⟩
      rw [hz] at htc
      have hgw := F.bl.lt
      have hBw := F.below
      have keepS := Lib.hid (fun w' (ho : Only wr w' g) => (F.cellsOnly ho).2.2.2.2.2.2.2)
      have keepT : ∀ w', Below wr.heap.size wr w' → w'.cell? ⟨g, j, none⟩ = some (.int .i64 z) ∧ w'.frozen? ⟨g, j, none⟩ = false ∧ wr.heap.size ≤ w'.heap.size := fun w' hb => ⟨(hb.cell (p := ⟨g, j, none⟩) hgw).trans htc, (hb.frozen (p := ⟨g, j, none⟩) hgw).trans htf, hb.size⟩
      replace keepT := Lib.hid keepT
      replace hval := Lib.hid hval
      replace hu := Lib.hid hu
      replace hv := Lib.hid hv
      replace hz := Lib.hid hz
      replace hmem := Lib.hid hmem
      clear htc htf
      have i1 : (0 : Int) ≤ (j : Int) := by omega
      have i2 : (j : Int) < (n : Int) := by omega
      go_wp2
      go_region_held3 (fun w' => w'.cell? ⟨w2.heap.size, 3, none⟩ = some (.slice (some ⟨g, 0, none⟩) n n))
        (exact keepS.out _ (by repeat (first | exact Only.of_below qB1 g | exact Only.refl wr g | refine Only.drew ?_ | refine Only.setCell ?_ rfl _)))
        (first | (go_at_fn g0; refine (hcall.out _ (by repeat (first | exact hBw | refine Below.drew ?_))).mono ?_; rintro e qw1 ⟨rfl, qh1⟩; have qB1 : Below wr.heap.size wr qw1 := Below.trans (by repeat (first | exact Below.refl _ _ | refine Below.drew ?_)) (qh1.mono (by first | omega | (simp <;> omega))); obtain ⟨t1, t2, t3⟩ := keepT.out _ qB1))
      go_wp2
      go_roundw
      case rel => exact ⟨j + 1, _, hlt, by go_num, F.next qB1 hlt hval.out rfl rfl⟩
      case measure => simp [intOf]; omega
    · obtain rfl : j = n := by omega
      obtain ⟨⟨d8, d9, d10, d11⟩, f8, f9, f10, f11⟩ := F.k1.cells
      obtain ⟨d0, d1, d2, d3, d4, d5, d6, d7⟩ := F.cellsOnly (Only.refl wr g)
      have hdone := Lib.hid F.fill.done
      have hgne := F.gne
      have hbz := F.bl
      have hB := F.below
      go_wp2
      refine bodyPost_ret (v := .agg #[.int .i64 a, .int .i64 b, .int .i64 most, .slice (some ⟨g, 0, none⟩) j j]) (by simp [results, Try.results58, go_sem, d8, d9, d10, d11, f8, f9, f10, f11]) rfl ?_
      refine ⟨g, j, j, rfl, by omega, ?_, by rw [mapped_length]; exact hPn.out, Nat.le_refl _, by omega, ?_⟩
      · repeat (refine Bl.far ?_ (by simp <;> omega) _)
        rw [mapped, ← hPn.out, ← hdone.out]
        exact hbz
      · repeat (refine Below.setCell ?_ (by simp <;> omega) _)
        exact hB

end Go.Proofs.Ytehnemdifkjhcaa
