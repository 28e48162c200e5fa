/-
  Walk: logarithm of package integer.
-/
import Derived.Test.YtabibkhcdamlhaaDoorK
import Derived.Test.YtabibkhcdamlhaaDoorSml
import Derived.Test.YtabibkhcdamlhaaDoorShD
import Derived.Test.YtabibkhcdamlhaaDoorShelf
import Derived.Maps.AppendAt
set_option linter.unusedSimpArgs false
set_option linter.unusedVariables false
namespace Go.Proofs.YtabibkhcdamlhaaDoor
open Go.RowKit Num

theorem infoS : (Tryd.prog.info? 22).map (fun i => (i.zero, i.size, i.bytes)) = some (some (.slice none 0 0), 1, 24) := by kernel_rfl

/-- What lies in the call's own blocks of groups lies as it lay behind an append to a row of slices. -/
theorem FM.off_row {w w' : World} {B base : Nat} {A : Option Addr} {n c m k : Nat} {v : Value} {i : Nat} {xs : List Value} (h : FM w B A n c m k) (hown : w.ownsRow base 22 1 v i xs) (hg : w.grownBy w' v.ownBlock) : FM w' B A n c m k := by
  obtain ⟨l, hf, hc, hv, hn⟩ := h
  refine ⟨l, ⟨hf.1, hf.2.1, hf.2.2.1, fun h0 => ?_⟩, hc, hv, hn⟩
  obtain ⟨g, off, L, hA, hgB, hBl, hoff, hL⟩ := hf.2.2.2 h0
  refine ⟨g, off, L, hA, hgB, hBl.keep (hg.block g hBl.lt (fun e => ?_)), hoff, hL⟩
  rcases hown.2 with ⟨rfl, _⟩ | ⟨g', cap, cur, rfl, _, hh, _⟩
  · cases e
  · simp only [Value.ownBlock] at e
    injection e with e
    subst e
    obtain ⟨T, hT⟩ := hBl
    rw [hT] at hh
    injection hh with hh
    injection hh with _ hh
    revert hh
    decide

theorem FM.tight {w w0 : World} {B : Nat} {A A0 : Option Addr} {n c v k n0 c0 m k0 : Nat} (h : FM w B A n c v k) (hm : MM w0 A0 n0 c0 m k0) (hle : v ≤ m) : FM w B A n c v k0 := by
  obtain ⟨l, hf, hc, rfl, hn⟩ := h
  obtain ⟨l0, hs0, hc0, rfl, hn0⟩ := hm
  refine ⟨l, hf, hc, rfl, ?_⟩
  have h1 := hf.1
  have h2 := hs0.len
  apply Classical.byContradiction
  intro hlt
  have := hc0.len_lt hc (by omega)
  omega

/-- The length of a slice. -/
def lenOf : Value → Nat
  | .slice _ n _ => n
  | _ => 0

/-- A slice as a value. -/
def slV (e : Option Addr × Nat × Nat) : Value := .slice e.1 e.2.1 e.2.2
theorem slV_one (E : List (Option Addr × Nat × Nat)) : ∀ u ∈ E.map slV, u.oneCell' = true := fun u hu => by
  obtain ⟨e, _, rfl⟩ := List.mem_map.1 hu
  rfl

theorem own_row {w : World} {B i : Nat} {e : TypeId} {v : Value} {xs : List Value} (h : w.ownsRow B e 1 v i xs) :
    ∃ Av cv, v = .slice Av i cv ∧ i ≤ cv ∧ cv ≤ 9223372036854775807 ∧ ∀ x u, xs[x]? = some u → ∃ g, Av = some ⟨g, 0, none⟩ ∧ w.cell? ⟨g, x, none⟩ = some u := by
  have h1 := h.1
  rcases h.2 with ⟨rfl, rfl⟩ | ⟨g, cap, cur, rfl, hB, hh, hnc, hcm, hcs, htake⟩
  · refine ⟨none, 0, rfl, Nat.le_refl _, by omega, fun x u hx => ?_⟩
    have : xs = [] := List.length_eq_zero_iff.1 (by omega)
    subst this
    simp at hx
  · refine ⟨_, cap, rfl, hnc, by simpa [maxLen] using hcm, fun x u hx => ⟨g, rfl, ?_⟩⟩
    rw [← htake] at hx
    have hx2 := (List.getElem?_eq_some_iff.1 hx).1
    rw [List.getElem?_take_of_lt (by simp at hx2; omega)] at hx
    simp only [World.cell?, hh]
    rw [Array.getElem?_toList] at hx
    simpa using hx

theorem own_below {w w' : World} {B i size : Nat} {e : TypeId} {v : Value} {xs : List Value} (h : w.ownsRow B e size v i xs) (hb : Below w.heap.size w w') : w'.ownsRow B e size v i xs :=
  h.kept (row := none) ⟨hb.os, hb.tape, hb.output, hb.size, fun i hi _ => hb.block i hi⟩ (by cases v.ownBlock <;> simp)

theorem compare_c {A : Option Addr} {n c : Nat} {A2 : Option Addr} {n2 c2 ma mb k k2 : Nat} {w : World} {s : Int} (hs : cmpi (ma : Int) (mb : Int) = s) (ha : MM w A n c ma k) (hb : MM w A2 n2 c2 mb k2) (hk : k ≤ 1000000000) :
    Calls Tryd.prog 73 #[.slice A n c, .slice A2 n2 c2] w fun e w' => e = .returned (.int .i64 s) ∧ Below w.heap.size w w' := hs ▸ compareGroups_any A n c A2 n2 c2 ma mb k k2 w ha hb hk
theorem cmpi_le {a b : Nat} (h : a ≤ b) : ∃ s, cmpi (a : Int) (b : Int) = s ∧ s ≤ 0 := by
  refine ⟨_, rfl, ?_⟩
  unfold cmpi
  split
  · omega
  · split <;> omega
theorem cmpi_gt {a b : Nat} (h : b < a) : ∃ s, cmpi (a : Int) (b : Int) = s ∧ ¬ s ≤ 0 := by
  refine ⟨_, rfl, ?_⟩
  unfold cmpi
  rw [if_neg (by omega), if_pos (by omega)]
  omega

theorem w64_in {x : Int} (h1 : -9223372036854775808 ≤ x) (h2 : x ≤ 9223372036854775807) : wrap64 x = x := by
  unfold wrap64
  omega
theorem shl_sum {x K : Nat} (hx : x ≤ 9) (hK : K < 540) : wrap64 ((K : Int) + wrap64 (2 ^ x)) = ((K + 2 ^ x : Nat) : Int) := by
  have h1 : (2 : Nat) ^ x ≤ 2 ^ 9 := Nat.pow_le_pow_right (by omega) hx
  have h2 : ((2 : Int) ^ x) = ((2 ^ x : Nat) : Int) := by simp
  have h3 : (2 : Nat) ^ 9 = 512 := by decide
  rw [h2]
  generalize (2 : Nat) ^ x = y at *
  rw [w64_in (x := (y : Int)) (by omega) (by omega), w64_in (by omega) (by omega)]
  omega

set_option maxRecDepth 100000 in
set_option maxHeartbeats 4000000 in
/-- logarithm. -/
theorem logarithm_any (A : Option Addr) (n c m k : Nat) (w : World) (h : MM w A n c m k) (hk : k ≤ 18) (hm : 0 < m) :
    Calls Tryd.prog 61 #[.slice A n c] w fun e w' => e = .returned (.int .i64 (lgz m)) ∧ Below w.heap.size w w' := by
  obtain ⟨i0, hi, hz0, hz1, hz2⟩ := info_parts infoS
  have hlog := h.log
  have h540 : ∀ i : Nat, 2 ^ 2 ^ i ≤ m → i ≤ 9 := fun i hi => by
    have h1 : 2 ^ 2 ^ i < 2 ^ (30 * k) := Nat.lt_of_le_of_lt hi hlog
    have h2 := (Nat.pow_lt_pow_iff_right (by omega : 1 < 2)).1 h1
    have h3 : 2 ^ i < 2 ^ 10 := by
      have : (2 : Nat) ^ 10 = 1024 := by decide
      omega
    have := (Nat.pow_lt_pow_iff_right (by omega : 1 < 2)).1 h3
    omega
  replace h540 := Lib.hid h540
  replace hlog := Lib.hid hlog
  have hp0 := FM.of_new (B := w.heap.size) (w := w) (Nat.le_refl _) [2] (cano_one (by omega) (by omega)) (k := 36) (by simp) (by simp)
  have hb0 := (Below.refl w.heap.size w).alloc (Nat.le_refl _) (.cells (cells [2]).toArray 48)
  replace hp0 := Lib.hid hp0
  replace hb0 := Lib.hid hb0
  go_enter Tryd.func61, Tryd.ntmps61
  go_wp2
  go_loopw [3, 4] (fun pv p wr => ∃ (i P : Nat) (E : List (Option Addr × Nat × Nat)) (Ap : Option Addr) (np cp : Nat), i ≤ 10 ∧ P = 2 ^ 2 ^ i ∧ E.length = i ∧ wr.ownsRow w.heap.size 22 1 pv i (E.map slV) ∧ (∀ j e, E[j]? = some e → FM wr w.heap.size e.1 e.2.1 e.2.2 (2 ^ 2 ^ j) 36 ∧ 2 ^ 2 ^ j ≤ m) ∧ p = .slice Ap np cp ∧ FM wr w.heap.size Ap np cp P 36 ∧ Below w.heap.size w wr ∧ pv = pv) (fun pv _ _ => (11 : Nat) - (lenOf pv))
  case atStart => exact ⟨0, 2, [], _, _, _, by omega, rfl, rfl, ⟨rfl, .inl ⟨rfl, rfl⟩⟩, fun j e he => by simp at he, rfl, hp0.out, hb0.out, rfl⟩
  case round =>
    obtain ⟨i, P, E, Ap, np, cp, hi10, hP, hEl, hown, hE, rfl, hFp, hB, -⟩ := hrel
    obtain ⟨Av, cv, rfl, hivc, hcvm, hcells⟩ := own_row hown
    have hmr := h.below (hB)
    by_cases hle : P ≤ m
    · obtain ⟨s, hs, hs0⟩ := cmpi_le hle
      have hi9 := h540.out i (by rw [← hP]; exact hle)
      have hFp2 := hFp.tight h hle
      have hPP : P * P = 2 ^ 2 ^ (i + 1) := by rw [hP, ← Nat.pow_add]; congr 1; rw [Nat.pow_succ]; omega
      have hE2 : ∀ wc, Below wr.heap.size wr wc → ∀ w1, (wc.alloc (.cells #[.slice Ap np cp] 22)).grownBy w1 (Value.slice Av i cv).ownBlock → FM w1 w.heap.size Ap np cp P k ∧ ∀ j e, (E ++ [(Ap, np, cp)])[j]? = some e → FM w1 w.heap.size e.1 e.2.1 e.2.2 (2 ^ 2 ^ j) 36 ∧ 2 ^ 2 ^ j ≤ m := by
        intro wc hwc w1 hgr
        have hal : Below wr.heap.size wr (wc.alloc (.cells #[.slice Ap np cp] 22)) := hwc.alloc hwc.size _
        have hownc := (own_below hown hwc).alloc (.cells #[.slice Ap np cp] 22)
        have q1 := (hFp2.below hal).off_row hownc hgr
        refine ⟨q1, fun j e he => ?_⟩
        rcases Nat.lt_or_ge j i with hj | hj
        · rw [List.getElem?_append_left (by omega)] at he
          obtain ⟨a1, a2⟩ := hE j e he
          exact ⟨(a1.below hal).off_row hownc hgr, a2⟩
        · rw [List.getElem?_append_right (by omega)] at he
          have hj0 : j = i := by
            have := (List.getElem?_eq_some_iff.1 he).1
            simp at this
            omega
          subst hj0
          rw [hEl, Nat.sub_self] at he
          simp at he
          subst he
          exact ⟨by rw [← hP]; exact q1.mono (by omega), by rw [← hP]; exact hle⟩
      have hmap : E.map slV ++ [Value.slice Ap np cp] = (E ++ [(Ap, np, cp)]).map slV := by simp [slV]
      have hEl2 : (E ++ [(Ap, np, cp)]).length = i + 1 := by simp [hEl]
      have hownc := fun wc (hwc : Below wr.heap.size wr wc) => own_below hown hwc
      replace hownc := Lib.hid hownc
      replace hE2 := Lib.hid hE2
      replace hmap := Lib.hid hmap
      replace hEl2 := Lib.hid hEl2
      replace hPP := Lib.hid hPP
      replace hP := Lib.hid hP
      replace hs := Lib.hid hs
      replace hle := Lib.hid hle
      clear hcells hE hEl hown
      go_wp2_with (first | (go_at_call 73; refine (compare_c hs.out hFp.mm hmr (by omega)).mono ?_; rintro e wc ⟨rfl, hbc⟩; have hBc := hB.trans (hbc.mono hB.size); have hownC := hownc.out wc hbc) | (at_builtin; refine wpList_append_own _ rfl _ _ 81 rfl w.heap.size 22 i0 (.slice none 0 0) 1 24 Tryd.underlying81 hi hz0 hz1 hz2 rfl (by decide) _ _ _ rfl (hownC.alloc _) ⟨wc.heap.size, 0, none⟩ 1 1 [.slice Ap np cp] rfl rfl (cell_one_new _ _ _) (by simp [Value.oneCell']) (by unfold maxLen; omega) (by omega) (by have := hBc.size; simp; omega) ?_; intro v' w1 hown' hgrow _; have hB1 := below_appended hBc hownC hgrow; obtain ⟨hFq, hEq⟩ := hE2.out wc hbc w1 hgrow; replace hEq := Lib.hid hEq; rw [hmap.out] at hown'; obtain ⟨Av2, cv2, hv2, -, -, -⟩ := own_row hown'; subst hv2) | (go_at_call 65; refine (multiply_any _ _ _ _ _ _ P P k k _ hFq.mm hFq.mm (by omega) (by omega) (by omega)).mono ?_; rintro e w2 ⟨A3, n3, c3, rfl, hm3, hb3⟩))
      exact ⟨⟨i + 1, P * P, E ++ [(Ap, np, cp)], A3, n3, c3, by omega, hPP.out, hEl2.out, own_below hown' hb3, fun j e he => ⟨((hEq.out j e he).1).below hb3, (hEq.out j e he).2⟩, rfl, (hm3.base hB1.size).mono (by omega), hB1.trans (hb3.mono hB1.size), trivial⟩, (by first | (simp [lenOf]; done) | (simp [lenOf]; omega))⟩
    · obtain ⟨s, hs, hs0⟩ := cmpi_gt (a := P) (b := m) (by omega)
      have hm2 : m < 2 ^ (0 + 2 ^ i) := by rw [Nat.zero_add, ← hP]; omega
      have hfin := fun wc (hwc : Below wr.heap.size wr wc) => And.intro (own_below hown hwc) (fun j e he => And.intro ((hE j e he).1.below hwc) (hE j e he).2)
      replace hfin := Lib.hid hfin
      replace hP := Lib.hid hP
      replace hs := Lib.hid hs
      replace hle := Lib.hid hle
      replace hEl := Lib.hid hEl
      replace hm2 := Lib.hid hm2
      clear hcells hE hown
      go_wp2_with (go_at_call 73; refine (compare_c hs.out hFp.mm hmr (by omega)).mono ?_; rintro e wc ⟨rfl, hbc⟩; have hBc := hB.trans (hbc.mono hB.size))
      obtain ⟨hownW, hEW⟩ := hfin.out wc hbc
      have hB2 : Below w.heap.size w (wc.alloc (.cells #[.int .u32 1] 48)) := hBc.alloc hBc.size _
      have hFR : FM (wc.alloc (.cells #[.int .u32 1] 48)) w.heap.size (some ⟨wc.heap.size, 0, none⟩) 1 1 1 36 := FM.of_new hBc.size [1] (cano_one (by omega) (by omega)) (by simp) (by simp)
      have hal : Below wc.heap.size wc (wc.alloc (.cells #[.int .u32 1] 48)) := (Below.refl _ wc).alloc (Nat.le_refl _) _
      have hownX := own_below hownW hal
      have hEX : ∀ j e, E[j]? = some e → FM (wc.alloc (.cells #[.int .u32 1] 48)) w.heap.size e.1 e.2.1 e.2.2 (2 ^ 2 ^ j) 36 ∧ 2 ^ 2 ^ j ≤ m := fun j e he => ⟨(hEW j e he).1.below hal, (hEW j e he).2⟩
      obtain ⟨Av2, cv2, hv2, hivc2, hcvm2, hcellsX⟩ := own_row hownX
      injection hv2 with hv2a _ hv2b
      subst hv2a hv2b
      have hhX := h.below hB2
      have hFR2 := hFR.tight h (by omega)
      have hm2' := hm2.out
      clear hownW hEW hFR hownX hfin hFp hmr hB hBc hbc hal hm2
      generalize hgA : some (⟨wc.heap.size, 0, none⟩ : Addr) = Ar0 at *
      generalize wc.alloc (.cells #[.int .u32 1] 48) = W at *
      replace hEX := Lib.hid hEX
      replace hcellsX := Lib.hid hcellsX
      replace hm2' := Lib.hid hm2'
      clear hgA
      go_loopw [5, 6, 7] (fun kv rv iv wr2 => ∃ (x' K : Nat) (q : Int) (Ar : Option Addr) (nr cr R : Nat), iv = .int .i64 q ∧ q = (x' : Int) - 1 ∧ x' ≤ i ∧ kv = .int .i64 ((K : Nat) : Int) ∧ R = 2 ^ K ∧ R ≤ m ∧ m < 2 ^ (K + 2 ^ x') ∧ rv = .slice Ar nr cr ∧ FM wr2 w.heap.size Ar nr cr R k ∧ Below W.heap.size W wr2) (fun _ _ iv _ => (intOf iv + 1).toNat)
      case atStart => exact ⟨i, 0, _, _, _, _, 1, rfl, by omega, Nat.le_refl _, rfl, rfl, by omega, hm2'.out, rfl, hFR2, Below.refl _ _⟩
      case round =>
        obtain ⟨x', K, q, Ar, nr, cr, R, rfl, hq, hx, rfl, hR, hRm, hmK, rfl, hFr, hBW⟩ := hrel
        have hK : K < 540 := by
          have h1 : 2 ^ K < 2 ^ (30 * k) := Nat.lt_of_le_of_lt (by rw [← hR]; exact hRm) hlog.out
          have h2 := (Nat.pow_lt_pow_iff_right (by omega : 1 < 2)).1 h1
          omega
        by_cases hx0 : x' = 0
        · subst hx0
          obtain rfl : q = -1 := by omega
          have hres : lgz m = (K : Int) := lgz_eq (by rw [← hR]; exact hRm) (by simpa using hmK)
          clear hq
          replace hres := Lib.hid hres
          replace hR := Lib.hid hR
          replace hmK := Lib.hid hmK
          go_wp2
          go_ret
          exact ⟨ret_int hres.out.symm, hB2.trans (hBW.mono hB2.size)⟩
        · obtain ⟨x, rfl⟩ : ∃ x, x' = x + 1 := ⟨x' - 1, by omega⟩
          obtain rfl : q = (x : Int) := by omega
          clear hq hx0
          have hxE : x < E.length := by rw [hEl.out]; omega
          obtain ⟨e, he⟩ : ∃ e, E[x]? = some e := ⟨_, List.getElem?_eq_getElem hxE⟩
          obtain ⟨Ae, ne, ce⟩ := e
          obtain ⟨g, rfl, hcx⟩ := hcellsX.out x (slV (Ae, ne, ce)) (by rw [List.getElem?_map, he]; rfl)
          have hgW : g < W.heap.size := World.block_lt_of_cell? W _ hcx
          have hcx2 : wr.cell? ⟨g, x, none⟩ = some (.slice Ae ne ce) := (hBW.cell (p := ⟨g, x, none⟩) hgW).trans hcx
          obtain ⟨hFe, hem⟩ := hEX.out x _ he
          obtain ⟨D, hD⟩ : ∃ D, 2 ^ 2 ^ x = D := ⟨_, rfl⟩
          dsimp only at hFe
          rw [hD] at hFe hem
          have hFe2 := (hFe.below hBW).tight h hem
          have hmr2 := hhX.below hBW
          have hx9 := h540.out x (by rw [hD]; exact hem)
          have hRD : R * D = 2 ^ (K + 2 ^ x) := by rw [hR, ← hD, ← Nat.pow_add]
          have hm5 : m < 2 ^ (K + 2 ^ x + 2 ^ x) := by
            rw [show K + 2 ^ x + 2 ^ x = K + 2 ^ (x + 1) by rw [Nat.pow_succ]; omega]
            exact hmK
          replace hm5 := Lib.hid hm5
          replace hR := Lib.hid hR
          replace hD := Lib.hid hD
          replace he := Lib.hid he
          replace hem := Lib.hid hem
          clear hcx hFe
          by_cases hle : R * D ≤ m
          · obtain ⟨s, hs, hs0⟩ := cmpi_le hle
            replace hs := Lib.hid hs
            have hx10 : (x : Int) ≤ 9 := by omega
            go_wp2_with (first | (go_at_call 65; refine (multiply_any _ _ _ _ _ _ R D k k _ hFr.mm hFe2.mm (by omega) (by omega) (by omega)).mono ?_; rintro e w2 ⟨A3, n3, c3, rfl, hm3, hb3⟩) | (go_at_call 73; refine (compare_c hs.out hm3.mm (hmr2.below hb3) (by omega)).mono ?_; rintro e w3 ⟨rfl, hb4⟩))
            have hbF : Below wr.heap.size wr w3 := hb3.trans (hb4.mono hb3.size)
            have hsW : w.heap.size ≤ wr.heap.size := Nat.le_trans hB2.size hBW.size
            exact ⟨⟨x, K + 2 ^ x, _, A3, n3, c3, R * D, rfl, by omega, by omega, by rw [shl_sum hx9 hK], hRD, hle, hm5.out, rfl, ((hm3.base hsW).below hb4).tight h hle, hBW.trans (hbF.mono hBW.size)⟩, (by first | (simp [intOf]; done) | (simp [intOf]; omega))⟩
          · obtain ⟨s, hs, hs0⟩ := cmpi_gt (a := R * D) (b := m) (by omega)
            replace hs := Lib.hid hs
            have hm4 : m < 2 ^ (K + 2 ^ x) := by rw [← hRD]; omega
            go_wp2_with (first | (go_at_call 65; refine (multiply_any _ _ _ _ _ _ R D k k _ hFr.mm hFe2.mm (by omega) (by omega) (by omega)).mono ?_; rintro e w2 ⟨A3, n3, c3, rfl, hm3, hb3⟩) | (go_at_call 73; refine (compare_c hs.out hm3.mm (hmr2.below hb3) (by omega)).mono ?_; rintro e w3 ⟨rfl, hb4⟩))
            have hbF : Below wr.heap.size wr w3 := hb3.trans (hb4.mono hb3.size)
            exact ⟨⟨x, K, _, Ar, nr, cr, R, rfl, by omega, by omega, rfl, hR.out, hRm, hm4, rfl, hFr.below hbF, hBW.trans (hbF.mono hBW.size)⟩, (by first | (simp [intOf]; done) | (simp [intOf]; omega))⟩

end Go.Proofs.YtabibkhcdamlhaaDoor
