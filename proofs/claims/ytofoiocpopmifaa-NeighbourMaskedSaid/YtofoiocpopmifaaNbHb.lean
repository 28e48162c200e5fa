/-
  Walk: halved.
-/
import Derived.Test.YtofoiocpopmifaaNbHa
import Derived.Laws.EntriesVeiled
set_option linter.unusedSimpArgs false
set_option linter.unusedVariables false
namespace Go.Proofs.Ytofoiocpopmifaa
open Go.RowKit

/-- The key of an item: its word's distance from that of top. -/
def keyD (l : List Nat) (t : Nat) (i : Int) : Nat := dst (nw l t) (nw l i.toNat)
theorem keyD_le (l : List Nat) (t : Nat) (i : Int) : keyD l t i ≤ 64 := dst_le _ _
/-- An item. -/
def isItem (n : Nat) (i : Int) : Prop := 0 ≤ i ∧ i < (n : Int)
theorem isItem.nat {n : Nat} {i : Int} (h : isItem n i) : ∃ k : Nat, i = (k : Int) ∧ k < n := ⟨i.toNat, by have := h.1; omega, by have := h.1; have := h.2; omega⟩

theorem cmpF_of {A : Option Addr} {n c : Nat} {l : List Nat} {t g1 g2 g3 g : Nat} {w : World} (h : WS w A n c l) (ht : t < n) (hn : n ≤ 1000000) (k1 : w.cell? ⟨g1, 0, none⟩ = some (.slice A n c)) (k2 : w.cell? ⟨g2, 0, none⟩ = some (.int .i64 (t : Int))) (k3 : w.cell? ⟨g3, 0, none⟩ = some (.func (.func 60) #[] #[.pointer (some ⟨g1, 0, none⟩), .pointer (some ⟨g2, 0, none⟩)]))
    (b1 : g1 ≠ g) (b2 : g2 ≠ g) (b3 : g3 ≠ g) (hA : 0 < n → ∀ b off, A = some ⟨b, off, none⟩ → b ≠ g) : CmpF 62 #[.pointer (some ⟨g3, 0, none⟩)] (keyD l t) (isItem n) w g := fun W x y ho hx hy => by
  obtain ⟨i, rfl, hi⟩ := hx.nat
  obtain ⟨j, rfl, hj⟩ := hy.nat
  have s1 := World.block_lt_of_cell? w _ k1
  have s2 := World.block_lt_of_cell? w _ k2
  have s3 := World.block_lt_of_cell? w _ k3
  have := less_any A n c l t i j g1 g2 g3 W (h.only ho hA) ht hi hj hn ((ho.cell s1 b1).trans k1) ((ho.cell s2 b2).trans k2) ((ho.cell s3 b3).trans k3)
  simpa [keyD] using this

/-- What ascends: the items up to the last one of the key r. -/
theorem Asc.split {κ : Int → Nat} {M : List Int} {m q1 q r : Nat} (h : Asc κ M m) (hq1 : q1 < q) (hr : κ (nth M q1) = r) (hq : q < m) (hne : κ (nth M q) ≠ r) : ∀ i, q ≤ i → i < m → r < κ (nth M i) := fun i h1 h2 => by
  have a1 := h q1 q hq1 hq
  by_cases e : i = q
  · subst e; omega
  · have := h q i (by omega) h2; omega

set_option maxRecDepth 100000 in
set_option maxHeartbeats 3200000 in
theorem halved_any (A : Option Addr) (n c : Nat) (l : List Nat) (t g m cm : Nat) (P M S : List Int) (w : World) (h : WS w A n c l) (ht : t < n) (hn : n ≤ 1000000) (hA : 0 < n → ∀ b off, A = some ⟨b, off, none⟩ → b ≠ g) (hbl : Bl w g (P ++ (M ++ S))) (hm : M.length = m) (hmc : m ≤ cm) (hcm : cm ≤ 9223372036854775807) (hm0 : 1 ≤ m) (hm19 : m ≤ 19) (hok : ∀ x ∈ M, isItem n x) :
    Calls Try.prog 53 #[.slice A n c, .int .i64 (t : Int), .slice (some ⟨g, P.length, none⟩) m cm] w fun e w' => (∃ r q : Nat, e = .returned (.tuple #[.int .i64 (r : Int), .int .i64 (q : Int)]) ∧ ∃ M', Bl w' g (P ++ (M' ++ S)) ∧ M'.Perm M ∧ 1 ≤ q ∧ q ≤ m ∧ r ≤ 64 ∧ (∀ i, i < q → keyD l t (nth M' i) ≤ r) ∧ ∀ i, q ≤ i → i < m → r < keyD l t (nth M' i)) ∧ Only w w' g := by
  have hcap := h.le_cap
  have hcl := h.cap_le
  have mz : ((m : Int) == 0) = false := by simp; omega
  have hgl := hbl.lt
  obtain ⟨fv, hfv⟩ : ∃ fv, Value.func (.func 60) #[] #[.pointer (some ⟨w.heap.size, 0, none⟩), .pointer (some ⟨w.heap.size + 1, 0, none⟩)] = fv := ⟨_, rfl⟩
  obtain ⟨W3, hW3⟩ : ∃ W3, (((w.alloc (.cells #[.slice A n c] 22)).alloc (.cells #[.int .i64 (t : Int)] 3)).alloc (.cells #[fv] 94)) = W3 := ⟨_, rfl⟩
  have hB3 : Below w.heap.size w W3 := by
    rw [← hW3]
    exact (((Below.refl w.heap.size w).alloc (Nat.le_refl _) _).alloc (by simp) _).alloc (by simp; omega) _
  have k1 : W3.cell? ⟨w.heap.size, 0, none⟩ = some (.slice A n c) := by
    rw [← hW3, World.cell?_alloc_lt _ _ _ (by first | (simp; done) | (simp; omega)), World.cell?_alloc_lt _ _ _ (by simp)]
    exact cell_of_row _ w.heap.size 0 _ _ _ (heap_alloc_new w _)
  have k2 : W3.cell? ⟨w.heap.size + 1, 0, none⟩ = some (.int .i64 (t : Int)) := by
    rw [← hW3, World.cell?_alloc_lt _ _ _ (by simp)]
    have := cell_of_row _ _ 0 _ _ _ (heap_alloc_new (w.alloc (.cells #[.slice A n c] 22)) (.cells #[.int .i64 (t : Int)] 3))
    simp only [World.size_alloc] at this
    exact this
  have k3 : W3.cell? ⟨w.heap.size + 1 + 1, 0, none⟩ = some fv := by
    rw [← hW3]
    have := cell_of_row _ _ 0 _ _ _ (heap_alloc_new ((w.alloc (.cells #[.slice A n c] 22)).alloc (.cells #[.int .i64 (t : Int)] 3)) (.cells #[fv] 94))
    simp only [World.size_alloc] at this
    exact this
  have hs3 := h.below hB3 (Nat.le_refl _)
  have hbl3 : Bl W3 g (P ++ (M ++ S)) := hbl.below hB3 hgl
  have b1 : w.heap.size ≠ g := by omega
  have b2 : w.heap.size + 1 ≠ g := by omega
  have b3 : w.heap.size + 1 + 1 ≠ g := by omega
  have hcall := Lib.hid (sort_any _ _ (keyD l t) (isItem n) enters_less g m cm P M S W3 hbl3 hm hmc hcm hm19 hm0 hok (cmpF_of hs3 ht hn k1 k2 (by rw [k3, hfv]) b1 b2 b3 hA))
  have hO3 : Only w W3 g := Only.of_below hB3 g
  have eg := enters_keyed
  obtain ⟨off, hoff⟩ : ∃ off, P.length = off := ⟨_, rfl⟩
  obtain ⟨q0, hq0⟩ : ∃ q0, (m + 1) / 2 = q0 := ⟨_, rfl⟩
  obtain ⟨q1, hq1⟩ : ∃ q1, q0 - 1 = q1 := ⟨_, rfl⟩
  have y1 : ((m : Int) + 1) / 2 = (q0 : Int) := by omega
  have y2 : ((m : Int) + 1).tdiv 2 = (q0 : Int) := by rw [Int.tdiv_eq_ediv_of_nonneg (by omega)]; exact y1
  have y3 : IntKind.i64.wrap ((q0 : Int) - 1) = (q1 : Int) := by rw [IntWalk.i64_left, IntWalk.wrap64_in _ (by omega)]; omega
  have hq1m : q1 < m := by omega
  have hq1i : (q1 : Int) < (m : Int) := by omega
  have hq01 : q0 = q1 + 1 := by omega
  have hs3' := Lib.hid hs3
  have hA' := Lib.hid hA
  have hok' := Lib.hid hok
  have k1' := Lib.hid k1
  have k2' := Lib.hid k2
  have k3' := Lib.hid k3
  have z1 := World.block_lt_of_cell? W3 _ k1
  have z2 := World.block_lt_of_cell? W3 _ k2
  have z3 := World.block_lt_of_cell? W3 _ k3
  rw [← hW3, ← hfv] at hcall
  have hW3' := Lib.hid hW3
  have hfv' := Lib.hid hfv
  rw [hoff] at hcall ⊢
  clear hbl3 hs3 h hA hbl hok k1 k2 k3 hq0 hq1 hW3 hfv
  go_enter Try.func53, Try.ntmps53
  go_wp2_with (go_at_call 61; refine hcall.out.mono ?_; rintro e w4 ⟨⟨rfl, M', hbl4, hpm, hasc⟩, ho4⟩)
  rw [hfv'.out, hW3'.out] at ho4
  clear hcall
  have hMl : M'.length = m := hpm.length_eq.trans hm
  have e1 := (ho4.cell z1 b1).trans k1'.out
  have e2 := (ho4.cell z2 b2).trans k2'.out
  have e3 := (ho4.cell z3 b3).trans k3'.out
  rw [← hfv'.out] at e3
  have hs4 := hs3'.out.only ho4 hA'.out
  obtain ⟨z, hz, hzn⟩ := (hok'.out _ (hpm.mem_iff.1 (show nth M' q1 ∈ M' by rw [nth_eq (by omega)]; exact List.getElem_mem _))).nat
  have hcz := hbl4.cell (i := off + q1) (by simp; omega)
  rw [← hoff, nth_app_mid (by omega), hz, hoff] at hcz
  obtain ⟨r, hr⟩ : ∃ r, dst (nw l t) (nw l z) = r := ⟨_, rfl⟩
  have hkr : keyD l t (nth M' q1) = r := by rw [hz]; unfold keyD; rw [Int.toNat_natCast]; exact hr
  have hc4 := fun q => Lib.hid (keyed_any A n c l t z w.heap.size (w.heap.size + 1) (w4.drewN q) (hs4.drewN q) ht hzn hn e1 e2 hr)
  replace hr := Lib.hid hr
  replace hz := Lib.hid hz
  replace hkr := Lib.hid hkr
  replace hasc := Lib.hid hasc
  replace hpm := Lib.hid hpm
  replace hs4 := Lib.hid hs4
  replace hbl4 := Lib.hid hbl4
  replace hMl := Lib.hid hMl
  clear e1 e2
  go_quiet ((go_at_fn 60; exact Calls.quiet_of (hc4 _).out))
  go_wp2
  go_loopw [7] (fun a wr => ∃ q : Nat, q1 < q ∧ q ≤ m ∧ a = .int .i64 (q : Int) ∧ Hid (∀ i, i < q → keyD l t (nth M' i) ≤ r) ∧ Bl wr g (P ++ (M' ++ S)) ∧ Only W3 wr g) (fun a _ => m - (intOf a).toNat)
  case atStart => exact ⟨q0, by omega, by omega, by first | rfl | (simp; done) | (rw [hq01]; simp), Lib.hid (fun i hi => by
    by_cases e : i = q1
    · rw [e, hkr.out]; exact Nat.le_refl _
    · rw [← hkr.out]; exact hasc.out i q1 (by omega) hq1m), hbl4.out.drewN _, ho4.drewN _⟩
  case round =>
    clear hc4 e3
    obtain ⟨q, hq1, hqm, rfl, hle, hbl5, ho5⟩ := hrel
    have e1 := (ho5.cell z1 b1).trans k1'.out
    have e2 := (ho5.cell z2 b2).trans k2'.out
    have e3 := (ho5.cell z3 b3).trans k3'.out
    rw [← hfv'.out] at e3
    have hs5 := hs3'.out.only ho5 hA'.out
    by_cases hlt : q < m
    · have hd : decide ((q : Int) < (m : Int)) = true := by simp; omega
      have hqi : (q : Int) < (m : Int) := by omega
      obtain ⟨y, hy, hyn⟩ := (hok'.out _ (hpm.out.mem_iff.1 (show nth M' q ∈ M' by rw [nth_eq (by rw [hMl.out]; exact hlt)]; exact List.getElem_mem _))).nat
      have hcy := hbl5.cell (i := off + q) (by simp; have := hMl.out; omega)
      rw [← hoff, nth_app_mid (by rw [hMl.out]; exact hlt), hy, hoff] at hcy
      obtain ⟨d, hd2⟩ : ∃ d, dst (nw l t) (nw l y) = d := ⟨_, rfl⟩
      have hkd : keyD l t (nth M' q) = d := by rw [hy]; unfold keyD; rw [Int.toNat_natCast]; exact hd2
      have hc5 := fun q => Lib.hid (keyed_any A n c l t y w.heap.size (w.heap.size + 1) (wr.drewN q) (hs5.drewN q) ht hyn hn e1 e2 hd2)
      replace hd2 := Lib.hid hd2
      replace hy := Lib.hid hy
      replace hkd := Lib.hid hkd
      replace hbl5 := Lib.hid hbl5
      replace hs5 := Lib.hid hs5
      clear e1 e2
      by_cases hdr : d = r
      · subst hdr
        have hdd : ((d : Int) == (d : Int)) = true := by simp
        go_wp2
        go_quiet ((go_at_fn 60; exact Calls.quiet_of (hc5 _).out))
        go_wp2
        go_roundw
        case rel => exact ⟨q + 1, by omega, by omega, by go_num, Lib.hid (fun i hi => by
          by_cases e : i = q
          · rw [e, hkd.out]; exact Nat.le_refl _
          · exact hle.out i (by omega)), hbl5.out.drewN _, ho5.drewN _⟩
        case measure => simp [intOf]; omega
      · have hdd : ((d : Int) == (r : Int)) = false := by simp; omega
        have hsp := Lib.hid (hasc.out.split hq1 hkr.out hlt (by rw [hkd.out]; exact hdr))
        have hr64 : r ≤ 64 := by rw [← hkr.out]; exact keyD_le _ _ _
        go_wp2
        go_quiet ((go_at_fn 60; exact Calls.quiet_of (hc5 _).out))
        go_wp2
        exact bodyPost_ret (v := .tuple #[.int .i64 (r : Int), .int .i64 (q : Int)]) (by simp [results, Try.results53, go_sem]) rfl ⟨⟨r, q, rfl, M', hbl5.out.drewN _, hpm.out, by omega, by omega, hr64, hle.out, hsp.out⟩, hO3.trans (ho5.drewN _)⟩
    · obtain rfl : q = m := by omega
      have hd : decide ((q : Int) < (q : Int)) = false := by simp
      have hr64 : r ≤ 64 := by rw [← hkr.out]; exact keyD_le _ _ _
      replace hbl5 := Lib.hid hbl5
      clear e1 e2
      go_wp2
      go_quiet (fail)
      go_wp2
      exact bodyPost_ret (v := .tuple #[.int .i64 (r : Int), .int .i64 (q : Int)]) (by simp [results, Try.results53, go_sem]) rfl ⟨⟨r, q, rfl, M', hbl5.out.drewN _, hpm.out, by omega, by omega, hr64, hle.out, fun i h1 h2 => by omega⟩, hO3.trans (ho5.drewN _)⟩

end Go.Proofs.Ytofoiocpopmifaa
