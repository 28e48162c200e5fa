/-
  Walks: Histogram of package raster, Count of the reference; the histogram of a turned raster.
-/
import Derived.Test.YtehnemdifkjhcaaRaK
set_option linter.unusedSimpArgs false
set_option linter.unusedVariables false
namespace Go.Proofs.Ytehnemdifkjhcaa
open Go.RowKit

/-- How many numbers of a list are g, as an int. -/
def cnt (P : List Int) (g : Int) : Int := (P.count g : Nat)
theorem cnt_bounds (P : List Int) (g : Int) : 0 ≤ cnt P g ∧ cnt P g ≤ P.length := by
  unfold cnt
  have := List.count_le_length (a := g) (l := P)
  omega
theorem cnt_take {P : List Int} {k : Nat} (hk : k < P.length) (g : Int) : cnt (P.take (k + 1)) g = cnt (P.take k) g + if nth P k = g then 1 else 0 := by
  unfold cnt
  rw [List.take_succ_eq_append_getElem hk, List.count_append, nth_eq hk, List.count_singleton]
  by_cases e : P[k] = g <;> simp [e]
theorem cnt_take_zero (P : List Int) (g : Int) : cnt (P.take 0) g = 0 := by simp [cnt]
/-- The histogram. -/
def hist (m : Nat) (P : List Int) : List Int := tab (m + 1) fun g => cnt P g

def HistTo (P : List Int) (m k : Nat) (L : List Int) : Prop := L.length = m + 1 ∧ ∀ v : Nat, v ≤ m → nth L v = cnt (P.take k) v
theorem HistTo.start (P : List Int) (m : Nat) : HistTo P m 0 (List.replicate (m + 1) 0) := ⟨by simp, fun v hv => by rw [cnt_take_zero]; simp [nth, List.getD, List.getElem?_replicate]; rw [if_pos (by omega)]; rfl⟩
theorem HistTo.step {P L : List Int} {m k v : Nat} {c : Int} (h : HistTo P m k L) (hk : k < P.length) (hv : v ≤ m) (hp : nth P k = (v : Int)) (hc : nth L v = c) : HistTo P m (k + 1) (L.set v (c + 1)) := by
  refine ⟨by rw [List.length_set]; exact h.1, fun u hu => ?_⟩
  rw [cnt_take hk, hp]
  by_cases e : u = v
  · subst e
    rw [nth_set_self (by rw [h.1]; omega), if_pos rfl, ← h.2 u hu, hc]
  · rw [nth_set_ne (Ne.symm e), if_neg (by omega), h.2 u hu, Int.add_zero]
theorem HistTo.done {P L : List Int} {m : Nat} (h : HistTo P m P.length L) : L = hist m P := nth_ext (by rw [h.1, hist, tab_length]) fun i hi => by
  rw [h.1] at hi
  rw [h.2 i (by omega), List.take_of_length_le (Nat.le_refl _), hist, nth_tab hi]

/-- The places of a turned raster are those of the raster, in another order. -/
def turnp (a b k : Nat) : Nat := k % b * a + (a - 1 - k / b)
theorem turnp_at {a b y x : Nat} (hx : x < b) : turnp a b (y * b + x) = x * a + (a - 1 - y) := by unfold turnp; rw [row_mod hx, row_div hx]
theorem turnp_perm (a b : Nat) : ((List.range (a * b)).map (turnp a b)).Perm (List.range (b * a)) := by
  have hinj : ∀ i j, i < a * b → j < a * b → turnp a b i = turnp a b j → i = j := by
    intro i j hi hj h
    obtain ⟨y, x, hy, hx, rfl⟩ := grid hi
    obtain ⟨y2, x2, hy2, hx2, rfl⟩ := grid hj
    rw [turnp_at hx, turnp_at hx2] at h
    have h1 : x = x2 := by rw [← row_div (b := a) (y := x) (x := a - 1 - y) (by omega), h, row_div (by omega)]
    have h2 : a - 1 - y = a - 1 - y2 := by rw [← row_mod (b := a) (y := x) (x := a - 1 - y) (by omega), h, row_mod (by omega)]
    have : y = y2 := by omega
    rw [h1, this]
  rw [List.perm_ext_iff_of_nodup]
  · intro j
    simp only [List.mem_map, List.mem_range]
    constructor
    · rintro ⟨i, hi, rfl⟩
      obtain ⟨y, x, hy, hx, rfl⟩ := grid hi
      rw [turnp_at hx]
      exact row_lt hx (by omega)
    · intro hj
      obtain ⟨x, y', hx, hy, rfl⟩ := grid hj
      exact ⟨(a - 1 - y') * b + x, row_lt (by omega) hx, by rw [turnp_at hx, show a - 1 - (a - 1 - y') = y' from by omega]⟩
  · unfold List.Nodup
    rw [List.pairwise_map]
    exact List.Pairwise.imp_of_mem (fun {i j} hi hj hne h => hne (hinj i j (List.mem_range.1 hi) (List.mem_range.1 hj) h)) List.nodup_range
  · exact List.nodup_range
theorem turned_perm {a b : Nat} {P : List Int} (hl : P.length = b * a) : (turned a b P).Perm P := by
  have h := (turnp_perm a b).map (nth P)
  rw [List.map_map] at h
  have e : (List.range (b * a)).map (nth P) = P := by rw [← hl]; exact tab_nth P
  rw [e] at h
  exact h
theorem hist_turned {a b m : Nat} {P : List Int} (hl : P.length = b * a) : hist m (turned a b P) = hist m P := by
  unfold hist cnt
  exact tab_congr fun i _ => by rw [(turned_perm hl).count_eq]

/-- A slice of ints and OK. -/
def RetS (w : World) (L : List Int) (e : Ending) (w' : World) : Prop := ∃ A n c, e = .returned (.tuple #[.slice A n c, .int .i64 0]) ∧ Sl w' A n c L ∧ Below w.heap.size w w'

theorem Histogram_no (W H M : Int) (A : Option Addr) (n c : Nat) (P : List Int) (w : World) (h : Sl w A n c P) (hr : ¬ Ras W H M P) :
    Calls Try.prog 34 #[.agg #[.int .i64 W, .int .i64 H, .int .i64 M, .slice A n c]] w fun e w' => e = .returned (.tuple #[.slice none 0 0, .int .i64 1]) ∧ Below w.heap.size w w' := by
  have hb := (Below.refl w.heap.size w).alloc (Nat.le_refl _) (.cells #[.int .i64 W, .int .i64 H, .int .i64 M, .slice A n c] 24)
  have hs := h.alloc (.cells #[.int .i64 W, .int .i64 H, .int .i64 M, .slice A n c] 24)
  have hck := Lib.hid (Check_no hs hr)
  clear h hs hr
  go_enter Try.func34, Try.ntmps34
  go_wp2_with (go_at_call 13; refine (hck.out).mono ?_; rintro e w1 ⟨rfl, hb2⟩)
  go_ret2
  exact ⟨rfl, hb.trans (hb2.mono (by simp))⟩

set_option maxHeartbeats 3200000 in
theorem Histogram_yes (a b m : Nat) (A : Option Addr) (n c : Nat) (P : List Int) (w : World) (h : Sl w A n c P) (hr : Ras a b m P) :
    Calls Try.prog 34 #[.agg #[.int .i64 a, .int .i64 b, .int .i64 m, .slice A n c]] w (RetS w (hist m P)) := by
  have hs := h.alloc (.cells #[.int .i64 a, .int .i64 b, .int .i64 m, .slice A n c] 24)
  have hck := Lib.hid (Check_ok hs hr)
  have hgr := Lib.hid hr.2.2
  obtain ⟨a', b', ea, eb, ⟨ha1, ha2⟩, ⟨hb1, hb2⟩, ⟨hM1, hM2⟩, hab, hl1, hl2⟩ := hr.nat
  have hlen := Lib.hid h.len
  have hold := Lib.hid h.old
  have hn4 : n ≤ 4096 := by rw [h.len]; exact hl1
  have hcap := h.le_cap
  have hcl := h.cap_le
  have hm2 : m ≤ 65535 := by omega
  have hmkI := run_make_i64 .i64 .i64 ((m : Int) + 1) (m + 1) (by omega) (by omega)
  have hbl := Lib.hid (fun W : World => Bl.new W (List.replicate (m + 1) 0))
  obtain ⟨CI, hCI⟩ : ∃ C, (cells (List.replicate (m + 1) 0)).toArray = C := ⟨_, rfl⟩
  rw [hCI] at hmkI hbl
  clear hr h hab hl1 hl2 ea eb ha1 ha2 hb1 hb2 hCI
  go_enter Try.func34, Try.ntmps34
  go_wp2_with (go_at_call 13; refine (hck.out).mono ?_; rintro e w1 ⟨rfl, hb3⟩; obtain ⟨k, hB, hz⟩ := box_after hb3; replace hs := hs.below hb3 (by simp); clear hb3; obtain ⟨⟨d0, d1, d2, d3⟩, f0, f1, f2, f3⟩ := k.cells; have k2 := k.alloc (.cells CI 3); obtain ⟨⟨d4, d5, d6, d7⟩, f4, f5, f6, f7⟩ := k2.cells)
  have hbl1 := hbl.out w1
  replace hs := hs.alloc (.cells CI 3)
  replace hB := hB.alloc hB.size (.cells CI 3)
  have hsz0 : w1.heap.size < (w1.alloc (.cells CI 3)).heap.size := by simp
  clear d0 d1 d2 d3 d4 d5 d6 d7 f0 f1 f2 f3 f4 f5 f6 f7 k k2 hck hbl
  go_loopw [20] (fun i wr => ∃ (j : Nat) (L : List Int), j ≤ n ∧ i = .int .i64 (j : Int) ∧ Bl wr w1.heap.size L ∧ HistTo P m j L ∧ Sl wr A n c P ∧ Below w.heap.size w wr) (fun i _ => n - (intOf i).toNat)
  case atStart => exact ⟨0, _, Nat.zero_le _, rfl, hbl1, HistTo.start _ _, hs, hB⟩
  case round =>
    clear hbl1 hs hB hsz0
    obtain ⟨j, L, hj, rfl, hbl, hhist, hs, hB⟩ := hrel
    by_cases hlt : j < n
    · obtain ⟨b', off, rfl, hbw, hcc⟩ := hs.at_ (by omega)
      have hbo := hold.out (by omega) _ _ rfl
      have hcell := hcc j hlt
      clear hcc
      obtain ⟨v, hv⟩ : ∃ v, nth P j = v := ⟨_, rfl⟩
      have hvb := nth_bounds (by omega) hgr.out j
      rw [hv] at hcell hvb
      obtain ⟨v', rfl⟩ := Int.eq_ofNat_of_zero_le hvb.1
      have hvm : v' ≤ m := by omega
      have tc := hbl.cell (i := v') (by rw [hhist.1]; omega)
      have tf := hbl.frozen v'
      obtain ⟨u, hu⟩ : ∃ u, nth L v' = u := ⟨_, rfl⟩
      have hub : 0 ≤ u ∧ u ≤ 4096 := by
        have h1 := cnt_bounds (P.take j) (v' : Int)
        have h2 : (P.take j).length ≤ j := List.length_take_le _ _
        rw [← hu, hhist.2 v' hvm]
        omega
      rw [hu] at tc
      have hstep := Lib.hid (hhist.step (by rw [← hlen.out]; exact hlt) hvm hv hu)
      replace hv := Lib.hid hv
      replace hu := Lib.hid hu
      clear hhist
      obtain ⟨hu0, hu1⟩ := hub
      go_wp2
      go_roundw
      case rel => exact ⟨j + 1, _, hlt, by go_num, hbl.set _ _, hstep.out, hs.keep (fun _ bq iq ⟨oq, eq⟩ _ => World.cell?_setCell_other _ _ _ _ (fun e2 => by cases eq; cases e2; omega)), hB.setCell (by simp; omega) _⟩
      case measure => simp [intOf]; omega
    · obtain rfl : j = n := by omega
      have hdone : L = hist m P := HistTo.done (by rw [← hlen.out]; exact hhist)
      have hlL := Lib.hid hhist.1
      replace hdone := Lib.hid hdone
      clear hhist
      go_wp2
      go_ret2
      refine ⟨_, _, _, rfl, ?_, hB⟩
      rw [← hdone.out]
      exact hbl.sl0 hlL.out.symm (Nat.le_refl _) (by omega)

set_option maxHeartbeats 1600000 in
theorem Count_at {W H M : Int} {A : Option Addr} {n c : Nat} {P : List Int} {w : World} {g u : Int} (h : Sl w A n c P) (hn : n ≤ 1000000) (hu : cnt P g = u) :
    Calls Try.prog 35 #[.agg #[.int .i64 W, .int .i64 H, .int .i64 M, .slice A n c], .int .i64 g] w fun e w' => e = .returned (.int .i64 u) ∧ Below w.heap.size w w' := by
  have hs := h.alloc (.cells #[.int .i64 W, .int .i64 H, .int .i64 M, .slice A n c] 24)
  have hB := (Below.refl w.heap.size w).alloc (Nat.le_refl _) (.cells #[.int .i64 W, .int .i64 H, .int .i64 M, .slice A n c] 24)
  have hcap := h.le_cap
  have hcl := h.cap_le
  have hlen := Lib.hid h.len
  replace hu := Lib.hid hu
  clear h
  go_enter Try.func35, Try.ntmps35
  go_wp2
  go_loop [5, 6] (fun s i => ∃ j : Nat, j ≤ n ∧ s = .int .i64 (cnt (P.take j) g) ∧ i = .int .i64 (j : Int)) (fun _ i => n - (intOf i).toNat)
  case atStart => exact ⟨0, Nat.zero_le _, by rw [cnt_take_zero], rfl⟩
  case round =>
    obtain ⟨j, hj, rfl, rfl⟩ := hrel
    obtain ⟨s, hs0⟩ : ∃ s, cnt (P.take j) g = s := ⟨_, rfl⟩
    have hsb : 0 ≤ s ∧ s ≤ 1000000 := by
      have h1 := cnt_bounds (P.take j) g
      have h2 : (P.take j).length ≤ j := List.length_take_le _ _
      rw [← hs0]
      omega
    rw [hs0]
    obtain ⟨hsb1, hsb2⟩ := hsb
    by_cases hlt : j < n
    · obtain ⟨b', off, rfl, hbw, hcc⟩ := hs.at_ (by omega)
      have hcell := hcc j hlt
      clear hcc
      obtain ⟨v, hv⟩ : ∃ v, nth P j = v := ⟨_, rfl⟩
      rw [hv] at hcell
      have hnext := cnt_take (P := P) (k := j) (by rw [← hlen.out]; exact hlt) g
      rw [hs0, hv] at hnext
      replace hv := Lib.hid hv
      replace hs0 := Lib.hid hs0
      by_cases e : v = g
      · subst e
        rw [if_pos rfl] at hnext
        have hvv : (v == v) = true := by simp
        replace hnext := Lib.hid hnext
        go_wp2
        go_round
        case rel => exact ⟨j + 1, hlt, by rw [hnext.out], by go_num⟩
        case measure => simp [intOf]; omega
      · rw [if_neg e, Int.add_zero] at hnext
        have hvv : (v == g) = false := by simp [e]
        replace hnext := Lib.hid hnext
        replace e := Lib.hid e
        go_wp2
        go_round
        case rel => exact ⟨j + 1, hlt, by rw [hnext.out], by go_num⟩
        case measure => simp [intOf]; omega
    · obtain rfl : j = n := by omega
      have hfin : s = u := by rw [← hs0, ← hu.out, List.take_of_length_le (by rw [← hlen.out]; exact Nat.le_refl _)]
      replace hfin := Lib.hid hfin
      replace hs0 := Lib.hid hs0
      go_wp2
      go_ret
      exact ⟨ret_int hfin.out, hB⟩

end Go.Proofs.Ytehnemdifkjhcaa
