/-
  Walks: trimmed, Valid, counted, signed of package integer.
-/
import Derived.Test.YtabibkhcdamlhaaDoorChecked
import Derived.Test.YtabibkhcdamlhaaDoorMem
import Derived.Test.YtabibkhcdamlhaaDoorNum
set_option linter.unusedSimpArgs false
set_option linter.unusedVariables false
namespace Go.Proofs.YtabibkhcdamlhaaDoor
open Go.RowKit Num

set_option maxRecDepth 100000 in
set_option maxHeartbeats 400000 in
/-- trimmed: as many groups as are left when the zeros at the end are cut off. -/
theorem trimmed_any (A : Option Addr) (n c : Nat) (l : List Nat) (w : World) (h : Sl w A n c l) (hn : n ≤ 1000000000) :
    Calls Tryd.prog 81 #[.slice A n c] w fun e w' => ∃ k, k ≤ n ∧ (∀ j, k ≤ j → j < n → nth l j = 0) ∧ (k = 0 ∨ nth l (k - 1) ≠ 0) ∧ e = .returned (.slice A k c) ∧ w = w' := by
  have hcap := h.le_cap
  have hcl := h.cap_le
  go_enter Tryd.func81, Tryd.ntmps81
  go_wp2
  go_loop [3] (fun i => ∃ k : Nat, k ≤ n ∧ (∀ j, k ≤ j → j < n → nth l j = 0) ∧ i = .int .i64 k) (fun i => (intOf i).toNat)
  case atStart => exact ⟨n, Nat.le_refl _, fun j h1 h2 => absurd h2 (by omega), rfl⟩
  case round =>
    obtain ⟨k, hk, hz, rfl⟩ := hrel
    by_cases h0 : 0 < k
    · obtain ⟨b, off, rfl, _, hc⟩ := h.at_ (by omega)
      have hcell := hc (k - 1) (by omega)
      obtain ⟨x, hx⟩ : ∃ x, nth l (k - 1) = x := ⟨_, rfl⟩
      rw [hx] at hcell
      have hx' := Lib.hid hx
      clear hx
      by_cases hx0 : x = 0
      · subst hx0
        go_wp2
        go_round
        case rel => exact ⟨k - 1, by omega, fun j h1 h2 => (by
            by_cases e : j = k - 1
            · rw [e]; exact hx'.out
            · exact hz j (by omega) h2), by go_num⟩
        case measure => simp [intOf]; omega
      · go_wp2
        go_ret
        exact ⟨k, hk, hz, .inr (by rw [hx'.out]; exact hx0), rfl, rfl⟩
    · go_wp2
      go_ret
      exact ⟨k, hk, hz, .inl (by omega), rfl, rfl⟩

/-- Is an integer canonical? -/
def vld (neg : Bool) (l : List Nat) : Bool := decide (CanZ neg l)
theorem vld_iff {neg : Bool} {l : List Nat} : vld neg l = true ↔ CanZ neg l := by unfold vld; simp
theorem vld_nil (neg : Bool) : vld neg [] = !neg := by
  unfold vld CanZ
  simp [Cano.nil]
theorem vld_bad {neg : Bool} {l : List Nat} {k : Nat} (h : ¬ nth l k < 1000000000) : vld neg l = false := by
  unfold vld
  simp only [decide_eq_false_iff_not]
  intro hc
  exact h (hc.1.1.get k)
theorem vld_end {neg : Bool} {l : List Nat} (h0 : 0 < l.length) (h : ∀ j, j < l.length → nth l j < 1000000000) : vld neg l = decide (nth l (l.length - 1) ≠ 0) := by
  have hg : Grp l := fun d hd => by
    obtain ⟨i, hi, rfl⟩ := List.mem_iff_getElem.1 hd
    rw [← nth_eq hi]; exact h i hi
  have hne : l ≠ [] := by rintro rfl; simp at h0
  have : CanZ neg l ↔ nth l (l.length - 1) ≠ 0 := by
    unfold CanZ
    rw [can_iff]
    simp [hg, hne]
  unfold vld
  simp only [this]

/-- The first k groups are below the base. -/
def Good (l : List Nat) (k : Nat) : Prop := ∀ j, j < k → nth l j < 1000000000

set_option maxHeartbeats 400000 in
/-- Valid. -/
theorem Valid_any (neg : Bool) (A : Option Addr) (n c : Nat) (l : List Nat) (w : World) (h : Sl w A n c l) (hn : n ≤ 1000000000) :
    Calls Tryd.prog 14 #[.agg #[.bool neg, .slice A n c]] w fun e w' => e = .returned (.bool (vld neg l)) ∧ Below w.heap.size w w' := by
  have hcap := h.le_cap
  have hcl := h.cap_le
  have hb := (Below.refl w.heap.size w).alloc (Nat.le_refl _) (.cells #[.bool neg, .slice A n c] 24)
  have h1 := h.alloc (.cells #[.bool neg, .slice A n c] 24)
  by_cases h0 : n = 0
  · have hl : l = [] := List.eq_nil_of_length_eq_zero (by rw [← h.len]; exact h0)
    subst h0 hl
    go_enter Tryd.func14, Tryd.ntmps14
    go_wp2
    go_ret
    exact ⟨ret_bool (vld_nil neg).symm, hb⟩
  · have hpos : 0 < n := by omega
    obtain ⟨b, off, rfl, hbl, hc0⟩ := h1.at_ hpos
    have hc := Lib.hid hc0
    clear hc0
    have hlen := Lib.hid h.len
    clear h0
    go_enter Tryd.func14, Tryd.ntmps14
    go_wp2
    go_loop [17] (fun i => ∃ k : Nat, k ≤ n ∧ Good l k ∧ i = .int .i64 k) (fun i => n - (intOf i).toNat)
    case atStart => exact ⟨0, Nat.zero_le _, fun j h => absurd h (by omega), rfl⟩
    case round =>
      obtain ⟨k, hk, hz0, rfl⟩ := hrel
      have hz' := Lib.hid hz0
      clear hz0
      by_cases hlt : k < n
      · have hcell := hc.out k hlt
        obtain ⟨x, hx0⟩ : ∃ x, nth l k = x := ⟨_, rfl⟩
        rw [hx0] at hcell
        have hx' := Lib.hid hx0
        clear hx0
        by_cases hx : (x : Int) < 1000000000
        · have hd : decide ((1000000000 : Int) ≤ (x : Int)) = false := by simp; omega
          have hx2 := Lib.hid hx
          clear hx
          go_wp2
          go_round
          case rel => exact ⟨k + 1, by omega, fun j h => (by
            by_cases e : j = k
            · rw [e, hx'.out]; have := hx2.out; omega
            · exact hz'.out j (by omega)), by go_num⟩
          case measure => simp [intOf]; omega
        · have hd : decide ((1000000000 : Int) ≤ (x : Int)) = true := by simp; omega
          have hx2 := Lib.hid hx
          clear hx
          go_wp2
          go_ret
          exact ⟨ret_bool (vld_bad (k := k) (by rw [hx'.out]; have := hx2.out; omega)).symm, hb⟩
      · have hcell := hc.out (n - 1) (by omega)
        have hkn : k = n := by omega
        subst hkn
        go_wp2
        go_ret
        refine ⟨ret_bool ?_, hb⟩
        rw [vld_end (by rw [← hlen.out]; exact hpos) (by rw [← hlen.out]; exact hz'.out), ← hlen.out]
        by_cases e : nth l (k - 1) = 0 <;> simp [e]

/-- counted: the integer itself, or 0. -/
theorem counted_old (neg : Bool) (A : Option Addr) (n c : Nat) (z : Int) (k : Nat) (w0 w : World) (h : VI w0 neg A n c z k) (hw : Below w0.heap.size w0 w) (hk : k ≤ 1000000000) :
    Calls Tryd.prog 50 #[.agg #[.bool neg, .slice A n c]] w (RetO w0 w z k) := by
  obtain ⟨l, hs0, hz, hn⟩ := h
  have hs := hs0.below hw (Nat.le_refl _)
  have hz' := Lib.hid hz
  clear hz
  have hb1 := (Below.refl w.heap.size w).alloc (Nat.le_refl _) (.cells #[.bool neg, .slice A n c] 24)
  have hb2 := hb1.alloc (by simp) (.cells #[.bool false, .slice none 0 0] 24)
  have hs2 := (hs.alloc (.cells #[.bool neg, .slice A n c] 24)).alloc (.cells #[.bool false, .slice none 0 0] 24)
  by_cases hc : CanZ neg l
  · have hv : vld neg l = true := vld_iff.2 hc
    go_enter Tryd.func50, Tryd.ntmps50
    go_wp2_with (go_at_call 14; refine (Valid_any _ _ _ _ _ _ hs2 (by omega)).mono ?_; rintro e w1 ⟨rfl, hb3⟩; obtain ⟨hcc, hff, hsz⟩ := old3 hb3; simp only [World.size_alloc] at hsz)
    refine bodyPost_ret (v := .agg #[.bool neg, .slice A n c]) (by simp [results, Tryd.results50, go_sem, hcc]) rfl ?_
    have hbF := ((hb2.trans (hb3.mono (by simp; omega))).setCell (p := ⟨w.heap.size + 1, 0, none⟩) (by simp) (.bool neg)).setCell (p := ⟨w.heap.size + 1, 1, none⟩) (by simp) (.slice A n c)
    exact ⟨neg, A, n, c, rfl, ⟨l, hs0, hc, by rw [← cnt_can hc]; exact hz'.out, hn⟩, hbF⟩
  · have hv : vld neg l = false := by rw [← Bool.not_eq_true, vld_iff]; exact hc
    go_enter Tryd.func50, Tryd.ntmps50
    go_wp2_with (go_at_call 14; refine (Valid_any _ _ _ _ _ _ hs2 (by omega)).mono ?_; rintro e w1 ⟨rfl, hb3⟩; obtain ⟨hcc, hff, hsz⟩ := old3 hb3; simp only [World.size_alloc] at hsz)
    refine bodyPost_ret (v := .agg #[.bool false, .slice none 0 0]) (by simp [results, Tryd.results50, go_sem, hcc]) rfl ?_
    have hbF := ((hb2.trans (hb3.mono (by simp; omega))).setCell (p := ⟨w.heap.size + 1, 0, none⟩) (by simp) (.bool false)).setCell (p := ⟨w.heap.size + 1, 1, none⟩) (by simp) (.slice none 0 0)
    rw [← hz'.out, cnt_not hc]
    exact ⟨false, none, 0, 0, rfl, II.zero _ _, hbF⟩

/-- The same, seen from behind the call. -/
theorem counted_any (neg : Bool) (A : Option Addr) (n c : Nat) (z : Int) (k : Nat) (w : World) (h : VI w neg A n c z k) (hk : k ≤ 1000000000) :
    Calls Tryd.prog 50 #[.agg #[.bool neg, .slice A n c]] w (RetZ w z k) := by
  refine (counted_old neg A n c z k w w h (Below.refl _ _) hk).mono ?_
  rintro e w' ⟨n1, A1, n2, c2, rfl, h1, h2⟩
  exact ⟨n1, A1, n2, c2, rfl, h1.below h2, h2⟩

/-- signed: the integer with a sign and a magnitude, zeros at the end cut off. -/
theorem signed_any (neg : Bool) (A : Option Addr) (n c : Nat) (l : List Nat) (w : World) (h : Sl w A n c l) (hg : Grp l) (hn : n ≤ 1000000000) :
    Calls Tryd.prog 52 #[.bool neg, .slice A n c] w (RetZ w (sgnd neg (val l)) n) := by
  have hcap := h.le_cap
  have hcl := h.cap_le
  have hb1 := (Below.refl w.heap.size w).alloc (Nat.le_refl _) (.cells #[.bool false, .slice none 0 0] 24)
  have hs1 := h.alloc (.cells #[.bool false, .slice none 0 0] 24)
  go_enter Tryd.func52, Tryd.ntmps52
  go_wp2_with (go_at_call 81; refine (trimmed_any _ _ _ _ _ hs1 hn).mono ?_; rintro e w1 ⟨k, hk, hz, ht, rfl, rfl⟩; replace hz := Lib.hid hz; replace ht := Lib.hid ht)
  · have hk0 : k = 0 := by
      have h9 : ((k : Int) == 0) = true := by assumption
      simpa using h9
    refine bodyPost_ret (v := .agg #[.bool false, .slice none 0 0]) (by simp [results, Tryd.results52, go_sem]) rfl ?_
    have hv : val l = 0 := by
      have := (trim_ok hg (n := k) (by rw [← h.len]; exact hk) (by rw [← h.len]; exact hz.out) ht.out).2
      rw [← this, hk0]; rfl
    rw [hv, sgnd_zero]
    exact ⟨false, none, 0, 0, rfl, II.zero _ _, hb1⟩
  · have hk0 : k ≠ 0 := by
      have h9 : ((k : Int) == 0) = false := by assumption
      simpa using h9
    refine bodyPost_ret (v := .agg #[.bool neg, .slice A k k]) (by simp [results, Tryd.results52, go_sem]) rfl ?_
    obtain ⟨hc1, hc2⟩ := trim_ok hg (n := k) (by rw [← h.len]; exact hk) (by rw [← h.len]; exact hz.out) ht.out
    have hb1' := (Below.refl w.heap.size w).alloc (Nat.le_refl _) (.cells #[.bool neg, .slice A k k] 24)
    refine ⟨neg, A, k, k, rfl, ⟨l.take k, (h.alloc _).take hk (Nat.le_refl _) (by omega), ⟨hc1, fun e => ?_⟩, by rw [← hc2]; rfl, hk⟩, hb1'⟩
    exfalso
    have := congrArg List.length e
    rw [List.length_take, ← h.len] at this
    simp at this
    omega

end Go.Proofs.YtabibkhcdamlhaaDoor

/-
  Walks: addTo, subtractFrom of package integer: sums and differences in place.
-/
namespace Go.Proofs.YtabibkhcdamlhaaDoor
open Go.RowKit Num

set_option maxRecDepth 100000 in
set_option maxHeartbeats 1600000 in
/-- addTo: r + b in place, and the carry. -/
theorem addTo_any (g off n c : Nat) (L : List Nat) (A : Option Addr) (nb cb : Nat) (b : List Nat) (w : World) (hB : Bl w g L) (hoff : off + n ≤ L.length) (hnc : n ≤ c)
    (hL : ∀ j, j < n → nth L (off + j) < 1000000000) (hb : Sl w A nb cb b) (hgb : Grp b) (hne : 0 < nb → ∀ k o, A = some ⟨k, o, none⟩ → k ≠ g) (hnb : nb ≤ n) (hn : n ≤ 1000000000) :
    Calls Tryd.prog 92 #[.slice (some ⟨g, off, none⟩) n c, .slice A nb cb] w fun e w' => ∃ L' d, e = .returned (.int .u32 ((d : Nat) : Int)) ∧ Bl w' g L' ∧ AddInv off b L L' n d ∧ Only w w' g := by
  have hL' := Lib.hid hL
  have hne' := Lib.hid hne
  have hoff' := Lib.hid hoff
  have hlb := Lib.hid hb.len
  clear hL hne
  go_enter Tryd.func92, Tryd.ntmps92
  go_wp2
  go_loopw [5, 10] (fun cv i wr => ∃ k d L', k ≤ n ∧ i = .int .i64 ((k : Nat) : Int) ∧ cv = .int .u32 ((d : Nat) : Int) ∧ Bl wr g L' ∧ AddInv off b L L' k d ∧ Only w wr g) (fun _ i _ => n - (intOf i).toNat)
  case atStart => exact ⟨0, 0, L, Nat.zero_le _, rfl, rfl, hB, AddInv.start off b L, Only.refl w g⟩
  case round =>
    obtain ⟨k, d, L', hk, rfl, rfl, hBr, hi0, ho⟩ := hrel
    have hi := Lib.hid hi0
    have hd1 : (d : Int) ≤ 1 := by have := hi0.2.2.2.1; omega
    clear hi0
    by_cases hlt : k < n
    · have hlen : off + k < L'.length := by have := hi.out.1; have := hoff'.out; omega
      have hcell := hBr.cell hlen
      have hfr := hBr.frozen (off + k)
      obtain ⟨x, hx⟩ : ∃ x, nth L' (off + k) = x := ⟨_, rfl⟩
      rw [hx] at hcell
      have hxL : nth L (off + k) = x := by rw [← hx]; exact (hi.out.2.1 _ (by omega)).symm
      have hxb : (x : Int) ≤ 999999999 := by have := hL'.out k hlt; omega
      replace hx := Lib.hid hx
      replace hxL := Lib.hid hxL
      by_cases hkb : k < nb
      · have hsb := hb.only ho hne'.out
        obtain ⟨bb, bo, rfl, _, hcb⟩ := hsb.at_ (by omega)
        have hcb' := hcb k hkb
        clear hcb
        obtain ⟨y, hy⟩ : ∃ y, nth b k = y := ⟨_, rfl⟩
        rw [hy] at hcb'
        have hyb : (y : Int) ≤ 999999999 := by have := hgb.get k; omega
        replace hy := Lib.hid hy
        by_cases hs : 1000000000 ≤ x + (d + y)
        · have hs' : decide ((1000000000 : Int) ≤ (x : Int) + ((d : Int) + (y : Int))) = true := by simp; omega
          replace hs := Lib.hid hs
          go_wp2
          go_roundw
          case rel => exact ⟨k + 1, 1, _, by omega, by go_num, rfl, hBr.set' (off + k) (x := x + (d + y) - 1000000000) (by have := hs.out; omega), hi.out.step (by have := hi.out.1; omega) (by have := hs.out; omega) (by omega) (by rw [hxL.out, hy.out]; have := hs.out; omega), ho.setCell rfl _⟩
          case measure => simp [intOf]; omega
        · have hs' : decide ((1000000000 : Int) ≤ (x : Int) + ((d : Int) + (y : Int))) = false := by simp; omega
          replace hs := Lib.hid hs
          go_wp2
          go_roundw
          case rel => exact ⟨k + 1, 0, _, by omega, by go_num, rfl, hBr.set' (off + k) (x := x + (d + y)) (by have := hs.out; omega), hi.out.step (by have := hi.out.1; omega) (by have := hs.out; omega) (by omega) (by rw [hxL.out, hy.out]; omega), ho.setCell rfl _⟩
          case measure => simp [intOf]; omega
      · have hyz : nth b k = 0 := nth_of_le (by rw [← hlb.out]; omega)
        replace hyz := Lib.hid hyz
        by_cases hd0 : d = 0
        · subst hd0
          go_wp2
          go_ret
          exact ⟨L', 0, rfl, hBr, hi.out.done (by rw [← hlb.out]; omega) hk hL'.out, ho⟩
        · obtain rfl : d = 1 := by omega
          by_cases hs : x = 999999999
          · have hs' : decide ((1000000000 : Int) ≤ (x : Int) + 1) = true := by simp; omega
            replace hs := Lib.hid hs
            go_wp2
            go_roundw
            case rel => exact ⟨k + 1, 1, _, by omega, by go_num, rfl, hBr.set' (off + k) (x := x + 1 - 1000000000) (by have := hs.out; omega), hi.out.step (by have := hi.out.1; omega) (by have := hs.out; omega) (by omega) (by rw [hxL.out, hyz.out]; have := hs.out; omega), ho.setCell rfl _⟩
            case measure => simp [intOf]; omega
          · have hs' : decide ((1000000000 : Int) ≤ (x : Int) + 1) = false := by simp; omega
            replace hs := Lib.hid hs
            go_wp2
            go_roundw
            case rel => exact ⟨k + 1, 0, _, by omega, by go_num, rfl, hBr.set' (off + k) (x := x + 1) (by omega), hi.out.step (by have := hi.out.1; omega) (by have := hs.out; omega) (by omega) (by first | rw [hxL.out, hyz.out] | (rw [hxL.out, hyz.out]; omega)), ho.setCell rfl _⟩
            case measure => simp [intOf]; omega
    · obtain rfl : k = n := by omega
      go_wp2
      go_ret
      exact ⟨L', d, rfl, hBr, hi.out, ho⟩

set_option maxRecDepth 100000 in
set_option maxHeartbeats 1600000 in
/-- addTo at no groups. -/
theorem addTo_nil (R : Option Addr) (c : Nat) (A : Option Addr) (nb cb : Nat) (w : World) :
    Calls Tryd.prog 92 #[.slice R 0 c, .slice A nb cb] w fun e w' => e = .returned (.int .u32 0) ∧ w = w' := by
  go_enter Tryd.func92, Tryd.ntmps92
  go_wp2
  go_loop [5, 10] (fun cv i => i = .int .i64 0 ∧ cv = .int .u32 0) (fun _ _ => 0)
  case atStart => exact ⟨rfl, rfl⟩
  case round =>
    obtain ⟨rfl, rfl⟩ := hrel
    go_wp2
    go_ret
    exact ⟨rfl, rfl⟩

set_option maxRecDepth 100000 in
set_option maxHeartbeats 1600000 in
/-- subtractFrom: r - b in place; d: what is owed at the end. -/
theorem subtractFrom_any (g off n c : Nat) (L : List Nat) (A : Option Addr) (nb cb : Nat) (b : List Nat) (w : World) (hB : Bl w g L) (hoff : off + n ≤ L.length) (hnc : n ≤ c)
    (hL : ∀ j, j < n → nth L (off + j) < 1000000000) (hb : Sl w A nb cb b) (hgb : Grp b) (hne : 0 < nb → ∀ k o, A = some ⟨k, o, none⟩ → k ≠ g) (hnb : nb ≤ n) (hn : n ≤ 1000000000) :
    Calls Tryd.prog 93 #[.slice (some ⟨g, off, none⟩) n c, .slice A nb cb] w fun e w' => ∃ L' d, e = .returned (.tuple #[]) ∧ Bl w' g L' ∧ SubInv off b L L' n d ∧ Only w w' g := by
  have hL' := Lib.hid hL
  have hne' := Lib.hid hne
  have hoff' := Lib.hid hoff
  have hlb := Lib.hid hb.len
  clear hL hne
  go_enter Tryd.func93, Tryd.ntmps93
  go_wp2
  go_loopw [4, 8] (fun cv i wr => ∃ k d L', k ≤ n ∧ i = .int .i64 ((k : Nat) : Int) ∧ cv = .int .u32 ((d : Nat) : Int) ∧ Bl wr g L' ∧ SubInv off b L L' k d ∧ Only w wr g) (fun _ i _ => n - (intOf i).toNat)
  case atStart => exact ⟨0, 0, L, Nat.zero_le _, rfl, rfl, hB, SubInv.start off b L, Only.refl w g⟩
  case round =>
    obtain ⟨k, d, L', hk, rfl, rfl, hBr, hi0, ho⟩ := hrel
    have hi := Lib.hid hi0
    have hd1 : (d : Int) ≤ 1 := by have := hi0.2.2.2.1; omega
    clear hi0
    by_cases hlt : k < n
    · have hlen : off + k < L'.length := by have := hi.out.1; have := hoff'.out; omega
      have hcell := hBr.cell hlen
      have hfr := hBr.frozen (off + k)
      obtain ⟨x, hx⟩ : ∃ x, nth L' (off + k) = x := ⟨_, rfl⟩
      rw [hx] at hcell
      have hxL : nth L (off + k) = x := by rw [← hx]; exact (hi.out.2.1 _ (by omega)).symm
      have hxb : (x : Int) ≤ 999999999 := by have := hL'.out k hlt; omega
      replace hx := Lib.hid hx
      replace hxL := Lib.hid hxL
      by_cases hkb : k < nb
      · have hsb := hb.only ho hne'.out
        obtain ⟨bb, bo, rfl, _, hcb⟩ := hsb.at_ (by omega)
        have hcb' := hcb k hkb
        clear hcb
        obtain ⟨y, hy⟩ : ∃ y, nth b k = y := ⟨_, rfl⟩
        rw [hy] at hcb'
        have hyb : (y : Int) ≤ 999999999 := by have := hgb.get k; omega
        replace hy := Lib.hid hy
        by_cases hs : d + y ≤ x
        · have hs' : decide ((d : Int) + (y : Int) ≤ (x : Int)) = true := by simp; omega
          have hs2 : (d : Int) + (y : Int) ≤ (x : Int) := by omega
          go_wp2
          go_roundw
          case rel => exact ⟨k + 1, 0, _, by omega, by go_num, rfl, hBr.set' (off + k) (x := x - (d + y)) (by omega), hi.out.step (by have := hi.out.1; omega) (by omega) (by omega) (by rw [hxL.out, hy.out]; omega), ho.setCell rfl _⟩
          case measure => simp [intOf]; omega
        · have hs' : decide ((d : Int) + (y : Int) ≤ (x : Int)) = false := by simp; omega
          have hs2 : (x : Int) + 1 ≤ (d : Int) + (y : Int) := by omega
          clear hs
          go_wp2
          go_roundw
          case rel => exact ⟨k + 1, 1, _, by omega, by go_num, rfl, hBr.set' (off + k) (x := x + 1000000000 - (d + y)) (by omega), hi.out.step (by have := hi.out.1; omega) (by omega) (by omega) (by rw [hxL.out, hy.out]; omega), ho.setCell rfl _⟩
          case measure => simp [intOf]; omega
      · have hyz : nth b k = 0 := nth_of_le (by rw [← hlb.out]; omega)
        replace hyz := Lib.hid hyz
        by_cases hd0 : d = 0
        · subst hd0
          go_wp2
          refine bodyPost_ret (results_none rfl _ _ _) rfl ?_
          exact ⟨L', 0, rfl, hBr, hi.out.done (by rw [← hlb.out]; omega) hk hL'.out, ho⟩
        · obtain rfl : d = 1 := by omega
          by_cases hs : 1 ≤ x
          · have hs' : decide ((1 : Int) ≤ (x : Int)) = true := by simp; omega
            have hs2 : (1 : Int) ≤ (x : Int) := by omega
            go_wp2
            go_roundw
            case rel => exact ⟨k + 1, 0, _, by omega, by go_num, rfl, hBr.set' (off + k) (x := x - 1) (by omega), hi.out.step (by have := hi.out.1; omega) (by omega) (by omega) (by rw [hxL.out, hyz.out]; omega), ho.setCell rfl _⟩
            case measure => simp [intOf]; omega
          · obtain rfl : x = 0 := by omega
            go_wp2
            go_roundw
            case rel => exact ⟨k + 1, 1, _, by omega, by go_num, rfl, hBr.set' (off + k) (x := 999999999) (by omega), hi.out.step (by have := hi.out.1; omega) (by omega) (by omega) (by rw [hxL.out, hyz.out]), ho.setCell rfl _⟩
            case measure => simp [intOf]; omega
    · obtain rfl : k = n := by omega
      go_wp2
      go_end0
      exact ⟨L', d, rfl, hBr, hi.out, ho⟩

set_option maxHeartbeats 1600000 in
/-- subtractFrom at no groups. -/
theorem subtractFrom_nil (R : Option Addr) (c : Nat) (A : Option Addr) (nb cb : Nat) (w : World) :
    Calls Tryd.prog 93 #[.slice R 0 c, .slice A nb cb] w fun e w' => e = .returned (.tuple #[]) ∧ w = w' := by
  go_enter Tryd.func93, Tryd.ntmps93
  go_wp2
  go_loop [4, 8] (fun cv i => i = .int .i64 0 ∧ cv = .int .u32 0) (fun _ _ => 0)
  case atStart => exact ⟨rfl, rfl⟩
  case round =>
    obtain ⟨rfl, rfl⟩ := hrel
    go_wp2
    go_end0
    exact ⟨rfl, rfl⟩

end Go.Proofs.YtabibkhcdamlhaaDoor
