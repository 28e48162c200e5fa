/-
  Walks over the reference: Valid, group, Same.
-/
import Derived.Test.YtabibkhcdamlhaaDoorA
import Derived.Deep.RegionHeld3
import Derived.Deep.QuietTactic
import Derived.BigQuiet
set_option linter.unusedSimpArgs false
set_option linter.unusedVariables false
namespace Go.Proofs.YtabibkhcdamlhaaDoor
open Go.RowKit Num

set_option maxHeartbeats 400000 in
/-- The reference's Valid. -/
theorem rValid_any (neg : Bool) (A : Option Addr) (n c : Nat) (l : List Nat) (w : World) (h : Sl w A n c l) (hn : n ≤ 1000000000) :
    Calls Tryd.prog 15 #[.agg #[.bool neg, .slice A n c]] w fun e w' => e = .returned (.bool (vld neg l)) ∧ Below w.heap.size w w' := by
  have hcap := h.le_cap
  have hcl := h.cap_le
  have hb := (Below.refl w.heap.size w).alloc (Nat.le_refl _) (.cells #[.bool neg, .slice A n c] 24)
  have h1 := h.alloc (.cells #[.bool neg, .slice A n c] 24)
  by_cases h0 : n = 0
  · have hl : l = [] := List.eq_nil_of_length_eq_zero (by rw [← h.len]; exact h0)
    subst h0 hl
    go_enter Tryd.func15, Tryd.ntmps15
    go_wp2
    go_loop [4] (fun i => i = .int .i64 0) (fun _ => 0)
    case atStart => exact rfl
    case round =>
      obtain rfl := hrel
      go_wp2
      go_ret
      exact ⟨ret_bool (vld_nil neg).symm, hb⟩
  · have hpos : 0 < n := by omega
    obtain ⟨b, off, rfl, hbl, hc0⟩ := h1.at_ hpos
    have hc := Lib.hid hc0
    clear hc0
    have hlen := Lib.hid h.len
    clear h0
    go_enter Tryd.func15, Tryd.ntmps15
    go_wp2
    go_loop [4] (fun i => ∃ k : Nat, k ≤ n ∧ Good l k ∧ i = .int .i64 k) (fun i => n - (intOf i).toNat)
    case atStart => exact ⟨0, Nat.zero_le _, fun j h => absurd h (by omega), rfl⟩
    case round =>
      obtain ⟨k, hk, hz0, rfl⟩ := hrel
      have hz' := Lib.hid hz0
      clear hz0
      by_cases hlt : k < n
      · have hcell := hc.out k hlt
        obtain ⟨x, hx0⟩ : ∃ x, nth l k = x := ⟨_, rfl⟩
        rw [hx0] at hcell
        have hx' := Lib.hid hx0
        clear hx0
        by_cases hx : (x : Int) < 1000000000
        · have hd : decide ((1000000000 : Int) ≤ (x : Int)) = false := by simp; omega
          have hx2 := Lib.hid hx
          clear hx
          go_wp2
          go_round
          case rel => exact ⟨k + 1, by omega, fun j h => (by
            by_cases e : j = k
            · rw [e, hx'.out]; have := hx2.out; omega
            · exact hz'.out j (by omega)), by go_num⟩
          case measure => simp [intOf]; omega
        · have hd : decide ((1000000000 : Int) ≤ (x : Int)) = true := by simp; omega
          have hx2 := Lib.hid hx
          clear hx
          go_wp2
          go_ret
          exact ⟨ret_bool (vld_bad (k := k) (by rw [hx'.out]; have := hx2.out; omega)).symm, hb⟩
      · have hcell := hc.out (n - 1) (by omega)
        have hkn : k = n := by omega
        subst hkn
        go_wp2
        go_ret
        refine ⟨ret_bool ?_, hb⟩
        rw [vld_end (by rw [← hlen.out]; exact hpos) (by rw [← hlen.out]; exact hz'.out), ← hlen.out]
        by_cases e : nth l (k - 1) = 0 <;> simp [e]

set_option maxHeartbeats 400000 in
/-- group: the group with an index, 0 behind the end. -/
theorem group_any (A : Option Addr) (n c : Nat) (l : List Nat) (i : Nat) (w : World) (h : Sl w A n c l) (hl : ∀ j, nth l j < 4294967296) (hi : i ≤ 1000000000) :
    Calls Tryd.prog 63 #[.slice A n c, .int .i64 (i : Int)] w fun e w' => e = .returned (.int .u64 ((nth l i : Nat) : Int)) ∧ w = w' := by
  have hln := Lib.hid h.len
  have hcap := h.le_cap
  have hcl := h.cap_le
  by_cases hlt : i < n
  · obtain ⟨b, off, rfl, _, hc⟩ := h.at_ (by omega)
    have hcell := hc i hlt
    clear hc
    have hx1 : nth l i ≤ 4294967295 := by have := hl i; omega
    obtain ⟨x, hx⟩ : ∃ x, nth l i = x := ⟨_, rfl⟩
    rw [hx] at hcell hx1 ⊢
    have hx2 : (x : Int) ≤ 4294967295 := by omega
    clear hx hl
    go_enter Tryd.func63, Tryd.ntmps63
    go_wp2
    go_ret
    exact ⟨rfl, rfl⟩
  · rw [nth_of_le (by rw [← hln.out]; omega)]
    go_enter Tryd.func63, Tryd.ntmps63
    go_wp2
    go_ret
    exact ⟨rfl, rfl⟩

/-- Are two integers the same in sign and groups? -/
def samb (neg : Bool) (l : List Nat) (neg2 : Bool) (l2 : List Nat) : Bool := decide (neg = neg2 ∧ l = l2)
theorem samb_neg {neg neg2 : Bool} {l l2 : List Nat} (h : neg ≠ neg2) : samb neg l neg2 l2 = false := by unfold samb; simp [h]
theorem samb_len {neg neg2 : Bool} {l l2 : List Nat} (h : l.length ≠ l2.length) : samb neg l neg2 l2 = false := by
  unfold samb
  simp only [decide_eq_false_iff_not]
  rintro ⟨_, rfl⟩
  exact h rfl
theorem samb_at {neg neg2 : Bool} {l l2 : List Nat} {i : Nat} (h : nth l i ≠ nth l2 i) : samb neg l neg2 l2 = false := by
  unfold samb
  simp only [decide_eq_false_iff_not]
  rintro ⟨_, rfl⟩
  exact h rfl
theorem samb_yes {neg : Bool} {l l2 : List Nat} (h : l.length = l2.length) (ha : ∀ j, j < l.length → nth l j = nth l2 j) : samb neg l neg l2 = true := by
  unfold samb
  simp only [decide_eq_true_eq, true_and]
  apply List.ext_getElem h
  intro i h1 h2
  have := ha i h1
  rwa [nth_eq h1, nth_eq h2] at this

/-- The first k groups agree. -/
def Agree (l l2 : List Nat) (k : Nat) : Prop := ∀ j, j < k → nth l j = nth l2 j

set_option maxHeartbeats 1600000 in
/-- Same. -/
theorem rSame_any (neg : Bool) (A : Option Addr) (n c : Nat) (l : List Nat) (neg2 : Bool) (A2 : Option Addr) (n2 c2 : Nat) (l2 : List Nat) (w : World) (h : Sl w A n c l) (h2 : Sl w A2 n2 c2 l2) (hn : n ≤ 1000000000) (hn2 : n2 ≤ 1000000000) :
    Calls Tryd.prog 51 #[.agg #[.bool neg, .slice A n c], .agg #[.bool neg2, .slice A2 n2 c2]] w fun e w' => e = .returned (.bool (samb neg l neg2 l2)) ∧ Below w.heap.size w w' := by
  have hb := ((Below.refl w.heap.size w).alloc (Nat.le_refl _) (.cells #[.bool neg, .slice A n c] 24)).alloc (by simp) (.cells #[.bool neg2, .slice A2 n2 c2] 24)
  have h1' := (h.alloc (.cells #[.bool neg, .slice A n c] 24)).alloc (.cells #[.bool neg2, .slice A2 n2 c2] 24)
  have h2' := (h2.alloc (.cells #[.bool neg, .slice A n c] 24)).alloc (.cells #[.bool neg2, .slice A2 n2 c2] 24)
  have hcap := h.le_cap
  have hcl := h.cap_le
  have hcap2 := h2.le_cap
  have hcl2 := h2.cap_le
  by_cases hs : neg = neg2
  · subst hs
    have ht : (neg != neg) = false := by simp
    by_cases hl : n = n2
    · subst hl
      have ht2 : ((n : Int) != (n : Int)) = false := by simp
      have hln := Lib.hid h.len
      have hln2 := Lib.hid h2.len
      go_enter Tryd.func51, Tryd.ntmps51
      go_wp2
      go_loopw [5] (fun i wr => ∃ k q, k ≤ n ∧ i = .int .i64 ((k : Nat) : Int) ∧ Agree l l2 k ∧ wr = ((w.alloc (.cells #[.bool neg, .slice A n c] 24)).alloc (.cells #[.bool neg, .slice A2 n c2] 24)).drewN q) (fun i _ => n - (intOf i).toNat)
      case atStart => exact ⟨0, 0, Nat.zero_le _, rfl, fun j h => absurd h (by omega), rfl⟩
      case round =>
        obtain ⟨k, q, hk, rfl, hag, rfl⟩ := hrel
        by_cases hlt : k < n
        · obtain ⟨b, off, rfl, hbl, hc⟩ := h1'.at_ (by omega)
          obtain ⟨b2, off2, rfl, hbl2, hc2⟩ := h2'.at_ (by omega)
          have hcx := hc k hlt
          have hcy := hc2 k hlt
          clear hc hc2
          obtain ⟨x, hx⟩ : ∃ x, nth l k = x := ⟨_, rfl⟩
          obtain ⟨y, hy⟩ : ∃ y, nth l2 k = y := ⟨_, rfl⟩
          rw [hx] at hcx
          rw [hy] at hcy
          replace hx := Lib.hid hx
          replace hy := Lib.hid hy
          have hki : (k : Int) < (n : Int) := by omega
          by_cases hxy : x = y
          · subst hxy
            have ht3 : ((x : Int) != (x : Int)) = false := by simp
            go_wp2
            go_quiet (fail)
            go_wp2
            go_roundw
            case rel => exact ⟨k + 1, _, by omega, by go_num, (fun j h => by
              by_cases e : j = k
              · rw [e, hx.out, hy.out]
              · exact hag j (by omega)), rfl⟩
            case measure => simp [intOf]; omega
          · have ht3 : ((x : Int) != (y : Int)) = true := by rw [bne_iff_ne]; omega
            have hf : samb neg l neg l2 = false := samb_at (i := k) (by rw [hx.out, hy.out]; exact hxy)
            replace hf := Lib.hid hf
            go_wp2
            go_quiet (fail)
            go_wp2
            go_ret
            exact ⟨ret_bool hf.out.symm, by first | exact below_drewN hb _ | exact below_drewN (below_drewN hb _) _⟩
        · have hf : samb neg l neg l2 = true := samb_yes (by rw [← hln.out, ← hln2.out]) (fun j hj => hag j (by rw [← hln.out] at hj; omega))
          replace hf := Lib.hid hf
          go_wp2
          go_ret
          exact ⟨ret_bool hf.out.symm, by first | exact below_drewN hb _ | exact below_drewN (below_drewN hb _) _⟩
    · have ht2 : ((n : Int) != (n2 : Int)) = true := by rw [bne_iff_ne]; omega
      have hf : samb neg l neg l2 = false := samb_len (by rw [← h.len, ← h2.len]; exact hl)
      rw [hf]
      go_enter Tryd.func51, Tryd.ntmps51
      go_wp2
      go_ret
      exact ⟨rfl, hb⟩
  · have ht : (neg != neg2) = true := by simpa using hs
    rw [samb_neg hs]
    go_enter Tryd.func51, Tryd.ntmps51
    go_wp2
    go_ret
    exact ⟨rfl, hb⟩

end Go.Proofs.YtabibkhcdamlhaaDoor
