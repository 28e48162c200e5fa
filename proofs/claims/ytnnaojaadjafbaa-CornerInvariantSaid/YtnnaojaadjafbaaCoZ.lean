/-
  Walk: corners of package corner.
-/
import Derived.Test.YtnnaojaadjafbaaCoY
import Derived.Test.YtnnaojaadjafbaaCoM
set_option linter.unusedSimpArgs false
set_option linter.unusedVariables false
namespace Go.Proofs.Ytnnaojaadjafbaa
open Go.RowKit

/-- Is a place a peak above a threshold? -/
def selB (a : Nat) (S : List Int) (t : Int) (i : Nat) : Bool := decide (t < nth S i) && pkB a S i
/-- The corners of the first k places. -/
def corsF (a : Nat) (S : List Int) (t : Int) (k : Nat) : List Cor := ((List.range k).filter (selB a S t)).map (corI a S)
theorem corsF_succ (a : Nat) (S : List Int) (t : Int) (k : Nat) : corsF a S t (k + 1) = if selB a S t k then corsF a S t k ++ [corI a S k] else corsF a S t k := by
  unfold corsF
  rw [List.range_succ, List.filter_append]
  by_cases h : selB a S t k
  · simp [h]
  · simp [h]
theorem corsF_length (a : Nat) (S : List Int) (t : Int) (k : Nat) : (corsF a S t k).length ≤ k := by
  unfold corsF
  rw [List.length_map]
  have := List.length_filter_le (selB a S t) (List.range k)
  rw [List.length_range] at this
  exact this

/-- Where scores are above a threshold there are neighbours. -/
def Inner (a n : Nat) (S : List Int) (t : Int) : Prop := ∀ i, i < n → t < nth S i → 2 ≤ a ∧ a + 1 ≤ i ∧ i + a + 1 < n

set_option maxRecDepth 100000 in
set_option maxHeartbeats 3200000 in
theorem corners_any (a : Nat) (A : Option Addr) (n c : Nat) (S : List Int) (t : Int) (w : World) (h : Sl w A n c S) (ha2 : a ≤ 64) (hn : n ≤ 4096) (hm : Mag S) (hin : Inner a n S t) :
    Calls Try.prog 38 #[.agg #[.int .i64 a, .slice A n c], .int .i64 t] w fun e w' => ∃ v, e = .returned v ∧ w'.ownsRow w.heap.size 36 3 v (corsF a S t n).length (ccells (corsF a S t n)) ∧ Below w.heap.size w w' := by
  have hb0 := (Below.refl w.heap.size w).alloc (Nat.le_refl _) (.cells #[.int .i64 a, .slice A n c] 59)
  have hs0 := h.alloc (.cells #[.int .i64 a, .slice A n c] 59)
  have hcap := h.le_cap
  have hcl := h.cap_le
  obtain ⟨e1, e2⟩ := box2 (heap_alloc_new w (.cells #[.int .i64 a, .slice A n c] 59))
  replace hm := Lib.hid hm
  replace hin := Lib.hid hin
  replace hs0 := Lib.hid hs0
  clear h
  go_enter Try.func38, Try.ntmps38
  go_wp2
  replace e1 := Lib.hid e1
  replace e2 := Lib.hid e2
  go_loopw [5, 11] (fun kv i wr => ∃ k : Nat, k ≤ n ∧ i = .int .i64 (k : Int) ∧ wr.ownsRow (w.heap.size + 1) 36 3 kv (corsF a S t k).length (ccells (corsF a S t k)) ∧ Below (w.heap.size + 1) (w.alloc (.cells #[.int .i64 a, .slice A n c] 59)) wr) (fun _ i _ => n - (intOf i).toNat)
  case atStart => exact ⟨0, Nat.zero_le _, rfl, World.ownsRow_nil _ _ _ _, Below.refl _ _⟩
  case round =>
    obtain ⟨k, hk, rfl, hown, hB⟩ := hrel
    have hz := hB.size
    simp only [World.size_alloc] at hz
    obtain ⟨K, hK⟩ : ∃ K, corsF a S t k = K := ⟨_, rfl⟩
    have hKl : K.length ≤ k := by rw [← hK]; exact corsF_length a S t k
    obtain ⟨kl, hkl⟩ : ∃ kl, K.length = kl := ⟨_, rfl⟩
    have hsucc := corsF_succ a S t k
    rw [hK] at hown hsucc
    rw [hkl] at hown hKl
    obtain ⟨A2, c2, rfl, -, -, -⟩ := own_form hown
    have hBw : Below w.heap.size w wr := hb0.trans (hB.mono (Nat.le_succ _))
    by_cases hlt : k < n
    · have hsx := hs0.out.below hB (by simp)
      obtain ⟨bb, off', rfl, hbw, hc⟩ := hsx.at_ (by omega)
      have q0 := hc k hlt
      clear hc
      have d1 := (hB.cell (p := ⟨w.heap.size, 0, none⟩) (Nat.lt_succ_self _)).trans e1.out
      have d2 := (hB.cell (p := ⟨w.heap.size, 1, none⟩) (Nat.lt_succ_self _)).trans e2.out
      have hki : (k : Int) < (n : Int) := by omega
      obtain ⟨s, hs⟩ : ∃ s, nth S k = s := ⟨_, rfl⟩
      rw [hs] at q0
      by_cases g : t < s
      · have hd : decide (t < s) = true := by simp [g]
        obtain ⟨i1, i2, i3⟩ := hin.out k hlt (by rw [hs]; exact g)
        obtain ⟨b, hb⟩ : ∃ b, pkB a S k = b := ⟨_, rfl⟩
        have hcall := Lib.hid (isPeak_any a _ n c k S wr hsx i1 ha2 hn i2 i3 hb)
        have hsel : selB a S t k = b := by unfold selB; rw [hs, hb]; simp [g]
        rw [hsel] at hsucc
        obtain ⟨px, hpx⟩ : ∃ z, posI S k (k % a) 1 = z := ⟨_, rfl⟩
        obtain ⟨py, hpy⟩ : ∃ z, posI S k (k / a) a = z := ⟨_, rfl⟩
        have hcor : corI a S k = (px, py, s) := by unfold corI; rw [hpx, hpy, hs]
        rw [hcor] at hsucc
        have hcall2 := Lib.hid (fun W (hW : Sl W (some ⟨bb, off', none⟩) n c S) => corner_any a _ n c k S W hW i1 ha2 hn i2 i3 hm.out hpx hpy hs)
        replace hsel := Lib.hid hsel
        replace hb := Lib.hid hb
        replace hs := Lib.hid hs
        replace hpx := Lib.hid hpx
        replace hpy := Lib.hid hpy
        replace hcor := Lib.hid hcor
        replace hK := Lib.hid hK
        replace hkl := Lib.hid hkl
        replace hsx := Lib.hid hsx
        clear i1 i2 i3
        cases b
        · have hs2 : Hid (corsF a S t (k + 1) = K) := Lib.hid (by rw [hsucc]; simp)
          clear hsucc
          replace hown := Lib.hid hown
          go_wp2_with (go_at_call 58; refine (hcall.out).mono ?_; rintro e w4 ⟨rfl, hb4⟩)
          go_roundw
          case rel => exact ⟨k + 1, hlt, by go_num, by rw [hs2.out, hkl.out]; exact own_bel hown.out hb4, hB.trans (hb4.mono hz)⟩
          case measure => simp [intOf]; omega
        · have hs2 : Hid (corsF a S t (k + 1) = K ++ [(px, py, s)]) := Lib.hid (by rw [hsucc]; simp)
          clear hsucc
          obtain ⟨i0, hi, hz0, hz1, hz2⟩ := info_parts infoC
          go_wp2_with (first
            | (go_at_call 58; refine (hcall.out).mono ?_; rintro e w4 ⟨rfl, hb4⟩; have f1 := (hb4.cell (p := ⟨w.heap.size, 0, none⟩) hz).trans d1; have f2 := (hb4.cell (p := ⟨w.heap.size, 1, none⟩) hz).trans d2)
            | (go_at_call 59; refine (hcall2.out _ (hsx.out.below hb4 (Nat.le_refl _))).mono ?_; rintro e w5 ⟨rfl, hb5⟩)
            | (at_builtin; refine wpList_append_own _ rfl _ _ 31 rfl (w.heap.size + 1) 36 i0 (.agg #[.int .i64 0, .int .i64 0, .int .i64 0]) 3 24 Try.underlying31 hi hz0 hz1 hz2 rfl (by decide) _ _ _ rfl ((own_bel (own_bel hown hb4) hb5).alloc _) ⟨w5.heap.size, 0, none⟩ 1 1 (ccells [(px, py, s)]) rfl rfl ?qc2 (ccells_one _) ?qc4 ?qc5 ?qc6 ?_))
          case qc2 =>
            intro j u hj
            rw [Addr.add_lit, Nat.zero_add, cell_of_row _ w5.heap.size j _ _ _ (heap_alloc_new w5 _)]
            rw [← List.getElem?_toArray] at hj
            exact hj
          case qc4 => unfold maxLen; omega
          case qc5 => omega
          case qc6 => have := hb4.size; have := hb5.size; simp; omega
          intro v' w6 hown6 hgrow hnil
          have hown7 : w6.ownsRow (w.heap.size + 1) 36 3 v' (kl + 1) (ccells (K ++ [(px, py, s)])) := by rw [ccells_append]; exact hown6
          have hlt4 := (World.ownsRow.lt (own_bel (own_bel hown hb4) hb5))
          have hB5 := (hB.trans (hb4.mono hz)).trans (hb5.mono (Nat.le_trans hz hb4.size))
          have hz5 := hb5.size
          have hz4 := hb4.size
          have hB6 := (hB5.alloc (by omega) _).grown hgrow (by simp; omega) (fun q hq => (hlt4 q hq).1)
          go_wp2
          go_roundw
          case rel => exact ⟨k + 1, hlt, by go_num, by rw [hs2.out, List.length_append, hkl.out]; exact hown7, hB6⟩
          case measure => simp [intOf]; omega
      · have hd : decide (t < s) = false := by simp; omega
        have hs2 : Hid (corsF a S t (k + 1) = K) := Lib.hid (by
          rw [hsucc]
          have : selB a S t k = false := by unfold selB; rw [hs]; simp [g]
          rw [this]
          simp)
        clear hsucc
        replace hs := Lib.hid hs
        replace hK := Lib.hid hK
        replace hkl := Lib.hid hkl
        replace hown := Lib.hid hown
        replace g := Lib.hid g
        go_wp2
        go_roundw
        case rel => exact ⟨k + 1, hlt, by go_num, by rw [hs2.out, hkl.out]; exact hown.out, hB⟩
        case measure => simp [intOf]; omega
    · obtain rfl : k = n := by omega
      replace hkl := Lib.hid hkl
      replace hK := Lib.hid hK
      replace hown := Lib.hid hown
      clear hsucc
      go_wp2
      go_ret
      exact ⟨_, rfl, by rw [hK.out, hkl.out]; exact own_mono hown.out (Nat.le_succ _), hBw⟩

end Go.Proofs.Ytnnaojaadjafbaa
