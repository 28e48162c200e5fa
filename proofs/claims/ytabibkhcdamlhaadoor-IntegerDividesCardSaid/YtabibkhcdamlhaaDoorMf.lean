/-
  Walks over the reference: made and minus give new blocks.
-/
import Derived.Test.YtabibkhcdamlhaaDoorN
import Derived.Test.YtabibkhcdamlhaaDoorP
import Derived.Test.YtabibkhcdamlhaaDoorS
set_option linter.unusedSimpArgs false
set_option linter.unusedVariables false
namespace Go.Proofs.YtabibkhcdamlhaaDoor
open Go.RowKit Num

/-- RetZ, and the result lies in a block that is new. -/
def RetZF (w : World) (z : Int) (k : Nat) (e : Ending) (w' : World) : Prop :=
  ∃ neg A n c, e = .returned (.agg #[.bool neg, .slice A n c]) ∧ II w' neg A n c z k ∧ Below w.heap.size w w' ∧ (0 < n → ∀ b o, A = some ⟨b, o, none⟩ → w.heap.size ≤ b)
/-- RetN, and the result lies in a block that is new. -/
def RetNF (w : World) (m k : Nat) (e : Ending) (w' : World) : Prop :=
  ∃ A n c, e = .returned (.slice A n c) ∧ MM w' A n c m k ∧ Below w.heap.size w w' ∧ (0 < n → ∀ b o, A = some ⟨b, o, none⟩ → w.heap.size ≤ b)
theorem RetZF.close0 {w w2 : World} {neg : Bool} {A : Option Addr} {n c k g : Nat} {z : Int} (hf : 0 < n → ∀ b o, A = some ⟨b, o, none⟩ → w.heap.size ≤ b) (hi : II w2 neg A n c z k) (hB : Below w.heap.size w w2) (hg : w.heap.size ≤ g)
    (h0 : w2.cell? ⟨g, 0, none⟩ = some (.bool false)) (h1 : w2.cell? ⟨g, 1, none⟩ = some (.slice none 0 0)) :
    RetZF w z k (.returned (.agg #[.bool neg, .slice A n c])) ((w2.setCell ⟨g, 0, none⟩ (.bool neg)).setCell ⟨g, 1, none⟩ (.slice A n c)) :=
  ⟨neg, A, n, c, rfl, hi.store2 h0 h1 _ _, (hB.setCell (p := ⟨g, 0, none⟩) hg _).setCell (p := ⟨g, 1, none⟩) hg _, hf⟩
theorem RetNF.of_made {w w1 W : World} {z : Int} {m k : Nat} {neg : Bool} {A : Option Addr} {n c : Nat} (hi : II W neg A n c z k) (hz : z = (m : Int)) (h1 : Below w.heap.size w w1) (h2 : Below w1.heap.size w1 W)
    (hf : 0 < n → ∀ b o, A = some ⟨b, o, none⟩ → w1.heap.size ≤ b) : RetNF w m k (.returned (.slice A n c)) W :=
  ⟨A, n, c, rfl, by have := hi.mm; rw [hz, Int.natAbs_natCast] at this; exact this, btr h1 h2, fun h b o e => Nat.le_trans h1.size (hf h b o e)⟩
theorem RetNF.mono {w : World} {m k k' : Nat} {e : Ending} {w' : World} (h : RetNF w m k e w') (hk : k ≤ k') : RetNF w m k' e w' := by
  obtain ⟨A, n, c, he, hm, hb, hf⟩ := h
  exact ⟨A, n, c, he, hm.mono hk, hb, hf⟩

set_option maxRecDepth 100000 in
set_option maxHeartbeats 1600000 in
/-- made, in a new block: the integer with a sign and groups, zeros at the end dropped. -/
theorem made_fr (neg : Bool) (A : Option Addr) (n c : Nat) (l : List Nat) (w : World) (h : Sl w A n c l) (hg : Grp l) (hn : n ≤ 1000000000) :
    Calls Tryd.prog 54 #[.bool neg, .slice A n c] w (RetZF w (sgnd neg (val l)) n) := by
  have hcap := h.le_cap
  have hcl := h.cap_le
  obtain ⟨i0, hi, hz0, hz1, hz2⟩ := info_parts infoU
  have h1 := h.alloc (.cells #[.bool false, .slice none 0 0] 24)
  have hb1 := (Below.refl w.heap.size w).alloc (Nat.le_refl _) (.cells #[.bool false, .slice none 0 0] 24)
  have hlen := Lib.hid h.len
  have hown0 : ((w.alloc (.cells #[.bool false, .slice none 0 0] 24)).alloc (.cells #[] 48)).ownsRow (w.heap.size + 1) 48 1 (.slice (some ⟨w.heap.size + 1, 0, none⟩) 0 0) 0 [] := by
    have := World.ownsRow_made (base := w.heap.size + 1) (e := 48) (size := 1) (w.alloc (.cells #[.bool false, .slice none 0 0] 24)) #[] 0 (by simp) (by unfold maxLen; omega) rfl
    rwa [World.size_alloc] at this
  cases neg
  · go_enter Tryd.func54, Tryd.ntmps54
    go_wp2
    go_loop [5] (fun i => ∃ k : Nat, k ≤ n ∧ (∀ j, k ≤ j → j < n → nth l j = 0) ∧ i = .int .i64 k) (fun i => (intOf i).toNat)
    case atStart => exact ⟨n, Nat.le_refl _, fun j h1 h2 => absurd h2 (by omega), rfl⟩
    case round =>
      obtain ⟨k, hk, hz, rfl⟩ := hrel
      replace hz := Lib.hid hz
      by_cases h0 : 0 < k
      · obtain ⟨b, off, rfl, _, hc⟩ := h1.at_ (by omega)
        have hcell := hc (k - 1) (by omega)
        clear hc
        obtain ⟨x, hx⟩ : ∃ x, nth l (k - 1) = x := ⟨_, rfl⟩
        rw [hx] at hcell
        have hx' := Lib.hid hx
        clear hx
        by_cases hx0 : x = 0
        · subst hx0
          go_wp2
          go_round
          case rel => exact ⟨k - 1, by omega, fun j h1 h2 => (by
              by_cases e : j = k - 1
              · rw [e]; exact hx'.out
              · exact hz.out j (by omega) h2), by go_num⟩
          case measure => simp [intOf]; omega
        · have hst := (h1.take hk (by omega) (Nat.le_refl _)).alloc (.cells #[] 48)
          have hx1 : ((x : Int) == 0) = false := by simpa using hx0
          replace hx0 := Lib.hid hx0
          have hk0 : (0 : Int) < (k : Int) := by omega
          go_wp2_with (at_builtin; refine wpList_append_own _ rfl _ _ 22 rfl (w.heap.size + 1) 48 i0 (.int .u32 0) 1 4 Tryd.underlying22 hi hz0 hz1 hz2 rfl (by decide) _ _ _ rfl hown0 ⟨b, off, none⟩ k c (cells (l.take k)) rfl (by rw [cells_length, List.length_take, ← hlen.out]; omega) (by exact news_of_sl hst (by omega)) cells_one (by unfold maxLen; omega) (by omega) (by simp) ?_; intro v' w1 hown hgrow _; obtain ⟨g, cap, hv, hg2, hbl1, hnc, hcm, hnl⟩ := Bl.of_own hown (by omega); subst hv; replace hnl := Lib.hid hnl; have hgr : ((w.alloc (.cells #[.bool false, .slice none 0 0] 24)).alloc (.cells #[] 48)).grownBy w1 (some (w.heap.size + 1)) := hgrow; have hgX : w1.heap[w.heap.size]? = some (.cells #[.bool false, .slice none 0 0] 24 (0, 0)) := (hgr.block w.heap.size (by simp <;> omega) (by simp)).trans (heap_alloc2_old w _ _); have g3 := cell_of_row w1 w.heap.size 0 _ _ _ hgX; have g4 := cell_of_row w1 w.heap.size 1 _ _ _ hgX; have k3 := frozen_of_row w1 w.heap.size 0 _ _ hgX; have k4 := frozen_of_row w1 w.heap.size 1 _ _ hgX; simp only [List.getElem?_toArray, List.getElem?_cons_zero, List.getElem?_cons_succ] at g3 g4; replace hgX := Lib.hid hgX)
          refine bodyPost_ret (v := .agg #[.bool false, .slice (some ⟨g, 0, none⟩) k cap]) (by simp [results, Tryd.results54, go_sem, g3, g4]) rfl ?_
          obtain ⟨hc1, hc2⟩ := trim_ok hg (n := k) (by rw [← hlen.out]; exact hk) (by rw [← hlen.out]; exact hz.out) (.inr (by rw [hx'.out]; exact hx0.out))
          have hsl := hbl1.sl (off := 0) (n := k) (c := cap) (by have := hnl.out; omega) (by omega) hcm
          rw [List.drop_zero, List.take_of_length_le (by have := hnl.out; omega)] at hsl
          have hbF := (hb1.alloc (by simp) (.cells #[] 48)).grown hgr (by simp <;> omega) (fun k' e => by cases e; omega)
          rw [← hc2]
          exact RetZF.close0 (fun _ b o e => by injection e with e; injection e with e1 e2; omega) ⟨l.take k, hsl, ⟨hc1, fun _ => rfl⟩, rfl, hk⟩ hbF (Nat.le_refl _) g3 g4
      · obtain rfl : k = 0 := by omega
        rcases A with _ | ad
        all_goals
          go_wp2
          refine bodyPost_ret (v := .agg #[.bool false, .slice (some ⟨w.heap.size + 1, 0, none⟩) 0 0]) (by simp [results, Tryd.results54, go_sem]) rfl ?_
          have hv : val l = 0 := by
            have := (trim_ok hg (n := 0) (Nat.zero_le _) (by rw [← hlen.out]; exact hz.out) (.inl rfl)).2
            rw [← this]; rfl
          rw [hv, sgnd_zero]
          exact ⟨false, _, 0, 0, rfl, ⟨[], ⟨rfl, Nat.le_refl _, by omega, fun h => absurd h (by omega)⟩, ⟨Cano.nil, fun _ => rfl⟩, rfl, Nat.zero_le _⟩, ((Below.refl w.heap.size w).alloc (Nat.le_refl _) _).alloc (by simp) _, fun h => absurd h (by omega)⟩
  · go_enter Tryd.func54, Tryd.ntmps54
    go_wp2
    go_loop [5] (fun i => ∃ k : Nat, k ≤ n ∧ (∀ j, k ≤ j → j < n → nth l j = 0) ∧ i = .int .i64 k) (fun i => (intOf i).toNat)
    case atStart => exact ⟨n, Nat.le_refl _, fun j h1 h2 => absurd h2 (by omega), rfl⟩
    case round =>
      obtain ⟨k, hk, hz, rfl⟩ := hrel
      replace hz := Lib.hid hz
      by_cases h0 : 0 < k
      · obtain ⟨b, off, rfl, _, hc⟩ := h1.at_ (by omega)
        have hcell := hc (k - 1) (by omega)
        clear hc
        obtain ⟨x, hx⟩ : ∃ x, nth l (k - 1) = x := ⟨_, rfl⟩
        rw [hx] at hcell
        have hx' := Lib.hid hx
        clear hx
        by_cases hx0 : x = 0
        · subst hx0
          go_wp2
          go_round
          case rel => exact ⟨k - 1, by omega, fun j h1 h2 => (by
              by_cases e : j = k - 1
              · rw [e]; exact hx'.out
              · exact hz.out j (by omega) h2), by go_num⟩
          case measure => simp [intOf]; omega
        · have hst := (h1.take hk (by omega) (Nat.le_refl _)).alloc (.cells #[] 48)
          have hx1 : ((x : Int) == 0) = false := by simpa using hx0
          replace hx0 := Lib.hid hx0
          have hk0 : (0 : Int) < (k : Int) := by omega
          go_wp2_with (at_builtin; refine wpList_append_own _ rfl _ _ 22 rfl (w.heap.size + 1) 48 i0 (.int .u32 0) 1 4 Tryd.underlying22 hi hz0 hz1 hz2 rfl (by decide) _ _ _ rfl hown0 ⟨b, off, none⟩ k c (cells (l.take k)) rfl (by rw [cells_length, List.length_take, ← hlen.out]; omega) (by exact news_of_sl hst (by omega)) cells_one (by unfold maxLen; omega) (by omega) (by simp) ?_; intro v' w1 hown hgrow _; obtain ⟨g, cap, hv, hg2, hbl1, hnc, hcm, hnl⟩ := Bl.of_own hown (by omega); subst hv; replace hnl := Lib.hid hnl; have hgr : ((w.alloc (.cells #[.bool false, .slice none 0 0] 24)).alloc (.cells #[] 48)).grownBy w1 (some (w.heap.size + 1)) := hgrow; have hgX : w1.heap[w.heap.size]? = some (.cells #[.bool false, .slice none 0 0] 24 (0, 0)) := (hgr.block w.heap.size (by simp <;> omega) (by simp)).trans (heap_alloc2_old w _ _); have g3 := cell_of_row w1 w.heap.size 0 _ _ _ hgX; have g4 := cell_of_row w1 w.heap.size 1 _ _ _ hgX; have k3 := frozen_of_row w1 w.heap.size 0 _ _ hgX; have k4 := frozen_of_row w1 w.heap.size 1 _ _ hgX; simp only [List.getElem?_toArray, List.getElem?_cons_zero, List.getElem?_cons_succ] at g3 g4; replace hgX := Lib.hid hgX)
          refine bodyPost_ret (v := .agg #[.bool true, .slice (some ⟨g, 0, none⟩) k cap]) (by simp [results, Tryd.results54, go_sem, g3, g4]) rfl ?_
          obtain ⟨hc1, hc2⟩ := trim_ok hg (n := k) (by rw [← hlen.out]; exact hk) (by rw [← hlen.out]; exact hz.out) (.inr (by rw [hx'.out]; exact hx0.out))
          have hsl := hbl1.sl (off := 0) (n := k) (c := cap) (by have := hnl.out; omega) (by omega) hcm
          rw [List.drop_zero, List.take_of_length_le (by have := hnl.out; omega)] at hsl
          have hbF := (hb1.alloc (by simp) (.cells #[] 48)).grown hgr (by simp <;> omega) (fun k' e => by cases e; omega)
          rw [← hc2]
          exact RetZF.close0 (fun _ b o e => by injection e with e; injection e with e1 e2; omega) ⟨l.take k, hsl, ⟨hc1, fun e => by have h8 := congrArg List.length e; have h9 := hnl.out; rw [h8] at h9; exfalso; simp only [List.length_nil] at h9; omega⟩, rfl, hk⟩ hbF (Nat.le_refl _) g3 g4
      · obtain rfl : k = 0 := by omega
        rcases A with _ | ad
        all_goals
          go_wp2
          refine bodyPost_ret (v := .agg #[.bool false, .slice (some ⟨w.heap.size + 1, 0, none⟩) 0 0]) (by simp [results, Tryd.results54, go_sem]) rfl ?_
          have hv : val l = 0 := by
            have := (trim_ok hg (n := 0) (Nat.zero_le _) (by rw [← hlen.out]; exact hz.out) (.inl rfl)).2
            rw [← this]; rfl
          rw [hv, sgnd_zero]
          exact ⟨false, _, 0, 0, rfl, ⟨[], ⟨rfl, Nat.le_refl _, by omega, fun h => absurd h (by omega)⟩, ⟨Cano.nil, fun _ => rfl⟩, rfl, Nat.zero_le _⟩, ((Below.refl w.heap.size w).alloc (Nat.le_refl _) _).alloc (by simp) _, fun h => absurd h (by omega)⟩

set_option maxRecDepth 100000 in
set_option maxHeartbeats 4000000 in
/-- minus, in a new block: the difference of two magnitudes. -/
theorem minus_fr (A : Option Addr) (n c : Nat) (A2 : Option Addr) (n2 c2 : Nat) (la lb : List Nat) (w : World) (ha : Sl w A n c la) (hb : Sl w A2 n2 c2 lb) (hga : Grp la) (hgb : Grp lb) (hn : n ≤ 1000000000) (hn2 : n2 ≤ n) (hle : val lb ≤ val la) :
    Calls Tryd.prog 68 #[.slice A n c, .slice A2 n2 c2] w (RetNF w (val la - val lb) n) := by
  obtain ⟨i0, hi, hz0, hz1, hz2⟩ := info_parts infoU
  have hna := Lib.hid ha.len
  have hnb := Lib.hid hb.len
  have hacap := ha.le_cap
  have hacl := ha.cap_le
  have hbcap := hb.le_cap
  have hbcl := hb.cap_le
  have hown0 := World.ownsRow_made (base := w.heap.size) (e := 48) (size := 1) w #[] 0 (Nat.le_refl _) (by unfold maxLen; omega) rfl
  have hb0 := (Below.refl w.heap.size w).alloc (Nat.le_refl _) (.cells #[] 48)
  go_enter Tryd.func68, Tryd.ntmps68
  go_wp2
  go_loopw [5, 6, 7] (fun v cv i wr => ∃ k C R, k ≤ n ∧ i = .int .i64 ((k : Nat) : Int) ∧ cv = .int .u64 ((C : Nat) : Int) ∧ wr.ownsRow w.heap.size 48 1 v k (cells R) ∧ MinusInv la lb R k C ∧ Below w.heap.size w wr) (fun _ _ i _ => n - (intOf i).toNat)
  case atStart => exact ⟨0, 0, [], Nat.zero_le _, rfl, rfl, hown0, ⟨rfl, Grp.nil, by omega, by simp [vs_zero, val]⟩, hb0⟩
  case round =>
    obtain ⟨k, C, R, hk, rfl, rfl, hown, hinv, hB⟩ := hrel
    have hC : (C : Int) ≤ 1 := by have := hinv.2.2.1; omega
    replace hinv := Lib.hid hinv
    have hsa := ha.below hB (Nat.le_refl _)
    have hsb := hb.below hB (Nat.le_refl _)
    by_cases hlt : k < n
    · have hx := hga.get k
      have hy := hgb.get k
      have hxall : ∀ j, nth la j < 4294967296 := fun j => by have := hga.get j; omega
      have hyall : ∀ j, nth lb j < 4294967296 := fun j => by have := hgb.get j; omega
      obtain ⟨x, hx1⟩ : ∃ x, nth la k = x := ⟨_, rfl⟩
      obtain ⟨y, hy1⟩ : ∃ y, nth lb k = y := ⟨_, rfl⟩
      have hc1 := fun W h => group_any A n c la k W h hxall (by omega)
      have hc2 := fun W h => group_any A2 n2 c2 lb k W h hyall (by omega)
      simp only [hx1] at hc1
      simp only [hy1] at hc2
      rw [hx1] at hx
      rw [hy1] at hy
      have hxb : (x : Int) ≤ 999999999 := by omega
      have hyb : (y : Int) ≤ 999999999 := by omega
      obtain ⟨s, hs⟩ : ∃ s, 1000000000 + x - y - C = s := ⟨_, rfl⟩
      have hs0 : s + y + C = 1000000000 + x := by omega
      have hs1 : 1000000000 + (x : Int) - (y : Int) - (C : Int) = (s : Int) := by omega
      have hsb2 : (s : Int) ≤ 1999999999 := by omega
      have hsD : (1 : Int) - (s : Int) / 1000000000 = ((1 - s / 1000000000 : Nat) : Int) := by omega
      have hinv2 := Lib.hid (hinv.out.step hga hgb (s := s) (by rw [hx1, hy1]; exact hs0))
      replace hs0 := Lib.hid hs0
      replace hx1 := Lib.hid hx1
      replace hy1 := Lib.hid hy1
      replace hs := Lib.hid hs
      replace hc1 := Lib.hid hc1
      replace hc2 := Lib.hid hc2
      clear hx hy hxall hyall
      have tok1 : True := trivial
      · go_wp2_with (first | (go_at_call 63; have _t := tok1; clear tok1 _t; refine (hc1.out _ hsa).mono ?_; rintro e w' ⟨rfl, rfl⟩) | (go_at_call 63; refine (hc2.out _ hsb).mono ?_; rintro e w' ⟨rfl, rfl⟩) | (at_builtin; refine wpList_append_own _ rfl _ _ 22 rfl w.heap.size 48 i0 (.int .u32 0) 1 4 Tryd.underlying22 hi hz0 hz1 hz2 rfl (by decide) _ _ _ rfl (hown.alloc _) ⟨wr.heap.size, 0, none⟩ 1 1 [.int .u32 ((s % 1000000000 : Nat) : Int)] rfl rfl (cell_one_new _ _ _) (by simp [Value.oneCell']) (by unfold maxLen; omega) (by omega) (by have := hB.size; simp; omega) ?_; intro v' w1 hown' hgrow _))
        exact ⟨⟨k + 1, 1 - s / 1000000000, R ++ [s % 1000000000], hlt, rfl, rfl, by rw [cells_snoc]; exact hown', hinv2.out, below_appended hB hown hgrow⟩, by simp [intOf]; omega⟩
    · obtain rfl : k = n := by omega
      have hgR := Lib.hid hinv.out.2.1
      have hRl := Lib.hid hinv.out.1
      have hval := Lib.hid (hinv.out.done (by rw [← hna.out]; exact Nat.le_refl _) (by rw [← hnb.out]; exact hn2) hle)
      have hsl : ∃ A' c', u5 = .slice A' k c' ∧ Sl wr A' k c' R := by
        by_cases h0 : k = 0
        · subst h0
          have hR : R = [] := List.eq_nil_of_length_eq_zero hRl.out
          subst hR
          rcases hown.2 with ⟨rfl, _⟩ | ⟨g, cap, cur, rfl, _, _, _, hcm, _, _⟩
          · exact ⟨_, _, rfl, Sl.nil wr⟩
          · exact ⟨_, _, rfl, rfl, Nat.zero_le _, hcm, fun h => absurd h (by omega)⟩
        · obtain ⟨g, cap, hv, hg2, hbl1, hnc, hcm, hnl⟩ := Bl.of_own hown (by omega)
          have hsl := hbl1.sl (off := 0) (n := k) (c := cap) (by omega) hnc hcm
          rw [List.drop_zero, List.take_of_length_le (by omega)] at hsl
          exact ⟨_, _, hv, hsl⟩
      obtain ⟨A', c', rfl, hsl⟩ := hsl
      go_wp2_with (go_at_call 54; refine (made_fr false _ _ _ _ wr hsl hgR.out hn).mono ?_; rintro e W ⟨neg', A', n', c', rfl, hi', hB', hf'⟩; have hfd := run_groups neg' A' n' c')
      go_ret
      exact RetNF.of_made hi' (by rw [hval.out, sgnd]; simp) hB hB' hf'

theorem minus_mf (A : Option Addr) (n c : Nat) (A2 : Option Addr) (n2 c2 ma mb k k2 : Nat) (w : World) (ha : MM w A n c ma k) (hb : MM w A2 n2 c2 mb k2) (hle : mb ≤ ma) (hk : k ≤ 1000000000) :
    Calls Tryd.prog 68 #[.slice A n c, .slice A2 n2 c2] w (RetNF w (ma - mb) k) := by
  obtain ⟨la, hsa, hca, rfl, hna⟩ := ha
  obtain ⟨lb, hsb, hcb, rfl, hnb⟩ := hb
  have hn2 : n2 ≤ n := by
    rcases Nat.lt_or_ge n n2 with h | h
    · have := hca.len_lt hcb (by rw [← hsa.len, ← hsb.len]; exact h)
      omega
    · exact h
  exact (minus_fr A n c A2 n2 c2 la lb w hsa hsb hca.1 hcb.1 (by omega) hn2 hle).mono fun e w' h => RetNF.mono h hna

/-- A magnitude that doesn't lie in the block that is written. -/
theorem MM.far {w : World} {A : Option Addr} {n c m k : Nat} (h : MM w A n c m k) {p : Addr} (hp : 0 < n → ∀ b o, A = some ⟨b, o, none⟩ → b ≠ p.block) (u : Value) : MM (w.setCell p u) A n c m k := by
  obtain ⟨l, hs, hc, hv, hn⟩ := h
  refine ⟨l, hs.keep (fun h0 b i hb _ => ?_), hc, hv, hn⟩
  obtain ⟨off, e⟩ := hb
  exact World.cell?_of_block (Below.heap_setCell w p u b (hp h0 b off e))

end Go.Proofs.YtabibkhcdamlhaaDoor
