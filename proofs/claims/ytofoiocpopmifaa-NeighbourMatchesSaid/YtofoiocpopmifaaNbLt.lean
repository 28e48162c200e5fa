/-
  Walk: matches of the law.
-/
import Derived.Test.YtofoiocpopmifaaNbSe
import Derived.Test.YtofoiocpopmifaaNbMa
import Derived.Deep.RegionWith
set_option linter.unusedSimpArgs false
set_option linter.unusedVariables false
namespace Go.Proofs.Ytofoiocpopmifaa
open Go.RowKit

theorem mul1000 {num : Nat} {s : Int} (h : num ≤ 1000) (h1 : -1 ≤ s) (h2 : s ≤ 64) : -1000 ≤ (num : Int) * s ∧ (num : Int) * s ≤ 64000 := by
  obtain ⟨t, rfl⟩ | h3 : (∃ t : Nat, s = (t : Int)) ∨ s = -1 := by
    by_cases h : 0 ≤ s
    · exact .inl ⟨s.toNat, by omega⟩
    · exact .inr (by omega)
  · have := Nat.mul_le_mul h (show t ≤ 64 by omega)
    have e : (num : Int) * (t : Int) = ((num * t : Nat) : Int) := by simp
    omega
  · subst h3; omega
theorem SecP.clear {l : List Nat} {k x : Nat} {s : Int} (h : SecP l k x l.length s) (d num den : Nat) : clearB l x k d num den = decide (s < 0 ∨ ((d * den : Nat) : Int) ≤ (num : Int) * s) := by
  unfold clearB
  rw [decide_eq_decide]
  rcases h with ⟨rfl, h⟩ | ⟨h1, h2, ⟨j, h3, h4, h5⟩, h6⟩
  · exact ⟨fun _ => .inl (by omega), fun _ i hi hne => absurd (h i hi) hne⟩
  · constructor
    · intro hall
      have := hall j h3 h4
      refine .inr ?_
      rw [← h5]
      exact_mod_cast this
    · intro hor i hi hne
      rcases hor with h | h
      · omega
      · have := h6 i hi hne
        have hm := Int.mul_le_mul_of_nonneg_left this (show (0 : Int) ≤ (num : Int) by omega)
        have : ((d * den : Nat) : Int) ≤ ((num * dst (nw l i) x : Nat) : Int) := by
          rw [Int.natCast_mul num]
          omega
        exact_mod_cast this

theorem SecP.ex (l : List Nat) (i x : Nat) : ∀ m, ∃ s, SecP l i x m s
  | 0 => ⟨-1, SecP.start l i x⟩
  | m + 1 => by
    obtain ⟨s, hs⟩ := SecP.ex l i x m
    by_cases e : m = i
    · exact ⟨s, hs.same e⟩
    · by_cases h1 : s < 0
      · exact ⟨_, hs.take e (.inl h1)⟩
      · by_cases h2 : (dst (nw l m) x : Int) < s
        · exact ⟨_, hs.take e (.inr h2)⟩
        · exact ⟨s, hs.keep h1 h2⟩
theorem SecP.unique {l : List Nat} {i x m : Nat} {s s' : Int} (h : SecP l i x m s) (h' : SecP l i x m s') : s = s' := by
  rcases h with ⟨h1, h2⟩ | ⟨h1, h2, ⟨j, h3, h4, h5⟩, h6⟩ <;> rcases h' with ⟨g1, g2⟩ | ⟨g1, g2, ⟨j', g3, g4, g5⟩, g6⟩
  · omega
  · exact absurd (h2 j' g3) g4
  · exact absurd (g2 j h3) h4
  · have := h6 j' g3 g4
    have := g6 j h3 h4
    omega
theorem second_at (A : Option Addr) (n c : Nat) (l : List Nat) (i x : Nat) (w : World) (h : WS w A n c l) (hx : x < 2 ^ 64) (hn : n ≤ 1000000) (hi : i ≤ 1000000) {s : Int} (hs : SecP l i x l.length s) :
    Calls Try.prog 47 #[.slice A n c, .int .i64 (i : Int), .int .u64 (x : Int)] w fun e w' => e = .returned (.int .i64 s) ∧ w = w' :=
  (second_any A n c l i x w h hx hn hi).mono fun e w' ⟨⟨s', he, h'⟩, hw⟩ => ⟨by rw [he, h'.unique hs], hw⟩

theorem lmatches_none (A : Option Addr) (n c : Nat) (a : List Nat) (A2 : Option Addr) (n2 c2 : Nat) (u v : Int) (w : World) (h : WS w A n c a) (h0 : n = 0 ∨ n2 = 0) (hn : n ≤ 64) :
    Calls Try.prog 26 #[.slice A n c, .slice A2 n2 c2, .int .i64 u, .int .i64 v] w fun e w' => e = .returned (.slice none 0 0) ∧ w = w' := by
  have hs0 := Lib.hid h
  have hcap := h.le_cap
  have hcl := h.cap_le
  clear h
  by_cases hz : n = 0
  · subst hz
    clear h0
    go_enter Try.func26, Try.ntmps26
    go_wp2
    go_loopw [9, 20] (fun kv k wr => kv = .slice none 0 0 ∧ k = .int .i64 0 ∧ w = wr) (fun _ _ _ => 0)
    case atStart => exact ⟨rfl, rfl, rfl⟩
    case round =>
      obtain ⟨rfl, rfl, rfl⟩ := hrel
      go_wp2
      go_ret
      exact ⟨rfl, rfl⟩
  · obtain rfl : n2 = 0 := by omega
    have hki : (0 : Int) < (n : Int) := by omega
    have hki' : 0 < n := by omega
    clear h0
    go_enter Try.func26, Try.ntmps26
    go_wp2
    go_loopw [9, 20] (fun kv k wr => kv = .slice none 0 0 ∧ k = .int .i64 0 ∧ w = wr) (fun _ _ _ => 0)
    case atStart => exact ⟨rfl, rfl, rfl⟩
    case round =>
      obtain ⟨rfl, rfl, rfl⟩ := hrel
      obtain ⟨bb, off, rfl, hbw, hc⟩ := hs0.out.at_ hki'
      have hcm := hc 0 hki'
      rw [Nat.add_zero] at hcm
      clear hc
      go_wp2
      go_ret
      exact ⟨rfl, rfl⟩

set_option maxRecDepth 100000 in
set_option maxHeartbeats 1600000 in
theorem lmatches_some (A : Option Addr) (n c : Nat) (a : List Nat) (A2 : Option Addr) (n2 c2 : Nat) (b : List Nat) (num den : Nat) (Lc Lb : List Cho) (w : World) (h : WS w A n c a) (h2 : WS w A2 n2 c2 b) (hn : n ≤ 64) (hn2 : n2 ≤ 64) (h0 : 0 < n) (h02 : 0 < n2) (hnum : num ≤ 1000) (hden : den ≤ 1000) (hLc : Chosen b a Lc) (hLb : Chosen a b Lb) :
    Calls Try.prog 26 #[.slice A n c, .slice A2 n2 c2, .int .i64 (num : Int), .int .i64 (den : Int)] w fun e w' => (∃ (v : Value), e = .returned v ∧ w'.ownsRow w.heap.size 53 3 v (matF a b num den Lc Lb n).length (mcells (matF a b num den Lc Lb n))) ∧ Below w.heap.size w w' := by
  have hz2 : ((n2 : Int) == 0) = false := by simp; omega
  have hcap := h.le_cap
  have hcl := h.cap_le
  have hcap2 := h2.le_cap
  have hcl2 := h2.cap_le
  have hlen := Lib.hid h.len
  have hlen2 := Lib.hid h2.len
  have hWa := Lib.hid h.2
  have hWb := Lib.hid h2.2
  have hsa := Lib.hid h
  have hsb := Lib.hid h2
  have hLc' := Lib.hid hLc
  have hLb' := Lib.hid hLb
  clear h h2 hLc hLb
  go_enter Try.func26, Try.ntmps26
  go_wp2
  go_loopw [9, 20] (fun kv i wr => ∃ k : Nat, k ≤ n ∧ i = .int .i64 (k : Int) ∧ wr.ownsRow w.heap.size 53 3 kv (matF a b num den Lc Lb k).length (mcells (matF a b num den Lc Lb k)) ∧ Below w.heap.size w wr) (fun _ i _ => n - (intOf i).toNat)
  case atStart => exact ⟨0, Nat.zero_le _, rfl, World.ownsRow_nil _ _ _ _, Below.refl _ _⟩
  case round =>
    obtain ⟨k, hk, rfl, hown, hB⟩ := hrel
    have hz4 := hB.size
    obtain ⟨K, hK⟩ : ∃ K, matF a b num den Lc Lb k = K := ⟨_, rfl⟩
    have hKl : K.length ≤ k := by rw [← hK]; exact matF_length a b num den Lc Lb k
    obtain ⟨kl, hkl⟩ : ∃ kl, K.length = kl := ⟨_, rfl⟩
    have hsucc := matF_succ a b num den Lc Lb k
    rw [hK] at hown hsucc
    rw [hkl] at hown hKl
    obtain ⟨A3, c3, rfl, -, -, -⟩ := own_form hown
    by_cases hlt : k < n
    · have hka : k < a.length := by rw [← hlen.out]; exact hlt
      have hki : (k : Int) < (n : Int) := by omega
      have near1 := hLc'.out.2 k hka
      obtain ⟨cj, hcj⟩ : ∃ cj, (choAt Lc k).1 = cj := ⟨_, rfl⟩
      obtain ⟨cd, hcd⟩ : ∃ cd, (choAt Lc k).2 = cd := ⟨_, rfl⟩
      rw [hcj, hcd] at near1
      have hcjb : cj < b.length := near1.1
      have hcjn : cj < n2 := by rw [hlen2.out]; exact hcjb
      have near2 := hLb'.out.2 cj hcjb
      obtain ⟨dk, hdk⟩ : ∃ dk, (choAt Lb cj).1 = dk := ⟨_, rfl⟩
      obtain ⟨dd, hdd⟩ : ∃ dd, (choAt Lb cj).2 = dd := ⟨_, rfl⟩
      rw [hdk, hdd] at near2
      have hdka : dk < a.length := near2.1
      have hcd64 := near1.le64
      have hdd64 := near2.le64
      have hsel : selB a b num den Lc Lb k = (dk == k && (clearB b (nw a k) cj cd num den && clearB a (nw b cj) dk dd num den)) := by
        unfold selB
        rw [hcj, hcd, hdk, hdd]
      rw [hcj, hcd] at hsucc
      have sa := hsa.out.below hB (Nat.le_refl _)
      have sb := hsb.out.below hB (Nat.le_refl _)
      obtain ⟨x, hx⟩ : ∃ x, nw a k = x := ⟨_, rfl⟩
      obtain ⟨y, hy⟩ : ∃ y, nw b cj = y := ⟨_, rfl⟩
      rw [hx] at hsel near1
      rw [hy] at hsel near2
      have hx64 : x < 2 ^ 64 := by rw [← hx]; exact hWa.out.nw k
      have hy64 : y < 2 ^ 64 := by rw [← hy]; exact hWb.out.nw cj
      have c1 := Lib.hid (fun W (hb : Below wr.heap.size wr W) => lnearest_any A2 n2 c2 b x W (sb.below hb (Nat.le_refl _)) hx64 h02 (by omega))
      have c2' := Lib.hid (fun W (hb : Below wr.heap.size wr W) => lnearest_any A n c a y W (sa.below hb (Nat.le_refl _)) hy64 h0 (by omega))
      obtain ⟨s, hs⟩ := SecP.ex b cj x b.length
      obtain ⟨u, hu⟩ := SecP.ex a k y a.length
      have e1 := hs.clear cd num den
      have hsb1 := hs.bound
      have hub := hu.bound
      have d1 := Lib.hid (fun W (hb : Below wr.heap.size wr W) => second_at A2 n2 c2 b cj x W (sb.below hb (Nat.le_refl _)) hx64 (by omega) (by omega) hs)
      have d2 := Lib.hid (fun W (hb : Below wr.heap.size wr W) => second_at A n c a k y W (sa.below hb (Nat.le_refl _)) hy64 (by omega) (by omega) hu)
      rw [e1] at hsel
      obtain ⟨pd, hpd⟩ : ∃ pd, cd * den = pd := ⟨_, rfl⟩
      obtain ⟨ps, hps⟩ : ∃ ps : Int, (num : Int) * s = ps := ⟨_, rfl⟩
      obtain ⟨pu, hpu⟩ : ∃ pu : Int, (num : Int) * u = pu := ⟨_, rfl⟩
      have hpdb : pd ≤ 64 * 1000 := by rw [← hpd]; exact Nat.mul_le_mul hcd64 hden
      have hpsb := mul1000 hnum hsb1.1 hsb1.2
      have hpub := mul1000 hnum hub.1 hub.2
      rw [hps] at hpsb
      rw [hpu] at hpub
      have hpdi : (cd : Int) * (den : Int) = (pd : Int) := by rw [← hpd]; simp
      rw [hpd, hps] at hsel
      obtain ⟨ba, oa, rfl, hba, hca⟩ := sa.at_ (by omega)
      obtain ⟨bb, ob, rfl, hbb, hcb⟩ := sb.at_ (by omega)
      have r0 := hca k hlt
      have r1 := hcb cj hcjn
      rw [hx] at r0
      rw [hy] at r1
      have cji : (cj : Int) < (n2 : Int) := by omega
      replace hpd := Lib.hid hpd
      have hpuh := Lib.hid hpu
      replace hs := Lib.hid hs
      replace hu := Lib.hid hu
      replace e1 := Lib.hid e1
      replace hcj := Lib.hid hcj
      replace hcd := Lib.hid hcd
      replace hdk := Lib.hid hdk
      replace hdd := Lib.hid hdd
      replace hx := Lib.hid hx
      replace hy := Lib.hid hy
      replace near1 := Lib.hid near1
      replace near2 := Lib.hid near2
      replace hka := Lib.hid hka
      replace hcjb := Lib.hid hcjb
      replace hdka := Lib.hid hdka
      replace hK := Lib.hid hK
      replace hkl := Lib.hid hkl
      have tok : True := trivial
      clear hca hcb sa sb
      by_cases hdi : dk = k
      · obtain rfl : k = dk := hdi.symm
        have hd1 : ((k : Int) != (k : Int)) = false := by simp
        have hdc : cd = dd := by
          have e1 := near2.out.2.1
          have e2 := near1.out.2.1
          rw [hx.out] at e1
          rw [hy.out] at e2
          rw [← e1, ← e2]
          exact dst_comm y x
        subst hdc
        clear hdi
        go_wp2_with (first
          | (go_at_call 19; clear tok; refine (c1.out _ (Below.refl _ _)).mono ?_; rintro e w5 ⟨⟨i5, d5, rfl, hN5⟩, hb5⟩; obtain ⟨rfl, rfl⟩ := near1.out.unique hN5; have r1' := (hb5.cell (p := ⟨bb, ob + cj, none⟩) hbb).trans r1)
          | (go_at_call 19; refine (c2'.out _ hb5).mono ?_; rintro e w6 ⟨⟨i6, d6, rfl, hN6⟩, hb6⟩; obtain ⟨rfl, rfl⟩ := near2.out.unique hN6))
        have hb7 := hb5.trans (hb6.mono hb5.size)
        have r1w := (hb7.cell (p := ⟨bb, ob + cj, none⟩) hbb).trans r1
        rw [hu.out.clear cd num den, hpd.out, hpuh.out] at hsel
        by_cases s0 : s < 0
        · by_cases u0 : u < 0
          · have hs2 : Hid (matF a b num den Lc Lb (k + 1) = K ++ [(k, cj, cd)]) := Lib.hid (by rw [hsucc, hsel]; simp; omega)
            clear hsucc hsel
            have own7 := own_bel hown hb7
            replace hown := Lib.hid hown
            obtain ⟨i0, hi, hz0, hz1, hz2'⟩ := info_parts infoM
            have hb8 := hB.trans (hb7.mono hz4)
            have hb8s := hb8.size
            go_quiet (first | (go_at_call_of 47 (Value.int .u64 (x : Int)); exact Calls.quiet_of_same (((d1.out _ (below_drewN hb7 _))).mono fun _ _ h => ⟨h.1, h.2.symm⟩)) | (go_at_call_of 47 (Value.int .u64 (y : Int)); exact Calls.quiet_of_same (((d2.out _ (below_drewN hb7 _))).mono fun _ _ h => ⟨h.1, h.2.symm⟩)))
            go_wp2_with (at_builtin; refine wpList_append_own _ rfl _ _ 48 rfl w.heap.size 53 i0 (.agg #[.int .i64 0, .int .i64 0, .int .i64 0]) 3 24 Try.underlying48 hi hz0 hz1 hz2' rfl (by decide) _ _ _ rfl (own7.alloc _) ⟨w6.heap.size, 0, none⟩ 1 1 (mcells [(k, cj, cd)]) rfl rfl ?qc2 (mcells_one _) ?qc4 ?qc5 ?qc6 ?_)
            case qc2 =>
              intro j u hj
              have := cell_of_row _ w6.heap.size j _ _ _ (heap_alloc_new (w6.drewN nq) (.cells (mcells [(k, cj, cd)]).toArray 53))
              try rw [Addr.add_lit, Nat.zero_add]
              rw [← List.getElem?_toArray] at hj
              exact this.trans hj
            case qc4 => unfold maxLen; omega
            case qc5 => omega
            case qc6 => first | omega | (simp; omega)
            intro v' w9 hown9 hgrow hnil
            have hown10 : w9.ownsRow w.heap.size 53 3 v' (kl + 1) (mcells (K ++ [(k, cj, cd)])) := by rw [mcells_append]; exact hown9
            have hlt4 := (World.ownsRow.lt own7)
            have hB9 := ((below_drewN hb8 nq).alloc (by first | omega | (simp; omega)) _).grown hgrow (by first | omega | (simp; omega)) (fun q hq => (hlt4 q hq).1)
            go_wp2
            go_roundw
            case rel => exact ⟨k + 1, hlt, by go_num, by rw [hs2.out, List.length_append, hkl.out]; exact hown10, hB9⟩
            case measure => simp [intOf]; omega
          · by_cases u1 : (pd : Int) ≤ pu
            · have hs2 : Hid (matF a b num den Lc Lb (k + 1) = K ++ [(k, cj, cd)]) := Lib.hid (by rw [hsucc, hsel]; simp; omega)
              clear hsucc hsel
              have own7 := own_bel hown hb7
              replace hown := Lib.hid hown
              obtain ⟨i0, hi, hz0, hz1, hz2'⟩ := info_parts infoM
              have hb8 := hB.trans (hb7.mono hz4)
              have hb8s := hb8.size
              go_quiet (first | (go_at_call_of 47 (Value.int .u64 (x : Int)); exact Calls.quiet_of_same (((d1.out _ (below_drewN hb7 _))).mono fun _ _ h => ⟨h.1, h.2.symm⟩)) | (go_at_call_of 47 (Value.int .u64 (y : Int)); exact Calls.quiet_of_same (((d2.out _ (below_drewN hb7 _))).mono fun _ _ h => ⟨h.1, h.2.symm⟩)))
              go_wp2_with (at_builtin; refine wpList_append_own _ rfl _ _ 48 rfl w.heap.size 53 i0 (.agg #[.int .i64 0, .int .i64 0, .int .i64 0]) 3 24 Try.underlying48 hi hz0 hz1 hz2' rfl (by decide) _ _ _ rfl (own7.alloc _) ⟨w6.heap.size, 0, none⟩ 1 1 (mcells [(k, cj, cd)]) rfl rfl ?qc2 (mcells_one _) ?qc4 ?qc5 ?qc6 ?_)
              case qc2 =>
                intro j u hj
                have := cell_of_row _ w6.heap.size j _ _ _ (heap_alloc_new (w6.drewN nq) (.cells (mcells [(k, cj, cd)]).toArray 53))
                try rw [Addr.add_lit, Nat.zero_add]
                rw [← List.getElem?_toArray] at hj
                exact this.trans hj
              case qc4 => unfold maxLen; omega
              case qc5 => omega
              case qc6 => first | omega | (simp; omega)
              intro v' w9 hown9 hgrow hnil
              have hown10 : w9.ownsRow w.heap.size 53 3 v' (kl + 1) (mcells (K ++ [(k, cj, cd)])) := by rw [mcells_append]; exact hown9
              have hlt4 := (World.ownsRow.lt own7)
              have hB9 := ((below_drewN hb8 nq).alloc (by first | omega | (simp; omega)) _).grown hgrow (by first | omega | (simp; omega)) (fun q hq => (hlt4 q hq).1)
              go_wp2
              go_roundw
              case rel => exact ⟨k + 1, hlt, by go_num, by rw [hs2.out, List.length_append, hkl.out]; exact hown10, hB9⟩
              case measure => simp [intOf]; omega
            · have hs2 : Hid (matF a b num den Lc Lb (k + 1) = K) := Lib.hid (by rw [hsucc, hsel]; simp; omega)
              clear hsucc hsel
              have own7 := own_bel hown hb7
              replace hown := Lib.hid hown
              replace own7 := Lib.hid own7
              go_quiet (first | (go_at_call_of 47 (Value.int .u64 (x : Int)); exact Calls.quiet_of_same (((d1.out _ (below_drewN hb7 _))).mono fun _ _ h => ⟨h.1, h.2.symm⟩)) | (go_at_call_of 47 (Value.int .u64 (y : Int)); exact Calls.quiet_of_same (((d2.out _ (below_drewN hb7 _))).mono fun _ _ h => ⟨h.1, h.2.symm⟩)))
              go_wp2
              go_roundw
              case rel => exact ⟨k + 1, hlt, by go_num, by rw [hs2.out, hkl.out]; exact own7.out, below_drewN (hB.trans (hb7.mono hz4)) _⟩
              case measure => simp [intOf]; omega
        · by_cases s1 : (pd : Int) ≤ ps
          · by_cases u0 : u < 0
            · have hs2 : Hid (matF a b num den Lc Lb (k + 1) = K ++ [(k, cj, cd)]) := Lib.hid (by rw [hsucc, hsel]; simp; omega)
              clear hsucc hsel
              have own7 := own_bel hown hb7
              replace hown := Lib.hid hown
              obtain ⟨i0, hi, hz0, hz1, hz2'⟩ := info_parts infoM
              have hb8 := hB.trans (hb7.mono hz4)
              have hb8s := hb8.size
              go_quiet (first | (go_at_call_of 47 (Value.int .u64 (x : Int)); exact Calls.quiet_of_same (((d1.out _ (below_drewN hb7 _))).mono fun _ _ h => ⟨h.1, h.2.symm⟩)) | (go_at_call_of 47 (Value.int .u64 (y : Int)); exact Calls.quiet_of_same (((d2.out _ (below_drewN hb7 _))).mono fun _ _ h => ⟨h.1, h.2.symm⟩)))
              go_wp2_with (at_builtin; refine wpList_append_own _ rfl _ _ 48 rfl w.heap.size 53 i0 (.agg #[.int .i64 0, .int .i64 0, .int .i64 0]) 3 24 Try.underlying48 hi hz0 hz1 hz2' rfl (by decide) _ _ _ rfl (own7.alloc _) ⟨w6.heap.size, 0, none⟩ 1 1 (mcells [(k, cj, cd)]) rfl rfl ?qc2 (mcells_one _) ?qc4 ?qc5 ?qc6 ?_)
              case qc2 =>
                intro j u hj
                have := cell_of_row _ w6.heap.size j _ _ _ (heap_alloc_new (w6.drewN nq) (.cells (mcells [(k, cj, cd)]).toArray 53))
                try rw [Addr.add_lit, Nat.zero_add]
                rw [← List.getElem?_toArray] at hj
                exact this.trans hj
              case qc4 => unfold maxLen; omega
              case qc5 => omega
              case qc6 => first | omega | (simp; omega)
              intro v' w9 hown9 hgrow hnil
              have hown10 : w9.ownsRow w.heap.size 53 3 v' (kl + 1) (mcells (K ++ [(k, cj, cd)])) := by rw [mcells_append]; exact hown9
              have hlt4 := (World.ownsRow.lt own7)
              have hB9 := ((below_drewN hb8 nq).alloc (by first | omega | (simp; omega)) _).grown hgrow (by first | omega | (simp; omega)) (fun q hq => (hlt4 q hq).1)
              go_wp2
              go_roundw
              case rel => exact ⟨k + 1, hlt, by go_num, by rw [hs2.out, List.length_append, hkl.out]; exact hown10, hB9⟩
              case measure => simp [intOf]; omega
            · by_cases u1 : (pd : Int) ≤ pu
              · have hs2 : Hid (matF a b num den Lc Lb (k + 1) = K ++ [(k, cj, cd)]) := Lib.hid (by rw [hsucc, hsel]; simp; omega)
                clear hsucc hsel
                have own7 := own_bel hown hb7
                replace hown := Lib.hid hown
                obtain ⟨i0, hi, hz0, hz1, hz2'⟩ := info_parts infoM
                have hb8 := hB.trans (hb7.mono hz4)
                have hb8s := hb8.size
                go_quiet (first | (go_at_call_of 47 (Value.int .u64 (x : Int)); exact Calls.quiet_of_same (((d1.out _ (below_drewN hb7 _))).mono fun _ _ h => ⟨h.1, h.2.symm⟩)) | (go_at_call_of 47 (Value.int .u64 (y : Int)); exact Calls.quiet_of_same (((d2.out _ (below_drewN hb7 _))).mono fun _ _ h => ⟨h.1, h.2.symm⟩)))
                go_wp2_with (at_builtin; refine wpList_append_own _ rfl _ _ 48 rfl w.heap.size 53 i0 (.agg #[.int .i64 0, .int .i64 0, .int .i64 0]) 3 24 Try.underlying48 hi hz0 hz1 hz2' rfl (by decide) _ _ _ rfl (own7.alloc _) ⟨w6.heap.size, 0, none⟩ 1 1 (mcells [(k, cj, cd)]) rfl rfl ?qc2 (mcells_one _) ?qc4 ?qc5 ?qc6 ?_)
                case qc2 =>
                  intro j u hj
                  have := cell_of_row _ w6.heap.size j _ _ _ (heap_alloc_new (w6.drewN nq) (.cells (mcells [(k, cj, cd)]).toArray 53))
                  try rw [Addr.add_lit, Nat.zero_add]
                  rw [← List.getElem?_toArray] at hj
                  exact this.trans hj
                case qc4 => unfold maxLen; omega
                case qc5 => omega
                case qc6 => first | omega | (simp; omega)
                intro v' w9 hown9 hgrow hnil
                have hown10 : w9.ownsRow w.heap.size 53 3 v' (kl + 1) (mcells (K ++ [(k, cj, cd)])) := by rw [mcells_append]; exact hown9
                have hlt4 := (World.ownsRow.lt own7)
                have hB9 := ((below_drewN hb8 nq).alloc (by first | omega | (simp; omega)) _).grown hgrow (by first | omega | (simp; omega)) (fun q hq => (hlt4 q hq).1)
                go_wp2
                go_roundw
                case rel => exact ⟨k + 1, hlt, by go_num, by rw [hs2.out, List.length_append, hkl.out]; exact hown10, hB9⟩
                case measure => simp [intOf]; omega
              · have hs2 : Hid (matF a b num den Lc Lb (k + 1) = K) := Lib.hid (by rw [hsucc, hsel]; simp; omega)
                clear hsucc hsel
                have own7 := own_bel hown hb7
                replace hown := Lib.hid hown
                replace own7 := Lib.hid own7
                go_quiet (first | (go_at_call_of 47 (Value.int .u64 (x : Int)); exact Calls.quiet_of_same (((d1.out _ (below_drewN hb7 _))).mono fun _ _ h => ⟨h.1, h.2.symm⟩)) | (go_at_call_of 47 (Value.int .u64 (y : Int)); exact Calls.quiet_of_same (((d2.out _ (below_drewN hb7 _))).mono fun _ _ h => ⟨h.1, h.2.symm⟩)))
                go_wp2
                go_roundw
                case rel => exact ⟨k + 1, hlt, by go_num, by rw [hs2.out, hkl.out]; exact own7.out, below_drewN (hB.trans (hb7.mono hz4)) _⟩
                case measure => simp [intOf]; omega
          · have hs2 : Hid (matF a b num den Lc Lb (k + 1) = K) := Lib.hid (by rw [hsucc, hsel]; simp; omega)
            clear hsucc hsel
            have own7 := own_bel hown hb7
            replace hown := Lib.hid hown
            replace own7 := Lib.hid own7
            go_quiet (first | (go_at_call_of 47 (Value.int .u64 (x : Int)); exact Calls.quiet_of_same (((d1.out _ (below_drewN hb7 _))).mono fun _ _ h => ⟨h.1, h.2.symm⟩)) | (go_at_call_of 47 (Value.int .u64 (y : Int)); exact Calls.quiet_of_same (((d2.out _ (below_drewN hb7 _))).mono fun _ _ h => ⟨h.1, h.2.symm⟩)))
            go_wp2
            go_roundw
            case rel => exact ⟨k + 1, hlt, by go_num, by rw [hs2.out, hkl.out]; exact own7.out, below_drewN (hB.trans (hb7.mono hz4)) _⟩
            case measure => simp [intOf]; omega
      · have hd1 : ((dk : Int) != (k : Int)) = true := by rw [bne_iff_ne]; omega
        have hs2 : Hid (matF a b num den Lc Lb (k + 1) = K) := Lib.hid (by
          rw [hsucc, hsel]
          have : (dk == k) = false := by simp [hdi]
          rw [this]; simp)
        clear hsucc hsel
        replace hdi := Lib.hid hdi
        replace hown := Lib.hid hown
        go_wp2_with (first
          | (go_at_call 19; clear tok; refine (c1.out _ (Below.refl _ _)).mono ?_; rintro e w5 ⟨⟨i5, d5, rfl, hN5⟩, hb5⟩; obtain ⟨rfl, rfl⟩ := near1.out.unique hN5; have r1' := (hb5.cell (p := ⟨bb, ob + cj, none⟩) hbb).trans r1)
          | (go_at_call 19; refine (c2'.out _ hb5).mono ?_; rintro e w6 ⟨⟨i6, d6, rfl, hN6⟩, hb6⟩; obtain ⟨rfl, rfl⟩ := near2.out.unique hN6))
        have hb7 := hb5.trans (hb6.mono hb5.size)
        go_roundw
        case rel => exact ⟨k + 1, hlt, by go_num, by rw [hs2.out, hkl.out]; exact own_bel hown.out hb7, hB.trans (hb7.mono hz4)⟩
        case measure => simp [intOf]; omega
    · obtain rfl : k = n := by omega
      have hki : ¬ (k : Int) < (k : Int) := by omega
      replace hK := Lib.hid hK
      replace hkl := Lib.hid hkl
      replace hown := Lib.hid hown
      clear hsucc
      go_wp2
      go_ret
      exact ⟨⟨_, rfl, by rw [hK.out, hkl.out]; exact hown.out⟩, hB⟩

end Go.Proofs.Ytofoiocpopmifaa
