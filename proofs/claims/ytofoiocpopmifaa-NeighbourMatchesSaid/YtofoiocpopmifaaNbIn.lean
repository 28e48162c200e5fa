/-
  Walks: slices.Equal at []int; Within of package neighbour; long of the law.
-/
import Derived.Test.YtofoiocpopmifaaNbNe
import Derived.Test.YtofoiocpopmifaaNbBl
set_option linter.unusedSimpArgs false
set_option linter.unusedVariables false
namespace Go.Proofs.Ytofoiocpopmifaa
open Go.RowKit

/-- A slice value reads as a list of numbers. -/
def IS (w : World) (A : Option Addr) (n c : Nat) (l : List Int) : Prop := SR w A n c 1 (cells l)
section
variable {w w' : World} {A : Option Addr} {n c : Nat} {l : List Int}
theorem IS.len (h : IS w A n c l) : n = l.length := by have := h.1; rw [cells_length] at this; omega
theorem IS.le_cap (h : IS w A n c l) : n ≤ c := h.2.1
theorem IS.cap_le (h : IS w A n c l) : c ≤ 9223372036854775807 := h.2.2.1
theorem IS.at_ (h : IS w A n c l) (h0 : 0 < n) : ∃ b off, A = some ⟨b, off, none⟩ ∧ b < w.heap.size ∧ ∀ i, i < n → w.cell? ⟨b, off + i, none⟩ = some (.int .i64 (nth l i)) := by
  obtain ⟨b, off, e, hb, hc⟩ := SR.at_ h h0
  exact ⟨b, off, e, hb, fun i hi => hc i _ (cells_at (by rw [← h.len]; exact hi))⟩
theorem IS.below (h : IS w A n c l) {B : Nat} (hb : Below B w w') (hB : w.heap.size ≤ B) : IS w' A n c l := SR.below h hb hB
theorem IS.alloc (h : IS w A n c l) (o : Obj) : IS (w.alloc o) A n c l := SR.alloc h o
end
/-- Are two lists the same? -/
def eql (l l2 : List Int) : Bool := decide (l = l2)
theorem eql_yes {l l2 : List Int} (h : l.length = l2.length) (ha : ∀ j, j < l.length → nth l j = nth l2 j) : eql l l2 = true := decide_eq_true (nth_ext h ha)
theorem eql_at {l l2 : List Int} {i : Nat} (h : nth l i ≠ nth l2 i) : eql l l2 = false := decide_eq_false fun e => h (by rw [e])
theorem eql_len {l l2 : List Int} (h : l.length ≠ l2.length) : eql l l2 = false := decide_eq_false fun e => h (by rw [e])

set_option maxHeartbeats 1600000 in
theorem iEqual_any (A : Option Addr) (n c : Nat) (l : List Int) (A2 : Option Addr) (n2 c2 : Nat) (l2 : List Int) (w : World) (h : IS w A n c l) (h2 : IS w A2 n2 c2 l2) :
    Calls Try.prog 18 #[.slice A n c, .slice A2 n2 c2] w fun e w' => e = .returned (.bool (eql l l2)) ∧ Below w.heap.size w w' := by
  have hcap := h.le_cap
  have hcl := h.cap_le
  have hcap2 := h2.le_cap
  have hcl2 := h2.cap_le
  by_cases hl : n = n2
  · subst hl
    have ht2 : ((n : Int) != (n : Int)) = false := by simp
    have hln := Lib.hid h.len
    have hln2 := Lib.hid h2.len
    go_enter Try.func18, Try.ntmps18
    go_wp2
    go_loopw [13] (fun i wr => ∃ k q, k ≤ n ∧ i = .int .i64 ((k : Nat) : Int) ∧ Hid (∀ j, j < k → nth l j = nth l2 j) ∧ wr = w.drewN q) (fun i _ => n - (intOf i).toNat)
    case atStart => exact ⟨0, 0, Nat.zero_le _, rfl, Lib.hid fun j h => absurd h (by omega), rfl⟩
    case round =>
      obtain ⟨k, q, hk, rfl, hag, rfl⟩ := hrel
      by_cases hlt : k < n
      · obtain ⟨b, off, rfl, hbl, hc⟩ := h.at_ (by omega)
        obtain ⟨b2, off2, rfl, hbl2, hc2⟩ := h2.at_ (by omega)
        have hcx := hc k hlt
        have hcy := hc2 k hlt
        clear hc hc2
        obtain ⟨x, hx⟩ : ∃ x, nth l k = x := ⟨_, rfl⟩
        obtain ⟨y, hy⟩ : ∃ y, nth l2 k = y := ⟨_, rfl⟩
        rw [hx] at hcx
        rw [hy] at hcy
        replace hx := Lib.hid hx
        replace hy := Lib.hid hy
        have hki : (k : Int) < (n : Int) := by omega
        by_cases hxy : x = y
        · subst hxy
          have ht3 : ((x : Int) != (x : Int)) = false := by simp
          go_wp2
          go_quiet (fail)
          go_wp2
          go_roundw
          case rel => exact ⟨k + 1, _, by omega, by go_num, Lib.hid (fun j h => by
            by_cases e : j = k
            · rw [e, hx.out, hy.out]
            · exact hag.out j (by omega)), rfl⟩
          case measure => simp [intOf]; omega
        · have ht3 : ((x : Int) != (y : Int)) = true := by rw [bne_iff_ne]; omega
          have hf : eql l l2 = false := eql_at (i := k) (by rw [hx.out, hy.out]; exact hxy)
          replace hf := Lib.hid hf
          replace hxy := Lib.hid hxy
          go_wp2
          go_quiet (fail)
          go_wp2
          go_ret
          exact ⟨ret_bool hf.out.symm, below_drewN (below_drewN (Below.refl _ _) _) _⟩
      · have hf : eql l l2 = true := eql_yes (by rw [← hln.out, ← hln2.out]) (fun j hj => hag.out j (by rw [← hln.out] at hj; omega))
        replace hf := Lib.hid hf
        go_wp2
        go_ret
        exact ⟨ret_bool hf.out.symm, below_drewN (Below.refl _ _) _⟩
  · have ht2 : ((n : Int) != (n2 : Int)) = true := by rw [bne_iff_ne]; omega
    have hf : eql l l2 = false := eql_len (by rw [← h.len, ← h2.len]; exact hl)
    replace hl := Lib.hid hl
    rw [hf]
    go_enter Try.func18, Try.ntmps18
    go_wp2
    go_ret
    exact ⟨rfl, Below.refl _ _⟩


theorem infoIw : (Try.prog.info? 3).map (fun i => (i.zero, i.size, i.bytes)) = some (some (.int .i64 0), 1, 8) := by kernel_rfl
/-- Is a word near enough? -/
def nearB (l : List Nat) (x : Nat) (most : Int) (i : Nat) : Bool := decide ((dst (nw l i) x : Int) ≤ most)
/-- Of the first k words those that are near enough. -/
def wiF (l : List Nat) (x : Nat) (most : Int) (k : Nat) : List Int := ((List.range k).filter (nearB l x most)).map fun i : Nat => (i : Int)
theorem wiF_succ (l : List Nat) (x : Nat) (most : Int) (k : Nat) : wiF l x most (k + 1) = if nearB l x most k then wiF l x most k ++ [(k : Int)] else wiF l x most k := by
  unfold wiF
  rw [List.range_succ, List.filter_append]
  by_cases h : nearB l x most k
  · simp [h]
  · simp [h]
theorem wiF_length (l : List Nat) (x : Nat) (most : Int) (k : Nat) : (wiF l x most k).length ≤ k := by
  unfold wiF
  rw [List.length_map]
  have := List.length_filter_le (nearB l x most) (List.range k)
  rwa [List.length_range] at this

set_option maxRecDepth 100000 in
set_option maxHeartbeats 1600000 in
theorem Within_ok (A : Option Addr) (n c : Nat) (l : List Nat) (x : Nat) (most : Int) (w : World) (h : WS w A n c l) (hx : x < 2 ^ 64) (hn : n ≤ 64) (hm1 : -9223372036854775808 ≤ most) (hm2 : most ≤ 9223372036854775807) :
    Calls Try.prog 14 #[.slice A n c, .int .u64 (x : Int), .int .i64 most] w fun e w' => (∃ A' c', e = .returned (.tuple #[.slice A' (wiF l x most n).length c', .int .i64 0]) ∧ IS w' A' (wiF l x most n).length c' (wiF l x most n)) ∧ Below w.heap.size w w' := by
  have k0 := Lib.hid (isLong_at (n := n) (b := false) (by omega) (by simp; omega) A c)
  have hcap := h.le_cap
  have hcl := h.cap_le
  have hlen := Lib.hid h.len
  have hW := Lib.hid h.2
  have hs0 := Lib.hid h
  have hxh := Lib.hid hx
  clear h hx
  go_enter Try.func14, Try.ntmps14
  go_wp2_with (go_at_call 36; refine (k0.out _).mono ?_; rintro e w' ⟨rfl, rfl⟩)
  go_loopw [8, 15] (fun kv i wr => ∃ k : Nat, k ≤ n ∧ i = .int .i64 (k : Int) ∧ wr.ownsRow w.heap.size 3 1 kv (wiF l x most k).length (cells (wiF l x most k)) ∧ Below w.heap.size w wr) (fun _ i _ => n - (intOf i).toNat)
  case atStart => exact ⟨0, Nat.zero_le _, rfl, World.ownsRow_nil _ _ _ _, Below.refl _ _⟩
  case round =>
    obtain ⟨k, hk, rfl, hown, hB⟩ := hrel
    obtain ⟨K, hK⟩ : ∃ K, wiF l x most k = K := ⟨_, rfl⟩
    have hKl : K.length ≤ k := by rw [← hK]; exact wiF_length l x most k
    obtain ⟨kl, hkl⟩ : ∃ kl, K.length = kl := ⟨_, rfl⟩
    have hsucc := wiF_succ l x most k
    rw [hK] at hown hsucc
    rw [hkl] at hown hKl
    obtain ⟨A3, c3, rfl, -, -, -⟩ := own_form hown
    by_cases hlt : k < n
    · have hki : (k : Int) < (n : Int) := by omega
      have hs := hs0.out.below hB (Nat.le_refl _)
      obtain ⟨bb, off, rfl, hbw, hc⟩ := hs.at_ (by omega)
      have hcm := hc k hlt
      obtain ⟨y, hy⟩ : ∃ y, nw l k = y := ⟨_, rfl⟩
      rw [hy] at hcm
      obtain ⟨d, hd⟩ : ∃ d, dst y x = d := ⟨_, rfl⟩
      have k1 := Lib.hid (fun W => Distance_any y x (by rw [← hy]; exact hW.out.nw k) hxh.out W hd)
      have hnb : nearB l x most k = decide ((d : Int) ≤ most) := by unfold nearB; rw [hy, hd]
      replace hy := Lib.hid hy
      replace hd := Lib.hid hd
      replace hK := Lib.hid hK
      replace hkl := Lib.hid hkl
      clear hc hs
      by_cases hle : (d : Int) ≤ most
      · have hs2 : Hid (wiF l x most (k + 1) = K ++ [(k : Int)]) := Lib.hid (by rw [hsucc, hnb]; simp [hle])
        clear hsucc hnb
        obtain ⟨i0, hi, hz0, hz1, hz2⟩ := info_parts infoIw
        have hBs := hB.size
        go_wp2_with (first
          | (go_at_call 16; refine (k1.out _).mono ?_; rintro e w' ⟨rfl, rfl⟩)
          | (at_builtin; refine wpList_append_own _ rfl _ _ 29 rfl w.heap.size 3 i0 (.int .i64 0) 1 8 Try.underlying29 hi hz0 hz1 hz2 rfl (by decide) _ _ _ rfl (hown.alloc _) ⟨wr.heap.size, 0, none⟩ 1 1 (cells [(k : Int)]) rfl rfl ?qc2 (cells_one _) ?qc4 ?qc5 ?qc6 ?_))
        case qc2 =>
          intro j u hj
          rw [Addr.add_lit, Nat.zero_add, cell_of_row _ wr.heap.size j _ _ _ (heap_alloc_new wr _)]
          rw [← List.getElem?_toArray] at hj
          exact hj
        case qc4 => unfold maxLen; omega
        case qc5 => omega
        case qc6 => simp; omega
        intro v' w6 hown6 hgrow hnil
        have hown7 : w6.ownsRow w.heap.size 3 1 v' (kl + 1) (cells (K ++ [(k : Int)])) := by rw [cells_append]; exact hown6
        have hlt4 := (World.ownsRow.lt hown)
        have hB7 := (hB.alloc (by omega) _).grown hgrow (by simp; omega) (fun q hq => (hlt4 q hq).1)
        go_wp2
        go_roundw
        case rel => exact ⟨k + 1, hlt, by go_num, by rw [hs2.out, List.length_append, hkl.out]; exact hown7, hB7⟩
        case measure => simp [intOf]; omega
      · have hs2 : Hid (wiF l x most (k + 1) = K) := Lib.hid (by rw [hsucc, hnb]; simp [hle])
        clear hsucc hnb
        replace hown := Lib.hid hown
        go_wp2_with (go_at_call 16; refine (k1.out _).mono ?_; rintro e w' ⟨rfl, rfl⟩)
        go_roundw
        case rel => exact ⟨k + 1, hlt, by go_num, by rw [hs2.out, hkl.out]; exact hown.out, hB⟩
        case measure => simp [intOf]; omega
    · obtain rfl : k = n := by omega
      have hki : ¬ (k : Int) < (k : Int) := by omega
      have hsr := SR.of_own hown
      replace hown := Lib.hid hown
      replace hsr := Lib.hid hsr
      clear hsucc
      go_wp2
      subst hK
      subst hkl
      exact bodyPost_ret (v := .tuple #[.slice A3 (wiF l x most k).length c3, .int .i64 0]) (by simp [results, Try.results14, go_sem]) rfl ⟨⟨A3, c3, rfl, hsr.out⟩, hB⟩

theorem Within_long (A : Option Addr) (n c : Nat) (x most : Int) (w : World) (hn : n ≤ 9223372036854775807) (h : 64 < n) :
    Calls Try.prog 14 #[.slice A n c, .int .u64 x, .int .i64 most] w fun e w' => e = .returned (.tuple #[.slice none 0 0, .int .i64 3]) ∧ w = w' := by
  have k0 := Lib.hid (isLong_at (b := true) hn (by simp [h]))
  go_enter Try.func14, Try.ntmps14
  go_wp2_with (go_at_call 36; refine (k0.out _ _ _).mono ?_; rintro e w' ⟨rfl, rfl⟩)
  exact bodyPost_ret (v := .tuple #[.slice none 0 0, .int .i64 3]) (by simp [results, Try.results14, go_sem]) rfl ⟨rfl, rfl⟩

/-- A list of lists: addresses, lengths, capacities. -/
abbrev Lst := Option Addr × Nat × Nat
def lcells (l : List Lst) : List Value := l.map fun p => Value.slice p.1 p.2.1 p.2.2
theorem lcells_length (l : List Lst) : (lcells l).length = l.length := by simp [lcells]
def longB (l : List Lst) : Bool := l.any fun p => decide (64 < p.2.1)
theorem isLong1_any (A : Option Addr) (n c : Nat) (w : World) (hn : n ≤ 9223372036854775807) {b : Bool} (hb : decide (64 < n) = b) :
    Calls Try.prog 39 #[.slice A n c] w fun e w' => e = .returned (.bool b) ∧ w = w' := by
  by_cases h : 64 < n
  · have hv : b = true := by rw [← hb]; simp [h]
    subst hv
    have hi : (64 : Int) < (n : Int) := by omega
    replace hb := Lib.hid hb
    go_enter Try.func39, Try.ntmps39
    go_wp2
    go_ret
    exact ⟨ret_bool (by first | rfl | (simp; omega)), rfl⟩
  · have hv : b = false := by rw [← hb]; simp; omega
    subst hv
    have hi : ¬ (64 : Int) < (n : Int) := by omega
    replace hb := Lib.hid hb
    go_enter Try.func39, Try.ntmps39
    go_wp2
    go_ret
    exact ⟨ret_bool (by first | rfl | (simp; omega)), rfl⟩
theorem enters_long1 : ∀ args w, (callFunc 39 args).run Try.prog w = .ok (.enter 39 args) w := enters_of Try.func39 (by kernel_rfl) rfl

theorem IndexFunc_long (A : Option Addr) (n c : Nat) (ls : List Lst) (w : World) (h : SR w A n c 1 (lcells ls)) (hm : ∀ p ∈ ls, p.2.1 ≤ 9223372036854775807) :
    Calls Try.prog 51 #[.slice A n c, .func (.func 39) #[] #[]] w fun e w' => (∃ r : Int, e = .returned (.int .i64 r) ∧ decide (0 ≤ r) = longB ls) ∧ w = w' := by
  have hcap := h.2.1
  have hcl := h.2.2.1
  have hlen : n = ls.length := by have := h.1; rw [lcells_length] at this; omega
  replace hlen := Lib.hid hlen
  have hm' := Lib.hid hm
  have hs0 := Lib.hid h
  have eg := enters_long1
  clear h hm
  go_enter Try.func51, Try.ntmps51
  go_wp2
  go_loopw [8] (fun i wr => ∃ k : Nat, k ≤ n ∧ i = .int .i64 k ∧ w = wr ∧ Hid (∀ j p, j < k → ls[j]? = some p → decide (64 < p.2.1) = false)) (fun i _ => n - (intOf i).toNat)
  case atStart => exact ⟨0, Nat.zero_le _, rfl, rfl, Lib.hid fun j p hj => absurd hj (Nat.not_lt_zero _)⟩
  case round =>
    obtain ⟨k, hk, rfl, rfl, HA⟩ := hrel
    by_cases hlt : k < n
    · obtain ⟨b, off, rfl, hbw, hc⟩ := hs0.out.at_ (by omega)
      have hkl : k < ls.length := by rw [← hlen.out]; exact hlt
      obtain ⟨⟨A1, n1, c1⟩, hp⟩ : ∃ p, ls[k] = p := ⟨_, rfl⟩
      have hpk : ls[k]? = some (A1, n1, c1) := by rw [List.getElem?_eq_getElem hkl, hp]
      have hcell := hc k (.slice A1 n1 c1) (by unfold lcells; rw [List.getElem?_map, hpk]; rfl)
      have hn1 := hm'.out (A1, n1, c1) (by rw [← hp]; exact List.getElem_mem _)
      have hki : (k : Int) < (n : Int) := by omega
      obtain ⟨q, hq⟩ : ∃ q, decide (64 < n1) = q := ⟨_, rfl⟩
      have hcall := Lib.hid (fun W => isLong1_any A1 n1 c1 W hn1 hq)
      replace hp := Lib.hid hp
      replace hpk := Lib.hid hpk
      replace hkl := Lib.hid hkl
      replace hn1 := Lib.hid hn1
      clear hc
      cases q
      · replace hq := Lib.hid hq
        go_wp2_with (go_at_fn 39; refine (hcall.out _).mono ?_; rintro e w' ⟨rfl, rfl⟩)
        first
          | exact ⟨⟨k + 1, hlt, by go_num, trivial, Lib.hid fun j p hj hjp => (by
              by_cases e : j = k
              · subst e; rw [hpk.out] at hjp; cases hjp; exact hq.out
              · exact HA.out j p (by omega) hjp)⟩, by simp [intOf]; omega⟩
          | exact ⟨⟨k + 1, hlt, by go_num, rfl, Lib.hid fun j p hj hjp => (by
              by_cases e : j = k
              · subst e; rw [hpk.out] at hjp; cases hjp; exact hq.out
              · exact HA.out j p (by omega) hjp)⟩, by simp [intOf]; omega⟩
      · have hyes : Hid (longB ls = true) := Lib.hid (List.any_eq_true.2 ⟨(A1, n1, c1), by rw [← hp.out]; exact List.getElem_mem _, hq⟩)
        replace hq := Lib.hid hq
        go_wp2_with (go_at_fn 39; refine (hcall.out _).mono ?_; rintro e w' ⟨rfl, rfl⟩)
        go_ret
        exact ⟨⟨_, rfl, by rw [hyes.out]; simp⟩, rfl⟩
    · obtain rfl : k = n := by omega
      have hki : ¬ (k : Int) < (k : Int) := by omega
      have hno : Hid (longB ls = false) := Lib.hid (by
        unfold longB
        rw [List.any_eq_false]
        intro p hp
        obtain ⟨i, hi, rfl⟩ := List.mem_iff_getElem.1 hp
        have := HA.out i _ (by rw [hlen.out]; exact hi) (List.getElem?_eq_getElem hi)
        simpa using this)
      go_wp2
      go_ret
      exact ⟨⟨_, rfl, by rw [hno.out]; simp⟩, rfl⟩

theorem long_any (A : Option Addr) (n c : Nat) (ls : List Lst) (w : World) (h : SR w A n c 1 (lcells ls)) (hm : ∀ p ∈ ls, p.2.1 ≤ 9223372036854775807) {b : Bool} (hb : longB ls = b) :
    Calls Try.prog 15 #[.slice A n c] w fun e w' => e = .returned (.int .i64 (if b then 3 else 0)) ∧ w = w' := by
  have h1 := IndexFunc_long A n c ls w h hm
  rw [hb] at h1
  have hcon : Calls Try.prog 38 #[.slice A n c, .func (.func 39) #[] #[]] w fun e w' => e = .returned (.bool b) ∧ w = w' := by
    replace h1 := Lib.hid h1
    clear hb h hm
    go_enter Try.func38, Try.ntmps38
    go_wp2_with (go_at_call 51; refine h1.out.mono ?_; rintro e w' ⟨⟨r, rfl, hr⟩, rfl⟩; replace hr := Lib.hid hr)
    go_ret
    exact ⟨ret_bool hr.out, rfl⟩
  replace hcon := Lib.hid hcon
  clear hb h hm h1
  cases b
  all_goals
    go_enter Try.func15, Try.ntmps15
    go_wp2_with (go_at_call 38; refine hcon.out.mono ?_; rintro e w' ⟨rfl, rfl⟩)
    go_ret
    exact ⟨rfl, rfl⟩

end Go.Proofs.Ytofoiocpopmifaa
