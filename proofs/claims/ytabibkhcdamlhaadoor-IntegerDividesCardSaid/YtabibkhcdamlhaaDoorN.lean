/-
  Walks over the reference: Value, made.
-/
import Derived.Test.YtabibkhcdamlhaaDoorM
import Derived.Test.YtabibkhcdamlhaaDoorC
set_option linter.unusedSimpArgs false
set_option linter.unusedVariables false
namespace Go.Proofs.YtabibkhcdamlhaaDoor
open Go.RowKit Num

/-- append onto a slice of the call's own, as one step of a region that draws its order. -/
theorem step_append_ours {P : Program} {ops : Array Oper} {o : Oper} {a : Act} {w : World} {K : Act → World → Prop} {Q : Exit → Act → World → Prop} {E : Prop} (hgd : o.guard = none) (s x : Operand) (t : TypeId)
    (ho : o.op = .call { callee := .builtin .append, args := #[s, x], argTypes := #[t, t] })
    (base : Nat) (e : TypeId) (i : TypeInfo) (z : Value) (size bytes : Nat) (ht : P.underlying t = some (.slice e)) (hi : P.info? e = some i) (hz : i.zero = some z)
    (hsize : i.size = size) (hby : i.bytes = bytes) (hzs : z.cells.size = size) (hsz : 0 < size)
    (v : Value) (n : Nat) (xs : List Value) (hs : a.eval s = v) (hown : w.ownsRow base e size v n xs)
    (ad : Addr) (m c : Nat) (news : List Value) (hx : a.eval x = .slice (some ad) m c) (hl : news.length = m * size) (hnews : ∀ j u, news[j]? = some u → w.cell? (ad.add j) = some u) (h1 : ∀ u ∈ news, u.oneCell' = true)
    (h63 : n + m ≤ maxLen) (hbytes : (n + m) * bytes ≤ 140737488355328) (hbase : base ≤ w.heap.size)
    (h : ∀ v' w', w'.ownsRow base e size v' (n + m) (xs ++ news) → w.grownBy w' v.ownBlock → K (a.put o.dst v') w') :
    if Region.wanted o (yielded ops a.tmps) = true then Oper.wp P o a w K Q else E := by
  have hw : Region.wanted o (yielded ops a.tmps) = true := by simp [Region.wanted, hgd]
  rw [if_pos hw]
  exact wp_append_own w s x t ho base e i z size bytes ht hi hz hsize hby hzs hsz v n xs hs hown ad m c news hx hl hnews h1 h63 hbytes hbase fun v' w' h2 h3 _ => h v' w' h2 h3

theorem grown_old {w1 w2 : World} {o : Obj} (h : (w1.alloc o).grownBy w2 (some w1.heap.size)) {k : Nat} (hk : k < w1.heap.size) (i : Nat) : w2.cell? ⟨k, i, none⟩ = w1.cell? ⟨k, i, none⟩ := by
  rw [World.cell?_of_block (w := w1.alloc o) (h.block k (by simp <;> omega) (by simp <;> omega))]
  exact World.cell?_alloc_lt w1 o ⟨k, i, none⟩ hk
theorem grown_old_fr {w1 w2 : World} {o : Obj} (h : (w1.alloc o).grownBy w2 (some w1.heap.size)) {k : Nat} (hk : k < w1.heap.size) (i : Nat) : w2.frozen? ⟨k, i, none⟩ = w1.frozen? ⟨k, i, none⟩ := by
  rw [World.frozen?_of_block (w := w1.alloc o) (h.block k (by simp <;> omega) (by simp <;> omega))]
  exact World.frozen?_of_block (Below.heap_alloc w1 o k hk)
theorem RetZ.more {w W W' : World} {z : Int} {k : Nat} {e : Ending} (h : RetZ w z k e W) (hb : Below W.heap.size W W') : RetZ w z k e W' := by
  obtain ⟨neg, A, n, c, he, hi, hB⟩ := h
  exact ⟨neg, A, n, c, he, hi.below hb, btr hB hb⟩
theorem news_of_sl {w : World} {b off n c : Nat} {l : List Nat} (h : Sl w (some ⟨b, off, none⟩) n c l) (h0 : 0 < n) : ∀ j u, (cells l)[j]? = some u → w.cell? ((⟨b, off, none⟩ : Addr).add j) = some u := by
  obtain ⟨b', off', e, _, hc⟩ := h.at_ h0
  cases e
  exact cells_from_sl h.len hc

set_option maxRecDepth 100000 in
set_option maxHeartbeats 1600000 in
/-- Value: a copy, or 0. -/
theorem Value_any (neg : Bool) (A : Option Addr) (n c : Nat) (z : Int) (k : Nat) (w : World) (h : VI w neg A n c z k) (hk : k ≤ 1000000000) :
    Calls Tryd.prog 13 #[.agg #[.bool neg, .slice A n c]] w (RetZ w z k) := by
  obtain ⟨l, hs, hz, hn⟩ := h
  have hz' := Lib.hid hz
  clear hz
  have hb1 := (Below.refl w.heap.size w).alloc (Nat.le_refl _) (.cells #[.bool neg, .slice A n c] 24)
  have hb2 := hb1.alloc (by simp) (.cells #[.bool false, .slice none 0 0] 24)
  have hs2 := (hs.alloc (.cells #[.bool neg, .slice A n c] 24)).alloc (.cells #[.bool false, .slice none 0 0] 24)
  by_cases hc : CanZ neg l
  · have hv : vld neg l = true := vld_iff.2 hc
    obtain ⟨i0, hi, hz0, hz1, hz2⟩ := info_parts infoU
    by_cases h0 : n = 0
    · have hl : l = [] := List.eq_nil_of_length_eq_zero (by rw [← hs.len]; exact h0)
      subst hl h0
      have hneg := hc.2 rfl
      subst hneg
      have hend : ∀ w1 : World, Below w.heap.size w w1 → w1.cell? ⟨w.heap.size + 1, 0, none⟩ = some (.bool false) → w1.cell? ⟨w.heap.size + 1, 1, none⟩ = some (.slice none 0 0) → ∀ g, RetZ w z k (.returned (.agg #[.bool false, .slice (some ⟨g, 0, none⟩) 0 0])) ((w1.setCell ⟨w.heap.size + 1, 0, none⟩ (.bool false)).setCell ⟨w.heap.size + 1, 1, none⟩ (.slice (some ⟨g, 0, none⟩) 0 0)) :=
        fun w1 hB g3 g4 g => RetZ.close0 ⟨[], ⟨rfl, Nat.le_refl _, by omega, fun h => absurd h (by omega)⟩, hc, by rw [← cnt_can hc]; exact hz'.out, hn⟩ hB (by omega) g3 g4
      replace hend := Lib.hid hend
      rcases A with _ | ad
      · go_enter Tryd.func13, Tryd.ntmps13
        go_wp2_with (go_at_call 15; refine (rValid_any _ _ _ _ _ _ hs2 (by omega)).mono ?_; rintro e w1 ⟨rfl, hb3⟩; obtain ⟨⟨d1, d2, d3, d4⟩, ⟨e1, e2, e3, e4⟩, hsz⟩ := box2s hb3)
        have hsz0 : w.heap.size < w1.heap.size := by omega
        go_region_held3 (fun w' => w'.cell? ⟨w.heap.size, 0, none⟩ = some (.bool false) ∧ w'.cell? ⟨w.heap.size, 1, none⟩ = some (.slice none 0 c))
          (refine ⟨?_, ?_⟩ <;> first | (simp [go_sem, d1, d2, d3, d4]; done) | (simp [go_sem, d1, d2, d3, d4, hsz, hsz0]; done) | assumption)
          (fail)
        go_wp2
        refine bodyPost_ret (v := .agg #[.bool false, .slice (some ⟨w1.heap.size, 0, none⟩) 0 0]) (by simp [results, Tryd.results13, go_sem, d3, d4, hsz]) rfl ?_
        exact (hend.out w1 (hb2.trans (hb3.mono (by simp <;> omega))) d3 d4 w1.heap.size).more (((Below.refl _ _).alloc (Nat.le_refl _) _).drew)
      · go_enter Tryd.func13, Tryd.ntmps13
        go_wp2_with (go_at_call 15; refine (rValid_any _ _ _ _ _ _ hs2 (by omega)).mono ?_; rintro e w1 ⟨rfl, hb3⟩; obtain ⟨⟨d1, d2, d3, d4⟩, ⟨e1, e2, e3, e4⟩, hsz⟩ := box2s hb3)
        have hsz0 : w.heap.size < w1.heap.size := by omega
        go_region_held3 (fun w' => w'.cell? ⟨w.heap.size, 0, none⟩ = some (.bool false) ∧ w'.cell? ⟨w.heap.size, 1, none⟩ = some (.slice (some ad) 0 c))
          (refine ⟨?_, ?_⟩ <;> first | (simp [go_sem, d1, d2, d3, d4]; done) | (simp [go_sem, d1, d2, d3, d4, hsz, hsz0]; done) | assumption)
          (fail)
        go_wp2
        refine bodyPost_ret (v := .agg #[.bool false, .slice (some ⟨w1.heap.size, 0, none⟩) 0 0]) (by simp [results, Tryd.results13, go_sem, d3, d4, hsz]) rfl ?_
        exact (hend.out w1 (hb2.trans (hb3.mono (by simp <;> omega))) d3 d4 w1.heap.size).more (((Below.refl _ _).alloc (Nat.le_refl _) _).drew)
    · obtain ⟨b, off, rfl, _, _⟩ := hs.at_ (by omega)
      have hlen := Lib.hid hs.len
      go_enter Tryd.func13, Tryd.ntmps13
      go_wp2_with (go_at_call 15; refine (rValid_any _ _ _ _ _ _ hs2 (by omega)).mono ?_; rintro e w1 ⟨rfl, hb3⟩; obtain ⟨⟨d1, d2, d3, d4⟩, ⟨e1, e2, e3, e4⟩, hsz⟩ := box2s hb3; have hs3 := hs2.below hb3 (Nat.le_refl _))
      have hsz0 : w.heap.size < w1.heap.size := by omega
      go_region_held3 (fun w' => w'.cell? ⟨w.heap.size, 0, none⟩ = some (.bool neg) ∧ w'.cell? ⟨w.heap.size, 1, none⟩ = some (.slice (some ⟨b, off, none⟩) n c))
        (refine ⟨?_, ?_⟩ <;> first | (simp [go_sem, d1, d2, d3, d4]; done) | (simp [go_sem, d1, d2, d3, d4, hsz, hsz0]; done) | assumption | (simp [go_sem, g1, g2, g3, g4]; done))
        (first | (refine step_append_ours rfl _ _ 22 rfl w1.heap.size 48 i0 (.int .u32 0) 1 4 Tryd.underlying22 hi hz0 hz1 hz2 rfl (by decide) _ _ _ rfl (World.ownsRow_made w1.drew #[] 0 (Nat.le_refl _) (by unfold maxLen; omega) rfl) ⟨b, off, none⟩ n c (cells l) rfl (by rw [cells_length, ← hlen.out, Nat.mul_one]) (by exact news_of_sl (hs3.alloc _) (by omega)) cells_one (by unfold maxLen; omega) (by omega) (by simp) ?_; intro v' w2 hown hgrow; obtain ⟨g, cap, hv, hg, hbl1, hnc, hcm, hnl⟩ := Bl.of_own hown (by omega); subst hv; have hgr : (w1.alloc (.cells #[] 48)).grownBy w2 (some w1.heap.size) := ⟨hgrow.os, hgrow.tape, hgrow.output, hgrow.size, hgrow.block⟩; have g1 := (grown_old hgr hsz0 0).trans d1; have g2 := (grown_old hgr hsz0 1).trans d2; have g3 := (grown_old hgr hsz 0).trans d3; have g4 := (grown_old hgr hsz 1).trans d4; have k3 := (grown_old_fr hgr hsz 0).trans e3; have k4 := (grown_old_fr hgr hsz 1).trans e4; replace hnl := Lib.hid hnl))
      go_wp2
      refine bodyPost_ret (v := .agg #[.bool neg, .slice (some ⟨g, 0, none⟩) n cap]) (by simp [results, Tryd.results13, go_sem, g3, g4]) rfl ?_
      have hsl := hbl1.sl (off := 0) (n := n) (c := cap) (by rw [← hlen.out]; omega) (by omega) hcm
      rw [List.drop_zero, List.take_of_length_le (by rw [← hlen.out]; exact Nat.le_refl _)] at hsl
      have hbF := ((hb2.trans (hb3.mono (by simp <;> omega))).alloc (by omega) (.cells #[] 48)).grown hgr (by simp <;> omega) (fun k e => by cases e; omega)
      exact RetZ.close0 ⟨l, hsl, hc, by rw [← cnt_can hc]; exact hz'.out, hn⟩ hbF (by simp) g3 g4
  · have hv : vld neg l = false := by rw [← Bool.not_eq_true, vld_iff]; exact hc
    go_enter Tryd.func13, Tryd.ntmps13
    go_wp2_with (go_at_call 15; refine (rValid_any _ _ _ _ _ _ hs2 (by omega)).mono ?_; rintro e w1 ⟨rfl, hb3⟩; obtain ⟨⟨d1, d2, d3, d4⟩, ⟨e1, e2, e3, e4⟩, hsz⟩ := box2s hb3)
    refine bodyPost_ret (v := .agg #[.bool false, .slice none 0 0]) (by simp [results, Tryd.results13, go_sem, d3, d4]) rfl ?_
    rw [← hz'.out, cnt_not hc]
    exact RetZ.close0 (II.zero _ _) (hb2.trans (hb3.mono (by simp <;> omega))) (by simp) d3 d4

end Go.Proofs.YtabibkhcdamlhaaDoor

/-
  Walk over the reference: made.
-/
namespace Go.Proofs.YtabibkhcdamlhaaDoor
open Go.RowKit Num

set_option maxRecDepth 100000 in
set_option maxHeartbeats 1600000 in
/-- made: the integer with a sign and groups, zeros at the end dropped. -/
theorem made_any (neg : Bool) (A : Option Addr) (n c : Nat) (l : List Nat) (w : World) (h : Sl w A n c l) (hg : Grp l) (hn : n ≤ 1000000000) :
    Calls Tryd.prog 54 #[.bool neg, .slice A n c] w (RetZ w (sgnd neg (val l)) n) := by
  have hcap := h.le_cap
  have hcl := h.cap_le
  obtain ⟨i0, hi, hz0, hz1, hz2⟩ := info_parts infoU
  have h1 := h.alloc (.cells #[.bool false, .slice none 0 0] 24)
  have hb1 := (Below.refl w.heap.size w).alloc (Nat.le_refl _) (.cells #[.bool false, .slice none 0 0] 24)
  have hlen := Lib.hid h.len
  have hown0 : ((w.alloc (.cells #[.bool false, .slice none 0 0] 24)).alloc (.cells #[] 48)).ownsRow (w.heap.size + 1) 48 1 (.slice (some ⟨w.heap.size + 1, 0, none⟩) 0 0) 0 [] := by
    have := World.ownsRow_made (base := w.heap.size + 1) (e := 48) (size := 1) (w.alloc (.cells #[.bool false, .slice none 0 0] 24)) #[] 0 (by simp) (by unfold maxLen; omega) rfl
    rwa [World.size_alloc] at this
  cases neg
  · go_enter Tryd.func54, Tryd.ntmps54
    go_wp2
    go_loop [5] (fun i => ∃ k : Nat, k ≤ n ∧ (∀ j, k ≤ j → j < n → nth l j = 0) ∧ i = .int .i64 k) (fun i => (intOf i).toNat)
    case atStart => exact ⟨n, Nat.le_refl _, fun j h1 h2 => absurd h2 (by omega), rfl⟩
    case round =>
      obtain ⟨k, hk, hz, rfl⟩ := hrel
      replace hz := Lib.hid hz
      by_cases h0 : 0 < k
      · obtain ⟨b, off, rfl, _, hc⟩ := h1.at_ (by omega)
        have hcell := hc (k - 1) (by omega)
        clear hc
        obtain ⟨x, hx⟩ : ∃ x, nth l (k - 1) = x := ⟨_, rfl⟩
        rw [hx] at hcell
        have hx' := Lib.hid hx
        clear hx
        by_cases hx0 : x = 0
        · subst hx0
          go_wp2
          go_round
          case rel => exact ⟨k - 1, by omega, fun j h1 h2 => (by
              by_cases e : j = k - 1
              · rw [e]; exact hx'.out
              · exact hz.out j (by omega) h2), by go_num⟩
          case measure => simp [intOf]; omega
        · have hst := (h1.take hk (by omega) (Nat.le_refl _)).alloc (.cells #[] 48)
          have hx1 : ((x : Int) == 0) = false := by simpa using hx0
          replace hx0 := Lib.hid hx0
          have hk0 : (0 : Int) < (k : Int) := by omega
          go_wp2_with (at_builtin; refine wpList_append_own _ rfl _ _ 22 rfl (w.heap.size + 1) 48 i0 (.int .u32 0) 1 4 Tryd.underlying22 hi hz0 hz1 hz2 rfl (by decide) _ _ _ rfl hown0 ⟨b, off, none⟩ k c (cells (l.take k)) rfl (by rw [cells_length, List.length_take, ← hlen.out]; omega) (by exact news_of_sl hst (by omega)) cells_one (by unfold maxLen; omega) (by omega) (by simp) ?_; intro v' w1 hown hgrow _; obtain ⟨g, cap, hv, hg2, hbl1, hnc, hcm, hnl⟩ := Bl.of_own hown (by omega); subst hv; replace hnl := Lib.hid hnl; have hgr : ((w.alloc (.cells #[.bool false, .slice none 0 0] 24)).alloc (.cells #[] 48)).grownBy w1 (some (w.heap.size + 1)) := hgrow; have hgX : w1.heap[w.heap.size]? = some (.cells #[.bool false, .slice none 0 0] 24 (0, 0)) := (hgr.block w.heap.size (by simp <;> omega) (by simp)).trans (heap_alloc2_old w _ _); have g3 := cell_of_row w1 w.heap.size 0 _ _ _ hgX; have g4 := cell_of_row w1 w.heap.size 1 _ _ _ hgX; have k3 := frozen_of_row w1 w.heap.size 0 _ _ hgX; have k4 := frozen_of_row w1 w.heap.size 1 _ _ hgX; simp only [List.getElem?_toArray, List.getElem?_cons_zero, List.getElem?_cons_succ] at g3 g4; replace hgX := Lib.hid hgX)
          refine bodyPost_ret (v := .agg #[.bool false, .slice (some ⟨g, 0, none⟩) k cap]) (by simp [results, Tryd.results54, go_sem, g3, g4]) rfl ?_
          obtain ⟨hc1, hc2⟩ := trim_ok hg (n := k) (by rw [← hlen.out]; exact hk) (by rw [← hlen.out]; exact hz.out) (.inr (by rw [hx'.out]; exact hx0.out))
          have hsl := hbl1.sl (off := 0) (n := k) (c := cap) (by have := hnl.out; omega) (by omega) hcm
          rw [List.drop_zero, List.take_of_length_le (by have := hnl.out; omega)] at hsl
          have hbF := (hb1.alloc (by simp) (.cells #[] 48)).grown hgr (by simp <;> omega) (fun k' e => by cases e; omega)
          rw [← hc2]
          exact RetZ.close0 ⟨l.take k, hsl, ⟨hc1, fun _ => rfl⟩, rfl, hk⟩ hbF (Nat.le_refl _) g3 g4
      · obtain rfl : k = 0 := by omega
        rcases A with _ | ad
        all_goals
          go_wp2
          refine bodyPost_ret (v := .agg #[.bool false, .slice (some ⟨w.heap.size + 1, 0, none⟩) 0 0]) (by simp [results, Tryd.results54, go_sem]) rfl ?_
          have hv : val l = 0 := by
            have := (trim_ok hg (n := 0) (Nat.zero_le _) (by rw [← hlen.out]; exact hz.out) (.inl rfl)).2
            rw [← this]; rfl
          rw [hv, sgnd_zero]
          exact ⟨false, _, 0, 0, rfl, ⟨[], ⟨rfl, Nat.le_refl _, by omega, fun h => absurd h (by omega)⟩, ⟨Cano.nil, fun _ => rfl⟩, rfl, Nat.zero_le _⟩, ((Below.refl w.heap.size w).alloc (Nat.le_refl _) _).alloc (by simp) _⟩
  · go_enter Tryd.func54, Tryd.ntmps54
    go_wp2
    go_loop [5] (fun i => ∃ k : Nat, k ≤ n ∧ (∀ j, k ≤ j → j < n → nth l j = 0) ∧ i = .int .i64 k) (fun i => (intOf i).toNat)
    case atStart => exact ⟨n, Nat.le_refl _, fun j h1 h2 => absurd h2 (by omega), rfl⟩
    case round =>
      obtain ⟨k, hk, hz, rfl⟩ := hrel
      replace hz := Lib.hid hz
      by_cases h0 : 0 < k
      · obtain ⟨b, off, rfl, _, hc⟩ := h1.at_ (by omega)
        have hcell := hc (k - 1) (by omega)
        clear hc
        obtain ⟨x, hx⟩ : ∃ x, nth l (k - 1) = x := ⟨_, rfl⟩
        rw [hx] at hcell
        have hx' := Lib.hid hx
        clear hx
        by_cases hx0 : x = 0
        · subst hx0
          go_wp2
          go_round
          case rel => exact ⟨k - 1, by omega, fun j h1 h2 => (by
              by_cases e : j = k - 1
              · rw [e]; exact hx'.out
              · exact hz.out j (by omega) h2), by go_num⟩
          case measure => simp [intOf]; omega
        · have hst := (h1.take hk (by omega) (Nat.le_refl _)).alloc (.cells #[] 48)
          have hx1 : ((x : Int) == 0) = false := by simpa using hx0
          replace hx0 := Lib.hid hx0
          have hk0 : (0 : Int) < (k : Int) := by omega
          go_wp2_with (at_builtin; refine wpList_append_own _ rfl _ _ 22 rfl (w.heap.size + 1) 48 i0 (.int .u32 0) 1 4 Tryd.underlying22 hi hz0 hz1 hz2 rfl (by decide) _ _ _ rfl hown0 ⟨b, off, none⟩ k c (cells (l.take k)) rfl (by rw [cells_length, List.length_take, ← hlen.out]; omega) (by exact news_of_sl hst (by omega)) cells_one (by unfold maxLen; omega) (by omega) (by simp) ?_; intro v' w1 hown hgrow _; obtain ⟨g, cap, hv, hg2, hbl1, hnc, hcm, hnl⟩ := Bl.of_own hown (by omega); subst hv; replace hnl := Lib.hid hnl; have hgr : ((w.alloc (.cells #[.bool false, .slice none 0 0] 24)).alloc (.cells #[] 48)).grownBy w1 (some (w.heap.size + 1)) := hgrow; have hgX : w1.heap[w.heap.size]? = some (.cells #[.bool false, .slice none 0 0] 24 (0, 0)) := (hgr.block w.heap.size (by simp <;> omega) (by simp)).trans (heap_alloc2_old w _ _); have g3 := cell_of_row w1 w.heap.size 0 _ _ _ hgX; have g4 := cell_of_row w1 w.heap.size 1 _ _ _ hgX; have k3 := frozen_of_row w1 w.heap.size 0 _ _ hgX; have k4 := frozen_of_row w1 w.heap.size 1 _ _ hgX; simp only [List.getElem?_toArray, List.getElem?_cons_zero, List.getElem?_cons_succ] at g3 g4; replace hgX := Lib.hid hgX)
          refine bodyPost_ret (v := .agg #[.bool true, .slice (some ⟨g, 0, none⟩) k cap]) (by simp [results, Tryd.results54, go_sem, g3, g4]) rfl ?_
          obtain ⟨hc1, hc2⟩ := trim_ok hg (n := k) (by rw [← hlen.out]; exact hk) (by rw [← hlen.out]; exact hz.out) (.inr (by rw [hx'.out]; exact hx0.out))
          have hsl := hbl1.sl (off := 0) (n := k) (c := cap) (by have := hnl.out; omega) (by omega) hcm
          rw [List.drop_zero, List.take_of_length_le (by have := hnl.out; omega)] at hsl
          have hbF := (hb1.alloc (by simp) (.cells #[] 48)).grown hgr (by simp <;> omega) (fun k' e => by cases e; omega)
          rw [← hc2]
          exact RetZ.close0 ⟨l.take k, hsl, ⟨hc1, fun e => by have h8 := congrArg List.length e; have h9 := hnl.out; rw [h8] at h9; exfalso; simp only [List.length_nil] at h9; omega⟩, rfl, hk⟩ hbF (Nat.le_refl _) g3 g4
      · obtain rfl : k = 0 := by omega
        rcases A with _ | ad
        all_goals
          go_wp2
          refine bodyPost_ret (v := .agg #[.bool false, .slice (some ⟨w.heap.size + 1, 0, none⟩) 0 0]) (by simp [results, Tryd.results54, go_sem]) rfl ?_
          have hv : val l = 0 := by
            have := (trim_ok hg (n := 0) (Nat.zero_le _) (by rw [← hlen.out]; exact hz.out) (.inl rfl)).2
            rw [← this]; rfl
          rw [hv, sgnd_zero]
          exact ⟨false, _, 0, 0, rfl, ⟨[], ⟨rfl, Nat.le_refl _, by omega, fun h => absurd h (by omega)⟩, ⟨Cano.nil, fun _ => rfl⟩, rfl, Nat.zero_le _⟩, ((Below.refl w.heap.size w).alloc (Nat.le_refl _) _).alloc (by simp) _⟩

end Go.Proofs.YtabibkhcdamlhaaDoor
