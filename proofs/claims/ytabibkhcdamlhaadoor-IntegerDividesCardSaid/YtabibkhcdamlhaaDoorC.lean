/-
  Walks: slices.Clone, copied, sum, difference of package integer.
-/
import Derived.Test.YtabibkhcdamlhaaDoorA
import Derived.Laws.CopyOwn
import Derived.Test.YtabibkhcdamlhaaDoorNum
set_option linter.unusedSimpArgs false
set_option linter.unusedVariables false
namespace Go.Proofs.YtabibkhcdamlhaaDoor
open Go.RowKit Num

theorem infoU : (Tryd.prog.info? 48).map (fun i => (i.zero, i.size, i.bytes)) = some (some (.int .u32 0), 1, 4) := by kernel_rfl

theorem cells_from_sl {w : World} {b off n : Nat} {l : List Nat} (hn : n = l.length) (h : ∀ i, i < n → w.cell? ⟨b, off + i, none⟩ = some (.int .u32 (nth l i : Nat))) :
    ∀ j u, (cells l)[j]? = some u → w.cell? ((⟨b, off, none⟩ : Addr).add j) = some u := by
  intro j u hu
  have hj : j < l.length := by
    have := (List.getElem?_eq_some_iff.1 hu).1
    rwa [cells_length] at this
  rw [cells_at hj] at hu
  have e : (⟨b, off, none⟩ : Addr).add j = ⟨b, off + j, none⟩ := by
    unfold Addr.add
    split
    · subst j; rfl
    · rfl
  rw [e, h j (by omega)]
  exact hu

set_option maxHeartbeats 1600000 in
/-- slices.Clone of uint32. -/
theorem Clone_any (A : Option Addr) (n c : Nat) (l : List Nat) (w : World) (h : Sl w A n c l) (hn : n ≤ 1000000000) :
    Calls Tryd.prog 82 #[.slice A n c] w fun e w' => ∃ A' c', e = .returned (.slice A' n c') ∧ Fr w' w.heap.size A' n c' l ∧ Below w.heap.size w w' := by
  have hq := fun w : World => Lib.run_eql_slice_nil (P := Tryd.prog) w 22 48 A n c 0 0 Tryd.underlying22
  obtain ⟨i0, hi, hz0, hz1, hz2⟩ := info_parts infoU
  by_cases h0 : n = 0
  · have hl : l = [] := List.eq_nil_of_length_eq_zero (by rw [← h.len]; exact h0)
    subst h0 hl
    rcases A with _ | ad
    · go_enter Tryd.func82, Tryd.ntmps82
      go_wp2
      go_ret
      exact ⟨none, 0, rfl, Fr.nil w _, Below.refl _ _⟩
    · go_enter Tryd.func82, Tryd.ntmps82
      go_wp2
      go_ret
      exact ⟨_, 0, rfl, ⟨rfl, Nat.le_refl _, by omega, fun h => absurd h (by omega)⟩, (Below.refl _ _).alloc (Nat.le_refl _) _⟩
  · obtain ⟨b, off, rfl, hbl, hc⟩ := h.at_ (by omega)
    go_enter Tryd.func82, Tryd.ntmps82
    have hs1 := h.alloc (.cells #[] 48)
    have hlen := Lib.hid h.len
    go_wp2_with (at_builtin; refine wpList_append_own _ rfl _ _ 22 rfl w.heap.size 48 i0 (.int .u32 0) 1 4 Tryd.underlying22 hi hz0 hz1 hz2 rfl (by decide) _ _ _ rfl (World.ownsRow_made w #[] 0 (Nat.le_refl _) (by unfold maxLen; omega) rfl) ⟨b, off, none⟩ n c (cells l) rfl ?c0 ?c1 ?c2 ?c3 ?c4 ?c5 ?_)
    case c0 => rw [cells_length, ← hlen.out, Nat.mul_one]
    case c1 =>
      obtain ⟨b', off', e, _, hc'⟩ := hs1.at_ (by omega)
      cases e
      exact cells_from_sl hlen.out hc'
    case c2 => exact cells_one
    case c3 => unfold maxLen; omega
    case c4 => omega
    case c5 => simp
    intro v' w1 hown hgrow _
    obtain ⟨g, cap, hv, hg, hbl1, hnc, hcm, hnl⟩ := Bl.of_own hown (by omega)
    have hb1 := ((Below.refl w.heap.size w).alloc (Nat.le_refl _) (.cells #[] 48)).grown hgrow (by simp) (fun k e => by simp [Value.ownBlock] at e; omega)
    replace hnl := Lib.hid hnl
    subst hv
    go_wp2
    go_ret
    exact ⟨some ⟨g, 0, none⟩, cap, rfl, ⟨hnl.out, hnc, hcm, fun _ => ⟨g, 0, l, rfl, hg, hbl1, by have := hnl.out; omega, by rw [List.drop_zero, List.take_of_length_le (by rw [hnl.out]; exact Nat.le_refl _)]⟩⟩, hb1⟩

set_option maxHeartbeats 400000 in
/-- copied: a copy of a magnitude. -/
theorem copied_any (A : Option Addr) (n c : Nat) (l : List Nat) (w : World) (h : Sl w A n c l) (hn : n ≤ 1000000000) :
    Calls Tryd.prog 53 #[.slice A n c] w fun e w' => ∃ A' c', e = .returned (.slice A' n c') ∧ Fr w' w.heap.size A' n c' l ∧ Below w.heap.size w w' := by
  go_enter Tryd.func53, Tryd.ntmps53
  go_wp2_with (go_at_call 82; refine (Clone_any _ _ _ _ _ h hn).mono ?_; rintro e w1 ⟨A', c', rfl, hf, hb⟩)
  go_ret
  exact ⟨A', c', rfl, hf, hb⟩

/-- L with l laid over it from off on. -/
def lay (L : List Nat) (off : Nat) (l : List Nat) : List Nat := L.take off ++ (l ++ L.drop (off + l.length))
theorem lay_length {L : List Nat} {off : Nat} {l : List Nat} (h : off + l.length ≤ L.length) : (lay L off l).length = L.length := by simp [lay]; omega
theorem nth_lay {L : List Nat} {off : Nat} {l : List Nat} (h : off + l.length ≤ L.length) (j : Nat) : nth (lay L off l) j = if off ≤ j ∧ j < off + l.length then nth l (j - off) else nth L j := by
  unfold lay
  by_cases h1 : j < off
  · rw [nth_append_lt (by rw [List.length_take]; omega), nth_take h1, if_neg (by omega)]
  · have e1 : (L.take off).length = off := by rw [List.length_take]; omega
    rw [nth_append_ge (by omega), e1]
    by_cases h2 : j < off + l.length
    · rw [nth_append_lt (by omega), if_pos (by omega)]
    · rw [nth_append_ge (by omega), nth_drop, if_neg (by omega)]
      congr 1
      omega

/-- copy into a row of the call's own. -/
theorem wpList_copy_bl {P : Program} {w : World} {ops : Array Oper} {rest : List Oper} {o : Oper} {a : Act} {Q : Exit → Act → World → Prop} (hgd : o.guard = none) (d s : Operand)
    (ho : o.op = .call { callee := .builtin .copy, args := #[d, s], argTypes := #[22, 22] }) (hu : P.underlying 22 = some (.slice 48)) (hsz : (P.info? 48).map (·.size) = some 1)
    (dp sp : Option Addr) (dLen dCap sLen sCap : Nat) (hd : a.eval d = .slice dp dLen dCap) (hs : a.eval s = .slice sp sLen sCap)
    (g off : Nat) (L l : List Nat) (hB : Bl w g L) (hS : Sl w sp sLen sCap l) (hle : sLen ≤ dLen) (hdp : 0 < sLen → dp = some ⟨g, off, none⟩) (hfit : off + sLen ≤ L.length)
    (h : ∀ w', Bl w' g (lay L off l) → Only w w' g → wpList P ops Q rest (a.put o.dst (goInt sLen)) w') : wpList P ops Q (o :: rest) a w := by
  by_cases h0 : sLen = 0
  · have hl : l = [] := List.eq_nil_of_length_eq_zero (by rw [← hS.len]; exact h0)
    subst hl h0
    refine wpList_copy_nothing hgd d s _ _ ho 48 hu hsz dp sp dLen dCap 0 sCap hd hs (by simp) ?_
    exact h w (by simpa [lay] using hB) (Only.refl w g)
  · have hdp' := hdp (by omega)
    obtain ⟨b, off', rfl, _, hc⟩ := hS.at_ (by omega)
    obtain ⟨T, hT⟩ := hB
    have hcl : (cells l).length = sLen := by rw [cells_length, ← hS.len]
    refine wpList_copy_own hgd d s _ _ ho 48 hu hsz g off dLen dCap ⟨b, off', none⟩ sLen sCap (by rw [hd, hdp']) hs _ _ hT (cells l) (by rw [hcl]; exact (Nat.min_eq_left hle).symm)
      (cells_from_sl hS.len hc) (by simp [cells_length, hS.len ▸ hcl]; have := hS.len; omega) cells_one ?_
    rw [hcl]
    refine h _ ⟨T, ?_⟩ ⟨rfl, rfl, rfl, by simp, fun k _ hk => setRow_other w g k _ (fun e => hk (by simp [e]))⟩
    rw [setRow_heap w g _ _ _ _ hT]
    have e1 : off ≤ (cells L).length := by rw [cells_length]; omega
    have e2 : off + sLen ≤ (cells L).length := by rw [cells_length]; omega
    simp only [List.take_append_of_le_length e1, List.drop_append_of_le_length e2]
    unfold lay
    rw [cells_append, cells_append, ← hS.len]
    simp [cells, List.map_take, List.map_drop]

/-- What trimmed leaves of groups of the call's own. -/
theorem FM.trim {w : World} {B g off n c k : Nat} {L : List Nat} (hB : Bl w g L) (hBg : B ≤ g) (hoff : off + n ≤ L.length) (hnc : n ≤ c) (hc : c ≤ 9223372036854775807)
    (hg : ∀ j, j < n → nth L (off + j) < 1000000000) (hk : k ≤ n) (hz : ∀ j, k ≤ j → j < n → nth ((L.drop off).take n) j = 0) (ht : k = 0 ∨ nth ((L.drop off).take n) (k - 1) ≠ 0) :
    FM w B (some ⟨g, off, none⟩) k c (vs L off n) n := by
  have hlen : ((L.drop off).take n).length = n := by rw [List.length_take, List.length_drop]; omega
  have hgr : Grp ((L.drop off).take n) := fun d hd => by
    obtain ⟨i, hi, rfl⟩ := List.mem_iff_getElem.1 hd
    rw [hlen] at hi
    rw [← nth_eq, nth_take hi, nth_drop]
    exact hg i hi
  obtain ⟨h1, h2⟩ := trim_ok hgr (n := k) (by omega) (by rw [hlen]; exact hz) ht
  exact ⟨_, (Fr.of_bl hB hBg hoff hnc hc).take hk (by omega) (Nat.le_refl _), h1, h2, hk⟩

set_option maxHeartbeats 1600000 in
/-- difference: a - b, b at most a. -/
theorem difference_any (A : Option Addr) (n c : Nat) (A2 : Option Addr) (n2 c2 ma mb k k2 : Nat) (w : World) (ha : MM w A n c ma k) (hb : MM w A2 n2 c2 mb k2) (hle : mb ≤ ma) (hk : k ≤ 1000000000) :
    Calls Tryd.prog 71 #[.slice A n c, .slice A2 n2 c2] w (RetM w (ma - mb) k) := by
  obtain ⟨la, hsa, hca, hva, hna⟩ := ha
  obtain ⟨lb, hsb, hcb, hvb, hnb⟩ := hb
  have hn21 : n2 ≤ n := by
    apply Classical.byContradiction
    intro hlt
    have := hca.len_lt hcb (by rw [← hsa.len, ← hsb.len]; omega)
    omega
  have hvb' := Lib.hid hvb
  have hva' := Lib.hid hva
  clear hva hvb
  by_cases h0 : n = 0
  · subst h0
    obtain rfl : n2 = 0 := by omega
    have hm : ma - mb = 0 := by
      have := hsa.len
      have hl : la = [] := List.eq_nil_of_length_eq_zero this.symm
      have := hva'.out
      rw [hl] at this
      simp [val] at this
      omega
    rw [hm]
    go_enter Tryd.func71, Tryd.ntmps71
    go_wp2_with fail
    refine (copied_any _ _ _ _ _ hsa (by omega)).mono ?_
    rintro e w1 ⟨A', c', rfl, hf, hb1⟩
    go_wp2_with fail
    refine (subtractFrom_nil _ _ _ _ _ _).mono ?_
    rintro e w2 ⟨rfl, rfl⟩
    go_wp2_with fail
    refine (trimmed_any _ _ _ _ _ hf.sl (by omega)).mono ?_
    rintro e w3 ⟨k', hk', hz', ht', rfl, rfl⟩
    obtain rfl : k' = 0 := by omega
    go_wp2
    go_ret
    exact ⟨A', 0, c', rfl, ⟨la, hf, hca, by have := List.eq_nil_of_length_eq_zero hsa.len.symm; rw [this]; rfl, Nat.zero_le _⟩, hb1⟩
  · go_enter Tryd.func71, Tryd.ntmps71
    go_wp2_with fail
    refine (copied_any _ _ _ _ _ hsa (by omega)).mono ?_
    rintro e w1 ⟨A', c', rfl, hf, hb1⟩
    obtain ⟨g, off, L, hA', hg, hB, hoff, hL⟩ := hf.2.2.2 (by omega)
    subst hA'
    replace hL := Lib.hid hL
    have hLj : ∀ j, j < n → nth L (off + j) < 1000000000 := fun j hj => by
      have := hca.1.get j
      rwa [← hL.out, nth_take hj, nth_drop] at this
    go_wp2_with fail
    refine (subtractFrom_any g off n c' L A2 n2 c2 lb _ hB hoff hf.2.1 hLj (hsb.below hb1 (Nat.le_refl _)) hcb.1 (fun h k o e => by have := hsb.old h k o e; omega) hn21 (by omega)).mono ?_
    rintro e w2 ⟨L', d, rfl, hB2, hi, ho⟩
    replace hi := Lib.hid hi
    have hsl := hB2.sl (off := off) (n := n) (c := c') (by have := hi.out.1; omega) hf.2.1 hf.2.2.1
    go_wp2_with fail
    refine (trimmed_any _ _ _ _ _ hsl (by omega)).mono ?_
    rintro e w3 ⟨k', hk', hz', ht', rfl, rfl⟩
    go_wp2
    go_ret
    obtain ⟨h1, h2, h3, h4, h5⟩ := hi.out
    have hd : vs L' off n = ma - mb := by
      have e1 : vs L off n = ma := by unfold vs; rw [hL.out]; exact hva'.out
      have e2 : vs lb 0 n = mb := by rw [vs_all lb (by rw [← hsb.len]; omega)]; exact hvb'.out
      have e3 := vs_lt (l := L') (off := off) (k := n) h3
      rw [e1, e2] at h5
      rcases Nat.eq_zero_or_pos d with rfl | hd
      · omega
      · obtain rfl : d = 1 := by omega
        omega
    rw [← hd]
    exact ⟨_, _, _, rfl, (FM.trim hB2 hg (by omega) hf.2.1 hf.2.2.1 h3 hk' hz' ht').mono hna, hb1.trans (Only.below ho hg hb1.size)⟩

/-- n groups 0. -/
def zeros (n : Nat) : List Nat := List.replicate n 0
theorem zeros_length (n : Nat) : (zeros n).length = n := by simp [zeros]
theorem nth_zeros (n j : Nat) : nth (zeros n) j = 0 := by
  unfold nth zeros
  rw [List.getElem?_replicate]
  split <;> rfl

/-- make([]uint32, n). -/
theorem run_make_u32 (k1 k2 : IntKind) (u : Int) (n : Nat) (hu : u = (n : Int)) (hn : n ≤ 2000000000) (W : World) :
    (Instr.makeSlice 22 (.int k1 u) (.int k2 u)).run Tryd.prog W = .ok (.slice (some ⟨W.heap.size, 0, none⟩) n n) (W.alloc (.cells (cells (zeros n)).toArray 48)) := by
  obtain ⟨i0, hi, hz0, hz1, hz2⟩ := info_parts infoU
  have := run_make (P := Tryd.prog) W 22 48 i0 (.int .u32 0) Tryd.underlying22 hi hz0 k1 k2 u u (by omega) (Int.le_refl _) (by rw [hz2]; omega) (by omega)
  rw [this, hu]
  simp only [Int.toNat_natCast, hz1, Nat.mul_one]
  have e : (Value.int .u32 0).cells = #[.int .u32 0] := rfl
  rw [e, madeCells_u32]
  unfold zeros
  rw [cells_replicate]

set_option maxHeartbeats 1600000 in
/-- sum, the first argument the longer one. -/
theorem sum_any1 (A : Option Addr) (n c : Nat) (A2 : Option Addr) (n2 c2 ma mb k k2 : Nat) (w : World) (ha : MM w A n c ma k) (hb : MM w A2 n2 c2 mb k2) (hle : n2 ≤ n) (hk : k ≤ 100000000) :
    Calls Tryd.prog 70 #[.slice A n c, .slice A2 n2 c2] w (RetM w (ma + mb) (k + 1)) := by
  obtain ⟨la, hsa, hca, hva, hna⟩ := ha
  obtain ⟨lb, hsb, hcb, hvb, hnb⟩ := hb
  have hvb' := Lib.hid hvb
  have hva' := Lib.hid hva
  clear hva hvb
  have hla := Lib.hid hsa.len
  have hlb := Lib.hid hsb.len
  have hmk := run_make_u32 .i64 .i64 ((n : Int) + 1) (n + 1) (by omega) (by omega)
  have hsa1 := hsa.alloc (.cells (cells (zeros (n + 1))).toArray 48)
  have hsb1 := hsb.alloc (.cells (cells (zeros (n + 1))).toArray 48)
  have hb1 := (Below.refl w.heap.size w).alloc (Nat.le_refl _) (.cells (cells (zeros (n + 1))).toArray 48)
  have hB1 := Bl.new w (zeros (n + 1))
  have hlz' := Lib.hid (zeros_length (n + 1))
  go_enter Tryd.func70, Tryd.ntmps70
  go_wp2_with (with_reducible refine wpList_copy_bl rfl (.tmp 17) (.tmp 18) rfl Tryd.underlying22 (by kernel_rfl) _ _ _ _ _ _ rfl rfl w.heap.size 0 (zeros (n + 1)) la hB1 hsa1 (by omega) (fun _ => rfl) (by rw [hlz'.out]; omega) ?_; intro w2 hB2 ho2)
  obtain ⟨L, hL0⟩ : ∃ L, lay (zeros (n + 1)) 0 la = L := ⟨_, rfl⟩
  rw [hL0] at hB2
  replace hL0 := Lib.hid hL0
  have hLn : ∀ j, nth L j = nth la j := fun j => by
    rw [← hL0.out, nth_lay (by rw [hlz'.out, ← hla.out]; omega)]
    split
    · simp
    · rw [nth_zeros, nth_of_le (by omega)]
  have hLl : L.length = n + 1 := by rw [← hL0.out, lay_length (by rw [hlz'.out, ← hla.out]; omega), hlz'.out]
  replace hLn := Lib.hid hLn
  replace hLl := Lib.hid hLl
  have hsb2 := hsb1.only ho2 (fun h k o e => by have := hsb.old h k o e; omega)
  refine (addTo_any w.heap.size 0 (n + 1) (n + 1) L A2 n2 c2 lb _ hB2 (by rw [hLl.out]; omega) (Nat.le_refl _) (fun j _ => by rw [hLn.out]; exact hca.1.get _) hsb2 hcb.1 (fun h k o e => by have := hsb.old h k o e; omega) (by omega) (by omega)).mono ?_
  rintro e w3 ⟨L', d, rfl, hB3, hi, ho3⟩
  replace hi := Lib.hid hi
  have hsl := hB3.sl (off := 0) (n := n + 1) (c := n + 1) (by have := hi.out.1; have := hLl.out; omega) (Nat.le_refl _) (by omega)
  go_wp2_with fail
  refine (trimmed_any _ _ _ _ _ hsl (by omega)).mono ?_
  rintro e w4 ⟨k', hk', hz', ht', rfl, rfl⟩
  go_wp2
  go_ret
  obtain ⟨h1, h2, h3, h4, h5⟩ := hi.out
  have hd : vs L' 0 (n + 1) = ma + mb := by
    have e1 : vs L 0 (n + 1) = ma := by
      rw [vs_congr (b := la) (p := 0) (fun j _ => hLn.out _), vs_all la (by rw [← hla.out]; omega)]; exact hva'.out
    have e2 : vs lb 0 (n + 1) = mb := by rw [vs_all lb (by rw [← hlb.out]; omega)]; exact hvb'.out
    have e3 := val_lt hca.1
    have e4 := val_lt hcb.1
    have e5 := pw_le (show lb.length ≤ n by rw [← hlb.out]; omega)
    rw [← hla.out, hva'.out] at e3
    rw [hvb'.out] at e4
    rw [e1, e2, pw_succ] at h5
    rcases Nat.eq_zero_or_pos d with rfl | hd
    · omega
    · obtain rfl : d = 1 := by omega
      omega
  rw [← hd]
  have hob := Only.below ho3 (Nat.le_refl _) (by have := ho2.size; simp at this; omega)
  exact ⟨_, _, _, rfl, (FM.trim hB3 (Nat.le_refl _) (by have := hLl.out; omega) (Nat.le_refl _) (by omega) h3 hk' hz' ht').mono (by omega), (hb1.trans (Only.below ho2 (Nat.le_refl _) (by simp))).trans hob⟩

set_option maxHeartbeats 1600000 in
/-- sum, the second argument the longer one. -/
theorem sum_any2 (A : Option Addr) (n c : Nat) (A2 : Option Addr) (n2 c2 ma mb k k2 : Nat) (w : World) (ha : MM w A n c ma k) (hb : MM w A2 n2 c2 mb k2) (hle : n2 < n) (hk : k ≤ 100000000) :
    Calls Tryd.prog 70 #[.slice A2 n2 c2, .slice A n c] w (RetM w (ma + mb) (k + 1)) := by
  obtain ⟨la, hsa, hca, hva, hna⟩ := ha
  obtain ⟨lb, hsb, hcb, hvb, hnb⟩ := hb
  have hvb' := Lib.hid hvb
  have hva' := Lib.hid hva
  clear hva hvb
  have hla := Lib.hid hsa.len
  have hlb := Lib.hid hsb.len
  have hmk := run_make_u32 .i64 .i64 ((n : Int) + 1) (n + 1) (by omega) (by omega)
  have hsa1 := hsa.alloc (.cells (cells (zeros (n + 1))).toArray 48)
  have hsb1 := hsb.alloc (.cells (cells (zeros (n + 1))).toArray 48)
  have hb1 := (Below.refl w.heap.size w).alloc (Nat.le_refl _) (.cells (cells (zeros (n + 1))).toArray 48)
  have hB1 := Bl.new w (zeros (n + 1))
  have hlz' := Lib.hid (zeros_length (n + 1))
  go_enter Tryd.func70, Tryd.ntmps70
  go_wp2_with (with_reducible refine wpList_copy_bl rfl (.tmp 17) (.tmp 18) rfl Tryd.underlying22 (by kernel_rfl) _ _ _ _ _ _ rfl rfl w.heap.size 0 (zeros (n + 1)) la hB1 hsa1 (by omega) (fun _ => rfl) (by rw [hlz'.out]; omega) ?_; intro w2 hB2 ho2)
  obtain ⟨L, hL0⟩ : ∃ L, lay (zeros (n + 1)) 0 la = L := ⟨_, rfl⟩
  rw [hL0] at hB2
  replace hL0 := Lib.hid hL0
  have hLn : ∀ j, nth L j = nth la j := fun j => by
    rw [← hL0.out, nth_lay (by rw [hlz'.out, ← hla.out]; omega)]
    split
    · simp
    · rw [nth_zeros, nth_of_le (by omega)]
  have hLl : L.length = n + 1 := by rw [← hL0.out, lay_length (by rw [hlz'.out, ← hla.out]; omega), hlz'.out]
  replace hLn := Lib.hid hLn
  replace hLl := Lib.hid hLl
  have hsb2 := hsb1.only ho2 (fun h k o e => by have := hsb.old h k o e; omega)
  refine (addTo_any w.heap.size 0 (n + 1) (n + 1) L A2 n2 c2 lb _ hB2 (by rw [hLl.out]; omega) (Nat.le_refl _) (fun j _ => by rw [hLn.out]; exact hca.1.get _) hsb2 hcb.1 (fun h k o e => by have := hsb.old h k o e; omega) (by omega) (by omega)).mono ?_
  rintro e w3 ⟨L', d, rfl, hB3, hi, ho3⟩
  replace hi := Lib.hid hi
  have hsl := hB3.sl (off := 0) (n := n + 1) (c := n + 1) (by have := hi.out.1; have := hLl.out; omega) (Nat.le_refl _) (by omega)
  go_wp2_with fail
  refine (trimmed_any _ _ _ _ _ hsl (by omega)).mono ?_
  rintro e w4 ⟨k', hk', hz', ht', rfl, rfl⟩
  go_wp2
  go_ret
  obtain ⟨h1, h2, h3, h4, h5⟩ := hi.out
  have hd : vs L' 0 (n + 1) = ma + mb := by
    have e1 : vs L 0 (n + 1) = ma := by
      rw [vs_congr (b := la) (p := 0) (fun j _ => hLn.out _), vs_all la (by rw [← hla.out]; omega)]; exact hva'.out
    have e2 : vs lb 0 (n + 1) = mb := by rw [vs_all lb (by rw [← hlb.out]; omega)]; exact hvb'.out
    have e3 := val_lt hca.1
    have e4 := val_lt hcb.1
    have e5 := pw_le (show lb.length ≤ n by rw [← hlb.out]; omega)
    rw [← hla.out, hva'.out] at e3
    rw [hvb'.out] at e4
    rw [e1, e2, pw_succ] at h5
    rcases Nat.eq_zero_or_pos d with rfl | hd
    · omega
    · obtain rfl : d = 1 := by omega
      omega
  rw [← hd]
  have hob := Only.below ho3 (Nat.le_refl _) (by have := ho2.size; simp at this; omega)
  exact ⟨_, _, _, rfl, (FM.trim hB3 (Nat.le_refl _) (by have := hLl.out; omega) (Nat.le_refl _) (by omega) h3 hk' hz' ht').mono (by omega), (hb1.trans (Only.below ho2 (Nat.le_refl _) (by simp))).trans hob⟩

/-- sum: a + b. -/
theorem sum_any (A : Option Addr) (n c : Nat) (A2 : Option Addr) (n2 c2 ma mb k : Nat) (w : World) (ha : MM w A n c ma k) (hb : MM w A2 n2 c2 mb k) (hk : k ≤ 100000000) :
    Calls Tryd.prog 70 #[.slice A n c, .slice A2 n2 c2] w (RetM w (ma + mb) (k + 1)) := by
  by_cases h : n2 ≤ n
  · exact sum_any1 A n c A2 n2 c2 ma mb k k w ha hb h hk
  · rw [Nat.add_comm ma mb]
    exact sum_any2 A2 n2 c2 A n c mb ma k k w hb ha (by omega) hk

end Go.Proofs.YtabibkhcdamlhaaDoor

/-
  Rows of a written multiplication.
-/
namespace Go.Proofs.YtabibkhcdamlhaaDoor
open Num

theorem val_set (l : List Nat) (i x : Nat) (h : i < l.length) : val (l.set i x) + pw i * nth l i = val l + pw i * x := by
  have e1 : (l.set i x).take i = l.take i := by rw [List.take_set_of_le (Nat.le_refl _)]
  have e2 : (l.set i x).drop (i + 1) = l.drop (i + 1) := by rw [List.drop_set_of_lt (by omega)]
  rw [val_take_drop (l.set i x) i (by rw [List.length_set]; omega), val_drop_succ (l.set i x) i (by rw [List.length_set]; exact h), e1, e2, nth_set h, if_pos rfl,
    val_take_drop l i (by omega), val_drop_succ l i h]
  simp only [Nat.mul_add]
  omega

theorem grp_of_get {l : List Nat} (h : ∀ m, nth l m < 1000000000) : Grp l := fun x hx => by
  obtain ⟨i, hi, rfl⟩ := List.getElem_of_mem hx
  have := h i
  rwa [nth_eq hi] at this

/-- The rows before i are over. -/
def MO (la lb R : List Nat) (i : Nat) : Prop := (∀ m, nth R m < 1000000000) ∧ (∀ m, i + lb.length ≤ m → nth R m = 0) ∧ val R = vs la 0 i * val lb

/-- Of row i the columns before j are over. -/
def MR (la lb R R' : List Nat) (i j C : Nat) : Prop := R'.length = R.length ∧ (∀ m, nth R' m < 1000000000) ∧ (∀ m, i + j ≤ m → nth R' m = nth R m) ∧ C ≤ 999999999 ∧
  val R' + C * pw (i + j) = val R + pw i * (nth la i * vs lb 0 j)

theorem MO.zero (la lb : List Nat) (N : Nat) : MO la lb (zeros N) 0 := by
  refine ⟨fun m => ?_, fun m _ => ?_, ?_⟩
  · rw [nth_zeros]; omega
  · rw [nth_zeros]
  · rw [vs_zero, Nat.zero_mul]; exact val_zeros (fun j _ => nth_zeros _ _)

theorem MR.zero {la lb R : List Nat} {i : Nat} (h : ∀ m, nth R m < 1000000000) : MR la lb R R i 0 0 := by
  refine ⟨rfl, h, fun _ _ => rfl, by omega, ?_⟩
  rw [vs_zero]; simp

theorem MR.step {la lb R R' : List Nat} {i j C s : Nat} (h : MR la lb R R' i j C) (hl : i + j < R.length) (hs : s = nth R' (i + j) + nth la i * nth lb j + C) (ha : nth la i < 1000000000) (hb : nth lb j < 1000000000) :
    MR la lb R (R'.set (i + j) (s % 1000000000)) i (j + 1) (s / 1000000000) := by
  obtain ⟨h1, h2, h3, h4, h5⟩ := h
  have hr := h2 (i + j)
  have hp : nth la i * nth lb j ≤ 999999999 * 999999999 := Nat.mul_le_mul (by omega) (by omega)
  refine ⟨by rw [List.length_set, h1], fun m => ?_, fun m hm => ?_, by omega, ?_⟩
  · rw [nth_set (by omega)]
    split
    · omega
    · exact h2 m
  · rw [nth_set (by omega), if_neg (by omega)]
    exact h3 m (by omega)
  · have e1 := val_set R' (i + j) (s % 1000000000) (by omega)
    have e2 : s % 1000000000 + s / 1000000000 * 1000000000 = nth R' (i + j) + nth la i * nth lb j + C := by omega
    have e3 := congrArg (pw (i + j) * ·) e2
    simp only [Nat.mul_add] at e3
    have e4 : pw (i + j) = pw i * pw j := pw_add i j
    rw [vs_succ, Nat.zero_add, ← Nat.add_assoc i j 1, pw_succ]
    have e5 : pw i * (nth la i * (vs lb 0 j + pw j * nth lb j)) = pw i * (nth la i * vs lb 0 j) + pw (i + j) * (nth la i * nth lb j) := by
      rw [e4]; grind
    rw [e5]
    grind

theorem MO.step {la lb R R' : List Nat} {i C : Nat} (h : MO la lb R i) (hr : MR la lb R R' i lb.length C) (hl : i + lb.length < R.length) : MO la lb (R'.set (i + lb.length) C) (i + 1) := by
  obtain ⟨h1, h2, h3⟩ := h
  obtain ⟨r1, r2, r3, r4, r5⟩ := hr
  refine ⟨fun m => ?_, fun m hm => ?_, ?_⟩
  · rw [nth_set (by omega)]
    split
    · omega
    · exact r2 m
  · rw [nth_set (by omega), if_neg (by omega), r3 m (by omega)]
    exact h2 m (by omega)
  · have e1 := val_set R' (i + lb.length) C (by omega)
    rw [r3 _ (Nat.le_refl _), h2 _ (Nat.le_refl _), Nat.mul_zero, Nat.add_zero] at e1
    rw [vs_succ, Nat.zero_add, e1, Nat.mul_comm (pw _) C, r5, h3, vs_all lb (Nat.le_refl _)]
    grind

end Go.Proofs.YtabibkhcdamlhaaDoor
