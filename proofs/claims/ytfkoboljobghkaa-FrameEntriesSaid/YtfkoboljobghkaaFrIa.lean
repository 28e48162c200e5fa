/-
  slices.Insert of one entry at []api.Entry.
-/
import Derived.Test.YtfkoboljobghkaaFrDp
import Derived.Shelf.Spec.SlicesInsert
import Derived.Lib.AppendZerosOnto
set_option linter.unusedSimpArgs false
set_option linter.unusedVariables false
namespace Go.Proofs.Ytfkoboljobghkaa
open Go.RowKit Go.Shelf


theorem infoE_size : (Try.prog.info? 68).map (·.size) = some 2 := by kernel_rfl

theorem run_copy_ents (w : World) (ty : TypeId) (g o dLen dCap : Nat) (a : Addr) (sLen sCap : Nat) (cur : Array Value) (cs : List Value) (m : Nat)
    (hg : w.heap[g]? = some (.cells cur 68 (0, 0))) (hm : m = Nat.min sLen dLen) (hn : cs.length = m * 2)
    (hsrc : ∀ j v, cs[j]? = some v → w.cell? (a.add j) = some v) (hfit : o + cs.length ≤ cur.size) (h1 : ∀ v ∈ cs, v.oneCell' = true) :
    (Builtin.copy_ #[22, 22] ty #[.slice (some ⟨g, o, none⟩) dLen dCap, .slice (some a) sLen sCap]).run Try.prog w =
      .ok (goInt m) (w.setRow g (cur.toList.take o ++ cs ++ cur.toList.drop (o + cs.length)).toArray) := by
  obtain ⟨i0, hi, hz0, hz1, hz2⟩ := info_parts infoE
  have hl := run_loadCells_list (P := Try.prog) w a cs hsrc
  have hst := run_storeCells_at Try.prog g o 68 cs 0 cur w hg (by simpa using hfit) h1
  simp only [Nat.add_zero] at hst
  rw [hn] at hl
  generalize (w.setRow g (cur.toList.take o ++ cs ++ cur.toList.drop (o + cs.length)).toArray) = W2 at hst ⊢
  simp [Builtin.copy_, run_underlying Try.underlying22, Builtin.lenOf, Builtin.firstCells, sizeOf, typeInfo, hi, hz1, ← hm, hl, hst]

/-- One entry among others. -/
def put (E : List Ent) (i : Nat) (e : Ent) : List Ent := E.take i ++ e :: E.drop i

set_option maxHeartbeats 4000000 in
set_option maxRecDepth 1000000 in
/-- At the end. -/
theorem InsertE_end (B n cap : Nat) (A' : Option Addr) (E : List Ent) (k v : ByteArray) (vb : Nat) (w : World) (ho : w.ownsRow B 68 2 (.slice A' n cap) n (ecells E)) (hn : n = E.length) (hn2 : n ≤ 1000000) (hB : B ≤ w.heap.size)
    (hv : w.heap[vb]? = some (.cells #[.string k, .string v] 68 (0, 0))) :
    Calls Try.prog 46 #[.slice A' n cap, .int .i64 (n : Int), .slice (some ⟨vb, 0, none⟩) 1 1] w fun e w' => ∃ q' c', e = .returned (.slice (some ⟨q', 0, none⟩) (n + 1) c') ∧ w'.ownsRow B 68 2 (.slice (some ⟨q', 0, none⟩) (n + 1) c') (n + 1) (ecells (put E n (k, v))) ∧ w.grownBy w' (Value.slice A' n cap).ownBlock := by
  obtain ⟨i0, hi, hz0, hz1, hz2⟩ := info_parts infoE
  have hsrc : Hid (∀ j u, ([.string k, .string v] : List Value)[j]? = some u → w.cell? ((⟨vb, 0, none⟩ : Addr).add j) = some u) := fun j u hj => by
    rw [Addr.add_lit, Nat.zero_add, cell_of_row _ _ j _ _ _ hv, List.getElem?_toArray]
    exact hj
  have hput : Hid (ecells (put E n (k, v)) = ecells E ++ [.string k, .string v]) := Lib.hid (by
    unfold put
    rw [List.take_of_length_le (by omega), List.drop_of_length_le (by omega), ecells_append]
    rfl)
  have hone : Hid (∀ u ∈ ([.string k, .string v] : List Value), u.oneCell' = true) := fun u hu => by
    simp only [List.mem_cons, List.not_mem_nil, or_false] at hu
    rcases hu with rfl | rfl <;> rfl
  have hcase : (A' = none ∧ n = 0 ∧ cap = 0) ∨ ∃ q, A' = some ⟨q, 0, none⟩ ∧ n ≤ cap ∧ cap ≤ 9223372036854775807 := by
    rcases ho.2 with ⟨h1, h2⟩ | ⟨g, c', cur, h1, h2, h3, h4, h5, h6⟩
    · injection h1 with e1 e2 e3; exact .inl ⟨e1, h2, e3⟩
    · injection h1 with e1 e2 e3; subst e3; exact .inr ⟨g, e1, h4, by simpa [maxLen] using h5⟩
  have fin : ∀ v' w', w'.ownsRow B 68 2 v' (n + 1) (ecells E ++ [.string k, .string v]) → w.grownBy w' (Value.slice A' n cap).ownBlock → ∃ q' c', v' = .slice (some ⟨q', 0, none⟩) (n + 1) c' ∧ w'.ownsRow B 68 2 (.slice (some ⟨q', 0, none⟩) (n + 1) c') (n + 1) (ecells (put E n (k, v))) ∧ w.grownBy w' (Value.slice A' n cap).ownBlock := by
    intro v' w' h1 h2
    rcases h1.2 with ⟨h3, h4⟩ | ⟨g, c', cur, rfl, h3⟩
    · omega
    · exact ⟨g, c', rfl, by rw [hput.out]; exact h1, h2⟩
  replace fin := Lib.hid fin
  replace hn := Lib.hid hn
  rcases hcase with ⟨rfl, rfl, rfl⟩ | ⟨q, rfl, hnc, hcm⟩
  · go_enter Try.func46, Try.ntmps46
    go_wp2_with (at_builtin; refine wpList_append_own _ rfl _ _ 22 rfl B 68 i0 (.agg #[.string ⟨#[]⟩, .string ⟨#[]⟩]) 2 32 Try.underlying22 hi hz0 hz1 hz2 rfl (by decide) _ _ _ rfl ho ⟨vb, 0, none⟩ 1 1 [.string k, .string v] rfl rfl hsrc.out hone.out (by decide) (by decide) hB ?_)
    intro v' w1 hown hgrow hnil
    obtain ⟨q', c', rfl, h1, h2⟩ := fin.out v' w1 (by simpa using hown) hgrow
    go_wp2
    go_ret
    exact ⟨q', c', rfl, h1, h2⟩
  · go_enter Try.func46, Try.ntmps46
    go_wp2_with (at_builtin; refine wpList_append_own _ rfl _ _ 22 rfl B 68 i0 (.agg #[.string ⟨#[]⟩, .string ⟨#[]⟩]) 2 32 Try.underlying22 hi hz0 hz1 hz2 rfl (by decide) _ _ _ rfl ho ⟨vb, 0, none⟩ 1 1 [.string k, .string v] rfl rfl hsrc.out hone.out (by unfold maxLen; omega) (by omega) hB ?_)
    all_goals
      intro v' w1 hown hgrow hnil
      obtain ⟨q', c', rfl, h1, h2⟩ := fin.out v' w1 (by simpa using hown) hgrow
      go_wp2
      go_ret
      exact ⟨q', c', rfl, h1, h2⟩


/-- What a row of one's own holds. -/
theorem own_parts {w : World} {B q n cap : Nat} {E : List Ent} (ho : w.ownsRow B 68 2 (.slice (some ⟨q, 0, none⟩) n cap) n (ecells E)) : ∃ cur : Array Value, B ≤ q ∧ w.heap[q]? = some (.cells cur 68 (0, 0)) ∧ n ≤ cap ∧ cap ≤ maxLen ∧ cur.size = cap * 2 ∧ cur.toList.take (n * 2) = ecells E := by
  rcases ho.2 with ⟨h1, h2⟩ | ⟨g', cap', cur, h1, h2, h3, h4, h5, h6, h7⟩
  · cases h1
  · injection h1 with e1 e2 e3
    injection e1 with e1
    injection e1 with e1
    subst e1 e3
    exact ⟨cur, h2, h3, h4, h5, h6, h7⟩

theorem set_size (V : World) (g : Nat) (Y : Array Value) : (V.setRow g Y).heap.size = V.heap.size := by simp [World.setRow]

/-- The lists behind the two copies. -/
theorem put_lists {E : List Ent} {i n : Nat} {k v : ByteArray} {L : List Value} (hn : n = E.length) (hi : i ≤ n) (ht : L.take (i * 2) = ecells (E.take i)) (hL : (n + 1) * 2 ≤ L.length) :
    let R := L.take ((i + 1) * 2) ++ ecells (E.drop i) ++ L.drop ((i + 1) * 2 + (ecells (E.drop i)).length)
    R.length = L.length ∧ (R.take (i * 2) ++ [Value.string k, .string v] ++ R.drop (i * 2 + ([Value.string k, .string v] : List Value).length)).length = L.length ∧ (R.take (i * 2) ++ [Value.string k, .string v] ++ R.drop (i * 2 + ([Value.string k, .string v] : List Value).length)).take ((n + 1) * 2) = ecells (put E i (k, v)) := by
  intro R
  have hd : (ecells (E.drop i)).length = (n - i) * 2 := by rw [ecells_length, List.length_drop, hn]
  have hR : R.length = L.length := by
    show (L.take ((i + 1) * 2) ++ ecells (E.drop i) ++ L.drop ((i + 1) * 2 + (ecells (E.drop i)).length)).length = _
    rw [List.length_append, List.length_append, hd, List.length_take, List.length_drop]
    omega
  have hRt : R.take (i * 2) = ecells (E.take i) := by
    show (L.take ((i + 1) * 2) ++ ecells (E.drop i) ++ _).take (i * 2) = _
    rw [List.append_assoc, List.take_append_of_le_length (by rw [List.length_take]; omega), List.take_take, Nat.min_eq_left (by omega), ht]
  have hRd : (R.drop ((i + 1) * 2)).take ((n - i) * 2) = ecells (E.drop i) := by
    show ((L.take ((i + 1) * 2) ++ ecells (E.drop i) ++ _).drop ((i + 1) * 2)).take _ = _
    rw [List.append_assoc, List.drop_left' (by rw [List.length_take]; omega), List.take_left' hd]
  refine ⟨hR, ?_, ?_⟩
  · rw [List.length_append, List.length_append, List.length_take, List.length_drop, hR]
    simp only [List.length_cons, List.length_nil]
    omega
  · have hl1 : (R.take (i * 2)).length = i * 2 := by rw [List.length_take, hR]; omega
    rw [List.append_assoc, List.take_append, List.take_of_length_le (by rw [hl1]; omega), hl1, hRt, show (n + 1) * 2 - i * 2 = (n - i) * 2 + 1 + 1 from by omega]
    show ecells (E.take i) ++ List.take ((n - i) * 2 + 1 + 1) (Value.string k :: Value.string v :: R.drop (i * 2 + 2)) = _
    rw [List.take_succ_cons, List.take_succ_cons, show i * 2 + 2 = (i + 1) * 2 from by omega, hRd]
    unfold put
    rw [ecells_append]
    rfl

set_option maxHeartbeats 4000000 in
set_option maxRecDepth 1000000 in
/-- Within, where there is room. -/
theorem InsertE_shift (B q n cap i : Nat) (E : List Ent) (k v : ByteArray) (vb : Nat) (w : World) (ho : w.ownsRow B 68 2 (.slice (some ⟨q, 0, none⟩) n cap) n (ecells E)) (hn : n = E.length) (hn2 : n ≤ 1000000) (hi : i < n) (hroom : n + 1 ≤ cap) (hne : q ≠ vb)
    (hv : w.heap[vb]? = some (.cells #[.string k, .string v] 68 (0, 0))) :
    Calls Try.prog 46 #[.slice (some ⟨q, 0, none⟩) n cap, .int .i64 (i : Int), .slice (some ⟨vb, 0, none⟩) 1 1] w fun e w' => ∃ q' c', e = .returned (.slice (some ⟨q', 0, none⟩) (n + 1) c') ∧ w'.ownsRow B 68 2 (.slice (some ⟨q', 0, none⟩) (n + 1) c') (n + 1) (ecells (put E i (k, v))) ∧ w.grownBy w' (some q) := by
  obtain ⟨cur, hBq, hq, hnc, hcm, hcs, htk⟩ := own_parts ho
  have hcs2 : cur.toList.length = cap * 2 := by simpa using hcs
  have htki : cur.toList.take (i * 2) = ecells (E.take i) := by
    rw [← ecells_take, ← htk, List.take_take, Nat.min_eq_left (by omega)]
  obtain ⟨p1, p2, p3⟩ := put_lists (k := k) (v := v) hn (Nat.le_of_lt hi) htki (by rw [hcs2]; omega)
  obtain ⟨R, hR⟩ : ∃ R, cur.toList.take ((i + 1) * 2) ++ ecells (E.drop i) ++ cur.toList.drop ((i + 1) * 2 + (ecells (E.drop i)).length) = R := ⟨_, rfl⟩
  rw [hR] at p1 p2 p3
  obtain ⟨F, hF⟩ : ∃ F, R.take (i * 2) ++ [Value.string k, .string v] ++ R.drop (i * 2 + ([Value.string k, .string v] : List Value).length) = F := ⟨_, rfl⟩
  rw [hF] at p2 p3
  have hed : (ecells (E.drop i)).length = (n - i) * 2 := by rw [ecells_length, List.length_drop, hn]
  -- the worlds
  obtain ⟨W1, hW1⟩ : ∃ W1, w.drew.setRow q R.toArray = W1 := ⟨_, rfl⟩
  obtain ⟨W2, hW2⟩ : ∃ W2, W1.setRow q F.toArray = W2 := ⟨_, rfl⟩
  have g1 : W1.heap[q]? = some (.cells R.toArray 68 (0, 0)) := by rw [← hW1]; exact setRow_heap w.drew q _ _ _ _ hq
  have g2 : W2.heap[q]? = some (.cells F.toArray 68 (0, 0)) := by rw [← hW2]; exact setRow_heap W1 q _ _ _ _ g1
  have hv1 : W1.heap[vb]? = some (.cells #[.string k, .string v] 68 (0, 0)) := by rw [← hW1, setRow_other _ _ _ _ (Ne.symm hne)]; exact hv
  have hcp1 : Hid (∀ ty dc sc, (Builtin.copy_ #[22, 22] ty #[.slice (some ⟨q, (i + 1) * 2, none⟩) (n - i) dc, .slice (some ⟨q, i * 2, none⟩) (n + 1 - i) sc]).run Try.prog w.drew = .ok (goInt (n - i : Nat)) W1) := fun ty dc sc => by
    have := run_copy_ents w.drew ty q ((i + 1) * 2) (n - i) dc ⟨q, i * 2, none⟩ (n + 1 - i) sc cur (ecells (E.drop i)) (n - i) hq (by simp only [Nat.min_def]; split <;> omega) hed (fun j u hj => by
      have hjl := (List.getElem?_eq_some_iff.1 hj).1
      rw [hed] at hjl
      rw [Addr.add_lit]
      show w.cell? _ = _
      rw [cell_of_row w q _ _ _ _ hq, ← hj, ← ecells_drop, ← htk, List.getElem?_drop, List.getElem?_take, if_pos (by omega), Array.getElem?_toList]) (by rw [hed, hcs]; omega) (ecells_one _)
    rw [hR, hW1] at this
    exact this
  have hcp2 : Hid (∀ ty dc, (Builtin.copy_ #[22, 22] ty #[.slice (some ⟨q, i * 2, none⟩) (n + 1 - i) dc, .slice (some ⟨vb, 0, none⟩) 1 1]).run Try.prog W1 = .ok (goInt (1 : Nat)) W2) := fun ty dc => by
    have := run_copy_ents W1 ty q (i * 2) (n + 1 - i) dc ⟨vb, 0, none⟩ 1 1 R.toArray [.string k, .string v] 1 g1 (by simp only [Nat.min_def]; split <;> omega) rfl (fun j u hj => by
      rw [Addr.add_lit, Nat.zero_add, cell_of_row _ _ j _ _ _ hv1, List.getElem?_toArray]
      exact hj) (by simp [p1, hcs]; omega) (fun u hu => by
        simp only [List.mem_cons, List.not_mem_nil, or_false] at hu
        rcases hu with rfl | rfl <;> rfl)
    rw [List.toList_toArray, hF, hW2] at this
    exact this
  have hov : ∀ lb cb, (callFunc 71 #[.slice (some ⟨vb, 0, none⟩) 1 1, .slice (some ⟨q, (i + 1) * 2, none⟩) lb cb]).run Try.prog w = .ok (.value (.bool false)) w := fun lb cb => by
    rw [run_callFunc_extern Try.func71 (by kernel_rfl) (by kernel_rfl) (by kernel_rfl) (e := Extern.SlicesOverlaps.overlaps #[22, 22] #[4]) (by kernel_rfl),
      Lib.run_overlaps_apart w 22 4 68 Try.underlying22 2 Try.sizeOf68 ⟨vb, 0, none⟩ ⟨q, (i + 1) * 2, none⟩ 1 1 lb cb (Ne.symm hne) 68 68 2 (cap * 2) (by simp [World.shape?, hv]) (by simp [World.shape?, hq, hcs]) (by omega) (frozen_of_row w vb _ _ _ hv) (frozen_of_row w vb _ _ _ hv)]
    rfl
  have hfin : Hid (W2.ownsRow B 68 2 (.slice (some ⟨q, 0, none⟩) (n + 1) cap) (n + 1) (ecells (put E i (k, v)))) := by
    refine ⟨?_, .inr ⟨q, cap, _, rfl, hBq, g2, hroom, hcm, ?_, ?_⟩⟩
    · rw [ecells_length]; unfold put; rw [List.length_append, List.length_cons, List.length_take, List.length_drop]; omega
    · rw [List.size_toArray, p2, hcs2]
    · rw [List.toList_toArray, p3]
  have hgr : Hid (w.grownBy W2 (some q)) := by
    refine ⟨by rw [← hW2, ← hW1]; rfl, by rw [← hW2, ← hW1]; rfl, by rw [← hW2, ← hW1]; rfl, by rw [← hW2, set_size, ← hW1, set_size]; exact Nat.le_refl _, fun k hk hne => ?_⟩
    have hkg : k ≠ q := fun e => hne (by rw [e])
    rw [← hW2, setRow_other _ _ _ _ hkg, ← hW1, setRow_other _ _ _ _ hkg]
    rfl
  have hcm2 : cap ≤ 9223372036854775807 := hcm
  have hz2 : ((i : Int) == (n : Int)) = false := by rw [beq_eq_false_iff_ne]; omega
  have hb2 : ¬ (cap = i + 1) := by omega
  have hb4 : ¬ (cap = i) := by omega
  have hw1 : IntKind.i64.wrap ((i : Int) + 1) = (i : Int) + 1 := by rw [IntKind.wrap_i64]; omega
  have hb1 : (0 : Int) ≤ (i : Int) + 1 := by omega
  have htn : ((i : Int) + 1).toNat = i + 1 := by omega
  have hb3 : (i : Int) ≤ (n : Int) := by omega
  have hb6 : (i : Int) ≤ (n : Int) + 1 := by omega
  have hb5 : (i : Int) + 1 ≤ (n : Int) + 1 := by omega
  have hin : i ≤ n := by omega
  have hin1 : i ≤ n + 1 := by omega
  have hin2 : i + 1 ≤ n + 1 := by omega
  have hcq := hcp2.out 3 (cap - i)
  replace hn := Lib.hid hn
  clear hq hcs htk hcs2 htki p1 p2 p3 hR hF hed hW1 hW2 g1 g2 hv1 hv ho
  go_enter Try.func46, Try.ntmps46
  go_wp2_with (simp only [hov])
  go_region_law (refine step_copy_runI rfl (.tmp 73) (.tmp 76) 22 22 rfl (.slice (some ⟨q, (i + 1) * 2, none⟩) (n - i) (cap - (i + 1))) (.slice (some ⟨q, i * 2, none⟩) (n + 1 - i) (cap - i)) (by simp [Act.eval, Act.put]) (by simp [Act.eval, Act.put]) (hcp1.out _ _ _) ?_)
  go_wp2
  go_ret
  exact ⟨q, cap, rfl, hfin.out, hgr.out⟩


/-- The lists behind the two copies, the other way round. -/
theorem put_lists2 {E : List Ent} {i n : Nat} {k v : ByteArray} {L : List Value} (hn : n = E.length) (hi : i ≤ n) (ht : L.take (i * 2) = ecells (E.take i)) (hL : (n + 1) * 2 ≤ L.length) :
    let R := L.take (i * 2) ++ [Value.string k, .string v] ++ L.drop (i * 2 + ([Value.string k, .string v] : List Value).length)
    R.length = L.length ∧ (R.take ((i + 1) * 2) ++ ecells (E.drop i) ++ R.drop ((i + 1) * 2 + (ecells (E.drop i)).length)).length = L.length ∧ (R.take ((i + 1) * 2) ++ ecells (E.drop i) ++ R.drop ((i + 1) * 2 + (ecells (E.drop i)).length)).take ((n + 1) * 2) = ecells (put E i (k, v)) := by
  intro R
  have hd : (ecells (E.drop i)).length = (n - i) * 2 := by rw [ecells_length, List.length_drop, hn]
  have hR : R.length = L.length := by
    show (L.take (i * 2) ++ [Value.string k, .string v] ++ L.drop (i * 2 + ([Value.string k, .string v] : List Value).length)).length = _
    rw [List.length_append, List.length_append, List.length_take, List.length_drop]
    simp only [List.length_cons, List.length_nil]
    omega
  have hRt : R.take ((i + 1) * 2) = ecells (E.take i) ++ [Value.string k, .string v] := by
    show (L.take (i * 2) ++ [Value.string k, .string v] ++ _).take ((i + 1) * 2) = _
    rw [List.take_left' (by rw [List.length_append, List.length_take]; simp only [List.length_cons, List.length_nil]; omega), ht]
  have hl1 : (R.take ((i + 1) * 2)).length = (i + 1) * 2 := by rw [List.length_take, hR]; omega
  refine ⟨hR, ?_, ?_⟩
  · rw [List.length_append, List.length_append, hl1, hd, List.length_drop, hR]
    omega
  · rw [List.take_left' (by rw [List.length_append, hl1, hd]; omega), hRt, List.append_assoc]
    unfold put
    rw [ecells_append]
    rfl

set_option maxHeartbeats 4000000 in
set_option maxRecDepth 1000000 in
/-- Within, where there is no room. -/
theorem InsertE_grow (B q n i : Nat) (E : List Ent) (k v : ByteArray) (vb : Nat) (w : World) (ho : w.ownsRow B 68 2 (.slice (some ⟨q, 0, none⟩) n n) n (ecells E)) (hn : n = E.length) (hn2 : n ≤ 1000000) (hi : i < n)
    (hv : w.heap[vb]? = some (.cells #[.string k, .string v] 68 (0, 0))) (hB : B ≤ w.heap.size) :
    Calls Try.prog 46 #[.slice (some ⟨q, 0, none⟩) n n, .int .i64 (i : Int), .slice (some ⟨vb, 0, none⟩) 1 1] w fun e w' => ∃ q' c', e = .returned (.slice (some ⟨q', 0, none⟩) (n + 1) c') ∧ w'.ownsRow B 68 2 (.slice (some ⟨q', 0, none⟩) (n + 1) c') (n + 1) (ecells (put E i (k, v))) ∧ w.grownBy w' (some q) := by
  obtain ⟨i0, hi0, hz0, hz1, hz2⟩ := info_parts infoE
  obtain ⟨cur, hBq, hq, hnc, hcm, hcs, htk⟩ := own_parts ho
  have hqs : q < w.heap.size := (Array.getElem?_eq_some_iff.1 hq).1
  have hvs : vb < w.heap.size := (Array.getElem?_eq_some_iff.1 hv).1
  have hkk : (n : Int) + 1 - (i : Int) = ((n + 1 - i : Nat) : Int) := by omega
  have hik : i + (n + 1 - i) = n + 1 := by omega
  have hti : (ecells (E.take i)).length = i * 2 := by rw [ecells_length, List.length_take]; omega
  have hold : (Builtin.firstCells i0.size i (.slice (some ⟨q, 0, none⟩) i n)).run Try.prog w.drew = .ok (ecells (E.take i)).toArray w.drew := by
    rw [hz1]
    refine run_firstCells_some w.drew 2 i ⟨q, 0, none⟩ i n (ecells (E.take i)) hti (fun j u hj => ?_)
    have hjl := (List.getElem?_eq_some_iff.1 hj).1
    rw [hti] at hjl
    rw [Addr.add_lit, Nat.zero_add]
    show w.cell? _ = _
    rw [cell_of_row w q _ _ _ _ hq, ← hj, ← ecells_take, ← htk, List.getElem?_take, if_pos hjl, List.getElem?_take, if_pos (by omega), Array.getElem?_toList]
  obtain ⟨G, hG⟩ : ∃ G, grownCap w (n + 1) n 68 = G := ⟨_, rfl⟩
  obtain ⟨L, hL⟩ : ∃ L : List Value, ((ecells (E.take i)).toArray ++ Builtin.zeroCells (Value.agg #[.string ⟨#[]⟩, .string ⟨#[]⟩]).cells (n + 1 - i) ++ Builtin.zeroCells (Value.agg #[.string ⟨#[]⟩, .string ⟨#[]⟩]).cells (G - (n + 1))) = L.toArray := ⟨_, (Array.toArray_toList ..).symm⟩
  obtain ⟨W1, hW1⟩ : ∃ W1, w.drew.alloc (.cells L.toArray 68) = W1 := ⟨_, rfl⟩
  have hGn : n + 1 ≤ G := by rw [← hG]; exact grownCap_ge w _ _ _
  have hG63 : G ≤ maxLen := by rw [← hG]; exact grownCap_le_maxLen w (n + 1) n 68 (by unfold maxLen; omega)
  have hrz : ∀ ty, (Builtin.append_ #[22, 3] ty #[.slice (some ⟨q, 0, none⟩) i n, .int .i64 ((n : Int) + 1 - (i : Int))]).run Try.prog w = .ok (.slice (some ⟨w.heap.size, 0, none⟩) (n + 1) G) W1 := fun ty => by
    have h := Lib.run_append_grow_zeros w 22 3 ty 68 i0 _ .i64 .i64 Try.underlying22 Try.underlying3 hi0 hz0 (some ⟨q, 0, none⟩) i n (ecells (E.take i)) hold (n + 1 - i) (by omega) (by rw [hz1]; decide) (by omega) (by omega) (by rw [hz2]; omega) (by rw [hz2, hik]; exact growslice_fits (by omega) (by omega))
    rw [hik, hG, hL, hW1] at h
    rw [hkk]
    exact h
  have hLl : L.length = G * 2 := by
    have := congrArg Array.size hL
    simp [Builtin.zeroCells, Value.cells, hti] at this
    omega
  have hLt : L.take (i * 2) = ecells (E.take i) := by
    have := congrArg Array.toList hL
    simp only [Array.toList_append, List.toList_toArray] at this
    rw [← this, List.append_assoc]
    exact List.take_left' hti
  obtain ⟨p1, p2, p3⟩ := put_lists2 (k := k) (v := v) hn (Nat.le_of_lt hi) hLt (by rw [hLl]; omega)
  obtain ⟨R, hR⟩ : ∃ R, L.take (i * 2) ++ [Value.string k, .string v] ++ L.drop (i * 2 + ([Value.string k, .string v] : List Value).length) = R := ⟨_, rfl⟩
  rw [hR] at p1 p2 p3
  obtain ⟨F, hF⟩ : ∃ F, R.take ((i + 1) * 2) ++ ecells (E.drop i) ++ R.drop ((i + 1) * 2 + (ecells (E.drop i)).length) = F := ⟨_, rfl⟩
  rw [hF] at p2 p3
  have hed : (ecells (E.drop i)).length = (n - i) * 2 := by rw [ecells_length, List.length_drop, hn]
  obtain ⟨W2, hW2⟩ : ∃ W2, W1.setRow w.heap.size R.toArray = W2 := ⟨_, rfl⟩
  obtain ⟨W3, hW3⟩ : ∃ W3, W2.drew.setRow w.heap.size F.toArray = W3 := ⟨_, rfl⟩
  have g1 : W1.heap[w.heap.size]? = some (.cells L.toArray 68 (0, 0)) := by rw [← hW1]; exact heap_alloc_new w.drew _
  have g2 : W2.heap[w.heap.size]? = some (.cells R.toArray 68 (0, 0)) := by rw [← hW2]; exact setRow_heap W1 _ _ _ _ _ g1
  have g3 : W3.heap[w.heap.size]? = some (.cells F.toArray 68 (0, 0)) := by rw [← hW3]; exact setRow_heap W2.drew _ _ _ _ _ g2
  have old1 : ∀ b, b < w.heap.size → W1.heap[b]? = w.heap[b]? := fun b hb => by rw [← hW1]; exact Below.heap_alloc w.drew _ b hb
  have old2 : ∀ b, b < w.heap.size → W2.heap[b]? = w.heap[b]? := fun b hb => by rw [← hW2, setRow_other _ _ _ _ (by omega)]; exact old1 b hb
  have old3 : ∀ b, b < w.heap.size → W3.heap[b]? = w.heap[b]? := fun b hb => by rw [← hW3, setRow_other _ _ _ _ (by omega)]; exact old2 b hb
  have hcpA := fun ty => run_copy_ents W1 ty w.heap.size (i * 2) (n + 1 - i) (G - i) ⟨vb, 0, none⟩ 1 1 L.toArray [.string k, .string v] 1 g1 (by simp only [Nat.min_def]; split <;> omega) rfl (fun j u hj => by
      rw [Addr.add_lit, Nat.zero_add, cell_of_row W1 vb j _ _ _ ((old1 vb hvs).trans hv), List.getElem?_toArray]
      exact hj) (by simp [hLl]; omega) (fun u hu => by
        simp only [List.mem_cons, List.not_mem_nil, or_false] at hu
        rcases hu with rfl | rfl <;> rfl)
  rw [List.toList_toArray, hR, hW2] at hcpA
  have hcpB := fun ty => run_copy_ents W2.drew ty w.heap.size ((i + 1) * 2) (n - i) (G - (i + 1)) ⟨q, i * 2, none⟩ (n - i) (n - i) R.toArray (ecells (E.drop i)) (n - i) g2 (by simp only [Nat.min_def]; split <;> omega) hed (fun j u hj => by
      have hjl := (List.getElem?_eq_some_iff.1 hj).1
      rw [hed] at hjl
      rw [Addr.add_lit]
      show W2.cell? _ = _
      rw [cell_of_row W2 q _ _ _ _ ((old2 q hqs).trans hq), ← hj, ← ecells_drop, ← htk, List.getElem?_drop, List.getElem?_take, if_pos (by omega), Array.getElem?_toList]) (by rw [hed]; simp [p1, hLl]; omega) (ecells_one _)
  rw [List.toList_toArray, hF, hW3] at hcpB
  replace hcpB := Lib.hid hcpB
  have hfin : Hid (W3.ownsRow B 68 2 (.slice (some ⟨w.heap.size, 0, none⟩) (n + 1) G) (n + 1) (ecells (put E i (k, v)))) := by
    refine ⟨?_, .inr ⟨w.heap.size, G, _, rfl, hB, g3, hGn, hG63, ?_, ?_⟩⟩
    · rw [ecells_length]; unfold put; rw [List.length_append, List.length_cons, List.length_take, List.length_drop]; omega
    · rw [List.size_toArray, p2, hLl]
    · rw [List.toList_toArray, p3]
  have hgr : Hid (w.grownBy W3 (some q)) := by
    refine ⟨by rw [← hW3, ← hW2, ← hW1]; rfl, by rw [← hW3, ← hW2, ← hW1]; rfl, by rw [← hW3, ← hW2, ← hW1]; rfl, ?_, fun b hb _ => old3 b hb⟩
    have h1 : w.heap.size ≤ W1.heap.size := by rw [← hW1, World.size_alloc]; exact Nat.le_succ _
    rw [← hW3, set_size]
    show _ ≤ W2.heap.size
    rw [← hW2, set_size]
    exact h1
  have hz2' : ((i : Int) == (n : Int)) = false := by rw [beq_eq_false_iff_ne]; omega
  have hb2 : ¬ (G = i) := by omega
  have hb4 : ¬ (G = i + 1) := by omega
  have hci : ¬ (n = i) := by omega
  have hw1 : IntKind.i64.wrap ((i : Int) + 1) = (i : Int) + 1 := by rw [IntKind.wrap_i64]; omega
  have hb1 : (0 : Int) ≤ (i : Int) + 1 := by omega
  have htn : ((i : Int) + 1).toNat = i + 1 := by omega
  have hb3 : (i : Int) ≤ (n : Int) := by omega
  have hb6 : (i : Int) ≤ (n : Int) + 1 := by omega
  have hb5 : (i : Int) + 1 ≤ (n : Int) + 1 := by omega
  have hin : i ≤ n := by omega
  have hG64 : G ≤ 9223372036854775807 := hG63
  replace hn := Lib.hid hn
  clear hkk hik hti hold hG hL hW1 hLl hLt p1 p2 p3 hR hF hed hW2 hW3 g1 g2 g3 old1 old2 old3 hq hcs htk hv ho hi0 hz0 hz1 hz2 hG63 hcm
  go_enter Try.func46, Try.ntmps46
  go_wp2_with (at_builtin; refine Lib.wpList_append_run _ rfl _ _ _ _ rfl _ _ rfl rfl _ _ (hrz _) ?_)
  go_region_law (refine step_copy_runI rfl (.tmp 50) (.tmp 53) 22 22 rfl (.slice (some ⟨w.heap.size, (i + 1) * 2, none⟩) (n - i) (G - (i + 1))) (.slice (some ⟨q, i * 2, none⟩) (n - i) (n - i)) (by simp [Act.eval, Act.put]) (by simp [Act.eval, Act.put]) (hcpB.out _) ?_)
  go_wp2
  go_ret
  exact ⟨w.heap.size, G, rfl, hfin.out, hgr.out⟩


theorem InsertE_any (B n cap i : Nat) (A' : Option Addr) (E : List Ent) (k v : ByteArray) (vb : Nat) (w : World) (ho : w.ownsRow B 68 2 (.slice A' n cap) n (ecells E)) (hn : n = E.length) (hn2 : n ≤ 1000000) (hi : i ≤ n) (hB : B ≤ w.heap.size) (hne : ∀ q, A' = some ⟨q, 0, none⟩ → q ≠ vb)
    (hv : w.heap[vb]? = some (.cells #[.string k, .string v] 68 (0, 0))) :
    Calls Try.prog 46 #[.slice A' n cap, .int .i64 (i : Int), .slice (some ⟨vb, 0, none⟩) 1 1] w fun e w' => ∃ q' c', e = .returned (.slice (some ⟨q', 0, none⟩) (n + 1) c') ∧ w'.ownsRow B 68 2 (.slice (some ⟨q', 0, none⟩) (n + 1) c') (n + 1) (ecells (put E i (k, v))) ∧ w.grownBy w' (Value.slice A' n cap).ownBlock := by
  rcases Nat.lt_or_ge i n with hlt | hge
  · obtain ⟨q, rfl, -⟩ := own_at ho (by omega)
    by_cases hroom : n + 1 ≤ cap
    · exact InsertE_shift B q n cap i E k v vb w ho hn hn2 hlt hroom (hne q rfl) hv
    · obtain ⟨cur, h1, h2, h3, h4⟩ := own_parts ho
      obtain rfl : cap = n := by omega
      exact InsertE_grow B q cap i E k v vb w ho hn hn2 hlt hv hB
  · obtain rfl : i = n := by omega
    exact InsertE_end B i cap A' E k v vb w ho hn hn2 hB hv

theorem put_length {E : List Ent} {i : Nat} {e : Ent} (hi : i ≤ E.length) : (put E i e).length = E.length + 1 := by
  unfold put
  rw [List.length_append, List.length_cons, List.length_take, List.length_drop]; omega

theorem ecells_set : ∀ {E : List Ent} {i : Nat} (u : ByteArray), i < E.length → (ecells E).set (i * 2 + 1) (.string u) = ecells (E.set i (keyAt E i, u))
  | [], i, u, h => by simp at h
  | e :: E, 0, u, h => rfl
  | e :: E, i + 1, u, h => by
    have := ecells_set (E := E) (i := i) u (by simpa using h)
    rw [show (i + 1) * 2 + 1 = i * 2 + 1 + 1 + 1 from by omega]
    show Value.string e.1 :: Value.string e.2 :: (ecells E).set (i * 2 + 1) (.string u) = _
    rw [this]
    rfl
theorem put_set {E : List Ent} {i : Nat} {k v u : ByteArray} (hi : i ≤ E.length) : (put E i (k, v)).set i (keyAt (put E i (k, v)) i, u) = put E i (k, u) := by
  have hl : (E.take i).length = i := by rw [List.length_take]; omega
  have hk : keyAt (put E i (k, v)) i = k := by
    unfold keyAt put
    rw [List.getD_eq_getElem?_getD, List.getElem?_append_right (by omega), hl, Nat.sub_self]
    rfl
  rw [hk]
  unfold put
  rw [List.set_append_right _ _ (by omega), hl, Nat.sub_self]
  rfl

end Go.Proofs.Ytfkoboljobghkaa
