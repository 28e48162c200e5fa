/-
  Walk: slices.Delete of one entry at []api.Entry, in a row of one's own.
-/
import Derived.Test.YtfkoboljobghkaaFrCl
import Derived.Deep.RegionLaw
import Derived.Lib.SliceRun
set_option linter.unusedSimpArgs false
set_option linter.unusedVariables false
namespace Go.Proofs.Ytfkoboljobghkaa
open Go.RowKit Go.Shelf

theorem ecells_append (a b : List Ent) : ecells (a ++ b) = ecells a ++ ecells b := by simp [ecells]
theorem ecells_take : ∀ (E : List Ent) (i : Nat), (ecells E).take (i * 2) = ecells (E.take i)
  | [], i => by simp [ecells]
  | e :: E, 0 => by simp [ecells]
  | e :: E, i + 1 => by
    have := ecells_take E i
    rw [show (i + 1) * 2 = i * 2 + 1 + 1 from by omega]
    simpa [ecells] using this
theorem ecells_drop : ∀ (E : List Ent) (i : Nat), (ecells E).drop (i * 2) = ecells (E.drop i)
  | [], i => by simp [ecells]
  | e :: E, 0 => by simp [ecells]
  | e :: E, i + 1 => by
    have := ecells_drop E i
    rw [show (i + 1) * 2 = i * 2 + 1 + 1 from by omega]
    simpa [ecells] using this

/-- append within a row that lies, as one step of a region that draws. -/
theorem step_append_ents {ops : Array Oper} {o : Oper} {a : Act} {w : World} {K : Act → World → Prop} {Q : Exit → Act → World → Prop} {X : Prop}
    (hgd : o.guard = none) (s x : Operand) (hop : o.op = Op.call { callee := Callee.builtin Builtin.append, args := #[s, x], argTypes := #[22, 22] })
    (g n cap : Nat) (hs : a.eval s = .slice (some ⟨g, 0, none⟩) n cap) (ad : Addr) (m c : Nat) (news : List Value) (hx : a.eval x = .slice (some ad) m c) (hn : news.length = m * 2)
    (hc : ∀ j u, news[j]? = some u → w.cell? (ad.add j) = some u) (h1c : ∀ u ∈ news, u.oneCell' = true) (hroom : n + m ≤ cap) (cur : Array Value) (hg : w.heap[g]? = some (.cells cur 68 (0, 0))) (hfit : n * 2 + news.length ≤ cur.size)
    (hK : K (a.put o.dst (.slice (some ⟨g, 0, none⟩) (n + m) cap)) (w.setRow g (cur.toList.take (n * 2) ++ news ++ cur.toList.drop (n * 2 + news.length)).toArray)) :
    if Region.wanted o (yielded ops a.tmps) = true then Oper.wp Try.prog o a w K Q else X := by
  have hw : Region.wanted o (yielded ops a.tmps) = true := by simp [Region.wanted, hgd]
  rw [if_pos hw]
  obtain ⟨i0, hi, hz0, hz1, hz2⟩ := info_parts infoE
  have hrun := run_append_room (P := Try.prog) w 22 o.type 68 i0 Try.underlying22 hi g n cap cur hg ad m c news (by rw [hz1]; exact hn) hc h1c hroom (by rw [hz1]; exact hfit)
  rw [hz1] at hrun
  generalize (w.setRow g (cur.toList.take (n * 2) ++ news ++ cur.toList.drop (n * 2 + news.length)).toArray) = W2 at hrun hK
  unfold Oper.wp
  simp [execOp, hop, resolve, invoke, builtin, hs, hx, hrun, Result.andThen]
  exact hK

/-- clear of one entry. -/
theorem run_clear_ent (W : World) (g o c : Nat) (ty : TypeId) (cur : Array Value) (hg : W.heap[g]? = some (.cells cur 68 (0, 0))) (hfit : o + 2 ≤ cur.size) :
    (Builtin.clear_ #[22] ty #[.slice (some ⟨g, o, none⟩) 1 c]).run Try.prog W = .ok (.tuple #[]) (W.setRow g (cur.toList.take o ++ ([.string ⟨#[]⟩, .string ⟨#[]⟩] : List Value) ++ cur.toList.drop (o + 2)).toArray) := by
  have hzc : (Builtin.zeroCells (Value.agg #[.string ⟨#[]⟩, .string ⟨#[]⟩]).cells 1).toList = [.string ⟨#[]⟩, .string ⟨#[]⟩] := by
    simp [Builtin.zeroCells, Value.cells]
    rfl
  have hst := run_storeCells_at Try.prog g o 68 [.string ⟨#[]⟩, .string ⟨#[]⟩] 0 cur W hg (by simpa using hfit) (by intro v hv; simp at hv; subst hv; rfl)
  simp only [Nat.add_zero, List.length_cons, List.length_nil] at hst
  simp [Builtin.clear_, run_underlying Try.underlying22, Try.zeroValue68, hzc, hst]

set_option maxHeartbeats 4000000 in
set_option maxRecDepth 1000000 in
theorem DeleteE_any (B g n cap i : Nat) (E : List Ent) (w : World) (ho : w.ownsRow B 68 2 (.slice (some ⟨g, 0, none⟩) n cap) n (ecells E)) (hn : n = E.length) (hi : i < n) (hn2 : n ≤ 1000000) :
    Calls Try.prog 70 #[.slice (some ⟨g, 0, none⟩) n cap, .int .i64 (i : Int), .int .i64 ((i : Int) + 1)] w fun e w' => e = .returned (.slice (some ⟨g, 0, none⟩) (n - 1) cap) ∧ w'.ownsRow B 68 2 (.slice (some ⟨g, 0, none⟩) (n - 1) cap) (n - 1) (ecells (E.eraseIdx i)) ∧ Only w w' g := by
  have hcl := ho.1
  obtain ⟨cur, hBg, hg, hnc, hcm, hcs, htk⟩ : ∃ cur : Array Value, B ≤ g ∧ w.heap[g]? = some (.cells cur 68 (0, 0)) ∧ n ≤ cap ∧ cap ≤ maxLen ∧ cur.size = cap * 2 ∧ cur.toList.take (n * 2) = ecells E := by
    rcases ho.2 with ⟨h1, h2⟩ | ⟨g', cap', cur, h1, h2, h3, h4, h5, h6, h7⟩
    · omega
    · injection h1 with e1 e2 e3
      injection e1 with e1
      injection e1 with e1
      subst e1 e3
      exact ⟨cur, h2, h3, h4, h5, h6, h7⟩
  obtain ⟨j, hj⟩ : ∃ j, i + 1 = j := ⟨_, rfl⟩
  have hji : (i : Int) + 1 = (j : Int) := by omega
  rw [hji]
  obtain ⟨news, hnews⟩ : ∃ news, news = ecells (E.drop j) := ⟨_, rfl⟩
  have hlen : news.length = (n - j) * 2 := by rw [hnews, ecells_length, List.length_drop, hn]
  obtain ⟨A, hA, hsrc⟩ : ∃ A : Addr, (if cap = j then some (⟨g, 0, none⟩ : Addr) else some ⟨g, j * 2, none⟩) = some A ∧ Hid (∀ t u, news[t]? = some u → w.drew.cell? (A.add t) = some u) := by
    by_cases h : cap = j
    · refine ⟨⟨g, 0, none⟩, by simp [h], fun t u hu => ?_⟩
      have h0 : news.length = 0 := by rw [hlen]; omega
      rw [List.length_eq_zero_iff.1 h0] at hu
      simp at hu
    · refine ⟨⟨g, j * 2, none⟩, by simp [h], fun t u hu => ?_⟩
      have ht := (List.getElem?_eq_some_iff.1 hu).1
      rw [hlen] at ht
      rw [Addr.add_lit]
      show w.cell? _ = _
      rw [cell_of_row w g _ _ _ _ hg]
      rw [← hu, hnews, ← ecells_drop, ← htk, List.getElem?_drop, List.getElem?_take, if_pos (by omega), Array.getElem?_toList]
  obtain ⟨L1, hL1⟩ : ∃ L1, L1 = cur.toList.take (i * 2) ++ news ++ cur.toList.drop (i * 2 + news.length) := ⟨_, rfl⟩
  have hcs2 : cur.toList.length = cap * 2 := by simpa using hcs
  have hL1l : L1.length = cap * 2 := by rw [hL1]; simp [hlen, hcs]; omega
  obtain ⟨W1, hW1⟩ : ∃ W1, W1 = w.drew.setRow g L1.toArray := ⟨_, rfl⟩
  have hg1 : W1.heap[g]? = some (.cells L1.toArray 68 (0, 0)) := by rw [hW1]; exact setRow_heap w.drew g _ _ _ _ hg
  have hcle := fun ty => run_clear_ent W1 g ((i + (n - j)) * 2) (cap - (i + (n - j))) ty _ hg1 (by simp [hL1l]; omega)
  have s1 : Hid (news.length = (n - j) * 2) := hlen
  have s2 : Hid (∀ u ∈ news, u.oneCell' = true) := by rw [hnews]; exact ecells_one _
  have s3 : Hid (w.drew.heap[g]? = some (.cells cur 68 (0, 0))) := hg
  have s4 : Hid (i * 2 + news.length ≤ cur.size) := by rw [hlen, hcs]; show _ ≤ _; omega
  have s5 : Hid (W1 = w.drew.setRow g (cur.toList.take (i * 2) ++ news ++ cur.toList.drop (i * 2 + news.length)).toArray) := by rw [hW1, hL1]; rfl
  have hcn : ¬ cap = i + (n - j) := by omega
  have htki : cur.toList.take (i * 2) = ecells (E.take i) := by
    rw [← ecells_take, ← htk, List.take_take, Nat.min_eq_left (by omega)]
  have hL1t : L1.take ((i + (n - j)) * 2) = ecells (E.eraseIdx i) := by
    rw [hL1, htki, hnews, List.eraseIdx_eq_take_drop_succ, hj, ecells_append]
    refine List.take_left' ?_
    rw [List.length_append, ecells_length, ecells_length, List.length_take, List.length_drop]
    omega
  have hfin : Hid ((W1.setRow g (L1.take ((i + (n - j)) * 2) ++ Value.string ⟨#[]⟩ :: Value.string ⟨#[]⟩ :: L1.drop ((i + (n - j)) * 2 + 2)).toArray).ownsRow B 68 2 (.slice (some ⟨g, 0, none⟩) (n - 1) cap) (n - 1) (ecells (E.eraseIdx i))) := by
    refine ⟨?_, .inr ⟨g, cap, _, rfl, hBg, setRow_heap W1 g _ _ _ _ hg1, by omega, hcm, ?_, ?_⟩⟩
    · rw [ecells_length, List.length_eraseIdx, ← hn, if_pos hi]
    · simp [hL1l]; omega
    · rw [← hL1t, show (n - 1) = i + (n - j) from by omega]
      show List.take _ (_ ++ _) = _
      refine List.take_left' ?_
      rw [List.length_take, hL1l]
      omega
  have honly : Hid (∀ X : Array Value, Only w (W1.setRow g X) g) := by
    intro X
    have hs : ∀ (V : World) (Y : Array Value), (V.setRow g Y).heap.size = V.heap.size := fun V Y => by simp [World.setRow]
    refine ⟨by rw [hW1]; rfl, by rw [hW1]; rfl, by rw [hW1]; rfl, by rw [hs, hW1, hs]; exact Nat.le_refl _, fun k hk hne => ?_⟩
    have hkg : k ≠ g := fun e => hne (by rw [e])
    rw [setRow_other _ _ _ _ hkg, hW1, setRow_other _ _ _ _ hkg]
    rfl
  have hX : Hid (n - (i + (n - j)) = 1) := by show _ = _; omega
  have hcm2 : cap ≤ 9223372036854775807 := hcm
  have hic : i ≤ cap := by omega
  have hjc : j ≤ cap := by omega
  have hjn : j ≤ n := by omega
  have hij : i ≤ j := by omega
  have hije : ((i : Int) == (j : Int)) = false := by rw [beq_eq_false_iff_ne]; omega
  rw [← hX.out] at hcle
  clear hX
  replace hL1 := Lib.hid hL1
  replace hL1l := Lib.hid hL1l
  replace hg1 := Lib.hid hg1
  replace hW1 := Lib.hid hW1
  replace hn := Lib.hid hn
  replace hj := Lib.hid hj
  replace hcl := Lib.hid hcl
  replace htk := Lib.hid htk
  clear ho hg hnews hlen hcs hcs2 hji htki hL1t
  go_enter Try.func70, Try.ntmps70
  go_wp2_with fail
  go_region_law (refine step_append_ents rfl (.tmp 22) (.tmp 25) rfl g i cap (by simp [Act.eval, Act.put]) A (n - j) (cap - j) news (by simp [Act.eval, Act.put]) s1.out hsrc.out s2.out (by omega) cur s3.out s4.out ?_; rw [← s5.out])
  all_goals go_wp2
  all_goals go_ret
  all_goals
    refine ⟨?_, hfin.out, honly.out _⟩
    rw [show n - 1 = i + (n - j) from by have := hj.out; omega]
    rfl

end Go.Proofs.Ytfkoboljobghkaa
