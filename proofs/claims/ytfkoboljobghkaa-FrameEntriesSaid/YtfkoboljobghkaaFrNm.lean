/-
  Entries without a key and with it; the law's closures, slices.IndexFunc and DeleteFunc; Put where the key is there (tools/mk_frpo.py).
-/
import Derived.Test.YtfkoboljobghkaaFrPn
import Derived.Test.YtfkoboljobghkaaFrDp
import Derived.Deep.Cut
set_option linter.unusedSimpArgs false
set_option linter.unusedVariables false
namespace Go.Proofs.Ytfkoboljobghkaa
open Go.RowKit Go.Shelf


theorem less_irr (a : ByteArray) : less a a = false := by
  rw [less_eq, decide_eq_false_iff_not]
  intro h
  exact List.lt_irrefl _ h
theorem at_yes {E : List Ent} {k : ByteArray} {p : Nat} (hm : metaC E = 0) (hp : PosOf E k p) (ha : isAt E k p = true) : p < E.length ∧ keyAt E p = k ∧ ∀ j, j < E.length → j ≠ p → keyAt E j ≠ k := by
  unfold isAt at ha
  obtain ⟨h1, h2⟩ := of_decide_eq_true ha
  refine ⟨h1, h2, fun j hj hne e => ?_⟩
  rcases Nat.lt_or_gt_of_ne hne with h | h
  · have := (hp.2 j hj).2 h
    rw [e, less_irr] at this
    cases this
  · have := meta_sorted hm (i := p) j h hj
    rw [e, h2, less_irr] at this
    cases this
theorem at_no {E : List Ent} {k : ByteArray} {p : Nat} (hm : metaC E = 0) (hp : PosOf E k p) (ha : isAt E k p = false) : ∀ j, j < E.length → keyAt E j ≠ k := by
  unfold isAt at ha
  have h1 := of_decide_eq_false ha
  intro j hj e
  rcases Nat.lt_trichotomy j p with h | h | h
  · have := (hp.2 j hj).2 h
    rw [e, less_irr] at this
    cases this
  · subst h
    exact h1 ⟨hj, e⟩
  · have h2 := meta_sorted hm (i := p) j h hj
    have h3 := (hp.2 p (by omega)).1 (by rw [← e]; exact h2)
    exact Nat.lt_irrefl _ h3
theorem keyAt_erase {E : List Ent} {p j : Nat} : keyAt (E.eraseIdx p) j = if j < p then keyAt E j else keyAt E (j + 1) := by
  unfold keyAt
  rw [List.getD_eq_getElem?_getD, List.getElem?_eraseIdx]
  split <;> rw [List.getD_eq_getElem?_getD]
theorem put_erase {E : List Ent} {p : Nat} (hp : p < E.length) (e : Ent) : put (E.eraseIdx p) p e = E.set p e := by
  unfold put
  rw [List.eraseIdx_eq_take_drop_succ, List.take_left' (by rw [List.length_take]; omega), List.drop_left' (by rw [List.length_take]; omega), List.set_eq_take_append_cons_drop, if_pos hp]
/-- The entries without the key. -/
def restE (E : List Ent) (k : ByteArray) (p : Nat) : List Ent := if isAt E k p = true then E.eraseIdx p else E
theorem rest_loop {E : List Ent} {k : ByteArray} {p : Nat} (hp : PosOf E k p) : p ≤ (restE E k p).length ∧ (∀ j, j < p → less (keyAt (restE E k p) j) k = true) ∧ (p < (restE E k p).length → less (keyAt (restE E k p) p) k = false) := by
  unfold restE
  split
  · rename_i ha
    unfold isAt at ha
    obtain ⟨h1, h2⟩ := of_decide_eq_true ha
    have hl := List.length_eraseIdx_of_lt h1
    refine ⟨by omega, fun j hj => ?_, fun h => ?_⟩
    · rw [keyAt_erase, if_pos hj]
      exact (hp.2 j (by omega)).2 hj
    · rw [keyAt_erase, if_neg (Nat.lt_irrefl _)]
      rw [← Bool.not_eq_true]
      intro e
      have := (hp.2 (p + 1) (by omega)).1 e
      omega
  · refine ⟨hp.1, fun j hj => (hp.2 j (by have := hp.1; omega)).2 hj, fun h => ?_⟩
    rw [← Bool.not_eq_true]
    intro e
    exact Nat.lt_irrefl _ ((hp.2 p h).1 e)
theorem rest_put {E : List Ent} {k u : ByteArray} {p : Nat} (hm : metaC E = 0) (hp : PosOf E k p) (ha : isAt E k p = true) : E.set p (keyAt E p, u) = put (restE E k p) p (k, u) := by
  obtain ⟨h1, h2, -⟩ := at_yes hm hp ha
  unfold restE
  rw [if_pos ha, put_erase h1, h2]
theorem rest_new {E : List Ent} {k : ByteArray} {p : Nat} (ha : isAt E k p = false) : restE E k p = E := by
  unfold restE
  rw [if_neg (by rw [ha]; simp)]
theorem rest_sub {E : List Ent} {k : ByteArray} {p : Nat} : ∀ e ∈ restE E k p, e ∈ E := by
  intro e he
  unfold restE at he
  split at he
  · exact List.mem_of_mem_eraseIdx he
  · exact he
theorem put_sub {E : List Ent} {p : Nat} {x : Ent} : ∀ e ∈ put E p x, e ∈ E ∨ e = x := by
  intro e he
  unfold put at he
  rw [List.mem_append, List.mem_cons] at he
  rcases he with h | h | h
  · exact Or.inl (List.mem_of_mem_take h)
  · exact Or.inr h
  · exact Or.inl (List.mem_of_mem_drop h)
theorem En.sizes {w : World} {A : Option Addr} {n c : Nat} {E : List Ent} (h : En w A n c E) : ∀ e ∈ E, e.1.size ≤ 1000000000 ∧ e.2.size ≤ 1000000000 := by
  intro e he
  obtain ⟨i, hi, rfl⟩ := List.mem_iff_getElem.1 he
  have := h.2.2.2.2 i
  simpa [keyAt, valAt, List.getD_eq_getElem?_getD, List.getElem?_eq_getElem hi] using this


/-- The box of a text. -/
def KB (w : World) (q : Nat) (k : ByteArray) : Prop := w.heap[q]? = some (.cells #[.string k] 9 (0, 0))
section
variable {w w' : World} {q : Nat} {k : ByteArray}
theorem KB.lt (h : KB w q k) : q < w.heap.size := (Array.getElem?_eq_some_iff.1 h).1
theorem KB.new (w : World) (k : ByteArray) : KB (w.alloc (.cells #[.string k] 9)) w.heap.size k := heap_alloc_new w _
theorem KB.keep (h : KB w q k) (hk : w'.heap[q]? = w.heap[q]?) : KB w' q k := hk.trans h
theorem KB.alloc (h : KB w q k) (o : Obj) : KB (w.alloc o) q k := h.keep (Below.heap_alloc w o q h.lt)
theorem KB.below (h : KB w q k) {B : Nat} (hb : Below B w w') (hg : q < B) : KB w' q k := h.keep (hb.block q hg)
theorem KB.only (h : KB w q k) {g : Nat} (hb : Only w w' g) (hne : q ≠ g) : KB w' q k := h.keep (hb.block q h.lt (fun e => hne (by injection e)))
theorem KB.cell (h : KB w q k) : w.cell? ⟨q, 0, none⟩ = some (.string k) := by
  rw [cell_of_row w q _ _ _ _ h]
  rfl
end

theorem bt_eq (a k : ByteArray) : (a.toList == k.toList) = decide (a = k) := by
  by_cases h : a = k
  · subst h; simp
  · rw [decide_eq_false h, beq_eq_false_iff_ne]
    exact fun e => h (toList_one e)

set_option maxHeartbeats 1600000 in
theorem key1_any (a v k : ByteArray) (q : Nat) (w : World) (h : KB w q k) :
    Calls Try.prog 40 #[.agg #[.string a, .string v], .pointer (some ⟨q, 0, none⟩)] w fun e w' => e = .returned (.bool (decide (a = k))) ∧ Below w.heap.size w w' := by
  have hc := (h.alloc (.cells #[.string a, .string v] 68)).cell
  have hb := (Below.refl w.heap.size w).alloc (Nat.le_refl _) (.cells #[.string a, .string v] 68)
  clear h
  go_enter Try.func40, Try.ntmps40
  go_wp2
  go_ret
  exact ⟨by simp [bt_eq], hb⟩

set_option maxHeartbeats 1600000 in
theorem key2_any (a v k : ByteArray) (q : Nat) (w : World) (h : KB w q k) :
    Calls Try.prog 43 #[.agg #[.string a, .string v], .pointer (some ⟨q, 0, none⟩)] w fun e w' => e = .returned (.bool (decide (a = k))) ∧ Below w.heap.size w w' := by
  have hc := (h.alloc (.cells #[.string a, .string v] 68)).cell
  have hb := (Below.refl w.heap.size w).alloc (Nat.le_refl _) (.cells #[.string a, .string v] 68)
  clear h
  go_enter Try.func43, Try.ntmps43
  go_wp2
  go_ret
  exact ⟨by simp [bt_eq], hb⟩

theorem enters_key1 : ∀ args w, (callFunc 40 args).run Try.prog w = .ok (.enter 40 args) w := enters_of Try.func40 (by kernel_rfl) rfl
theorem enters_key2 : ∀ args w, (callFunc 43 args).run Try.prog w = .ok (.enter 43 args) w := enters_of Try.func43 (by kernel_rfl) rfl

/-- What is asked of a function value that takes an entry: while the text lies in its box, it says whether the entry's key is that text. -/
def PredK (g : Nat) (q : Nat) (k : ByteArray) : Prop :=
  ∀ (W : World) (a v : ByteArray), KB W q k → Calls Try.prog g #[.agg #[.string a, .string v], .pointer (some ⟨q, 0, none⟩)] W fun e w' => e = .returned (.bool (decide (a = k))) ∧ Below W.heap.size W w'
theorem key1_pred (q : Nat) (k : ByteArray) : PredK 40 q k := fun W a v h => key1_any a v k q W h
theorem key2_pred (q : Nat) (k : ByteArray) : PredK 43 q k := fun W a v h => key2_any a v k q W h
theorem PredK.at_ {g q : Nat} {k : ByteArray} (h : PredK g q k) (W : World) (hK : KB W q k) {a : ByteArray} (v : ByteArray) {b : Bool} (hx : decide (a = k) = b) :
    Calls Try.prog g #[.agg #[.string a, .string v], .pointer (some ⟨q, 0, none⟩)] W fun e w' => e = .returned (.bool b) ∧ Below W.heap.size W w' := hx ▸ h W a v hK

/-- Where the first entry with a key lies: its index, or -1. -/
def IxOf (E : List Ent) (k : ByteArray) (r : Int) : Prop :=
  (∃ p : Nat, r = p ∧ p < E.length ∧ keyAt E p = k ∧ ∀ j, j < p → keyAt E j ≠ k) ∨ (r = -1 ∧ ∀ j, j < E.length → keyAt E j ≠ k)
theorem IxOf.uniq {E : List Ent} {k : ByteArray} {r s : Int} (h : IxOf E k r) (h' : IxOf E k s) : r = s := by
  rcases h with ⟨p, rfl, h1, h2, h3⟩ | ⟨rfl, h1⟩ <;> rcases h' with ⟨p', rfl, h1', h2', h3'⟩ | ⟨rfl, h1'⟩
  · rcases Nat.lt_trichotomy p p' with h | h | h
    · exact absurd h2 (h3' p h)
    · rw [h]
    · exact absurd h2' (h3 p' h)
  · exact absurd h2 (h1' p h1)
  · exact absurd h2' (h1 p' h1')
  · rfl
theorem ix_yes {E : List Ent} {k : ByteArray} {p : Nat} (hm : metaC E = 0) (hp : PosOf E k p) (ha : isAt E k p = true) : IxOf E k (p : Int) := by
  obtain ⟨h1, h2, h3⟩ := at_yes hm hp ha
  exact .inl ⟨p, rfl, h1, h2, fun j hj => h3 j (by omega) (by omega)⟩
theorem ix_no {E : List Ent} {k : ByteArray} {p : Nat} (hm : metaC E = 0) (hp : PosOf E k p) (ha : isAt E k p = false) : IxOf E k (-1) := .inr ⟨rfl, at_no hm hp ha⟩

set_option maxHeartbeats 1600000 in
theorem IndexE_any (g q : Nat) (k : ByteArray) (eg : ∀ args w, (callFunc g args).run Try.prog w = .ok (.enter g args) w) (hp : PredK g q k) (A : Option Addr) (n c : Nat) (E : List Ent) (r : Int) (w : World) (h : En w A n c E) (hK : KB w q k) (hr : IxOf E k r) :
    Calls Try.prog 39 #[.slice A n c, .func (.func g) #[] #[.pointer (some ⟨q, 0, none⟩)]] w fun e w' => e = .returned (.int .i64 r) ∧ Below w.heap.size w w' := by
  have hcap := h.2.1
  have hcl := h.2.2.1
  have hlen := Lib.hid h.1
  have hp' := Lib.hid hp
  have hq := hK.lt
  replace hK := Lib.hid hK
  replace hr := Lib.hid hr
  clear hp
  go_enter Try.func39, Try.ntmps39
  go_wp2
  go_loopw [8] (fun i wr => ∃ m : Nat, m ≤ n ∧ i = .int .i64 m ∧ Below w.heap.size w wr ∧ Hid (∀ j, j < m → keyAt E j ≠ k)) (fun i _ => n - (intOf i).toNat)
  case atStart => exact ⟨0, Nat.zero_le _, rfl, Below.refl _ _, Lib.hid fun j hj => absurd hj (Nat.not_lt_zero _)⟩
  case round =>
    obtain ⟨m, hk, rfl, hB, HA⟩ := hrel
    have hKr := Lib.hid (hK.out.below hB hq)
    by_cases hlt : m < n
    · obtain ⟨b, off, rfl, hbw, hc⟩ := (h.below hB (Nat.le_refl _)).at_ (by omega)
      obtain ⟨q0, q1⟩ := hc m hlt
      clear hc h
      obtain ⟨a, hy⟩ : ∃ y, keyAt E m = y := ⟨_, rfl⟩
      obtain ⟨v, hv⟩ : ∃ y, valAt E m = y := ⟨_, rfl⟩
      rw [hy] at q0
      rw [hv] at q1
      obtain ⟨m2, hm⟩ : ∃ m2, m * 2 = m2 := ⟨_, rfl⟩
      simp only [hm] at q0 q1
      replace hy := Lib.hid hy
      replace hv := Lib.hid hv
      cases hq2 : decide (a = k) with
      | true =>
        have hcall := Lib.hid (hp'.out.at_ _ hKr.out v hq2)
        replace hq2 := Lib.hid hq2
        go_wp2_with (go_at_fn g; refine hcall.out.mono ?_; rintro e w' ⟨rfl, hb2⟩)
        go_ret
        refine ⟨?_, hB.trans (hb2.mono hB.size)⟩
        rw [hr.out.uniq (.inl ⟨m, rfl, by rw [← hlen.out]; exact hlt, by rw [hy.out]; exact of_decide_eq_true hq2.out, HA.out⟩)]
        rfl
      | false =>
        have hcall := Lib.hid (hp'.out.at_ _ hKr.out v hq2)
        replace hq2 := Lib.hid hq2
        go_wp2_with (go_at_fn g; refine hcall.out.mono ?_; rintro e w' ⟨rfl, hb2⟩)
        exact ⟨⟨m + 1, hlt, by go_num, hB.trans (hb2.mono hB.size), Lib.hid fun j hj => (by
          by_cases e : j = m
          · rw [e, hy.out]; exact of_decide_eq_false hq2.out
          · exact HA.out j (by omega))⟩, by simp [intOf]; omega⟩
    · obtain rfl : m = n := by omega
      go_wp2
      go_ret
      refine ⟨?_, hB⟩
      rw [hr.out.uniq (.inr ⟨rfl, by rw [← hlen.out]; exact HA.out⟩)]
      rfl


theorem ecells_set2 : ∀ {L : List Ent} {i : Nat} (e : Ent), i < L.length → ((ecells L).set (i * 2) (.string e.1)).set (i * 2 + 1) (.string e.2) = ecells (L.set i e)
  | [], i, e, h => by simp at h
  | x :: L, 0, e, h => rfl
  | x :: L, i + 1, e, h => by
    have := ecells_set2 (L := L) (i := i) e (by simpa using h)
    rw [show (i + 1) * 2 = i * 2 + 1 + 1 from by omega]
    show Value.string x.1 :: Value.string x.2 :: ((ecells L).set (i * 2) (.string e.1)).set (i * 2 + 1) (.string e.2) = _
    rw [this]
    rfl

set_option maxHeartbeats 1600000 in
theorem DeleteK_no (f q : Nat) (k : ByteArray) (eg : ∀ args w, (callFunc f args).run Try.prog w = .ok (.enter f args) w) (hp : PredK f q k) (A : Option Addr) (n c : Nat) (E : List Ent) (w : World) (h : En w A n c E) (hK : KB w q k) (hr : IxOf E k (-1)) :
    Calls Try.prog 41 #[.slice A n c, .func (.func f) #[] #[.pointer (some ⟨q, 0, none⟩)]] w fun e w' => e = .returned (.slice A n c) ∧ Below w.heap.size w w' := by
  have hix := Lib.hid (IndexE_any f q k eg hp A n c E (-1) w h hK hr)
  clear h hK hr
  go_enter Try.func41, Try.ntmps41
  go_wp2_with (go_at_call 39; refine hix.out.mono ?_; rintro e w1 ⟨rfl, hb1⟩)
  go_ret
  exact ⟨rfl, hb1⟩

set_option maxRecDepth 100000 in
set_option maxHeartbeats 6400000 in
theorem DeleteK_yes (f q : Nat) (k : ByteArray) (eg : ∀ args w, (callFunc f args).run Try.prog w = .ok (.enter f args) w) (hp : PredK f q k) (B g n cap p : Nat) (E : List Ent) (w : World) (ho : w.ownsRow B 68 2 (.slice (some ⟨g, 0, none⟩) n cap) n (ecells E)) (hn : n = E.length) (hp0 : p < n) (hk : keyAt E p = k) (hu : ∀ j, j < n → j ≠ p → keyAt E j ≠ k) (hn2 : n ≤ 1000000) (hs : ∀ e ∈ E, e.1.size ≤ 1000000000 ∧ e.2.size ≤ 1000000000) (hK : KB w q k) (hqg : q ≠ g) :
    Calls Try.prog 41 #[.slice (some ⟨g, 0, none⟩) n cap, .func (.func f) #[] #[.pointer (some ⟨q, 0, none⟩)]] w fun e w' => e = .returned (.slice (some ⟨g, 0, none⟩) (n - 1) cap) ∧ w'.ownsRow B 68 2 (.slice (some ⟨g, 0, none⟩) (n - 1) cap) (n - 1) (ecells (E.eraseIdx p)) ∧ Only w w' g := by
  have hen : En w (some ⟨g, 0, none⟩) n cap E := by subst hn; exact En.of_own ho rfl hs
  have hix := Lib.hid (IndexE_any f q k eg hp (some ⟨g, 0, none⟩) n cap E (p : Int) w hen hK (.inl ⟨p, rfl, by omega, hk, fun j hj => hu j (by omega) (by omega)⟩))
  obtain ⟨cur0, -, hg0, hnc, hcm⟩ := own_parts' (m := n) ho hn.symm
  have hpm : ((p : Int) == -1) = false := by rw [beq_eq_false_iff_ne]; omega
  have hp' := Lib.hid hp
  have hn' := Lib.hid hn
  have hu' := Lib.hid hu
  have hK' := Lib.hid hK
  have ho' := Lib.hid ho
  have hpi : (p : Int) < (n : Int) := by omega
  clear hp hn hu hK hen hk hs ho hg0
  go_enter Try.func41, Try.ntmps41
  go_wp2_with (go_at_call 39; refine hix.out.mono ?_; rintro e w1 ⟨rfl, hb1⟩)
  go_loopw [5, 6] (fun a b wr => ∃ (i j : Nat) (L : List Ent), p ≤ i ∧ i + 1 = j ∧ j ≤ n ∧ a = .int .i64 i ∧ b = .int .i64 j ∧ Hid (L.length = n) ∧ Hid (∀ x, x < i → L[x]? = (E.eraseIdx p)[x]?) ∧ Hid (∀ x, i ≤ x → L[x]? = E[x]?) ∧ Hid (wr.ownsRow B 68 2 (.slice (some ⟨g, 0, none⟩) n cap) n (ecells L)) ∧ Hid (Only w wr g)) (fun _ b _ => n - (intOf b).toNat)
  case atStart =>
    exact ⟨p, p + 1, E, Nat.le_refl _, rfl, hp0, rfl, by go_num, Lib.hid hn'.out.symm, Lib.hid fun x hx => (by rw [List.getElem?_eraseIdx, if_pos hx]), Lib.hid fun x hx => rfl, Lib.hid (own_bel ho'.out hb1), Lib.hid (Only.of_below hb1 g)⟩
  case round =>
    obtain ⟨i, j, L, hpi2, hij, hjn, rfl, rfl, hL, HA, HB, hor, hon⟩ := hrel
    by_cases hlt : j < n
    · have hKr := hK'.out.only hon.out hqg
      obtain ⟨a, ha⟩ : ∃ y, keyAt L j = y := ⟨_, rfl⟩
      obtain ⟨v, hv⟩ : ∃ y, valAt L j = y := ⟨_, rfl⟩
      have hLj : L[j]? = some (a, v) := by
        have hjl : j < L.length := by rw [hL.out]; exact hlt
        rw [← ha, ← hv]
        unfold keyAt valAt
        rw [List.getD_eq_getElem?_getD, List.getElem?_eq_getElem hjl]
        rfl
      have hEj : E[j]? = some (a, v) := by rw [← HB.out j (by omega)]; exact hLj
      have hne : decide (a = k) = false := by
        rw [decide_eq_false_iff_not]
        have := hu'.out j hlt (by omega)
        unfold keyAt at this
        rw [List.getD_eq_getElem?_getD, hEj] at this
        exact this
      have hcall := Lib.hid (hp'.out.at_ _ (hKr.alloc (.cells #[.string a, .string v] 68)) v hne)
      obtain ⟨q0, q1⟩ : wr.cell? ⟨g, j * 2, none⟩ = some (.string a) ∧ wr.cell? ⟨g, j * 2 + 1, none⟩ = some (.string v) := by
        obtain ⟨e0, e1⟩ := ecells_at (E := L) (i := j) (by rw [hL.out]; exact hlt)
        rw [← ha, ← hv]
        exact ⟨(World.ownsRow.cellAt hor.out (j * 2) (by omega)).trans e0, (World.ownsRow.cellAt hor.out (j * 2 + 1) (by omega)).trans e1⟩
      have hiL : i < L.length := by rw [hL.out]; omega
      have hst := Lib.hid (fun (V : World) (hV : V.ownsRow B 68 2 (.slice (some ⟨g, 0, none⟩) n cap) n (ecells L)) => (ecells_set2 (L := L) (i := i) (a, v) hiL) ▸ (World.ownsRow.stored (World.ownsRow.stored hV (i * 2) (.string a)).1 (i * 2 + 1) (.string v)).1)
      have hii : i < n := by omega
      have hgl : g < wr.heap.size := (World.ownsRow.lt hor.out g rfl).2
      replace ha := Lib.hid ha
      replace hv := Lib.hid hv
      replace hLj := Lib.hid hLj
      replace hEj := Lib.hid hEj
      replace hne := Lib.hid hne
      replace hiL := Lib.hid hiL
      replace hKr := Lib.hid hKr
      go_wp2_with (go_at_fn f; refine hcall.out.mono ?_; rintro e w2 ⟨rfl, hb2⟩; have ho2 := Lib.hid (own_bel (World.ownsRow.alloc hor.out _) hb2); have ho3 := Lib.hid ((((hon.out.alloc (.cells #[.string a, .string v] 68)).trans (Only.of_below hb2 g)))); simp only [World.size_alloc] at hb2; obtain ⟨⟨b0, b1⟩, f0, f1⟩ := entBox _ _ _ _ hb2; obtain ⟨c0, hc0⟩ := cell_own ho2.out (i * 2) (by omega); obtain ⟨c1, hc1⟩ := cell_own ho2.out (i * 2 + 1) (by omega); have z0 := World.ownsRow.frozenAt ho2.out (i * 2); have z1 := World.ownsRow.frozenAt ho2.out (i * 2 + 1))
      refine ⟨⟨i + 1, j + 1, L.set i (a, v), by omega, by omega, hlt, by go_num, by go_num, Lib.hid (by rw [List.length_set]; exact hL.out), Lib.hid fun x hx => ?_, Lib.hid fun x hx => ?_, Lib.hid ?_, Lib.hid ?_⟩, by simp [intOf]; omega⟩
      · by_cases hxi : x = i
        · subst hxi
          rw [List.getElem?_set_self (by exact hiL.out), List.getElem?_eraseIdx, if_neg (by omega), hij]
          exact hEj.out.symm
        · rw [List.getElem?_set_ne (by omega)]
          exact HA.out x (by omega)
      · rw [List.getElem?_set_ne (by omega)]
        exact HB.out x (by omega)
      · exact hst.out _ ho2.out
      · exact (ho3.out.setCell rfl _).setCell rfl _
    · obtain rfl : j = n := by omega
      obtain ⟨cur, hBg, hg, hnc2, hcm2, hcs, htk⟩ := own_parts hor.out
      have hcl : cur.toList.length = cap * 2 := by simpa using hcs
      have hcle := fun ty => run_clear_ent wr g (i * 2) (cap - i) ty _ hg (by rw [hcs]; omega)
      have hic : i < cap := by omega
      have hcn : ¬ cap = i := by omega
      have hX : Hid (j - i = 1) := by show _ = _; omega
      have hLt : L.take i = E.eraseIdx p := by
        apply List.ext_getElem?
        intro x
        rw [List.getElem?_take]
        by_cases hx : x < i
        · rw [if_pos hx]; exact HA.out x hx
        · rw [if_neg hx, List.getElem?_eq_none]
          have := List.length_eraseIdx_of_lt (l := E) (i := p) (by rw [← hn'.out]; exact hp0)
          rw [this, ← hn'.out]
          omega
      have htk2 : cur.toList.take (i * 2) = ecells (E.eraseIdx p) := by
        rw [← hLt, ← ecells_take, ← htk, List.take_take, Nat.min_eq_left (by omega)]
      have hfin : Hid ((wr.setRow g (cur.toList.take (i * 2) ++ Value.string ⟨#[]⟩ :: Value.string ⟨#[]⟩ :: cur.toList.drop (i * 2 + 2)).toArray).ownsRow B 68 2 (.slice (some ⟨g, 0, none⟩) (j - 1) cap) (j - 1) (ecells (E.eraseIdx p))) := by
        refine ⟨?_, .inr ⟨g, cap, _, rfl, hBg, setRow_heap wr g _ _ _ _ hg, by omega, hcm2, ?_, ?_⟩⟩
        · rw [ecells_length, List.length_eraseIdx_of_lt (by rw [← hn'.out]; exact hp0), ← hn'.out]
        · simp [hcl]; omega
        · rw [← htk2, show (j - 1) = i from by omega]
          show List.take _ (_ ++ _) = _
          refine List.take_left' ?_
          rw [List.length_take, hcl]
          omega
      have honly : Hid (∀ X : Array Value, Only w (wr.setRow g X) g) := by
        intro X
        have h9 := hon.out
        refine ⟨h9.os, h9.tape, h9.output, by simpa [World.setRow] using h9.size, fun x hx hne => ?_⟩
        have hkg : x ≠ g := fun e => hne (by rw [e])
        rw [setRow_other _ _ _ _ hkg]
        exact h9.block x hx hne
      have hji : Hid (j - 1 = i) := by show _ = _; omega
      have hij2 : i ≤ j := by omega
      rw [← hX.out] at hcle
      clear hX hg htk htk2 hLt hcl hcs
      go_wp2
      go_ret
      refine ⟨?_, hfin.out, honly.out _⟩
      rw [hji.out]
      rfl


set_option maxRecDepth 100000 in
set_option maxHeartbeats 6400000 in
theorem Put_old (A : Option Addr) (n c : Nat) (E : List Ent) (W H M : Int) (A2 : Option Addr) (n2 c2 : Nat) (P : List Int) (k u : ByteArray) (w : World) (h : En w A n c E) (h2 : Sl w A2 n2 c2 P) (hg : Good W H M P E) (hk : k.size ≤ 1000000000) (hu : u.size ≤ 1000000000) (hq : keyB k = true) (hr : valC u = 0) {p : Nat} (hp : PosOf E k p) (ha : isAt E k p = true) :
    Calls Try.prog 37 #[.agg #[.slice A n c, .int .i64 W, .int .i64 H, .int .i64 M, .slice A2 n2 c2], .string k, .string u] w (RetK w W H M P (E.set p (keyAt E p, u))) := by
  have hb0 := ((Below.refl w.heap.size w).alloc (Nat.le_refl _) (.cells #[.slice A n c, .int .i64 W, .int .i64 H, .int .i64 M, .slice A2 n2 c2] 27)).alloc (by simp) (.cells #[.slice none 0 0, .int .i64 0, .int .i64 0, .int .i64 0, .slice none 0 0] 27)
  have hE := (h.alloc (.cells #[.slice A n c, .int .i64 W, .int .i64 H, .int .i64 M, .slice A2 n2 c2] 27)).alloc (.cells #[.slice none 0 0, .int .i64 0, .int .i64 0, .int .i64 0, .slice none 0 0] 27)
  have hS := (h2.alloc (.cells #[.slice A n c, .int .i64 W, .int .i64 H, .int .i64 M, .slice A2 n2 c2] 27)).alloc (.cells #[.slice none 0 0, .int .i64 0, .int .i64 0, .int .i64 0, .slice none 0 0] 27)
  have hcon := Lib.hid (fCheck_any A n c E W H M A2 n2 c2 P _ hE hS (rasC_good hg))
  have k0 := (FB.new w (.slice A n c) (.int .i64 W) (.int .i64 H) (.int .i64 M) (.slice A2 n2 c2)).alloc (.cells #[.slice none 0 0, .int .i64 0, .int .i64 0, .int .i64 0, .slice none 0 0] 27)
  have k1 := FB.new (w.alloc (.cells #[.slice A n c, .int .i64 W, .int .i64 H, .int .i64 M, .slice A2 n2 c2] 27)) (.slice none 0 0) (.int .i64 0) (.int .i64 0) (.int .i64 0) (.slice none 0 0)
  simp only [World.size_alloc] at k1
  obtain rfl := h.1
  have hn : E.length ≤ 1000000 := by have := (metaC_zero hg.2).1; omega
  have hpn : p < E.length := by
    unfold isAt at ha
    exact (of_decide_eq_true ha).1
  have hik := Lib.hid (fun V => isKey_at hq V hk)
  have hcv := Lib.hid (fun V => checkValue_at hr V hu)
  have hfi := Lib.hid (fun V hV => ha ▸ find_any A E.length c E k p V hV hn hp)
  obtain ⟨hn2a, hn2b⟩ : 0 < n2 ∧ n2 ≤ 1000000 := by
    obtain ⟨⟨hW, hH, hM⟩, hPl, -⟩ := hg.1
    have := area hW.1 hW.2 hH.1 hH.2
    have := h2.len
    omega
  have hco := Lib.hid (fun V hV hV2 => copiedF_any A E.length c E W H M A2 n2 c2 P V hV hV2 hn hn2a hn2b)
  have hpi : (p : Int) < (E.length : Int) := by omega
  replace hr := Lib.hid hr
  replace hq := Lib.hid hq
  replace hg := Lib.hid hg
  replace hE := Lib.hid hE
  replace hS := Lib.hid hS
  clear h h2 hp ha
  go_enter Try.func37, Try.ntmps37
  go_upto_region 13 with (first
    | (go_at_call 14; refine hcon.out.mono ?_; rintro e w2 ⟨rfl, hb2⟩; have hE2 := hE.out.below hb2 (Nat.le_refl _); have hS2 := hS.out.below hb2 (Nat.le_refl _); simp only [World.size_alloc] at hb2; have hs2 := hb2.size; simp only [World.size_alloc] at hs2; obtain ⟨⟨x0, x1, x2, x3, x4⟩, y0, y1, y2, y3, y4⟩ := (k0.below hb2 (by omega)).cells; obtain ⟨⟨z0, z1, z2, z3, z4⟩, t0, t1, t2, t3, t4⟩ := (k1.below hb2 (by omega)).cells)
    | (go_at_call 67; refine (hik.out _).mono ?_; rintro e w3 ⟨rfl, hb3'⟩; have hb3 := hb2.trans (hb3'.mono (by omega)); have hs3 := hb3'.size; have hE3 := hE.out.below hb3 (by simp); have hS3 := hS.out.below hb3 (by simp); obtain ⟨⟨x0, x1, x2, x3, x4⟩, y0, y1, y2, y3, y4⟩ := (k0.below hb3 (by omega)).cells; obtain ⟨⟨z0, z1, z2, z3, z4⟩, t0, t1, t2, t3, t4⟩ := (k1.below hb3 (by omega)).cells)
    | (go_at_call 68; refine (hcv.out _).mono ?_; rintro e w4 ⟨rfl, hb4'⟩; have hb4 := hb3.trans (hb4'.mono (by omega)); have hs4 := hb4'.size; have hE4 := hE.out.below hb4 (by simp); have hS4 := hS.out.below hb4 (by simp); obtain ⟨⟨x0, x1, x2, x3, x4⟩, y0, y1, y2, y3, y4⟩ := (k0.below hb4 (by omega)).cells; obtain ⟨⟨z0, z1, z2, z3, z4⟩, t0, t1, t2, t3, t4⟩ := (k1.below hb4 (by omega)).cells)
    | (go_at_call 66; refine (hfi.out _ hE4).mono ?_; rintro e w5 ⟨rfl, hb5'⟩; have hb5 := hb4.trans (hb5'.mono (by omega)); have hs5 := hb5'.size; have hE5 := hE.out.below hb5 (by simp); have hS5 := hS.out.below hb5 (by simp); obtain ⟨⟨x0, x1, x2, x3, x4⟩, y0, y1, y2, y3, y4⟩ := (k0.below hb5 (by omega)).cells; obtain ⟨⟨z0, z1, z2, z3, z4⟩, t0, t1, t2, t3, t4⟩ := (k1.below hb5 (by omega)).cells)
    | (go_at_call 69; refine (hco.out _ hE5 hS5).mono ?_; rintro e w6 ⟨A', c1, g, kk, c', rfl, ho, hgw, hbl, hkk, hkc, hcm, hb6'⟩; subst hkk; have hb6 := hb5.trans (hb6'.mono (by omega)); have hs6 := hb6'.size; have k16 := (k1.below hb6 (by omega)).alloc (.cells #[.slice A' E.length c1, .int .i64 W, .int .i64 H, .int .i64 M, .slice (some ⟨g, 0, none⟩) P.length c'] 27)))
  obtain ⟨q, rfl, hqq, hql, cur, hh⟩ := own_at ho (by omega)
  have f6 := FB.new w6 (.slice (some ⟨q, 0, none⟩) E.length c1) (.int .i64 W) (.int .i64 H) (.int .i64 M) (.slice (some ⟨g, 0, none⟩) P.length c')
  have ho6 := World.ownsRow.alloc ho (.cells #[.slice (some ⟨q, 0, none⟩) E.length c1, .int .i64 W, .int .i64 H, .int .i64 M, .slice (some ⟨g, 0, none⟩) P.length c'] 27)
  have b6 := hbl.alloc (.cells #[.slice (some ⟨q, 0, none⟩) E.length c1, .int .i64 W, .int .i64 H, .int .i64 M, .slice (some ⟨g, 0, none⟩) P.length c'] 27)
  have k3 := k1.below hb6 (by omega)
  have hd3 := k3.lt
  have hB7 : Below w.heap.size w (w6.alloc (.cells #[.slice (some ⟨q, 0, none⟩) E.length c1, .int .i64 W, .int .i64 H, .int .i64 M, .slice (some ⟨g, 0, none⟩) P.length c'] 27)) := (hb0.trans (hb6.mono (by omega))).alloc (by omega) _
  have n1 : q ≠ w6.heap.size := Nat.ne_of_lt hql
  have n2' : q ≠ w.heap.size + 1 := ne_of_types hh k3 (by decide)
  have n3 := bl_ne hh hbl
  have hgl := hbl.lt
  obtain ⟨w7, hw7⟩ : ∃ w7, w6.alloc (.cells #[.slice (some ⟨q, 0, none⟩) E.length c1, .int .i64 W, .int .i64 H, .int .i64 M, .slice (some ⟨g, 0, none⟩) P.length c'] 27) = w7 := ⟨_, rfl⟩
  rw [hw7] at f6 ho6 b6 hB7 k16 ⊢
  clear hw7 k3 hb6' hb6
  try clear x0 x1 x2 x3 x4 y0 y1 y2 y3 y4 z0 z1 z2 z3 z4 t0 t1 t2 t3 t4
  have hzw : w.heap.size ≤ w6.heap.size := by omega
  have hd : w6.heap.size ≠ w.heap.size + 1 := by omega
  have hwq : w.heap.size ≤ q := by omega
  have hwg : w.heap.size ≤ g := by omega
  have hgz : g ≠ w6.heap.size := by omega
  have hgy : g ≠ w.heap.size + 1 := ne_of_types b6.choose_spec k16 (by decide)
  clear hgl hd3 hql hqq hgw hs6 hh cur
  generalize w6.heap.size = z at f6 k16 n1 hzw hd hgz ⊢
  obtain ⟨y, hy⟩ : ∃ y, w.heap.size + 1 = y := ⟨_, rfl⟩
  have hwy : w.heap.size ≤ y := by omega
  rw [hy] at k16 n2' hd hgy ⊢
  have hd2 := hd.symm
  have n1r := n1.symm
  have n2r := n2'.symm
  obtain ⟨⟨u0, u1, u2, u3, u4⟩, v0, v1, v2, v3, v4⟩ := f6.cells
  obtain ⟨⟨r0, r1, r2, r3, r4⟩, s0, s1, s2, s3, s4⟩ := k16.cells
  obtain ⟨cx, ce⟩ := cell_own ho6 (p * 2 + 1) (by omega)
  have fe := World.ownsRow.frozenAt ho6 (p * 2 + 1)
  go_wp2
  refine bodyPost_ret (v := .tuple #[.agg #[.slice (some ⟨q, 0, none⟩) E.length c1, .int .i64 W, .int .i64 H, .int .i64 M, .slice (some ⟨g, 0, none⟩) P.length c'], .int .i64 0]) (by simp [results, Try.results37, go_sem, r0, r1, r2, r3, r4, s0, s1, s2, s3, s4, u0, u1, u2, u3, u4, v0, v1, v2, v3, v4, hd, hd2, n1, n1r, n2', n2r, ce, fe]) rfl ?_
  have st := (World.ownsRow.stored ho6 (p * 2 + 1) (.string u)).1
  rw [ecells_set u hpn] at st
  refine ⟨some ⟨q, 0, none⟩, c1, g, P.length, c', by rw [List.length_set], ?_, hwg, ?_, rfl, hkc, hcm, ?_⟩
  · rw [List.length_set]
    repeat (refine own_far ?_ (fun x hx => by injection hx with hx; subst hx; exact n2') _)
    exact own_mono st (by omega)
  · repeat (refine Bl.far ?_ (by first | exact n3 | exact hgy) _)
    exact b6
  · repeat (refine Below.setCell ?_ (by first | exact hwy | exact hwq) _)
    exact hB7

end Go.Proofs.Ytfkoboljobghkaa
