/-
  Walk: Encode of package frame, where there is none; the entries written.
-/
import Derived.Test.YtfkoboljobghkaaFrCm
import Derived.Test.YtfkoboljobghkaaFrNu
import Derived.Test.YtfkoboljobghkaaFrRs
import Derived.Test.YtfkoboljobghkaaFrCh
import Derived.Test.YtfkoboljobghkaaFrAp
set_option linter.unusedSimpArgs false
set_option linter.unusedVariables false
namespace Go.Proofs.Ytfkoboljobghkaa
open Go.RowKit Go.Shelf

attribute [local go_sem] Oper.semAt_some

/-- A frame that can be written. -/
def Good (W H M : Int) (P : List Int) (E : List Ent) : Prop := Ras W H M P ∧ metaC E = 0

theorem Encode_no (A : Option Addr) (n c : Nat) (E : List Ent) (W H M : Int) (A2 : Option Addr) (n2 c2 : Nat) (P : List Int) (w : World) (h : En w A n c E) (h2 : Sl w A2 n2 c2 P) {r : Int} (hr : RasC W H M P E r) (hr0 : r ≠ 0) :
    Calls Try.prog 31 #[.agg #[.slice A n c, .int .i64 W, .int .i64 H, .int .i64 M, .slice A2 n2 c2]] w fun e w' => e = .returned (.tuple #[.slice none 0 0, .int .i64 r]) ∧ Below w.heap.size w w' := by
  have hb0 := (Below.refl w.heap.size w).alloc (Nat.le_refl _) (.cells #[.slice A n c, .int .i64 W, .int .i64 H, .int .i64 M, .slice A2 n2 c2] 27)
  have hcon := Lib.hid (fCheck_any A n c E W H M A2 n2 c2 P _ (h.alloc (.cells #[.slice A n c, .int .i64 W, .int .i64 H, .int .i64 M, .slice A2 n2 c2] 27)) (h2.alloc _) hr)
  have hne : (r != 0) = true := by simp [hr0]
  replace hr0 := Lib.hid hr0
  replace hr := Lib.hid hr
  go_enter Try.func31, Try.ntmps31
  go_wp2_with (go_at_call 14; refine hcon.out.mono ?_; rintro e w2 ⟨rfl, hb2⟩)
  exact bodyPost_ret (v := .tuple #[.slice none 0 0, .int .i64 r]) (by simp [results, Try.results31, go_sem]) rfl ⟨rfl, hb0.trans (hb2.mono (by simp))⟩

theorem box5 {w : World} {g : Nat} {x0 x1 x2 x3 x4 : Value} {t : TypeId} (h : w.heap[g]? = some (.cells #[x0, x1, x2, x3, x4] t (0, 0))) :
    w.cell? ⟨g, 0, none⟩ = some x0 ∧ w.cell? ⟨g, 1, none⟩ = some x1 ∧ w.cell? ⟨g, 2, none⟩ = some x2 ∧ w.cell? ⟨g, 3, none⟩ = some x3 ∧ w.cell? ⟨g, 4, none⟩ = some x4 := by
  refine ⟨?_, ?_, ?_, ?_, ?_⟩
  all_goals rw [cell_of_row w g _ _ _ _ h]; rfl

theorem Wb.alloc {w : World} {B g : Nat} {D bs : List Int} (h : Wb w B g D bs) (o : Obj) : Wb (w.alloc o) B g D bs := h.below ((Below.refl _ _).alloc (Nat.le_refl _) o)

/-- Code that does not panic. -/
theorem wp_calm {P : Program} {c : Code} {K : Act → World → Prop} {Q : Exit → Act → World → Prop} {a : Act} {w : World} (h : c.wp P (Exit.then K (fun _ _ _ => False)) a w) : c.wp P (Exit.then K Q) a w :=
  Code.wp_mono (fun e a w h => by cases e <;> first | exact h | exact h.elim) h

theorem txt_append (a b : ByteArray) : txt (a ++ b) = txt a ++ txt b := by simp [txt]
theorem ent_txt (k v : ByteArray) : txt (k ++ ⟨#[32]⟩ ++ v ++ ⟨#[10]⟩) = ent (k, v) := by
  rw [txt_append, txt_append, txt_append]
  rfl
theorem ents_take {E : List Ent} {j : Nat} (h : j < E.length) : (E.take (j + 1)).flatMap ent = (E.take j).flatMap ent ++ ent (keyAt E j, valAt E j) := by
  rw [List.take_add_one, List.getElem?_eq_getElem h]
  simp only [keyAt, valAt, List.getD, List.getElem?_eq_getElem h, Option.toList, Option.getD_some, List.flatMap_append, List.flatMap_cons, List.flatMap_nil, List.append_nil]

theorem snoc_ind {Q : List Nat → Prop} (h0 : Q []) (h : ∀ ys y, Q ys → Q (ys ++ [y])) : ∀ ys, Q ys := fun ys => by
  have : ∀ l : List Nat, Q l.reverse := fun l => by
    induction l with
    | nil => exact h0
    | cons x l ih => rw [List.reverse_cons]; exact h _ _ ih
  simpa using this ys.reverse

/-- The writer behind a row. -/
def stp (a : Nat) (R : List Int) (s : List Int × List Int) (y : Nat) : List Int × List Int := (s.1 ++ pack s.2 ++ [(best (rowOf a R y) : Int)], codes (best (rowOf a R y)) (rowOf a R y))
theorem stp_bytes (a : Nat) (R D : List Int) : ∀ ys : List Nat, (ys.foldl (stp a R) (D, [])).1 ++ pack (ys.foldl (stp a R) (D, [])).2 = D ++ ys.flatMap fun y => rowB (rowOf a R y) := by
  refine snoc_ind (by simp [pack_nil]) fun ys y ih => ?_
  · rw [List.foldl_append, List.flatMap_append]
    simp only [List.foldl_cons, List.foldl_nil, List.flatMap_cons, List.flatMap_nil, List.append_nil]
    show _ ++ pack _ ++ [_] ++ pack _ = _
    rw [ih, rowB, List.append_assoc, List.append_assoc]
    rfl
theorem row_of (a : Nat) {R : List Int} (h : Row R) (y : Nat) : Row (rowOf a R y) := fun v hv => h v (List.mem_of_mem_drop (List.mem_of_mem_take hv))
theorem stp_length (a : Nat) {R : List Int} (D : List Int) (hR : Row R) (ha : a ≤ 64) : ∀ ys : List Nat, (ys.foldl (stp a R) (D, [])).1.length ≤ D.length + ys.length * 524500 ∧ (ys.foldl (stp a R) (D, [])).2.length ≤ 4195328 := by
  refine snoc_ind (by simp) fun ys y ih => ?_
  · rw [List.foldl_append]
    simp only [List.foldl_cons, List.foldl_nil]
    have hc := codes_length (row_of a hR y) (best (rowOf a R y)) (best_le _) _ (Nat.le_refl _)
    rw [List.take_length] at hc
    have hl : (rowOf a R y).length ≤ a := by unfold rowOf; rw [List.length_take]; omega
    have hl2 : (rowOf a R y).length * 65552 ≤ 64 * 65552 := Nat.mul_le_mul_right _ (by omega)
    refine ⟨?_, by show (codes _ _).length ≤ _; omega⟩
    show (_ ++ pack _ ++ [_]).length ≤ _
    rw [List.length_append, List.length_append, pack_length, List.length_append]
    simp only [List.length_cons, List.length_nil]
    omega

theorem metaC_zero {E : List Ent} (h : metaC E = 0) : E.length ≤ 32 ∧ ∀ j, j < E.length → entC E j = 0 := by
  have hl : ¬ 32 < E.length := fun hl => by unfold metaC at h; rw [if_pos hl] at h; cases h
  refine ⟨by omega, ?_⟩
  intro j
  induction j using Nat.strongRecOn with
  | ind j ih =>
    intro hj
    by_cases e : entC E j = 0
    · exact e
    · have := metaC_hit hl hj (fun i hi => ih i hi (by omega)) e
      rw [h] at this
      exact absurd this.symm e
theorem entC_zero {E : List Ent} {j : Nat} (h : entC E j = 0) : (keyAt E j).size ≤ 24 ∧ (valAt E j).size ≤ 120 := by
  unfold entC at h
  by_cases h1 : keyB (keyAt E j) = false
  · rw [if_pos h1] at h; cases h
  · rw [if_neg h1] at h
    by_cases h2 : 0 < j ∧ less (keyAt E (j - 1)) (keyAt E j) = false
    · rw [if_pos h2] at h; cases h
    · rw [if_neg h2] at h
      have hk : keyB (keyAt E j) = true := by simpa using h1
      unfold keyB at hk
      rw [Bool.and_eq_true] at hk
      have := (win_iff.1 hk.1).2
      refine ⟨by omega, ?_⟩
      unfold valC at h
      by_cases h3 : 120 < (valAt E j).size
      · rw [if_pos h3] at h; cases h
      · omega
theorem ent_length (k v : ByteArray) : (ent (k, v)).length = k.size + v.size + 2 := by simp [ent, txt_length]; omega
theorem ents_length {E : List Ent} (h : metaC E = 0) : ∀ j, j ≤ E.length → ((E.take j).flatMap ent).length ≤ j * 146 := by
  intro j
  induction j with
  | zero => intro _; simp
  | succ j ih =>
    intro hj
    rw [ents_take (by omega), List.length_append, ent_length]
    have := ih (by omega)
    have := entC_zero ((metaC_zero h).2 j (by omega))
    omega

set_option maxRecDepth 100000 in
set_option maxHeartbeats 6400000 in
theorem Encode_yes (A : Option Addr) (n c : Nat) (E : List Ent) (W H : Nat) (M : Int) (A2 : Option Addr) (n2 c2 : Nat) (P : List Int) (w : World) (h : En w A n c E) (h2 : Sl w A2 n2 c2 P) (hg : Good W H M P E) :
    Calls Try.prog 31 #[.agg #[.slice A n c, .int .i64 (W : Int), .int .i64 (H : Int), .int .i64 M, .slice A2 n2 c2]] w fun e w' =>
      ∃ r c', e = .returned (.tuple #[.slice (some ⟨r, 0, none⟩) (fileB E W H M P).length c', .int .i64 0]) ∧ Ob w' w.heap.size r c' (fileB E W H M P) ∧ Below w.heap.size w w' := by
  obtain ⟨hr, hm⟩ := hg
  obtain ⟨i0, hi, hz0, hz1, hz2⟩ := info_parts infoB
  have hb0 := (Below.refl w.heap.size w).alloc (Nat.le_refl _) (.cells #[.slice A n c, .int .i64 (W : Int), .int .i64 (H : Int), .int .i64 M, .slice A2 n2 c2] 27)
  have hrc : RasC (W : Int) (H : Int) M P E 0 := Or.inr ⟨hr, hm.symm⟩
  have hE1 := h.alloc (.cells #[.slice A n c, .int .i64 (W : Int), .int .i64 (H : Int), .int .i64 M, .slice A2 n2 c2] 27)
  have hS1 := h2.alloc (.cells #[.slice A n c, .int .i64 (W : Int), .int .i64 (H : Int), .int .i64 M, .slice A2 n2 c2] 27)
  have hcon := Lib.hid (fCheck_any A n c E (W : Int) (H : Int) M A2 n2 c2 P _ hE1 hS1 hrc)
  replace hE1 := Lib.hid hE1
  replace hS1 := Lib.hid hS1
  replace hrc := Lib.hid hrc
  have hlen := h.1
  have hcap := h.2.1
  have hcl := h.2.2.1
  have hm32 := (metaC_zero hm).1
  have hn32 : n ≤ 32 := by omega
  replace hm32 := Lib.hid hm32
  replace hlen := Lib.hid hlen
  have hme := Lib.hid (metaC_zero hm).2
  have hml := Lib.hid (ents_length hm)
  replace h := Lib.hid h
  replace h2 := Lib.hid h2
  replace hr := Lib.hid hr
  replace hm := Lib.hid hm
  refine (callsIn_wide (n := 6)).1 ?_
  refine callsIn_of_wp_marks Try.func31 rfl trivial ?_ rfl
  simp only [Try.ntmps31, List.size_toArray, List.length_cons, List.length_nil, Nat.reduceAdd, Nat.reduceSub, Array.replicate_succ, Array.replicate_zero, List.push_toArray, List.append_toArray, List.nil_append, List.cons_append]
  have hconv := fun (W : World) => Lib.run_convert_bytes_const (P := Try.prog) W 53 5 #[.int .u8 70, .int .u8 82, .int .u8 65, .int .u8 77, .int .u8 69, .int .u8 49, .int .u8 10] 7 7 Try.underlying53 Try.underlying5
  simp only [List.size_toArray, List.length_cons, List.length_nil, Nat.reduceAdd] at hconv
  refine wpIn_wide.2 ?_
  go_wp2_with (go_at_call 14; refine hcon.out.mono ?_; rintro e w2 ⟨rfl, hb2⟩; obtain ⟨x0, x1, x2, x3, x4⟩ := box5 ((hb2.block w.heap.size (by simp)).trans (heap_alloc_new w _)); have hszx : w.heap.size < w2.heap.size := Nat.lt_of_lt_of_le (by simp) hb2.size)
  have hsz2 : w.heap.size + 1 ≤ w2.heap.size := by have := hb2.size; simpa using this
  have hfb0 : (w2.alloc (.cells #[.int .u8 70, .int .u8 82, .int .u8 65, .int .u8 77, .int .u8 69, .int .u8 49, .int .u8 10] 5 (7, 8))).heap[w.heap.size]? = some (.cells #[.slice A n c, .int .i64 (W : Int), .int .i64 (H : Int), .int .i64 M, .slice A2 n2 c2] 27 (0, 0)) := by
    rw [Below.heap_alloc w2 _ w.heap.size (by omega), hb2.block w.heap.size (by simp)]
    exact heap_alloc_new w _
  have hob0 : FS (w2.alloc (.cells #[.int .u8 70, .int .u8 82, .int .u8 65, .int .u8 77, .int .u8 69, .int .u8 49, .int .u8 10] 5 (7, 8))) w.heap.size w2.heap.size 7 headB := .inr ⟨rfl, fun j u hu => by
    rw [Addr.add_lit, Nat.zero_add, cell_of_row _ w2.heap.size j _ _ _ (heap_alloc_new w2 _)]
    rw [← List.getElem?_toArray] at hu
    exact hu⟩
  have hbB : Below w.heap.size w (w2.alloc (.cells #[.int .u8 70, .int .u8 82, .int .u8 65, .int .u8 77, .int .u8 69, .int .u8 49, .int .u8 10] 5 (7, 8))) := (hb0.trans (hb2.mono (by simp))).alloc (by omega) _
  go_loopw [5, 22] (fun f i wr => ∃ (k r c' q : Nat) (l : List Int), k ≤ n ∧ i = .int .i64 (k : Int) ∧ f = .slice (some ⟨r, 0, none⟩) q c' ∧ Hid (q = l.length) ∧ Hid (l = headB ++ (E.take k).flatMap ent) ∧ FS wr w.heap.size r c' l ∧ 0 < l.length ∧
    wr.heap[w.heap.size]? = some (.cells #[.slice A n c, .int .i64 (W : Int), .int .i64 (H : Int), .int .i64 M, .slice A2 n2 c2] 27 (0, 0)) ∧ Below w.heap.size w wr ∧ w.heap.size + 1 ≤ wr.heap.size) (fun _ i _ => n - (intOf i).toNat)
  case atStart => exact ⟨0, w2.heap.size, 7, 7, headB, Nat.zero_le _, rfl, rfl, Lib.hid rfl, Lib.hid (by simp), hob0, by decide, hfb0, hbB, by simp; omega⟩
  case round =>
    obtain ⟨k, r, c', q, l, hk, rfl, rfl, hql, hl, hob, hl0, hfb, hB, hsz⟩ := hrel
    by_cases hlt : k < n
    · obtain ⟨b, off, rfl, hbw, hc⟩ := (h.out.below hB (Nat.le_refl _)).at_ (by omega)
      obtain ⟨c0, c1⟩ := hc k hlt
      clear hc
      obtain ⟨s0, s1⟩ := entC_zero (hme.out k (by rw [← hlen.out]; exact hlt))
      have htk := Lib.hid (ents_take (E := E) (j := k) (by rw [← hlen.out]; exact hlt))
      have hll : q ≤ 10000 := by
        rw [hql.out, hl.out, List.length_append]
        have := hml.out k (by rw [← hlen.out]; exact hk)
        have h7 : headB.length = 7 := rfl
        omega
      obtain ⟨ks, hks⟩ : ∃ s, keyAt E k = s := ⟨_, rfl⟩
      obtain ⟨vs, hvs⟩ : ∃ s, valAt E k = s := ⟨_, rfl⟩
      rw [hks] at c0 s0 htk
      rw [hvs] at c1 s1 htk
      obtain ⟨p, hp⟩ : ∃ p, k * 2 = p := ⟨_, rfl⟩
      rw [hp] at c0 c1
      have z1 : (ks ++ (⟨#[32]⟩ : ByteArray)).size ≤ 1000 := by rw [ByteArray.size_append]; show ks.size + 1 ≤ 1000; omega
      have z2 : (ks ++ (⟨#[32]⟩ : ByteArray) ++ vs).size ≤ 1000 := by rw [ByteArray.size_append, ByteArray.size_append]; show ks.size + 1 + vs.size ≤ 1000; omega
      have z3 : (ks ++ (⟨#[32]⟩ : ByteArray) ++ vs ++ ⟨#[10]⟩).size ≤ 1000 := by rw [ByteArray.size_append, ByteArray.size_append, ByteArray.size_append]; show ks.size + 1 + vs.size + 1 ≤ 1000; omega
      replace hks := Lib.hid hks
      replace hvs := Lib.hid hvs
      have z4 : 1 ≤ (ks ++ (⟨#[32]⟩ : ByteArray) ++ vs ++ ⟨#[10]⟩).size := by rw [ByteArray.size_append]; show 1 ≤ _ + 1; omega
      have hql2 := hql.out
      replace hlen1 : l.length ≤ 1000000 := by omega
      have hEnt := Lib.hid (ent_txt ks vs)
      replace hob := Lib.hid hob
      clear hql2
      go_wp2_with (at_builtin; refine step_app_str _ rfl _ _ rfl Try.underlying9 w.heap.size r c' q l _ rfl rfl hql.out (hob.out.alloc _) hl0 z4 hlen1 (by omega) (by simp; omega) ?_)
      intro r2 c5 w5 hob5 hk5
      rw [hEnt.out] at hob5
      have hsz5 := (hk5 0).size
      simp only [World.size_alloc] at hsz5
      go_wp2
      refine ⟨⟨k + 1, r2, c5, _, l ++ ent (ks, vs), hlt, by go_num, rfl, Lib.hid ?_, Lib.hid ?_, .inl hob5, by rw [List.length_append]; omega, ?_, (hB.alloc (by omega) _).trans (hk5 0).1, by omega⟩, by simp [intOf]; omega⟩
      · rw [List.length_append, ← hEnt.out, txt_length, ← hql.out, ByteArray.size_append, ByteArray.size_append, ByteArray.size_append]; rfl
      · rw [htk.out, ← List.append_assoc, ← hl.out]
      · rw [(hk5 (w.heap.size + 1 + wr.heap.size)).2.2 w.heap.size (by simp; omega) (by omega) (fun cs fr e => by rw [Below.heap_alloc wr _ w.heap.size (by omega), hfb] at e; cases e), Below.heap_alloc wr _ w.heap.size (by omega)]
        exact hfb
    · obtain rfl : k = n := by omega
      have hD : Hid (l = headB ++ E.flatMap ent) := Lib.hid (by rw [hl.out, List.take_of_length_le (by rw [← hlen.out]; exact Nat.le_refl _)])
      have hll : q ≤ 10000 := by
        rw [hql.out, hl.out, List.length_append]
        have := hml.out k (by rw [← hlen.out]; exact hk)
        have h7 : headB.length = 7 := rfl
        omega
      have hl1 : l.length ≤ 1000000 := by have := hql.out; omega
      replace hob := Lib.hid hob
      go_wp2_with (at_builtin; refine step_app_row _ rfl _ _ rfl w.heap.size r c' q l [10] wr.heap.size 0 1 1 rfl rfl hql.out rfl (hob.out.alloc _) hl0 (by simp) hl1 (by simp) (by simp; omega) ?hnews ?_)
      case hnews =>
        intro j u hj
        match j, hj with
        | 0, hj => simp [cells8] at hj; subst hj; simp [Addr.add, go_sem]
        | (j + 1), hj => simp [cells8] at hj
      intro r5 c5 w5 hob5 hk5
      have hsz5 := (hk5 0).size
      simp only [World.size_alloc] at hsz5
      have hfb5 : w5.heap[w.heap.size]? = some (.cells #[.slice A k c, .int .i64 (W : Int), .int .i64 (H : Int), .int .i64 M, .slice A2 n2 c2] 27 (0, 0)) := by
        rw [(hk5 (w.heap.size + 1 + wr.heap.size)).2.2 w.heap.size (by simp; omega) (by omega) (fun cs fr e => by rw [Below.heap_alloc wr _ w.heap.size (by omega), hfb] at e; cases e), Below.heap_alloc wr _ w.heap.size (by omega)]
        exact hfb
      have hB5 : Below w.heap.size w w5 := (hB.alloc (by omega) _).trans (hk5 0).1
      obtain ⟨x0, x1, x2, x3, x4⟩ := box5 hfb5
      have hq1 : q + 1 = (l ++ [10]).length := by rw [List.length_append, ← hql.out]; rfl
      have hWb0 : Wb (w5.alloc (.cells #[.slice (some ⟨r5, 0, none⟩) (q + 1) c5, .int .i64 0] 90)) w.heap.size w5.heap.size (l ++ [10]) [] := by
        refine ⟨IsBits.nil, r5, c5, ?_, by omega, ?_, by rw [List.length_append]; omega, ?_⟩
        · rw [heap_alloc_new, pack_nil, List.append_nil, ← hq1]; rfl
        · rw [pack_nil, List.append_nil]; exact hob5.alloc _
        · have := hob5.facts.2.1; omega
      have hlD : (l ++ [10]).length ≤ 1000001 := by omega
      replace hWb0 := Lib.hid hWb0
      replace hob5 := Lib.hid hob5
      have hszy : w.heap.size < w5.heap.size := by omega
      replace hq1 := Lib.hid hq1
      clear hob hk5 hfb
      go_wp2
      have hWm : ∃ ws : List Int, ws = [(W : Int), (H : Int), M] := ⟨_, rfl⟩
      obtain ⟨ws, hws⟩ := hWm
      have hwn : ∀ j, j < 3 → 0 ≤ nth ws j ∧ nth ws j ≤ 65535 := by
        intro j hj
        have := hr.out.1
        rw [hws]
        match j, hj with
        | 0, _ => simp [nth]; omega
        | 1, _ => simp [nth]; omega
        | 2, _ => simp [nth]; omega
      have hwl : ws.length = 3 := by rw [hws]; rfl
      obtain ⟨w6, hw6⟩ : ∃ w6, w5.alloc (.cells #[.slice (some ⟨r5, 0, none⟩) (q + 1) c5, .int .i64 0] 90) = w6 := ⟨_, rfl⟩
      have hs6 : w6.heap.size = w5.heap.size + 1 := by rw [← hw6]; simp
      have hbl7 : Bl (w6.alloc (.cells #[.int .i64 (W : Int), .int .i64 (H : Int), .int .i64 M] 3)) (w5.heap.size + 1) ws := by
        rw [← hs6, hws]; exact Bl.new w6 [(W : Int), (H : Int), M]
      have hfb6 : w6.heap[w.heap.size]? = some (.cells #[.slice A k c, .int .i64 (W : Int), .int .i64 (H : Int), .int .i64 M, .slice A2 n2 c2] 27 (0, 0)) := by
        rw [← hw6, Below.heap_alloc w5 _ w.heap.size (by omega)]; exact hfb5
      have hB6 : Below w.heap.size w w6 := by rw [← hw6]; exact hB5.alloc (by omega) _
      rw [hw6] at hWb0 ⊢
      have hlw : ∀ j, j ≤ 3 → ((ws.take j).flatMap word).length = 4 * j := by
        intro j hj
        rw [hws]
        match j, hj with
        | 0, _ => rfl
        | 1, _ => rfl
        | 2, _ => rfl
        | 3, _ => rfl
      have hwt : ∀ j, j < 3 → (ws.take (j + 1)).flatMap word = (ws.take j).flatMap word ++ word (nth ws j) := by
        intro j hj
        rw [take_succ_nth (by rw [hwl]; exact hj)]
        simp
      replace hws := Lib.hid hws
      replace hwn := Lib.hid hwn
      replace hlw := Lib.hid hlw
      replace hwt := Lib.hid hwt
      go_loopw [51] (fun i wr => ∃ (j : Nat), j ≤ 3 ∧ i = .int .i64 (j : Int) ∧ Hid (Wb wr w.heap.size w5.heap.size (l ++ [10] ++ (ws.take j).flatMap word) []) ∧ Kx w.heap.size w5.heap.size (w6.alloc (.cells #[.int .i64 (W : Int), .int .i64 (H : Int), .int .i64 M] 3)) wr) (fun i _ => 3 - (intOf i).toNat)
      case atStart => exact ⟨0, by omega, rfl, Lib.hid (by simpa using hWb0.out.alloc _), Kx.refl _ _ _⟩
      case round =>
        obtain ⟨j, hj, rfl, hW, hK⟩ := hrel
        have hszr := hK.size
        simp only [World.size_alloc] at hszr
        by_cases hlt : j < 3
        · have hcell := (hK.bl hbl7 (by omega)).cell (i := j) (by rw [hwl]; exact hlt)
          obtain ⟨v1, v2⟩ := hwn.out j hlt
          have hwt1 := Lib.hid (hwt.out j hlt)
          obtain ⟨v, hv⟩ : ∃ v, nth ws j = v := ⟨_, rfl⟩
          rw [hv] at hcell v1 v2 hwt1
          have hll2 : (l ++ [10] ++ (ws.take j).flatMap word).length ≤ 100000000 := by rw [List.length_append, hlw.out j hj]; omega
          have hcall := Lib.hid (wnum_any w.heap.size w5.heap.size v _ wr hW.out (by omega) hll2 v1 v2)
          replace hv := Lib.hid hv
          clear hll2
          go_wp2_with (go_at_call 61; refine hcall.out.mono ?_; rintro e w8 ⟨⟨u, rfl⟩, hW8, hK8⟩; replace hW8 := Lib.hid hW8)
          refine ⟨⟨j + 1, hlt, by go_num, Lib.hid ?_, hK.trans hK8⟩, by simp [intOf]; omega⟩
          rw [hwt1.out, ← List.append_assoc]
          exact hW8.out
        · obtain rfl : j = 3 := by omega
          have hfbr : wr.heap[w.heap.size]? = some (.cells #[.slice A k c, .int .i64 (W : Int), .int .i64 (H : Int), .int .i64 M, .slice A2 n2 c2] 27 (0, 0)) := by
            rw [hK.2.2 w.heap.size (by simp; omega) (by omega) (fun cs fr e => by rw [Below.heap_alloc w6 _ w.heap.size (by omega), hfb6] at e; cases e), Below.heap_alloc w6 _ w.heap.size (by omega)]
            exact hfb6
          have hBr := (hB6.alloc (by omega) (.cells #[.int .i64 (W : Int), .int .i64 (H : Int), .int .i64 M] 3)).trans hK.1
          obtain ⟨y0, y1, y2, y3, y4⟩ := box5 hfbr
          have hpos := hr.out.pos
          have hn2p : 0 < n2 := by rw [h2.out.len]; exact hpos.1
          obtain ⟨pb, poff, rfl, -, -⟩ := h2.out.at_ hn2p
          have hpx := h2.out.below hBr (Nat.le_refl _)
          have hres := Lib.hid (fun Wd (hWd : Sl Wd (some ⟨pb, poff, none⟩) n2 c2 P) => residualsOf_any W H M pb poff n2 c2 P Wd hWd hr.out)
          have hW1 : 1 ≤ W := by have := hr.out.1; omega
          have hW64 : W ≤ 64 := by have := hr.out.1; omega
          have hH64 : H ≤ 64 := by have := hr.out.1; omega
          have hnHW : n2 = H * W := by
            have h5 := hr.out.2.1
            have h6 := h2.out.len
            have h7 : ((H * W : Nat) : Int) = (W : Int) * (H : Int) := by rw [Nat.mul_comm]; simp
            omega
          have hn4 : n2 ≤ 4096 := by have := h2.out.len; omega
          replace hpx := Lib.hid hpx
          replace hnHW := Lib.hid hnHW
          replace hpos := Lib.hid hpos
          have hltr : w.heap.size < wr.heap.size := by omega
          clear hbl7
          go_wp2
          refine wp_calm ?_
          go_region_with (first | (go_at_call 50; refine (hres.out _ (by exact hpx.out)).mono ?_; rintro e w8 ⟨rg, rfl, hrg8, hRb, hb8⟩; have z1 := (hb8.cell (p := ⟨w.heap.size, 1, none⟩) hltr).trans y1) | (go_at_call 62; refine (Chunk_any _ _ _ _ _ hW1).mono ?_; rintro e w9 ⟨rfl, hw9⟩))
          all_goals go_wp2
          all_goals
            have hb8' : Below wr.heap.size wr w8 := undrew hb8
            have hs8 := hb8'.size
            subst hw9
            refine (wpIn_wide (n := 6)).1 ?_
            have hRr : Row (residuals W M P) := by
              intro v hv
              obtain ⟨i, hi, rfl⟩ := List.mem_iff_getElem.1 hv
              rw [residuals_length] at hi
              rw [← nth_eq (by rw [residuals_length]; exact hi), nth_residuals hi]
              have hm1 := hr.out.1
              have := resid_range (r := (nth P i - predI W P i + (M + 1)) % (M + 1)) (m := M + 1) (Int.emod_nonneg _ (by omega)) (Int.emod_lt_of_pos _ (by omega))
              unfold residI
              omega
            have hRl : (residuals W M P).length = H * W := by rw [residuals_length, ← h2.out.len, hnHW.out]
            have hDl : (l ++ [10] ++ (ws.take 3).flatMap word).length ≤ 1000013 := by rw [List.length_append, hlw.out 3 (by omega)]; omega
            have hW8 : Wb w8 w.heap.size w5.heap.size (l ++ [10] ++ (ws.take 3).flatMap word) [] := hW.out.below hb8'
            have hR9 := (hRb.alloc (.cells #[.slice (some ⟨rg, 0, none⟩) n2 n2] 23)).alloc (.cells #[.int .i64 (W : Int)] 3)
            obtain ⟨w9, hw9⟩ : ∃ w9, (w8.alloc (.cells #[.slice (some ⟨rg, 0, none⟩) n2 n2] 23)).alloc (.cells #[.int .i64 (W : Int)] 3) = w9 := ⟨_, rfl⟩
            have hs9 : w9.heap.size = w8.heap.size + 2 := by rw [← hw9]; simp
            have hK9 : Kx w.heap.size w5.heap.size wr w9 := by rw [← hw9]; exact ((Kx.of_below hb8' (by omega)).alloc (by omega) _).alloc (by omega) _
            have hB9 : Below w.heap.size w w9 := hBr.trans hK9.1
            have e1 : w9.heap[w8.heap.size]? = some (.cells #[.slice (some ⟨rg, 0, none⟩) n2 n2] 23 (0, 0)) := by rw [← hw9, Below.heap_alloc _ _ w8.heap.size (by simp)]; exact heap_alloc_new w8 _
            have e2 : w9.heap[w8.heap.size + 1]? = some (.cells #[.int .i64 (W : Int)] 3 (0, 0)) := by
              rw [← hw9]
              have := heap_alloc_new (w8.alloc (.cells #[.slice (some ⟨rg, 0, none⟩) n2 n2] 23)) (.cells #[.int .i64 (W : Int)] 3)
              rw [World.size_alloc] at this
              exact this
            have hW9 : Wb w9 w.heap.size w5.heap.size (l ++ [10] ++ (ws.take 3).flatMap word) [] := by rw [← hw9]; exact (hW8.alloc _).alloc _
            rw [hw9] at hR9 ⊢
            have hrg9 : rg ≠ w5.heap.size := by have : w5.heap.size < wr.heap.size := by omega
                                                simp only [World.size_drew] at hrg8
                                                omega
            refine range_own 65 11 (gf := 80) (lb := #[.pointer (some ⟨w8.heap.size, 0, none⟩), .pointer (some ⟨w8.heap.size + 1, 0, none⟩)]) rfl (enters_of Try.func80 (by kernel_rfl) rfl)
              (fun x : Ix H => Value.slice (some ⟨rg, x.1 * W, none⟩) W W) (chunk_seq w.heap.size w5.heap.size rg n2 n2 W H w8.heap.size (w8.heap.size + 1) w9 hnHW.out hW1 (by omega) (Nat.le_refl _) (by omega) (by omega) (by omega) e1 e2)
              (fun h k => h.trans k) (Kc.book (by omega))
              (fun (pre : List (Ix H)) W' => Wb W' w.heap.size w5.heap.size ((pre.map (·.1)).foldl (stp W (residuals W M P)) (l ++ [10] ++ (ws.take 3).flatMap word, [])).1 ((pre.map (·.1)).foldl (stp W (residuals W M P)) (l ++ [10] ++ (ws.take 3).flatMap word, [])).2 ∧ Kx w.heap.size w5.heap.size w9 W')
              ?hI ⟨hW9, Kx.refl _ _ _⟩ ?assign ?body ?done
            case hI => exact fun s W1 W2 row h hg hr => ⟨h.1.grown hg (fun r e => (hr r e).2), h.2.grownB (by omega) hg (fun r e => (hr r e).1)⟩
            case assign =>
              intro lo x W1 K hK1
              simp only [List.setIfInBounds_toArray, List.set_cons_succ, List.set_cons_zero] at hK1 ⊢
              gi_wp2
              exact hK1
            case body =>
              rintro lo pre ⟨x, hx⟩ W1 ⟨hWp, hKp⟩ hpl
              have hstl := stp_length W (l ++ [10] ++ (ws.take 3).flatMap word) hRr hW64 (pre.map (·.1))
              rw [List.length_map] at hstl
              have hxa : x * W + W ≤ (residuals W M P).length := by
                rw [hRl, ← Nat.succ_mul]; exact Nat.mul_le_mul_right W hx
              obtain ⟨D1, hD1⟩ : ∃ D1, ((pre.map (·.1)).foldl (stp W (residuals W M P)) (l ++ [10] ++ (ws.take 3).flatMap word, [])).1 = D1 := ⟨_, rfl⟩
              obtain ⟨b1, hb1⟩ : ∃ b1, ((pre.map (·.1)).foldl (stp W (residuals W M P)) (l ++ [10] ++ (ws.take 3).flatMap word, [])).2 = b1 := ⟨_, rfl⟩
              have hstep : (((pre ++ [(⟨x, hx⟩ : Ix H)]).map (·.1)).foldl (stp W (residuals W M P)) (l ++ [10] ++ (ws.take 3).flatMap word, [])) = (D1 ++ pack b1 ++ [(best (rowOf W (residuals W M P) x) : Int)], codes (best (rowOf W (residuals W M P) x)) (rowOf W (residuals W M P) x)) := by
                rw [List.map_append, List.foldl_append, ← hD1, ← hb1]
                rfl
              rw [hD1, hb1] at hWp hstl
              have hcall := Lib.hid (wrow_any w.heap.size w5.heap.size rg (x * W) W W _ (rowOf W (residuals W M P) x) D1 b1 W1 hWp (Nat.le_trans (by omega) hKp.size) (by omega) (hKp.bl hR9 hrg9) hrg9 hxa rfl (by omega) (Nat.le_refl _) (by omega) (row_of W hRr x))
              have hbg : ∃ cs t fr, W1.heap[w5.heap.size]? = some (.cells cs t fr) := by
                obtain ⟨-, r, c, hbox, -⟩ := hWp
                exact ⟨_, _, _, hbox⟩
              replace hstep := Lib.hid hstep
              simp only [List.setIfInBounds_toArray, List.set_cons_succ, List.set_cons_zero]
              gi_wp2_with (refine ⟨trivial, ?_⟩; gi_at_call 63; refine (CallsIn.inRound lo (callsIn_wide.2 hcall.out)).mono ?_; rintro e w' ⟨⟨u, rfl⟩, hW2, hK2⟩)
              obtain ⟨cs, tt, fr, hbg⟩ := hbg
              refine ⟨hK2.keeps hbg _, Kc.of hK2, ?_, hKp.trans hK2⟩
              rw [hstep.out]
              exact hW2
            case done =>
              rintro Dd ys W1 hDd hys ⟨hWp, hKp⟩ hdef
              have hfin := stp_bytes W (residuals W M P) (l ++ [10] ++ (ws.take 3).flatMap word) (ys.map (·.1))
              have hfile : Hid (fileB E W H M P = ((ys.map (·.1)).foldl (stp W (residuals W M P)) (l ++ [10] ++ (ws.take 3).flatMap word, [])).1 ++ pack ((ys.map (·.1)).foldl (stp W (residuals W M P)) (l ++ [10] ++ (ws.take 3).flatMap word, [])).2) := Lib.hid (by
                rw [hfin, hys, hD.out, hws.out]
                show _ = headB ++ E.flatMap ent ++ [10] ++ [(W : Int), (H : Int), M].flatMap word ++ _
                unfold fileB
                simp only [List.flatMap_cons, List.flatMap_nil, List.append_nil, List.append_assoc])
              obtain ⟨-, r9, c9, hbox9, -, hob9, -, -⟩ := hWp
              obtain ⟨⟨d0, d1⟩, f0, f1⟩ := box2 hbox9
              rw [← hfile.out] at hbox9 hob9 d0
              dsimp only
              gi_wp2
              go_wp2
              refine ⟨by simp, .inl ⟨_, _, rfl, run_takeDeferred hdef, ?_⟩⟩
              have hgr := grownBy_putObj' W1 Dd (.deferred none)
              obtain ⟨-, hr9l, -, -, cur9, hcur9⟩ := hob9.facts
              have hne9 : r9 ≠ Dd := by
                rintro rfl
                rw [hcur9] at hdef
                cases hdef
              refine ⟨.tuple #[.slice (some ⟨r9, 0, none⟩) (fileB E W H M P).length c9, .int .i64 0], ?_, r9, c9, rfl, hob9.keep (hgr.block r9 hr9l (fun e => hne9 (by injection e))), (hB9.trans hKp.1).trans (belowK_b (w := w9) (by omega) W1 Dd _ _ hDd hdef rfl rfl)⟩
              simp [results, Try.f31, go_sem]

end Go.Proofs.Ytfkoboljobghkaa
