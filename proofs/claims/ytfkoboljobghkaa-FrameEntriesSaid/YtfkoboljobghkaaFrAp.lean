/-
  Appending to bytes that are of the call's own, or a literal's row that is full.
-/
import Derived.Test.YtfkoboljobghkaaFrW
import Derived.Test.YtfkoboljobghkaaFrWb
import Derived.Lib.AppendStr
import Derived.Lib.SlBytesConst
set_option linter.unusedSimpArgs false
set_option linter.unusedVariables false
namespace Go.Proofs.Ytfkoboljobghkaa
open Go.RowKit

/-- Bytes that can be appended to: a row of one's own, or one that is full. -/
def FS (w : World) (B r c : Nat) (l : List Int) : Prop := Ob w B r c l ∨ (c = l.length ∧ ∀ j u, (cells8 l)[j]? = some u → w.cell? ((⟨r, 0, none⟩ : Addr).add j) = some u)

section
variable {w : World} {B r c : Nat} {l : List Int}
theorem FS.alloc (h : FS w B r c l) (o : Obj) : FS (w.alloc o) B r c l := by
  rcases h with h | ⟨h1, h2⟩
  · exact .inl (h.alloc o)
  · refine .inr ⟨h1, fun j u hu => ?_⟩
    exact Lib.cell?_alloc_some _ (h2 j u hu)

/-- A new row with spare room. -/
theorem Ob.made (W : World) (B : Nat) (l : List Int) (cap : Nat) (hB : B ≤ W.heap.size) (h1 : l.length ≤ cap) (h2 : cap ≤ maxLen) {cs : Array Value} (hcs : cs = (cells8 l).toArray ++ Builtin.zeroCells #[.int .u8 0] (cap - l.length)) :
    Ob (W.alloc (.cells cs 5)) B W.heap.size cap l := by
  subst hcs
  refine ⟨by rw [cells8_length]; omega, .inr ⟨W.heap.size, cap, _, rfl, hB, heap_alloc_new W _, h1, h2, ?_, ?_⟩⟩
  · simp [Builtin.zeroCells, cells8_length]; omega
  · rw [Array.toList_append, List.take_append_of_le_length (by simp [cells8_length])]
    rw [List.take_of_length_le (by simp [cells8_length])]

variable {P : Program}
theorem app_str (hty : TypeId) (hS : Try.prog.underlying 9 = some .string) (B r c : Nat) (l : List Int) (s : ByteArray) (w : World) (h : FS w B r c l) (h0 : 0 < l.length) (h1 : 1 ≤ s.size) (hl : l.length ≤ 1000000) (hs : s.size ≤ 1000000) (hB : B ≤ w.heap.size) :
    ∃ r' c' w', (Builtin.append_ #[53, 9] hty #[.slice (some ⟨r, 0, none⟩) l.length c, .string s]).run Try.prog w = .ok (.slice (some ⟨r', 0, none⟩) (l.length + s.size) c') w' ∧ Ob w' B r' c' (l ++ txt s) ∧ ∀ g, Kx B g w w' := by
  obtain ⟨i0, hi, hz0, hz1, hz2⟩ := info_parts infoB
  have hll : (l ++ txt s).length = l.length + s.size := by rw [List.length_append, txt_length]
  rcases h with h | ⟨h2, h3⟩
  · obtain ⟨hBr, hrl, hnc, hcm, cur, hcur⟩ := h.facts
    obtain ⟨v', w', hr, ho, hg, hn⟩ := Lib.run_append_own_string (P := Try.prog) w B 53 9 hty 5 i0 Try.underlying53 hS hi hz0 hz1 hz2 _ _ _ h s (by unfold maxLen; omega) (by omega) hB
    obtain ⟨r', c', rfl, -, -⟩ := World.ownsRow.form ho (by omega)
    refine ⟨r', c', w', hr, ?_, fun g => Kx.grown hg hB hBr hcur⟩
    unfold Ob
    rw [hll, cells8_append, ← cells8_str]
    exact ho
  · have hr := Lib.run_append_grow_string (P := Try.prog) w 53 9 hty 5 i0 (.int .u8 0) Try.underlying53 hS hi hz0 ⟨r, 0, none⟩ l.length c (cells8 l) (by rw [cells8_length, hz1]; omega) h3 s (by omega) (by omega) (by
      rw [hz2]
      have : Builtin.nextslicecap (l.length + s.size) c ≤ 8000000 := by
        unfold Builtin.nextslicecap
        split
        · omega
        · split
          · omega
          · simp only [Builtin.growBy]; repeat' split
            all_goals omega
      omega)
    refine ⟨_, _, _, hr, ?_, fun g => ?_⟩
    · have hge := grownCap_ge w (l.length + s.size) c 5
      have hle := grownCap_le_maxLen w (l.length + s.size) c 5 (by unfold maxLen; omega)
      refine Ob.made (w.drew) B (l ++ txt s) _ hB (by rw [hll]; exact hge) hle ?_
      rw [hll, cells8_append, ← cells8_str]
      simp [Value.cells]
    · exact ((Kx.refl B g w).drew).alloc hB _

theorem app_row (hty : TypeId) (B r c : Nat) (l news : List Int) (g2 off c2 : Nat) (w : World) (h : FS w B r c l) (h0 : 0 < l.length) (h1 : 1 ≤ news.length) (hl : l.length ≤ 1000000) (hs : news.length ≤ 1000000) (hB : B ≤ w.heap.size)
    (hnews : ∀ j u, (cells8 news)[j]? = some u → w.cell? ((⟨g2, off, none⟩ : Addr).add j) = some u) :
    ∃ r' c' w', (Builtin.append_ #[53, 53] hty #[.slice (some ⟨r, 0, none⟩) l.length c, .slice (some ⟨g2, off, none⟩) news.length c2]).run Try.prog w = .ok (.slice (some ⟨r', 0, none⟩) (l.length + news.length) c') w' ∧ Ob w' B r' c' (l ++ news) ∧ ∀ g, Kx B g w w' := by
  obtain ⟨i0, hi, hz0, hz1, hz2⟩ := info_parts infoB
  have hll : (l ++ news).length = l.length + news.length := by rw [List.length_append]
  rcases h with h | ⟨h2, h3⟩
  · obtain ⟨hBr, hrl, hnc, hcm, cur, hcur⟩ := h.facts
    obtain ⟨v', w', hr, ho, hg, hn⟩ := run_append_own (P := Try.prog) w B 53 hty 5 i0 (.int .u8 0) 1 1 Try.underlying53 hi hz0 hz1 hz2 rfl (by decide) _ _ _ h ⟨g2, off, none⟩ news.length c2 (cells8 news) (by rw [cells8_length]; omega) hnews cells8_one (by unfold maxLen; omega) (by omega) hB
    obtain ⟨r', c', rfl, -, -⟩ := World.ownsRow.form ho (by omega)
    refine ⟨r', c', w', hr, ?_, fun g => Kx.grown hg hB hBr hcur⟩
    unfold Ob
    rw [hll, cells8_append]
    exact ho
  · have hr := run_append_grow (P := Try.prog) w 53 hty 5 i0 (.int .u8 0) Try.underlying53 hi hz0 ⟨r, 0, none⟩ l.length c (cells8 l) (by rw [cells8_length, hz1]; omega) h3 ⟨g2, off, none⟩ news.length c2 (cells8 news) (by rw [cells8_length, hz1]; omega) hnews (by omega) (by omega) (by
      rw [hz2]
      have : Builtin.nextslicecap (l.length + news.length) c ≤ 8000000 := by
        unfold Builtin.nextslicecap
        split
        · omega
        · split
          · omega
          · simp only [Builtin.growBy]; repeat' split
            all_goals omega
      omega)
    refine ⟨_, _, _, hr, ?_, fun g => ?_⟩
    · have hge := grownCap_ge w (l.length + news.length) c 5
      have hle := grownCap_le_maxLen w (l.length + news.length) c 5 (by unfold maxLen; omega)
      refine Ob.made (w.drew) B (l ++ news) _ hB (by rw [hll]; exact hge) hle ?_
      rw [hll, cells8_append]
      simp [Value.cells]
    · exact ((Kx.refl B g w).drew).alloc hB _

/-- The operations, for the walk. -/
theorem step_app_str {ops : Array Oper} {rest : List Oper} {o : Oper} {a : Act} {Q : Exit → Act → World → Prop} (w : World) (hgd : o.guard = none) (sl x : Operand)
    (ho : o.op = .call { callee := .builtin .append, args := #[sl, x], argTypes := #[53, 9] }) (hS : Try.prog.underlying 9 = some .string)
    (B r c q : Nat) (l : List Int) (s : ByteArray) (hsl : a.eval sl = .slice (some ⟨r, 0, none⟩) q c) (hx : a.eval x = .string s) (hq : q = l.length) (h : FS w B r c l) (h0 : 0 < l.length) (h1 : 1 ≤ s.size) (hl : l.length ≤ 1000000) (hs : s.size ≤ 1000000) (hB : B ≤ w.heap.size)
    (hk : ∀ r' c' w', Ob w' B r' c' (l ++ txt s) → (∀ g, Kx B g w w') → wpList Try.prog ops Q rest (a.put o.dst (.slice (some ⟨r', 0, none⟩) (q + s.size) c')) w') : wpList Try.prog ops Q (o :: rest) a w := by
  subst hq
  refine wpList_plain hgd fun K hK => ?_
  obtain ⟨r', c', w', hr, h2, h3⟩ := app_str o.type hS B r c l s w h h0 h1 hl hs hB
  unfold Oper.wp execOp
  simp only [ho, resolve, invoke, builtin, Sem.run_bind, Sem.run_pure, Result.andThen_ok, List.map_toArray, List.map_cons, List.map_nil, hsl, hx, hr]
  exact hK _ _ (hk r' c' w' h2 h3)
theorem step_app_row {ops : Array Oper} {rest : List Oper} {o : Oper} {a : Act} {Q : Exit → Act → World → Prop} (w : World) (hgd : o.guard = none) (sl x : Operand)
    (ho : o.op = .call { callee := .builtin .append, args := #[sl, x], argTypes := #[53, 53] })
    (B r c q : Nat) (l news : List Int) (g2 off m c2 : Nat) (hsl : a.eval sl = .slice (some ⟨r, 0, none⟩) q c) (hx : a.eval x = .slice (some ⟨g2, off, none⟩) m c2) (hq : q = l.length) (hm : m = news.length) (h : FS w B r c l) (h0 : 0 < l.length) (h1 : 1 ≤ news.length) (hl : l.length ≤ 1000000) (hs : news.length ≤ 1000000) (hB : B ≤ w.heap.size)
    (hnews : ∀ j u, (cells8 news)[j]? = some u → w.cell? ((⟨g2, off, none⟩ : Addr).add j) = some u)
    (hk : ∀ r' c' w', Ob w' B r' c' (l ++ news) → (∀ g, Kx B g w w') → wpList Try.prog ops Q rest (a.put o.dst (.slice (some ⟨r', 0, none⟩) (q + m) c')) w') : wpList Try.prog ops Q (o :: rest) a w := by
  subst hq
  subst hm
  refine wpList_plain hgd fun K hK => ?_
  obtain ⟨r', c', w', hr, h2, h3⟩ := app_row o.type B r c l news g2 off c2 w h h0 h1 hl hs hB hnews
  unfold Oper.wp execOp
  simp only [ho, resolve, invoke, builtin, Sem.run_bind, Sem.run_pure, Result.andThen_ok, List.map_toArray, List.map_cons, List.map_nil, hsl, hx, hr]
  exact hK _ _ (hk r' c' w' h2 h3)
end

end Go.Proofs.Ytfkoboljobghkaa
