/-
  Walks: a writer's byte and bit.
-/
import Derived.Test.YtfkoboljobghkaaFrM8
import Derived.Deep.AppendLies
set_option linter.unusedSimpArgs false
set_option linter.unusedVariables false
namespace Go.Proofs.Ytfkoboljobghkaa
open Go.RowKit

/-- The writer behind the stores into its box. -/
theorem Wr.put {w : World} {B g r c : Nat} {l : List Int} {x y : Value} (hbox : w.heap[g]? = some (.cells #[x, y] 90 (0, 0))) (hB : B ≤ g) (hown : Ob w B r c l) (h0 : 0 < l.length) (f : Int) (f' : Nat) (hf : f = (f' : Int)) :
    Wr ((w.setCell ⟨g, 0, none⟩ (.slice (some ⟨r, 0, none⟩) l.length c)).setCell ⟨g, 1, none⟩ (.int .i64 f)) B g l f' := by
  subst hf
  have hne : r ≠ g := by
    obtain ⟨-, -, -, -, cur, hc⟩ := hown.facts
    exact ne_of_types hc hbox (by decide)
  refine ⟨r, c, ?_, hB, (hown.far (p := ⟨g, 0, none⟩) hne _).far (p := ⟨g, 1, none⟩) hne _, h0, hne⟩
  have e1 := heap_setCell_same w g 0 _ _ (.slice (some ⟨r, 0, none⟩) l.length c) hbox
  have e2 := heap_setCell_same _ g 1 _ _ (.int .i64 (f' : Int)) e1
  rw [e2]
  rfl

set_option maxHeartbeats 1600000 in
theorem wbyte_any (B g f : Nat) (l : List Int) (b : Int) (w : World) (h : Wr w B g l f) (hB : B ≤ w.heap.size) (hlen : l.length ≤ 1000000000000) :
    Calls Try.prog 79 #[.pointer (some ⟨g, 0, none⟩), .int .u8 b] w fun e w' => (∃ v, e = .returned v) ∧ Wr w' B g (l ++ [b]) 0 ∧ Kx B g w w' := by
  obtain ⟨r, c, hbox, hBg, hown, h0, hrg⟩ := h
  obtain ⟨⟨d0, d1⟩, f0, f1⟩ := box2 hbox
  obtain ⟨i0, hi, hz0, hz1, hz2⟩ := info_parts infoB
  have hgl := (Array.getElem?_eq_some_iff.1 hbox).1
  obtain ⟨hBr, hrl, hnc, hcm, cur, hcur⟩ := hown.facts
  go_enter Try.func79, Try.ntmps79
  go_wp2_with (at_builtin; refine wpList_append_own _ rfl _ _ 53 rfl B 5 i0 (.int .u8 0) 1 1 Try.underlying53 hi hz0 hz1 hz2 rfl (by decide) _ _ _ rfl (World.ownsRow.alloc hown _) ⟨w.heap.size, 0, none⟩ 1 1 [.int .u8 b] rfl rfl ?qc2 ?qc3 ?qc4 ?qc5 ?qc6 ?_)
  case qc2 =>
    intro j u hj
    match j, hj with
    | 0, hj => simp at hj; subst hj; simp [Addr.add, go_sem]
    | (j + 1), hj => simp at hj
  case qc3 => intro u hu; simp at hu; subst hu; rfl
  case qc4 => unfold maxLen; omega
  case qc5 => omega
  case qc6 => simp; omega
  intro v' w1 hown' hgrow hnil
  obtain ⟨r', c', rfl, -, -⟩ := World.ownsRow.form hown' (by omega)
  have hgrow' : (w.alloc (.cells #[.int .u8 b] 5)).grownBy w1 (some r) := hgrow
  have hbox1 : w1.heap[g]? = some (.cells #[.slice (some ⟨r, 0, none⟩) l.length c, .int .i64 (f : Int)] 90 (0, 0)) := by
    rw [hgrow'.block g (by simp; omega) (fun e => hrg (Option.some.inj e).symm), Below.heap_alloc w _ g hgl]
    exact hbox
  have hk : Kx B g w w1 := by
    refine ((Kx.refl B g w).alloc hB _).trans (Kx.grown (r := r) (cur := cur) hgrow' (by simp; omega) hBr ?_)
    rw [Below.heap_alloc w _ r hrl]; exact hcur
  have hob : Ob w1 B r' c' (l ++ [b]) := by
    have : (l ++ [b]).length = l.length + 1 := by simp
    unfold Ob
    rw [this, cells8_append]
    exact hown'
  clear hown' hgrow hgrow' d0 d1 f0 f1
  obtain ⟨⟨d0, d1⟩, f0, f1⟩ := box2 hbox1
  go_wp2
  go_end0
  refine ⟨⟨_, rfl⟩, ?_, (hk.box hBg _ _).box hBg _ _⟩
  have := Wr.put hbox1 hBg hob (by simp) 0 0 rfl
  rw [show (l ++ [b]).length = l.length + 1 from by simp] at this
  exact this

end Go.Proofs.Ytfkoboljobghkaa
