/-
  Walks: a writer's bit.
-/
import Derived.Test.YtfkoboljobghkaaFrW
import Derived.BigRegion
set_option linter.unusedSimpArgs false
set_option linter.unusedVariables false
namespace Go.Proofs.Ytfkoboljobghkaa
open Go.RowKit

theorem bits_or_u8 (a b : Nat) (ha : a < 256) (hb : b < 256) : bits .or .u8 (a : Int) (b : Int) = ((a ||| b : Nat) : Int) := by
  have hx : a ||| b < 2 ^ 8 := Nat.or_lt_two_pow (by omega) (by omega)
  have h1 : (BitVec.ofInt 8 (a : Int)).toNat = a := by
    rw [BitVec.ofInt_natCast, BitVec.toNat_ofNat]; exact Nat.mod_eq_of_lt (by omega)
  have h2 : (BitVec.ofInt 8 (b : Int)).toNat = b := by
    rw [BitVec.ofInt_natCast, BitVec.toNat_ofNat]; exact Nat.mod_eq_of_lt (by omega)
  show IntKind.u8.wrap ((BitVec.ofInt 8 (a : Int) ||| BitVec.ofInt 8 (b : Int)).toNat : Int) = _
  rw [BitVec.toNat_or, h1, h2, IntKind.wrap_u8]
  omega

/-- A bit in its place behind bits that stand higher. -/
theorem or_low {x b : Int} {f q : Nat} (hx : x = ((2 ^ (f + 1) * q : Nat) : Int)) (hq : 2 ^ (f + 1) * q < 256) (hf : f ≤ 7) (hb : b = 0 ∨ b = 1) {v : Int} (hv : v = b * (2 ^ f : Nat)) :
    bits .or .u8 x v = x + b * (2 ^ f : Nat) := by
  subst hx
  have hf2 : 2 ^ f ≤ 128 := by
    have := Nat.pow_le_pow_right (n := 2) (by omega) hf
    simpa using this
  rcases hb with rfl | rfl
  · obtain rfl : v = ((0 : Nat) : Int) := by rw [hv]; simp
    rw [bits_or_u8 _ _ hq (by omega)]
    simp
  · obtain rfl : v = ((2 ^ f : Nat) : Int) := by rw [hv]; simp
    rw [bits_or_u8 _ _ hq (by omega), ← Nat.two_pow_add_eq_or_of_lt (Nat.pow_lt_pow_right (by omega) (by omega)) q]
    simp

theorem Wr.put1 {w : World} {B g r c n : Nat} {l : List Int} {y : Value} {t : TypeId} (hbox : w.heap[g]? = some (.cells #[.slice (some ⟨r, 0, none⟩) n c, y] 90 (0, 0))) (hB : B ≤ g) (hown : Ob w B r c l) (hn : l.length = n) (h0 : 0 < n) (hrg : r ≠ g) (f : Int) (f' : Nat) (hf : f = (f' : Int)) (i : Nat) (u : Int) :
    Wr ((w.setCell ⟨g, 1, none⟩ (.int .i64 f)).setCell ⟨r, i, none⟩ (.int .u8 u)) B g (l.set i u) f' := by
  subst hf
  subst hn
  refine ⟨r, c, ?_, hB, (hown.far (p := ⟨g, 1, none⟩) hrg _).set i u, by rw [List.length_set]; exact h0, hrg⟩
  rw [Below.heap_setCell _ ⟨r, i, none⟩ _ g (fun e => hrg e.symm), heap_setCell_same w g 1 _ _ (.int .i64 (f' : Int)) hbox, List.length_set]
  rfl

theorem Kx.put1 {w : World} {B g r i j : Nat} {u v : Value} {cur : Array Value} (hB : B ≤ g) (hr : B ≤ r) (hrg : r ≠ g) (hc : w.heap[r]? = some (.cells cur 5 (0, 0))) :
    Kx B g w ((w.setCell ⟨g, i, none⟩ u).setCell ⟨r, j, none⟩ v) := by
  have hc' : (w.setCell ⟨g, i, none⟩ u).heap[r]? = some (.cells cur 5 (0, 0)) := (Below.heap_setCell w ⟨g, i, none⟩ u r hrg).trans hc
  exact ((Kx.refl B g w).box hB i u).row hr (fun t cs fr e => by rw [hc'] at e; cases e; rfl) ⟨_, _, _, hc'⟩ j v
theorem Kx.drew {B g : Nat} {w w' : World} (h : Kx B g w w') : Kx B g w w'.drew := ⟨⟨h.1.os, h.1.tape, h.1.output, h.1.size, h.1.block⟩, h.2⟩
theorem Wr.drew {w : World} {B g f : Nat} {l : List Int} (h : Wr w B g l f) : Wr w.drew B g l f := h

set_option maxHeartbeats 6400000 in
set_option maxRecDepth 100000 in
theorem wbit_more (B g f q : Nat) (l : List Int) (b x : Int) (w : World) (h : Wr w B g l (f + 1)) (hB : B ≤ w.heap.size) (hlen : l.length ≤ 1000000000000) (hf : f ≤ 6) (hb : b = 0 ∨ b = 1) (hx : nth l (l.length - 1) = x) (hq : x = ((2 ^ (f + 1) * q : Nat) : Int)) (hq2 : 2 ^ (f + 1) * q < 256) :
    Calls Try.prog 82 #[.pointer (some ⟨g, 0, none⟩), .int .i64 b] w fun e w' => (∃ v, e = .returned v) ∧ Wr w' B g (l.set (l.length - 1) (x + b * (2 ^ f : Nat))) f ∧ Kx B g w w' := by
  obtain ⟨r, c, hbox, hBg, hown, h0, hrg⟩ := h
  obtain ⟨⟨d0, d1⟩, f0, f1⟩ := box2 hbox
  have hgl := (Array.getElem?_eq_some_iff.1 hbox).1
  obtain ⟨hBr, hrl, hnc, hcm, cur, hcur⟩ := hown.facts
  have hcell := hown.cell (i := l.length - 1) (by omega)
  have hfr := hown.frozen (l.length - 1)
  rw [hx] at hcell
  obtain ⟨n, hn⟩ : ∃ n, l.length = n + 1 := ⟨l.length - 1, by omega⟩
  rw [hn, Nat.add_sub_cancel] at hcell hfr ⊢
  rw [hn] at d0 hnc
  have hn2 : n ≤ 1000000000000 := by omega
  have hor : ∀ v : Int, v = b * (2 ^ f : Nat) → bits .or .u8 x v = x + b * (2 ^ f : Nat) := fun v hv => or_low hq hq2 (by omega) hb hv
  have hW : ∀ (F : Int), F = (f : Int) → ∀ u, Wr ((w.setCell ⟨g, 1, none⟩ (.int .i64 F)).setCell ⟨r, n, none⟩ (.int .u8 u)) B g (l.set n u) f := fun F hF u => Wr.put1 (t := 0) hbox hBg hown rfl (by omega) hrg F f hF n u
  have hK : ∀ u v, Kx B g w ((w.setCell ⟨g, 1, none⟩ u).setCell ⟨r, n, none⟩ v) := fun u v => Kx.put1 hBg hBr hrg hcur
  replace hor := Lib.hid hor
  replace hW := Lib.hid hW
  replace hK := Lib.hid hK
  replace hx := Lib.hid hx
  replace hq := Lib.hid hq
  clear hq2 hown hbox hcur
  have hfc : f = 0 ∨ f = 1 ∨ f = 2 ∨ f = 3 ∨ f = 4 ∨ f = 5 ∨ f = 6 := by omega
  clear hf
  rcases hfc with rfl | rfl | rfl | rfl | rfl | rfl | rfl <;> rcases hb with rfl | rfl
  all_goals
    go_enter Try.func82, Try.ntmps82
    go_wp2
    go_region
    go_wp2
    go_end0
    refine ⟨⟨_, rfl⟩, ?_, (hK.out _ _).drew⟩
    rw [← hor.out _ rfl]
    exact (hW.out _ rfl _).drew

set_option maxHeartbeats 6400000 in
set_option maxRecDepth 100000 in
theorem wbit_new (B g : Nat) (l : List Int) (b : Int) (w : World) (h : Wr w B g l 0) (hB : B ≤ w.heap.size) (hlen : l.length ≤ 1000000000000) (hb : b = 0 ∨ b = 1) :
    Calls Try.prog 82 #[.pointer (some ⟨g, 0, none⟩), .int .i64 b] w fun e w' => (∃ v, e = .returned v) ∧ Wr w' B g (l ++ [b * 128]) 7 ∧ Kx B g w w' := by
  obtain ⟨r, c, hbox, hBg, hown, h0, hrg⟩ := h
  obtain ⟨⟨d0, d1⟩, f0, f1⟩ := box2 hbox
  obtain ⟨i0, hi, hz0, hz1, hz2⟩ := info_parts infoB
  have hgl := (Array.getElem?_eq_some_iff.1 hbox).1
  obtain ⟨hBr, hrl, hnc, hcm, cur, hcur⟩ := hown.facts
  have hor : ∀ v : Int, v = b * 128 → bits .or .u8 0 v = b * 128 := fun v hv => by
    have := or_low (x := 0) (b := b) (f := 7) (q := 0) (by simp) (by simp) (by omega) hb (v := v) (by rw [hv]; rfl)
    rw [this]
    simp
  replace hor := Lib.hid hor
  go_enter Try.func82, Try.ntmps82
  go_wp2_with (at_builtin; refine wpList_append_own _ rfl _ _ 53 rfl B 5 i0 (.int .u8 0) 1 1 Try.underlying53 hi hz0 hz1 hz2 rfl (by decide) _ _ _ rfl (World.ownsRow.alloc hown _) ⟨w.heap.size, 0, none⟩ 1 1 [.int .u8 0] rfl rfl ?qc2 ?qc3 ?qc4 ?qc5 ?qc6 ?_)
  case qc2 =>
    intro j u hj
    match j, hj with
    | 0, hj => simp at hj; subst hj; simp [Addr.add, go_sem]
    | (j + 1), hj => simp at hj
  case qc3 => intro u hu; simp at hu; subst hu; rfl
  case qc4 => unfold maxLen; omega
  case qc5 => omega
  case qc6 => simp; omega
  intro v' w1 hown' hgrow hnil
  obtain ⟨r', c', rfl, -, -⟩ := World.ownsRow.form hown' (by omega)
  have hgrow' : (w.alloc (.cells #[.int .u8 0] 5)).grownBy w1 (some r) := hgrow
  have hbox1 : w1.heap[g]? = some (.cells #[.slice (some ⟨r, 0, none⟩) l.length c, .int .i64 ((0 : Nat) : Int)] 90 (0, 0)) := by
    rw [hgrow'.block g (by simp; omega) (fun e => hrg (Option.some.inj e).symm), Below.heap_alloc w _ g hgl]
    exact hbox
  have hk : Kx B g w w1 := by
    refine ((Kx.refl B g w).alloc hB _).trans (Kx.grown (r := r) (cur := cur) hgrow' (by simp; omega) hBr ?_)
    rw [Below.heap_alloc w _ r hrl]; exact hcur
  have hob : Ob w1 B r' c' (l ++ [0]) := by
    have : (l ++ [0]).length = l.length + 1 := by simp
    unfold Ob
    rw [this, cells8_append]
    exact hown'
  clear hown' hgrow hgrow' d0 d1 f0 f1 hown hrg hcur hrl hBr hbox
  obtain ⟨hBr, hrl, hnc', hcm', cur', hcur'⟩ := hob.facts
  have hrg : r' ≠ g := ne_of_types hcur' hbox1 (by decide)
  have hcell := hob.cell (i := l.length) (by simp)
  have hfr := hob.frozen l.length
  have hx : nth (l ++ [0]) l.length = 0 := by rw [nth_right (Nat.le_refl _), Nat.sub_self]; rfl
  rw [hx] at hcell
  have hln : (l ++ [(0 : Int)]).length = l.length + 1 := by simp
  rw [hln] at hnc'
  have hst : ∀ u : Int, (l ++ [(0 : Int)]).set l.length u = l ++ [u] := fun u => by
    rw [List.set_append_right _ _ (Nat.le_refl _), Nat.sub_self]; rfl
  have hW : ∀ u : Int, Wr ((((w1.setCell ⟨g, 0, none⟩ (.slice (some ⟨r', 0, none⟩) (l.length + 1) c')).setCell ⟨g, 1, none⟩ (.int .i64 8)).setCell ⟨g, 1, none⟩ (.int .i64 7)).setCell ⟨r', l.length, none⟩ (.int .u8 u)) B g (l ++ [u]) 7 := fun u => by
    have e1 := heap_setCell_same w1 g 0 _ _ (.slice (some ⟨r', 0, none⟩) (l.length + 1) c') hbox1
    have e2 := heap_setCell_same _ g 1 _ _ (.int .i64 8) e1
    have := Wr.put1 (t := 0) (B := B) (l := l ++ [0]) (n := l.length + 1) (c := c') (r := r') e2 hBg ((hob.far (p := ⟨g, 0, none⟩) hrg _).far (p := ⟨g, 1, none⟩) hrg _) hln (by omega) hrg 7 7 rfl l.length u
    rw [hst] at this
    exact this
  have hK : ∀ u v x y : Value, Kx B g w ((((w1.setCell ⟨g, 0, none⟩ u).setCell ⟨g, 1, none⟩ v).setCell ⟨g, 1, none⟩ x).setCell ⟨r', l.length, none⟩ y) := fun u v x y => by
    have k2 := (hk.box hBg 0 u).box hBg 1 v
    refine k2.trans (Kx.put1 (cur := cur') hBg hBr hrg ?_)
    rw [Below.heap_setCell _ ⟨g, 1, none⟩ _ r' hrg, Below.heap_setCell _ ⟨g, 0, none⟩ _ r' hrg]
    exact hcur'
  replace hW := Lib.hid hW
  replace hK := Lib.hid hK
  replace hst := Lib.hid hst
  replace hx := Lib.hid hx
  replace hln := Lib.hid hln
  have hgl1 := (Array.getElem?_eq_some_iff.1 hbox1).1
  obtain ⟨⟨d0, d1⟩, f0, f1⟩ := box2 hbox1
  clear hob hcur' hbox1 hk
  have hn2 : l.length + 1 ≤ 2000000000000 := by omega
  generalize l.length = n at *
  have c7 : (((w1.setCell ⟨g, 0, none⟩ (.slice (some ⟨r', 0, none⟩) (n + 1) c')).setCell ⟨g, 1, none⟩ (.int .i64 8)).setCell ⟨g, 1, none⟩ (.int .i64 7)).cell? ⟨g, 1, none⟩ = some (.int .i64 7) := by
    have e1 : ((w1.setCell ⟨g, 0, none⟩ (.slice (some ⟨r', 0, none⟩) (n + 1) c')).cell? ⟨g, 1, none⟩).isSome := by simp [go_sem, d1]
    have e2 := World.cell?_setCell_same' _ ⟨g, 1, none⟩ (.int .i64 8) e1
    exact World.cell?_setCell_same' _ ⟨g, 1, none⟩ (.int .i64 7) (by rw [e2]; rfl)
  rcases hb with rfl | rfl
  all_goals
    go_wp2
    have c7' : (((w1.setCell ⟨g, 0, none⟩ (.slice (some ⟨r', 0, none⟩) (n + 1) c')).setCell ⟨g, 1, none⟩ (.int .i64 8)).setCell ⟨g, 1, none⟩ (.int .i64 7)).drew.cell? ⟨g, 1, none⟩ = some (.int .i64 7) := c7
    go_region
    go_wp2
    go_end0
    refine ⟨⟨_, rfl⟩, ?_, (hK.out _ _ _ _).drew⟩
    rw [← hor.out _ rfl]
    exact (hW.out _).drew

/-- free as Nat. -/
def freeOf (l : List Int) : Nat := (8 - l.length % 8) % 8

/-- A writer that has written whole bytes D and, behind them, bits. -/
def Wb (w : World) (B g : Nat) (D bs : List Int) : Prop := IsBits bs ∧ Wr w B g (D ++ pack bs) (freeOf bs)

theorem wbit_any (B g : Nat) (D bs : List Int) (b : Int) (w : World) (h : Wb w B g D bs) (hB : B ≤ w.heap.size) (hlen : D.length + bs.length ≤ 100000000000) (hb : b = 0 ∨ b = 1) :
    Calls Try.prog 82 #[.pointer (some ⟨g, 0, none⟩), .int .i64 b] w fun e w' => (∃ v, e = .returned v) ∧ Wb w' B g D (bs ++ [b]) ∧ Kx B g w w' := by
  obtain ⟨hbs, h⟩ := h
  have hbs' := hbs.append (.one hb)
  have hpl := pack_length bs
  have hl1 : (bs ++ [b]).length = bs.length + 1 := by simp
  by_cases h8 : bs.length % 8 = 0
  · have hf : freeOf bs = 0 := by unfold freeOf; omega
    have hf' : freeOf (bs ++ [b]) = 7 := by unfold freeOf; rw [hl1]; omega
    rw [hf] at h
    refine (wbit_new B g _ b w h hB (by rw [List.length_append, hpl]; omega) hb).mono ?_
    rintro e w' ⟨he, hw, hk⟩
    refine ⟨he, ⟨hbs', ?_⟩, hk⟩
    rw [hf', pack_snoc0 h8, ← List.append_assoc]
    exact hw
  · obtain ⟨f, hf⟩ : ∃ f, freeOf bs = f + 1 := ⟨freeOf bs - 1, by unfold freeOf; omega⟩
    have hf8 : 8 - bs.length % 8 = f + 1 := by unfold freeOf at hf; omega
    have hf7 : 7 - bs.length % 8 = f := by omega
    have hf' : freeOf (bs ++ [b]) = f := by unfold freeOf; rw [hl1]; omega
    rw [hf] at h
    obtain ⟨q, hq, hq2⟩ := pack_low hbs h8
    rw [hf8] at hq hq2
    have hll : (D ++ pack bs).length - 1 = D.length + bs.length / 8 := by rw [List.length_append, hpl]; omega
    have hx : nth (D ++ pack bs) ((D ++ pack bs).length - 1) = ((2 ^ (f + 1) * q : Nat) : Int) := by
      rw [hll, nth_right (by omega), Nat.add_sub_cancel_left]; exact hq
    refine (wbit_more B g f q _ b _ w h hB (by rw [List.length_append, hpl]; omega) (by omega) hb rfl hx hq2).mono ?_
    rintro e w' ⟨he, hw, hk⟩
    refine ⟨he, ⟨hbs', ?_⟩, hk⟩
    rw [hf', pack_snoc1 h8, hf7, hq, ← hx]
    rw [hll] at hw ⊢
    rw [List.set_append_right _ _ (by omega), Nat.add_sub_cancel_left] at hw
    exact hw

theorem wbyte_to (B g : Nat) (D bs : List Int) (b : Int) (w : World) (h : Wb w B g D bs) (hB : B ≤ w.heap.size) (hlen : D.length + bs.length ≤ 100000000000) :
    Calls Try.prog 79 #[.pointer (some ⟨g, 0, none⟩), .int .u8 b] w fun e w' => (∃ v, e = .returned v) ∧ Wb w' B g (D ++ pack bs ++ [b]) [] ∧ Kx B g w w' := by
  refine (wbyte_any B g _ _ b w h.2 hB (by rw [List.length_append, pack_length]; omega)).mono ?_
  rintro e w' ⟨he, hw, hk⟩
  refine ⟨he, ⟨IsBits.nil, ?_⟩, hk⟩
  rw [pack_nil, List.append_nil]
  exact hw

end Go.Proofs.Ytfkoboljobghkaa
