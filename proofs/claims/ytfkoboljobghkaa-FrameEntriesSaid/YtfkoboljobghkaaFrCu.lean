/-
  Walks: bytes.Cut at one byte; readMeta.
-/
import Derived.Test.YtfkoboljobghkaaFrRd
import Derived.Test.YtfkoboljobghkaaFrCm
import Derived.Test.YtfkoboljobghkaaFrAp
import Derived.Test.YtfkoboljobghkaaShelf
import Derived.Lib.IndexLaws
import Derived.Laws.BytesArg
set_option linter.unusedSimpArgs false
set_option linter.unusedVariables false
namespace Go.Proofs.Ytfkoboljobghkaa
open Go.RowKit Go.Shelf

/-- Where a byte stands first; -1. -/
def cutI (x : Int) (l : List Int) : Int := Lib.indexByte (Lib.bytesOf l) x.toNat.toUInt8
theorem cutI_range (x : Int) (l : List Int) : -1 ≤ cutI x l ∧ (0 ≤ cutI x l → cutI x l < l.length) := by
  have h := Lib.indexByte_ge (Lib.bytesOf l) x.toNat.toUInt8
  refine ⟨h, fun h0 => ?_⟩
  obtain ⟨o, ho⟩ : ∃ o : Nat, cutI x l = o := ⟨(cutI x l).toNat, by omega⟩
  have := (Lib.indexByte_some (o := o) ho).1
  have hl : o < (Lib.bytesOf l).length := (List.getElem?_eq_some_iff.1 this).1
  have : (Lib.bytesOf l).length = l.length := by simp [Lib.bytesOf]
  omega

theorem cut_any (x : Int) (A : Option Addr) (n c g2 : Nat) (l : List Int) (w : World) (h : Sb w A n c l) (hA : A = none → c = 0) (hx : w.cell? ⟨g2, 0, none⟩ = some (.int .u8 x)) (hn : n ≤ 1000000000) :
    Calls Try.prog 96 #[.slice A n c, .slice (some ⟨g2, 0, none⟩) 1 1] w fun e w' => e = .returned (Lib.cutV A n c 1 (cutI x l)) ∧ ∃ q, w' = w.drewN q := by
  obtain ⟨h1, h2⟩ := cutI_range x l
  refine Try.bytes_Cut_of A (some ⟨g2, 0, none⟩) n c 1 1 (cutI x l) w h.le_cap h1 (fun h0 => by have := h2 h0; have := h.len; omega) (by omega) ?_
  cases A with
  | none =>
    have hc := hA rfl
    have hcap := h.le_cap
    obtain rfl : n = 0 := by omega
    subst hc
    have hl : l = [] := List.length_eq_zero_iff.1 h.len.symm
    subst hl
    exact (Try.bytes_Index_one_nil g2 0 1 x w hx).mono fun e w' ⟨he, hw⟩ => ⟨he, 0, hw⟩
  | some a =>
    refine (Try.bytes_Index_one_at a n c g2 0 1 l x w h.len.symm (fun i hi => ?_) hx).mono fun e w' ⟨he, hw⟩ => ⟨he, 0, hw⟩
    obtain ⟨b, off, e, hc⟩ := h.2.2.2 (by omega)
    cases e
    rw [show (⟨b, off, none⟩ : Addr).add i = ⟨b, off + i, none⟩ by unfold Addr.add; split <;> simp_all]
    exact hc i hi

/-- The metadata at the beginning of some bytes, and what lies behind it. -/
def metaR : Nat → List Int → List Ent → Option (List Ent × List Int)
  | 0, _, _ => none
  | f + 1, b, E =>
    if cutI 10 b < 0 then none
    else if cutI 10 b = 0 then some (E, b.drop 1)
    else if cutI 32 (b.take (cutI 10 b).toNat) < 0 then none
    else metaR f (b.drop ((cutI 10 b).toNat + 1)) (E ++ [(strOfNums ((b.take (cutI 10 b).toNat).take (cutI 32 (b.take (cutI 10 b).toNat)).toNat), strOfNums ((b.take (cutI 10 b).toNat).drop ((cutI 32 (b.take (cutI 10 b).toNat)).toNat + 1)))])

end Go.Proofs.Ytfkoboljobghkaa
