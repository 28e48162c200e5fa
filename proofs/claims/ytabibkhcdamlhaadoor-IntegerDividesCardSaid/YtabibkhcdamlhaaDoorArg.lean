/-
  An argument that is an integer of the program; the tables that the rows list; a world for the witness.
-/
import Derived.Test.YtabibkhcdamlhaaDoorMem
import Derived.Test.YtabibkhcdamlhaaDoorW
import Derived.Test.YtabibkhcdamlhaaDoorCards
import Derived.Test.YtabibkhcdamlhaaDoorTie
import Derived.WalkKit
import Derived.ProofKit
import Derived.OpenShut
import Derived.Carry
import Derived.MakeChecks
import Derived.LaidSub
import Derived.Lib.SmallJoins
import Derived.Deep.DeepHandedRow
import Derived.Deep.DeepLaidRun
import Derived.Lib.LaidTab
set_option linter.unusedSimpArgs false
set_option linter.unusedVariables false
namespace Go.Proofs.YtabibkhcdamlhaaDoor
open Go.ChangeShapes Go.WideShapes Go.ChangeAt Go.RowKit Go.Deep Num

theorem own : ownKnob Tryd.prog.godebug = none := by kernel_rfl
theorem laidOut : laidOutB Tryd.prog = true := by kernel_rfl
theorem cellsInt : Tryd.prog.cellsOf 24 = 2 := by kernel_rfl
theorem cellsWord : Tryd.prog.cellsOf 48 = 1 := by kernel_rfl
theorem oneInt : ∃ f0 f1, Tryd.prog.underlying 24 = some (.struct #[f0, f1]) ∧ oneCellFields Tryd.prog #[f0, f1] = true ∧ Tryd.prog.underlying f0.type = some .bool ∧ f1.type = 22 :=
  ⟨_, _, Tryd.underlying24, by kernel_rfl, by kernel_rfl, rfl⟩

set_option maxRecDepth 100000 in
/-- An argument of type Int: a sign and a slice of groups. -/
theorem arg_int {H : Type} {enc : TypeId × Value → H} {W : World} {r : Reach} {b0 : Nat} {v : Value} {d : DataW H} {p : List MemPlace}
    (hv : Value.okWide Tryd.prog W r b0 24 v) (h : DataW.Trod enc Tryd.prog W 0 (fun _ => true) true 24 v d p) :
    ∃ neg A n c l, v = .agg #[.bool neg, .slice A n c] ∧ Sl W A n c l := by
  obtain ⟨f0, f1, hu, hone, hb, h1⟩ := oneInt
  obtain ⟨v0, v1, y0, y1, m, rfl, rfl, rfl, t0, t1⟩ := Joins.open_agg2 hu hone cellsInt hv h
  obtain ⟨b, hc, hz⟩ := DataW.trod_bool hb t0
  simp only [List.cons.injEq, and_true] at hc
  subst hc
  rw [h1] at t1
  rcases open_ints Tryd.underlying22 Tryd.underlying48 cellsWord t1 with ⟨hc, hx⟩ | ⟨a, n, c, zs, hc, _, hl, hm, hz, hx, hcell, hwf⟩
  · simp only [List.cons.injEq, and_true] at hc
    subst hc
    exact ⟨b, none, 0, 0, [], rfl, Sl.nil W⟩
  · simp only [List.cons.injEq, and_true] at hc
    subst hc
    simp only [if_true] at hz
    refine ⟨b, some a, n, c, (zs.take n).map Int.toNat, rfl, by simp [List.length_map, List.length_take]; omega, hl, by unfold maxLen at hm; omega, fun h0 => ?_⟩
    obtain ⟨bb, off, spot⟩ := a
    have hspot : spot = none := by simpa [Addr.add] using World.cell?_spot (hcell 0 (by omega))
    subst hspot
    refine ⟨bb, off, rfl, fun i hi => ?_⟩
    have hci := hcell i (by omega)
    have hn : nth ((zs.take n).map Int.toNat) i = (zs.getD i 0).toNat := by
      have hiz : i < zs.length := by omega
      simp [nth, List.getD, List.getElem?_map, List.getElem?_take, hi, List.getElem?_eq_getElem hiz]
    have hw : 0 ≤ zs.getD i 0 := by
      have hiz : i < zs.length := by omega
      have hmem : zs.getD i 0 ∈ zs := by simp [List.getD, List.getElem?_eq_getElem hiz]
      exact (bounds_u32 (hwf _ hmem)).1
    rw [hn, Int.toNat_of_nonneg hw]
    have hadd : ((⟨bb, off, none⟩ : Addr).add i) = ⟨bb, off + i, none⟩ := by
      unfold Addr.add
      by_cases h0 : i = 0 <;> simp [h0]
    rw [hadd] at hci
    exact hci

theorem gPow : Tryd.prog.globalNamed "internal/strconv.uint64pow10" = some 0 := by kernel_rfl
theorem tPow : (Tryd.prog.globals[0]?).map (·.type) = some 106 := by kernel_rfl

/-- What the rows list of the table of powers. -/
theorem pows_of_laid {W : World} (h : laidMetH Tryd.prog Rows.integerRingRow.laid W) : Pows W := by
  have e : Rows.integerRingRow.laid.filter (fun x => x.1 == "internal/strconv.uint64pow10") = [("internal/strconv.uint64pow10", Lib.tabData .u64 Lib.pow10Tab)] := by kernel_rfl
  have h2 := h.filter (fun x => x.1 == "internal/strconv.uint64pow10")
  rw [e, MakeChecks.laidMetH_plain _ _ _ (by kernel_rfl)] at h2
  exact Lib.tabIs_of_head (rest := []) gPow tPow Tryd.underlying106 Tryd.underlying58 (by kernel_rfl) (by kernel_rfl) h2

/-- The cells that a listed array lays. -/
def tabCells : DataW Unit → Array Value
  | .agg l => (l.map fun | .lit (.int k n) => Value.int k n | _ => undef).toArray
  | _ => #[]
noncomputable def layTab (h : Array Obj) (x : String × DataW Unit) : Array Obj :=
  match Tryd.prog.globalNamed x.1 with
  | some g => h.modify g fun
      | .cells _ t frozen => .cells (tabCells x.2) t frozen
      | o => o
  | none => h
/-- A world in which the listed tables lie. -/
noncomputable def laidWorld (os : Os) : World :=
  { World.holding Tryd.prog os ⟨#[], #[], []⟩ with heap := Rows.integerRingRow.laid.foldl layTab (World.holding Tryd.prog os ⟨#[], #[], []⟩).heap }

set_option maxRecDepth 100000 in
theorem ring_laid (os : Os) : laidMet Tryd.prog Rows.integerRingRow.laid ((laidWorld os).forCall (fun _ _ => 0) ⟨#[], #[.agg #[.bool false, .slice none 0 0], .agg #[.bool false, .slice none 0 0], .agg #[.bool false, .slice none 0 0]], []⟩).memory :=
  laidMet_of_run3 8 (by kernel_rfl) (by kernel_rfl) (by kernel_rfl)

end Go.Proofs.YtabibkhcdamlhaaDoor
