/-
  Walks over the reference: Neg, Add, Sub.
-/
import Derived.Test.YtabibkhcdamlhaaDoorR
import Derived.Test.YtabibkhcdamlhaaDoorF
import Derived.Test.YtabibkhcdamlhaaDoorP
import Derived.Deep.RegionHeld3
set_option linter.unusedSimpArgs false
set_option linter.unusedVariables false
namespace Go.Proofs.YtabibkhcdamlhaaDoor
open Go.RowKit Num

theorem RetN.mono {w : World} {m k k' : Nat} {e : Ending} {w' : World} (h : RetN w m k e w') (hk : k ≤ k') : RetN w m k' e w' := by
  obtain ⟨A, n, c, he, hm, hB⟩ := h
  exact ⟨A, n, c, he, hm.mono hk, hB⟩

/-- made at a canonical magnitude. -/
theorem made_mm (neg : Bool) (A : Option Addr) (n c m k : Nat) (w : World) (h : MM w A n c m k) (hk : k ≤ 1000000000) :
    Calls Tryd.prog 54 #[.bool neg, .slice A n c] w (RetZ w (sgnd neg m) k) := by
  obtain ⟨l, hs, hc, rfl, hn⟩ := h
  refine (made_any neg A n c l w hs hc.1 (by omega)).mono ?_
  rintro e w' ⟨n1, A1, n2, c2, rfl, h1, h2⟩
  exact ⟨n1, A1, n2, c2, rfl, h1.mono hn, h2⟩

theorem plus_mm (A : Option Addr) (n c : Nat) (A2 : Option Addr) (n2 c2 ma mb k : Nat) (w : World) (ha : MM w A n c ma k) (hb : MM w A2 n2 c2 mb k) (hk : k ≤ 100000000) :
    Calls Tryd.prog 66 #[.slice A n c, .slice A2 n2 c2] w (RetN w (ma + mb) (k + 1)) := by
  obtain ⟨la, hsa, hca, rfl, hna⟩ := ha
  obtain ⟨lb, hsb, hcb, rfl, hnb⟩ := hb
  exact (plus_any A n c A2 n2 c2 la lb w hsa hsb hca.1 hcb.1 (by omega) (by omega)).mono fun e w' h => RetN.mono h (by omega)

theorem minus_mm (A : Option Addr) (n c : Nat) (A2 : Option Addr) (n2 c2 ma mb k k2 : Nat) (w : World) (ha : MM w A n c ma k) (hb : MM w A2 n2 c2 mb k2) (hle : mb ≤ ma) (hk : k ≤ 1000000000) :
    Calls Tryd.prog 68 #[.slice A n c, .slice A2 n2 c2] w (RetN w (ma - mb) k) := by
  obtain ⟨la, hsa, hca, rfl, hna⟩ := ha
  obtain ⟨lb, hsb, hcb, rfl, hnb⟩ := hb
  have hn2 : n2 ≤ n := by
    rcases Nat.lt_or_ge n n2 with h | h
    · have := hca.len_lt hcb (by rw [← hsa.len, ← hsb.len]; exact h)
      omega
    · exact h
  exact (minus_any A n c A2 n2 c2 la lb w hsa hsb hca.1 hcb.1 (by omega) hn2 hle).mono fun e w' h => RetN.mono h hna

theorem II.store2 {w : World} {neg : Bool} {A : Option Addr} {n c k : Nat} {z : Int} (h : II w neg A n c z k) {g : Nat} {b1 : Bool} {A1 : Option Addr} {n1 c1 : Nat}
    (d1 : w.cell? ⟨g, 0, none⟩ = some (.bool b1)) (d2 : w.cell? ⟨g, 1, none⟩ = some (.slice A1 n1 c1)) (u v : Value) :
    II ((w.setCell ⟨g, 0, none⟩ u).setCell ⟨g, 1, none⟩ v) neg A n c z k := by
  refine (h.store d1 (fun _ _ e => by cases e) u).store (v := .slice A1 n1 c1) ?_ (fun _ _ e => by cases e) v
  rw [World.cell?_setCell_other _ _ _ _ (by simp)]
  exact d2

set_option maxRecDepth 100000 in
set_option maxHeartbeats 1600000 in
/-- Neg of the reference. -/
theorem rNeg_any (neg : Bool) (A : Option Addr) (n c : Nat) (z : Int) (k : Nat) (w : World) (h : VI w neg A n c z k) (hk : k ≤ 1000000000) :
    Calls Tryd.prog 20 #[.agg #[.bool neg, .slice A n c]] w (RetZ w (-z) k) := by
  have hb1 := (Below.refl w.heap.size w).alloc (Nat.le_refl _) (.cells #[.bool neg, .slice A n c] 24)
  have hb2 := hb1.alloc (by simp) (.cells #[.bool false, .slice none 0 0] 24)
  go_enter Tryd.func20, Tryd.ntmps20
  go_wp2_with (first | (go_at_call 13; refine (Value_any _ _ _ _ z k _ (h.below hb2) hk).mono ?_; rintro e w1 ⟨neg1, A1, n1, c1, rfl, hi1, hb3⟩; obtain ⟨⟨d1, d2, d3, d4⟩, ⟨e1, e2, e3, e4⟩, hsz⟩ := box2s hb3; have hsz0 : w.heap.size < w1.heap.size := (by omega); have hi2 := hi1.store2 d1 d2 (.bool neg1) (.slice A1 n1 c1)) | (go_at_call 54; refine (made_mm (!neg1) _ _ _ _ _ _ hi2.mm hk).mono ?_; rintro e w2 ⟨neg3, A3, n3, c3, rfl, hi3, hb4⟩; obtain ⟨hcc, hff, hsz3⟩ := old3 hb4; simp only [World.size_setCell] at hsz3))
  have d5 : w2.cell? ⟨w.heap.size + 1, 0, none⟩ = some (.bool false) := by rw [hcc _ _ (by simp <;> omega)]; simp [go_sem, d3]
  have d6 : w2.cell? ⟨w.heap.size + 1, 1, none⟩ = some (.slice none 0 0) := by rw [hcc _ _ (by simp <;> omega)]; simp [go_sem, d4]
  refine bodyPost_ret (v := .agg #[.bool neg3, .slice A3 n3 c3]) (by simp [results, Tryd.results20, go_sem, d5, d6]) rfl ?_
  rw [sgnd_not, hi1.sgnd] at hi3
  exact RetZ.close0 hi3 (by refine Below.trans ?_ (hb4.mono (by simp <;> omega)); repeat (first | exact hb2.trans (hb3.mono (by simp <;> omega)) | refine Below.setCell ?_ (by simp <;> omega) _)) (by omega) d5 d6

/-- Two results laid into the boxes of two arguments. -/
theorem II.store4 {w : World} {neg : Bool} {A : Option Addr} {n c k : Nat} {z : Int} (h : II w neg A n c z k) {g g' : Nat} {b1 b2 : Bool} {A1 A2 : Option Addr} {n1 c1 n2 c2 : Nat}
    (d1 : w.cell? ⟨g, 0, none⟩ = some (.bool b1)) (d2 : w.cell? ⟨g, 1, none⟩ = some (.slice A1 n1 c1)) (d3 : w.cell? ⟨g', 0, none⟩ = some (.bool b2)) (d4 : w.cell? ⟨g', 1, none⟩ = some (.slice A2 n2 c2)) (hg : g ≠ g') (u v u' v' : Value) :
    II ((((w.setCell ⟨g, 0, none⟩ u).setCell ⟨g, 1, none⟩ v).setCell ⟨g', 0, none⟩ u').setCell ⟨g', 1, none⟩ v') neg A n c z k := by
  refine (h.store2 d1 d2 u v).store2 (b1 := b2) (A1 := A2) (n1 := n2) (c1 := c2) ?_ ?_ u' v'
  · rw [World.cell?_setCell_other _ _ _ _ (by simp [hg]), World.cell?_setCell_other _ _ _ _ (by simp [hg])]; exact d3
  · rw [World.cell?_setCell_other _ _ _ _ (by simp [hg]), World.cell?_setCell_other _ _ _ _ (by simp [hg])]; exact d4

/-- Three boxes of two cells behind the stores into two of them, and behind a call. -/
theorem boxes4 {w2 w5 : World} {s : Nat} {b1 b2 b3 : Value} {u1 u2 u3 u4 v1 v2 v3 : Value}
    (hb : Below ((((w2.setCell ⟨s, 0, none⟩ u1).setCell ⟨s, 1, none⟩ u2).setCell ⟨s + 1, 0, none⟩ u3).setCell ⟨s + 1, 1, none⟩ u4).heap.size ((((w2.setCell ⟨s, 0, none⟩ u1).setCell ⟨s, 1, none⟩ u2).setCell ⟨s + 1, 0, none⟩ u3).setCell ⟨s + 1, 1, none⟩ u4) w5)
    (hd : w2.cell? ⟨s, 0, none⟩ = some b1 ∧ w2.cell? ⟨s, 1, none⟩ = some v1 ∧ w2.cell? ⟨s + 1, 0, none⟩ = some b2 ∧ w2.cell? ⟨s + 1, 1, none⟩ = some v2 ∧ w2.cell? ⟨s + 1 + 1, 0, none⟩ = some b3 ∧ w2.cell? ⟨s + 1 + 1, 1, none⟩ = some v3)
    (he : w2.frozen? ⟨s, 0, none⟩ = false ∧ w2.frozen? ⟨s, 1, none⟩ = false ∧ w2.frozen? ⟨s + 1, 0, none⟩ = false ∧ w2.frozen? ⟨s + 1, 1, none⟩ = false ∧ w2.frozen? ⟨s + 1 + 1, 0, none⟩ = false ∧ w2.frozen? ⟨s + 1 + 1, 1, none⟩ = false) (hs : s + 1 + 1 < w2.heap.size) :
    (w5.cell? ⟨s, 0, none⟩ = some u1 ∧ w5.cell? ⟨s, 1, none⟩ = some u2 ∧ w5.cell? ⟨s + 1, 0, none⟩ = some u3 ∧ w5.cell? ⟨s + 1, 1, none⟩ = some u4 ∧ w5.cell? ⟨s + 1 + 1, 0, none⟩ = some b3 ∧ w5.cell? ⟨s + 1 + 1, 1, none⟩ = some v3) ∧
    (w5.frozen? ⟨s, 0, none⟩ = false ∧ w5.frozen? ⟨s, 1, none⟩ = false ∧ w5.frozen? ⟨s + 1, 0, none⟩ = false ∧ w5.frozen? ⟨s + 1, 1, none⟩ = false ∧ w5.frozen? ⟨s + 1 + 1, 0, none⟩ = false ∧ w5.frozen? ⟨s + 1 + 1, 1, none⟩ = false) ∧ s + 1 + 1 < w5.heap.size := by
  obtain ⟨hc, hf, hz⟩ := old3 hb
  simp only [World.size_setCell] at hz
  obtain ⟨d1, d2, d3, d4, d5, d6⟩ := hd
  obtain ⟨e1, e2, e3, e4, e5, e6⟩ := he
  refine ⟨⟨?_, ?_, ?_, ?_, ?_, ?_⟩, ⟨?_, ?_, ?_, ?_, ?_, ?_⟩, by omega⟩
  all_goals first | (rw [hc _ _ (by simp <;> omega)]; simp [go_sem, d1, d2, d3, d4, d5, d6]; done) | (rw [hf _ _ (by simp <;> omega)]; simp [go_sem, e1, e2, e3, e4, e5, e6]; done)

/-- Three boxes behind one more call. -/
theorem boxes6 {w2 w5 : World} {s : Nat} {b1 b2 b3 v1 v2 v3 : Value} (hb : Below w2.heap.size w2 w5)
    (hd : w2.cell? ⟨s, 0, none⟩ = some b1 ∧ w2.cell? ⟨s, 1, none⟩ = some v1 ∧ w2.cell? ⟨s + 1, 0, none⟩ = some b2 ∧ w2.cell? ⟨s + 1, 1, none⟩ = some v2 ∧ w2.cell? ⟨s + 1 + 1, 0, none⟩ = some b3 ∧ w2.cell? ⟨s + 1 + 1, 1, none⟩ = some v3)
    (he : w2.frozen? ⟨s, 0, none⟩ = false ∧ w2.frozen? ⟨s, 1, none⟩ = false ∧ w2.frozen? ⟨s + 1, 0, none⟩ = false ∧ w2.frozen? ⟨s + 1, 1, none⟩ = false ∧ w2.frozen? ⟨s + 1 + 1, 0, none⟩ = false ∧ w2.frozen? ⟨s + 1 + 1, 1, none⟩ = false) (hs : s + 1 + 1 < w2.heap.size) :
    (w5.cell? ⟨s, 0, none⟩ = some b1 ∧ w5.cell? ⟨s, 1, none⟩ = some v1 ∧ w5.cell? ⟨s + 1, 0, none⟩ = some b2 ∧ w5.cell? ⟨s + 1, 1, none⟩ = some v2 ∧ w5.cell? ⟨s + 1 + 1, 0, none⟩ = some b3 ∧ w5.cell? ⟨s + 1 + 1, 1, none⟩ = some v3) ∧
    (w5.frozen? ⟨s, 0, none⟩ = false ∧ w5.frozen? ⟨s, 1, none⟩ = false ∧ w5.frozen? ⟨s + 1, 0, none⟩ = false ∧ w5.frozen? ⟨s + 1, 1, none⟩ = false ∧ w5.frozen? ⟨s + 1 + 1, 0, none⟩ = false ∧ w5.frozen? ⟨s + 1 + 1, 1, none⟩ = false) ∧ s + 1 + 1 < w5.heap.size := by
  obtain ⟨hc, hf, hz⟩ := old3 hb
  obtain ⟨d1, d2, d3, d4, d5, d6⟩ := hd
  obtain ⟨e1, e2, e3, e4, e5, e6⟩ := he
  refine ⟨⟨?_, ?_, ?_, ?_, ?_, ?_⟩, ⟨?_, ?_, ?_, ?_, ?_, ?_⟩, by omega⟩
  all_goals first | (rw [hc _ _ (by omega)]; assumption) | (rw [hf _ _ (by omega)]; assumption)

/-- The sum by signs. -/
theorem sgnd_add_same {b : Bool} {x y : Int} (hx : sgnd b x.natAbs = x) (hy : sgnd b y.natAbs = y) : sgnd b (x.natAbs + y.natAbs) = x + y := by
  rw [← hx, ← hy, sgnd_natAbs, sgnd_natAbs]; unfold sgnd; split <;> omega
theorem sgnd_add_left {b : Bool} {x y : Int} (hx : sgnd b x.natAbs = x) (hy : sgnd (!b) y.natAbs = y) (h : y.natAbs ≤ x.natAbs) : sgnd b (x.natAbs - y.natAbs) = x + y := by
  unfold sgnd at *; cases b <;> simp at * <;> omega
theorem sgnd_add_right {b : Bool} {x y : Int} (hx : sgnd b x.natAbs = x) (hy : sgnd (!b) y.natAbs = y) (h : x.natAbs ≤ y.natAbs) : sgnd (!b) (y.natAbs - x.natAbs) = x + y := by
  unfold sgnd at *; cases b <;> simp at * <;> omega
theorem MM.drew {w : World} {A : Option Addr} {n c m k : Nat} (h : MM w A n c m k) : MM w.drew A n c m k := h

end Go.Proofs.YtabibkhcdamlhaaDoor

/-
  Boxes of two cells.
-/
namespace Go.Proofs.YtabibkhcdamlhaaDoor
open Go.RowKit Num

/-- A box of two cells that may be written. -/
def Bx (w : World) (g : Nat) (u v : Value) : Prop := w.cell? ⟨g, 0, none⟩ = some u ∧ w.cell? ⟨g, 1, none⟩ = some v ∧ w.frozen? ⟨g, 0, none⟩ = false ∧ w.frozen? ⟨g, 1, none⟩ = false ∧ g < w.heap.size

theorem Bx.below {w w' : World} {g : Nat} {u v : Value} (h : Bx w g u v) (hb : Below w.heap.size w w') : Bx w' g u v := by
  obtain ⟨hc, hf, hs⟩ := old3 hb
  obtain ⟨h1, h2, h3, h4, h5⟩ := h
  exact ⟨(hc _ _ h5).trans h1, (hc _ _ h5).trans h2, (hf _ _ h5).trans h3, (hf _ _ h5).trans h4, by omega⟩
theorem Bx.new (w : World) (u v : Value) (t : TypeId) : Bx (w.alloc (.cells #[u, v] t)) w.heap.size u v := ⟨by simp [go_sem], by simp [go_sem], by simp [go_sem], by simp [go_sem], by simp⟩
theorem Bx.alloc {w : World} {g : Nat} {u v : Value} (h : Bx w g u v) (o : Obj) : Bx (w.alloc o) g u v := h.below ((Below.refl _ w).alloc (Nat.le_refl _) o)
theorem Bx.drew {w : World} {g : Nat} {u v : Value} (h : Bx w g u v) : Bx w.drew g u v := h
theorem Bx.far {w : World} {g : Nat} {u v : Value} (h : Bx w g u v) {p : Addr} (hp : p.block ≠ g) (x : Value) : Bx (w.setCell p x) g u v := by
  obtain ⟨h1, h2, h3, h4, h5⟩ := h
  have hb : (w.setCell p x).heap[g]? = w.heap[g]? := Below.heap_setCell w p x g (fun e => hp e.symm)
  exact ⟨(World.cell?_of_block hb).trans h1, (World.cell?_of_block hb).trans h2, (World.frozen?_of_block hb).trans h3, (World.frozen?_of_block hb).trans h4, by rw [World.size_setCell]; exact h5⟩
theorem Bx.set {w : World} {g : Nat} {u v : Value} (h : Bx w g u v) (u' v' : Value) : Bx ((w.setCell ⟨g, 0, none⟩ u').setCell ⟨g, 1, none⟩ v') g u' v' := by
  obtain ⟨h1, h2, h3, h4, h5⟩ := h
  exact ⟨by simp [go_sem, h1, h2], by simp [go_sem, h1, h2], by simp [go_sem, h3, h4], by simp [go_sem, h3, h4], by simpa using h5⟩

theorem II.set {w : World} {neg : Bool} {A : Option Addr} {n c k : Nat} {z : Int} (h : II w neg A n c z k) {g : Nat} {b1 : Bool} {A1 : Option Addr} {n1 c1 : Nat} (hb : Bx w g (.bool b1) (.slice A1 n1 c1)) (u v : Value) :
    II ((w.setCell ⟨g, 0, none⟩ u).setCell ⟨g, 1, none⟩ v) neg A n c z k := h.store2 hb.1 hb.2.1 u v

/-- Four boxes behind a call. -/
theorem boxes {w w' : World} {u1 u2 u3 u4 u5 u6 u7 u8 : Value} {t1 t2 t3 t4 : TypeId}
    (h : Below ((((w.alloc (.cells #[u1, u2] t1)).alloc (.cells #[u3, u4] t2)).alloc (.cells #[u5, u6] t3)).alloc (.cells #[u7, u8] t4)).heap.size ((((w.alloc (.cells #[u1, u2] t1)).alloc (.cells #[u3, u4] t2)).alloc (.cells #[u5, u6] t3)).alloc (.cells #[u7, u8] t4)) w') :
    Bx w' w.heap.size u1 u2 ∧ Bx w' (w.heap.size + 1) u3 u4 ∧ Bx w' (w.heap.size + 1 + 1) u5 u6 ∧ Bx w' (w.heap.size + 1 + 1 + 1) u7 u8 := by
  have b1 := Bx.new w u1 u2 t1
  have b2 := Bx.new (w.alloc (.cells #[u1, u2] t1)) u3 u4 t2
  have b3 := Bx.new ((w.alloc (.cells #[u1, u2] t1)).alloc (.cells #[u3, u4] t2)) u5 u6 t3
  have b4 := Bx.new (((w.alloc (.cells #[u1, u2] t1)).alloc (.cells #[u3, u4] t2)).alloc (.cells #[u5, u6] t3)) u7 u8 t4
  simp only [World.size_alloc] at b1 b2 b3 b4
  exact ⟨(((b1.alloc _).alloc _).alloc _).below h, ((b2.alloc _).alloc _).below h, (b3.alloc _).below h, b4.below h⟩

end Go.Proofs.YtabibkhcdamlhaaDoor
