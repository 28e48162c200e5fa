/-
  Walk: the law of the forms of rasters.
-/
import Derived.Test.YtehnemdifkjhcaaRaI
set_option linter.unusedSimpArgs false
set_option linter.unusedVariables false
namespace Go.Proofs.Ytehnemdifkjhcaa
open Go.RowKit

/-- A block that is known whole. -/
def KB (w : World) (g : Nat) (cs : Array Value) (t : TypeId) : Prop := w.heap[g]? = some (.cells cs t (0, 0))
section
variable {w w' : World} {g : Nat} {cs : Array Value} {t : TypeId}
theorem KB.lt (h : KB w g cs t) : g < w.heap.size := (Array.getElem?_eq_some_iff.1 h).1
theorem KB.new (w : World) (cs : Array Value) (t : TypeId) : KB (w.alloc (.cells cs t)) w.heap.size cs t := heap_alloc_new w _
theorem KB.keep (h : KB w g cs t) (hk : w'.heap[g]? = w.heap[g]?) : KB w' g cs t := hk.trans h
theorem KB.alloc (h : KB w g cs t) (o : Obj) : KB (w.alloc o) g cs t := h.keep (Below.heap_alloc w o g h.lt)
theorem KB.below (h : KB w g cs t) {B : Nat} (hb : Below B w w') (hg : g < B) : KB w' g cs t := h.keep (hb.block g hg)
theorem KB.cell (h : KB w g cs t) (i : Nat) {v : Value} (hv : cs[i]? = some v) : w.cell? ⟨g, i, none⟩ = some v := by rw [cell_of_row w g i _ _ _ h]; exact hv
end

/-- Below is kept by an allocation, whatever the base. -/
theorem RR.two {w : World} {g : Nat} {W H M W2 H2 M2 : Int} {A A2 : Option Addr} {n c n2 c2 : Nat}
    (h : KB w g #[.int .i64 W, .int .i64 H, .int .i64 M, .slice A n c, .int .i64 W2, .int .i64 H2, .int .i64 M2, .slice A2 n2 c2] 24) :
    RR w g 2 (fun i => if i = 0 then W else W2) (fun i => if i = 0 then H else H2) (fun i => if i = 0 then M else M2) (fun i => if i = 0 then A else A2) (fun i => if i = 0 then n else n2) (fun i => if i = 0 then c else c2) := by
  intro i hi
  have : i = 0 ∨ i = 1 := by omega
  rcases this with rfl | rfl
  · exact ⟨h.cell 0 rfl, h.cell 1 rfl, h.cell 2 rfl, h.cell 3 rfl⟩
  · exact ⟨h.cell 4 rfl, h.cell 5 rfl, h.cell 6 rfl, h.cell 7 rfl⟩
theorem RR.one {w : World} {g : Nat} {W H M : Int} {A : Option Addr} {n c : Nat} (h : KB w g #[.int .i64 W, .int .i64 H, .int .i64 M, .slice A n c] 24) :
    RR w g 1 (fun _ => W) (fun _ => H) (fun _ => M) (fun _ => A) (fun _ => n) (fun _ => c) := by
  intro i hi
  obtain rfl : i = 0 := by omega
  exact ⟨h.cell 0 rfl, h.cell 1 rfl, h.cell 2 rfl, h.cell 3 rfl⟩

/-- few of two rasters. -/
theorem few_two {w : World} {g : Nat} {W H M W2 H2 M2 : Int} {A A2 : Option Addr} {n c n2 c2 : Nat} {b : Bool} (h : KB w g #[.int .i64 W, .int .i64 H, .int .i64 M, .slice A n c, .int .i64 W2, .int .i64 H2, .int .i64 M2, .slice A2 n2 c2] 24)
    (hn : n ≤ 9223372036854775807) (hn2 : n2 ≤ 9223372036854775807) (hb : b = true ↔ n ≤ 600 ∧ n2 ≤ 600) :
    Calls Try.prog 12 #[.slice (some ⟨g, 0, none⟩) 2 2] w fun e w' => e = .returned (.bool b) ∧ Below w.heap.size w w' :=
  few_any g 2 2 _ _ _ _ _ _ w (Nat.le_refl _) (by omega) h.lt (fun i _ => by show (if i = 0 then n else n2) ≤ _; split <;> assumption) (RR.two h)
    (hb.trans ⟨fun h i _ => by show (if i = 0 then n else n2) ≤ 600; split; exact h.1; exact h.2, fun h => ⟨h 0 (by omega), h 1 (by omega)⟩⟩)
theorem few_one {w : World} {g : Nat} {W H M : Int} {A : Option Addr} {n c : Nat} {b : Bool} (h : KB w g #[.int .i64 W, .int .i64 H, .int .i64 M, .slice A n c] 24) (hn : n ≤ 9223372036854775807) (hb : b = true ↔ n ≤ 600) :
    Calls Try.prog 12 #[.slice (some ⟨g, 0, none⟩) 1 1] w fun e w' => e = .returned (.bool b) ∧ Below w.heap.size w w' :=
  few_any g 1 1 _ _ _ _ _ _ w (Nat.le_refl _) (by omega) h.lt (fun i _ => hn) (RR.one h) (hb.trans ⟨fun h i _ => h, fun h => h 0 (by omega)⟩)

theorem few_two_yes {w : World} {g : Nat} {W H M W2 H2 M2 : Int} {A A2 : Option Addr} {n c n2 c2 : Nat} (h : KB w g #[.int .i64 W, .int .i64 H, .int .i64 M, .slice A n c, .int .i64 W2, .int .i64 H2, .int .i64 M2, .slice A2 n2 c2] 24) (hm : n ≤ 600 ∧ n2 ≤ 600) :
    Calls Try.prog 12 #[.slice (some ⟨g, 0, none⟩) 2 2] w fun e w' => e = .returned (.bool true) ∧ Below w.heap.size w w' := few_two h (by omega) (by omega) ⟨fun _ => hm, fun _ => rfl⟩
theorem few_one_yes {w : World} {g : Nat} {W H M : Int} {A : Option Addr} {n c : Nat} (h : KB w g #[.int .i64 W, .int .i64 H, .int .i64 M, .slice A n c] 24) (hm : n ≤ 600) :
    Calls Try.prog 12 #[.slice (some ⟨g, 0, none⟩) 1 1] w fun e w' => e = .returned (.bool true) ∧ Below w.heap.size w w' := few_one h (by omega) ⟨fun _ => hm, fun _ => rfl⟩
theorem few_one_no {w : World} {g : Nat} {W H M : Int} {A : Option Addr} {n c : Nat} (h : KB w g #[.int .i64 W, .int .i64 H, .int .i64 M, .slice A n c] 24) (hn : n ≤ 9223372036854775807) (hm : 600 < n) :
    Calls Try.prog 12 #[.slice (some ⟨g, 0, none⟩) 1 1] w fun e w' => e = .returned (.bool false) ∧ Below w.heap.size w w' := few_one h hn ⟨fun h => (by cases h), fun h => by omega⟩

theorem hfm_out {a b c : Int} (h : hfm a b c = false) : a < 1 ∨ (1 ≤ a ∧ 64 < a) ∨ (1 ≤ a ∧ a ≤ 64 ∧ b < 1) ∨ (1 ≤ a ∧ a ≤ 64 ∧ 1 ≤ b ∧ 64 < b) ∨ (1 ≤ a ∧ a ≤ 64 ∧ 1 ≤ b ∧ b ≤ 64 ∧ c < 1) ∨ (1 ≤ a ∧ a ≤ 64 ∧ 1 ≤ b ∧ b ≤ 64 ∧ 1 ≤ c ∧ 65535 < c) := by
  have h1 : ¬ ((1 ≤ a ∧ a ≤ 64) ∧ (1 ≤ b ∧ b ≤ 64) ∧ 1 ≤ c ∧ c ≤ 65535) := fun e => by rw [hfm_iff.2 e] at h; cases h
  omega
theorem New_int {W H M : Int} {w : World} (hf : hfm W H M = true) : Calls Try.prog 18 #[.int .i64 W, .int .i64 H, .int .i64 M] w (RetR w W H M (List.replicate (W.toNat * H.toNat) 0)) := by
  have h := hfm_iff.1 hf
  obtain ⟨a, rfl⟩ := Int.eq_ofNat_of_zero_le (show 0 ≤ W by omega)
  obtain ⟨b, rfl⟩ := Int.eq_ofNat_of_zero_le (show 0 ≤ H by omega)
  exact New_yes a b M w hf
theorem rNew_int {W H M : Int} {w : World} (hf : hfm W H M = true) : Calls Try.prog 20 #[.int .i64 W, .int .i64 H, .int .i64 M] w (RetO w W H M (List.replicate (W.toNat * H.toNat) 0)) := by
  have h := hfm_iff.1 hf
  obtain ⟨a, rfl⟩ := Int.eq_ofNat_of_zero_le (show 0 ≤ W by omega)
  obtain ⟨b, rfl⟩ := Int.eq_ofNat_of_zero_le (show 0 ≤ H by omega)
  exact rNew_any a b M w (by omega) (by omega) (by omega) (by omega)

/-- Both Checks say the same code. -/
theorem checks (W H M : Int) (P : List Int) : ∃ k : Int, (k = 0 ∧ Ras W H M P ∨ k = 1 ∧ ¬ Ras W H M P) ∧
    (∀ (w : World) (A : Option Addr) (n c : Nat), Sl w A n c P → Calls Try.prog 13 #[.agg #[.int .i64 W, .int .i64 H, .int .i64 M, .slice A n c]] w fun e w' => e = .returned (.int .i64 k) ∧ Below w.heap.size w w') ∧
    (∀ (w : World) (A : Option Addr) (n c : Nat), Sl w A n c P → Calls Try.prog 14 #[.agg #[.int .i64 W, .int .i64 H, .int .i64 M, .slice A n c]] w fun e w' => e = .returned (.int .i64 k) ∧ Below w.heap.size w w') := by
  by_cases hr : Ras W H M P
  · exact ⟨0, .inl ⟨rfl, hr⟩, fun w A n c h => Check_ok h hr, fun w A n c h => rCheck_ok h hr⟩
  · exact ⟨1, .inr ⟨rfl, hr⟩, fun w A n c h => Check_no h hr, fun w A n c h => rCheck_no h hr⟩

theorem Equal_at {W H M : Int} {A : Option Addr} {n c : Nat} {P : List Int} {W2 H2 M2 : Int} {A2 : Option Addr} {n2 c2 : Nat} {P2 : List Int} {w : World} {b : Bool} (hb : eqr W H M P W2 H2 M2 P2 = b) (h : Sl w A n c P) (h2 : Sl w A2 n2 c2 P2) :
    Calls Try.prog 15 #[.agg #[.int .i64 W, .int .i64 H, .int .i64 M, .slice A n c], .agg #[.int .i64 W2, .int .i64 H2, .int .i64 M2, .slice A2 n2 c2]] w fun e w' => e = .returned (.bool b) ∧ Below w.heap.size w w' := hb ▸ Equal_any W H M A n c P W2 H2 M2 A2 n2 c2 P2 w h h2
theorem rEqual_at {W H M : Int} {A : Option Addr} {n c : Nat} {P : List Int} {W2 H2 M2 : Int} {A2 : Option Addr} {n2 c2 : Nat} {P2 : List Int} {w : World} {b : Bool} (hb : eqr W H M P W2 H2 M2 P2 = b) (h : Sl w A n c P) (h2 : Sl w A2 n2 c2 P2) :
    Calls Try.prog 16 #[.agg #[.int .i64 W, .int .i64 H, .int .i64 M, .slice A n c], .agg #[.int .i64 W2, .int .i64 H2, .int .i64 M2, .slice A2 n2 c2]] w fun e w' => e = .returned (.bool b) ∧ Below w.heap.size w w' := hb ▸ rEqual_any W H M A n c P W2 H2 M2 A2 n2 c2 P2 w h h2
theorem eqr_self (W H M : Int) (P : List Int) : eqr W H M P W H M P = true := by unfold eqr; simp

set_option maxRecDepth 100000 in
set_option maxHeartbeats 3200000 in
/-- The law of the forms, where a raster has more than 600 pixels. -/
theorem forms_many (W H M : Int) (A : Option Addr) (n c : Nat) (P : List Int) (W2 H2 M2 : Int) (A2 : Option Addr) (n2 c2 : Nat) (P2 : List Int) (s0 s1 s2 : Int) (w : World) (h : Sl w A n c P) (h2 : Sl w A2 n2 c2 P2) (hm : ¬ (n ≤ 600 ∧ n2 ≤ 600)) :
    Calls Try.prog 3 #[.agg #[.int .i64 W, .int .i64 H, .int .i64 M, .slice A n c], .agg #[.int .i64 W2, .int .i64 H2, .int .i64 M2, .slice A2 n2 c2], .agg #[.int .i64 s0, .int .i64 s1, .int .i64 s2]] w fun e w' => e = .returned (.bool true) ∧ Below w.heap.size w w' := by
  have hcap := h.le_cap
  have hcl := h.cap_le
  have hcap2 := h2.le_cap
  have hcl2 := h2.cap_le
  have hb0 := (((Below.refl w.heap.size w).alloc (Nat.le_refl _) (.cells #[.int .i64 W, .int .i64 H, .int .i64 M, .slice A n c] 24)).alloc (by simp) (.cells #[.int .i64 W2, .int .i64 H2, .int .i64 M2, .slice A2 n2 c2] 24)).alloc (by simp <;> omega) (.cells #[.int .i64 s0, .int .i64 s1, .int .i64 s2] 25)
  have k0 : KB _ _ _ _ := ((KB.new w #[.int .i64 W, .int .i64 H, .int .i64 M, .slice A n c] 24).alloc (.cells #[.int .i64 W2, .int .i64 H2, .int .i64 M2, .slice A2 n2 c2] 24)).alloc (.cells #[.int .i64 s0, .int .i64 s1, .int .i64 s2] 25)
  have k1 : KB _ _ _ _ := (KB.new (w.alloc (.cells #[.int .i64 W, .int .i64 H, .int .i64 M, .slice A n c] 24)) #[.int .i64 W2, .int .i64 H2, .int .i64 M2, .slice A2 n2 c2] 24).alloc (.cells #[.int .i64 s0, .int .i64 s1, .int .i64 s2] 25)
  have k2 : KB _ _ _ _ := KB.new ((w.alloc (.cells #[.int .i64 W, .int .i64 H, .int .i64 M, .slice A n c] 24)).alloc (.cells #[.int .i64 W2, .int .i64 H2, .int .i64 M2, .slice A2 n2 c2] 24)) #[.int .i64 s0, .int .i64 s1, .int .i64 s2] 25
  simp only [World.size_alloc] at k1 k2
  have hfew : (false = true) ↔ n ≤ 600 ∧ n2 ≤ 600 := by simp; omega
  replace hfew := Lib.hid hfew
  clear hm h h2
  go_enter Try.func3, Try.ntmps3
  go_wp2_with (first | (go_at_call 11; refine (known_any _).mono ?_; rintro e w1 ⟨rfl, hb1⟩; simp only [World.size_alloc] at hb1; have z1 := hb1.size; simp only [World.size_alloc] at z1; replace k0 := k0.below hb1 (by omega); replace k1 := k1.below hb1 (by omega); replace k2 := k2.below hb1 (by omega); have hB1 := hb0.trans (hb1.mono (by omega)); have a0 := k0.cell 0 rfl; have a1 := k0.cell 1 rfl; have a2 := k0.cell 2 rfl; have a3 := k0.cell 3 rfl; have b0 := k1.cell 0 rfl; have b1 := k1.cell 1 rfl; have b2 := k1.cell 2 rfl; have b3 := k1.cell 3 rfl; clear hb1) | (go_at_call 12; refine (few_two (b := false) (KB.new w1 _ _) (by omega) (by omega) hfew.out).mono ?_; rintro e w2 ⟨rfl, hb2⟩; simp only [World.size_alloc] at hb2; have z2 := hb2.size; simp only [World.size_alloc] at z2; replace k0 := (k0.alloc _).below hb2 (by omega); replace k1 := (k1.alloc _).below hb2 (by omega); replace k2 := (k2.alloc _).below hb2 (by omega); have hB2 := (hB1.alloc hB1.size _).trans (hb2.mono (by omega)); clear hb2 a0 a1 a2 a3 b0 b1 b2 b3; have a0 := k0.cell 0 rfl; have a1 := k0.cell 1 rfl; have a2 := k0.cell 2 rfl; have a3 := k0.cell 3 rfl; have b0 := k1.cell 0 rfl; have b1 := k1.cell 1 rfl; have b2 := k1.cell 2 rfl; have b3 := k1.cell 3 rfl; have c0 := k2.cell 0 rfl; have c1 := k2.cell 1 rfl; have c2' := k2.cell 2 rfl))
  go_ret
  exact ⟨rfl, hB2⟩

set_option maxRecDepth 100000 in
set_option maxHeartbeats 3200000 in
theorem forms_b1 (W H M : Int) (A : Option Addr) (n c : Nat) (P : List Int) (W2 H2 M2 : Int) (A2 : Option Addr) (n2 c2 : Nat) (P2 : List Int) (s0 s1 s2 : Int) (w : World) (h : Sl w A n c P) (h2 : Sl w A2 n2 c2 P2) (hm : n ≤ 600 ∧ n2 ≤ 600) (q1 : 20 < s0) (q2 : s0 ≤ 64) :
    Calls Try.prog 3 #[.agg #[.int .i64 W, .int .i64 H, .int .i64 M, .slice A n c], .agg #[.int .i64 W2, .int .i64 H2, .int .i64 M2, .slice A2 n2 c2], .agg #[.int .i64 s0, .int .i64 s1, .int .i64 s2]] w fun e w' => e = .returned (.bool true) ∧ Below w.heap.size w w' := by
  have hcap := h.le_cap
  have hcl := h.cap_le
  have hcap2 := h2.le_cap
  have hcl2 := h2.cap_le
  have hb0 := (((Below.refl w.heap.size w).alloc (Nat.le_refl _) (.cells #[.int .i64 W, .int .i64 H, .int .i64 M, .slice A n c] 24)).alloc (by simp) (.cells #[.int .i64 W2, .int .i64 H2, .int .i64 M2, .slice A2 n2 c2] 24)).alloc (by simp <;> omega) (.cells #[.int .i64 s0, .int .i64 s1, .int .i64 s2] 25)
  have k0 : KB _ _ _ _ := ((KB.new w #[.int .i64 W, .int .i64 H, .int .i64 M, .slice A n c] 24).alloc (.cells #[.int .i64 W2, .int .i64 H2, .int .i64 M2, .slice A2 n2 c2] 24)).alloc (.cells #[.int .i64 s0, .int .i64 s1, .int .i64 s2] 25)
  have k1 : KB _ _ _ _ := (KB.new (w.alloc (.cells #[.int .i64 W, .int .i64 H, .int .i64 M, .slice A n c] 24)) #[.int .i64 W2, .int .i64 H2, .int .i64 M2, .slice A2 n2 c2] 24).alloc (.cells #[.int .i64 s0, .int .i64 s1, .int .i64 s2] 25)
  have k2 : KB _ _ _ _ := KB.new ((w.alloc (.cells #[.int .i64 W, .int .i64 H, .int .i64 M, .slice A n c] 24)).alloc (.cells #[.int .i64 W2, .int .i64 H2, .int .i64 M2, .slice A2 n2 c2] 24)) #[.int .i64 s0, .int .i64 s1, .int .i64 s2] 25
  simp only [World.size_alloc] at k1 k2
  clear h h2
  go_enter Try.func3, Try.ntmps3
  go_wp2_with (first | (go_at_call 11; refine (known_any _).mono ?_; rintro e w1 ⟨rfl, hb1⟩; simp only [World.size_alloc] at hb1; have z1 := hb1.size; simp only [World.size_alloc] at z1; replace k0 := k0.below hb1 (by omega); replace k1 := k1.below hb1 (by omega); replace k2 := k2.below hb1 (by omega); have hB1 := hb0.trans (hb1.mono (by omega)); have a0 := k0.cell 0 rfl; have a1 := k0.cell 1 rfl; have a2 := k0.cell 2 rfl; have a3 := k0.cell 3 rfl; have b0 := k1.cell 0 rfl; have b1 := k1.cell 1 rfl; have b2 := k1.cell 2 rfl; have b3 := k1.cell 3 rfl; clear hb1) | (go_at_call 12; refine (few_two_yes (KB.new w1 _ _) hm).mono ?_; rintro e w2 ⟨rfl, hb2⟩; simp only [World.size_alloc] at hb2; have z2 := hb2.size; simp only [World.size_alloc] at z2; replace k0 := (k0.alloc _).below hb2 (by omega); replace k1 := (k1.alloc _).below hb2 (by omega); replace k2 := (k2.alloc _).below hb2 (by omega); have hB2 := (hB1.alloc hB1.size _).trans (hb2.mono (by omega)); clear hb2 a0 a1 a2 a3 b0 b1 b2 b3; have a0 := k0.cell 0 rfl; have a1 := k0.cell 1 rfl; have a2 := k0.cell 2 rfl; have a3 := k0.cell 3 rfl; have b0 := k1.cell 0 rfl; have b1 := k1.cell 1 rfl; have b2 := k1.cell 2 rfl; have b3 := k1.cell 3 rfl; have c0 := k2.cell 0 rfl; have c1 := k2.cell 1 rfl; have c2' := k2.cell 2 rfl))
  go_ret
  exact ⟨rfl, hB2⟩

set_option maxRecDepth 100000 in
set_option maxHeartbeats 3200000 in
theorem forms_b2 (W H M : Int) (A : Option Addr) (n c : Nat) (P : List Int) (W2 H2 M2 : Int) (A2 : Option Addr) (n2 c2 : Nat) (P2 : List Int) (s0 s1 s2 : Int) (w : World) (h : Sl w A n c P) (h2 : Sl w A2 n2 c2 P2) (hm : n ≤ 600 ∧ n2 ≤ 600) (q0 : s0 ≤ 20) (q1 : 20 < s1) (q2 : s1 ≤ 64) :
    Calls Try.prog 3 #[.agg #[.int .i64 W, .int .i64 H, .int .i64 M, .slice A n c], .agg #[.int .i64 W2, .int .i64 H2, .int .i64 M2, .slice A2 n2 c2], .agg #[.int .i64 s0, .int .i64 s1, .int .i64 s2]] w fun e w' => e = .returned (.bool true) ∧ Below w.heap.size w w' := by
  have hcap := h.le_cap
  have hcl := h.cap_le
  have hcap2 := h2.le_cap
  have hcl2 := h2.cap_le
  have hb0 := (((Below.refl w.heap.size w).alloc (Nat.le_refl _) (.cells #[.int .i64 W, .int .i64 H, .int .i64 M, .slice A n c] 24)).alloc (by simp) (.cells #[.int .i64 W2, .int .i64 H2, .int .i64 M2, .slice A2 n2 c2] 24)).alloc (by simp <;> omega) (.cells #[.int .i64 s0, .int .i64 s1, .int .i64 s2] 25)
  have k0 : KB _ _ _ _ := ((KB.new w #[.int .i64 W, .int .i64 H, .int .i64 M, .slice A n c] 24).alloc (.cells #[.int .i64 W2, .int .i64 H2, .int .i64 M2, .slice A2 n2 c2] 24)).alloc (.cells #[.int .i64 s0, .int .i64 s1, .int .i64 s2] 25)
  have k1 : KB _ _ _ _ := (KB.new (w.alloc (.cells #[.int .i64 W, .int .i64 H, .int .i64 M, .slice A n c] 24)) #[.int .i64 W2, .int .i64 H2, .int .i64 M2, .slice A2 n2 c2] 24).alloc (.cells #[.int .i64 s0, .int .i64 s1, .int .i64 s2] 25)
  have k2 : KB _ _ _ _ := KB.new ((w.alloc (.cells #[.int .i64 W, .int .i64 H, .int .i64 M, .slice A n c] 24)).alloc (.cells #[.int .i64 W2, .int .i64 H2, .int .i64 M2, .slice A2 n2 c2] 24)) #[.int .i64 s0, .int .i64 s1, .int .i64 s2] 25
  simp only [World.size_alloc] at k1 k2
  clear h h2
  go_enter Try.func3, Try.ntmps3
  go_wp2_with (first | (go_at_call 11; refine (known_any _).mono ?_; rintro e w1 ⟨rfl, hb1⟩; simp only [World.size_alloc] at hb1; have z1 := hb1.size; simp only [World.size_alloc] at z1; replace k0 := k0.below hb1 (by omega); replace k1 := k1.below hb1 (by omega); replace k2 := k2.below hb1 (by omega); have hB1 := hb0.trans (hb1.mono (by omega)); have a0 := k0.cell 0 rfl; have a1 := k0.cell 1 rfl; have a2 := k0.cell 2 rfl; have a3 := k0.cell 3 rfl; have b0 := k1.cell 0 rfl; have b1 := k1.cell 1 rfl; have b2 := k1.cell 2 rfl; have b3 := k1.cell 3 rfl; clear hb1) | (go_at_call 12; refine (few_two_yes (KB.new w1 _ _) hm).mono ?_; rintro e w2 ⟨rfl, hb2⟩; simp only [World.size_alloc] at hb2; have z2 := hb2.size; simp only [World.size_alloc] at z2; replace k0 := (k0.alloc _).below hb2 (by omega); replace k1 := (k1.alloc _).below hb2 (by omega); replace k2 := (k2.alloc _).below hb2 (by omega); have hB2 := (hB1.alloc hB1.size _).trans (hb2.mono (by omega)); clear hb2 a0 a1 a2 a3 b0 b1 b2 b3; have a0 := k0.cell 0 rfl; have a1 := k0.cell 1 rfl; have a2 := k0.cell 2 rfl; have a3 := k0.cell 3 rfl; have b0 := k1.cell 0 rfl; have b1 := k1.cell 1 rfl; have b2 := k1.cell 2 rfl; have b3 := k1.cell 3 rfl; have c0 := k2.cell 0 rfl; have c1 := k2.cell 1 rfl; have c2' := k2.cell 2 rfl))
  go_ret
  exact ⟨rfl, hB2⟩

set_option maxRecDepth 100000 in
set_option maxHeartbeats 3200000 in
theorem forms_b3 (W H M : Int) (A : Option Addr) (n c : Nat) (P : List Int) (W2 H2 M2 : Int) (A2 : Option Addr) (n2 c2 : Nat) (P2 : List Int) (s0 s1 s2 : Int) (w : World) (h : Sl w A n c P) (h2 : Sl w A2 n2 c2 P2) (hm : n ≤ 600 ∧ n2 ≤ 600) (q0 : 64 < s0) (q00 : 20 < s0) (q1 : 20 < s1) (q2 : s1 ≤ 64) :
    Calls Try.prog 3 #[.agg #[.int .i64 W, .int .i64 H, .int .i64 M, .slice A n c], .agg #[.int .i64 W2, .int .i64 H2, .int .i64 M2, .slice A2 n2 c2], .agg #[.int .i64 s0, .int .i64 s1, .int .i64 s2]] w fun e w' => e = .returned (.bool true) ∧ Below w.heap.size w w' := by
  have hcap := h.le_cap
  have hcl := h.cap_le
  have hcap2 := h2.le_cap
  have hcl2 := h2.cap_le
  have hb0 := (((Below.refl w.heap.size w).alloc (Nat.le_refl _) (.cells #[.int .i64 W, .int .i64 H, .int .i64 M, .slice A n c] 24)).alloc (by simp) (.cells #[.int .i64 W2, .int .i64 H2, .int .i64 M2, .slice A2 n2 c2] 24)).alloc (by simp <;> omega) (.cells #[.int .i64 s0, .int .i64 s1, .int .i64 s2] 25)
  have k0 : KB _ _ _ _ := ((KB.new w #[.int .i64 W, .int .i64 H, .int .i64 M, .slice A n c] 24).alloc (.cells #[.int .i64 W2, .int .i64 H2, .int .i64 M2, .slice A2 n2 c2] 24)).alloc (.cells #[.int .i64 s0, .int .i64 s1, .int .i64 s2] 25)
  have k1 : KB _ _ _ _ := (KB.new (w.alloc (.cells #[.int .i64 W, .int .i64 H, .int .i64 M, .slice A n c] 24)) #[.int .i64 W2, .int .i64 H2, .int .i64 M2, .slice A2 n2 c2] 24).alloc (.cells #[.int .i64 s0, .int .i64 s1, .int .i64 s2] 25)
  have k2 : KB _ _ _ _ := KB.new ((w.alloc (.cells #[.int .i64 W, .int .i64 H, .int .i64 M, .slice A n c] 24)).alloc (.cells #[.int .i64 W2, .int .i64 H2, .int .i64 M2, .slice A2 n2 c2] 24)) #[.int .i64 s0, .int .i64 s1, .int .i64 s2] 25
  simp only [World.size_alloc] at k1 k2
  clear h h2
  go_enter Try.func3, Try.ntmps3
  go_wp2_with (first | (go_at_call 11; refine (known_any _).mono ?_; rintro e w1 ⟨rfl, hb1⟩; simp only [World.size_alloc] at hb1; have z1 := hb1.size; simp only [World.size_alloc] at z1; replace k0 := k0.below hb1 (by omega); replace k1 := k1.below hb1 (by omega); replace k2 := k2.below hb1 (by omega); have hB1 := hb0.trans (hb1.mono (by omega)); have a0 := k0.cell 0 rfl; have a1 := k0.cell 1 rfl; have a2 := k0.cell 2 rfl; have a3 := k0.cell 3 rfl; have b0 := k1.cell 0 rfl; have b1 := k1.cell 1 rfl; have b2 := k1.cell 2 rfl; have b3 := k1.cell 3 rfl; clear hb1) | (go_at_call 12; refine (few_two_yes (KB.new w1 _ _) hm).mono ?_; rintro e w2 ⟨rfl, hb2⟩; simp only [World.size_alloc] at hb2; have z2 := hb2.size; simp only [World.size_alloc] at z2; replace k0 := (k0.alloc _).below hb2 (by omega); replace k1 := (k1.alloc _).below hb2 (by omega); replace k2 := (k2.alloc _).below hb2 (by omega); have hB2 := (hB1.alloc hB1.size _).trans (hb2.mono (by omega)); clear hb2 a0 a1 a2 a3 b0 b1 b2 b3; have a0 := k0.cell 0 rfl; have a1 := k0.cell 1 rfl; have a2 := k0.cell 2 rfl; have a3 := k0.cell 3 rfl; have b0 := k1.cell 0 rfl; have b1 := k1.cell 1 rfl; have b2 := k1.cell 2 rfl; have b3 := k1.cell 3 rfl; have c0 := k2.cell 0 rfl; have c1 := k2.cell 1 rfl; have c2' := k2.cell 2 rfl))
  go_ret
  exact ⟨rfl, hB2⟩

set_option maxRecDepth 100000 in
set_option maxHeartbeats 12800000 in
theorem forms_mid0 (W H M : Int) (A : Option Addr) (n c : Nat) (P : List Int) (W2 H2 M2 : Int) (A2 : Option Addr) (n2 c2 : Nat) (P2 : List Int) (s0 s1 s2 : Int) (w : World) (h : Sl w A n c P) (h2 : Sl w A2 n2 c2 P2) (hA : A = none → c = 0) (hm : n ≤ 600 ∧ n2 ≤ 600) (q0 : s0 ≤ 20) (q1 : s1 ≤ 20) :
    Calls Try.prog 3 #[.agg #[.int .i64 W, .int .i64 H, .int .i64 M, .slice A n c], .agg #[.int .i64 W2, .int .i64 H2, .int .i64 M2, .slice A2 n2 c2], .agg #[.int .i64 s0, .int .i64 s1, .int .i64 s2]] w fun e w' => e = .returned (.bool true) ∧ Below w.heap.size w w' := by
  have hcap := h.le_cap
  have hcl := h.cap_le
  have hcap2 := h2.le_cap
  have hcl2 := h2.cap_le
  have hb0 := (((Below.refl w.heap.size w).alloc (Nat.le_refl _) (.cells #[.int .i64 W, .int .i64 H, .int .i64 M, .slice A n c] 24)).alloc (by simp) (.cells #[.int .i64 W2, .int .i64 H2, .int .i64 M2, .slice A2 n2 c2] 24)).alloc (by simp <;> omega) (.cells #[.int .i64 s0, .int .i64 s1, .int .i64 s2] 25)
  have k0 : KB _ _ _ _ := ((KB.new w #[.int .i64 W, .int .i64 H, .int .i64 M, .slice A n c] 24).alloc (.cells #[.int .i64 W2, .int .i64 H2, .int .i64 M2, .slice A2 n2 c2] 24)).alloc (.cells #[.int .i64 s0, .int .i64 s1, .int .i64 s2] 25)
  have k1 : KB _ _ _ _ := (KB.new (w.alloc (.cells #[.int .i64 W, .int .i64 H, .int .i64 M, .slice A n c] 24)) #[.int .i64 W2, .int .i64 H2, .int .i64 M2, .slice A2 n2 c2] 24).alloc (.cells #[.int .i64 s0, .int .i64 s1, .int .i64 s2] 25)
  have k2 : KB _ _ _ _ := KB.new ((w.alloc (.cells #[.int .i64 W, .int .i64 H, .int .i64 M, .slice A n c] 24)).alloc (.cells #[.int .i64 W2, .int .i64 H2, .int .i64 M2, .slice A2 n2 c2] 24)) #[.int .i64 s0, .int .i64 s1, .int .i64 s2] 25
  simp only [World.size_alloc] at k1 k2
  obtain ⟨k, hkk, hk1, hk2⟩ := checks W H M P
  obtain ⟨b, hq⟩ : ∃ b, eqr W H M P W2 H2 M2 P2 = b := ⟨_, rfl⟩
  have hkn : (k != k) = false := by simp
  have hbn : (b != b) = false := by simp
  replace hkk := Lib.hid hkk
  replace hk1 := Lib.hid hk1
  replace hk2 := Lib.hid hk2
  replace hq := Lib.hid hq
  go_enter Try.func3, Try.ntmps3
  go_upto_region 5 with (first | (go_at_call 11; refine (known_any _).mono ?_; rintro e w1 ⟨rfl, hb1⟩; simp only [World.size_alloc] at hb1; have z1 := hb1.size; simp only [World.size_alloc] at z1; replace k0 := k0.below hb1 (by omega); replace k1 := k1.below hb1 (by omega); replace k2 := k2.below hb1 (by omega); have hB1 := hb0.trans (hb1.mono (by omega)); have a0 := k0.cell 0 rfl; have a1 := k0.cell 1 rfl; have a2 := k0.cell 2 rfl; have a3 := k0.cell 3 rfl; have b0 := k1.cell 0 rfl; have b1 := k1.cell 1 rfl; have b2 := k1.cell 2 rfl; have b3 := k1.cell 3 rfl; clear hb1) | (go_at_call 12; refine (few_two_yes (KB.new w1 _ _) hm).mono ?_; rintro e w2 ⟨rfl, hb2⟩; simp only [World.size_alloc] at hb2; have z2 := hb2.size; simp only [World.size_alloc] at z2; replace k0 := (k0.alloc _).below hb2 (by omega); replace k1 := (k1.alloc _).below hb2 (by omega); replace k2 := (k2.alloc _).below hb2 (by omega); have hB2 := (hB1.alloc hB1.size _).trans (hb2.mono (by omega)); clear hb2 a0 a1 a2 a3 b0 b1 b2 b3; have a0 := k0.cell 0 rfl; have a1 := k0.cell 1 rfl; have a2 := k0.cell 2 rfl; have a3 := k0.cell 3 rfl; have b0 := k1.cell 0 rfl; have b1 := k1.cell 1 rfl; have b2 := k1.cell 2 rfl; have b3 := k1.cell 3 rfl; have c0 := k2.cell 0 rfl; have c1 := k2.cell 1 rfl; have c2' := k2.cell 2 rfl))
  have hs := Lib.hid (fun w' (hb : Below w2.heap.size w2 w') => (h.below (hB2.trans (hb.mono hB2.size)) (Nat.le_refl _)))
  have hs2 := Lib.hid (fun w' (hb : Below w2.heap.size w2 w') => (h2.below (hB2.trans (hb.mono hB2.size)) (Nat.le_refl _)))
  have keepS : ∀ w', Below w2.heap.size w2 w' → w'.cell? ⟨w.heap.size, 0, none⟩ = some (.int .i64 W) ∧ w'.cell? ⟨w.heap.size, 1, none⟩ = some (.int .i64 H) ∧ w'.cell? ⟨w.heap.size, 2, none⟩ = some (.int .i64 M) ∧ w'.cell? ⟨w.heap.size, 3, none⟩ = some (.slice A n c) ∧ w'.cell? ⟨w.heap.size + 1, 0, none⟩ = some (.int .i64 W2) ∧ w'.cell? ⟨w.heap.size + 1, 1, none⟩ = some (.int .i64 H2) ∧ w'.cell? ⟨w.heap.size + 1, 2, none⟩ = some (.int .i64 M2) ∧ w'.cell? ⟨w.heap.size + 1, 3, none⟩ = some (.slice A2 n2 c2) := by
    intro w' hb
    have kk : ∀ b o, b < w2.heap.size → w'.cell? ⟨b, o, none⟩ = w2.cell? ⟨b, o, none⟩ := fun b o hlt => hb.cell (p := ⟨b, o, none⟩) hlt
    exact ⟨(kk _ _ k0.lt).trans a0, (kk _ _ k0.lt).trans a1, (kk _ _ k0.lt).trans a2, (kk _ _ k0.lt).trans a3, (kk _ _ k1.lt).trans b0, (kk _ _ k1.lt).trans b1, (kk _ _ k1.lt).trans b2, (kk _ _ k1.lt).trans b3⟩
  replace keepS := Lib.hid keepS
  have keepZ := Lib.hid (fun w' (hb : Below w2.heap.size w2 w') => k2.below hb k2.lt)
  clear k0 k1 k2 c0 c1 c2'
  have qtok1 : True := trivial
  have qtok2 : True := trivial
  have qtok3 : True := trivial
  have qtok4 : True := trivial
  have qtok5 : True := trivial
  have qtok6 : True := trivial
  go_region_held3 (fun w' => w'.cell? ⟨w.heap.size, 0, none⟩ = some (.int .i64 W) ∧ w'.cell? ⟨w.heap.size, 1, none⟩ = some (.int .i64 H) ∧ w'.cell? ⟨w.heap.size, 2, none⟩ = some (.int .i64 M) ∧ w'.cell? ⟨w.heap.size, 3, none⟩ = some (.slice A n c) ∧ w'.cell? ⟨w.heap.size + 1, 0, none⟩ = some (.int .i64 W2) ∧ w'.cell? ⟨w.heap.size + 1, 1, none⟩ = some (.int .i64 H2) ∧ w'.cell? ⟨w.heap.size + 1, 2, none⟩ = some (.int .i64 M2) ∧ w'.cell? ⟨w.heap.size + 1, 3, none⟩ = some (.slice A2 n2 c2))
    (exact keepS.out _ (by repeat (first | exact qB6 | exact qB5 | exact qB4 | exact qB3 | exact qB2 | exact qB1 | exact (Below.refl w2.heap.size w2) | refine Below.drew ?_ | refine Below.drewN ?_ _ | refine Below.alloc ?_ (by first | omega | (simp <;> omega)) _)))
    (first | (go_at_call 13; clear qtok1; refine (hk1.out _ _ _ _ (hs.out _ (by repeat (first | exact (Below.refl w2.heap.size w2) | refine Below.drew ?_ | refine Below.drewN ?_ _ | refine Below.alloc ?_ (by first | omega | (simp <;> omega)) _)))).mono ?_; rintro e qw1 ⟨rfl, qh1⟩; have qB1 : Below w2.heap.size w2 qw1 := Below.trans (by repeat (first | exact (Below.refl w2.heap.size w2) | refine Below.drew ?_ | refine Below.drewN ?_ _ | refine Below.alloc ?_ (by first | omega | (simp <;> omega)) _)) (qh1.mono (by first | omega | (simp <;> omega))); have qs1 := qB1.size) | (go_at_call 14; clear qtok2; refine (hk2.out _ _ _ _ (hs.out _ (by repeat (first | exact qB1 | refine Below.drew ?_ | refine Below.drewN ?_ _ | refine Below.alloc ?_ (by first | omega | (simp <;> omega)) _)))).mono ?_; rintro e qw2 ⟨rfl, qh2⟩; have qB2 : Below w2.heap.size w2 qw2 := Below.trans (by repeat (first | exact qB1 | refine Below.drew ?_ | refine Below.drewN ?_ _ | refine Below.alloc ?_ (by first | omega | (simp <;> omega)) _)) (qh2.mono (by first | omega | (simp <;> omega))); have qs2 := qB2.size) | (go_at_call 15; clear qtok3; refine (Equal_at hq.out (hs.out _ (by repeat (first | exact qB2 | refine Below.drew ?_ | refine Below.drewN ?_ _ | refine Below.alloc ?_ (by first | omega | (simp <;> omega)) _))) (hs2.out _ (by repeat (first | exact qB2 | refine Below.drew ?_ | refine Below.drewN ?_ _ | refine Below.alloc ?_ (by first | omega | (simp <;> omega)) _)))).mono ?_; rintro e qw3 ⟨rfl, qh3⟩; have qB3 : Below w2.heap.size w2 qw3 := Below.trans (by repeat (first | exact qB2 | refine Below.drew ?_ | refine Below.drewN ?_ _ | refine Below.alloc ?_ (by first | omega | (simp <;> omega)) _)) (qh3.mono (by first | omega | (simp <;> omega))); have qs3 := qB3.size) | (go_at_call 16; clear qtok4; refine (rEqual_at hq.out (hs.out _ (by repeat (first | exact qB3 | refine Below.drew ?_ | refine Below.drewN ?_ _ | refine Below.alloc ?_ (by first | omega | (simp <;> omega)) _))) (hs2.out _ (by repeat (first | exact qB3 | refine Below.drew ?_ | refine Below.drewN ?_ _ | refine Below.alloc ?_ (by first | omega | (simp <;> omega)) _)))).mono ?_; rintro e qw4 ⟨rfl, qh4⟩; have qB4 : Below w2.heap.size w2 qw4 := Below.trans (by repeat (first | exact qB3 | refine Below.drew ?_ | refine Below.drewN ?_ _ | refine Below.alloc ?_ (by first | omega | (simp <;> omega)) _)) (qh4.mono (by first | omega | (simp <;> omega))); have qs4 := qB4.size) | (go_at_call 17; clear qtok5; refine (rCopy_any _ _ _ _ _ _ P _ (hs.out _ (by repeat (first | exact qB4 | refine Below.drew ?_ | refine Below.drewN ?_ _ | refine Below.alloc ?_ (by first | omega | (simp <;> omega)) _))) hA (by omega)).mono ?_; rintro e qw5 ⟨A3, n3, c3, rfl, ho3, qh5⟩; have qB5 : Below w2.heap.size w2 qw5 := Below.trans (by repeat (first | exact qB4 | refine Below.drew ?_ | refine Below.drewN ?_ _ | refine Below.alloc ?_ (by first | omega | (simp <;> omega)) _)) (qh5.mono (by first | omega | (simp <;> omega))); have qs5 := qB5.size) | (go_at_call 15; clear qtok6; refine (Equal_at (eqr_self W H M P) (hs.out _ (by repeat (first | exact qB5 | refine Below.drew ?_ | refine Below.drewN ?_ _ | refine Below.alloc ?_ (by first | omega | (simp <;> omega)) _))) (ho3.sl.below (w' := _) (B := _) (by repeat (first | exact Below.refl _ _ | refine Below.drew ?_ | refine Below.drewN ?_ _ | refine Below.alloc ?_ (by first | omega | (simp <;> omega)) _)) (Nat.le_refl _))).mono ?_; rintro e qw6 ⟨rfl, qh6⟩; have qB6 : Below w2.heap.size w2 qw6 := Below.trans (by repeat (first | exact qB5 | refine Below.drew ?_ | refine Below.drewN ?_ _ | refine Below.alloc ?_ (by first | omega | (simp <;> omega)) _)) (qh6.mono (by first | omega | (simp <;> omega))); have qs6 := qB6.size))
  have hZ := keepZ.out _ qB6
  have e0 := hZ.cell 0 rfl
  have e1 := hZ.cell 1 rfl
  have e2 := hZ.cell 2 rfl
  have hB6 := hB2.trans (qB6.mono hB2.size)
  have hz6 : w.heap.size + 1 + 1 < qw6.heap.size := hZ.lt
  clear a0 a1 a2 a3 b0 b1 b2 b3 hb0 hB1 hB2 qB1 qB2 qB3 qB4 qB5 qB6 qh1 qh2 qh3 qh4 qh5 qh6 qs1 qs2 qs3 qs4 qs5 qs6 ho3
  obtain ⟨bf, hbf⟩ : ∃ b, hfm s0 s1 s2 = b := ⟨_, rfl⟩
  cases bf
  · have hnew := Lib.hid (fun W : World => New_no s0 s1 s2 W hbf)
    have hcs := hfm_out hbf
    replace hbf := Lib.hid hbf
    rcases hcs with q2 | ⟨q2, q3⟩ | ⟨q2, q3, q4⟩ | ⟨q2, q3, q4, q5⟩ | ⟨q2, q3, q4, q5, q6⟩ | ⟨q2, q3, q4, q5, q6, q7⟩
    all_goals
      try omega
    all_goals
      go_wp2_with (first | (go_at_call 18; refine (hnew.out _).mono ?_; rintro e w9 ⟨rfl, hb9⟩; have hZ9 := (hZ.below hb9 hZ.lt).alloc (.cells #[.int .i64 0, .int .i64 0, .int .i64 0, .slice none 0 0] 24); have hB9 := (hB6.trans (hb9.mono hB6.size)).alloc (hB6.trans (hb9.mono hB6.size)).size (.cells #[.int .i64 0, .int .i64 0, .int .i64 0, .slice none 0 0] 24); clear e0 e1 e2; have e0 := hZ9.cell 0 rfl; have e1 := hZ9.cell 1 rfl; have e2 := hZ9.cell 2 rfl) | (go_at_call 19; refine (empty_yes _).mono ?_; rintro e w10 ⟨rfl, hb10⟩))
      go_ret
      exact ⟨rfl, hB9.trans (hb10.mono hB9.size)⟩
  · have hnew := Lib.hid (fun W : World => New_int (w := W) hbf)
    have hnew2 := Lib.hid (fun W : World => rNew_int (w := W) hbf)
    obtain ⟨⟨q2, q3⟩, ⟨q4, q5⟩, q6, q7⟩ := hfm_iff.1 hbf
    replace hbf := Lib.hid hbf
    go_upto_region 10 with (go_at_call 18; refine (hnew.out _).mono ?_; rintro e w9 ⟨A5, n5, c5, rfl, hs5, hb9⟩; have hZ9 := (hZ.below hb9 hZ.lt).alloc (.cells #[.int .i64 s0, .int .i64 s1, .int .i64 s2, .slice A5 n5 c5] 24); have hB9 := (hB6.trans (hb9.mono hB6.size)).alloc (hB6.trans (hb9.mono hB6.size)).size (.cells #[.int .i64 s0, .int .i64 s1, .int .i64 s2, .slice A5 n5 c5] 24); clear e0 e1 e2; have e0 := hZ9.cell 0 rfl; have e1 := hZ9.cell 1 rfl; have e2 := hZ9.cell 2 rfl)
    have k9 : KB _ _ _ _ := KB.new w9 #[.int .i64 s0, .int .i64 s1, .int .i64 s2, .slice A5 n5 c5] 24
    have d0 := k9.cell 0 rfl
    have d1 := k9.cell 1 rfl
    have d2 := k9.cell 2 rfl
    have d3 := k9.cell 3 rfl
    have keep9 : ∀ w', Below (w9.alloc (.cells #[.int .i64 s0, .int .i64 s1, .int .i64 s2, .slice A5 n5 c5] 24)).heap.size (w9.alloc (.cells #[.int .i64 s0, .int .i64 s1, .int .i64 s2, .slice A5 n5 c5] 24)) w' → w'.cell? ⟨w9.heap.size, 0, none⟩ = some (.int .i64 s0) ∧ w'.cell? ⟨w9.heap.size, 1, none⟩ = some (.int .i64 s1) ∧ w'.cell? ⟨w9.heap.size, 2, none⟩ = some (.int .i64 s2) ∧ w'.cell? ⟨w9.heap.size, 3, none⟩ = some (.slice A5 n5 c5) ∧ w'.cell? ⟨w.heap.size + 1 + 1, 0, none⟩ = some (.int .i64 s0) ∧ w'.cell? ⟨w.heap.size + 1 + 1, 1, none⟩ = some (.int .i64 s1) ∧ w'.cell? ⟨w.heap.size + 1 + 1, 2, none⟩ = some (.int .i64 s2) := by
      intro w' hb
      have kk : ∀ b o, b < (w9.alloc (.cells #[.int .i64 s0, .int .i64 s1, .int .i64 s2, .slice A5 n5 c5] 24)).heap.size → w'.cell? ⟨b, o, none⟩ = (w9.alloc (.cells #[.int .i64 s0, .int .i64 s1, .int .i64 s2, .slice A5 n5 c5] 24)).cell? ⟨b, o, none⟩ := fun b o hlt => hb.cell (p := ⟨b, o, none⟩) hlt
      exact ⟨(kk _ _ k9.lt).trans d0, (kk _ _ k9.lt).trans d1, (kk _ _ k9.lt).trans d2, (kk _ _ k9.lt).trans d3, (kk _ _ hZ9.lt).trans e0, (kk _ _ hZ9.lt).trans e1, (kk _ _ hZ9.lt).trans e2⟩
    replace keep9 := Lib.hid keep9
    replace hs5 := Lib.hid (fun w' (hb : Below (w9.alloc (.cells #[.int .i64 s0, .int .i64 s1, .int .i64 s2, .slice A5 n5 c5] 24)).heap.size (w9.alloc (.cells #[.int .i64 s0, .int .i64 s1, .int .i64 s2, .slice A5 n5 c5] 24)) w') => (hs5.alloc (.cells #[.int .i64 s0, .int .i64 s1, .int .i64 s2, .slice A5 n5 c5] 24)).below hb (Nat.le_refl _))
    have ttok1 : True := trivial
    have ttok2 : True := trivial
    go_region_held3 (fun w' => w'.cell? ⟨w9.heap.size, 0, none⟩ = some (.int .i64 s0) ∧ w'.cell? ⟨w9.heap.size, 1, none⟩ = some (.int .i64 s1) ∧ w'.cell? ⟨w9.heap.size, 2, none⟩ = some (.int .i64 s2) ∧ w'.cell? ⟨w9.heap.size, 3, none⟩ = some (.slice A5 n5 c5) ∧ w'.cell? ⟨w.heap.size + 1 + 1, 0, none⟩ = some (.int .i64 s0) ∧ w'.cell? ⟨w.heap.size + 1 + 1, 1, none⟩ = some (.int .i64 s1) ∧ w'.cell? ⟨w.heap.size + 1 + 1, 2, none⟩ = some (.int .i64 s2))
      (exact keep9.out _ (by repeat (first | exact tB2 | exact tB1 | exact (Below.refl (w9.alloc (.cells #[.int .i64 s0, .int .i64 s1, .int .i64 s2, .slice A5 n5 c5] 24)).heap.size (w9.alloc (.cells #[.int .i64 s0, .int .i64 s1, .int .i64 s2, .slice A5 n5 c5] 24))) | refine Below.drew ?_ | refine Below.drewN ?_ _ | refine Below.alloc ?_ (by first | omega | (simp <;> omega)) _)))
      (first | (go_at_call 20; clear ttok1; refine (hnew2.out _).mono ?_; rintro e tw1 ⟨A6, n6, c6, rfl, ho6, th1⟩; have tB1 : Below (w9.alloc (.cells #[.int .i64 s0, .int .i64 s1, .int .i64 s2, .slice A5 n5 c5] 24)).heap.size (w9.alloc (.cells #[.int .i64 s0, .int .i64 s1, .int .i64 s2, .slice A5 n5 c5] 24)) tw1 := Below.trans (by repeat (first | exact (Below.refl (w9.alloc (.cells #[.int .i64 s0, .int .i64 s1, .int .i64 s2, .slice A5 n5 c5] 24)).heap.size (w9.alloc (.cells #[.int .i64 s0, .int .i64 s1, .int .i64 s2, .slice A5 n5 c5] 24))) | refine Below.drew ?_ | refine Below.drewN ?_ _ | refine Below.alloc ?_ (by first | omega | (simp <;> omega)) _)) (th1.mono (by first | omega | (simp <;> omega))); have ts1 := tB1.size) | (go_at_call 16; clear ttok2; refine (rEqual_at (eqr_self _ _ _ _) (hs5.out _ (by repeat (first | exact tB1 | refine Below.drew ?_ | refine Below.drewN ?_ _ | refine Below.alloc ?_ (by first | omega | (simp <;> omega)) _))) (ho6.sl.below (w' := _) (B := _) (by repeat (first | exact Below.refl _ _ | refine Below.drew ?_ | refine Below.drewN ?_ _ | refine Below.alloc ?_ (by first | omega | (simp <;> omega)) _)) (Nat.le_refl _))).mono ?_; rintro e tw2 ⟨rfl, th2⟩; have tB2 : Below (w9.alloc (.cells #[.int .i64 s0, .int .i64 s1, .int .i64 s2, .slice A5 n5 c5] 24)).heap.size (w9.alloc (.cells #[.int .i64 s0, .int .i64 s1, .int .i64 s2, .slice A5 n5 c5] 24)) tw2 := Below.trans (by repeat (first | exact tB1 | refine Below.drew ?_ | refine Below.drewN ?_ _ | refine Below.alloc ?_ (by first | omega | (simp <;> omega)) _)) (th2.mono (by first | omega | (simp <;> omega))); have ts2 := tB2.size))
    go_wp2
    go_ret
    exact ⟨rfl, hB9.trans (tB2.mono hB9.size)⟩

set_option maxRecDepth 100000 in
set_option maxHeartbeats 12800000 in
theorem forms_mid1 (W H M : Int) (A : Option Addr) (n c : Nat) (P : List Int) (W2 H2 M2 : Int) (A2 : Option Addr) (n2 c2 : Nat) (P2 : List Int) (s0 s1 s2 : Int) (w : World) (h : Sl w A n c P) (h2 : Sl w A2 n2 c2 P2) (hA : A = none → c = 0) (hm : n ≤ 600 ∧ n2 ≤ 600) (q0 : s0 ≤ 20) (q1 : 64 < s1) (q10 : 20 < s1) :
    Calls Try.prog 3 #[.agg #[.int .i64 W, .int .i64 H, .int .i64 M, .slice A n c], .agg #[.int .i64 W2, .int .i64 H2, .int .i64 M2, .slice A2 n2 c2], .agg #[.int .i64 s0, .int .i64 s1, .int .i64 s2]] w fun e w' => e = .returned (.bool true) ∧ Below w.heap.size w w' := by
  have hcap := h.le_cap
  have hcl := h.cap_le
  have hcap2 := h2.le_cap
  have hcl2 := h2.cap_le
  have hb0 := (((Below.refl w.heap.size w).alloc (Nat.le_refl _) (.cells #[.int .i64 W, .int .i64 H, .int .i64 M, .slice A n c] 24)).alloc (by simp) (.cells #[.int .i64 W2, .int .i64 H2, .int .i64 M2, .slice A2 n2 c2] 24)).alloc (by simp <;> omega) (.cells #[.int .i64 s0, .int .i64 s1, .int .i64 s2] 25)
  have k0 : KB _ _ _ _ := ((KB.new w #[.int .i64 W, .int .i64 H, .int .i64 M, .slice A n c] 24).alloc (.cells #[.int .i64 W2, .int .i64 H2, .int .i64 M2, .slice A2 n2 c2] 24)).alloc (.cells #[.int .i64 s0, .int .i64 s1, .int .i64 s2] 25)
  have k1 : KB _ _ _ _ := (KB.new (w.alloc (.cells #[.int .i64 W, .int .i64 H, .int .i64 M, .slice A n c] 24)) #[.int .i64 W2, .int .i64 H2, .int .i64 M2, .slice A2 n2 c2] 24).alloc (.cells #[.int .i64 s0, .int .i64 s1, .int .i64 s2] 25)
  have k2 : KB _ _ _ _ := KB.new ((w.alloc (.cells #[.int .i64 W, .int .i64 H, .int .i64 M, .slice A n c] 24)).alloc (.cells #[.int .i64 W2, .int .i64 H2, .int .i64 M2, .slice A2 n2 c2] 24)) #[.int .i64 s0, .int .i64 s1, .int .i64 s2] 25
  simp only [World.size_alloc] at k1 k2
  obtain ⟨k, hkk, hk1, hk2⟩ := checks W H M P
  obtain ⟨b, hq⟩ : ∃ b, eqr W H M P W2 H2 M2 P2 = b := ⟨_, rfl⟩
  have hkn : (k != k) = false := by simp
  have hbn : (b != b) = false := by simp
  replace hkk := Lib.hid hkk
  replace hk1 := Lib.hid hk1
  replace hk2 := Lib.hid hk2
  replace hq := Lib.hid hq
  go_enter Try.func3, Try.ntmps3
  go_upto_region 5 with (first | (go_at_call 11; refine (known_any _).mono ?_; rintro e w1 ⟨rfl, hb1⟩; simp only [World.size_alloc] at hb1; have z1 := hb1.size; simp only [World.size_alloc] at z1; replace k0 := k0.below hb1 (by omega); replace k1 := k1.below hb1 (by omega); replace k2 := k2.below hb1 (by omega); have hB1 := hb0.trans (hb1.mono (by omega)); have a0 := k0.cell 0 rfl; have a1 := k0.cell 1 rfl; have a2 := k0.cell 2 rfl; have a3 := k0.cell 3 rfl; have b0 := k1.cell 0 rfl; have b1 := k1.cell 1 rfl; have b2 := k1.cell 2 rfl; have b3 := k1.cell 3 rfl; clear hb1) | (go_at_call 12; refine (few_two_yes (KB.new w1 _ _) hm).mono ?_; rintro e w2 ⟨rfl, hb2⟩; simp only [World.size_alloc] at hb2; have z2 := hb2.size; simp only [World.size_alloc] at z2; replace k0 := (k0.alloc _).below hb2 (by omega); replace k1 := (k1.alloc _).below hb2 (by omega); replace k2 := (k2.alloc _).below hb2 (by omega); have hB2 := (hB1.alloc hB1.size _).trans (hb2.mono (by omega)); clear hb2 a0 a1 a2 a3 b0 b1 b2 b3; have a0 := k0.cell 0 rfl; have a1 := k0.cell 1 rfl; have a2 := k0.cell 2 rfl; have a3 := k0.cell 3 rfl; have b0 := k1.cell 0 rfl; have b1 := k1.cell 1 rfl; have b2 := k1.cell 2 rfl; have b3 := k1.cell 3 rfl; have c0 := k2.cell 0 rfl; have c1 := k2.cell 1 rfl; have c2' := k2.cell 2 rfl))
  have hs := Lib.hid (fun w' (hb : Below w2.heap.size w2 w') => (h.below (hB2.trans (hb.mono hB2.size)) (Nat.le_refl _)))
  have hs2 := Lib.hid (fun w' (hb : Below w2.heap.size w2 w') => (h2.below (hB2.trans (hb.mono hB2.size)) (Nat.le_refl _)))
  have keepS : ∀ w', Below w2.heap.size w2 w' → w'.cell? ⟨w.heap.size, 0, none⟩ = some (.int .i64 W) ∧ w'.cell? ⟨w.heap.size, 1, none⟩ = some (.int .i64 H) ∧ w'.cell? ⟨w.heap.size, 2, none⟩ = some (.int .i64 M) ∧ w'.cell? ⟨w.heap.size, 3, none⟩ = some (.slice A n c) ∧ w'.cell? ⟨w.heap.size + 1, 0, none⟩ = some (.int .i64 W2) ∧ w'.cell? ⟨w.heap.size + 1, 1, none⟩ = some (.int .i64 H2) ∧ w'.cell? ⟨w.heap.size + 1, 2, none⟩ = some (.int .i64 M2) ∧ w'.cell? ⟨w.heap.size + 1, 3, none⟩ = some (.slice A2 n2 c2) := by
    intro w' hb
    have kk : ∀ b o, b < w2.heap.size → w'.cell? ⟨b, o, none⟩ = w2.cell? ⟨b, o, none⟩ := fun b o hlt => hb.cell (p := ⟨b, o, none⟩) hlt
    exact ⟨(kk _ _ k0.lt).trans a0, (kk _ _ k0.lt).trans a1, (kk _ _ k0.lt).trans a2, (kk _ _ k0.lt).trans a3, (kk _ _ k1.lt).trans b0, (kk _ _ k1.lt).trans b1, (kk _ _ k1.lt).trans b2, (kk _ _ k1.lt).trans b3⟩
  replace keepS := Lib.hid keepS
  have keepZ := Lib.hid (fun w' (hb : Below w2.heap.size w2 w') => k2.below hb k2.lt)
  clear k0 k1 k2 c0 c1 c2'
  have qtok1 : True := trivial
  have qtok2 : True := trivial
  have qtok3 : True := trivial
  have qtok4 : True := trivial
  have qtok5 : True := trivial
  have qtok6 : True := trivial
  go_region_held3 (fun w' => w'.cell? ⟨w.heap.size, 0, none⟩ = some (.int .i64 W) ∧ w'.cell? ⟨w.heap.size, 1, none⟩ = some (.int .i64 H) ∧ w'.cell? ⟨w.heap.size, 2, none⟩ = some (.int .i64 M) ∧ w'.cell? ⟨w.heap.size, 3, none⟩ = some (.slice A n c) ∧ w'.cell? ⟨w.heap.size + 1, 0, none⟩ = some (.int .i64 W2) ∧ w'.cell? ⟨w.heap.size + 1, 1, none⟩ = some (.int .i64 H2) ∧ w'.cell? ⟨w.heap.size + 1, 2, none⟩ = some (.int .i64 M2) ∧ w'.cell? ⟨w.heap.size + 1, 3, none⟩ = some (.slice A2 n2 c2))
    (exact keepS.out _ (by repeat (first | exact qB6 | exact qB5 | exact qB4 | exact qB3 | exact qB2 | exact qB1 | exact (Below.refl w2.heap.size w2) | refine Below.drew ?_ | refine Below.drewN ?_ _ | refine Below.alloc ?_ (by first | omega | (simp <;> omega)) _)))
    (first | (go_at_call 13; clear qtok1; refine (hk1.out _ _ _ _ (hs.out _ (by repeat (first | exact (Below.refl w2.heap.size w2) | refine Below.drew ?_ | refine Below.drewN ?_ _ | refine Below.alloc ?_ (by first | omega | (simp <;> omega)) _)))).mono ?_; rintro e qw1 ⟨rfl, qh1⟩; have qB1 : Below w2.heap.size w2 qw1 := Below.trans (by repeat (first | exact (Below.refl w2.heap.size w2) | refine Below.drew ?_ | refine Below.drewN ?_ _ | refine Below.alloc ?_ (by first | omega | (simp <;> omega)) _)) (qh1.mono (by first | omega | (simp <;> omega))); have qs1 := qB1.size) | (go_at_call 14; clear qtok2; refine (hk2.out _ _ _ _ (hs.out _ (by repeat (first | exact qB1 | refine Below.drew ?_ | refine Below.drewN ?_ _ | refine Below.alloc ?_ (by first | omega | (simp <;> omega)) _)))).mono ?_; rintro e qw2 ⟨rfl, qh2⟩; have qB2 : Below w2.heap.size w2 qw2 := Below.trans (by repeat (first | exact qB1 | refine Below.drew ?_ | refine Below.drewN ?_ _ | refine Below.alloc ?_ (by first | omega | (simp <;> omega)) _)) (qh2.mono (by first | omega | (simp <;> omega))); have qs2 := qB2.size) | (go_at_call 15; clear qtok3; refine (Equal_at hq.out (hs.out _ (by repeat (first | exact qB2 | refine Below.drew ?_ | refine Below.drewN ?_ _ | refine Below.alloc ?_ (by first | omega | (simp <;> omega)) _))) (hs2.out _ (by repeat (first | exact qB2 | refine Below.drew ?_ | refine Below.drewN ?_ _ | refine Below.alloc ?_ (by first | omega | (simp <;> omega)) _)))).mono ?_; rintro e qw3 ⟨rfl, qh3⟩; have qB3 : Below w2.heap.size w2 qw3 := Below.trans (by repeat (first | exact qB2 | refine Below.drew ?_ | refine Below.drewN ?_ _ | refine Below.alloc ?_ (by first | omega | (simp <;> omega)) _)) (qh3.mono (by first | omega | (simp <;> omega))); have qs3 := qB3.size) | (go_at_call 16; clear qtok4; refine (rEqual_at hq.out (hs.out _ (by repeat (first | exact qB3 | refine Below.drew ?_ | refine Below.drewN ?_ _ | refine Below.alloc ?_ (by first | omega | (simp <;> omega)) _))) (hs2.out _ (by repeat (first | exact qB3 | refine Below.drew ?_ | refine Below.drewN ?_ _ | refine Below.alloc ?_ (by first | omega | (simp <;> omega)) _)))).mono ?_; rintro e qw4 ⟨rfl, qh4⟩; have qB4 : Below w2.heap.size w2 qw4 := Below.trans (by repeat (first | exact qB3 | refine Below.drew ?_ | refine Below.drewN ?_ _ | refine Below.alloc ?_ (by first | omega | (simp <;> omega)) _)) (qh4.mono (by first | omega | (simp <;> omega))); have qs4 := qB4.size) | (go_at_call 17; clear qtok5; refine (rCopy_any _ _ _ _ _ _ P _ (hs.out _ (by repeat (first | exact qB4 | refine Below.drew ?_ | refine Below.drewN ?_ _ | refine Below.alloc ?_ (by first | omega | (simp <;> omega)) _))) hA (by omega)).mono ?_; rintro e qw5 ⟨A3, n3, c3, rfl, ho3, qh5⟩; have qB5 : Below w2.heap.size w2 qw5 := Below.trans (by repeat (first | exact qB4 | refine Below.drew ?_ | refine Below.drewN ?_ _ | refine Below.alloc ?_ (by first | omega | (simp <;> omega)) _)) (qh5.mono (by first | omega | (simp <;> omega))); have qs5 := qB5.size) | (go_at_call 15; clear qtok6; refine (Equal_at (eqr_self W H M P) (hs.out _ (by repeat (first | exact qB5 | refine Below.drew ?_ | refine Below.drewN ?_ _ | refine Below.alloc ?_ (by first | omega | (simp <;> omega)) _))) (ho3.sl.below (w' := _) (B := _) (by repeat (first | exact Below.refl _ _ | refine Below.drew ?_ | refine Below.drewN ?_ _ | refine Below.alloc ?_ (by first | omega | (simp <;> omega)) _)) (Nat.le_refl _))).mono ?_; rintro e qw6 ⟨rfl, qh6⟩; have qB6 : Below w2.heap.size w2 qw6 := Below.trans (by repeat (first | exact qB5 | refine Below.drew ?_ | refine Below.drewN ?_ _ | refine Below.alloc ?_ (by first | omega | (simp <;> omega)) _)) (qh6.mono (by first | omega | (simp <;> omega))); have qs6 := qB6.size))
  have hZ := keepZ.out _ qB6
  have e0 := hZ.cell 0 rfl
  have e1 := hZ.cell 1 rfl
  have e2 := hZ.cell 2 rfl
  have hB6 := hB2.trans (qB6.mono hB2.size)
  have hz6 : w.heap.size + 1 + 1 < qw6.heap.size := hZ.lt
  clear a0 a1 a2 a3 b0 b1 b2 b3 hb0 hB1 hB2 qB1 qB2 qB3 qB4 qB5 qB6 qh1 qh2 qh3 qh4 qh5 qh6 qs1 qs2 qs3 qs4 qs5 qs6 ho3
  obtain ⟨bf, hbf⟩ : ∃ b, hfm s0 s1 s2 = b := ⟨_, rfl⟩
  cases bf
  · have hnew := Lib.hid (fun W : World => New_no s0 s1 s2 W hbf)
    have hcs := hfm_out hbf
    replace hbf := Lib.hid hbf
    rcases hcs with q2 | ⟨q2, q3⟩ | ⟨q2, q3, q4⟩ | ⟨q2, q3, q4, q5⟩ | ⟨q2, q3, q4, q5, q6⟩ | ⟨q2, q3, q4, q5, q6, q7⟩
    all_goals
      try omega
    all_goals
      go_wp2_with (first | (go_at_call 18; refine (hnew.out _).mono ?_; rintro e w9 ⟨rfl, hb9⟩; have hZ9 := (hZ.below hb9 hZ.lt).alloc (.cells #[.int .i64 0, .int .i64 0, .int .i64 0, .slice none 0 0] 24); have hB9 := (hB6.trans (hb9.mono hB6.size)).alloc (hB6.trans (hb9.mono hB6.size)).size (.cells #[.int .i64 0, .int .i64 0, .int .i64 0, .slice none 0 0] 24); clear e0 e1 e2; have e0 := hZ9.cell 0 rfl; have e1 := hZ9.cell 1 rfl; have e2 := hZ9.cell 2 rfl) | (go_at_call 19; refine (empty_yes _).mono ?_; rintro e w10 ⟨rfl, hb10⟩))
      go_ret
      exact ⟨rfl, hB9.trans (hb10.mono hB9.size)⟩
  · have := hfm_iff.1 hbf
    omega

set_option maxRecDepth 100000 in
set_option maxHeartbeats 12800000 in
theorem forms_mid2 (W H M : Int) (A : Option Addr) (n c : Nat) (P : List Int) (W2 H2 M2 : Int) (A2 : Option Addr) (n2 c2 : Nat) (P2 : List Int) (s0 s1 s2 : Int) (w : World) (h : Sl w A n c P) (h2 : Sl w A2 n2 c2 P2) (hA : A = none → c = 0) (hm : n ≤ 600 ∧ n2 ≤ 600) (q0 : 64 < s0) (q00 : 20 < s0) (q1 : s1 ≤ 20) :
    Calls Try.prog 3 #[.agg #[.int .i64 W, .int .i64 H, .int .i64 M, .slice A n c], .agg #[.int .i64 W2, .int .i64 H2, .int .i64 M2, .slice A2 n2 c2], .agg #[.int .i64 s0, .int .i64 s1, .int .i64 s2]] w fun e w' => e = .returned (.bool true) ∧ Below w.heap.size w w' := by
  have hcap := h.le_cap
  have hcl := h.cap_le
  have hcap2 := h2.le_cap
  have hcl2 := h2.cap_le
  have hb0 := (((Below.refl w.heap.size w).alloc (Nat.le_refl _) (.cells #[.int .i64 W, .int .i64 H, .int .i64 M, .slice A n c] 24)).alloc (by simp) (.cells #[.int .i64 W2, .int .i64 H2, .int .i64 M2, .slice A2 n2 c2] 24)).alloc (by simp <;> omega) (.cells #[.int .i64 s0, .int .i64 s1, .int .i64 s2] 25)
  have k0 : KB _ _ _ _ := ((KB.new w #[.int .i64 W, .int .i64 H, .int .i64 M, .slice A n c] 24).alloc (.cells #[.int .i64 W2, .int .i64 H2, .int .i64 M2, .slice A2 n2 c2] 24)).alloc (.cells #[.int .i64 s0, .int .i64 s1, .int .i64 s2] 25)
  have k1 : KB _ _ _ _ := (KB.new (w.alloc (.cells #[.int .i64 W, .int .i64 H, .int .i64 M, .slice A n c] 24)) #[.int .i64 W2, .int .i64 H2, .int .i64 M2, .slice A2 n2 c2] 24).alloc (.cells #[.int .i64 s0, .int .i64 s1, .int .i64 s2] 25)
  have k2 : KB _ _ _ _ := KB.new ((w.alloc (.cells #[.int .i64 W, .int .i64 H, .int .i64 M, .slice A n c] 24)).alloc (.cells #[.int .i64 W2, .int .i64 H2, .int .i64 M2, .slice A2 n2 c2] 24)) #[.int .i64 s0, .int .i64 s1, .int .i64 s2] 25
  simp only [World.size_alloc] at k1 k2
  obtain ⟨k, hkk, hk1, hk2⟩ := checks W H M P
  obtain ⟨b, hq⟩ : ∃ b, eqr W H M P W2 H2 M2 P2 = b := ⟨_, rfl⟩
  have hkn : (k != k) = false := by simp
  have hbn : (b != b) = false := by simp
  replace hkk := Lib.hid hkk
  replace hk1 := Lib.hid hk1
  replace hk2 := Lib.hid hk2
  replace hq := Lib.hid hq
  go_enter Try.func3, Try.ntmps3
  go_upto_region 5 with (first | (go_at_call 11; refine (known_any _).mono ?_; rintro e w1 ⟨rfl, hb1⟩; simp only [World.size_alloc] at hb1; have z1 := hb1.size; simp only [World.size_alloc] at z1; replace k0 := k0.below hb1 (by omega); replace k1 := k1.below hb1 (by omega); replace k2 := k2.below hb1 (by omega); have hB1 := hb0.trans (hb1.mono (by omega)); have a0 := k0.cell 0 rfl; have a1 := k0.cell 1 rfl; have a2 := k0.cell 2 rfl; have a3 := k0.cell 3 rfl; have b0 := k1.cell 0 rfl; have b1 := k1.cell 1 rfl; have b2 := k1.cell 2 rfl; have b3 := k1.cell 3 rfl; clear hb1) | (go_at_call 12; refine (few_two_yes (KB.new w1 _ _) hm).mono ?_; rintro e w2 ⟨rfl, hb2⟩; simp only [World.size_alloc] at hb2; have z2 := hb2.size; simp only [World.size_alloc] at z2; replace k0 := (k0.alloc _).below hb2 (by omega); replace k1 := (k1.alloc _).below hb2 (by omega); replace k2 := (k2.alloc _).below hb2 (by omega); have hB2 := (hB1.alloc hB1.size _).trans (hb2.mono (by omega)); clear hb2 a0 a1 a2 a3 b0 b1 b2 b3; have a0 := k0.cell 0 rfl; have a1 := k0.cell 1 rfl; have a2 := k0.cell 2 rfl; have a3 := k0.cell 3 rfl; have b0 := k1.cell 0 rfl; have b1 := k1.cell 1 rfl; have b2 := k1.cell 2 rfl; have b3 := k1.cell 3 rfl; have c0 := k2.cell 0 rfl; have c1 := k2.cell 1 rfl; have c2' := k2.cell 2 rfl))
  have hs := Lib.hid (fun w' (hb : Below w2.heap.size w2 w') => (h.below (hB2.trans (hb.mono hB2.size)) (Nat.le_refl _)))
  have hs2 := Lib.hid (fun w' (hb : Below w2.heap.size w2 w') => (h2.below (hB2.trans (hb.mono hB2.size)) (Nat.le_refl _)))
  have keepS : ∀ w', Below w2.heap.size w2 w' → w'.cell? ⟨w.heap.size, 0, none⟩ = some (.int .i64 W) ∧ w'.cell? ⟨w.heap.size, 1, none⟩ = some (.int .i64 H) ∧ w'.cell? ⟨w.heap.size, 2, none⟩ = some (.int .i64 M) ∧ w'.cell? ⟨w.heap.size, 3, none⟩ = some (.slice A n c) ∧ w'.cell? ⟨w.heap.size + 1, 0, none⟩ = some (.int .i64 W2) ∧ w'.cell? ⟨w.heap.size + 1, 1, none⟩ = some (.int .i64 H2) ∧ w'.cell? ⟨w.heap.size + 1, 2, none⟩ = some (.int .i64 M2) ∧ w'.cell? ⟨w.heap.size + 1, 3, none⟩ = some (.slice A2 n2 c2) := by
    intro w' hb
    have kk : ∀ b o, b < w2.heap.size → w'.cell? ⟨b, o, none⟩ = w2.cell? ⟨b, o, none⟩ := fun b o hlt => hb.cell (p := ⟨b, o, none⟩) hlt
    exact ⟨(kk _ _ k0.lt).trans a0, (kk _ _ k0.lt).trans a1, (kk _ _ k0.lt).trans a2, (kk _ _ k0.lt).trans a3, (kk _ _ k1.lt).trans b0, (kk _ _ k1.lt).trans b1, (kk _ _ k1.lt).trans b2, (kk _ _ k1.lt).trans b3⟩
  replace keepS := Lib.hid keepS
  have keepZ := Lib.hid (fun w' (hb : Below w2.heap.size w2 w') => k2.below hb k2.lt)
  clear k0 k1 k2 c0 c1 c2'
  have qtok1 : True := trivial
  have qtok2 : True := trivial
  have qtok3 : True := trivial
  have qtok4 : True := trivial
  have qtok5 : True := trivial
  have qtok6 : True := trivial
  go_region_held3 (fun w' => w'.cell? ⟨w.heap.size, 0, none⟩ = some (.int .i64 W) ∧ w'.cell? ⟨w.heap.size, 1, none⟩ = some (.int .i64 H) ∧ w'.cell? ⟨w.heap.size, 2, none⟩ = some (.int .i64 M) ∧ w'.cell? ⟨w.heap.size, 3, none⟩ = some (.slice A n c) ∧ w'.cell? ⟨w.heap.size + 1, 0, none⟩ = some (.int .i64 W2) ∧ w'.cell? ⟨w.heap.size + 1, 1, none⟩ = some (.int .i64 H2) ∧ w'.cell? ⟨w.heap.size + 1, 2, none⟩ = some (.int .i64 M2) ∧ w'.cell? ⟨w.heap.size + 1, 3, none⟩ = some (.slice A2 n2 c2))
    (exact keepS.out _ (by repeat (first | exact qB6 | exact qB5 | exact qB4 | exact qB3 | exact qB2 | exact qB1 | exact (Below.refl w2.heap.size w2) | refine Below.drew ?_ | refine Below.drewN ?_ _ | refine Below.alloc ?_ (by first | omega | (simp <;> omega)) _)))
    (first | (go_at_call 13; clear qtok1; refine (hk1.out _ _ _ _ (hs.out _ (by repeat (first | exact (Below.refl w2.heap.size w2) | refine Below.drew ?_ | refine Below.drewN ?_ _ | refine Below.alloc ?_ (by first | omega | (simp <;> omega)) _)))).mono ?_; rintro e qw1 ⟨rfl, qh1⟩; have qB1 : Below w2.heap.size w2 qw1 := Below.trans (by repeat (first | exact (Below.refl w2.heap.size w2) | refine Below.drew ?_ | refine Below.drewN ?_ _ | refine Below.alloc ?_ (by first | omega | (simp <;> omega)) _)) (qh1.mono (by first | omega | (simp <;> omega))); have qs1 := qB1.size) | (go_at_call 14; clear qtok2; refine (hk2.out _ _ _ _ (hs.out _ (by repeat (first | exact qB1 | refine Below.drew ?_ | refine Below.drewN ?_ _ | refine Below.alloc ?_ (by first | omega | (simp <;> omega)) _)))).mono ?_; rintro e qw2 ⟨rfl, qh2⟩; have qB2 : Below w2.heap.size w2 qw2 := Below.trans (by repeat (first | exact qB1 | refine Below.drew ?_ | refine Below.drewN ?_ _ | refine Below.alloc ?_ (by first | omega | (simp <;> omega)) _)) (qh2.mono (by first | omega | (simp <;> omega))); have qs2 := qB2.size) | (go_at_call 15; clear qtok3; refine (Equal_at hq.out (hs.out _ (by repeat (first | exact qB2 | refine Below.drew ?_ | refine Below.drewN ?_ _ | refine Below.alloc ?_ (by first | omega | (simp <;> omega)) _))) (hs2.out _ (by repeat (first | exact qB2 | refine Below.drew ?_ | refine Below.drewN ?_ _ | refine Below.alloc ?_ (by first | omega | (simp <;> omega)) _)))).mono ?_; rintro e qw3 ⟨rfl, qh3⟩; have qB3 : Below w2.heap.size w2 qw3 := Below.trans (by repeat (first | exact qB2 | refine Below.drew ?_ | refine Below.drewN ?_ _ | refine Below.alloc ?_ (by first | omega | (simp <;> omega)) _)) (qh3.mono (by first | omega | (simp <;> omega))); have qs3 := qB3.size) | (go_at_call 16; clear qtok4; refine (rEqual_at hq.out (hs.out _ (by repeat (first | exact qB3 | refine Below.drew ?_ | refine Below.drewN ?_ _ | refine Below.alloc ?_ (by first | omega | (simp <;> omega)) _))) (hs2.out _ (by repeat (first | exact qB3 | refine Below.drew ?_ | refine Below.drewN ?_ _ | refine Below.alloc ?_ (by first | omega | (simp <;> omega)) _)))).mono ?_; rintro e qw4 ⟨rfl, qh4⟩; have qB4 : Below w2.heap.size w2 qw4 := Below.trans (by repeat (first | exact qB3 | refine Below.drew ?_ | refine Below.drewN ?_ _ | refine Below.alloc ?_ (by first | omega | (simp <;> omega)) _)) (qh4.mono (by first | omega | (simp <;> omega))); have qs4 := qB4.size) | (go_at_call 17; clear qtok5; refine (rCopy_any _ _ _ _ _ _ P _ (hs.out _ (by repeat (first | exact qB4 | refine Below.drew ?_ | refine Below.drewN ?_ _ | refine Below.alloc ?_ (by first | omega | (simp <;> omega)) _))) hA (by omega)).mono ?_; rintro e qw5 ⟨A3, n3, c3, rfl, ho3, qh5⟩; have qB5 : Below w2.heap.size w2 qw5 := Below.trans (by repeat (first | exact qB4 | refine Below.drew ?_ | refine Below.drewN ?_ _ | refine Below.alloc ?_ (by first | omega | (simp <;> omega)) _)) (qh5.mono (by first | omega | (simp <;> omega))); have qs5 := qB5.size) | (go_at_call 15; clear qtok6; refine (Equal_at (eqr_self W H M P) (hs.out _ (by repeat (first | exact qB5 | refine Below.drew ?_ | refine Below.drewN ?_ _ | refine Below.alloc ?_ (by first | omega | (simp <;> omega)) _))) (ho3.sl.below (w' := _) (B := _) (by repeat (first | exact Below.refl _ _ | refine Below.drew ?_ | refine Below.drewN ?_ _ | refine Below.alloc ?_ (by first | omega | (simp <;> omega)) _)) (Nat.le_refl _))).mono ?_; rintro e qw6 ⟨rfl, qh6⟩; have qB6 : Below w2.heap.size w2 qw6 := Below.trans (by repeat (first | exact qB5 | refine Below.drew ?_ | refine Below.drewN ?_ _ | refine Below.alloc ?_ (by first | omega | (simp <;> omega)) _)) (qh6.mono (by first | omega | (simp <;> omega))); have qs6 := qB6.size))
  have hZ := keepZ.out _ qB6
  have e0 := hZ.cell 0 rfl
  have e1 := hZ.cell 1 rfl
  have e2 := hZ.cell 2 rfl
  have hB6 := hB2.trans (qB6.mono hB2.size)
  have hz6 : w.heap.size + 1 + 1 < qw6.heap.size := hZ.lt
  clear a0 a1 a2 a3 b0 b1 b2 b3 hb0 hB1 hB2 qB1 qB2 qB3 qB4 qB5 qB6 qh1 qh2 qh3 qh4 qh5 qh6 qs1 qs2 qs3 qs4 qs5 qs6 ho3
  obtain ⟨bf, hbf⟩ : ∃ b, hfm s0 s1 s2 = b := ⟨_, rfl⟩
  cases bf
  · have hnew := Lib.hid (fun W : World => New_no s0 s1 s2 W hbf)
    have hcs := hfm_out hbf
    replace hbf := Lib.hid hbf
    rcases hcs with q2 | ⟨q2, q3⟩ | ⟨q2, q3, q4⟩ | ⟨q2, q3, q4, q5⟩ | ⟨q2, q3, q4, q5, q6⟩ | ⟨q2, q3, q4, q5, q6, q7⟩
    all_goals
      try omega
    all_goals
      go_wp2_with (first | (go_at_call 18; refine (hnew.out _).mono ?_; rintro e w9 ⟨rfl, hb9⟩; have hZ9 := (hZ.below hb9 hZ.lt).alloc (.cells #[.int .i64 0, .int .i64 0, .int .i64 0, .slice none 0 0] 24); have hB9 := (hB6.trans (hb9.mono hB6.size)).alloc (hB6.trans (hb9.mono hB6.size)).size (.cells #[.int .i64 0, .int .i64 0, .int .i64 0, .slice none 0 0] 24); clear e0 e1 e2; have e0 := hZ9.cell 0 rfl; have e1 := hZ9.cell 1 rfl; have e2 := hZ9.cell 2 rfl) | (go_at_call 19; refine (empty_yes _).mono ?_; rintro e w10 ⟨rfl, hb10⟩))
      go_ret
      exact ⟨rfl, hB9.trans (hb10.mono hB9.size)⟩
  · have := hfm_iff.1 hbf
    omega

set_option maxRecDepth 100000 in
set_option maxHeartbeats 12800000 in
theorem forms_mid3 (W H M : Int) (A : Option Addr) (n c : Nat) (P : List Int) (W2 H2 M2 : Int) (A2 : Option Addr) (n2 c2 : Nat) (P2 : List Int) (s0 s1 s2 : Int) (w : World) (h : Sl w A n c P) (h2 : Sl w A2 n2 c2 P2) (hA : A = none → c = 0) (hm : n ≤ 600 ∧ n2 ≤ 600) (q0 : 64 < s0) (q00 : 20 < s0) (q1 : 64 < s1) (q10 : 20 < s1) :
    Calls Try.prog 3 #[.agg #[.int .i64 W, .int .i64 H, .int .i64 M, .slice A n c], .agg #[.int .i64 W2, .int .i64 H2, .int .i64 M2, .slice A2 n2 c2], .agg #[.int .i64 s0, .int .i64 s1, .int .i64 s2]] w fun e w' => e = .returned (.bool true) ∧ Below w.heap.size w w' := by
  have hcap := h.le_cap
  have hcl := h.cap_le
  have hcap2 := h2.le_cap
  have hcl2 := h2.cap_le
  have hb0 := (((Below.refl w.heap.size w).alloc (Nat.le_refl _) (.cells #[.int .i64 W, .int .i64 H, .int .i64 M, .slice A n c] 24)).alloc (by simp) (.cells #[.int .i64 W2, .int .i64 H2, .int .i64 M2, .slice A2 n2 c2] 24)).alloc (by simp <;> omega) (.cells #[.int .i64 s0, .int .i64 s1, .int .i64 s2] 25)
  have k0 : KB _ _ _ _ := ((KB.new w #[.int .i64 W, .int .i64 H, .int .i64 M, .slice A n c] 24).alloc (.cells #[.int .i64 W2, .int .i64 H2, .int .i64 M2, .slice A2 n2 c2] 24)).alloc (.cells #[.int .i64 s0, .int .i64 s1, .int .i64 s2] 25)
  have k1 : KB _ _ _ _ := (KB.new (w.alloc (.cells #[.int .i64 W, .int .i64 H, .int .i64 M, .slice A n c] 24)) #[.int .i64 W2, .int .i64 H2, .int .i64 M2, .slice A2 n2 c2] 24).alloc (.cells #[.int .i64 s0, .int .i64 s1, .int .i64 s2] 25)
  have k2 : KB _ _ _ _ := KB.new ((w.alloc (.cells #[.int .i64 W, .int .i64 H, .int .i64 M, .slice A n c] 24)).alloc (.cells #[.int .i64 W2, .int .i64 H2, .int .i64 M2, .slice A2 n2 c2] 24)) #[.int .i64 s0, .int .i64 s1, .int .i64 s2] 25
  simp only [World.size_alloc] at k1 k2
  obtain ⟨k, hkk, hk1, hk2⟩ := checks W H M P
  obtain ⟨b, hq⟩ : ∃ b, eqr W H M P W2 H2 M2 P2 = b := ⟨_, rfl⟩
  have hkn : (k != k) = false := by simp
  have hbn : (b != b) = false := by simp
  replace hkk := Lib.hid hkk
  replace hk1 := Lib.hid hk1
  replace hk2 := Lib.hid hk2
  replace hq := Lib.hid hq
  go_enter Try.func3, Try.ntmps3
  go_upto_region 5 with (first | (go_at_call 11; refine (known_any _).mono ?_; rintro e w1 ⟨rfl, hb1⟩; simp only [World.size_alloc] at hb1; have z1 := hb1.size; simp only [World.size_alloc] at z1; replace k0 := k0.below hb1 (by omega); replace k1 := k1.below hb1 (by omega); replace k2 := k2.below hb1 (by omega); have hB1 := hb0.trans (hb1.mono (by omega)); have a0 := k0.cell 0 rfl; have a1 := k0.cell 1 rfl; have a2 := k0.cell 2 rfl; have a3 := k0.cell 3 rfl; have b0 := k1.cell 0 rfl; have b1 := k1.cell 1 rfl; have b2 := k1.cell 2 rfl; have b3 := k1.cell 3 rfl; clear hb1) | (go_at_call 12; refine (few_two_yes (KB.new w1 _ _) hm).mono ?_; rintro e w2 ⟨rfl, hb2⟩; simp only [World.size_alloc] at hb2; have z2 := hb2.size; simp only [World.size_alloc] at z2; replace k0 := (k0.alloc _).below hb2 (by omega); replace k1 := (k1.alloc _).below hb2 (by omega); replace k2 := (k2.alloc _).below hb2 (by omega); have hB2 := (hB1.alloc hB1.size _).trans (hb2.mono (by omega)); clear hb2 a0 a1 a2 a3 b0 b1 b2 b3; have a0 := k0.cell 0 rfl; have a1 := k0.cell 1 rfl; have a2 := k0.cell 2 rfl; have a3 := k0.cell 3 rfl; have b0 := k1.cell 0 rfl; have b1 := k1.cell 1 rfl; have b2 := k1.cell 2 rfl; have b3 := k1.cell 3 rfl; have c0 := k2.cell 0 rfl; have c1 := k2.cell 1 rfl; have c2' := k2.cell 2 rfl))
  have hs := Lib.hid (fun w' (hb : Below w2.heap.size w2 w') => (h.below (hB2.trans (hb.mono hB2.size)) (Nat.le_refl _)))
  have hs2 := Lib.hid (fun w' (hb : Below w2.heap.size w2 w') => (h2.below (hB2.trans (hb.mono hB2.size)) (Nat.le_refl _)))
  have keepS : ∀ w', Below w2.heap.size w2 w' → w'.cell? ⟨w.heap.size, 0, none⟩ = some (.int .i64 W) ∧ w'.cell? ⟨w.heap.size, 1, none⟩ = some (.int .i64 H) ∧ w'.cell? ⟨w.heap.size, 2, none⟩ = some (.int .i64 M) ∧ w'.cell? ⟨w.heap.size, 3, none⟩ = some (.slice A n c) ∧ w'.cell? ⟨w.heap.size + 1, 0, none⟩ = some (.int .i64 W2) ∧ w'.cell? ⟨w.heap.size + 1, 1, none⟩ = some (.int .i64 H2) ∧ w'.cell? ⟨w.heap.size + 1, 2, none⟩ = some (.int .i64 M2) ∧ w'.cell? ⟨w.heap.size + 1, 3, none⟩ = some (.slice A2 n2 c2) := by
    intro w' hb
    have kk : ∀ b o, b < w2.heap.size → w'.cell? ⟨b, o, none⟩ = w2.cell? ⟨b, o, none⟩ := fun b o hlt => hb.cell (p := ⟨b, o, none⟩) hlt
    exact ⟨(kk _ _ k0.lt).trans a0, (kk _ _ k0.lt).trans a1, (kk _ _ k0.lt).trans a2, (kk _ _ k0.lt).trans a3, (kk _ _ k1.lt).trans b0, (kk _ _ k1.lt).trans b1, (kk _ _ k1.lt).trans b2, (kk _ _ k1.lt).trans b3⟩
  replace keepS := Lib.hid keepS
  have keepZ := Lib.hid (fun w' (hb : Below w2.heap.size w2 w') => k2.below hb k2.lt)
  clear k0 k1 k2 c0 c1 c2'
  have qtok1 : True := trivial
  have qtok2 : True := trivial
  have qtok3 : True := trivial
  have qtok4 : True := trivial
  have qtok5 : True := trivial
  have qtok6 : True := trivial
  go_region_held3 (fun w' => w'.cell? ⟨w.heap.size, 0, none⟩ = some (.int .i64 W) ∧ w'.cell? ⟨w.heap.size, 1, none⟩ = some (.int .i64 H) ∧ w'.cell? ⟨w.heap.size, 2, none⟩ = some (.int .i64 M) ∧ w'.cell? ⟨w.heap.size, 3, none⟩ = some (.slice A n c) ∧ w'.cell? ⟨w.heap.size + 1, 0, none⟩ = some (.int .i64 W2) ∧ w'.cell? ⟨w.heap.size + 1, 1, none⟩ = some (.int .i64 H2) ∧ w'.cell? ⟨w.heap.size + 1, 2, none⟩ = some (.int .i64 M2) ∧ w'.cell? ⟨w.heap.size + 1, 3, none⟩ = some (.slice A2 n2 c2))
    (exact keepS.out _ (by repeat (first | exact qB6 | exact qB5 | exact qB4 | exact qB3 | exact qB2 | exact qB1 | exact (Below.refl w2.heap.size w2) | refine Below.drew ?_ | refine Below.drewN ?_ _ | refine Below.alloc ?_ (by first | omega | (simp <;> omega)) _)))
    (first | (go_at_call 13; clear qtok1; refine (hk1.out _ _ _ _ (hs.out _ (by repeat (first | exact (Below.refl w2.heap.size w2) | refine Below.drew ?_ | refine Below.drewN ?_ _ | refine Below.alloc ?_ (by first | omega | (simp <;> omega)) _)))).mono ?_; rintro e qw1 ⟨rfl, qh1⟩; have qB1 : Below w2.heap.size w2 qw1 := Below.trans (by repeat (first | exact (Below.refl w2.heap.size w2) | refine Below.drew ?_ | refine Below.drewN ?_ _ | refine Below.alloc ?_ (by first | omega | (simp <;> omega)) _)) (qh1.mono (by first | omega | (simp <;> omega))); have qs1 := qB1.size) | (go_at_call 14; clear qtok2; refine (hk2.out _ _ _ _ (hs.out _ (by repeat (first | exact qB1 | refine Below.drew ?_ | refine Below.drewN ?_ _ | refine Below.alloc ?_ (by first | omega | (simp <;> omega)) _)))).mono ?_; rintro e qw2 ⟨rfl, qh2⟩; have qB2 : Below w2.heap.size w2 qw2 := Below.trans (by repeat (first | exact qB1 | refine Below.drew ?_ | refine Below.drewN ?_ _ | refine Below.alloc ?_ (by first | omega | (simp <;> omega)) _)) (qh2.mono (by first | omega | (simp <;> omega))); have qs2 := qB2.size) | (go_at_call 15; clear qtok3; refine (Equal_at hq.out (hs.out _ (by repeat (first | exact qB2 | refine Below.drew ?_ | refine Below.drewN ?_ _ | refine Below.alloc ?_ (by first | omega | (simp <;> omega)) _))) (hs2.out _ (by repeat (first | exact qB2 | refine Below.drew ?_ | refine Below.drewN ?_ _ | refine Below.alloc ?_ (by first | omega | (simp <;> omega)) _)))).mono ?_; rintro e qw3 ⟨rfl, qh3⟩; have qB3 : Below w2.heap.size w2 qw3 := Below.trans (by repeat (first | exact qB2 | refine Below.drew ?_ | refine Below.drewN ?_ _ | refine Below.alloc ?_ (by first | omega | (simp <;> omega)) _)) (qh3.mono (by first | omega | (simp <;> omega))); have qs3 := qB3.size) | (go_at_call 16; clear qtok4; refine (rEqual_at hq.out (hs.out _ (by repeat (first | exact qB3 | refine Below.drew ?_ | refine Below.drewN ?_ _ | refine Below.alloc ?_ (by first | omega | (simp <;> omega)) _))) (hs2.out _ (by repeat (first | exact qB3 | refine Below.drew ?_ | refine Below.drewN ?_ _ | refine Below.alloc ?_ (by first | omega | (simp <;> omega)) _)))).mono ?_; rintro e qw4 ⟨rfl, qh4⟩; have qB4 : Below w2.heap.size w2 qw4 := Below.trans (by repeat (first | exact qB3 | refine Below.drew ?_ | refine Below.drewN ?_ _ | refine Below.alloc ?_ (by first | omega | (simp <;> omega)) _)) (qh4.mono (by first | omega | (simp <;> omega))); have qs4 := qB4.size) | (go_at_call 17; clear qtok5; refine (rCopy_any _ _ _ _ _ _ P _ (hs.out _ (by repeat (first | exact qB4 | refine Below.drew ?_ | refine Below.drewN ?_ _ | refine Below.alloc ?_ (by first | omega | (simp <;> omega)) _))) hA (by omega)).mono ?_; rintro e qw5 ⟨A3, n3, c3, rfl, ho3, qh5⟩; have qB5 : Below w2.heap.size w2 qw5 := Below.trans (by repeat (first | exact qB4 | refine Below.drew ?_ | refine Below.drewN ?_ _ | refine Below.alloc ?_ (by first | omega | (simp <;> omega)) _)) (qh5.mono (by first | omega | (simp <;> omega))); have qs5 := qB5.size) | (go_at_call 15; clear qtok6; refine (Equal_at (eqr_self W H M P) (hs.out _ (by repeat (first | exact qB5 | refine Below.drew ?_ | refine Below.drewN ?_ _ | refine Below.alloc ?_ (by first | omega | (simp <;> omega)) _))) (ho3.sl.below (w' := _) (B := _) (by repeat (first | exact Below.refl _ _ | refine Below.drew ?_ | refine Below.drewN ?_ _ | refine Below.alloc ?_ (by first | omega | (simp <;> omega)) _)) (Nat.le_refl _))).mono ?_; rintro e qw6 ⟨rfl, qh6⟩; have qB6 : Below w2.heap.size w2 qw6 := Below.trans (by repeat (first | exact qB5 | refine Below.drew ?_ | refine Below.drewN ?_ _ | refine Below.alloc ?_ (by first | omega | (simp <;> omega)) _)) (qh6.mono (by first | omega | (simp <;> omega))); have qs6 := qB6.size))
  have hZ := keepZ.out _ qB6
  have e0 := hZ.cell 0 rfl
  have e1 := hZ.cell 1 rfl
  have e2 := hZ.cell 2 rfl
  have hB6 := hB2.trans (qB6.mono hB2.size)
  have hz6 : w.heap.size + 1 + 1 < qw6.heap.size := hZ.lt
  clear a0 a1 a2 a3 b0 b1 b2 b3 hb0 hB1 hB2 qB1 qB2 qB3 qB4 qB5 qB6 qh1 qh2 qh3 qh4 qh5 qh6 qs1 qs2 qs3 qs4 qs5 qs6 ho3
  obtain ⟨bf, hbf⟩ : ∃ b, hfm s0 s1 s2 = b := ⟨_, rfl⟩
  cases bf
  · have hnew := Lib.hid (fun W : World => New_no s0 s1 s2 W hbf)
    have hcs := hfm_out hbf
    replace hbf := Lib.hid hbf
    rcases hcs with q2 | ⟨q2, q3⟩ | ⟨q2, q3, q4⟩ | ⟨q2, q3, q4, q5⟩ | ⟨q2, q3, q4, q5, q6⟩ | ⟨q2, q3, q4, q5, q6, q7⟩
    all_goals
      try omega
    all_goals
      go_wp2_with (first | (go_at_call 18; refine (hnew.out _).mono ?_; rintro e w9 ⟨rfl, hb9⟩; have hZ9 := (hZ.below hb9 hZ.lt).alloc (.cells #[.int .i64 0, .int .i64 0, .int .i64 0, .slice none 0 0] 24); have hB9 := (hB6.trans (hb9.mono hB6.size)).alloc (hB6.trans (hb9.mono hB6.size)).size (.cells #[.int .i64 0, .int .i64 0, .int .i64 0, .slice none 0 0] 24); clear e0 e1 e2; have e0 := hZ9.cell 0 rfl; have e1 := hZ9.cell 1 rfl; have e2 := hZ9.cell 2 rfl) | (go_at_call 19; refine (empty_yes _).mono ?_; rintro e w10 ⟨rfl, hb10⟩))
      go_ret
      exact ⟨rfl, hB9.trans (hb10.mono hB9.size)⟩
  · have := hfm_iff.1 hbf
    omega

/-- The law of the forms. -/
theorem forms_any (W H M : Int) (A : Option Addr) (n c : Nat) (P : List Int) (W2 H2 M2 : Int) (A2 : Option Addr) (n2 c2 : Nat) (P2 : List Int) (s0 s1 s2 : Int) (w : World) (h : Sl w A n c P) (h2 : Sl w A2 n2 c2 P2) (hA : A = none → c = 0) :
    Calls Try.prog 3 #[.agg #[.int .i64 W, .int .i64 H, .int .i64 M, .slice A n c], .agg #[.int .i64 W2, .int .i64 H2, .int .i64 M2, .slice A2 n2 c2], .agg #[.int .i64 s0, .int .i64 s1, .int .i64 s2]] w fun e w' => e = .returned (.bool true) ∧ Below w.heap.size w w' := by
  by_cases hm : n ≤ 600 ∧ n2 ≤ 600
  · by_cases p0 : s0 ≤ 20
    · by_cases p1 : s1 ≤ 20
      · exact forms_mid0 W H M A n c P W2 H2 M2 A2 n2 c2 P2 s0 s1 s2 w h h2 hA hm p0 p1
      · by_cases p2 : s1 ≤ 64
        · exact forms_b2 W H M A n c P W2 H2 M2 A2 n2 c2 P2 s0 s1 s2 w h h2 hm p0 (by omega) p2
        · exact forms_mid1 W H M A n c P W2 H2 M2 A2 n2 c2 P2 s0 s1 s2 w h h2 hA hm p0 (by omega) (by omega)
    · by_cases p00 : s0 ≤ 64
      · exact forms_b1 W H M A n c P W2 H2 M2 A2 n2 c2 P2 s0 s1 s2 w h h2 hm (by omega) p00
      · by_cases p1 : s1 ≤ 20
        · exact forms_mid2 W H M A n c P W2 H2 M2 A2 n2 c2 P2 s0 s1 s2 w h h2 hA hm (by omega) (by omega) p1
        · by_cases p2 : s1 ≤ 64
          · exact forms_b3 W H M A n c P W2 H2 M2 A2 n2 c2 P2 s0 s1 s2 w h h2 hm (by omega) (by omega) (by omega) p2
          · exact forms_mid3 W H M A n c P W2 H2 M2 A2 n2 c2 P2 s0 s1 s2 w h h2 hA hm (by omega) (by omega) (by omega) (by omega)
  · exact forms_many W H M A n c P W2 H2 M2 A2 n2 c2 P2 s0 s1 s2 w h h2 hm

end Go.Proofs.Ytehnemdifkjhcaa
