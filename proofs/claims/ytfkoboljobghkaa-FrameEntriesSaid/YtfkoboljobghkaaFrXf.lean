/-
  The law FrameEntries: all ways together.
-/
import Derived.Test.YtfkoboljobghkaaFrXd
import Derived.Test.YtfkoboljobghkaaFrXg
import Derived.Test.YtfkoboljobghkaaFrF0
import Derived.Test.YtfkoboljobghkaaFrKn
import Derived.Deep.Cut
set_option linter.unusedSimpArgs false
set_option linter.unusedVariables false
namespace Go.Proofs.Ytfkoboljobghkaa
open Go.RowKit Go.Shelf


set_option maxRecDepth 100000 in
set_option maxHeartbeats 6400000 in
theorem lawE_many (A : Option Addr) (n c : Nat) (E : List Ent) (W H M : Int) (A2 : Option Addr) (n2 c2 : Nat) (P : List Int) (k u : ByteArray) (w : World) (h : En0 w A n c E) (h2 : Sl w A2 n2 c2 P) (hc : c ≤ 9223372036854775807) (hf : fewB n2 E = false) :
    Calls Try.prog 10 #[.agg #[.slice A n c, .int .i64 W, .int .i64 H, .int .i64 M, .slice A2 n2 c2], .string k, .string u] w fun e w' => e = .returned (.bool true) ∧ Below w.heap.size w w' := by
  have hc2 : n2 ≤ 9223372036854775807 := by have := h2.le_cap; have := h2.cap_le; omega
  have hb0 : Below w.heap.size w ((w.alloc (.cells #[.slice A n c, .int .i64 W, .int .i64 H, .int .i64 M, .slice A2 n2 c2] 27)).alloc (.cells #[.string k] 9)) := ((Below.refl w.heap.size w).alloc (Nat.le_refl _) (.cells #[.slice A n c, .int .i64 W, .int .i64 H, .int .i64 M, .slice A2 n2 c2] 27)).alloc (by simp) (.cells #[.string k] 9)
  have hE0 := Lib.hid ((h.alloc (.cells #[.slice A n c, .int .i64 W, .int .i64 H, .int .i64 M, .slice A2 n2 c2] 27)).alloc (.cells #[.string k] 9))
  have f0 := (FB.new w (.slice A n c) (.int .i64 W) (.int .i64 H) (.int .i64 M) (.slice A2 n2 c2)).alloc (.cells #[.string k] 9)
  have hK0 := KB.new (w.alloc (.cells #[.slice A n c, .int .i64 W, .int .i64 H, .int .i64 M, .slice A2 n2 c2] 27)) k
  simp only [World.size_alloc] at hK0
  have hcel : Hid (∀ v, Below ((w.alloc (.cells #[.slice A n c, .int .i64 W, .int .i64 H, .int .i64 M, .slice A2 n2 c2] 27)).alloc (.cells #[.string k] 9)).heap.size ((w.alloc (.cells #[.slice A n c, .int .i64 W, .int .i64 H, .int .i64 M, .slice A2 n2 c2] 27)).alloc (.cells #[.string k] 9)) v → (v.cell? ⟨w.heap.size, 0, none⟩ = some (.slice A n c) ∧ v.cell? ⟨w.heap.size, 1, none⟩ = some (.int .i64 W) ∧ v.cell? ⟨w.heap.size, 2, none⟩ = some (.int .i64 H) ∧ v.cell? ⟨w.heap.size, 3, none⟩ = some (.int .i64 M) ∧ v.cell? ⟨w.heap.size, 4, none⟩ = some (.slice A2 n2 c2)) ∧ v.cell? ⟨w.heap.size + 1, 0, none⟩ = some (.string k)) := by
    intro v hv
    exact ⟨(f0.below hv (by simp; omega)).cells.1, (hK0.below hv (by simp)).cell⟩
  have hfw := fun v (hv : En0 v A n c E) => few0_any A n c E W H M A2 n2 c2 v hv hc2
  rw [hf] at hfw
  replace hfw := Lib.hid hfw
  clear h h2 f0 hK0 hf
  go_enter Try.func10, Try.ntmps10
  go_wp2_with (first
    | (go_at_call 12; refine (known_any _).mono ?_; rintro e w1 ⟨rfl, hB1⟩; obtain ⟨⟨x0, x1, x2, x3, x4⟩, xk⟩ := hcel.out _ hB1)
    | (go_at_call 13; refine (hfw.out _ (hE0.out.below hB1 (Nat.le_refl _))).mono ?_; rintro e w2 ⟨rfl, hb2'⟩; have hB2 := hB1.trans (hb2'.mono hB1.size); clear x0 x1 x2 x3 x4 xk; obtain ⟨⟨x0, x1, x2, x3, x4⟩, xk⟩ := hcel.out _ hB2))
  go_ret
  exact ⟨rfl, hb0.trans (hB2.mono hb0.size)⟩

set_option maxRecDepth 100000 in
set_option maxHeartbeats 6400000 in
theorem lawE_key (A : Option Addr) (n c : Nat) (E : List Ent) (W H M : Int) (A2 : Option Addr) (n2 c2 : Nat) (P : List Int) (k u : ByteArray) (w : World) (h : En0 w A n c E) (h2 : Sl w A2 n2 c2 P) (hc : c ≤ 9223372036854775807) (hf : fewB n2 E = true) (hk : 140 < k.size) :
    Calls Try.prog 10 #[.agg #[.slice A n c, .int .i64 W, .int .i64 H, .int .i64 M, .slice A2 n2 c2], .string k, .string u] w fun e w' => e = .returned (.bool true) ∧ Below w.heap.size w w' := by
  have hc2 : n2 ≤ 9223372036854775807 := by have := h2.le_cap; have := h2.cap_le; omega
  have hb0 : Below w.heap.size w ((w.alloc (.cells #[.slice A n c, .int .i64 W, .int .i64 H, .int .i64 M, .slice A2 n2 c2] 27)).alloc (.cells #[.string k] 9)) := ((Below.refl w.heap.size w).alloc (Nat.le_refl _) (.cells #[.slice A n c, .int .i64 W, .int .i64 H, .int .i64 M, .slice A2 n2 c2] 27)).alloc (by simp) (.cells #[.string k] 9)
  have hE0 := Lib.hid ((h.alloc (.cells #[.slice A n c, .int .i64 W, .int .i64 H, .int .i64 M, .slice A2 n2 c2] 27)).alloc (.cells #[.string k] 9))
  have f0 := (FB.new w (.slice A n c) (.int .i64 W) (.int .i64 H) (.int .i64 M) (.slice A2 n2 c2)).alloc (.cells #[.string k] 9)
  have hK0 := KB.new (w.alloc (.cells #[.slice A n c, .int .i64 W, .int .i64 H, .int .i64 M, .slice A2 n2 c2] 27)) k
  simp only [World.size_alloc] at hK0
  have hcel : Hid (∀ v, Below ((w.alloc (.cells #[.slice A n c, .int .i64 W, .int .i64 H, .int .i64 M, .slice A2 n2 c2] 27)).alloc (.cells #[.string k] 9)).heap.size ((w.alloc (.cells #[.slice A n c, .int .i64 W, .int .i64 H, .int .i64 M, .slice A2 n2 c2] 27)).alloc (.cells #[.string k] 9)) v → (v.cell? ⟨w.heap.size, 0, none⟩ = some (.slice A n c) ∧ v.cell? ⟨w.heap.size, 1, none⟩ = some (.int .i64 W) ∧ v.cell? ⟨w.heap.size, 2, none⟩ = some (.int .i64 H) ∧ v.cell? ⟨w.heap.size, 3, none⟩ = some (.int .i64 M) ∧ v.cell? ⟨w.heap.size, 4, none⟩ = some (.slice A2 n2 c2)) ∧ v.cell? ⟨w.heap.size + 1, 0, none⟩ = some (.string k)) := by
    intro v hv
    exact ⟨(f0.below hv (by simp; omega)).cells.1, (hK0.below hv (by simp)).cell⟩
  have hfw := fun v (hv : En0 v A n c E) => few0_any A n c E W H M A2 n2 c2 v hv hc2
  rw [hf] at hfw
  replace hfw := Lib.hid hfw
  have hki : (140 : Int) < (k.size : Int) := by omega
  clear h h2 f0 hK0 hf
  go_enter Try.func10, Try.ntmps10
  go_wp2_with (first
    | (go_at_call 12; refine (known_any _).mono ?_; rintro e w1 ⟨rfl, hB1⟩; obtain ⟨⟨x0, x1, x2, x3, x4⟩, xk⟩ := hcel.out _ hB1)
    | (go_at_call 13; refine (hfw.out _ (hE0.out.below hB1 (Nat.le_refl _))).mono ?_; rintro e w2 ⟨rfl, hb2'⟩; have hB2 := hB1.trans (hb2'.mono hB1.size); clear x0 x1 x2 x3 x4 xk; obtain ⟨⟨x0, x1, x2, x3, x4⟩, xk⟩ := hcel.out _ hB2))
  go_ret
  exact ⟨rfl, hb0.trans (hB2.mono hb0.size)⟩

set_option maxRecDepth 100000 in
set_option maxHeartbeats 6400000 in
theorem lawE_val (A : Option Addr) (n c : Nat) (E : List Ent) (W H M : Int) (A2 : Option Addr) (n2 c2 : Nat) (P : List Int) (k u : ByteArray) (w : World) (h : En0 w A n c E) (h2 : Sl w A2 n2 c2 P) (hc : c ≤ 9223372036854775807) (hf : fewB n2 E = true) (hk : k.size ≤ 140) (hu : 140 < u.size) :
    Calls Try.prog 10 #[.agg #[.slice A n c, .int .i64 W, .int .i64 H, .int .i64 M, .slice A2 n2 c2], .string k, .string u] w fun e w' => e = .returned (.bool true) ∧ Below w.heap.size w w' := by
  have hc2 : n2 ≤ 9223372036854775807 := by have := h2.le_cap; have := h2.cap_le; omega
  have hb0 : Below w.heap.size w ((w.alloc (.cells #[.slice A n c, .int .i64 W, .int .i64 H, .int .i64 M, .slice A2 n2 c2] 27)).alloc (.cells #[.string k] 9)) := ((Below.refl w.heap.size w).alloc (Nat.le_refl _) (.cells #[.slice A n c, .int .i64 W, .int .i64 H, .int .i64 M, .slice A2 n2 c2] 27)).alloc (by simp) (.cells #[.string k] 9)
  have hE0 := Lib.hid ((h.alloc (.cells #[.slice A n c, .int .i64 W, .int .i64 H, .int .i64 M, .slice A2 n2 c2] 27)).alloc (.cells #[.string k] 9))
  have f0 := (FB.new w (.slice A n c) (.int .i64 W) (.int .i64 H) (.int .i64 M) (.slice A2 n2 c2)).alloc (.cells #[.string k] 9)
  have hK0 := KB.new (w.alloc (.cells #[.slice A n c, .int .i64 W, .int .i64 H, .int .i64 M, .slice A2 n2 c2] 27)) k
  simp only [World.size_alloc] at hK0
  have hcel : Hid (∀ v, Below ((w.alloc (.cells #[.slice A n c, .int .i64 W, .int .i64 H, .int .i64 M, .slice A2 n2 c2] 27)).alloc (.cells #[.string k] 9)).heap.size ((w.alloc (.cells #[.slice A n c, .int .i64 W, .int .i64 H, .int .i64 M, .slice A2 n2 c2] 27)).alloc (.cells #[.string k] 9)) v → (v.cell? ⟨w.heap.size, 0, none⟩ = some (.slice A n c) ∧ v.cell? ⟨w.heap.size, 1, none⟩ = some (.int .i64 W) ∧ v.cell? ⟨w.heap.size, 2, none⟩ = some (.int .i64 H) ∧ v.cell? ⟨w.heap.size, 3, none⟩ = some (.int .i64 M) ∧ v.cell? ⟨w.heap.size, 4, none⟩ = some (.slice A2 n2 c2)) ∧ v.cell? ⟨w.heap.size + 1, 0, none⟩ = some (.string k)) := by
    intro v hv
    exact ⟨(f0.below hv (by simp; omega)).cells.1, (hK0.below hv (by simp)).cell⟩
  have hfw := fun v (hv : En0 v A n c E) => few0_any A n c E W H M A2 n2 c2 v hv hc2
  rw [hf] at hfw
  replace hfw := Lib.hid hfw
  have hki : ¬ (140 : Int) < (k.size : Int) := by omega
  have hui : (140 : Int) < (u.size : Int) := by omega
  clear h h2 f0 hK0 hf
  go_enter Try.func10, Try.ntmps10
  go_wp2_with (first
    | (go_at_call 12; refine (known_any _).mono ?_; rintro e w1 ⟨rfl, hB1⟩; obtain ⟨⟨x0, x1, x2, x3, x4⟩, xk⟩ := hcel.out _ hB1)
    | (go_at_call 13; refine (hfw.out _ (hE0.out.below hB1 (Nat.le_refl _))).mono ?_; rintro e w2 ⟨rfl, hb2'⟩; have hB2 := hB1.trans (hb2'.mono hB1.size); clear x0 x1 x2 x3 x4 xk; obtain ⟨⟨x0, x1, x2, x3, x4⟩, xk⟩ := hcel.out _ hB2))
  go_ret
  exact ⟨rfl, hb0.trans (hB2.mono hb0.size)⟩

theorem lawEntries_any (A : Option Addr) (n c : Nat) (E : List Ent) (W H M : Int) (A2 : Option Addr) (n2 c2 : Nat) (P : List Int) (k u : ByteArray) (w : World) (h : En0 w A n c E) (h2 : Sl w A2 n2 c2 P) :
    Calls Try.prog 10 #[.agg #[.slice A n c, .int .i64 W, .int .i64 H, .int .i64 M, .slice A2 n2 c2], .string k, .string u] w fun e w' => e = .returned (.bool true) ∧ Below w.heap.size w w' := by
  cases hf : fewB n2 E with
  | false => exact lawE_many A n c E W H M A2 n2 c2 P k u w h h2 h.2.2.1 hf
  | true =>
    by_cases hk : 140 < k.size
    · exact lawE_key A n c E W H M A2 n2 c2 P k u w h h2 h.2.2.1 hf hk
    by_cases hu : 140 < u.size
    · exact lawE_val A n c E W H M A2 n2 c2 P k u w h h2 h.2.2.1 hf (by omega) hu
    have hE := h.few hf
    have hk1 : k.size ≤ 140 := by omega
    have hu1 : u.size ≤ 140 := by omega
    by_cases hr : Ras W H M P
    · by_cases hm : metaC E = 0
      · have hg : Good W H M P E := ⟨hr, hm⟩
        obtain ⟨p, hp⟩ := posOf_ex hm k
        cases ha : isAt E k p with
        | false =>
          cases hq : keyB k with
          | false => exact lawE_name_no A n c E W H M A2 n2 c2 P k u w hE h2 hf hk1 hu1 hg hp ha hq
          | true =>
            by_cases hv : valC u = 0
            · by_cases hl : n = 32
              · exact lawE_limit A n c E W H M A2 n2 c2 P k u w hE h2 hf hk1 hu1 hg hp ha hq hv hl
              · exact lawE_ok_no A n c E W H M A2 n2 c2 P k u w hE h2 hf hk1 hu1 hg hp ha hq hv hl
            · exact lawE_value_no A n c E W H M A2 n2 c2 P k u w hE h2 hf hk1 hu1 hg hp ha hq rfl hv
        | true =>
          cases hq : keyB k with
          | false => exact lawE_name_yes A n c E W H M A2 n2 c2 P k u w hE h2 hf hk1 hu1 hg hp ha hq
          | true =>
            by_cases hv : valC u = 0
            · exact lawE_ok_yes A n c E W H M A2 n2 c2 P k u w hE h2 hf hk1 hu1 hg hp ha hq hv
            · exact lawE_value_yes A n c E W H M A2 n2 c2 P k u w hE h2 hf hk1 hu1 hg hp ha hq rfl hv
      · exact lawE_bad A n c E W H M A2 n2 c2 P k u w hE h2 hf hk1 hu1 (.inr ⟨hr, rfl⟩) hm
    · exact lawE_bad A n c E W H M A2 n2 c2 P k u w hE h2 hf hk1 hu1 (.inl ⟨hr, rfl⟩) (by decide)

end Go.Proofs.Ytfkoboljobghkaa
