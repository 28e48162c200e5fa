/-
  Walks: find of package frame: the comparison of an entry with a key; slices.BinarySearchFunc at []api.Entry.
-/
import Derived.Test.YtfkoboljobghkaaFrSm
import Derived.Sort.Walk0
set_option linter.unusedSimpArgs false
set_option linter.unusedVariables false
namespace Go.Proofs.Ytfkoboljobghkaa
open Go.RowKit Go.Shelf

/-- What strings.Compare answers. -/
def cmpT (a b : ByteArray) : Int := Lib.compareBytes a.data.toList b.data.toList

theorem less_eq (a b : ByteArray) : less a b = decide (a.data.toList < b.data.toList) := by
  unfold less
  rw [bytesLess_eq, Lib.toList_data, Lib.toList_data]
theorem compareB : ∀ x y : List UInt8, (Lib.compareBytes x y < 0 ↔ x < y) ∧ (Lib.compareBytes x y = 0 ↔ x = y)
  | [], [] => by simp [Lib.compareBytes]
  | [], _ :: _ => by simp [Lib.compareBytes]
  | _ :: _, [] => by simp [Lib.compareBytes]
  | a :: x, b :: y => by
    have ih := compareB x y
    unfold Lib.compareBytes
    rw [List.cons_lt_cons_iff, List.cons.injEq]
    by_cases h1 : a < b
    · have : a ≠ b := fun e => absurd (e ▸ h1) (UInt8.lt_irrefl _)
      simp [h1, this]
    · by_cases h2 : b < a
      · have : a ≠ b := fun e => absurd (e ▸ h2) (UInt8.lt_irrefl _)
        simp [h1, h2, this]
      · have h3 : a = b := UInt8.le_antisymm (UInt8.not_lt.1 h2) (UInt8.not_lt.1 h1)
        simp only [if_neg h1, if_neg h2]
        subst h3
        simp [UInt8.lt_irrefl, ih.1, ih.2]
theorem cmpT_less {a b : ByteArray} : cmpT a b < 0 ↔ less a b = true := by
  rw [less_eq, decide_eq_true_iff]; exact (compareB _ _).1
theorem cmpT_zero {a b : ByteArray} : cmpT a b = 0 ↔ a = b := by
  unfold cmpT
  rw [(compareB _ _).2]
  refine ⟨fun h => ?_, fun h => by rw [h]⟩
  obtain ⟨⟨x⟩⟩ := a
  obtain ⟨⟨y⟩⟩ := b
  simp at h
  rw [h]

theorem compare_any (a b : ByteArray) (w : World) :
    Calls Try.prog 89 #[.string a, .string b] w fun e w' => e = .returned (.int .i64 (cmpT a b)) ∧ w = w' :=
  (Try.strings_Compare a b w).mono fun _ _ h => ⟨h.1, h.2.symm⟩

set_option maxHeartbeats 1600000 in
theorem find1_any (a v k : ByteArray) (w : World) :
    Calls Try.prog 88 #[.agg #[.string a, .string v], .string k] w fun e w' => e = .returned (.int .i64 (cmpT a k)) ∧ Below w.heap.size w w' := by
  have hc := Lib.hid (compare_any a k (w.alloc (.cells #[.string a, .string v] 68)))
  have hb := (Below.refl w.heap.size w).alloc (Nat.le_refl _) (.cells #[.string a, .string v] 68)
  go_enter Try.func88, Try.ntmps88
  go_wp2_with (go_at_call 89; refine hc.out.mono ?_; rintro e w' ⟨rfl, rfl⟩)
  go_ret
  exact ⟨rfl, hb⟩

theorem enters_find1 : ∀ args w, (callFunc 88 args).run Try.prog w = .ok (.enter 88 args) w := enters_of Try.func88 (by kernel_rfl) rfl

theorem find1_at {a k : ByteArray} {c : Int} (h : cmpT a k = c) (v : ByteArray) (w : World) :
    Calls Try.prog 88 #[.agg #[.string a, .string v], .string k] w fun e w' => e = .returned (.int .i64 c) ∧ Below w.heap.size w w' := h ▸ find1_any a v k w

/-- The place of a key in metadata: how many keys are behind it in order. -/
def PosOf (E : List Ent) (k : ByteArray) (p : Nat) : Prop := p ≤ E.length ∧ ∀ j, j < E.length → (less (keyAt E j) k = true ↔ j < p)

/-- Is a key there, its place being p? -/
def isAt (E : List Ent) (k : ByteArray) (p : Nat) : Bool := decide (p < E.length ∧ keyAt E p = k)

set_option maxRecDepth 100000 in
set_option maxHeartbeats 6400000 in
theorem search_any (A : Option Addr) (n c : Nat) (E : List Ent) (k : ByteArray) (p : Nat) (w : World) (h : En w A n c E) (hn : n ≤ 1000000) (hp : PosOf E k p) :
    Calls Try.prog 87 #[.slice A n c, .string k, .func (.func 88) #[] #[]] w fun e w' => e = .returned (.tuple #[.int .i64 (p : Int), .bool (isAt E k p)]) ∧ Below w.heap.size w w' := by
  have eg := enters_find1
  have hlen := h.1
  have hcap := h.2.1
  have hcl := h.2.2.1
  replace hp := Lib.hid hp
  replace hlen := Lib.hid hlen
  replace h := Lib.hid h
  go_enter Try.func87, Try.ntmps87
  go_wp2
  go_loopg [9, 10] n (fun kx s9 s10 wr => ∃ lo hi : Nat, s9 = .int .i64 lo ∧ s10 = .int .i64 hi ∧ lo ≤ hi ∧ hi ≤ n ∧ hi - lo ≤ kx ∧ lo ≤ p ∧ p ≤ hi ∧ Hid (Below w.heap.size w wr))
  case atStart => exact ⟨0, n, rfl, rfl, Nat.zero_le _, Nat.le_refl _, by omega, Nat.zero_le _, by have := hp.out.1; have := hlen.out; omega, Lib.hid (Below.refl _ _)⟩
  case round =>
    obtain ⟨lo, hi, rfl, rfl, hlh, hin, hg, hlp, hph, hB⟩ := hrel
    by_cases hlt : lo < hi
    · obtain ⟨m, hm⟩ : ∃ m, (lo + hi) / 2 = m := ⟨_, rfl⟩
      obtain ⟨b, off, rfl, hbw, hcs⟩ := (h.out.below hB.out (Nat.le_refl _)).at_ (by omega)
      obtain ⟨c0, c1⟩ := hcs m (by omega)
      obtain ⟨ks, hks⟩ : ∃ s, keyAt E m = s := ⟨_, rfl⟩
      obtain ⟨vs, hvs⟩ : ∃ s, valAt E m = s := ⟨_, rfl⟩
      obtain ⟨q, hq⟩ : ∃ q, m * 2 = q := ⟨_, rfl⟩
      rw [hks, hq] at c0
      rw [hvs, hq] at c1
      clear hcs
      obtain ⟨u, hu⟩ : ∃ u, cmpT ks k = u := ⟨_, rfl⟩
      have hc := Lib.hid (find1_at hu vs wr)
      have hpm := hp.out.2 m (by have := hlen.out; omega)
      rw [hks, ← cmpT_less, hu] at hpm
      replace hks := Lib.hid hks
      replace hvs := Lib.hid hvs
      replace hu := Lib.hid hu
      have hmi : ((lo : Int) + (hi : Int)) / 2 = (m : Int) := by omega
      have hmt : ((lo : Int) + (hi : Int)).toNat / 2 = m := by omega
      by_cases hu0 : u < 0
      · have hp2 := hpm.1 hu0
        clear hpm
        go_wp2_with (go_at_fn 88; refine hc.out.mono ?_; rintro e w' ⟨rfl, hb2⟩)
        go_roundg (hi - (m + 1))
        case measure => omega
        case rel => exact ⟨m + 1, hi, by go_num, rfl, by omega, hin, Nat.le_refl _, by omega, hph, Lib.hid (hB.out.trans (hb2.mono hB.out.size))⟩
      · have hp2 : ¬ m < p := fun e => hu0 (hpm.2 e)
        clear hpm
        go_wp2_with (go_at_fn 88; refine hc.out.mono ?_; rintro e w' ⟨rfl, hb2⟩)
        go_roundg (m - lo)
        case measure => omega
        case rel => exact ⟨lo, m, rfl, by go_num, by omega, by omega, Nat.le_refl _, hlp, by omega, Lib.hid (hB.out.trans (hb2.mono hB.out.size))⟩
    · obtain rfl : hi = lo := by omega
      obtain rfl : hi = p := by omega
      by_cases hl : hi < n
      · obtain ⟨b, off, rfl, hbw, hcs⟩ := (h.out.below hB.out (Nat.le_refl _)).at_ (by omega)
        obtain ⟨c0, c1⟩ := hcs hi hl
        obtain ⟨ks, hks⟩ : ∃ s, keyAt E hi = s := ⟨_, rfl⟩
        obtain ⟨vs, hvs⟩ : ∃ s, valAt E hi = s := ⟨_, rfl⟩
        obtain ⟨q, hq⟩ : ∃ q, hi * 2 = q := ⟨_, rfl⟩
        rw [hks, hq] at c0
        rw [hvs, hq] at c1
        clear hcs
        obtain ⟨u, hu⟩ : ∃ u, cmpT ks k = u := ⟨_, rfl⟩
        have hc := Lib.hid (find1_at hu vs wr)
        have hat : Hid (isAt E k hi = decide (u = 0)) := Lib.hid (by
          unfold isAt
          rw [← hu, hks]
          have := hlen.out
          simp only [cmpT_zero, show hi < E.length by omega, true_and])
        replace hks := Lib.hid hks
        replace hvs := Lib.hid hvs
        replace hu := Lib.hid hu
        by_cases hu0 : u = 0
        · subst hu0
          go_wp2_with (go_at_fn 88; refine hc.out.mono ?_; rintro e w' ⟨rfl, hb2⟩)
          go_ret2
          exact ⟨by rw [hat.out]; rfl, hB.out.trans (hb2.mono hB.out.size)⟩
        · have hne : (u == 0) = false := by simpa using hu0
          go_wp2_with (go_at_fn 88; refine hc.out.mono ?_; rintro e w' ⟨rfl, hb2⟩)
          go_ret2
          exact ⟨by rw [hat.out]; simp [hu0], hB.out.trans (hb2.mono hB.out.size)⟩
      · have hat : Hid (isAt E k hi = false) := Lib.hid (by
          unfold isAt
          have := hlen.out
          simp only [show ¬ hi < E.length by omega, false_and, decide_false])
        go_wp2
        go_ret2
        exact ⟨by rw [hat.out]; rfl, hB.out⟩

set_option maxHeartbeats 1600000 in
theorem find_any (A : Option Addr) (n c : Nat) (E : List Ent) (k : ByteArray) (p : Nat) (w : World) (h : En w A n c E) (hn : n ≤ 1000000) (hp : PosOf E k p) :
    Calls Try.prog 66 #[.slice A n c, .string k] w fun e w' => e = .returned (.tuple #[.int .i64 (p : Int), .bool (isAt E k p)]) ∧ Below w.heap.size w w' := by
  have hs := Lib.hid (search_any A n c E k p w h hn hp)
  clear h hp
  go_enter Try.func66, Try.ntmps66
  go_wp2_with (go_at_call 87; refine hs.out.mono ?_; rintro e w' ⟨rfl, hb⟩)
  go_ret2
  exact ⟨rfl, hb⟩

end Go.Proofs.Ytfkoboljobghkaa
