/-
  Walks: isKey, checkValue of package frame.
-/
import Derived.Test.YtfkoboljobghkaaFrSt
set_option linter.unusedSimpArgs false
set_option linter.unusedVariables false
namespace Go.Proofs.Ytfkoboljobghkaa
open Go.RowKit Go.Shelf

theorem fwithin_any (a lo hi : Int) (w : World) :
    Calls Try.prog 53 #[.int .i64 a, .int .i64 lo, .int .i64 hi] w fun e w' => e = .returned (.bool (win a lo hi)) ∧ w = w' := by
  by_cases h1 : lo ≤ a
  · by_cases h2 : a ≤ hi
    · have hw := Lib.hid (win_iff.2 ⟨h1, h2⟩)
      go_enter Try.func53, Try.ntmps53
      go_wp2
      go_ret
      exact ⟨ret_bool hw.out.symm, rfl⟩
    · have hw : Hid (win a lo hi = false) := Lib.hid (win_no.2 fun h => h2 h.2)
      have h2 := Int.not_le.1 h2
      go_enter Try.func53, Try.ntmps53
      go_wp2
      go_ret
      exact ⟨ret_bool (by first | (rw [hw.out]; done) | (rw [hw.out]; simp <;> omega)), rfl⟩
  · have hw : Hid (win a lo hi = false) := Lib.hid (win_no.2 fun h => h1 h.1)
    have h1 := Int.not_le.1 h1
    go_enter Try.func53, Try.ntmps53
    go_wp2
    go_ret
    exact ⟨ret_bool (by first | (rw [hw.out]; done) | (rw [hw.out]; simp <;> omega)), rfl⟩
theorem fwithin_at {a lo hi : Int} {b : Bool} (h : win a lo hi = b) (w : World) :
    Calls Try.prog 53 #[.int .i64 a, .int .i64 lo, .int .i64 hi] w fun e w' => e = .returned (.bool b) ∧ w = w' := h ▸ fwithin_any a lo hi w

theorem isLet_any (r : Nat) (w : World) :
    Calls Try.prog 90 #[.int .i32 (r : Int)] w fun e w' => e = .returned (.bool (isLet r)) ∧ w = w' := by
  by_cases h1 : 97 ≤ r
  · by_cases h2 : r ≤ 122
    · have hw : Hid (isLet r = true) := Lib.hid (by simp [isLet, h1, h2])
      go_enter Try.func90, Try.ntmps90
      go_wp2
      go_ret
      exact ⟨ret_bool (by first | (rw [hw.out]; done) | (rw [hw.out]; simp <;> omega)), rfl⟩
    · have hw : Hid (isLet r = false) := Lib.hid (by simp [isLet, h2])
      go_enter Try.func90, Try.ntmps90
      go_wp2
      go_ret
      exact ⟨ret_bool (by first | (rw [hw.out]; done) | (rw [hw.out]; simp <;> omega)), rfl⟩
  · have hw : Hid (isLet r = false) := Lib.hid (by simp [isLet, h1])
    go_enter Try.func90, Try.ntmps90
    go_wp2
    go_ret
    exact ⟨ret_bool (by first | (rw [hw.out]; done) | (rw [hw.out]; simp <;> omega)), rfl⟩
theorem isLet_at {r : Nat} {b : Bool} (h : isLet r = b) (w : World) :
    Calls Try.prog 90 #[.int .i32 (r : Int)] w fun e w' => e = .returned (.bool b) ∧ w = w' := h ▸ isLet_any r w

theorem enters_isLet : ∀ args w, (callFunc 90 args).run Try.prog w = .ok (.enter 90 args) w := enters_of Try.func90 (by kernel_rfl) rfl
theorem enters_isOth : ∀ args w, (callFunc 91 args).run Try.prog w = .ok (.enter 91 args) w := enters_of Try.func91 (by kernel_rfl) rfl
theorem enters_isBad : ∀ args w, (callFunc 93 args).run Try.prog w = .ok (.enter 93 args) w := enters_of Try.func93 (by kernel_rfl) rfl

theorem isBad_any (r : Nat) (w : World) :
    Calls Try.prog 93 #[.int .i32 (r : Int)] w fun e w' => e = .returned (.bool (isBad r)) ∧ w = w' := by
  by_cases h1 : r < 32
  · have hw : Hid (isBad r = true) := Lib.hid (by simp [isBad, h1])
    go_enter Try.func93, Try.ntmps93
    go_wp2
    go_ret
    exact ⟨ret_bool (by first | (rw [hw.out]; done) | (rw [hw.out]; simp <;> omega)), rfl⟩
  · by_cases h2 : 126 < r
    · have hw : Hid (isBad r = true) := Lib.hid (by simp [isBad, h2])
      go_enter Try.func93, Try.ntmps93
      go_wp2
      go_ret
      exact ⟨ret_bool (by first | (rw [hw.out]; done) | (rw [hw.out]; simp <;> omega)), rfl⟩
    · have hw : Hid (isBad r = false) := Lib.hid (by simp [isBad, h1, h2])
      go_enter Try.func93, Try.ntmps93
      go_wp2
      go_ret
      exact ⟨ret_bool (by first | (rw [hw.out]; done) | (rw [hw.out]; simp <;> omega)), rfl⟩

/-- The closure over the cell that holds the first one. -/
theorem isOth_any (r B : Nat) (w : World) (hc : w.cell? ⟨B, 0, none⟩ = some (.func (.func 90) #[] #[])) :
    Calls Try.prog 91 #[.int .i32 (r : Int), .pointer (some ⟨B, 0, none⟩)] w fun e w' => e = .returned (.bool (isOth r)) ∧ w = w' := by
  have eg := enters_isLet
  obtain ⟨b, hb⟩ : ∃ b, isLet r = b := ⟨_, rfl⟩
  have hcall := Lib.hid (isLet_at hb w)
  cases b
  · by_cases h1 : 48 ≤ r
    · by_cases h2 : r ≤ 57
      · have hw : Hid (isOth r = false) := Lib.hid (by simp [isOth, hb, h1, h2])
        replace hb := Lib.hid hb
        go_enter Try.func91, Try.ntmps91
        go_wp2_with (go_at_fn 90; refine hcall.out.mono ?_; rintro e w' ⟨rfl, rfl⟩)
        go_ret
        exact ⟨ret_bool (by first | (rw [hw.out]; done) | (rw [hw.out]; simp <;> omega)), rfl⟩
      · by_cases h3 : r = 95
        · subst h3
          have hw : Hid (isOth 95 = false) := Lib.hid (by decide)
          replace hb := Lib.hid hb
          go_enter Try.func91, Try.ntmps91
          go_wp2_with (go_at_fn 90; refine hcall.out.mono ?_; rintro e w' ⟨rfl, rfl⟩)
          go_ret
          exact ⟨ret_bool (by first | (rw [hw.out]; done) | (rw [hw.out]; simp <;> omega)), rfl⟩
        · have hw : Hid (isOth r = true) := Lib.hid (by simp [isOth, hb, h2, h3])
          have h3' : ((r : Int) != 95) = true := by rw [bne_iff_ne]; omega
          replace hb := Lib.hid hb
          replace h3 := Lib.hid h3
          go_enter Try.func91, Try.ntmps91
          go_wp2_with (go_at_fn 90; refine hcall.out.mono ?_; rintro e w' ⟨rfl, rfl⟩)
          go_ret
          exact ⟨ret_bool (by first | (rw [hw.out]; done) | (rw [hw.out]; simp <;> omega)), rfl⟩
    · have hw : Hid (isOth r = true) := Lib.hid (by simp [isOth, hb, h1]; omega)
      have h3' : ((r : Int) != 95) = true := by rw [bne_iff_ne]; omega
      replace hb := Lib.hid hb
      go_enter Try.func91, Try.ntmps91
      go_wp2_with (go_at_fn 90; refine hcall.out.mono ?_; rintro e w' ⟨rfl, rfl⟩)
      go_ret
      exact ⟨ret_bool (by first | (rw [hw.out]; done) | (rw [hw.out]; simp <;> omega)), rfl⟩
  · have hw : Hid (isOth r = false) := Lib.hid (by simp [isOth, hb])
    replace hb := Lib.hid hb
    go_enter Try.func91, Try.ntmps91
    go_wp2_with (go_at_fn 90; refine hcall.out.mono ?_; rintro e w' ⟨rfl, rfl⟩)
    go_ret
    exact ⟨ret_bool (by first | (rw [hw.out]; done) | (rw [hw.out]; simp <;> omega)), rfl⟩

theorem pred_of {g : Nat} {lb : Array Value} {p : Nat → Bool} {w : World} (h : ∀ (W : World) (r : Nat), Below w.heap.size w W → Calls Try.prog g (#[.int .i32 (r : Int)] ++ lb) W fun e w' => e = .returned (.bool (p r)) ∧ W = w') : PredAt Try.prog g lb encR p w :=
  fun W r hb => (h W r hb).mono fun e w' ⟨he, hw⟩ => ⟨he, 0, hw ▸ rfl⟩

theorem oth_high (r : Nat) (h : 128 ≤ r) : isOth r = true := by
  have h1 : ¬ r ≤ 122 := by omega
  have h2 : ¬ r ≤ 57 := by omega
  have h3 : r ≠ 95 := by omega
  simp [isOth, isLet, h1, h2, h3]
theorem bad_high (r : Nat) (h : 128 ≤ r) : isBad r = true := by
  have h1 : 126 < r := by omega
  simp [isBad, h1]

set_option maxHeartbeats 1600000 in
set_option maxRecDepth 100000 in
theorem checkValue_any (s : ByteArray) (w : World) (hs : s.size ≤ 1000000000000) :
    Calls Try.prog 68 #[.string s] w fun e w' => e = .returned (.int .i64 (valC s)) ∧ Below w.heap.size w w' := by
  by_cases h1 : 120 < s.size
  · have hv : Hid (valC s = 9) := Lib.hid (by simp [valC, h1])
    go_enter Try.func68, Try.ntmps68
    go_wp2
    go_ret
    exact ⟨ret_int hv.out.symm, Below.refl _ _⟩
  · have hcon := Try.strings_ContainsFunc 93 #[] enters_isBad isBad s w (pred_of fun W r _ => isBad_any r W)
    rw [idx_bytes isBad bad_high s] at hcon
    obtain ⟨b, hb⟩ : ∃ b, ((txt s).any fun b => isBad b.toNat) = b := ⟨_, rfl⟩
    rw [hb] at hcon
    have hv : Hid (valC s = if b = true then 8 else 0) := Lib.hid (by simp [valC, h1, hb])
    replace hcon := Lib.hid hcon
    replace hb := Lib.hid hb
    cases b
    all_goals
      go_enter Try.func68, Try.ntmps68
      go_wp2_with (go_at_call 92; refine hcon.out.mono ?_; rintro e w' ⟨rfl, hb2⟩)
      go_ret
      exact ⟨ret_int hv.out.symm, hb2⟩

end Go.Proofs.Ytfkoboljobghkaa
