/-
  Walks: isKey and checkMeta of package frame.
-/
import Derived.Test.YtfkoboljobghkaaFrSk
import Derived.Laws.EntriesVeiled
import Derived.Deep.QuietTactic
import Derived.BigQuiet
import Derived.IntWalk
set_option linter.unusedSimpArgs false
set_option linter.unusedVariables false
namespace Go.Proofs.Ytfkoboljobghkaa
open Go.RowKit Go.Shelf

set_option maxHeartbeats 1600000 in
set_option maxRecDepth 100000 in
theorem isKey_any (s : ByteArray) (w : World) (hs : s.size ≤ 1000000000000) :
    Calls Try.prog 67 #[.string s] w fun e w' => e = .returned (.bool (keyB s)) ∧ Below w.heap.size w w' := by
  have hb0 := (Below.refl w.heap.size w).alloc (Nat.le_refl _) (.cells #[.func (.func 90) #[] #[]] 122)
  have eg := enters_isLet
  have cN : (w.alloc (.cells #[Value.nilFunc] 122)).cell? ⟨w.heap.size, 0, none⟩ = some Value.nilFunc := by simp [go_sem]
  have fN : (w.alloc (.cells #[Value.nilFunc] 122)).frozen? ⟨w.heap.size, 0, none⟩ = false := by simp [go_sem]
  obtain ⟨b1, h1⟩ : ∃ b, win (s.size : Int) 1 24 = b := ⟨_, rfl⟩
  cases b1
  · have hv : Hid (keyB s = false) := Lib.hid (by simp [keyB, h1])
    replace h1 := Lib.hid h1
    go_enter Try.func67, Try.ntmps67
    go_wp2
    go_quiet (first | (go_at_call 53; exact Calls.quiet_of_same ((fwithin_at h1.out _).mono fun _ _ h => ⟨h.1, h.2.symm⟩)) | fail)
    go_wp2
    go_ret
    exact ⟨ret_bool hv.out.symm, below_drewN hb0 _⟩
  · have hsz : 0 < s.size := by have := win_iff.1 h1; omega
    have h1 := Lib.hid h1
    obtain ⟨b2, h2⟩ : ∃ b, isLet (byt s 0) = b := ⟨_, rfl⟩
    have e1 : IntKind.i32.wrap (((s[0]'hsz).toNat : Nat) : Int) = ((byt s 0 : Nat) : Int) := by
      have e0 : byt s 0 = (s[0]'hsz).toNat := by
        unfold byt
        congr 1
        show s.data[0]! = _
        exact getElem!_pos s.data 0 hsz
      have h3 := (s[0]'hsz).toNat_lt
      rw [e0, IntWalk.i32_left, IntWalk.wrap32_in _ (by omega)]
    have e2 : RowKit.wrap32 (((s[0]'hsz).toNat : Nat) : Int) = ((byt s 0 : Nat) : Int) := by rw [← IntWalk.i32_left]; exact e1
    have hcall := Lib.hid (fun W (u : Int) (hu : u = ((byt s 0 : Nat) : Int)) => (hu ▸ isLet_at h2 W : Calls Try.prog 90 #[.int .i32 u] W _))
    replace e1 := Lib.hid e1
    replace e2 := Lib.hid e2
    cases b2
    · have hv : Hid (keyB s = false) := Lib.hid (by simp [keyB, h1.out, h2])
      replace h2 := Lib.hid h2
      go_enter Try.func67, Try.ntmps67
      go_wp2
      go_quiet (first | (go_at_call 53; exact Calls.quiet_of_same ((fwithin_at h1.out _).mono fun _ _ h => ⟨h.1, h.2.symm⟩)) | (go_at_fn 90; exact Calls.quiet_of_same ((hcall.out _ _ (by first | exact e1.out | exact e2.out)).mono fun _ _ h => ⟨h.1, h.2.symm⟩)))
      go_wp2
      go_ret
      exact ⟨ret_bool hv.out.symm, below_drewN hb0 _⟩
    · replace h2 := Lib.hid h2
      have cF : (w.alloc (.cells #[.func (.func 90) #[] #[]] 122)).cell? ⟨w.heap.size, 0, none⟩ = some (.func (.func 90) #[] #[]) := by simp [go_sem]
      have hcon := Try.strings_ContainsFunc 91 #[.pointer (some ⟨w.heap.size, 0, none⟩)] enters_isOth isOth s
        (w.alloc (.cells #[.func (.func 90) #[] #[]] 122)).drew (pred_of fun W r hW => isOth_any r w.heap.size W ((hW.cell (p := ⟨w.heap.size, 0, none⟩) (by simp)).trans cF))
      rw [idx_bytes isOth oth_high s] at hcon
      obtain ⟨b, hb⟩ : ∃ b, ((txt s).any fun b => isOth b.toNat) = b := ⟨_, rfl⟩
      rw [hb] at hcon
      have hv : Hid (keyB s = !b) := Lib.hid (by simp [keyB, h1.out, h2.out, hb])
      replace hb := Lib.hid hb
      replace hcon := Lib.hid hcon
      cases b
      all_goals
        go_enter Try.func67, Try.ntmps67
        go_wp2
        go_region_with (first | (go_at_call 53; refine (fwithin_at h1.out _).mono ?_; rintro e w' ⟨rfl, rfl⟩) | (go_at_fn 90; refine (hcall.out _ _ (by first | exact e1.out | exact e2.out)).mono ?_; rintro e w' ⟨rfl, rfl⟩) | (go_at_call 92; refine hcon.out.mono ?_; rintro e w' ⟨rfl, hb2⟩))
        all_goals
          go_wp2
          go_ret
          exact ⟨ret_bool hv.out.symm, hb0.trans ((undrew hb2).mono (by simp))⟩

end Go.Proofs.Ytfkoboljobghkaa
