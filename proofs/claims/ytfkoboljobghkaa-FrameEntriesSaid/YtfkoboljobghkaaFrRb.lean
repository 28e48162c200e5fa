/-
  Walks: a reader's bit.
-/
import Derived.Test.YtfkoboljobghkaaFrRd
import Derived.BigQuiet
import Derived.Deep.QuietTactic
set_option linter.unusedSimpArgs false
set_option linter.unusedVariables false
namespace Go.Proofs.Ytfkoboljobghkaa
open Go.RowKit

theorem and_one8 {z : Int} (h : 0 ≤ z) (h2 : z ≤ 255) : bits .and .u8 z 1 = z % 2 := by
  obtain ⟨a, rfl⟩ : ∃ a : Nat, z = (a : Int) := ⟨z.toNat, by omega⟩
  have h1 : (BitVec.ofInt 8 (a : Int)).toNat = a := by
    rw [BitVec.ofInt_natCast, BitVec.toNat_ofNat]; exact Nat.mod_eq_of_lt (by omega)
  have h2 : (BitVec.ofInt 8 (1 : Int)).toNat = 1 := rfl
  show IntKind.u8.wrap ((BitVec.ofInt 8 (a : Int) &&& BitVec.ofInt 8 (1 : Int)).toNat : Int) = _
  rw [BitVec.toNat_and, h1, h2, Nat.and_one_is_mod, IntKind.wrap_u8]
  omega

/-- A reader of which bits are left. -/
theorem Rd.more {w : World} {g : Nat} {s : RS} (h : Rd w g s) (h0 : s.left ≠ 0) : s.full = s := by unfold RS.full; rw [if_neg h0]

set_option maxHeartbeats 3200000 in
set_option maxRecDepth 100000 in
theorem rbit_any (g : Nat) (s : RS) (w : World) (h : Rd w g s) :
    Calls Try.prog 99 #[.pointer (some ⟨g, 0, none⟩)] w fun e w' => e = .returned (.int .i64 s.bit) ∧ Rd w' g s.next ∧ Only w w' g := by
  by_cases h0 : s.left = 0
  · have hcall := Lib.hid (rbyte_any g s w h)
    have hfull : s.full = ⟨s.R.drop 1, nth s.R 0, 8⟩ := by unfold RS.full; rw [if_pos h0]
    obtain ⟨x, hx⟩ : ∃ x, nth s.R 0 = x := ⟨_, rfl⟩
    have hnext : Hid (s.next = ⟨s.R.drop 1, x, 7⟩) := Lib.hid (by unfold RS.next; rw [hfull, hx]; rfl)
    have hbit : Hid (s.bit = x / 128 % 2) := Lib.hid (by unfold RS.bit; rw [hnext.out]; rfl)
    have hbyte : Hid (s.byte = ⟨s.R.drop 1, x, 0⟩) := Lib.hid (by unfold RS.byte; rw [hx])
    obtain ⟨A, n, c, hbox, hs, hne, hby, hla, hle⟩ := h
    have hxr := hby.nth 0
    rw [hx] at hxr
    obtain ⟨⟨d0, d1, d2⟩, f0, f1, f2⟩ := box3 hbox
    rw [h0] at d2
    have hand : bits .and .u8 (x / 128) 1 = x / 128 % 2 := and_one8 (by omega) (by omega)
    replace hand := Lib.hid hand
    replace hx := Lib.hid hx
    replace hfull := Lib.hid hfull
    replace h0 := Lib.hid h0
    go_enter Try.func99, Try.ntmps99
    go_wp2_with (go_at_call 97; refine hcall.out.mono ?_; rintro e w2 ⟨rfl, hR2, hO2⟩; rw [hbyte.out] at hR2; obtain ⟨A2, n2, c2, hbox2, hs2, hne2, hby2, hla2, hle2⟩ := hR2; obtain ⟨⟨d0, d1, d2⟩, f0, f1, f2⟩ := box3 hbox2)
    have q1 := (set3 (set3 hbox2 (.int .i64 8)).2.2 (.int .i64 7)).2.2
    go_quiet (fail)
    go_wp2
    go_ret
    have hO3 : Only w ((w2.setCell ⟨g, 2, none⟩ (.int .i64 8)).setCell ⟨g, 2, none⟩ (.int .i64 7)) g := (hO2.setCell rfl _).setCell rfl _
    have hO4 : Only w2 ((w2.setCell ⟨g, 2, none⟩ (.int .i64 8)).setCell ⟨g, 2, none⟩ (.int .i64 7)) g := ((Only.refl w2 g).setCell rfl _).setCell rfl _
    refine ⟨?_, ?_, hO3.drewN _⟩
    · show Ending.returned (.int .i64 (wrap64 (bits .and .u8 (x / 128) 1))) = _
      rw [hbit.out, hand.out, IntWalk.wrap64_in _ (by omega)]
    · rw [hnext.out]
      exact ⟨A2, n2, c2, q1, hs2.only (hO4.drewN _) (fun h0 b o e => Nat.ne_of_lt (hne2 h0 b o e)), hne2, hby2, hla2, by show 7 ≤ 8; omega⟩
  · have hfull : s.full = s := by unfold RS.full; rw [if_neg h0]
    obtain ⟨f, hf⟩ : ∃ f, s.left = f + 1 := ⟨s.left - 1, by omega⟩
    obtain ⟨x, hx⟩ : ∃ x, s.last = x := ⟨_, rfl⟩
    have hnext : Hid (s.next = ⟨s.R, x, f⟩) := Lib.hid (by unfold RS.next; rw [hfull, hf, hx]; rfl)
    have hbit : Hid (s.bit = x / (2 : Int) ^ f % 2) := Lib.hid (by unfold RS.bit; rw [hnext.out, shr_pow])
    obtain ⟨A, n, c, hbox, hs, hne, hby, hla, hle⟩ := h
    rw [hf, hx] at hbox
    rw [hx] at hla
    rw [hf] at hle
    obtain ⟨⟨d0, d1, d2⟩, f0, f1, f2⟩ := box3 hbox
    have hsr := shr_range hla.1 f
    have hand : bits .and .u8 (x / (2 : Int) ^ f) 1 = x / (2 : Int) ^ f % 2 := and_one8 hsr.1 (by omega)
    have q1 := (set3 hbox (.int .i64 (f : Int))).2.2
    have hO : Only w (w.setCell ⟨g, 2, none⟩ (.int .i64 (f : Int))) g := (Only.refl w g).setCell rfl _
    replace hand := Lib.hid hand
    replace hx := Lib.hid hx
    replace hfull := Lib.hid hfull
    replace h0 := Lib.hid h0
    replace hf := Lib.hid hf
    go_enter Try.func99, Try.ntmps99
    go_wp2
    go_quiet (fail)
    go_wp2
    go_ret
    refine ⟨?_, ?_, hO.drewN _⟩
    · show Ending.returned (.int .i64 (wrap64 (bits .and .u8 (x / (2 : Int) ^ f) 1))) = _
      rw [hbit.out, hand.out, IntWalk.wrap64_in _ (by omega)]
    · rw [hnext.out]
      exact ⟨A, n, c, q1, hs.only (hO.drewN _) (fun h0 b o e => Nat.ne_of_lt (hne h0 b o e)), hne, hby, hla, by show f ≤ 8; omega⟩

theorem enters_rbit : ∀ args w, (callFunc 99 args).run Try.prog w = .ok (.enter 99 args) w := enters_of Try.func99 (by kernel_rfl) rfl

/-- Bits that are left; behind the end there are zeros. -/
def RS.room (s : RS) : Nat := s.left + 8 * s.R.length
theorem RS.bit_end {s : RS} (h : s.room = 0) : s.bit = 0 ∧ s.next.R = [] ∧ s.next.last = 0 := by
  have h1 : s.left = 0 := by unfold RS.room at h; omega
  have h2 : s.R = [] := List.length_eq_zero_iff.1 (by unfold RS.room at h; omega)
  have hf : s.full = ⟨[], 0, 8⟩ := by unfold RS.full; rw [if_pos h1, h2]; rfl
  unfold RS.bit RS.next
  rw [hf]
  exact ⟨by decide, rfl, rfl⟩
theorem RS.room_next (s : RS) : s.room ≠ 0 → s.next.room = s.room - 1 := by
  intro h
  unfold RS.room RS.next RS.full at *
  by_cases h1 : s.left = 0
  · rw [if_pos h1]
    have h2 : s.R ≠ [] := fun e => by rw [e, h1] at h; simp at h
    have h3 : 0 < s.R.length := List.length_pos_iff.2 h2
    simp only [List.length_drop]
    omega
  · rw [if_neg h1]
    simp only
    omega

/-- How many bits 1 come next, and what is left behind the bit 0. -/
def ones : Nat → RS → Nat × RS
  | 0, s => (0, s.next)
  | f + 1, s => if s.bit = 1 then ((ones f s.next).1 + 1, (ones f s.next).2) else (0, s.next)
theorem ones_one {s : RS} (h : s.bit = 1) : s.room ≠ 0 ∧ ones s.room s = ((ones s.next.room s.next).1 + 1, (ones s.next.room s.next).2) := by
  have h0 : s.room ≠ 0 := fun e => by have := (RS.bit_end e).1; omega
  refine ⟨h0, ?_⟩
  obtain ⟨r, hr⟩ : ∃ r, s.room = r + 1 := ⟨s.room - 1, by omega⟩
  rw [RS.room_next s h0, hr, Nat.add_sub_cancel]
  show (if s.bit = 1 then _ else _) = _
  rw [if_pos h]
theorem ones_none {s : RS} (h : s.bit ≠ 1) : ones s.room s = (0, s.next) := by
  cases hr : s.room with
  | zero => rfl
  | succ r =>
    show (if s.bit = 1 then _ else _) = _
    rw [if_neg h]
/-- A number with the next bit behind it. -/
def shb (v b : Int) : Int := bits .or .i64 (wrap64 (v * 2)) b
def lows : Nat → Int → RS → Int × RS
  | 0, v, s => (v, s)
  | k + 1, v, s => lows k (shb v s.bit) s.next
/-- The number whose code comes next. -/
def deco (k : Nat) (s : RS) : Int × RS := lows k (ones s.room s).1 (ones s.room s).2

end Go.Proofs.Ytfkoboljobghkaa
