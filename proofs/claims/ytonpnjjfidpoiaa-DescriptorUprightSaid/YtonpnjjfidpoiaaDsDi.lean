/-
  Walks: OnesCount64 of math/bits; Distance of package descriptor.
-/
import Derived.Test.YtonpnjjfidpoiaaNbPc
import Derived.Test.YtonpnjjfidpoiaaDsMem
set_option linter.unusedSimpArgs false
set_option linter.unusedVariables false
namespace Go.Proofs.Ytonpnjjfidpoiaa
open Go.RowKit

theorem bits_nat (a : Nat) (ha : a < 2 ^ 64) : (BitVec.ofInt 64 (a : Int)).toNat = a := by
  rw [BitVec.ofInt_natCast, BitVec.toNat_ofNat]; exact Nat.mod_eq_of_lt ha
theorem bits_and (a b : Nat) (ha : a < 2 ^ 64) (hb : b < 2 ^ 64) : bits .and .u64 (a : Int) (b : Int) = ((a &&& b : Nat) : Int) := by
  have hx : a &&& b < 2 ^ 64 := and_lt hb
  show IntKind.u64.wrap ((BitVec.ofInt 64 (a : Int) &&& BitVec.ofInt 64 (b : Int)).toNat : Int) = _
  rw [BitVec.toNat_and, bits_nat a ha, bits_nat b hb, IntKind.wrap_u64]
  omega
theorem bits_xor (a b : Nat) (ha : a < 2 ^ 64) (hb : b < 2 ^ 64) : bits .xor .u64 (a : Int) (b : Int) = ((a ^^^ b : Nat) : Int) := by
  have hx : a ^^^ b < 2 ^ 64 := Nat.xor_lt_two_pow ha hb
  show IntKind.u64.wrap ((BitVec.ofInt 64 (a : Int) ^^^ BitVec.ofInt 64 (b : Int)).toNat : Int) = _
  rw [BitVec.toNat_xor, bits_nat a ha, bits_nat b hb, IntKind.wrap_u64]
  omega
theorem bits_or (a b : Nat) (ha : a < 2 ^ 64) (hb : b < 2 ^ 64) : bits .or .u64 (a : Int) (b : Int) = ((a ||| b : Nat) : Int) := by
  have hx : a ||| b < 2 ^ 64 := Nat.or_lt_two_pow ha hb
  show IntKind.u64.wrap ((BitVec.ofInt 64 (a : Int) ||| BitVec.ofInt 64 (b : Int)).toNat : Int) = _
  rw [BitVec.toNat_or, bits_nat a ha, bits_nat b hb, IntKind.wrap_u64]
  omega

theorem bits_127 {d p : Nat} (h7 : d < 2 ^ 63) (h8 : d % 128 = p) (h9 : p ≤ 64) : bits .and .i64 (wrap64 (d : Int)) 127 = (p : Int) := by
  have hw : wrap64 (d : Int) = (d : Int) := IntWalk.wrap64_in _ (by omega)
  have h2 := bits_nat 127 (by omega)
  have hd := bits_nat d (by omega)
  rw [hw]
  show IntKind.i64.wrap ((BitVec.ofInt 64 (d : Int) &&& BitVec.ofInt 64 ((127 : Nat) : Int)).toNat : Int) = _
  rw [BitVec.toNat_and, hd, h2, and_127, h8, IntWalk.i64_left, IntWalk.wrap64_in _ (by omega)]
theorem ones_any (x : Nat) (hx : x < 2 ^ 64) (w : World) :
    Calls Try.prog 16 #[.int .u64 (x : Int)] w fun e w' => e = .returned (.int .i64 (pc x : Int)) ∧ w = w' := by
  obtain ⟨y, z, v, h1, hy, h2, hz, h4, h3, h5, h6, h7, h8⟩ := ones_spec hx
  obtain ⟨a, ha⟩ : ∃ a, v + v / 256 = a := ⟨_, rfl⟩
  rw [ha] at h5 h6 h7 h8
  obtain ⟨b, hb⟩ : ∃ b, a + a / 65536 = b := ⟨_, rfl⟩
  rw [hb] at h6 h7 h8
  obtain ⟨d, hd⟩ : ∃ d, b + b / 4294967296 = d := ⟨_, rfl⟩
  rw [hd] at h7 h8
  have h9 := pc_le x
  have m1 : m85 < 2 ^ 64 := by decide
  have m2 : m51 < 2 ^ 64 := by decide
  have m3 : m15 < 2 ^ 64 := by decide
  have e1 : IntKind.u64.wrap (bits .and .u64 ((x : Int) / 2) 6148914691236517205 + bits .and .u64 (x : Int) 6148914691236517205) = (y : Int) := by
    have k1 := bits_and (x / 2) m85 (by omega) m1
    have k2 := bits_and x m85 hx m1
    rw [show (((x / 2 : Nat) : Int)) = (x : Int) / 2 from by omega, show ((m85 : Nat) : Int) = 6148914691236517205 from rfl] at k1
    rw [show ((m85 : Nat) : Int) = 6148914691236517205 from rfl] at k2
    rw [k1, k2, IntKind.wrap_u64, ← h1]
    have : s1 x = (x / 2 &&& m85) + (x &&& m85) := rfl
    omega
  have e2 : IntKind.u64.wrap (bits .and .u64 ((y : Int) / 4) 3689348814741910323 + bits .and .u64 (y : Int) 3689348814741910323) = (z : Int) := by
    have k1 := bits_and (y / 4) m51 (by omega) m2
    have k2 := bits_and y m51 hy m2
    rw [show (((y / 4 : Nat) : Int)) = (y : Int) / 4 from by omega, show ((m51 : Nat) : Int) = 3689348814741910323 from rfl] at k1
    rw [show ((m51 : Nat) : Int) = 3689348814741910323 from rfl] at k2
    rw [k1, k2, IntKind.wrap_u64, ← h2]
    have : s2 y = (y / 4 &&& m51) + (y &&& m51) := rfl
    omega
  have e3 : bits .and .u64 (IntKind.u64.wrap ((z : Int) / 16 + (z : Int))) 1085102592571150095 = (v : Int) := by
    have k1 := bits_and (z / 16 + z) m15 h4 m3
    rw [show ((m15 : Nat) : Int) = 1085102592571150095 from rfl] at k1
    rw [show IntKind.u64.wrap ((z : Int) / 16 + (z : Int)) = ((z / 16 + z : Nat) : Int) from by rw [IntKind.wrap_u64]; omega, k1, ← h3]
    rfl
  have e4 : IntKind.u64.wrap ((v : Int) + (v : Int) / 256) = (a : Int) := by rw [IntKind.wrap_u64]; omega
  have e5 : IntKind.u64.wrap ((a : Int) + (a : Int) / 65536) = (b : Int) := by rw [IntKind.wrap_u64]; omega
  have e6 : IntKind.u64.wrap ((b : Int) + (b : Int) / 4294967296) = (d : Int) := by rw [IntKind.wrap_u64]; omega
  have e7 := bits_127 h7 h8 h9
  replace h1 := Lib.hid h1
  replace h2 := Lib.hid h2
  replace h3 := Lib.hid h3
  replace ha := Lib.hid ha
  replace hb := Lib.hid hb
  replace hd := Lib.hid hd
  replace e1 := Lib.hid e1
  replace e2 := Lib.hid e2
  replace e3 := Lib.hid e3
  replace e4 := Lib.hid e4
  replace e5 := Lib.hid e5
  replace e6 := Lib.hid e6
  replace e7 := Lib.hid e7
  go_enter Try.func16, Try.ntmps16
  go_wp2
  go_ret
  refine ⟨congrArg Ending.returned (congrArg (Value.int .i64) ?_), rfl⟩
  simp only [e1.out, e2.out, e3.out, e4.out, e5.out, e6.out]
  exact e7.out

theorem Distance_any (x y : Nat) (hx : x < 2 ^ 64) (hy : y < 2 ^ 64) (w : World) {d : Nat} (hd : dst x y = d) :
    Calls Try.prog 15 #[.int .u64 (x : Int), .int .u64 (y : Int)] w fun e w' => e = .returned (.int .i64 (d : Int)) ∧ w = w' := by
  have hb := bits_xor x y hx hy
  have hc := ones_any (x ^^^ y) (Nat.xor_lt_two_pow hx hy)
  rw [show pc (x ^^^ y) = d from hd, ← hb] at hc
  clear hb
  replace hc := Lib.hid hc
  go_enter Try.func15, Try.ntmps15
  go_wp2_with (go_at_call 16; refine (hc.out _).mono ?_; rintro e w' ⟨rfl, rfl⟩)
  go_ret
  exact ⟨rfl, rfl⟩

end Go.Proofs.Ytonpnjjfidpoiaa
