/-
  Walk: a number written as four bytes.
-/
import Derived.Test.YtfkoboljobghkaaFrEc
set_option linter.unusedSimpArgs false
set_option linter.unusedVariables false
namespace Go.Proofs.Ytfkoboljobghkaa
open Go.RowKit

theorem wbyte_at {B g : Nat} {D : List Int} {b u : Int} {w : World} (h : Wb w B g D []) (hB : B ≤ w.heap.size) (hlen : D.length ≤ 1000000000) (hu : u = b) :
    Calls Try.prog 79 #[.pointer (some ⟨g, 0, none⟩), .int .u8 u] w fun e w' => (∃ v, e = .returned v) ∧ Wb w' B g (D ++ [b]) [] ∧ Kx B g w w' := by
  subst hu
  have := wbyte_to B g D [] u w h hB (by simp; omega)
  rw [pack_nil, List.append_nil] at this
  exact this

theorem word_take (n : Int) : (word n).take 1 = [n / 16777216 % 256] ∧ (word n).take 2 = (word n).take 1 ++ [n / 65536 % 256] ∧ (word n).take 3 = (word n).take 2 ++ [n / 256 % 256] ∧ (word n).take 4 = (word n).take 3 ++ [n % 256] := ⟨rfl, rfl, rfl, rfl⟩

set_option maxHeartbeats 3200000 in
set_option maxRecDepth 100000 in
theorem wnum_any (B g : Nat) (n : Int) (D : List Int) (w : World) (h : Wb w B g D []) (hB : B ≤ w.heap.size) (hlen : D.length ≤ 100000000) (h0 : 0 ≤ n) (h1 : n ≤ 65535) :
    Calls Try.prog 61 #[.pointer (some ⟨g, 0, none⟩), .int .i64 n] w fun e w' => (∃ v, e = .returned v) ∧ Wb w' B g (D ++ word n) [] ∧ Kx B g w w' := by
  obtain ⟨t1, t2, t3, t4⟩ := word_take n
  replace t1 := Lib.hid t1
  replace t2 := Lib.hid t2
  replace t3 := Lib.hid t3
  replace t4 := Lib.hid t4
  replace h := Lib.hid h
  replace hlen := Lib.hid hlen
  go_enter Try.func61, Try.ntmps61
  go_wp2
  go_loopw [4] (fun i wr => ∃ (p : Nat) (z : Int), p ≤ 4 ∧ i = .int .i64 z ∧ z = 24 - 8 * (p : Int) ∧ Hid (Wb wr B g (D ++ (word n).take p) []) ∧ Kx B g w wr) (fun i _ => (intOf i + 8).toNat)
  case atStart => exact ⟨0, 24, by omega, rfl, by simp, Lib.hid (by simpa using h.out), Kx.refl _ _ _⟩
  case round =>
    obtain ⟨p, z, hp, rfl, hz, hW, hKr⟩ := hrel
    have hBr := Nat.le_trans hB hKr.size
    have hll : (D ++ (word n).take p).length ≤ 1000000000 := by have := hlen.out; simp; omega
    have hpc : p = 0 ∨ p = 1 ∨ p = 2 ∨ p = 3 ∨ p = 4 := by omega
    have hcall := Lib.hid (fun (b u : Int) hu => wbyte_at (b := b) (u := u) hW.out hBr hll hu)
    clear hll
    rcases hpc with rfl | rfl | rfl | rfl | rfl
    · obtain rfl : z = 24 := by omega
      clear hz
      go_wp2_with (go_at_call 79; refine (hcall.out (n / 16777216 % 256) (n / 16777216) (by omega)).mono ?_; rintro e w3 ⟨⟨u, rfl⟩, hW3, hK3⟩; replace hW3 := Lib.hid hW3)
      · refine ⟨⟨1, 16, by omega, rfl, by simp, Lib.hid ?_, hKr.trans hK3⟩, by simp [intOf]⟩
        rw [t1.out]
        simpa using hW3.out
    · obtain rfl : z = 16 := by omega
      clear hz
      go_wp2_with (go_at_call 79; refine (hcall.out (n / 65536 % 256) (n / 65536) (by omega)).mono ?_; rintro e w3 ⟨⟨u, rfl⟩, hW3, hK3⟩; replace hW3 := Lib.hid hW3)
      · refine ⟨⟨2, 8, by omega, rfl, by simp, Lib.hid ?_, hKr.trans hK3⟩, by simp [intOf]⟩
        rw [t2.out, ← List.append_assoc]
        exact hW3.out
    · obtain rfl : z = 8 := by omega
      clear hz
      go_wp2_with (go_at_call 79; refine (hcall.out (n / 256 % 256) (n / 256) (by omega)).mono ?_; rintro e w3 ⟨⟨u, rfl⟩, hW3, hK3⟩; replace hW3 := Lib.hid hW3)
      · refine ⟨⟨3, 0, by omega, rfl, by simp, Lib.hid ?_, hKr.trans hK3⟩, by simp [intOf]⟩
        rw [t3.out, ← List.append_assoc]
        exact hW3.out
    · obtain rfl : z = 0 := by omega
      clear hz
      go_wp2_with (go_at_call 79; refine (hcall.out (n % 256) (n % 256) (by omega)).mono ?_; rintro e w3 ⟨⟨u, rfl⟩, hW3, hK3⟩; replace hW3 := Lib.hid hW3)
      · refine ⟨⟨4, -8, by omega, rfl, by simp, Lib.hid ?_, hKr.trans hK3⟩, by simp [intOf]⟩
        rw [t4.out, ← List.append_assoc]
        exact hW3.out
    · obtain rfl : z = -8 := by omega
      clear hz
      replace hW : Hid (Wb wr B g (D ++ word n) []) := hW
      go_wp2
      go_end0
      exact ⟨⟨_, rfl⟩, hW.out, hKr⟩

end Go.Proofs.Ytfkoboljobghkaa
