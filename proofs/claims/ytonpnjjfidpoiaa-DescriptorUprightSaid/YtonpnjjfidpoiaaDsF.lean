/-
  Walks: Describe of package descriptor; known of the law.
-/
import Derived.Test.YtonpnjjfidpoiaaDsE
import Derived.Test.YtonpnjjfidpoiaaDsDi
set_option linter.unusedSimpArgs false
set_option linter.unusedVariables false
namespace Go.Proofs.Ytonpnjjfidpoiaa
open Go.RowKit

/-- A word and a code. -/
def RetU (w : World) (u k : Int) (e : Ending) (w' : World) : Prop := e = .returned (.tuple #[.int .u64 u, .int .i64 k]) ∧ Below w.heap.size w w'

theorem Describe_bad (W H M : Int) (A : Option Addr) (n c : Nat) (P : List Int) (A2 : Option Addr) (n2 c2 : Nat) (l : List Tst) (x y : Int) (w : World) (h : Sl w A n c P) (h2 : PS w A2 n2 c2 l) (hr : rcode W H M P l = 1) :
    Calls Try.prog 18 #[.agg #[.int .i64 W, .int .i64 H, .int .i64 M, .slice A n c], .slice A2 n2 c2, .int .i64 x, .int .i64 y] w (RetU w 0 1) := by
  have hB := (Below.refl w.heap.size w).alloc (Nat.le_refl _) (.cells #[.int .i64 W, .int .i64 H, .int .i64 M, .slice A n c] 37)
  have hck := checked_any W H M A n c P A2 n2 c2 l _ (h.alloc (.cells #[.int .i64 W, .int .i64 H, .int .i64 M, .slice A n c] 37)) (h2.alloc (.cells #[.int .i64 W, .int .i64 H, .int .i64 M, .slice A n c] 37))
  rw [hr] at hck
  replace hck := Lib.hid hck
  clear h h2 hr
  go_enter Try.func18, Try.ntmps18
  go_wp2_with (go_at_call 40; refine hck.out.mono ?_; rintro e w1 ⟨rfl, hb1⟩; simp only [World.size_alloc] at hb1)
  go_ret2
  exact ⟨rfl, hB.trans (hb1.mono (by omega))⟩

theorem Describe_out (a b : Nat) (M : Int) (A : Option Addr) (n c : Nat) (P : List Int) (A2 : Option Addr) (n2 c2 : Nat) (l : List Tst) (x y : Int) (w : World) (h : Sl w A n c P) (h2 : PS w A2 n2 c2 l) (hr : Ras a b M P) (hp : pat l = true) (hi : ins a b x y = false) :
    Calls Try.prog 18 #[.agg #[.int .i64 a, .int .i64 b, .int .i64 M, .slice A n c], .slice A2 n2 c2, .int .i64 x, .int .i64 y] w (RetU w 0 2) := by
  have hB := (Below.refl w.heap.size w).alloc (Nat.le_refl _) (.cells #[.int .i64 a, .int .i64 b, .int .i64 M, .slice A n c] 37)
  have k0 : KB _ _ _ _ := KB.new w #[.int .i64 a, .int .i64 b, .int .i64 M, .slice A n c] 37
  have hck := checked_any a b M A n c P A2 n2 c2 l _ (h.alloc (.cells #[.int .i64 a, .int .i64 b, .int .i64 M, .slice A n c] 37)) (h2.alloc (.cells #[.int .i64 a, .int .i64 b, .int .i64 M, .slice A n c] 37))
  rw [rcode_ok hr hp] at hck
  replace hck := Lib.hid hck
  obtain ⟨hw1, hw2, -⟩ := hr.1
  replace hi := Lib.hid hi
  clear h h2 hr hp
  go_enter Try.func18, Try.ntmps18
  go_wp2_with (first | (go_at_call 40; refine hck.out.mono ?_; rintro e w1 ⟨rfl, hb1⟩; simp only [World.size_alloc] at hb1; have zz1 := hb1.size; (try simp only [World.size_alloc] at zz1); have k1 := k0.below hb1 (by omega); have c0 := k1.cell 0 rfl; have c1 := k1.cell 1 rfl; have c2 := k1.cell 2 rfl; have c3 := k1.cell 3 rfl) | (go_at_call 41; refine (disPixel_at hi.out hw1 hw2).mono ?_; rintro e w2 ⟨rfl, hb2⟩))
  go_ret2
  exact ⟨rfl, (hB.trans (hb1.mono (by omega))).trans (hb2.mono (by omega))⟩

set_option maxHeartbeats 1600000 in
theorem Describe_in (a b : Nat) (M : Int) (A : Option Addr) (n c : Nat) (P : List Int) (A2 : Option Addr) (n2 c2 : Nat) (l : List Tst) (x y : Int) (w : World) (h : Sl w A n c P) (h2 : PS w A2 n2 c2 l) (hr : Ras a b M P) (hp : pat l = true) (hi : ins a b x y = true)
    {u k : Int} (hR1 : pfit a b l x y = true → u = (wordOf P a l x y : Int) ∧ k = 0) (hR0 : pfit a b l x y = false → u = 0 ∧ k = 15) :
    Calls Try.prog 18 #[.agg #[.int .i64 a, .int .i64 b, .int .i64 M, .slice A n c], .slice A2 n2 c2, .int .i64 x, .int .i64 y] w (RetU w u k) := by
  have hB := (Below.refl w.heap.size w).alloc (Nat.le_refl _) (.cells #[.int .i64 a, .int .i64 b, .int .i64 M, .slice A n c] 37)
  have k0 : KB _ _ _ _ := KB.new w #[.int .i64 a, .int .i64 b, .int .i64 M, .slice A n c] 37
  have hs := Lib.hid (h.alloc (.cells #[.int .i64 a, .int .i64 b, .int .i64 M, .slice A n c] 37))
  have ht := Lib.hid (h2.alloc (.cells #[.int .i64 a, .int .i64 b, .int .i64 M, .slice A n c] 37))
  have hck := checked_any a b M A n c P A2 n2 c2 l _ hs.out ht.out
  rw [rcode_ok hr hp] at hck
  replace hck := Lib.hid hck
  obtain ⟨hw1, hw2, hw3⟩ := hr.1
  obtain ⟨⟨i1, i2⟩, i3, i4⟩ := ins_iff.1 hi
  have hx : 0 ≤ x ∧ x < 64 := ⟨i1, by omega⟩
  have hy : 0 ≤ y ∧ y < 64 := ⟨i3, by omega⟩
  have ha : a ≤ 64 := by omega
  have hb : b ≤ 64 := by omega
  replace hi := Lib.hid hi
  replace hr := Lib.hid hr
  replace hp := Lib.hid hp
  have hR1' : Hid (pfit a b l x y = true → Value.tuple #[.int .u64 u, .int .i64 k] = .tuple #[.int .u64 (wordOf P a l x y : Int), .int .i64 0]) := Lib.hid fun e => by rw [(hR1 e).1, (hR1 e).2]
  have hR0' : Hid (pfit a b l x y = false → Value.tuple #[.int .u64 u, .int .i64 k] = .tuple #[.int .u64 0, .int .i64 15]) := Lib.hid fun e => by rw [(hR0 e).1, (hR0 e).2]
  clear h h2 hR1 hR0 i1 i2 i3 i4
  replace hx := Lib.hid hx
  replace hy := Lib.hid hy
  go_enter Try.func18, Try.ntmps18
  go_wp2_with (first | (go_at_call 40; refine hck.out.mono ?_; rintro e w1 ⟨rfl, hb1⟩; simp only [World.size_alloc] at hb1; have zz1 := hb1.size; (try simp only [World.size_alloc] at zz1); have k1 := k0.below hb1 (by omega); replace hs := Lib.hid (hs.out.below hb1 (by simp)); replace ht := Lib.hid (ht.out.below hb1 (by simp)); have c0 := k1.cell 0 rfl; have c1 := k1.cell 1 rfl; have c2 := k1.cell 2 rfl; have c3 := k1.cell 3 rfl) | (go_at_call 41; refine (disPixel_at hi.out hw1 hw2).mono ?_; rintro e w2 ⟨rfl, hb2⟩; have zz2 := hb2.size; have k2 := k1.below hb2 (by omega); replace hs := Lib.hid (hs.out.below hb2 (Nat.le_refl _)); replace ht := Lib.hid (ht.out.below hb2 (Nat.le_refl _)); clear c0 c1 c2 c3; have d0 := k2.cell 0 rfl; have d1 := k2.cell 1 rfl; have d2 := k2.cell 2 rfl; have d3 := k2.cell 3 rfl) | (go_at_call 42; refine (sumsOf_any a b M A n c P _ hs.out hr.out).mono ?_; rintro e w3 ⟨T, rfl, hT, hb3⟩; have zz3 := hb3.size; replace ht := Lib.hid (ht.out.below hb3 (Nat.le_refl _)); replace hT := Lib.hid hT) | (go_at_call 43; refine (sword_at T a b P M A2 n2 c2 l ha hb ⟨by omega, by omega⟩ hr.out.2.2 hT.out ht.out hp.out hx.out hy.out hR1'.out hR0'.out).mono ?_; rintro e w4 ⟨rfl, hb4⟩))
  go_ret2
  exact ⟨rfl, (((hB.trans (hb1.mono (by omega))).trans (hb2.mono (by omega))).trans (hb3.mono (by omega))).trans (hb4.mono (by omega))⟩

theorem dDist_any (x y : Nat) (hx : x < 2 ^ 64) (hy : y < 2 ^ 64) (w : World) {d : Nat} (hd : dst x y = d) :
    Calls Try.prog 15 #[.int .u64 (x : Int), .int .u64 (y : Int)] w fun e w' => e = .returned (.int .i64 (d : Int)) ∧ w = w' := Distance_any x y hx hy w hd

def kP : List Int := [1, 5, 5]
def kL : List Tst := [((0, 0, 1, 1), 1, 0, 1, 1)]
theorem kRas : Ras (3 : Nat) (1 : Nat) 9 kP := ⟨⟨⟨by omega, by omega⟩, ⟨by omega, by omega⟩, by omega, by omega⟩, by decide, by decide⟩
theorem kPat : pat kL = true := by decide
theorem kPs (W : World) : PS (W.alloc (.cells #[.int .i64 0, .int .i64 0, .int .i64 1, .int .i64 1, .int .i64 1, .int .i64 0, .int .i64 1, .int .i64 1] 30)) (some ⟨W.heap.size, 0, none⟩) 1 1 kL := PS.lit W kL 30 (by decide)
theorem kSl (W : World) : Sl (W.alloc (.cells #[.int .i64 1, .int .i64 5, .int .i64 5] 3)) (some ⟨W.heap.size, 0, none⟩) 3 3 kP := by
  have := Bl.new W kP
  exact this.sl (off := 0) (n := 3) (by decide) (by omega) (by omega)
theorem kD0 {A A2 : Option Addr} {w : World} (h : Sl w A 3 3 kP) (h2 : PS w A2 1 1 kL) : Calls Try.prog 18 #[.agg #[.int .i64 3, .int .i64 1, .int .i64 9, .slice A 3 3], .slice A2 1 1, .int .i64 0, .int .i64 0] w (RetU w 1 0) :=
  Describe_in 3 1 9 A 3 3 kP A2 1 1 kL 0 0 w h h2 kRas kPat (by decide) (fun _ => ⟨by decide +kernel, rfl⟩) (fun e => absurd e (by decide +kernel))
theorem kD1 {A A2 : Option Addr} {w : World} (h : Sl w A 3 3 kP) (h2 : PS w A2 1 1 kL) : Calls Try.prog 18 #[.agg #[.int .i64 3, .int .i64 1, .int .i64 9, .slice A 3 3], .slice A2 1 1, .int .i64 1, .int .i64 0] w (RetU w 0 0) :=
  Describe_in 3 1 9 A 3 3 kP A2 1 1 kL 1 0 w h h2 kRas kPat (by decide) (fun _ => ⟨by decide +kernel, rfl⟩) (fun e => absurd e (by decide +kernel))
theorem kD2 {A A2 : Option Addr} {w : World} (h : Sl w A 3 3 kP) (h2 : PS w A2 1 1 kL) : Calls Try.prog 18 #[.agg #[.int .i64 3, .int .i64 1, .int .i64 9, .slice A 3 3], .slice A2 1 1, .int .i64 2, .int .i64 0] w (RetU w 0 15) :=
  Describe_in 3 1 9 A 3 3 kP A2 1 1 kL 2 0 w h h2 kRas kPat (by decide) (fun e => absurd e (by decide +kernel)) (fun _ => ⟨rfl, rfl⟩)
theorem kDist (w : World) : Calls Try.prog 15 #[.int .u64 5, .int .u64 6] w fun e w' => e = .returned (.int .i64 2) ∧ w = w' := Distance_any 5 6 (by omega) (by omega) w (d := 2) (by decide +kernel)

set_option maxRecDepth 100000 in
set_option maxHeartbeats 800000 in
theorem known_any (w : World) :
    Calls Try.prog 11 #[] w fun e w' => e = .returned (.bool true) ∧ Below w.heap.size w w' := by
  have tok1 : True := trivial
  have tok2 : True := trivial
  obtain ⟨w2, hw2⟩ : ∃ w2, ((w.alloc (.cells #[.int .i64 1, .int .i64 5, .int .i64 5] 3)).alloc (.cells #[.int .i64 3, .int .i64 1, .int .i64 9, .slice (some ⟨w.heap.size, 0, none⟩) 3 3] 37)).alloc (.cells #[.int .i64 0, .int .i64 0, .int .i64 1, .int .i64 1, .int .i64 1, .int .i64 0, .int .i64 1, .int .i64 1] 30) = w2 := ⟨_, rfl⟩
  have hs2 : Sl w2 (some ⟨w.heap.size, 0, none⟩) 3 3 kP := by rw [← hw2]; exact ((kSl w).alloc _).alloc _
  have hp2 : PS w2 (some ⟨w.heap.size + 1 + 1, 0, none⟩) 1 1 kL := by
    rw [← hw2]
    have := kPs ((w.alloc (.cells #[.int .i64 1, .int .i64 5, .int .i64 5] 3)).alloc (.cells #[.int .i64 3, .int .i64 1, .int .i64 9, .slice (some ⟨w.heap.size, 0, none⟩) 3 3] 37))
    simpa using this
  have k0 : KB w2 (w.heap.size + 1) #[.int .i64 3, .int .i64 1, .int .i64 9, .slice (some ⟨w.heap.size, 0, none⟩) 3 3] 37 := by
    rw [← hw2]
    have := (KB.new (w.alloc (.cells #[.int .i64 1, .int .i64 5, .int .i64 5] 3)) #[.int .i64 3, .int .i64 1, .int .i64 9, .slice (some ⟨w.heap.size, 0, none⟩) 3 3] 37).alloc (.cells #[.int .i64 0, .int .i64 0, .int .i64 1, .int .i64 1, .int .i64 1, .int .i64 0, .int .i64 1, .int .i64 1] 30)
    simpa using this
  have hB2 : Below w.heap.size w w2 := by rw [← hw2]; exact (((Below.refl _ w).alloc (Nat.le_refl _) _).alloc (by simp) _).alloc (by simp <;> omega) _
  have z2 : w2.heap.size = w.heap.size + 1 + 1 + 1 := by rw [← hw2]; simp
  have c0 := k0.cell 0 rfl
  have c1 := k0.cell 1 rfl
  have c2 := k0.cell 2 rfl
  have c3 := k0.cell 3 rfl
  replace hs2 := Lib.hid hs2
  replace hp2 := Lib.hid hp2
  go_enter Try.func11, Try.ntmps11
  go_wp2_with (first
    | (go_at_call 18; clear tok1; refine (kD0 hs2.out hp2.out).mono ?_; rintro e w3 ⟨rfl, hb3⟩; have zz3 := hb3.size; have k3 := k0.below hb3 (by omega); have hs3 := Lib.hid (hs2.out.below hb3 (Nat.le_refl _)); have hp3 := Lib.hid (hp2.out.below hb3 (Nat.le_refl _)); have hB3 := hB2.trans (hb3.mono (by omega)); clear c0 c1 c2 c3; have c0 := k3.cell 0 rfl; have c1 := k3.cell 1 rfl; have c2 := k3.cell 2 rfl; have c3 := k3.cell 3 rfl)
    | (go_at_call 18; clear tok2; refine (kD1 hs3.out hp3.out).mono ?_; rintro e w4 ⟨rfl, hb4⟩; have zz4 := hb4.size; have k4 := k3.below hb4 (by omega); have hs4 := Lib.hid (hs3.out.below hb4 (Nat.le_refl _)); have hp4 := Lib.hid (hp3.out.below hb4 (Nat.le_refl _)); have hB4 := hB3.trans (hb4.mono (by omega)); clear c0 c1 c2 c3; have c0 := k4.cell 0 rfl; have c1 := k4.cell 1 rfl; have c2 := k4.cell 2 rfl; have c3 := k4.cell 3 rfl)
    | (go_at_call 18; refine (kD2 hs4.out hp4.out).mono ?_; rintro e w5 ⟨rfl, hb5⟩; have hB5 := hB4.trans (hb5.mono (by omega)))
    | (go_at_call 15; refine (kDist _).mono ?_; rintro e w6 ⟨rfl, rfl⟩))
  go_ret
  exact ⟨rfl, hB5⟩

end Go.Proofs.Ytonpnjjfidpoiaa
