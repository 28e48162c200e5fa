/-
  Walk: Parse of package integer.
-/
import Derived.Test.YtalbdjnanmcoeaaDoorRd
import Derived.Test.YtalbdjnanmcoeaaDoorF
import Derived.Laws.ResultCell
namespace Go.Proofs.YtalbdjnanmcoeaaDoor
open Go.RowKit Num

/-- What Parse answers for a text: the code and the integer. -/
def PC (bs : List UInt8) (c z : Int) : Prop :=
  (2001 < bs.length ∧ c = 9 ∧ z = 0) ∨ (bs.length ≤ 2001 ∧ ¬ Dec bs ∧ c = 8 ∧ z = 0) ∨
  (bs.length ≤ 2001 ∧ Dec bs ∧ 2000 < (nbs bs).length ∧ c = 9 ∧ z = 0) ∨ (bs.length ≤ 2001 ∧ Dec bs ∧ (nbs bs).length ≤ 2000 ∧ c = 0 ∧ z = zOf bs)
theorem PC.ex (bs : List UInt8) : ∃ c z, PC bs c z := by
  by_cases h1 : 2001 < bs.length
  · exact ⟨9, 0, .inl ⟨h1, rfl, rfl⟩⟩
  · by_cases h2 : Dec bs
    · by_cases h3 : 2000 < (nbs bs).length
      · exact ⟨9, 0, .inr (.inr (.inl ⟨by omega, h2, h3, rfl, rfl⟩))⟩
      · exact ⟨0, zOf bs, .inr (.inr (.inr ⟨by omega, h2, by omega, rfl, rfl⟩))⟩
    · exact ⟨8, 0, .inr (.inl ⟨by omega, h2, rfl, rfl⟩)⟩
theorem PC.ok {bs : List UInt8} {z : Int} (h : PC bs 0 z) : Dec bs ∧ z = zOf bs := by
  rcases h with ⟨_, h, _⟩ | ⟨_, _, h, _⟩ | ⟨_, _, _, h, _⟩ | ⟨_, h, _, _, h2⟩
  · cases h
  · cases h
  · cases h
  · exact ⟨h, h2⟩

/-- The call returns an integer and a code. -/
def RetC (w : World) (z c : Int) (k : Nat) (e : Ending) (w' : World) : Prop :=
  ∃ neg A n cc, e = .returned (.tuple #[.agg #[.bool neg, .slice A n cc], .int .i64 c]) ∧ II w' neg A n cc z k ∧ Below w.heap.size w w'
theorem RetC.close {w w2 : World} {neg : Bool} {A : Option Addr} {n c k g : Nat} {z cd : Int} (hi : II w2 neg A n c z k) (hB : Below w.heap.size w w2) (hg : w.heap.size ≤ g)
    (h0 : w2.cell? ⟨g, 0, none⟩ = some (.bool false)) (h1 : w2.cell? ⟨g, 1, none⟩ = some (.slice none 0 0)) :
    RetC w z cd k (.returned (.tuple #[.agg #[.bool neg, .slice A n c], .int .i64 cd])) ((w2.setCell ⟨g, 0, none⟩ (.bool neg)).setCell ⟨g, 1, none⟩ (.slice A n c)) := by
  obtain ⟨neg', A', n', c', he, hi', hB'⟩ := RetZ.close0 (w := w) hi hB hg h0 h1
  injection he with he
  injection he with he
  simp at he
  obtain ⟨rfl, rfl, rfl, rfl⟩ := he
  exact ⟨_, _, _, _, rfl, hi', hB'⟩

theorem str_tail (bs : List UInt8) : (ByteArray.mk bs.toArray).extract 1 bs.length = ⟨bs.tail.toArray⟩ := by
  rw [ByteArray.extract_mk, List.drop_one, List.take_of_length_le (by simp)]

theorem int_lt {m : Nat} (h : 2000 < m) : (2000 : Int) < (m : Int) := by omega
theorem int_nlt {m : Nat} (h : m ≤ 2000) : ¬ (2000 : Int) < (m : Int) := by omega

/-- The beginning of a text. -/
theorem start_cases (bs : List UInt8) : (bs.length = 0 ∧ ngs bs = false ∧ nbs bs = bs) ∨ (0 < bs.length ∧ byt bs 0 = 45 ∧ ngs bs = true ∧ nbs bs = bs.tail) ∨ (0 < bs.length ∧ byt bs 0 ≠ 45 ∧ ngs bs = false ∧ nbs bs = bs) := by
  by_cases h0 : bs = []
  · subst h0; exact .inl ⟨rfl, rfl, rfl⟩
  · have hl := List.length_pos_iff.2 h0
    have hh := head_byt h0 (c := 45)
    by_cases hc : byt bs 0 = 45
    · have e : ngs bs = true := by unfold ngs; rw [hh.2 hc]; rfl
      exact .inr (.inl ⟨hl, hc, e, by unfold nbs; rw [e]; rfl⟩)
    · have e : ngs bs = false := by
        unfold ngs
        rw [beq_eq_false_iff_ne]
        intro e
        exact hc (hh.1 e)
      exact .inr (.inr ⟨hl, hc, e, by unfold nbs; rw [e]; rfl⟩)

set_option maxRecDepth 100000 in
set_option maxHeartbeats 1600000 in
/-- Parse, the text too long. -/
theorem Parse_long (s : ByteArray) (n : Nat) (w : World) (hsz : s.size = n) (hbI : (2001 : Int) < (n : Int)) :
    Calls Tryd.prog 42 #[.string s] w (RetC w 0 9 223) := by
  have hb1 := (Below.refl w.heap.size w).alloc (Nat.le_refl _) (.cells #[.bool false, .slice none 0 0] 24)
  go_enter Tryd.func42, Tryd.ntmps42
  go_wp2
  refine bodyPost_ret (v := .tuple #[.agg #[.bool false, .slice none 0 0], .int .i64 9]) (by simp [results, Tryd.results42, go_sem]) rfl ?_
  exact ⟨false, none, 0, 0, rfl, II.zero _ _, by repeat (first | exact below_drewN hb1 _ | exact hb1 | refine Below.setCell ?_ (by first | (dsimp only; omega) | (simp <;> omega)) _)⟩
set_option maxRecDepth 100000 in
set_option maxHeartbeats 1600000 in
/-- Parse of nothing. -/
theorem Parse_none (s : ByteArray) (w : World) (hsz : s.size = 0) (hnum : ∀ w, Calls Tryd.prog 76 #[.string s] w (RetB w False)) :
    Calls Tryd.prog 42 #[.string s] w (RetC w 0 8 223) := by
  have hb1 := (Below.refl w.heap.size w).alloc (Nat.le_refl _) (.cells #[.bool false, .slice none 0 0] 24)
  have hN := Lib.hid (show ¬ False from fun h => h)
  go_enter Tryd.func42, Tryd.ntmps42
  go_wp2_with (go_at_call 76; refine (hnum _).mono ?_; rintro e w1 ⟨b, rfl, hb, q, rfl⟩; obtain rfl : b = false := (by cases b with | false => rfl | true => exact absurd (hb.1 rfl) hN.out); clear hb)
  refine bodyPost_ret (v := .tuple #[.agg #[.bool false, .slice none 0 0], .int .i64 8]) (by simp [results, Tryd.results42, go_sem]) rfl ?_
  exact ⟨false, none, 0, 0, rfl, II.zero _ _, by repeat (first | exact below_drewN hb1 _ | exact hb1 | refine Below.setCell ?_ (by first | (dsimp only; omega) | (simp <;> omega)) _)⟩
set_option maxRecDepth 100000 in
set_option maxHeartbeats 1600000 in
theorem Parse_neg_syn1 (s s2 : ByteArray) (n m : Nat) (w : World) (hsz : s.size = n) (hl : n ≤ 2001) (h0 : 0 < n) (hi0 : (∀ k W, (Instr.index 9 (.string s) (.int k 0)).run Tryd.prog W = .ok (.int .u8 45) W)) (hex : s.extract 1 n = s2) (hnsz : s2.size = m) (N : Prop) (hNp : ¬ N) (hnum : ∀ w, Calls Tryd.prog 76 #[.string s2] w (RetB w N)) :
    Calls Tryd.prog 42 #[.string s] w (RetC w 0 8 223) := by
  have hb1 := (Below.refl w.heap.size w).alloc (Nat.le_refl _) (.cells #[.bool false, .slice none 0 0] 24)
  have hN := Lib.hid hNp
  clear hNp
  go_enter Tryd.func42, Tryd.ntmps42
  go_wp2_with (go_at_call 76; refine (hnum _).mono ?_; rintro e w1 ⟨b, rfl, hb, q, rfl⟩; obtain rfl : b = false := (by cases b with | false => rfl | true => exact absurd (hb.1 rfl) hN.out); clear hb)
  refine bodyPost_ret (v := .tuple #[.agg #[.bool false, .slice none 0 0], .int .i64 8]) (by simp [results, Tryd.results42, go_sem]) rfl ?_
  exact ⟨false, none, 0, 0, rfl, II.zero _ _, by repeat (first | exact below_drewN hb1 _ | exact hb1 | refine Below.setCell ?_ (by first | (dsimp only; omega) | (simp <;> omega)) _)⟩

set_option maxRecDepth 100000 in
set_option maxHeartbeats 1600000 in
theorem Parse_neg_syn2 (s s2 : ByteArray) (n m : Nat) (w : World) (hsz : s.size = n) (hl : n ≤ 2001) (h0 : 0 < n) (hi0 : (∀ k W, (Instr.index 9 (.string s) (.int k 0)).run Tryd.prog W = .ok (.int .u8 45) W)) (hex : s.extract 1 n = s2) (hnsz : s2.size = m) (N : Prop) (hNp : N) (hnum : ∀ w, Calls Tryd.prog 76 #[.string s2] w (RetB w N)) (nb : List UInt8) (hli : s2.toList = nb) (hl48 : (nb == [48]) = true) :
    Calls Tryd.prog 42 #[.string s] w (RetC w 0 8 223) := by
  have hb1 := (Below.refl w.heap.size w).alloc (Nat.le_refl _) (.cells #[.bool false, .slice none 0 0] 24)
  have hN := Lib.hid hNp
  clear hNp
  go_enter Tryd.func42, Tryd.ntmps42
  go_wp2_with (go_at_call 76; refine (hnum _).mono ?_; rintro e w1 ⟨b, rfl, hb, q, rfl⟩; obtain rfl : b = true := (hb.2 hN.out); clear hb)
  refine bodyPost_ret (v := .tuple #[.agg #[.bool false, .slice none 0 0], .int .i64 8]) (by simp [results, Tryd.results42, go_sem]) rfl ?_
  exact ⟨false, none, 0, 0, rfl, II.zero _ _, by repeat (first | exact below_drewN hb1 _ | exact hb1 | refine Below.setCell ?_ (by first | (dsimp only; omega) | (simp <;> omega)) _)⟩

set_option maxRecDepth 100000 in
set_option maxHeartbeats 1600000 in
theorem Parse_neg_long (s s2 : ByteArray) (n m : Nat) (w : World) (hsz : s.size = n) (hl : n ≤ 2001) (h0 : 0 < n) (hi0 : (∀ k W, (Instr.index 9 (.string s) (.int k 0)).run Tryd.prog W = .ok (.int .u8 45) W)) (hex : s.extract 1 n = s2) (hnsz : s2.size = m) (N : Prop) (hNp : N) (hnum : ∀ w, Calls Tryd.prog 76 #[.string s2] w (RetB w N)) (nb : List UInt8) (hli : s2.toList = nb) (hl48 : (nb == [48]) = false) (hlI : (2000 : Int) < (m : Int)) :
    Calls Tryd.prog 42 #[.string s] w (RetC w 0 9 223) := by
  have hb1 := (Below.refl w.heap.size w).alloc (Nat.le_refl _) (.cells #[.bool false, .slice none 0 0] 24)
  have hN := Lib.hid hNp
  clear hNp
  go_enter Tryd.func42, Tryd.ntmps42
  go_wp2_with (go_at_call 76; refine (hnum _).mono ?_; rintro e w1 ⟨b, rfl, hb, q, rfl⟩; obtain rfl : b = true := (hb.2 hN.out); clear hb)
  refine bodyPost_ret (v := .tuple #[.agg #[.bool false, .slice none 0 0], .int .i64 9]) (by simp [results, Tryd.results42, go_sem]) rfl ?_
  exact ⟨false, none, 0, 0, rfl, II.zero _ _, by repeat (first | exact below_drewN hb1 _ | exact hb1 | refine Below.setCell ?_ (by first | (dsimp only; omega) | (simp <;> omega)) _)⟩

set_option maxRecDepth 100000 in
set_option maxHeartbeats 1600000 in
theorem Parse_neg_ok (s s2 : ByteArray) (n m : Nat) (w : World) (hsz : s.size = n) (hl : n ≤ 2001) (h0 : 0 < n) (hi0 : (∀ k W, (Instr.index 9 (.string s) (.int k 0)).run Tryd.prog W = .ok (.int .u8 45) W)) (hex : s.extract 1 n = s2) (hnsz : s2.size = m) (N : Prop) (hNp : N) (hnum : ∀ w, Calls Tryd.prog 76 #[.string s2] w (RetB w N)) (nb : List UInt8) (hli : s2.toList = nb) (hl48 : (nb == [48]) = false) (hlI : ¬ (2000 : Int) < (m : Int)) (v : Nat) (hrd : ∀ w, Calls Tryd.prog 77 #[.string s2] w (RetG w v 223)) :
    Calls Tryd.prog 42 #[.string s] w (RetC w (sgnd true v) 0 223) := by
  have hb1 := (Below.refl w.heap.size w).alloc (Nat.le_refl _) (.cells #[.bool false, .slice none 0 0] 24)
  have hN := Lib.hid hNp
  clear hNp
  have g1 : (w.alloc (.cells #[.bool false, .slice none 0 0] 24)).cell? ⟨w.heap.size, 0, none⟩ = some (.bool false) := by simp [go_sem]
  have g2 : (w.alloc (.cells #[.bool false, .slice none 0 0] 24)).cell? ⟨w.heap.size, 1, none⟩ = some (.slice none 0 0) := by simp [go_sem]
  have f1 : (w.alloc (.cells #[.bool false, .slice none 0 0] 24)).frozen? ⟨w.heap.size, 0, none⟩ = false := by simp [go_sem]
  have f2 : (w.alloc (.cells #[.bool false, .slice none 0 0] 24)).frozen? ⟨w.heap.size, 1, none⟩ = false := by simp [go_sem]
  go_enter Tryd.func42, Tryd.ntmps42
  go_wp2_with (first | (go_at_call 76; refine (hnum _).mono ?_; rintro e w1 ⟨b, rfl, hb, q, rfl⟩; obtain rfl : b = true := (hb.2 hN.out); clear hb) | (go_at_call 77; refine (hrd _).mono ?_; rintro e w2 ⟨A2, n2, c2, R, rfl, hsl, hg, hv, hn2, hb2⟩; replace hb2 := undrewN hb2; obtain ⟨hcc, hff, hss⟩ := old3 hb2; have x1 := (hcc w.heap.size 0 (by simp)).trans g1; have x2 := (hcc w.heap.size 1 (by simp)).trans g2; have y1 := (hff w.heap.size 0 (by simp)).trans f1; have y2 := (hff w.heap.size 1 (by simp)).trans f2; have hbw2 := hb1.trans (hb2.mono (by simp)); have hs2 := hb2.size; rw [World.size_alloc] at hs2; clear hcc hff hss hb2) | (go_at_call 52; refine (signed_any _ _ _ _ R _ hsl hg (by omega)).mono ?_; rintro e w3 ⟨neg3, A3, n3, c3, rfl, hi3, hb3⟩; obtain ⟨hcc, hff, hss⟩ := old3 hb3; have x3 := (hcc w.heap.size 0 (by omega)).trans x1; have x4 := (hcc w.heap.size 1 (by omega)).trans x2; have y3 := (hff w.heap.size 0 (by omega)).trans y1; have y4 := (hff w.heap.size 1 (by omega)).trans y2; have hbw3 := hbw2.trans (hb3.mono hbw2.size); clear hcc hff hss x1 x2 y1 y2))
  refine bodyPost_ret (v := .tuple #[.agg #[.bool neg3, .slice A3 n3 c3], .int .i64 0]) (by simp [results, Tryd.results42, go_sem, x3, x4]) rfl ?_
  rw [hv] at hi3
  exact RetC.close (hi3.mono hn2) hbw3 (Nat.le_refl _) x3 x4

set_option maxRecDepth 100000 in
set_option maxHeartbeats 1600000 in
theorem Parse_pos_syn1 (s : ByteArray) (n c0 : Nat) (w : World) (hsz : s.size = n) (hl : n ≤ 2001) (h0 : 0 < n) (hi0 : (∀ k W, (Instr.index 9 (.string s) (.int k 0)).run Tryd.prog W = .ok (.int .u8 ((c0 : Nat) : Int)) W)) (hc0 : ((c0 : Int) == 45) = false) (N : Prop) (hNp : ¬ N) (hnum : ∀ w, Calls Tryd.prog 76 #[.string s] w (RetB w N)) :
    Calls Tryd.prog 42 #[.string s] w (RetC w 0 8 223) := by
  have hb1 := (Below.refl w.heap.size w).alloc (Nat.le_refl _) (.cells #[.bool false, .slice none 0 0] 24)
  have hN := Lib.hid hNp
  clear hNp
  go_enter Tryd.func42, Tryd.ntmps42
  go_wp2_with (go_at_call 76; refine (hnum _).mono ?_; rintro e w1 ⟨b, rfl, hb, q, rfl⟩; obtain rfl : b = false := (by cases b with | false => rfl | true => exact absurd (hb.1 rfl) hN.out); clear hb)
  refine bodyPost_ret (v := .tuple #[.agg #[.bool false, .slice none 0 0], .int .i64 8]) (by simp [results, Tryd.results42, go_sem]) rfl ?_
  exact ⟨false, none, 0, 0, rfl, II.zero _ _, by repeat (first | exact below_drewN hb1 _ | exact hb1 | refine Below.setCell ?_ (by first | (dsimp only; omega) | (simp <;> omega)) _)⟩

set_option maxRecDepth 100000 in
set_option maxHeartbeats 1600000 in
theorem Parse_pos_long (s : ByteArray) (n c0 : Nat) (w : World) (hsz : s.size = n) (hl : n ≤ 2001) (h0 : 0 < n) (hi0 : (∀ k W, (Instr.index 9 (.string s) (.int k 0)).run Tryd.prog W = .ok (.int .u8 ((c0 : Nat) : Int)) W)) (hc0 : ((c0 : Int) == 45) = false) (N : Prop) (hNp : N) (hnum : ∀ w, Calls Tryd.prog 76 #[.string s] w (RetB w N)) (hlI : (2000 : Int) < (n : Int)) :
    Calls Tryd.prog 42 #[.string s] w (RetC w 0 9 223) := by
  have hb1 := (Below.refl w.heap.size w).alloc (Nat.le_refl _) (.cells #[.bool false, .slice none 0 0] 24)
  have hN := Lib.hid hNp
  clear hNp
  go_enter Tryd.func42, Tryd.ntmps42
  go_wp2_with (go_at_call 76; refine (hnum _).mono ?_; rintro e w1 ⟨b, rfl, hb, q, rfl⟩; obtain rfl : b = true := (hb.2 hN.out); clear hb)
  refine bodyPost_ret (v := .tuple #[.agg #[.bool false, .slice none 0 0], .int .i64 9]) (by simp [results, Tryd.results42, go_sem]) rfl ?_
  exact ⟨false, none, 0, 0, rfl, II.zero _ _, by repeat (first | exact below_drewN hb1 _ | exact hb1 | refine Below.setCell ?_ (by first | (dsimp only; omega) | (simp <;> omega)) _)⟩

set_option maxRecDepth 100000 in
set_option maxHeartbeats 1600000 in
theorem Parse_pos_ok (s : ByteArray) (n c0 : Nat) (w : World) (hsz : s.size = n) (hl : n ≤ 2001) (h0 : 0 < n) (hi0 : (∀ k W, (Instr.index 9 (.string s) (.int k 0)).run Tryd.prog W = .ok (.int .u8 ((c0 : Nat) : Int)) W)) (hc0 : ((c0 : Int) == 45) = false) (N : Prop) (hNp : N) (hnum : ∀ w, Calls Tryd.prog 76 #[.string s] w (RetB w N)) (hlI : ¬ (2000 : Int) < (n : Int)) (v : Nat) (hrd : ∀ w, Calls Tryd.prog 77 #[.string s] w (RetG w v 223)) :
    Calls Tryd.prog 42 #[.string s] w (RetC w (sgnd false v) 0 223) := by
  have hb1 := (Below.refl w.heap.size w).alloc (Nat.le_refl _) (.cells #[.bool false, .slice none 0 0] 24)
  have hN := Lib.hid hNp
  clear hNp
  have g1 : (w.alloc (.cells #[.bool false, .slice none 0 0] 24)).cell? ⟨w.heap.size, 0, none⟩ = some (.bool false) := by simp [go_sem]
  have g2 : (w.alloc (.cells #[.bool false, .slice none 0 0] 24)).cell? ⟨w.heap.size, 1, none⟩ = some (.slice none 0 0) := by simp [go_sem]
  have f1 : (w.alloc (.cells #[.bool false, .slice none 0 0] 24)).frozen? ⟨w.heap.size, 0, none⟩ = false := by simp [go_sem]
  have f2 : (w.alloc (.cells #[.bool false, .slice none 0 0] 24)).frozen? ⟨w.heap.size, 1, none⟩ = false := by simp [go_sem]
  go_enter Tryd.func42, Tryd.ntmps42
  go_wp2_with (first | (go_at_call 76; refine (hnum _).mono ?_; rintro e w1 ⟨b, rfl, hb, q, rfl⟩; obtain rfl : b = true := (hb.2 hN.out); clear hb) | (go_at_call 77; refine (hrd _).mono ?_; rintro e w2 ⟨A2, n2, c2, R, rfl, hsl, hg, hv, hn2, hb2⟩; replace hb2 := undrewN hb2; obtain ⟨hcc, hff, hss⟩ := old3 hb2; have x1 := (hcc w.heap.size 0 (by simp)).trans g1; have x2 := (hcc w.heap.size 1 (by simp)).trans g2; have y1 := (hff w.heap.size 0 (by simp)).trans f1; have y2 := (hff w.heap.size 1 (by simp)).trans f2; have hbw2 := hb1.trans (hb2.mono (by simp)); have hs2 := hb2.size; rw [World.size_alloc] at hs2; clear hcc hff hss hb2) | (go_at_call 52; refine (signed_any _ _ _ _ R _ hsl hg (by omega)).mono ?_; rintro e w3 ⟨neg3, A3, n3, c3, rfl, hi3, hb3⟩; obtain ⟨hcc, hff, hss⟩ := old3 hb3; have x3 := (hcc w.heap.size 0 (by omega)).trans x1; have x4 := (hcc w.heap.size 1 (by omega)).trans x2; have y3 := (hff w.heap.size 0 (by omega)).trans y1; have y4 := (hff w.heap.size 1 (by omega)).trans y2; have hbw3 := hbw2.trans (hb3.mono hbw2.size); clear hcc hff hss x1 x2 y1 y2))
  refine bodyPost_ret (v := .tuple #[.agg #[.bool neg3, .slice A3 n3 c3], .int .i64 0]) (by simp [results, Tryd.results42, go_sem, x3, x4]) rfl ?_
  rw [hv] at hi3
  exact RetC.close (hi3.mono hn2) hbw3 (Nat.le_refl _) x3 x4

theorem int_nz {c : Nat} (h : c ≠ 45) : ((c : Int) == 45) = false := by rw [beq_eq_false_iff_ne]; omega
theorem int_gt {a m : Nat} (h : a < m) : (a : Int) < (m : Int) := by omega
theorem int_ngt {a m : Nat} (h : m ≤ a) : ¬ (a : Int) < (m : Int) := by omega

/-- Parse. -/
theorem Parse_any (bs : List UInt8) (w : World) (hl : bs.length ≤ 1000000) (c z : Int) (hpc : PC bs c z) :
    Calls Tryd.prog 42 #[.string ⟨bs.toArray⟩] w (RetC w z c 223) := by
  have hsz := str_size bs
  by_cases hlong : 2001 < bs.length
  · have e : c = 9 ∧ z = 0 := by
      rcases hpc with ⟨_, h, h2⟩ | ⟨h, _⟩ | ⟨h, _⟩ | ⟨h, _⟩
      · exact ⟨h, h2⟩
      all_goals omega
    obtain ⟨rfl, rfl⟩ := e
    exact Parse_long _ bs.length w hsz (int_gt hlong)
  · have hl1 : bs.length ≤ 2001 := by omega
    have hpc2 : (¬ Dec bs ∧ c = 8 ∧ z = 0) ∨ (Dec bs ∧ ((2000 < (nbs bs).length ∧ c = 9 ∧ z = 0) ∨ ((nbs bs).length ≤ 2000 ∧ c = 0 ∧ z = zOf bs))) := by
      rcases hpc with ⟨h, _⟩ | ⟨_, h, h2⟩ | ⟨_, h, h2⟩ | ⟨_, h, h2⟩
      · omega
      · exact .inl ⟨h, h2⟩
      · exact .inr ⟨h, .inl h2⟩
      · exact .inr ⟨h, .inr h2⟩
    have hnum := fun w => isNumeral_any (nbs bs) w
    have hrd := fun w => read_any (nbs bs) w
    have hdl : ∀ w, (nbs bs).length ≤ 2000 → Numl (nbs bs) → Calls Tryd.prog 77 #[.string ⟨(nbs bs).toArray⟩] w (RetG w (dv (nbs bs)) 223) := by
      intro w h1 h2
      refine (hrd w (by omega) h2.2.1).mono ?_
      rintro e w' ⟨A, n, c, R, rfl, a1, a2, a3, a4, a5⟩
      exact ⟨A, n, c, R, rfl, a1, a2, a3, by omega, a5⟩
    have hls := str_list (nbs bs)
    have hsn := str_size (nbs bs)
    rcases start_cases bs with ⟨h1, h2, h3⟩ | ⟨h1, h2, h3, h4⟩ | ⟨h1, h2, h3, h4⟩
    · have hbs : bs = [] := List.length_eq_zero_iff.1 h1
      subst hbs
      have hnn : ¬ Numl [] := fun h => h.1 rfl
      rcases hpc2 with ⟨_, rfl, rfl⟩ | ⟨hd, _⟩
      · refine Parse_none _ w rfl (fun w => (isNumeral_any [] w (by simp)).mono ?_)
        rintro e w' ⟨b, rfl, hb, q, rfl⟩
        exact ⟨b, rfl, by simpa [hnn] using hb, q, rfl⟩
      · exact absurd hd.1 hnn
    · have hi0 : ∀ k W, (Instr.index 9 (.string ⟨bs.toArray⟩) (.int k 0)).run Tryd.prog W = .ok (.int .u8 45) W := by
        have := fun k W => run_ix bs 0 h1 k W
        rw [h2] at this
        exact this
      have htl : (ByteArray.mk bs.toArray).extract 1 bs.length = ⟨(nbs bs).toArray⟩ := by rw [str_tail, h4]
      have hnl : (nbs bs).length ≤ 1000000000 := by rw [h4, List.length_tail]; omega
      rcases hpc2 with ⟨hd, rfl, rfl⟩ | ⟨hd, ⟨hlo, rfl, rfl⟩ | ⟨hsh, rfl, rfl⟩⟩
      · by_cases hN : Numl (nbs bs)
        · have h48 : nbs bs = [48] := Classical.byContradiction fun h => hd ⟨hN, fun e => h e.2⟩
          exact Parse_neg_syn2 _ _ bs.length (nbs bs).length w hsz hl1 h1 hi0 htl hsn (Numl (nbs bs)) hN (fun w => hnum w hnl) (nbs bs) hls (by rw [h48]; rfl)
        · exact Parse_neg_syn1 _ _ bs.length (nbs bs).length w hsz hl1 h1 hi0 htl hsn (Numl (nbs bs)) hN (fun w => hnum w hnl)
      · have h48 : (nbs bs == [48]) = false := by rw [beq_eq_false_iff_ne]; exact fun e => hd.2 ⟨h3, e⟩
        exact Parse_neg_long _ _ bs.length (nbs bs).length w hsz hl1 h1 hi0 htl hsn (Numl (nbs bs)) hd.1 (fun w => hnum w hnl) (nbs bs) hls h48 (int_gt hlo)
      · have h48 : (nbs bs == [48]) = false := by rw [beq_eq_false_iff_ne]; exact fun e => hd.2 ⟨h3, e⟩
        unfold zOf
        rw [h3]
        exact Parse_neg_ok _ _ bs.length (nbs bs).length w hsz hl1 h1 hi0 htl hsn (Numl (nbs bs)) hd.1 (fun w => hnum w hnl) (nbs bs) hls h48 (int_ngt hsh) _ (fun w => hdl w hsh hd.1)
    · have hi0 := fun k W => run_ix bs 0 h1 k W
      rw [h4] at hnum hdl hpc2
      rcases hpc2 with ⟨hd, rfl, rfl⟩ | ⟨hd, ⟨hlo, rfl, rfl⟩ | ⟨hsh, rfl, rfl⟩⟩
      · have hN : ¬ Numl bs := fun h => hd ⟨by rw [h4]; exact h, fun e => by rw [h3] at e; cases e.1⟩
        exact Parse_pos_syn1 _ bs.length (byt bs 0) w hsz hl1 h1 hi0 (int_nz h2) (Numl bs) hN (fun w => hnum w (by omega))
      · have hN : Numl bs := by have := hd.1; rwa [h4] at this
        exact Parse_pos_long _ bs.length (byt bs 0) w hsz hl1 h1 hi0 (int_nz h2) (Numl bs) hN (fun w => hnum w (by omega)) (int_gt hlo)
      · have hN : Numl bs := by have := hd.1; rwa [h4] at this
        unfold zOf
        rw [h3, h4]
        exact Parse_pos_ok _ bs.length (byt bs 0) w hsz hl1 h1 hi0 (int_nz h2) (Numl bs) hN (fun w => hnum w (by omega)) (int_ngt hsh) _ (fun w => hdl w hsh hN)

end Go.Proofs.YtalbdjnanmcoeaaDoor
