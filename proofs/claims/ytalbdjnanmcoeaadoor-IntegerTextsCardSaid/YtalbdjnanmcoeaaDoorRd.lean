/-
  Walk: read of package integer.
-/
import Derived.Test.YtalbdjnanmcoeaaDoorIsN
import Derived.Test.YtalbdjnanmcoeaaDoorOfR
import Derived.Test.YtalbdjnanmcoeaaDoorC
import Derived.Deep.QuietTactic
import Derived.BigQuiet
namespace Go.Proofs.YtalbdjnanmcoeaaDoor
open Go.RowKit Num

/-- The digits from one index to another are worth. -/
def seg (bs : List UInt8) (i j : Nat) : Nat := dv ((bs.take j).drop i)
theorem seg_self (bs : List UInt8) (i : Nat) : seg bs i i = 0 := by
  unfold seg
  rw [List.drop_of_length_le (by rw [List.length_take]; omega)]
  rfl
theorem seg_succ {bs : List UInt8} {i j : Nat} (hij : i ≤ j) (hj : j < bs.length) : seg bs i (j + 1) = 10 * seg bs i j + (byt bs j - 48) := by
  unfold seg
  have e : bs.take (j + 1) = bs.take j ++ [bs[j]] := by rw [List.take_append_getElem hj]
  have hb : byt bs j = bs[j].toNat := by unfold byt; rw [List.getElem?_eq_getElem hj]; rfl
  rw [e, List.drop_append_of_le_length (by rw [List.length_take]; omega), dv_snoc, hb]
theorem seg_lt {bs : List UInt8} (hd : ∀ b ∈ bs, isDg b) {i j : Nat} (hij : i ≤ j) (hj : j ≤ bs.length) : seg bs i j < 10 ^ (j - i) := by
  have := dv_lt (bs := (bs.take j).drop i) (fun b hb => hd b (List.mem_of_mem_take (List.mem_of_mem_drop hb)))
  rwa [List.length_drop, List.length_take, Nat.min_eq_left hj] at this
theorem seg_split {bs : List UInt8} {i j : Nat} (hij : i ≤ j) (hj : j ≤ bs.length) : seg bs 0 j = seg bs 0 i * 10 ^ (j - i) + seg bs i j := by
  unfold seg
  have h := dv_append ((bs.take j).take i) ((bs.take j).drop i)
  rw [List.take_append_drop, List.take_take, Nat.min_eq_left hij, List.length_drop, List.length_take, Nat.min_eq_left hj] at h
  simpa using h
theorem seg_all (bs : List UInt8) : seg bs 0 bs.length = dv bs := by
  unfold seg
  rw [List.take_length, List.drop_zero]
theorem ten9 : (10 : Nat) ^ 9 = 1000000000 := by decide
theorem seg_nine {bs : List UInt8} (hd : ∀ b ∈ bs, isDg b) {i j : Nat} (hij : i ≤ j) (hj : j ≤ bs.length) (h9 : j ≤ i + 9) : seg bs i j < 1000000000 := by
  have h1 := seg_lt hd hij hj
  have h2 : 10 ^ (j - i) ≤ 10 ^ 9 := Nat.pow_le_pow_right (by decide) (by omega)
  rw [ten9] at h2
  omega

/-- What read has done when k groups are over, and E places are left. -/
def RdInv (bs : List UInt8) (R : List Nat) (k : Nat) (E : Int) : Prop := R.length = k ∧ Grp R ∧ val R + pw k * seg bs 0 E.toNat = dv bs ∧ E = (bs.length : Int) - 9 * (k : Int)
theorem rd_arith (a p s B g : Nat) : a + p * g + p * B * s = a + p * (s * B + g) := by
  rw [Nat.mul_add, Nat.mul_comm s B, ← Nat.mul_assoc]
  omega
theorem RdInv.step {bs : List UInt8} (hd : ∀ b ∈ bs, isDg b) {R : List Nat} {k : Nat} {E : Int} (h : RdInv bs R k E) (hE : 0 < E) {st e g : Nat} (he : (e : Int) = E) (hst : (st : Int) = max 0 (E - 9)) (hg : seg bs st e = g) :
    RdInv bs (R ++ [g]) (k + 1) (E - 9) := by
  obtain ⟨h1, h2, h3, h4⟩ := h
  have hle : st ≤ e := by omega
  have heb : e ≤ bs.length := by omega
  have hg9 := seg_nine hd hle heb (by omega)
  rw [hg] at hg9
  have hEe : E.toNat = e := by omega
  rw [hEe] at h3
  have hsp := seg_split hle heb
  rw [hg] at hsp
  refine ⟨by simp [h1], h2.append (Grp.cons hg9 Grp.nil), ?_, by omega⟩
  rw [val_snoc, pw_succ, h1, ← h3]
  by_cases h9 : 9 ≤ E
  · have e1 : (E - 9).toNat = st := by omega
    have e2 : e - st = 9 := by omega
    rw [e2, ten9] at hsp
    rw [e1, hsp]
    exact rd_arith _ _ _ _ _
  · have e1 : (E - 9).toNat = 0 := by omega
    have e2 : st = 0 := by omega
    rw [e2, seg_self, Nat.zero_mul, Nat.zero_add] at hsp
    rw [e1, seg_self, hsp, Nat.mul_zero, Nat.add_zero]

theorem run_make_c (k1 k2 : IntKind) (u : Int) (n : Nat) (hu : u = (n : Int)) (hn : n ≤ 2000000000) (W : World) :
    (Instr.makeSlice 22 (.int k1 0) (.int k2 u)).run Tryd.prog W = .ok (.slice (some ⟨W.heap.size, 0, none⟩) 0 n) (W.alloc (.cells (madeCells #[.int .u32 0] n) 48)) := by
  obtain ⟨i0, hi, hz0, hz1, hz2⟩ := info_parts infoU
  have := run_make (P := Tryd.prog) W 22 48 i0 (.int .u32 0) Tryd.underlying22 hi hz0 k1 k2 0 u (by omega) (by omega) (by rw [hz2]; omega) (by omega)
  rw [this, hu]
  simp only [Int.toNat_natCast, hz1, Nat.mul_one]
  rfl

/-- The call returns groups that are worth m, at most b of them. -/
def RetG (w : World) (m b : Nat) (e : Ending) (w' : World) : Prop := ∃ A n c R, e = .returned (.slice A n c) ∧ Sl w' A n c R ∧ Grp R ∧ val R = m ∧ n ≤ b ∧ Below w.heap.size w w'

set_option maxRecDepth 100000 in
set_option maxHeartbeats 4000000 in
/-- read. -/
theorem read_any (bs : List UInt8) (w : World) (hl : bs.length ≤ 1000000) (hN : ∀ b ∈ bs, isDg b) :
    Calls Tryd.prog 77 #[.string ⟨bs.toArray⟩] w (RetG w (dv bs) (bs.length / 9 + 1)) := by
  obtain ⟨i0, hi, hz0, hz1, hz2⟩ := info_parts infoU
  have hix := fun i hi => run_ix bs i hi
  have hsz := str_size bs
  have hdg := dg_byt.1 hN
  have hst := fun (R : List Nat) (k : Nat) (E : Int) (h : RdInv bs R k E) => h.step hN
  have hnine := fun i j => seg_nine hN (i := i) (j := j)
  have hi0 : RdInv bs [] 0 (bs.length : Int) := ⟨rfl, Grp.nil, by simp [val, pw_zero, seg_all], by simp⟩
  obtain ⟨n, hn⟩ : ∃ n, bs.length = n := ⟨_, rfl⟩
  rw [hn] at hsz hl hix hi0 hdg ⊢
  obtain ⟨s, hs⟩ : ∃ s, ByteArray.mk bs.toArray = s := ⟨_, rfl⟩
  rw [hs] at hsz hix ⊢
  replace hs := Lib.hid hs
  obtain ⟨N, hNN⟩ : ∃ N, n / 9 + 1 = N := ⟨_, rfl⟩
  have hNI : (n : Int) / 9 + 1 = (N : Int) := by omega
  have hmk := run_make_c .i64 .i64 (N : Int) N rfl (by omega)
  have hown0 : (w.alloc (.cells (madeCells #[.int .u32 0] N) 48)).ownsRow w.heap.size 48 1 (.slice (some ⟨w.heap.size, 0, none⟩) 0 N) 0 [] :=
    World.ownsRow_made (base := w.heap.size) (e := 48) (size := 1) w (madeCells #[.int .u32 0] N) N (Nat.le_refl _) (by unfold maxLen; omega) (by rw [size_madeCells]; simp)
  have hb0 := (Below.refl w.heap.size w).alloc (Nat.le_refl _) (.cells (madeCells #[.int .u32 0] N) 48)
  replace hix := Lib.hid hix
  replace hN := Lib.hid hN
  replace hst := Lib.hid hst
  replace hnine := Lib.hid hnine
  replace hdg := Lib.hid hdg
  replace hNN := Lib.hid hNN
  go_enter Tryd.func77, Tryd.ntmps77
  go_wp2
  go_loopw [3, 4, 5, 6] (fun gs en _ _ wr => ∃ k R E, en = .int .i64 E ∧ -9 < E ∧ E ≤ n ∧ wr.ownsRow w.heap.size 48 1 gs k (cells R) ∧ RdInv bs R k E ∧ Below w.heap.size w wr) (fun _ en _ _ _ => (intOf en).toNat)
  case atStart => exact ⟨0, [], n, rfl, by omega, by omega, hown0, hi0, hb0⟩
  case round =>
    obtain ⟨k, R, E, rfl, hE9, hEn, hown, hinv, hB⟩ := hrel
    by_cases hE : 0 < E
    · obtain ⟨e, rfl⟩ : ∃ e : Nat, E = (e : Int) := ⟨E.toNat, by omega⟩
      obtain ⟨st, hst0⟩ : ∃ st : Nat, (st : Int) = max 0 ((e : Int) - 9) := ⟨(max 0 ((e : Int) - 9)).toNat, by omega⟩
      have hsle : st ≤ e := by omega
      have hs9 : e ≤ st + 9 := by omega
      have hen : e ≤ n := by omega
      have hinv2 := fun g hg => hst.out R k e hinv hE (st := st) (e := e) (g := g) rfl hst0 hg
      have hkb : k ≤ 1000000 := by have := hinv.2.2.2; omega
      have hmax : max 0 ((e : Int) - 9) = (st : Int) := hst0.symm
      replace hst0 := Lib.hid hst0
      replace hinv2 := Lib.hid hinv2
      clear hinv
      go_wp2
      go_loopw [5, 6] (fun g i wi => ∃ j G, st ≤ j ∧ j ≤ e ∧ i = .int .i64 ((j : Nat) : Int) ∧ g = .int .u32 ((G : Nat) : Int) ∧ seg bs st j = G ∧ ∃ q, wi = wr.drewN q) (fun _ i _ => e - (intOf i).toNat)
      case atStart => exact ⟨st, 0, Nat.le_refl _, hsle, rfl, rfl, seg_self _ _, 0, rfl⟩
      case round =>
        obtain ⟨j, G, hsj, hje, rfl, rfl, hG, q, rfl⟩ := hrel
        by_cases hlt : j < e
        · have hb := hix.out j (by omega)
          have hdj := hdg.out j (by omega)
          have hG2 := seg_succ (bs := bs) hsj (by omega)
          have hG9 := hnine.out st (j + 1) (by omega) (by omega) (by omega)
          rw [hG2, hG] at hG9
          rw [hG] at hG2
          obtain ⟨d, hd⟩ : ∃ d, byt bs j = d := ⟨_, rfl⟩
          rw [hd] at hb hdj hG2 hG9
          obtain ⟨d', rfl⟩ : ∃ d', d = 48 + d' := ⟨d - 48, by omega⟩
          have hd9 : d' ≤ 9 := by omega
          obtain ⟨G', hG'⟩ : ∃ G', 10 * G + d' = G' := ⟨_, rfl⟩
          have hGI : 10 * (G : Int) + (d' : Int) = (G' : Int) := by omega
          have hG9' : G' < 1000000000 := by omega
          have hw1 : IntKind.u8.wrap ((((48 + d' : Nat) : Nat) : Int) - 48) = (d' : Int) := by rw [IntKind.wrap_u8]; omega
          have hG10 : 10 * (G : Int) ≤ 999999999 := by omega
          replace hG2 := Lib.hid (hG2.trans (by omega : 10 * G + (48 + d' - 48) = G'))
          replace hd := Lib.hid hd
          replace hG' := Lib.hid hG'
          clear hG hG9 hdj
          go_wp2
          exact ⟨⟨j + 1, G', by omega, hlt, by go_num, congrArg (Value.int .u32) (by omega), hG2.out, q, rfl⟩, by simp [intOf]; omega⟩
        · obtain rfl : j = e := by omega
          have hinv3 := Lib.hid (hinv2.out G hG)
          have hownq : (wr.drewN q).ownsRow w.heap.size 48 1 u3 k (cells R) := hown
          have hBq := below_drewN hB q
          clear hown hB
          generalize wr.drewN q = wq at hownq hBq ⊢
          go_wp2_with (at_builtin; refine wpList_append_own _ rfl _ _ 22 rfl w.heap.size 48 i0 (.int .u32 0) 1 4 Tryd.underlying22 hi hz0 hz1 hz2 rfl (by decide) _ _ _ rfl (hownq.alloc _) ⟨wq.heap.size, 0, none⟩ 1 1 [.int .u32 (G : Int)] rfl rfl (cell_one_new _ _ _) (by simp [Value.oneCell']) (by unfold maxLen; omega) (by omega) (by have := hBq.size; simp; omega) ?_; intro v' w1 hown' hgrow _)
          have hE3 : IntKind.i64.wrap ((j : Int) - 9) = (j : Int) - 9 := by rw [IntKind.wrap_i64]; omega
          exact ⟨⟨k + 1, R ++ [G], (j : Int) - 9, by first | rfl | rw [hE3], by omega, by omega, by rw [cells_snoc]; exact hown', hinv3.out, below_appended' hBq.size hBq hownq hgrow⟩, by simp [intOf]; omega⟩
    · have hk0 : E.toNat = 0 := by omega
      obtain ⟨h1, h2, h3, h4⟩ := hinv
      rw [hk0, seg_self, Nat.mul_zero, Nat.add_zero] at h3
      have hkn : k ≤ n / 9 + 1 := by omega
      obtain ⟨A, m, c, rfl, hsl, hm⟩ := own_sl hown
      rw [← hm] at hkn
      replace h3 := Lib.hid h3
      replace h4 := Lib.hid h4
      replace hkn := Lib.hid hkn
      go_wp2
      go_ret
      subst hm
      exact ⟨A, m, c, R, rfl, hsl, h2, h3.out, hkn.out, hB⟩

end Go.Proofs.YtalbdjnanmcoeaaDoor
