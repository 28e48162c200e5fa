/-
  Walk over the reference: short, the division by one group.
-/
import Derived.Test.YtfhhilnebaodoaaDoorNumb
import Derived.Test.YtfhhilnebaodoaaDoorS
import Derived.Test.YtfhhilnebaodoaaDoorP
namespace Go.Proofs.YtfhhilnebaodoaaDoor
open Go.RowKit Num

/-- What short has done when the groups from p on are over. -/
def ShInv (l : List Nat) (d n p : Nat) (Q : List Nat) (rest : Nat) : Prop := Q.length = n ∧ Grp Q ∧ val (Q.drop p) * d + rest = topv l (n - p) ∧ rest < d
theorem ShInv.step {l : List Nat} {d n x : Nat} {Q : List Nat} {rest s : Nat} (h : ShInv l d n (x + 1) Q rest) (hl : n = l.length) (hx : x < n) (hg : Grp l) (hd : 0 < d) (hs : s = rest * 1000000000 + nth l x) :
    ShInv l d n x (Q.set x (s / d)) (s % d) := by
  obtain ⟨h1, h2, h3, h4⟩ := h
  have hgx := hg.get x
  have hq : s / d < 1000000000 := by
    rw [Nat.div_lt_iff_lt_mul hd, hs]
    have : (rest + 1) * 1000000000 ≤ d * 1000000000 := Nat.mul_le_mul_right _ h4
    rw [Nat.mul_comm 1000000000 d]
    omega
  refine ⟨by simp [h1], h2.set x hq, ?_, Nat.mod_lt _ hd⟩
  have e1 : (Q.set x (s / d)).drop x = s / d :: Q.drop (x + 1) := by
    rw [List.drop_set, if_neg (by omega), Nat.sub_self]
    rw [List.drop_eq_getElem_cons (by omega), List.set_cons_zero]
  rw [e1, val_cons]
  have e2 := topv_succ (l := l) (k := n - (x + 1)) (by omega)
  rw [show n - (x + 1) + 1 = n - x by omega, show l.length - (n - x) = x by omega, ← h3] at e2
  rw [e2]
  have e3 : s / d * d + s % d = s := by rw [Nat.mul_comm]; exact Nat.div_add_mod s d
  rw [Nat.add_mul, Nat.add_mul]
  have e4 : 1000000000 * val (Q.drop (x + 1)) * d = val (Q.drop (x + 1)) * d * 1000000000 := by
    rw [Nat.mul_comm 1000000000, Nat.mul_right_comm]
  rw [e4]
  omega

set_option maxRecDepth 100000 in
set_option maxHeartbeats 4000000 in
/-- short of the reference: quotient and rest by a number up to the base. -/
theorem rshort_any (A : Option Addr) (n c m k d : Nat) (w : World) (h : MM w A n c m k) (hk : k ≤ 1000000000) (hd : 0 < d) (hd2 : d ≤ 1000000000) :
    Calls Tryd.prog 62 #[.slice A n c, .int .u64 (d : Int)] w fun e w' => ∃ A' n' c', e = .returned (.tuple #[.slice A' n' c', .int .u64 ((m % d : Nat) : Int)]) ∧ MM w' A' n' c' (m / d) k ∧ Below w.heap.size w w' := by
  obtain ⟨l, hs, hc, hv, hnk⟩ := h
  have hlen := Lib.hid hs.len
  have hcap := hs.le_cap
  have hcl := hs.cap_le
  have hmk := run_make_u32 .i64 .i64 (n : Int) n rfl (by omega)
  have hB0 := Bl.new w (zeros n)
  have hb0 := (Below.refl w.heap.size w).alloc (Nat.le_refl _) (.cells (cells (zeros n)).toArray 48)
  have hdI : (0 : Int) < (d : Int) := by omega
  have hdI2 : (d : Int) ≤ 1000000000 := by omega
  have hinv0 : ShInv l d n n (zeros n) 0 := ⟨zeros_length n, fun x hx => by simp [zeros] at hx; omega, by
    rw [List.drop_of_length_le (by rw [zeros_length]; exact Nat.le_refl _), Nat.sub_self, topv_zero]; simp [val], hd⟩
  replace hinv0 := Lib.hid hinv0
  replace hv := Lib.hid hv
  have hg := Lib.hid hc.1
  clear hc
  go_enter Tryd.func62, Tryd.ntmps62
  go_wp2
  go_loopw [7, 8, 9] (fun rv i _nv wr => ∃ (p : Nat) (q : Int) (Q : List Nat) (rest : Nat), p ≤ n ∧ i = .int .i64 q ∧ q = (p : Int) - 1 ∧ rv = .int .u64 ((rest : Nat) : Int) ∧ Bl wr w.heap.size Q ∧ ShInv l d n p Q rest ∧ Below w.heap.size w wr) (fun _ i _ _ => (intOf i + 1).toNat)
  case atStart => exact ⟨n, _, zeros n, 0, Nat.le_refl _, rfl, rfl, rfl, hB0, hinv0.out, hb0⟩
  case round =>
    obtain ⟨p, q, Q, rest, hp, rfl, hq, rfl, hBl, hinv, hB⟩ := hrel
    by_cases hp0 : p = 0
    · subst hp0
      obtain rfl : q = -1 := by omega
      clear hq
      have hQl := hinv.1
      have hQg := hinv.2.1
      have hfin : val Q * d + rest = m := by
        have := hinv.2.2.1
        rw [List.drop_zero, Nat.sub_zero, hlen.out, topv_all, hv.out] at this
        exact this
      have hrd := hinv.2.2.2
      have e1 : m / d = val Q := by rw [← hfin, Nat.mul_comm, Nat.mul_add_div hd, Nat.div_eq_of_lt hrd, Nat.add_zero]
      have e2 : m % d = rest := by rw [← hfin, Nat.mul_comm, Nat.mul_add_mod, Nat.mod_eq_of_lt hrd]
      have hsl := hBl.sl (off := 0) (n := n) (c := n) (by omega) (Nat.le_refl _) (by omega)
      rw [List.drop_zero, List.take_of_length_le (by omega)] at hsl
      replace e1 := Lib.hid e1
      replace e2 := Lib.hid e2
      replace hQg := Lib.hid hQg
      replace hQl := Lib.hid hQl
      clear hinv hfin hrd
      go_wp2_with (go_at_call 54; refine (made_any false _ _ _ _ wr hsl hQg.out (by omega)).mono ?_; rintro e W ⟨neg', A', n', c', rfl, hi', hB'⟩; have hfd := run_groups neg' A' n' c')
      go_ret2
      rw [e1.out, e2.out]
      refine ⟨A', n', c', rfl, ?_, hB.trans (hB'.mono hB.size)⟩
      have := hi'.mm
      rw [sgnd_natAbs] at this
      exact this.mono hnk
    · obtain ⟨x, rfl⟩ : ∃ x, p = x + 1 := ⟨p - 1, by omega⟩
      obtain rfl : q = (x : Int) := by omega
      clear hq hp0
      have hxn : x < n := by omega
      have hsr := hs.below hB (Nat.le_refl _)
      obtain ⟨b, off, rfl, hbl, hcell⟩ := hsr.at_ (by omega)
      have hcx := hcell x hxn
      clear hcell hsr
      obtain ⟨u, hu⟩ : ∃ u, nth l x = u := ⟨_, rfl⟩
      have hu9 : u < 1000000000 := by rw [← hu]; exact hg.out.get x
      rw [hu] at hcx
      have hr := hinv.2.2.2
      obtain ⟨s, hsS⟩ : ∃ s, rest * 1000000000 + u = s := ⟨_, rfl⟩
      have hsI : (rest : Int) * 1000000000 + (u : Int) = (s : Int) := by omega
      have hs18 : s < 1000000000000000000 := by omega
      have hstep := hinv.step hlen.out hxn hg.out hd (s := s) (by rw [hu, hsS])
      obtain ⟨qd, hqd⟩ : ∃ qd, s / d = qd := ⟨_, rfl⟩
      obtain ⟨rd, hrd⟩ : ∃ rd, s % d = rd := ⟨_, rfl⟩
      rw [hqd, hrd] at hstep
      have hqI : (s : Int) / (d : Int) = (qd : Int) := by rw [← hqd]; exact (Int.natCast_ediv s d).symm
      have hrI : (s : Int) % (d : Int) = (rd : Int) := by rw [← hrd]; exact (Int.natCast_emod s d).symm
      have hq9 : qd < 1000000000 := by
        have := hstep.2.1.get x
        unfold nth at this
        rw [List.getElem?_set_self (by rw [hinv.1]; exact hxn)] at this
        exact this
      have hrd9 : rd < d := hstep.2.2.2
      have hwq : IntKind.u32.wrap (qd : Int) = (qd : Int) := wrap32 hq9
      have hwq2 : IntKind.u64.wrap (qd : Int) = (qd : Int) := by rw [IntKind.wrap_u64]; omega
      have hQx := hBl.cell (i := x) (by rw [hinv.1]; exact hxn)
      have hQf := hBl.frozen x
      have hd0 : ((d : Int) == 0) = false := by rw [beq_eq_false_iff_ne]; omega
      replace hstep := Lib.hid hstep
      replace hu := Lib.hid hu
      replace hqd := Lib.hid hqd
      replace hrd := Lib.hid hrd
      replace hsS := Lib.hid hsS
      clear hinv
      have hrIh := Lib.hid hrI
      go_wp2
      exact ⟨⟨x, _, Q.set x qd, rd, by omega, rfl, rfl, by first | rfl | rw [hrIh.out], hBl.set x qd, hstep.out, hB.setCell (p := ⟨w.heap.size, x, none⟩) (Nat.le_refl _) _⟩, (by first | (simp [intOf]; done) | (simp [intOf]; omega))⟩

end Go.Proofs.YtfhhilnebaodoaaDoor
