/-
  Walk over the reference: short, the division by one group.
-/
import Derived.Test.YtabibkhcdamlhaaDoorNumb
import Derived.Test.YtabibkhcdamlhaaDoorS
import Derived.Test.YtabibkhcdamlhaaDoorP
import Derived.Test.YtabibkhcdamlhaaDoorM
set_option linter.unusedSimpArgs false
set_option linter.unusedVariables false
namespace Go.Proofs.YtabibkhcdamlhaaDoor
open Go.RowKit Num

/-- What short has done when the groups from p on are over. -/
def ShInv (l : List Nat) (d n p : Nat) (Q : List Nat) (rest : Nat) : Prop := Q.length = n ∧ Grp Q ∧ val (Q.drop p) * d + rest = topv l (n - p) ∧ rest < d
theorem ShInv.step {l : List Nat} {d n x : Nat} {Q : List Nat} {rest s : Nat} (h : ShInv l d n (x + 1) Q rest) (hl : n = l.length) (hx : x < n) (hg : Grp l) (hd : 0 < d) (hs : s = rest * 1000000000 + nth l x) :
    ShInv l d n x (Q.set x (s / d)) (s % d) := by
  obtain ⟨h1, h2, h3, h4⟩ := h
  have hgx := hg.get x
  have hq : s / d < 1000000000 := by
    rw [Nat.div_lt_iff_lt_mul hd, hs]
    have : (rest + 1) * 1000000000 ≤ d * 1000000000 := Nat.mul_le_mul_right _ h4
    rw [Nat.mul_comm 1000000000 d]
    omega
  refine ⟨by simp [h1], h2.set x hq, ?_, Nat.mod_lt _ hd⟩
  have e1 : (Q.set x (s / d)).drop x = s / d :: Q.drop (x + 1) := by
    rw [List.drop_set, if_neg (by omega), Nat.sub_self]
    rw [List.drop_eq_getElem_cons (by omega), List.set_cons_zero]
  rw [e1, val_cons]
  have e2 := topv_succ (l := l) (k := n - (x + 1)) (by omega)
  rw [show n - (x + 1) + 1 = n - x by omega, show l.length - (n - x) = x by omega, ← h3] at e2
  rw [e2]
  have e3 : s / d * d + s % d = s := by rw [Nat.mul_comm]; exact Nat.div_add_mod s d
  rw [Nat.add_mul, Nat.add_mul]
  have e4 : 1000000000 * val (Q.drop (x + 1)) * d = val (Q.drop (x + 1)) * d * 1000000000 := by
    rw [Nat.mul_comm 1000000000, Nat.mul_right_comm]
  rw [e4]
  omega

set_option maxRecDepth 100000 in
set_option maxHeartbeats 4000000 in
/-- short of the reference: quotient and rest by a number up to the base. -/
theorem rshort_any (A : Option Addr) (n c m k d : Nat) (w : World) (h : MM w A n c m k) (hk : k ≤ 1000000000) (hd : 0 < d) (hd2 : d ≤ 1000000000) :
    Calls Tryd.prog 62 #[.slice A n c, .int .u64 (d : Int)] w fun e w' => ∃ A' n' c', e = .returned (.tuple #[.slice A' n' c', .int .u64 ((m % d : Nat) : Int)]) ∧ MM w' A' n' c' (m / d) k ∧ Below w.heap.size w w' := by
  obtain ⟨l, hs, hc, hv, hnk⟩ := h
  have hlen := Lib.hid hs.len
  have hcap := hs.le_cap
  have hcl := hs.cap_le
  have hmk := run_make_u32 .i64 .i64 (n : Int) n rfl (by omega)
  have hB0 := Bl.new w (zeros n)
  have hb0 := (Below.refl w.heap.size w).alloc (Nat.le_refl _) (.cells (cells (zeros n)).toArray 48)
  have hdI : (0 : Int) < (d : Int) := by omega
  have hdI2 : (d : Int) ≤ 1000000000 := by omega
  have hinv0 : ShInv l d n n (zeros n) 0 := ⟨zeros_length n, fun x hx => by simp [zeros] at hx; omega, by
    rw [List.drop_of_length_le (by rw [zeros_length]; exact Nat.le_refl _), Nat.sub_self, topv_zero]; simp [val], hd⟩
  replace hinv0 := Lib.hid hinv0
  replace hv := Lib.hid hv
  have hg := Lib.hid hc.1
  clear hc
  go_enter Tryd.func62, Tryd.ntmps62
  go_wp2
  go_loopw [7, 8, 9] (fun rv i _nv wr => ∃ (p : Nat) (q : Int) (Q : List Nat) (rest : Nat), p ≤ n ∧ i = .int .i64 q ∧ q = (p : Int) - 1 ∧ rv = .int .u64 ((rest : Nat) : Int) ∧ Bl wr w.heap.size Q ∧ ShInv l d n p Q rest ∧ Below w.heap.size w wr) (fun _ i _ _ => (intOf i + 1).toNat)
  case atStart => exact ⟨n, _, zeros n, 0, Nat.le_refl _, rfl, rfl, rfl, hB0, hinv0.out, hb0⟩
  case round =>
    obtain ⟨p, q, Q, rest, hp, rfl, hq, rfl, hBl, hinv, hB⟩ := hrel
    by_cases hp0 : p = 0
    · subst hp0
      obtain rfl : q = -1 := by omega
      clear hq
      have hQl := hinv.1
      have hQg := hinv.2.1
      have hfin : val Q * d + rest = m := by
        have := hinv.2.2.1
        rw [List.drop_zero, Nat.sub_zero, hlen.out, topv_all, hv.out] at this
        exact this
      have hrd := hinv.2.2.2
      have e1 : m / d = val Q := by rw [← hfin, Nat.mul_comm, Nat.mul_add_div hd, Nat.div_eq_of_lt hrd, Nat.add_zero]
      have e2 : m % d = rest := by rw [← hfin, Nat.mul_comm, Nat.mul_add_mod, Nat.mod_eq_of_lt hrd]
      have hsl := hBl.sl (off := 0) (n := n) (c := n) (by omega) (Nat.le_refl _) (by omega)
      rw [List.drop_zero, List.take_of_length_le (by omega)] at hsl
      replace e1 := Lib.hid e1
      replace e2 := Lib.hid e2
      replace hQg := Lib.hid hQg
      replace hQl := Lib.hid hQl
      clear hinv hfin hrd
      go_wp2_with (go_at_call 54; refine (made_any false _ _ _ _ wr hsl hQg.out (by omega)).mono ?_; rintro e W ⟨neg', A', n', c', rfl, hi', hB'⟩; have hfd := run_groups neg' A' n' c')
      go_ret2
      rw [e1.out, e2.out]
      refine ⟨A', n', c', rfl, ?_, hB.trans (hB'.mono hB.size)⟩
      have := hi'.mm
      rw [sgnd_natAbs] at this
      exact this.mono hnk
    · obtain ⟨x, rfl⟩ : ∃ x, p = x + 1 := ⟨p - 1, by omega⟩
      obtain rfl : q = (x : Int) := by omega
      clear hq hp0
      have hxn : x < n := by omega
      have hsr := hs.below hB (Nat.le_refl _)
      obtain ⟨b, off, rfl, hbl, hcell⟩ := hsr.at_ (by omega)
      have hcx := hcell x hxn
      clear hcell hsr
      obtain ⟨u, hu⟩ : ∃ u, nth l x = u := ⟨_, rfl⟩
      have hu9 : u < 1000000000 := by rw [← hu]; exact hg.out.get x
      rw [hu] at hcx
      have hr := hinv.2.2.2
      obtain ⟨s, hsS⟩ : ∃ s, rest * 1000000000 + u = s := ⟨_, rfl⟩
      have hsI : (rest : Int) * 1000000000 + (u : Int) = (s : Int) := by omega
      have hs18 : s < 1000000000000000000 := by omega
      have hstep := hinv.step hlen.out hxn hg.out hd (s := s) (by rw [hu, hsS])
      obtain ⟨qd, hqd⟩ : ∃ qd, s / d = qd := ⟨_, rfl⟩
      obtain ⟨rd, hrd⟩ : ∃ rd, s % d = rd := ⟨_, rfl⟩
      rw [hqd, hrd] at hstep
      have hqI : (s : Int) / (d : Int) = (qd : Int) := by rw [← hqd]; exact (Int.natCast_ediv s d).symm
      have hrI : (s : Int) % (d : Int) = (rd : Int) := by rw [← hrd]; exact (Int.natCast_emod s d).symm
      have hq9 : qd < 1000000000 := by
        have := hstep.2.1.get x
        unfold nth at this
        rw [List.getElem?_set_self (by rw [hinv.1]; exact hxn)] at this
        exact this
      have hrd9 : rd < d := hstep.2.2.2
      have hwq : IntKind.u32.wrap (qd : Int) = (qd : Int) := wrap32 hq9
      have hwq2 : IntKind.u64.wrap (qd : Int) = (qd : Int) := by rw [IntKind.wrap_u64]; omega
      have hQx := hBl.cell (i := x) (by rw [hinv.1]; exact hxn)
      have hQf := hBl.frozen x
      have hd0 : ((d : Int) == 0) = false := by rw [beq_eq_false_iff_ne]; omega
      replace hstep := Lib.hid hstep
      replace hu := Lib.hid hu
      replace hqd := Lib.hid hqd
      replace hrd := Lib.hid hrd
      replace hsS := Lib.hid hsS
      clear hinv
      have hrIh := Lib.hid hrI
      go_wp2
      exact ⟨⟨x, _, Q.set x qd, rd, by omega, rfl, rfl, by first | rfl | rw [hrIh.out], hBl.set x qd, hstep.out, hB.setCell (p := ⟨w.heap.size, x, none⟩) (Nat.le_refl _) _⟩, (by first | (simp [intOf]; done) | (simp [intOf]; omega))⟩

end Go.Proofs.YtabibkhcdamlhaaDoor

/-
  Walk over the reference: Log.
-/
namespace Go.Proofs.YtabibkhcdamlhaaDoor
open Go.RowKit Num

/-- The greatest k with 2 to the power k at most m, -1 for 0. -/
def lgz (m : Nat) : Int := if m = 0 then -1 else (Nat.log2 m : Int)
theorem lgz_eq {m e : Nat} (h1 : 2 ^ e ≤ m) (h2 : m < 2 ^ (e + 1)) : lgz m = (e : Int) := by
  have h0 : m ≠ 0 := fun h => by subst h; have := Nat.two_pow_pos e; omega
  unfold lgz
  rw [if_neg h0, (Nat.log2_eq_iff h0).2 ⟨h1, h2⟩]
theorem lgz_zero : lgz 0 = -1 := rfl

theorem MM.big {w : World} {A : Option Addr} {n c m k : Nat} (h : MM w A n c m k) (hn : 1 < n) : 1000000000 ≤ m := by
  obtain ⟨l, hs, hc, rfl, hk⟩ := h
  have hl := hs.len
  rcases (can_iff.1 hc).2 with h0 | h0
  · rw [h0] at hl; simp at hl; omega
  · have h1 := topv_succ (l := l) (k := l.length - 2) (by omega)
    have h2 := topv_le (l := l) (k := l.length) (Nat.le_refl _)
    have h3 : 1 ≤ topv l 1 := by
      have := topv_succ (l := l) (k := 0) (by omega)
      rw [topv_zero] at this
      have hp := Nat.pos_of_ne_zero h0
      simp at this
      omega
    have h4 : topv l 1 * 1000000000 ≤ topv l 2 := by
      have e : topv l 2 = topv l 1 * 1000000000 + nth l (l.length - (1 + 1)) := topv_succ (l := l) (k := 1) (by omega)
      omega
    have h5 := topv_le (l := l) (k := 2) (by omega)
    omega
theorem MM.one {w : World} {A : Option Addr} {n c m k : Nat} (h : MM w A n c m k) (hn : n ≤ 1) : ∃ l, Sl w A n c l ∧ (∀ j, nth l j < 4294967296) ∧ nth l 0 = m ∧ m < 1000000000 := by
  obtain ⟨l, hs, hc, rfl, hk⟩ := h
  have hl := hs.len
  refine ⟨l, hs, fun j => by have := hc.1.get j; omega, ?_⟩
  match l, hl with
  | [], _ => exact ⟨rfl, by decide⟩
  | [a], _ => exact ⟨by simp [nth, val], by have := hc.1 a (by simp); simp [val]; exact this⟩
  | a :: b :: r, hl => simp at hl; omega
theorem MM.log {w : World} {A : Option Addr} {n c m k : Nat} (h : MM w A n c m k) : m < 2 ^ (30 * k) := by
  obtain ⟨l, hs, hc, rfl, hk⟩ := h
  have h1 := val_lt hc.1
  have h2 : ∀ j, pw j ≤ 2 ^ (30 * j) := by
    intro j
    induction j with
    | zero => simp [pw_zero]
    | succ j ih =>
      rw [pw_succ, show 30 * (j + 1) = 30 * j + 30 by omega, Nat.pow_add]
      exact Nat.mul_le_mul ih (by decide)
  have h3 := h2 l.length
  have h4 : 2 ^ (30 * l.length) ≤ 2 ^ (30 * k) := Nat.pow_le_pow_right (by omega) (by have := hs.len; omega)
  omega

set_option maxRecDepth 100000 in
set_option maxHeartbeats 4000000 in
/-- Log of the reference. -/
theorem rLog_any (neg : Bool) (A : Option Addr) (n c : Nat) (z : Int) (k : Nat) (w : World) (h : VI w neg A n c z k) (hk : k ≤ 1000000) :
    Calls Tryd.prog 26 #[.agg #[.bool neg, .slice A n c]] w fun e w' => e = .returned (.int .i64 (lgz z.natAbs)) ∧ Below w.heap.size w w' := by
  have hb1 := (Below.refl w.heap.size w).alloc (Nat.le_refl _) (.cells #[.bool neg, .slice A n c] 24)
  obtain ⟨m, hm⟩ : ∃ m, z.natAbs = m := ⟨_, rfl⟩
  rw [hm]
  go_enter Tryd.func26, Tryd.ntmps26
  go_wp2_with (go_at_call 13; refine (Value_any _ _ _ _ z k _ (h.below hb1) (by omega)).mono ?_; rintro e w1 ⟨neg1, A1, n1, c1, rfl, hi1, hb3⟩; have hb4 := hb1.trans (hb3.mono (by simp)); have hfd := run_groups neg1 A1 n1 c1)
  have hmm := hi1.mm
  rw [hm] at hmm
  have hlog := hmm.log
  replace hm := Lib.hid hm
  clear hi1 hfd h hb1 hb3
  have hL : ∀ j : Nat, 2 ^ j ≤ m → (j : Int) < 30000000 := fun j hj => by
    have : 2 ^ j < 2 ^ (30 * k) := Nat.lt_of_le_of_lt hj hlog
    have := (Nat.pow_lt_pow_iff_right (by omega : 1 < 2)).1 this
    omega
  replace hL := Lib.hid hL
  replace hlog := Lib.hid hlog
  go_loopw [3, 4] (fun s kv wr => ∃ (j : Nat) (q : Int) (A2 : Option Addr) (n2 c2 M : Nat), s = .slice A2 n2 c2 ∧ kv = .int .i64 q ∧ q = 29 * (j : Int) - 1 ∧ m / 2 ^ (29 * j) = M ∧ (j = 0 ∨ 1 ≤ M) ∧ MM wr A2 n2 c2 M k ∧ Below w.heap.size w wr) (fun _ kv _ => (30000000 - intOf kv).toNat)
  case atStart => exact ⟨0, -1, A1, n1, c1, m, rfl, rfl, by omega, by simp, .inl rfl, hmm, hb4⟩
  case round =>
    obtain ⟨j, q, A2, n2, c2, M, rfl, rfl, hq, hM, hj, hmr, hB⟩ := hrel
    have hcap := hmr.choose_spec.1.le_cap
    have hcl := hmr.choose_spec.1.cap_le
    have hpj : j = 0 ∨ 2 ^ (29 * j) ≤ m := by
      rcases hj with h | h
      · exact .inl h
      · right
        rw [← hM] at h
        exact (Nat.one_le_div_iff (Nat.two_pow_pos _)).1 h
    have hjb : (j : Int) < 30000000 := by
      rcases hpj with h | h
      · omega
      · have := hL.out _ h; omega
    have hq29 : 29 * (j : Int) < 30000000 := by
      rcases hpj with h | h
      · omega
      · have := hL.out _ h; omega
    by_cases hn2 : 1 < n2
    · have hbig := hmr.big hn2
      have hnI : (1 : Int) < (n2 : Int) := by omega
      have hM2 : m / 2 ^ (29 * (j + 1)) = M / 536870912 := by
        rw [show 29 * (j + 1) = 29 * j + 29 by omega, Nat.pow_add, ← Nat.div_div_eq_div_mul, hM]
      replace hM := Lib.hid hM
      replace hM2 := Lib.hid hM2
      replace hpj := Lib.hid hpj
      replace hj := Lib.hid hj
      go_wp2_with (go_at_call 62; refine (rshort_any A2 n2 c2 M k 536870912 _ hmr (by omega) (by omega) (by omega)).mono ?_; rintro e w2 ⟨A3, n3, c3, rfl, hm3, hb5⟩)
      go_roundw
      case rel => exact ⟨j + 1, _, A3, n3, c3, _, rfl, rfl, by omega, hM2.out, .inr (by omega), hm3, hB.trans (hb5.mono hB.size)⟩
      case measure => simp [intOf]; omega
    · obtain ⟨l', hs', hl', hl0, hM9⟩ := hmr.one (by omega)
      have hnI : ¬ (1 : Int) < (n2 : Int) := by omega
      have hgr := group_any A2 n2 c2 l' 0 wr hs' hl' (by omega)
      rw [hl0] at hgr
      replace hM := Lib.hid hM
      replace hpj := Lib.hid hpj
      replace hj := Lib.hid hj
      replace hgr := Lib.hid hgr
      replace hl' := Lib.hid hl'
      replace hl0 := Lib.hid hl0
      clear hmr hn2
      go_wp2_with (go_at_call 63; refine (hgr.out).mono ?_; rintro e w' ⟨rfl, rfl⟩)
      go_loopw [5, 4] (fun tv kv wr2 => ∃ (t i : Nat) (q2 : Int), tv = .int .u64 ((t : Nat) : Int) ∧ kv = .int .i64 q2 ∧ q2 = q + (i : Int) ∧ M / 2 ^ i = t ∧ (i = 0 ∨ 2 ^ (i - 1) ≤ M) ∧ wr2 = wr) (fun tv _ _ => (intOf tv).toNat)
      case atStart => exact ⟨M, 0, _, rfl, rfl, by omega, by simp, .inl rfl, rfl⟩
      case round =>
        obtain ⟨t, i, q2, rfl, rfl, hq2, ht, hi, rfl⟩ := hrel
        have hib : i ≤ 30 := by
          rcases hi with h | h
          · omega
          · have : 2 ^ (i - 1) < 2 ^ 30 := Nat.lt_of_le_of_lt h (by omega)
            have := (Nat.pow_lt_pow_iff_right (by omega : 1 < 2)).1 this
            omega
        by_cases ht0 : 0 < t
        · have htI : (0 : Int) < (t : Int) := by omega
          have ht9 : t ≤ M := by rw [← ht]; exact Nat.div_le_self _ _
          have h2i : 2 ^ i ≤ M := by
            rw [← ht] at ht0
            exact (Nat.one_le_div_iff (Nat.two_pow_pos _)).1 ht0
          have hnext : M / 2 ^ (i + 1) = t / 2 := by rw [Nat.pow_succ, ← Nat.div_div_eq_div_mul, ht]
          obtain ⟨t2, ht2⟩ : ∃ t2, t / 2 = t2 := ⟨_, rfl⟩
          have ht2I : (t : Int) / 2 = (t2 : Int) := by omega
          have hlt2 : t2 < t := by omega
          rw [ht2] at hnext
          replace hnext := Lib.hid hnext
          replace h2i := Lib.hid h2i
          replace ht := Lib.hid ht
          replace hi := Lib.hid hi
          replace ht2 := Lib.hid ht2
          go_wp2
          exact ⟨⟨t2, i + 1, _, rfl, rfl, by omega, hnext.out, .inr (by simpa using h2i.out), trivial⟩, (by first | (simp [intOf]; done) | (simp [intOf]; omega))⟩
        · obtain rfl : t = 0 := by omega
          have hres : q2 = lgz m := by
            rcases Nat.eq_zero_or_pos i with h0 | h0
            · subst h0
              have hM0 : M = 0 := by simpa using ht
              have hj0 : j = 0 := by
                rcases hj.out with h | h
                · exact h
                · omega
              have := hM.out
              rw [hj0, hM0] at this
              simp at this
              rw [this, lgz_zero, hq2, hq, hj0]
              rfl
            · have hlo : 2 ^ (i - 1) ≤ M := by
                rcases hi with h | h
                · omega
                · exact h
              have hhi : M < 2 ^ i := by
                rcases Nat.lt_or_ge M (2 ^ i) with h | h
                · exact h
                · have := (Nat.one_le_div_iff (Nat.two_pow_pos i)).2 h
                  omega
              have hMd := hM.out
              have h1 : 2 ^ (29 * j + (i - 1)) ≤ m := by
                rw [Nat.pow_add, Nat.mul_comm]
                rw [← hMd] at hlo
                exact (Nat.le_div_iff_mul_le (Nat.two_pow_pos _)).1 hlo
              have h2 : m < 2 ^ (29 * j + (i - 1) + 1) := by
                rw [show 29 * j + (i - 1) + 1 = 29 * j + i by omega, Nat.pow_add, Nat.mul_comm]
                rw [← hMd] at hhi
                exact (Nat.div_lt_iff_lt_mul (Nat.two_pow_pos _)).1 hhi
              rw [lgz_eq h1 h2, hq2, hq]
              omega
          subst hres
          replace ht := Lib.hid ht
          replace hi := Lib.hid hi
          replace hq2 := Lib.hid hq2
          go_wp2
          go_ret
          exact ⟨rfl, hB⟩

end Go.Proofs.YtabibkhcdamlhaaDoor
