/-
  Walk over the reference: parts.
-/
import Derived.Test.YtabibkhcdamlhaaDoorPtN
import Derived.Test.YtabibkhcdamlhaaDoorShD
import Derived.Test.YtabibkhcdamlhaaDoorScl
import Derived.Test.YtabibkhcdamlhaaDoorMf
import Derived.Test.YtabibkhcdamlhaaDoorDg
set_option linter.unusedSimpArgs false
set_option linter.unusedVariables false
namespace Go.Proofs.YtabibkhcdamlhaaDoor
open Go.RowKit Num

theorem size_c {A : Option Addr} {n c : Nat} {A2 : Option Addr} {n2 c2 ma mb k k2 : Nat} {w : World} {s : Int} (hs : cmpi (ma : Int) (mb : Int) = s) (ha : MM w A n c ma k) (hb : MM w A2 n2 c2 mb k2) (hk : k ≤ 1000000000) :
    Calls Tryd.prog 67 #[.slice A n c, .slice A2 n2 c2] w fun e w' => e = .returned (.int .i64 s) ∧ Below w.heap.size w w' := hs ▸ size_any A n c A2 n2 c2 ma mb k k2 w ha hb hk

theorem group_q {A : Option Addr} {n c : Nat} {R : List Nat} {w : World} (hs : Sl w A n c R) (hR : ∀ i, nth R i < 1000000000) (i mm : Nat) (hi : i ≤ 1000000000) :
    Calls Tryd.prog 63 #[.slice A n c, .int .i64 (i : Int)] (w.drewN mm) fun e w' => e = .returned (.int .u64 ((nth R i : Nat) : Int)) ∧ w' = w.drewN mm :=
  (group_any A n c R i (w.drewN mm) (hs.drewN mm) (fun j => by have := hR j; omega) hi).mono fun _ _ h => ⟨h.1, h.2.symm⟩

/-- Quotient and rest. -/
def RetP (w : World) (m d ka kd : Nat) (e : Ending) (w' : World) : Prop :=
  ∃ A3 n3 c3 A4 n4 c4, e = .returned (.tuple #[.slice A3 n3 c3, .slice A4 n4 c4]) ∧ MM w' A3 n3 c3 (m / d) ka ∧ MM w' A4 n4 c4 (m % d) kd ∧ Below w.heap.size w w'

set_option maxRecDepth 100000 in
set_option maxHeartbeats 4000000 in
/-- parts, where the divisor has one group. -/
theorem rparts_one (A : Option Addr) (na ca m ka : Nat) (A2 : Option Addr) (cb d kd : Nat) (w : World) (ha : MM w A na ca m ka) (hb : MM w A2 1 cb d kd) (hka : ka ≤ 1000000) (hd : 0 < d) :
    Calls Tryd.prog 72 #[.slice A na ca, .slice A2 1 cb] w (RetP w m d ka kd) := by
  have hb' := hb
  obtain ⟨lb, hsb, hcb, hvb, hnb⟩ := hb
  have hlb := hsb.len
  have hd0 : nth lb 0 = d := by
    match lb, hlb with
    | [x], _ => rw [← hvb]; simp [val, nth]
  have hd9 : d < 1000000000 := by rw [← hd0]; exact hcb.1.get 0
  obtain ⟨kb, ob, rfl, hkb, hc⟩ := hsb.at_ (by omega)
  have hc0 := hc 0 (by omega)
  rw [hd0, Nat.add_zero] at hc0
  have hcap := hsb.le_cap
  obtain ⟨r, hr⟩ : ∃ r, m % d = r := ⟨_, rfl⟩
  have hr9 : r < 1000000000 := by have := Nat.mod_lt m hd; omega
  have hrd : r ≤ d := by have := Nat.mod_lt m hd; omega
  have hwr : IntKind.u32.wrap (r : Int) = (r : Int) := wrap32 hr9
  have hsh := fun w (h : MM w A na ca m ka) => rshort_any A na ca m ka d w h (by omega) hd (by omega)
  rw [hr] at hsh
  replace hsh := Lib.hid hsh
  replace hr := Lib.hid hr
  clear hc hlb hsb hcb hvb hnb hd0
  go_enter Tryd.func72, Tryd.ntmps72
  go_wp2_with (first | (go_at_call 62; refine (hsh.out _ ha).mono ?_; rintro e w2 ⟨A3, n3, c3, rfl, hq3, hb3⟩; have hslr : Sl (w2.alloc (.cells (cells [r]).toArray 48)) (some ⟨w2.heap.size, 0, none⟩) 1 1 [r] := (Bl.new w2 [r]).sl (off := 0) (n := 1) (c := 1) (by simp) (Nat.le_refl _) (by omega); replace hslr := Lib.hid hslr; have hbn := (Below.refl w2.heap.size w2).alloc (Nat.le_refl _) (.cells (cells [r]).toArray 48)) | (go_at_call 54; refine (made_any false _ _ _ [r] _ hslr.out (Grp.cons hr9 Grp.nil) (by omega)).mono ?_; rintro e w4 ⟨neg4, A4, n4, c4, rfl, hi4, hb4⟩; replace hb4 := Below.trans hbn (hb4.mono (by simp)); have hfd := run_groups neg4 A4 n4 c4))
  refine bodyPost_ret (v := .tuple #[.slice A3 n3 c3, .slice A4 n4 c4]) (by simp [results, Tryd.results72, go_sem]) rfl ?_
  have hm4 := hi4.mm
  rw [sgnd_natAbs, show val [r] = r by simp [val]] at hm4
  refine ⟨_, _, _, _, _, _, rfl, hq3.below hb4, ?_, hb3.trans (hb4.mono hb3.size)⟩
  rw [hr.out]
  exact hm4.tight hb' hrd

set_option maxRecDepth 100000 in
set_option maxHeartbeats 4000000 in
/-- parts, where the divisor is above the dividend. -/
theorem rparts_less (A : Option Addr) (na ca m ka : Nat) (A2 : Option Addr) (n cb d kd : Nat) (w : World) (ha : MM w A na ca m ka) (hb : MM w A2 n cb d kd) (hka : ka ≤ 1000000) (h1 : n ≠ 1) (hlt : m < d) :
    Calls Tryd.prog 72 #[.slice A na ca, .slice A2 n cb] w (RetP w m d ka kd) := by
  obtain ⟨s, hs, hs0⟩ := cmpi_lt0 hlt
  have hq : m / d = 0 := Nat.div_eq_of_lt hlt
  have hr : m % d = m := Nat.mod_eq_of_lt hlt
  have h1I : ¬ (n : Int) = 1 := by omega
  go_enter Tryd.func72, Tryd.ntmps72
  go_wp2_with (go_at_call 67; refine (size_c hs ha hb (by omega)).mono ?_; rintro e w1 ⟨rfl, hb1⟩)
  refine bodyPost_ret (v := .tuple #[.slice (some ⟨w1.heap.size, 0, none⟩) 0 0, .slice A na ca]) (by simp [results, Tryd.results72, go_sem]) rfl ?_
  have hbn : Below w.heap.size w (w1.alloc (.cells #[] 48)) := hb1.alloc hb1.size _
  refine ⟨_, _, _, _, _, _, rfl, ?_, ?_, hbn⟩
  · rw [hq]
    exact ⟨[], ⟨rfl, Nat.le_refl _, by omega, fun h => by omega⟩, Cano.nil, rfl, Nat.zero_le _⟩
  · rw [hr]
    exact (ha.below hbn).tight hb (by omega)

set_option maxRecDepth 100000 in
set_option maxHeartbeats 4000000 in
/-- parts, group by group. -/
theorem rparts_long (A : Option Addr) (na ca m ka : Nat) (A2 : Option Addr) (n cb d kd : Nat) (w : World) (ha : MM w A na ca m ka) (hb : MM w A2 n cb d kd) (hka : ka ≤ 1000000) (hkd : kd ≤ 1000000) (h1 : n ≠ 1) (hd : 0 < d) (hle : d ≤ m) :
    Calls Tryd.prog 72 #[.slice A na ca, .slice A2 n cb] w (RetP w m d ka kd) := by
  obtain ⟨s, hs, hs0⟩ := cmpi_ge0 hle
  have h1I : ¬ (n : Int) = 1 := by omega
  have ha' := ha
  have hb' := hb
  obtain ⟨lb, hsb, hcb, hvb, hnb⟩ := hb'
  have hlb := hsb.len
  have hn0 : n ≠ 0 := fun h => by
    have : lb = [] := by apply List.eq_nil_of_length_eq_zero; omega
    rw [this, val_nil] at hvb; omega
  obtain ⟨n1, hn1⟩ : ∃ n1, n1 + 1 = n := ⟨n - 1, by omega⟩
  have hn1p : 0 < n1 := by omega
  obtain ⟨top, htop⟩ : ∃ top, nth lb n1 = top := ⟨_, rfl⟩
  have ht9 : top < 1000000000 := by rw [← htop]; exact hcb.1.get _
  obtain ⟨T1, hT1⟩ : ∃ T1, top + 1 = T1 := ⟨_, rfl⟩
  obtain ⟨F, hF⟩ : ∃ F, 1000000000 / T1 = F := ⟨_, rfl⟩
  obtain ⟨hF0, hF9, hFb⟩ := factor_len (n1 := n1) (F := F) (by omega) hcb.1 htop ht9 (by rw [hT1]; exact hF)
  obtain ⟨kb, ob, rfl, hkb, hc⟩ := hsb.at_ (by omega)
  have hct := hc n1 (by omega)
  rw [htop] at hct
  have hcap := hsb.le_cap
  have hcl := hsb.cap_le
  have hpb := hcb.pos (by intro h; rw [h] at hlb; simp at hlb; omega)
  rw [← hlb, show n - 1 = n1 by omega, hvb] at hpb
  rw [hvb] at hFb
  have hn1I : (n : Int) - 1 = (n1 : Int) := by omega
  have hn1n : (n1 : Int) < (n : Int) := by omega
  have hT1I : (top : Int) + 1 = (T1 : Int) := by omega
  have hFI : (1000000000 : Int) / (T1 : Int) = (F : Int) := by rw [← hF]; simp
  have hT10 : ((T1 : Int) == 0) = false := by rw [beq_eq_false_iff_ne]; omega
  have ht9I : (top : Int) ≤ 999999999 := by omega
  have hF9I : (F : Int) ≤ 1000000000 := by omega
  have tok1 : True := trivial
  replace hs := Lib.hid hs
  replace hF := Lib.hid hF
  replace hT1 := Lib.hid hT1
  replace htop := Lib.hid htop
  replace hpb := Lib.hid hpb
  replace hFb := Lib.hid hFb
  replace hlb := Lib.hid hlb
  clear hc hvb hnb hcb hsb
  go_enter Tryd.func72, Tryd.ntmps72
  go_upto_region 9 with (first | (go_at_call 67; refine (size_c hs.out ha hb (by omega)).mono ?_; rintro e w1 ⟨rfl, hb1⟩; have hct1 := (hb1.cell (p := ⟨kb, ob + n1, none⟩) hkb).trans hct) | (go_at_call 94; have _t := tok1; clear tok1 _t; refine (scaled_any _ _ _ F m ka _ (ha.below hb1) (by omega) hF9).mono ?_; rintro e w2 ⟨A5, n5, c5, rfl, hm5, hb5⟩; have hbw2 := hb1.trans (hb5.mono hb1.size)) | (go_at_call 94; refine (scaled_any _ _ _ F d kd _ (hb.below hbw2) (by omega) hF9).mono ?_; rintro e w3 ⟨A6, n6, c6, rfl, hm6, hb6⟩; replace hm5 := hm5.below hb6; have hbw3 := hbw2.trans (hb6.mono hbw2.size)))
  obtain ⟨m2, hm2⟩ : ∃ m2, m * F = m2 := ⟨_, rfl⟩
  obtain ⟨d2, hd2⟩ : ∃ d2, d * F = d2 := ⟨_, rfl⟩
  rw [hm2] at hm5
  rw [hd2] at hm6
  have hFd : d2 < pw (n1 + 1) := by rw [← hd2]; exact hFb.out
  have hd20 : 0 < d2 := by rw [← hd2]; exact Nat.mul_pos hd hF0
  have hdd2 : d ≤ d2 := by rw [← hd2]; exact Nat.le_mul_of_pos_right _ hF0
  have hdm2 : d2 ≤ m2 := by rw [← hd2, ← hm2]; exact Nat.mul_le_mul_right _ hle
  have hpd : pw n1 ≤ d2 := Nat.le_trans hpb.out hdd2
  have hmd6 := hm6
  obtain ⟨la2, hsa2, hca2, hva2, hna2⟩ := hm5
  obtain ⟨lb2, hsb2, hcb2, hvb2, hnb2⟩ := hm6
  have hla2 := hsa2.len
  have hlb2 := hsb2.len
  have hl2 : lb2.length = n1 + 1 := Nat.le_antisymm (can_len hcb2 (by rw [hvb2]; exact hFd)) (can_len_ge hcb2 (by rw [hvb2]; exact hpd))
  have hn6 : n = n6 := by omega
  subst hn6
  have hl3 : n1 + 1 ≤ la2.length := can_len_ge hca2 (by rw [hva2]; omega)
  obtain ⟨D, hD⟩ : ∃ D, n5 - n = D := ⟨_, rfl⟩
  obtain ⟨N, hN⟩ : ∃ N, D + 1 = N := ⟨_, rfl⟩
  have hDI : (n5 : Int) - (n : Int) = (D : Int) := by omega
  have hNI : (D : Int) + 1 = (N : Int) := by omega
  have hN5 : N ≤ n5 := by omega
  have hN5I : (N : Int) ≤ (n5 : Int) := by omega
  have h5N : n5 - N = n1 := by omega
  have hmk := run_make_u32 .i64 .i64 (N : Int) N rfl (by omega)
  obtain ⟨b5, o5, rfl, hb5l, hcell5⟩ := hsa2.at_ (by omega)
  clear hb5l hcell5
  have hsl : Hid (Sl w3 (some ⟨b5, o5 + N, none⟩) n1 (c5 - N) (la2.drop N)) := by
    have h1 := hsa2.drop (k := N) hN5
    have h2 := hsa2.le_cap
    rw [if_neg (by omega : ¬ c5 = N), h5N, show Option.map (fun x => Addr.add x N) (some (⟨b5, o5, none⟩ : Addr)) = some ⟨b5, o5 + N, none⟩ by first | rfl | simp [go_sem]] at h1
    exact Lib.hid h1
  have hgl := Lib.hid (hca2.1.drop N)
  have hr0 : val (la2.drop N) < d2 := by
    have := val_lt (hca2.1.drop N)
    rw [List.length_drop, ← hla2, h5N] at this
    omega
  obtain ⟨rest0, hrest0⟩ : ∃ r, val (la2.drop N) = r := ⟨_, rfl⟩
  rw [hrest0] at hr0
  obtain ⟨top2, htop2⟩ : ∃ t, nth lb2 n1 = t := ⟨_, rfl⟩
  have ht29 : top2 < 1000000000 := by rw [← htop2]; exact hcb2.1.get _
  have hacap := hsa2.le_cap
  have hacl := hsa2.cap_le
  have hbcap2 := hsb2.le_cap
  have hbcl2 := hsb2.cap_le
  have hga2 := Lib.hid hca2.1
  have hgb2 := Lib.hid hcb2.1
  replace hva2 := Lib.hid hva2
  replace hvb2 := Lib.hid hvb2
  replace hm2 := Lib.hid hm2
  replace hd2 := Lib.hid hd2
  replace hrest0 := Lib.hid hrest0
  replace htop2 := Lib.hid htop2
  replace hFd := Lib.hid hFd
  replace hpd := Lib.hid hpd
  replace hla2 := Lib.hid hla2
  replace hlb2 := Lib.hid hlb2
  replace hl2 := Lib.hid hl2
  replace hl3 := Lib.hid hl3
  replace hD := Lib.hid hD
  replace hN := Lib.hid hN
  clear hca2 hcb2 hb1 hb5 hbw2 hct hct1 hF9I hT10 hFI
  go_upto_region 10 with (go_at_call 54; refine (made_any false _ _ _ (la2.drop N) _ hsl.out hgl.out (by omega)).mono ?_; rintro e w4 ⟨neg7, A7, n7, c7, rfl, hi7, hb7⟩; have hfd := run_groups neg7 A7 n7 c7)
  have hm7 : MM w4 A7 n7 c7 rest0 (kd + 1) := by
    have := hi7.mm
    rw [sgnd_natAbs, hrest0.out] at this
    exact this.tight hmd6 (Nat.le_of_lt hr0)
  have hmd4 := hmd6.below hb7
  have hsa4 := hsa2.below hb7 (Nat.le_refl _)
  have hsb4 := hsb2.below hb7 (Nat.le_refl _)
  have hbw4 := hbw3.trans (hb7.mono hbw3.size)
  have hBq := Bl.new w4 (zeros N)
  have hbq := (Below.refl w4.heap.size w4).alloc (Nat.le_refl _) (.cells (cells (zeros N)).toArray 48)
  have hmL : MM (w4.alloc (.cells (cells (zeros N)).toArray 48)) A7 n7 c7 rest0 (kd + 1) := hm7.below hbq
  have hinv0 : PtInv la2 d2 (zeros N) N N rest0 := PtInv.start (zeros_length N) (fun i => nth_zeros _ _) hrest0.out hr0
  clear hi7 hsa2 hsb2 hmd6 hsl hm7 hb7 hb6 hbw3
  go_wp2
  go_loopw [10, 12, 13] (fun rv iv _ wr => ∃ (p : Nat) (q : Int) (Q : List Nat) (A8 : Option Addr) (n8 c8 rest : Nat), p ≤ N ∧ iv = .int .i64 q ∧ q = (p : Int) - 1 ∧ rv = .slice A8 n8 c8 ∧ MM wr A8 n8 c8 rest (kd + 1) ∧ Bl wr w4.heap.size Q ∧ PtInv la2 d2 Q N p rest ∧ Below w4.heap.size w4 wr) (fun _ iv _ _ => (intOf iv + 1).toNat)
  case atStart => exact ⟨N, _, zeros N, A7, n7, c7, rest0, Nat.le_refl _, rfl, by omega, rfl, hmL, hBq, hinv0, hbq⟩
  case round =>
    clear hmL hBq hinv0 hr0 hbq hfd
    obtain ⟨p, q, Q, A8, n8, c8, rest, hp, rfl, hq, rfl, hmr, hBl, hinv, hBw⟩ := hrel
    by_cases hp0 : p = 0
    · subst hp0
      obtain rfl : q = -1 := by omega
      clear hq
      obtain ⟨eq, er⟩ := hinv.done
      rw [hva2.out, ← hm2.out, ← hd2.out, Nat.mul_div_mul_right _ _ hF0] at eq
      rw [hva2.out, ← hm2.out, ← hd2.out, Nat.mul_mod_mul_right] at er
      have er2 : rest / F = m % d := by rw [er]; exact Nat.mul_div_cancel _ hF0
      have hQl : Q.length = N := hinv.1
      have hQg : Grp Q := fun y hy => by
        obtain ⟨i, hi, rfl⟩ := List.mem_iff_getElem.1 hy
        rw [← nth_eq hi]
        exact hinv.2.1 i
      have hsh := rshort_any A8 n8 c8 rest (kd + 1) F wr hmr (by omega) hF0 hF9
      rw [er2] at hsh
      have hmd := Nat.mod_lt m hd
      have hdv : m / d ≤ m := Nat.div_le_self _ _
      replace hsh := Lib.hid hsh
      replace eq := Lib.hid eq
      replace er := Lib.hid er
      replace er2 := Lib.hid er2
      replace hQg := Lib.hid hQg
      have hQl' := hQl
      replace hQl := Lib.hid hQl
      clear hinv hmr hQl'
      go_wp2_with (first | (go_at_call 62; refine hsh.out.mono ?_; rintro e w8 ⟨A9, n9, c9, rfl, hm9, hb9⟩; have hslq : Sl w8 (some ⟨w4.heap.size, 0, none⟩) N N Q := (by have h1 := (hBl.below hb9 (by have := hBl.lt; omega)).sl (off := 0) (n := N) (c := N) (by have := hQl.out; omega) (Nat.le_refl _) (by omega); rwa [List.drop_zero, List.take_of_length_le (by have := hQl.out; omega)] at h1); replace hslq := Lib.hid hslq) | (go_at_call 54; refine (made_any false _ _ _ Q _ hslq.out hQg.out (by omega)).mono ?_; rintro e w10 ⟨neg10, A10, n10, c10, rfl, hi10, hb10⟩; have hfd := run_groups neg10 A10 n10 c10))
      refine bodyPost_ret (v := .tuple #[.slice A10 n10 c10, .slice A9 n9 c9]) (by simp [results, Tryd.results72, go_sem]) rfl ?_
      have hm10 := hi10.mm
      rw [sgnd_natAbs, eq.out] at hm10
      have hBX : Below w.heap.size w wr := hbw4.trans (hBw.mono hbw4.size)
      have hBX2 := hBX.trans (hb9.mono hBX.size)
      exact ⟨_, _, _, _, _, _, rfl, hm10.tight ha' hdv, (hm9.below hb10).tight hb (Nat.le_of_lt hmd), hBX2.trans (hb10.mono hBX2.size)⟩
    · obtain ⟨x, rfl⟩ : ∃ x, p = x + 1 := ⟨p - 1, by omega⟩
      obtain rfl : q = (x : Int) := by omega
      clear hq hp0
      have hxN : x < N := by omega
      have hxn : x < n5 := by omega
      have hsar := hsa4.below hBw (Nat.le_refl _)
      have hsbr := hsb4.below hBw (Nat.le_refl _)
      have hmdr := hmd4.below hBw
      obtain ⟨b5', o5', e5, hb5l, hcell5⟩ := hsar.at_ (by omega)
      simp only [Option.some.injEq, Addr.mk.injEq] at e5
      obtain ⟨rfl, rfl, -⟩ := e5
      have hcx := hcell5 x hxn
      obtain ⟨b6, o6, rfl, hb6l, hcell6⟩ := hsbr.at_ (by omega)
      have hct6 := hcell6 n1 (by omega)
      rw [htop2.out] at hct6
      obtain ⟨u, hu⟩ : ∃ u, nth la2 x = u := ⟨_, rfl⟩
      have hu9 : u < 1000000000 := by rw [← hu]; exact hga2.out.get x
      rw [hu] at hcx
      have hrd : rest < d2 := hinv.2.2.1
      obtain ⟨S, hS⟩ : ∃ S, rest * 1000000000 + u = S := ⟨_, rfl⟩
      obtain ⟨hq9, hnew⟩ := hinv.step (s := S) hxN (by have := hla2.out; omega) (by rw [hu]; exact hu9) (by rw [hu]; exact hS)
      have hSp : S < pw (n1 + 2) := by
        have h1 : (rest + 1) * 1000000000 ≤ pw (n1 + 1) * 1000000000 := Nat.mul_le_mul_right _ (by have := hFd.out; omega)
        rw [show n1 + 2 = (n1 + 1) + 1 from rfl, pw_succ]
        omega
      have hsft := fun (h : MM wr A8 n8 c8 rest (kd + 1)) => shifted_any A8 n8 c8 u rest (kd + 1) wr h (by omega) hu9
      rw [hS] at hsft
      obtain ⟨T2, hT2⟩ : ∃ T2, top2 + 1 = T2 := ⟨_, rfl⟩
      have hT2I : (top2 : Int) + 1 = (T2 : Int) := by omega
      have hT20 : ((T2 : Int) == 0) = false := by rw [beq_eq_false_iff_ne]; omega
      have hT29 : (T2 : Int) ≤ 1000000000 := by omega
      have ht29I : (top2 : Int) ≤ 999999999 := by omega
      have hQx := hBl.cell (i := x) (by rw [hinv.1]; exact hxN)
      have hQf := hBl.frozen x
      replace hsft := Lib.hid hsft
      replace hnew := Lib.hid hnew
      replace hu := Lib.hid hu
      replace hS := Lib.hid hS
      replace hSp := Lib.hid hSp
      replace hT2 := Lib.hid hT2
      have hQl : Hid (Q.length = N) := Lib.hid hinv.1
      clear hcell5 hcell6 hinv hsar
      go_upto_region 15 with (go_at_call 95; refine (hsft.out hmr).mono ?_; rintro e w5 ⟨A9, n9, c9, rfl, hm9, hb9⟩)
      have hm9' := hm9
      obtain ⟨R, hsR, hcR, hvR, hnR⟩ := hm9'
      have hRl : R.length ≤ n1 + 2 := can_len hcR (by rw [hvR]; exact hSp.out)
      have hgle := guess_le (R := R) (lb := lb2) (n1 := n1) (S := S) (top := top2) hRl hvR hl2.out hgb2.out htop2.out (by rw [hvb2.out]; exact hd20)
      rw [hvb2.out] at hgle
      have hR9 : ∀ i, nth R i < 1000000000 := fun i => hcR.1.get i
      have hgr := fun (i mm : Nat) (hi : i ≤ 1000000000) => group_q hsR hR9 i mm hi
      have hgN9 : nth R n < 1000000000 := hR9 n
      have hgN19 : nth R n1 < 1000000000 := hR9 n1
      rw [hn1] at hgle
      obtain ⟨TT, hTT⟩ : ∃ t, nth R n * 1000000000 + nth R n1 = t := ⟨_, rfl⟩
      rw [hTT, hT2.out] at hgle
      obtain ⟨G0, hG0⟩ : ∃ g, TT / T2 = g := ⟨_, rfl⟩
      rw [hG0] at hgle
      have hTTI : ((nth R n : Nat) : Int) * 1000000000 + ((nth R n1 : Nat) : Int) = (TT : Int) := by omega
      have hG0I : (TT : Int) / (T2 : Int) = (G0 : Int) := by rw [← hG0]; simp
      have hw1 : IntKind.u64.wrap (((nth R n : Nat) : Int) * 1000000000) = ((nth R n : Nat) : Int) * 1000000000 := by rw [IntKind.wrap_u64]; omega
      have hw2 : IntKind.u64.wrap (TT : Int) = (TT : Int) := by rw [IntKind.wrap_u64]; omega
      have hw3 : IntKind.u64.wrap (T2 : Int) = (T2 : Int) := by rw [IntKind.wrap_u64]; omega
      have hw4 : IntKind.u64.wrap (G0 : Int) = (G0 : Int) := by rw [IntKind.wrap_u64]; omega
      have hw5 : IntKind.u64.wrap (top2 : Int) = (top2 : Int) := by rw [IntKind.wrap_u64]; omega
      have hc5 := ((Below.refl wr.heap.size wr).trans hb9).cell (p := ⟨b6, o6 + n1, none⟩) hb6l
      have hct7 := hc5.trans hct6
      have hG9 : G0 ≤ 1000000000 := by omega
      have hG9I : (G0 : Int) ≤ 1000000000 := by omega
      have hdG : d2 * G0 ≤ S := by
        have h1 := Nat.mul_le_mul_left d2 hgle
        exact Nat.le_trans h1 (Nat.mul_div_le _ _)
      replace hgr := Lib.hid hgr
      have hn9 : n ≤ 1000000000 := by omega
      have hn19 : n1 ≤ 1000000000 := by omega
      replace hTT := Lib.hid hTT
      replace hG0 := Lib.hid hG0
      replace hgle := Lib.hid hgle
      clear hsR hcR hvR hnR hRl hR9 hc5 hct6
      go_quiet ((go_at_call 63; exact Calls.quiet_of_same (hgr.out _ _ (by assumption))))
      have hm5r : MM (w5.drewN nq) (some ⟨b6, o6, none⟩) n c6 d2 (kd + 1) := by
        obtain ⟨l, hs, hc, hv, hn⟩ := hmdr.below hb9
        exact ⟨l, hs.drewN nq, hc, hv, hn⟩
      have hBl5 : Bl w5 w4.heap.size Q := hBl.below hb9 hBl.lt
      have hBw5 : Below w4.heap.size w4 w5 := hBw.trans (hb9.mono hBw.size)
      clear hgr hw1 hw2 hw3 hw4 hw5 hTTI hG0I hct7 hcx hmr hmdr hsbr hb5l hb6l hgN9 hgN19 hT20 hT29 hT2I ht29I
      go_wp2_with (first | (go_at_call 94; refine (scaled_any _ _ _ G0 d2 (kd + 1) _ hm5r (by omega) hG9).mono ?_; rintro e w6 ⟨A10, n10, c10, rfl, hm10, hb10⟩; replace hb10 := undrewN hb10) | (go_at_call 68; refine (minus_mf _ _ _ _ _ _ S (d2 * G0) _ _ _ (hm9.below hb10) hm10 hdG (by omega)).mono ?_; rintro e w7 ⟨A11, n11, c11, rfl, hm11, hb11, hf11⟩))
      have hl56 : w4.heap.size < w5.heap.size := hBl5.lt
      have hs56 := hb10.size
      have hf7 : 0 < n11 → ∀ b o, A11 = some ⟨b, o, none⟩ → b ≠ w4.heap.size := fun h b o e => by have := hf11 h b o e; omega
      have hb67 := hb10.trans (hb11.mono hb10.size)
      have hBl7 : Bl w7 w4.heap.size Q := hBl5.below hb67 hBl5.lt
      have hBw7 : Below w4.heap.size w4 w7 := hBw5.trans (hb67.mono hBw5.size)
      clear hf11 hs56 hl56 hm9 hm10 hm5r hBl hBw hBl5 hBw5 hQx hQf hb9 hb10 hb11 hb67
      go_loopw [10, 13] (fun rv gv wi => ∃ (A12 : Option Addr) (n12 c12 r g : Nat), rv = .slice A12 n12 c12 ∧ gv = .int .u64 (g : Int) ∧ MM wi A12 n12 c12 r (kd + 1 + 1) ∧ r + d2 * g = S ∧ Bl wi w4.heap.size Q ∧ Below w4.heap.size w4 wi ∧ (0 < n12 → ∀ b o, A12 = some ⟨b, o, none⟩ → b ≠ w4.heap.size)) (fun _ gv _ => 1000000000 - (intOf gv).toNat)
      case atStart => exact ⟨A11, n11, c11, S - d2 * G0, G0, rfl, rfl, hm11, by omega, hBl7, hBw7, hf7⟩
      case round =>
        clear hm11 hBl7 hBw7 hf7
        obtain ⟨A12, n12, c12, r, g, rfl, rfl, hm12, hrg, hBl, hBw, hf12⟩ := hrel
        have hmdi := hmd4.below hBw
        by_cases hlt : r < d2
        · obtain ⟨s2, hs2, hs20⟩ := cmpi_lt0 hlt
          have hs2n : ¬ (0 : Int) ≤ s2 := by omega
          have hdm : S / d2 = g ∧ S % d2 = r := (Nat.div_mod_unique hd20).2 ⟨hrg, hlt⟩
          have hg9 : g < 1000000000 := by rw [← hdm.1]; exact hq9
          have hwg : IntKind.u32.wrap (g : Int) = (g : Int) := wrap32 hg9
          have hn2 := hnew.out
          rw [hdm.1, hdm.2] at hn2
          replace hn2 := Lib.hid hn2
          replace hs2 := Lib.hid hs2
          clear hdm hrg
          have hQl2 := hQl.out
          go_upto_region 20 with (go_at_call 67; refine (size_c hs2.out hm12 hmdi (by omega)).mono ?_; rintro e w8 ⟨rfl, hb8⟩)
          have hBl8 : Bl w8 w4.heap.size Q := hBl.below hb8 hBl.lt
          have hBw8 : Below w4.heap.size w4 w8 := hBw.trans (hb8.mono hBw.size)
          have hQx := hBl8.cell (i := x) (by omega)
          have hQf := hBl8.frozen x
          have hm13 := (hm12.below hb8).tight (hmdi.below hb8) (Nat.le_of_lt hlt)
          have hxNI : (x : Int) < (N : Int) := by omega
          replace hf12 := Lib.hid hf12
          go_wp2
          go_roundw
          case rel =>
            exact ⟨x, _, Q.set x g, A12, n12, c12, r, by omega, rfl, by omega, rfl, hm13.far (fun h b o e => hf12.out h b o e) _, hBl8.set x g, hn2.out, hBw8.setCell (Nat.le_refl _) _⟩
          case measure => simp [intOf] <;> omega
        · obtain ⟨s2, hs2, hs20⟩ := cmpi_ge0 (Nat.le_of_not_lt hlt)
          have hs2n : (0 : Int) ≤ s2 := by omega
          have hg1 : g + 1 ≤ S / d2 := by
            rw [Nat.le_div_iff_mul_le hd20, ← hrg, Nat.add_mul, Nat.one_mul, Nat.mul_comm g d2]
            omega
          have hg9 : g + 1 < 1000000000 := by omega
          replace hs2 := Lib.hid hs2
          go_wp2_with (first | (go_at_call 67; refine (size_c hs2.out hm12 hmdi (by omega)).mono ?_; rintro e w8 ⟨rfl, hb8⟩) | (go_at_call 68; refine (minus_mf _ _ _ _ _ _ r d2 _ _ _ (hm12.below hb8) (hmdi.below hb8) (Nat.le_of_not_lt hlt) (by omega)).mono ?_; rintro e w9 ⟨A13, n13, c13, rfl, hm13, hb13, hf13⟩))
          have hl8 : w4.heap.size < _ := hBl.lt
          have hb89 := hb8.trans (hb13.mono hb8.size)
          refine ⟨⟨A13, n13, c13, r - d2, g + 1, rfl, by simp, hm13, ?_, hBl.below hb89 hBl.lt, hBw.trans (hb89.mono hBw.size), fun h b o e => by have := hf13 h b o e; have := hb8.size; omega⟩, by simp [intOf]; omega⟩
          rw [Nat.mul_add, Nat.mul_one]
          omega

end Go.Proofs.YtabibkhcdamlhaaDoor
