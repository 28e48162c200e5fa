/-
  Walk over the reference: Text.
-/
import Derived.Test.YtalbdjnanmcoeaaDoorPa
import Derived.Test.YtalbdjnanmcoeaaDoorOfR
import Derived.Test.YtalbdjnanmcoeaaDoorY
namespace Go.Proofs.YtalbdjnanmcoeaaDoor
open Go.RowKit Num

/-- What stands when k digits of group i are over. -/
def RtIn (l : List Nat) (i k g : Nat) (D : List UInt8) : Prop :=
  (∀ b ∈ D, isDg b) ∧ D.length = 9 * i + k ∧ dv D + 10 ^ (9 * i + k) * g = val (l.take (i + 1)) ∧ g < 10 ^ (9 - k) ∧ k ≤ 9 ∧ (i + 1 = l.length → g = 0 → D.head? ≠ some 48)
/-- What stands when i groups are over. -/
def RtOut (l : List Nat) (i : Nat) (D : List UInt8) : Prop :=
  (∀ b ∈ D, isDg b) ∧ dv D = val (l.take i) ∧ (i < l.length → D.length = 9 * i) ∧ (i = l.length → D.head? ≠ some 48) ∧ D.length ≤ 9 * i

theorem ten_pw (i : Nat) : 10 ^ (9 * i) = pw i := by
  unfold pw
  rw [Nat.pow_mul, ten9]

theorem RtIn.start {l : List Nat} {i : Nat} {D : List UInt8} (hc : Cano l) (hi : i < l.length) (h : RtOut l i D) : RtIn l i 0 (nth l i) D := by
  obtain ⟨h1, h2, h3, _, _⟩ := h
  refine ⟨h1, h3 hi, ?_, ?_, by omega, ?_⟩
  · rw [Nat.add_zero, ten_pw, h2, val_take_succ l i hi]
  · have := hc.1.get i
    rw [Nat.sub_zero, ten9]
    exact this
  · intro e hg
    have := ((can_iff.1 hc).2).resolve_left (fun e => by rw [e] at hi; simp at hi)
    rw [show l.length - 1 = i by omega] at this
    exact absurd hg this
theorem RtIn.step {l : List Nat} {i k g : Nat} {D : List UInt8} (h : RtIn l i k g D) (hk : k < 9) (hg : i + 1 = l.length → 0 < g) : RtIn l i (k + 1) (g / 10) (UInt8.ofNat (48 + g % 10) :: D) := by
  obtain ⟨h1, h2, h3, h4, h5, h6⟩ := h
  have hd : g % 10 < 10 := Nat.mod_lt _ (by decide)
  refine ⟨?_, by simp [h2]; omega, ?_, ?_, by omega, ?_⟩
  · intro b hb
    rcases List.mem_cons.1 hb with rfl | hb
    · exact isDg_dig hd
    · exact h1 b hb
  · rw [dv_cons, dig_toNat hd, h2, ← h3, ← Nat.add_assoc (9 * i) k 1, Nat.pow_succ, show 48 + g % 10 - 48 = g % 10 by omega]
    have e : g = g % 10 + 10 * (g / 10) := by omega
    generalize 10 ^ (9 * i + k) = p
    generalize g / 10 = q at *
    generalize g % 10 = r at *
    rw [e, Nat.mul_add, ← Nat.mul_assoc, Nat.mul_comm r p]
    omega
  · rw [show 9 - k = (9 - (k + 1)) + 1 by omega, Nat.pow_succ] at h4
    omega
  · intro e h0 hh
    have hg1 := hg e
    simp only [List.head?_cons, Option.some.injEq] at hh
    have := congrArg UInt8.toNat hh
    rw [dig_toNat hd] at this
    have h48 : (48 : UInt8).toNat = 48 := by decide
    omega
theorem RtIn.stop {l : List Nat} {i k g : Nat} {D : List UInt8} (h : RtIn l i k g D) (hs : k = 9 ∨ (i + 1 = l.length ∧ g = 0)) : RtOut l (i + 1) D := by
  obtain ⟨h1, h2, h3, h4, h5, h6⟩ := h
  have hg0 : g = 0 := by
    rcases hs with rfl | ⟨_, h⟩
    · simpa using h4
    · exact h
  subst hg0
  rw [Nat.mul_zero, Nat.add_zero] at h3
  refine ⟨h1, h3, fun hlt => ?_, fun e => h6 e rfl, by omega⟩
  rcases hs with rfl | ⟨e, _⟩
  · omega
  · omega
theorem RtOut.done {l : List Nat} {D : List UInt8} (hc : Cano l) (hl : l ≠ []) (h : RtOut l l.length D) : Numl D ∧ dv D = val l := by
  obtain ⟨h1, h2, _, h4, _⟩ := h
  rw [List.take_length] at h2
  have hp := hc.ne_zero (List.length_pos_iff.2 hl)
  exact ⟨⟨fun e => by rw [e] at h2; have : dv [] = 0 := rfl; omega, h1, fun e => absurd e (h4 rfl)⟩, h2⟩
theorem rtxt_eq {neg : Bool} {l : List Nat} {D : List UInt8} (h : CanZ neg l) (hl : l ≠ []) (hD : Numl D ∧ dv D = val l) : txt neg l = (if neg then [45] else []) ++ D := by
  obtain ⟨h1, h2⟩ := flat_all h.1 hl
  unfold txt
  rw [if_neg hl]
  congr 1
  exact h2.inj hD.1 (by rw [h1, hD.2])

theorem run_dig (d : Nat) (hd : d < 10) (k k' : IntKind) (W : World) :
    (Instr.slice 9 (.string ⟨#[48, 49, 50, 51, 52, 53, 54, 55, 56, 57]⟩) (some (.int k (d : Int))) (some (.int k' ((d : Int) + 1))) none).run Tryd.prog W = .ok (.string ⟨[UInt8.ofNat (48 + d)].toArray⟩) W := by
  rw [run_slice_string (P := Tryd.prog) W 9 _ k k' (d : Int) ((d : Int) + 1) (by kernel_rfl) (by omega) (by omega) (by simp [ByteArray.size]; omega)]
  have e : ((d : Int) + 1).toNat = d + 1 := by omega
  rw [e, Int.toNat_natCast]
  have := ByteArray.extract_mk [48, 49, 50, 51, 52, 53, 54, 55, 56, 57] d (d + 1)
  rw [this]
  rcases d with _ | _ | _ | _ | _ | _ | _ | _ | _ | _ | d <;> first | rfl | omega

theorem run_cat (x D : List UInt8) (hx : x.length ≤ 10) (hD : D.length ≤ 1000000) (W : World) : (Op.stringOp .add ⟨x.toArray⟩ ⟨D.toArray⟩).run Tryd.prog W = .ok (.string ⟨(x ++ D).toArray⟩) W :=
  run_string_add_lists W x D (by omega) (by omega)

set_option maxRecDepth 100000 in
set_option maxHeartbeats 1600000 in
/-- Text of the reference, of 0. -/
theorem rText_zero (neg : Bool) (A : Option Addr) (n c : Nat) (k : Nat) (w : World) (h : VI w neg A n c 0 k) (hk : k ≤ 100000) :
    Calls Tryd.prog 43 #[.agg #[.bool neg, .slice A n c]] w (RetT w 0) := by
  have hb1 := (Below.refl w.heap.size w).alloc (Nat.le_refl _) (.cells #[.bool neg, .slice A n c] 24)
  go_enter Tryd.func43, Tryd.ntmps43
  go_wp2_with (go_at_call 13; refine (Value_any _ _ _ _ 0 k _ (h.below hb1) (by omega)).mono ?_; rintro e w1 ⟨neg1, A1, n1, c1, rfl, hi1, hb2⟩; have hn1 : n1 = 0 := hi1.len_zero.2 rfl; subst hn1; obtain ⟨⟨d1, d2⟩, ⟨e1, e2⟩, hsz⟩ := box1s hb2)
  go_ret
  exact ⟨false, [], ⟨Cano.nil, fun _ => rfl⟩, rfl, rfl, by refine Below.setCell (Below.setCell (hb1.trans (hb2.mono (by simp))) (by simp) _) (by simp) _⟩

set_option maxRecDepth 100000 in
set_option maxHeartbeats 8000000 in
/-- Text of the reference, not of 0. -/
theorem rText_some (neg : Bool) (A : Option Addr) (n c : Nat) (z : Int) (k : Nat) (w : World) (h : VI w neg A n c z k) (hk : k ≤ 100000) (hz : z ≠ 0) :
    Calls Tryd.prog 43 #[.agg #[.bool neg, .slice A n c]] w (RetT w z) := by
  have hb1 := (Below.refl w.heap.size w).alloc (Nat.le_refl _) (.cells #[.bool neg, .slice A n c] 24)
  go_enter Tryd.func43, Tryd.ntmps43
  go_upto_region 2 with (go_at_call 13; refine (Value_any _ _ _ _ z k _ (h.below hb1) (by omega)).mono ?_; rintro e w1 ⟨neg1, A1, n1, c1, rfl, hi1, hb2⟩; have hn1 : n1 ≠ 0 := (fun e => hz (hi1.len_zero.1 e)); obtain ⟨⟨d1, d2⟩, ⟨e1, e2⟩, hsz⟩ := box1s hb2)
  have g1 : ((w1.setCell ⟨w.heap.size, 0, none⟩ (.bool neg1)).setCell ⟨w.heap.size, 1, none⟩ (.slice A1 n1 c1)).cell? ⟨w.heap.size, 0, none⟩ = some (.bool neg1) := by simp [go_sem, d1, d2]
  have g2 : ((w1.setCell ⟨w.heap.size, 0, none⟩ (.bool neg1)).setCell ⟨w.heap.size, 1, none⟩ (.slice A1 n1 c1)).cell? ⟨w.heap.size, 1, none⟩ = some (.slice A1 n1 c1) := by simp [go_sem, d1, d2]
  have hbW : Below w.heap.size w ((w1.setCell ⟨w.heap.size, 0, none⟩ (.bool neg1)).setCell ⟨w.heap.size, 1, none⟩ (.slice A1 n1 c1)) := Below.setCell (Below.setCell (hb1.trans (hb2.mono (by simp))) (by simp) _) (by simp) _
  have hiW := hi1.store2 d1 d2 (.bool neg1) (.slice A1 n1 c1)
  clear d1 d2 e1 e2 hb2 hi1 hsz hb1
  generalize (w1.setCell ⟨w.heap.size, 0, none⟩ (.bool neg1)).setCell ⟨w.heap.size, 1, none⟩ (.slice A1 n1 c1) = W at g1 g2 hbW hiW ⊢
  obtain ⟨l, hsl, hcz, hsv, hnk⟩ := hiW
  have hlen := hsl.len
  have hl : l ≠ [] := fun e => by rw [e] at hlen; exact hn1 hlen
  obtain ⟨b, off, rfl, _, hcell⟩ := hsl.at_ (by omega)
  have hst := fun i D (hi : i < n1) (h : RtOut l i D) => RtIn.start hcz.1 (by omega) h
  have hstep := fun i k g D (h : RtIn l i k g D) hk (hg : i + 1 = n1 → 0 < g) => h.step hk (by rw [← hlen]; exact hg)
  have hstop := fun i k g D (h : RtIn l i k g D) (hs : k = 9 ∨ (i + 1 = n1 ∧ g = 0)) => h.stop (by rw [← hlen]; exact hs)
  have hdone := fun D (h : RtOut l n1 D) => RtOut.done hcz.1 hl (by rw [← hlen]; exact h)
  have hDl := fun i k g D (h : RtIn l i k g D) => h.2.1
  have hDo := fun i D (h : RtOut l i D) => h.2.2.2.2
  have hg9 := fun i => hcz.1.1.get i
  have h0 : ((n1 : Int) == 0) = false := by rw [beq_eq_false_iff_ne]; omega
  have hnk' : n1 ≤ 100000 := by omega
  have hcap := hsl.le_cap
  have hcl := hsl.cap_le
  have hres : ∀ D, Numl D ∧ dv D = val l → ∀ w' : World, Below w.heap.size w w' → RetT w z (.returned (.string ⟨((if neg1 then [45] else []) ++ D).toArray⟩)) w' := fun D hD w' hb => ⟨neg1, l, hcz, hsv, by rw [rtxt_eq hcz hl hD], hb⟩
  have hrout0 : RtOut l 0 [] := ⟨fun b hb => (by cases hb), by simp [val, dv_nil], fun _ => rfl, fun e => absurd (List.length_eq_zero_iff.1 e.symm) hl, Nat.zero_le _⟩
  clear hlen hsl hcz hsv hnk
  replace hst := Lib.hid hst
  replace hstep := Lib.hid hstep
  replace hstop := Lib.hid hstop
  replace hdone := Lib.hid hdone
  replace hDl := Lib.hid hDl
  replace hDo := Lib.hid hDo
  replace hg9 := Lib.hid hg9
  replace hres := Lib.hid hres
  replace hl := Lib.hid hl
  replace hcell := Lib.hid hcell
  go_wp2
  go_loopw [3, 4, 5, 6] (fun s i _ _ wr => ∃ i' D, i' ≤ n1 ∧ i = .int .i64 ((i' : Nat) : Int) ∧ s = .string ⟨D.toArray⟩ ∧ RtOut l i' D ∧ ∃ q, wr = W.drewN q) (fun _ i _ _ _ => n1 - (intOf i).toNat)
  case atStart => exact ⟨0, [], Nat.zero_le _, rfl, rfl, hrout0, 0, rfl⟩
  case round =>
    obtain ⟨i, D, hi, rfl, rfl, hout, q, rfl⟩ := hrel
    by_cases hlt : i < n1
    · have hin0 := hst.out i D hlt hout
      have hci := hcell.out i hlt
      obtain ⟨g, hg⟩ : ∃ g, nth l i = g := ⟨_, rfl⟩
      have hgb := hg9.out i
      rw [hg] at hci hin0 hgb
      replace hin0 := Lib.hid hin0
      replace hg := Lib.hid hg
      clear hout
      go_wp2
      go_loopw [3, 5, 6] (fun s g' kk wr => ∃ k' G D', k' ≤ 9 ∧ kk = .int .i64 ((k' : Nat) : Int) ∧ g' = .int .u32 ((G : Nat) : Int) ∧ G < 1000000000 ∧ s = .string ⟨D'.toArray⟩ ∧ RtIn l i k' G D' ∧ ∃ q, wr = W.drewN q) (fun _ _ kk _ => 9 - (intOf kk).toNat)
      case atStart => exact ⟨0, g, D, Nat.zero_le _, rfl, rfl, hgb, rfl, hin0.out, q, rfl⟩
      case round =>
        obtain ⟨k', G, D', hk', rfl, rfl, hGb, rfl, hin, q', rfl⟩ := hrel
        have hDL := hDl.out _ _ _ _ hin
        by_cases hk9 : k' < 9
        · by_cases hil : i + 1 < n1
          · have hilI : (i : Int) < (n1 : Int) - 1 := by omega
            obtain ⟨d, hd⟩ : ∃ d, G % 10 = d := ⟨_, rfl⟩
            obtain ⟨gq, hgq⟩ : ∃ gq, G / 10 = gq := ⟨_, rfl⟩
            have hdI : (G : Int) % 10 = (d : Int) := by omega
            have hgI : (G : Int) / 10 = (gq : Int) := by omega
            have hd10 : d < 10 := by omega
            have hgq9 : gq < 1000000000 := by omega
            replace hd := Lib.hid hd
            have hdn : ∀ W, _ := fun W => run_dig d hd10 .u32 .u32 W
            have hcat : ∀ W, _ := fun W => run_cat [UInt8.ofNat (48 + d)] D' (by simp) (by omega) W
            have hin2 := hstep.out i k' G D' hin hk9 (fun e => by omega)
            rw [show G % 10 = d from hd.out] at hin2
            rw [List.cons_append, List.nil_append] at hcat
            generalize hE : UInt8.ofNat (48 + d) :: D' = E' at hcat hin2
            clear hE
            obtain ⟨sx, hsx⟩ : ∃ sx, ByteArray.mk [UInt8.ofNat (48 + d)].toArray = sx := ⟨_, rfl⟩
            obtain ⟨sD, hsD⟩ : ∃ sD, ByteArray.mk D'.toArray = sD := ⟨_, rfl⟩
            obtain ⟨sE, hsE⟩ : ∃ sE, ByteArray.mk E'.toArray = sE := ⟨_, rfl⟩
            rw [hsx] at hdn hcat
            rw [hsD] at hcat ⊢
            rw [hsE] at hcat
            replace hsx := Lib.hid hsx
            replace hsD := Lib.hid hsD
            replace hin2 := Lib.hid hin2
            replace hsE := Lib.hid hsE
            clear hin hDL
            go_wp2
            go_roundw
            case rel => exact ⟨k' + 1, G / 10, E', hk9, by go_num, by first | rfl | (rw [hgq]), by omega, by rw [hsE.out], hin2.out, q', rfl⟩
            case measure => simp [intOf]; omega
          · have hilI : ¬ (i : Int) < (n1 : Int) - 1 := by omega
            by_cases hG0 : 0 < G
            · have hGI : (0 : Int) < (G : Int) := by omega
              obtain ⟨d, hd⟩ : ∃ d, G % 10 = d := ⟨_, rfl⟩
              obtain ⟨gq, hgq⟩ : ∃ gq, G / 10 = gq := ⟨_, rfl⟩
              have hdI : (G : Int) % 10 = (d : Int) := by omega
              have hgI : (G : Int) / 10 = (gq : Int) := by omega
              have hd10 : d < 10 := by omega
              have hgq9 : gq < 1000000000 := by omega
              replace hd := Lib.hid hd
              have hdn : ∀ W, _ := fun W => run_dig d hd10 .u32 .u32 W
              have hcat : ∀ W, _ := fun W => run_cat [UInt8.ofNat (48 + d)] D' (by simp) (by omega) W
              have hin2 := hstep.out i k' G D' hin hk9 (fun _ => hG0)
              rw [show G % 10 = d from hd.out] at hin2
              rw [List.cons_append, List.nil_append] at hcat
              generalize hE : UInt8.ofNat (48 + d) :: D' = E' at hcat hin2
              clear hE
              obtain ⟨sx, hsx⟩ : ∃ sx, ByteArray.mk [UInt8.ofNat (48 + d)].toArray = sx := ⟨_, rfl⟩
              obtain ⟨sD, hsD⟩ : ∃ sD, ByteArray.mk D'.toArray = sD := ⟨_, rfl⟩
              obtain ⟨sE, hsE⟩ : ∃ sE, ByteArray.mk E'.toArray = sE := ⟨_, rfl⟩
              rw [hsx] at hdn hcat
              rw [hsD] at hcat ⊢
              rw [hsE] at hcat
              replace hsx := Lib.hid hsx
              replace hsD := Lib.hid hsD
              replace hin2 := Lib.hid hin2
              replace hsE := Lib.hid hsE
              clear hin hDL
              go_wp2
              go_roundw
              case rel => exact ⟨k' + 1, G / 10, E', hk9, by go_num, by first | rfl | (rw [hgq]), by omega, by rw [hsE.out], hin2.out, q', rfl⟩
              case measure => simp [intOf]; omega
            · obtain rfl : G = 0 := by omega
              have hout2 := hstop.out i k' 0 D' hin (.inr ⟨by omega, rfl⟩)
              replace hout2 := Lib.hid hout2
              clear hin hDL
              go_wp2
              go_roundw
              case rel => exact ⟨i + 1, D', by omega, by go_num, rfl, hout2.out, q', rfl⟩
              case measure => simp [intOf]; omega
        · obtain rfl : k' = 9 := by omega
          have hout2 := hstop.out i 9 G D' hin (.inl rfl)
          replace hout2 := Lib.hid hout2
          clear hin hDL
          go_wp2
          go_roundw
          case rel => exact ⟨i + 1, D', by omega, by go_num, rfl, hout2.out, q', rfl⟩
          case measure => simp [intOf]; omega
    · obtain rfl : i = n1 := by omega
      have hD := hdone.out D hout
      have hDL := hDo.out _ _ hout
      replace hD := Lib.hid hD
      clear hout
      cases neg1 with
      | false =>
        go_wp2
        go_ret
        exact hres.out D hD.out _ (below_drewN hbW q)
      | true =>
        have hcat : ∀ W, _ := fun W => run_cat [45] D (by simp) (by omega) W
        have hr := hres.out D hD.out (W.drewN q) (below_drewN hbW q)
        simp only [if_true] at hr
        generalize hE : [45] ++ D = E at hcat hr
        obtain ⟨sD, hsD⟩ : ∃ sD, ByteArray.mk D.toArray = sD := ⟨_, rfl⟩
        obtain ⟨sE, hsE⟩ : ∃ sE, ByteArray.mk E.toArray = sE := ⟨_, rfl⟩
        rw [hsD] at hcat ⊢
        rw [hsE] at hcat hr
        replace hsD := Lib.hid hsD
        replace hsE := Lib.hid hsE
        replace hr := Lib.hid hr
        replace hE := Lib.hid hE
        go_wp2
        go_ret
        exact hr.out

/-- Text of the reference. -/
theorem rText_any (neg : Bool) (A : Option Addr) (n c : Nat) (z : Int) (k : Nat) (w : World) (h : VI w neg A n c z k) (hk : k ≤ 100000) :
    Calls Tryd.prog 43 #[.agg #[.bool neg, .slice A n c]] w (RetT w z) := by
  by_cases hz : z = 0
  · subst hz
    exact rText_zero neg A n c k w h hk
  · exact rText_some neg A n c z k w h hk hz

end Go.Proofs.YtalbdjnanmcoeaaDoor
