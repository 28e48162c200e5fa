/-
  Walk: the law of the texts.
-/
import Derived.Test.YtalbdjnanmcoeaaDoorZ
import Derived.Test.YtalbdjnanmcoeaaDoorRPa
import Derived.Test.YtalbdjnanmcoeaaDoorRTx
import Derived.Test.YtalbdjnanmcoeaaDoorInts
import Derived.Deep.RegionHeld3
import Derived.Deep.Cut
namespace Go.Proofs.YtalbdjnanmcoeaaDoor
open Go.RowKit Num

theorem CanZ.length_le {w : World} {neg neg' : Bool} {A : Option Addr} {n c k : Nat} {l : List Nat} (h : VI w neg A n c (sval neg' l) k) (hc : CanZ neg' l) : l.length ≤ k := by
  obtain ⟨l0, hs, hz, hn⟩ := h
  have hlen := hs.len
  by_cases h0 : CanZ neg l0
  · rw [cnt_can h0] at hz
    obtain ⟨_, rfl⟩ := canZ_inj h0 hc hz
    omega
  · rw [cnt_not h0] at hz
    have : l = [] := by
      have hv : val l = 0 := by have := sval_natAbs neg' l; omega
      exact hc.1.val_eq_zero.1 hv
    rw [this]
    simp

/-- Text of an integer whose canonical form is known. -/
theorem Text_eq {neg : Bool} {A : Option Addr} {n c : Nat} {z : Int} {k : Nat} {w : World} {neg' : Bool} {l : List Nat} (hc : CanZ neg' l) (hz : sval neg' l = z) (h : VI w neg A n c z k) (hk : k ≤ 100000) (hp : Pows w) :
    Calls Tryd.prog 24 #[.agg #[.bool neg, .slice A n c]] w fun e w' => e = .returned (.string ⟨(txt neg' l).toArray⟩) ∧ Below w.heap.size w w' := by
  refine (Text_any neg A n c z k w h (by omega) hp).mono ?_
  rintro e w' ⟨neg2, l2, hc2, hz2, rfl, hb⟩
  obtain ⟨rfl, rfl⟩ := canZ_inj hc2 hc (hz2.trans hz.symm)
  exact ⟨rfl, hb⟩
theorem rText_eq {neg : Bool} {A : Option Addr} {n c : Nat} {z : Int} {k : Nat} {w : World} {neg' : Bool} {l : List Nat} (hc : CanZ neg' l) (hz : sval neg' l = z) (h : VI w neg A n c z k) (hk : k ≤ 100000) :
    Calls Tryd.prog 43 #[.agg #[.bool neg, .slice A n c]] w fun e w' => e = .returned (.string ⟨(txt neg' l).toArray⟩) ∧ Below w.heap.size w w' := by
  refine (rText_any neg A n c z k w h hk).mono ?_
  rintro e w' ⟨neg2, l2, hc2, hz2, rfl, hb⟩
  obtain ⟨rfl, rfl⟩ := canZ_inj hc2 hc (hz2.trans hz.symm)
  exact ⟨rfl, hb⟩
/-- Text of what a text is parsed as. -/
theorem Text_dec {neg : Bool} {A : Option Addr} {n c : Nat} {z : Int} {k : Nat} {w : World} {bs : List UInt8} {s : ByteArray} (hs : ByteArray.mk bs.toArray = s) (hd : PC bs 0 z) (h : II w neg A n c z k) (hk : k ≤ 100000) (hp : Pows w) :
    Calls Tryd.prog 24 #[.agg #[.bool neg, .slice A n c]] w fun e w' => e = .returned (.string s) ∧ Below w.heap.size w w' := by
  obtain ⟨hdec, hz⟩ := hd.ok
  refine (Text_any neg A n c z k w h.vi (by omega) hp).mono ?_
  rintro e w' ⟨neg2, l2, hc2, hz2, rfl, hb⟩
  rw [dec_txt hc2 hdec (hz2.trans hz), hs]
  exact ⟨rfl, hb⟩
/-- The canonical form of what an integer counts as. -/
theorem VI.form {w : World} {neg : Bool} {A : Option Addr} {n c k : Nat} {z : Int} (h : VI w neg A n c z k) : ∃ neg' l, CanZ neg' l ∧ sval neg' l = z ∧ l.length ≤ k := by
  obtain ⟨l0, hs, hz, hn⟩ := h
  have hlen := hs.len
  by_cases h0 : CanZ neg l0
  · exact ⟨neg, l0, h0, by rw [← cnt_can h0]; exact hz, by omega⟩
  · rw [cnt_not h0] at hz
    exact ⟨false, [], ⟨Cano.nil, fun _ => rfl⟩, hz, by simp⟩
theorem PC.of_txt {neg : Bool} {l : List Nat} (h : CanZ neg l) (hl : l.length ≤ 12) : PC (txt neg l) 0 (sval neg l) := by
  obtain ⟨h1, h2⟩ := txt_dec h
  have h3 := txt_length h
  refine .inr (.inr (.inr ⟨by omega, h1, ?_, rfl, h2.symm⟩))
  have : (nbs (txt neg l)).length ≤ (txt neg l).length := by
    unfold nbs
    split
    · rw [List.length_tail]; omega
    · omega
  omega

set_option maxRecDepth 100000 in
set_option maxHeartbeats 8000000 in
/-- The law of the texts, where x has more than 12 groups. -/
theorem texts_long (na : Bool) (A : Option Addr) (n p : Nat) (s : ByteArray) (w : World) (hn1 : n ≤ 9223372036854775807) (hlong : ¬ n ≤ 12) (hp : Pows w) :
    Calls Tryd.prog 9 #[.agg #[.bool na, .slice A n p], .string s] w fun e w' => e = .returned (.bool true) ∧ Below w.heap.size w w' := by
  replace hlong := Lib.hid hlong
  have hb0 := (Below.refl w.heap.size w).alloc (Nat.le_refl _) (.cells #[.bool na, .slice A n p] 24)
  go_enter Tryd.func9, Tryd.ntmps9
  go_wp2_with (first | (go_at_call 11; refine (known_any _ (pows_below hp hb0)).mono ?_; rintro e w1 ⟨rfl, hb2⟩; have hbw1 := hb0.trans (hb2.mono (by simp <;> omega)); obtain ⟨⟨d1, d2⟩, ⟨e1, e2⟩, hsz⟩ := box1s hb2) | (go_at_call 12; refine (short_any w1.heap.size 1 1 (fun _ => na) (fun _ => A) (fun _ => n) (fun _ => p) _ (by omega) (by omega) (by omega) (by simp) (fun i hi => (by omega)) (one_cells _ _ na A n p (heap_alloc_new _ _)).1 (one_cells _ _ na A n p (heap_alloc_new _ _)).2).mono ?_; rintro e w2 ⟨⟨b, rfl, hbt⟩, hb3⟩; have hbfa : b = false := (by cases b; rfl; exact (hlong.out (hbt.1 rfl 0 (by omega))).elim); subst hbfa))
  go_ret
  exact ⟨rfl, hbw1.trans ((((Below.refl _ w1).alloc (Nat.le_refl _) _).trans (hb3.mono (by simp))).mono hbw1.size)⟩

set_option maxRecDepth 100000 in
set_option maxHeartbeats 8000000 in
/-- The law of the texts, where the text is long. -/
theorem texts_far (na : Bool) (A : Option Addr) (n p : Nat) (s : ByteArray) (m : Nat) (w : World) (hn1 : n ≤ 12) (hsz : s.size = m) (hm : (2100 : Int) < (m : Int)) (hp : Pows w) :
    Calls Tryd.prog 9 #[.agg #[.bool na, .slice A n p], .string s] w fun e w' => e = .returned (.bool true) ∧ Below w.heap.size w w' := by
  have hb0 := (Below.refl w.heap.size w).alloc (Nat.le_refl _) (.cells #[.bool na, .slice A n p] 24)
  go_enter Tryd.func9, Tryd.ntmps9
  go_wp2_with (first | (go_at_call 11; refine (known_any _ (pows_below hp hb0)).mono ?_; rintro e w1 ⟨rfl, hb2⟩; have hbw1 := hb0.trans (hb2.mono (by simp <;> omega)); obtain ⟨⟨d1, d2⟩, ⟨e1, e2⟩, hsz⟩ := box1s hb2) | (go_at_call 12; refine (short_any w1.heap.size 1 1 (fun _ => na) (fun _ => A) (fun _ => n) (fun _ => p) _ (by omega) (by omega) (by omega) (by simp) (fun i hi => (by omega)) (one_cells _ _ na A n p (heap_alloc_new _ _)).1 (one_cells _ _ na A n p (heap_alloc_new _ _)).2).mono ?_; rintro e w2 ⟨⟨b, rfl, hbt⟩, hb3⟩; have hbtr : b = true := hbt.2 (fun i hi => hn1); subst hbtr; have hb4 : Below w1.heap.size w1 w2 := ((Below.refl _ w1).alloc (Nat.le_refl _) _).trans (hb3.mono (by simp)); have g1 := (hb4.cell (p := ⟨w.heap.size, 0, none⟩) (by dsimp only; omega)).trans d1; have g2 := (hb4.cell (p := ⟨w.heap.size, 1, none⟩) (by dsimp only; omega)).trans d2; have hbw2 := hbw1.trans (hb4.mono hbw1.size); clear d1 d2 e1 e2 hbt))
  go_ret
  exact ⟨rfl, hbw2⟩

set_option maxRecDepth 100000 in
set_option maxHeartbeats 8000000 in
/-- The law of the texts, both short. -/
theorem texts_short (na : Bool) (A : Option Addr) (n p : Nat) (x : Int) (bs : List UInt8) (s : ByteArray) (m : Nat) (w : World) (hx : VI w na A n p x 12) (hs : ByteArray.mk bs.toArray = s) (hsz : s.size = m) (hm : ¬ (2100 : Int) < (m : Int)) (hbl : bs.length ≤ 1000000) (hp : Pows w) :
    Calls Tryd.prog 9 #[.agg #[.bool na, .slice A n p], .string s] w fun e w' => e = .returned (.bool true) ∧ Below w.heap.size w w' := by
  have hb0 := (Below.refl w.heap.size w).alloc (Nat.le_refl _) (.cells #[.bool na, .slice A n p] 24)
  have hn1 := hx.le
  obtain ⟨nf, lf, hcf, hvf, hlf⟩ := hx.form
  have hpt := PC.of_txt hcf hlf
  rw [hvf] at hpt
  have hpT := fun w => Parse_any (txt nf lf) w (by have := txt_length hcf; omega) 0 x hpt
  have hteq := fun w (h : VI w na A n p x 12) hp => Text_eq hcf hvf h (by omega) hp
  have hrteq := fun w (h : VI w na A n p x 12) => rText_eq hcf hvf h (by omega)
  obtain ⟨sT, hsT⟩ : ∃ sT, ByteArray.mk (txt nf lf).toArray = sT := ⟨_, rfl⟩
  rw [hsT] at hpT
  simp only [hsT] at hteq hrteq
  have hTT : (sT.toList == sT.toList) = true := beq_self_eq_true _
  have hSS : (s.toList == s.toList) = true := beq_self_eq_true _
  clear hsT hpt hcf hvf hlf
  obtain ⟨c, z, hpc⟩ := PC.ex bs
  have hP := fun w => Parse_any bs w hbl c z hpc
  have hrP := fun w => rParse_any bs w c z hpc
  rw [hs] at hP hrP
  have htd := fun (hc : c = 0) w neg A n cc (h : II w neg A n cc z 223) hp => Text_dec hs (hc ▸ hpc) h (by omega) hp
  clear hpc hs hbl
  have hcc : (c == c) = true := beq_self_eq_true _
  replace hpT := Lib.hid hpT
  replace hteq := Lib.hid hteq
  replace hrteq := Lib.hid hrteq
  replace hP := Lib.hid hP
  replace hrP := Lib.hid hrP
  replace htd := Lib.hid htd
  replace hcc := Lib.hid hcc
  replace hSS := Lib.hid hSS
  go_enter Tryd.func9, Tryd.ntmps9
  go_upto_region 7 with (first | (go_at_call 11; refine (known_any _ (pows_below hp hb0)).mono ?_; rintro e w1 ⟨rfl, hb2⟩; have hbw1 := hb0.trans (hb2.mono (by simp <;> omega)); obtain ⟨⟨d1, d2⟩, ⟨e1, e2⟩, hsz⟩ := box1s hb2) | (go_at_call 12; refine (short_any w1.heap.size 1 1 (fun _ => na) (fun _ => A) (fun _ => n) (fun _ => p) _ (by omega) (by omega) (by omega) (by simp) (fun i hi => (by omega)) (one_cells _ _ na A n p (heap_alloc_new _ _)).1 (one_cells _ _ na A n p (heap_alloc_new _ _)).2).mono ?_; rintro e w2 ⟨⟨b, rfl, hbt⟩, hb3⟩; have hbtr : b = true := hbt.2 (fun i hi => hn1); subst hbtr; have hb4 : Below w1.heap.size w1 w2 := ((Below.refl _ w1).alloc (Nat.le_refl _) _).trans (hb3.mono (by simp)); have g1 := (hb4.cell (p := ⟨w.heap.size, 0, none⟩) (by dsimp only; omega)).trans d1; have g2 := (hb4.cell (p := ⟨w.heap.size, 1, none⟩) (by dsimp only; omega)).trans d2; have hbw2 := hbw1.trans (hb4.mono hbw1.size); clear d1 d2 e1 e2 hbt) | (go_at_call 24; refine (hteq.out _ (hx.below hbw2) (pows_below hp hbw2)).mono ?_; rintro e w3 ⟨rfl, hb5⟩; have hl2 : w.heap.size < w2.heap.size := (by have := hb4.size; omega); have g3 := (hb5.cell (p := ⟨w.heap.size, 0, none⟩) hl2).trans g1; have g4 := (hb5.cell (p := ⟨w.heap.size, 1, none⟩) hl2).trans g2; have hbw3 := hbw2.trans (hb5.mono hbw2.size); have hl3 : w.heap.size < w3.heap.size := (by have := hb5.size; omega); clear g1 g2) | (go_at_call 42; refine (hpT.out _).mono ?_; rintro e w4 ⟨yn, yA, yN, yc, rfl, hi1, hb6⟩; have g5 := (hb6.cell (p := ⟨w.heap.size, 0, none⟩) hl3).trans g3; have g6 := (hb6.cell (p := ⟨w.heap.size, 1, none⟩) hl3).trans g4; have hbw4 := hbw3.trans (hb6.mono hbw3.size); have hl4 : w.heap.size < w4.heap.size := (by have := hb6.size; omega); clear g3 g4))
  have k1 := ((World.cell?_alloc_lt w4 (.cells #[.bool yn, .slice yA yN yc] 24) ⟨w.heap.size, 0, none⟩ hl4).trans g5)
  have k2 := ((World.cell?_alloc_lt w4 (.cells #[.bool yn, .slice yA yN yc] 24) ⟨w.heap.size, 1, none⟩ hl4).trans g6)
  have k3 : (w4.alloc (.cells #[.bool yn, .slice yA yN yc] 24)).cell? ⟨w4.heap.size, 0, none⟩ = some (.bool yn) := by simp [go_sem]
  have k4 : (w4.alloc (.cells #[.bool yn, .slice yA yN yc] 24)).cell? ⟨w4.heap.size, 1, none⟩ = some (.slice yA yN yc) := by simp [go_sem]
  have k5 : (w4.alloc (.cells #[.bool yn, .slice yA yN yc] 24)).frozen? ⟨w4.heap.size, 0, none⟩ = false := by simp [go_sem]
  have k6 : (w4.alloc (.cells #[.bool yn, .slice yA yN yc] 24)).frozen? ⟨w4.heap.size, 1, none⟩ = false := by simp [go_sem]
  have hbW : Below w4.heap.size w4 (w4.alloc (.cells #[.bool yn, .slice yA yN yc] 24)) := (Below.refl _ _).alloc (Nat.le_refl _) _
  have hsW : (w4.alloc (.cells #[.bool yn, .slice yA yN yc] 24)).heap.size = w4.heap.size + 1 := by simp
  have hi5 := hi1.below hbW
  have hbw5 := hbw4.trans (hbW.mono hbw4.size)
  clear g5 g6 hbW
  generalize hW5 : w4.alloc (.cells #[.bool yn, .slice yA yN yc] 24) = w5 at k1 k2 k3 k4 k5 k6 hsW hi5 hbw5 ⊢
  clear hW5
  have hx5 := hx.below hbw5
  have hlw : w.heap.size < w5.heap.size := by omega
  have hlw4 : w4.heap.size < w5.heap.size := by omega
  have keepS : ∀ w', Below w5.heap.size w5 w' → w'.cell? ⟨w.heap.size, 0, none⟩ = some (.bool na) ∧ w'.cell? ⟨w.heap.size, 1, none⟩ = some (.slice A n p) ∧ w'.cell? ⟨w4.heap.size, 0, none⟩ = some (.bool yn) ∧ w'.cell? ⟨w4.heap.size, 1, none⟩ = some (.slice yA yN yc) := by
    intro w' hb
    obtain ⟨hc, -, -⟩ := old3 hb
    exact ⟨(hc _ _ (by omega)).trans k1, (hc _ _ (by omega)).trans k2, (hc _ _ (by omega)).trans k3, (hc _ _ (by omega)).trans k4⟩
  replace keepS := Lib.hid keepS
  clear hb2 hb3 hb4 hb5 hb6 hi1 hbw1 hbw2 hbw3 hbw4 hb0
  have qtok1 : True := trivial
  have qtok2 : True := trivial
  have qtok3 : True := trivial
  go_region_held3 (fun w' => w'.cell? ⟨w.heap.size, 0, none⟩ = some (.bool na) ∧ w'.cell? ⟨w.heap.size, 1, none⟩ = some (.slice A n p) ∧ w'.cell? ⟨w4.heap.size, 0, none⟩ = some (.bool yn) ∧ w'.cell? ⟨w4.heap.size, 1, none⟩ = some (.slice yA yN yc))
    (exact keepS.out _ (by repeat (first | refine Below.drew ?_ | exact qB3 | exact qB2 | exact qB1 | exact (Below.refl w5.heap.size w5))))
    (first | (go_at_call 43; clear qtok1; refine (hrteq.out _ (hx5.below (by repeat (first | refine Below.drew ?_ | exact (Below.refl w5.heap.size w5))))).mono ?_; rintro e qw1 ⟨rfl, qh1⟩; have qB1 : Below w5.heap.size w5 qw1 := Below.trans (by repeat (first | refine Below.drew ?_ | exact (Below.refl w5.heap.size w5))) (qh1.mono (by first | omega | (simp <;> omega))); have qs1 := qB1.size) | (go_at_call 13; clear qtok2; refine (Value_any _ _ _ _ x 12 _ (hx5.below (by repeat (first | refine Below.drew ?_ | exact qB1))) (by omega)).mono ?_; rintro e qw2 ⟨v1b, v1A, v1n, v1c, rfl, v1I, qh2⟩; have qB2 : Below w5.heap.size w5 qw2 := Below.trans (by repeat (first | refine Below.drew ?_ | exact qB1)) (qh2.mono (by first | omega | (simp <;> omega))); have qs2 := qB2.size) | (go_at_call 18; clear qtok3; refine (same_ii _ _ _ _ x 223 _ _ _ _ 12 _ (hi5.below (by repeat (first | refine Below.drew ?_ | exact qB2))) (v1I.below (by repeat (first | refine Below.drew ?_ | exact Below.refl _ _))) (by omega) (by omega)).mono ?_; rintro e qw3 ⟨rfl, qh3⟩; have qB3 : Below w5.heap.size w5 qw3 := Below.trans (by repeat (first | refine Below.drew ?_ | exact qB2)) (qh3.mono (by first | omega | (simp <;> omega))); have qs3 := qB3.size; replace v1I := II.below v1I (Below.trans (by repeat (first | refine Below.drew ?_ | exact Below.refl _ _)) (qh3.mono (by first | omega | (simp <;> omega))))))
  obtain ⟨j1, j2, j3, j4⟩ := keepS.out _ qB3
  obtain ⟨-, hff, -⟩ := old3 qB3
  have j5 := (hff _ 0 hlw4).trans k5
  have j6 := (hff _ 1 hlw4).trans k6
  have hbq := hbw5.trans (qB3.mono hbw5.size)
  have hsq : w4.heap.size < qw3.heap.size := by omega
  clear keepS k1 k2 k3 k4 k5 k6 hff qB1 qB2 qh1 qh2 qh3 v1I hi5 hx5
  go_upto_region 10 with (go_at_call 42; refine (hP.out _).mono ?_; rintro e w6 ⟨pn, pA, pN, pc, rfl, hi6, hb6⟩; obtain ⟨hcc6, hff6, hss6⟩ := old3 hb6; have m3 := (hcc6 _ 0 hsq).trans j3; have m4 := (hcc6 _ 1 hsq).trans j4; have m5 := (hff6 _ 0 hsq).trans j5; have m6 := (hff6 _ 1 hsq).trans j6; clear hcc6 hff6; have hbw6 := hbq.trans (hb6.mono hbq.size))
  have n3 : ((w6.setCell ⟨w4.heap.size, 0, none⟩ (.bool pn)).setCell ⟨w4.heap.size, 1, none⟩ (.slice pA pN pc)).cell? ⟨w4.heap.size, 0, none⟩ = some (.bool pn) := by simp [go_sem, m3, m4]
  have n4 : ((w6.setCell ⟨w4.heap.size, 0, none⟩ (.bool pn)).setCell ⟨w4.heap.size, 1, none⟩ (.slice pA pN pc)).cell? ⟨w4.heap.size, 1, none⟩ = some (.slice pA pN pc) := by simp [go_sem, m3, m4]
  have hs6 : w4.heap.size < ((w6.setCell ⟨w4.heap.size, 0, none⟩ (.bool pn)).setCell ⟨w4.heap.size, 1, none⟩ (.slice pA pN pc)).heap.size := by simp; omega
  have hb7 : Below w.heap.size w ((w6.setCell ⟨w4.heap.size, 0, none⟩ (.bool pn)).setCell ⟨w4.heap.size, 1, none⟩ (.slice pA pN pc)) := Below.setCell (Below.setCell hbw6 (by dsimp only; omega) _) (by dsimp only; omega) _
  have hi7 := hi6.store2 m3 m4 (.bool pn) (.slice pA pN pc)
  clear m3 m4 m5 m6 hi6 hbw6 hb6 hss6 j1 j2 j3 j4 j5 j6
  generalize (w6.setCell ⟨w4.heap.size, 0, none⟩ (.bool pn)).setCell ⟨w4.heap.size, 1, none⟩ (.slice pA pN pc) = w7 at n3 n4 hs6 hb7 hi7 ⊢
  go_upto_region 11 with (go_at_call 44; refine (hrP.out _).mono ?_; rintro e w8 ⟨rn, rA, rN, rc, rfl, hi8, hb8⟩; obtain ⟨hcc8, hff8, hss8⟩ := old3 hb8; have m3 := (hcc8 _ 0 hs6).trans n3; have m4 := (hcc8 _ 1 hs6).trans n4; clear hcc8 hff8; have hbw8 := hb7.trans (hb8.mono hb7.size); replace hi7 := hi7.below hb8)
  have hbA : Below w8.heap.size w8 (w8.alloc (.cells #[.bool rn, .slice rA rN rc] 24)) := (Below.refl _ _).alloc (Nat.le_refl _) _
  have n5 : (w8.alloc (.cells #[.bool rn, .slice rA rN rc] 24)).cell? ⟨w8.heap.size, 0, none⟩ = some (.bool rn) := by simp [go_sem]
  have n6 : (w8.alloc (.cells #[.bool rn, .slice rA rN rc] 24)).cell? ⟨w8.heap.size, 1, none⟩ = some (.slice rA rN rc) := by simp [go_sem]
  have n7 := (World.cell?_alloc_lt w8 (.cells #[.bool rn, .slice rA rN rc] 24) ⟨w4.heap.size, 0, none⟩ (by dsimp only; omega)).trans m3
  have n8 := (World.cell?_alloc_lt w8 (.cells #[.bool rn, .slice rA rN rc] 24) ⟨w4.heap.size, 1, none⟩ (by dsimp only; omega)).trans m4
  have hb9 := hbw8.trans (hbA.mono hbw8.size)
  have hy := hi7.below hbA
  have hz := hi8.below hbA
  have hs9 : w4.heap.size < (w8.alloc (.cells #[.bool rn, .slice rA rN rc] 24)).heap.size := by simp; omega
  clear n3 n4 m3 m4 hbA hi7 hi8 hbw8 hb8 hss8 hb7
  generalize w8.alloc (.cells #[.bool rn, .slice rA rN rc] 24) = w9 at n5 n6 n7 n8 hb9 hy hz hs9 ⊢
  replace hcc := hcc.out
  replace hSS := hSS.out
  by_cases hc0 : c = 0
  · have htd0 := Lib.hid (htd.out hc0)
    subst hc0
    go_wp2_with (first | (go_at_call 18; refine (same_ii _ _ _ _ z 223 _ _ _ _ 223 _ hy hz (by omega) (by omega)).mono ?_; rintro e w10 ⟨rfl, hb10⟩; obtain ⟨hcc10, -, -⟩ := old3 hb10; have t7 := (hcc10 _ 0 hs9).trans n7; have t8 := (hcc10 _ 1 hs9).trans n8; clear hcc10; have hbw10 := hb9.trans (hb10.mono hb9.size)) | (go_at_call 24; refine (htd0.out _ _ _ _ _ (hy.below hb10) (pows_below hp hbw10)).mono ?_; rintro e w11 ⟨rfl, hb11⟩))
    go_ret
    exact ⟨rfl, hbw10.trans (hb11.mono hbw10.size)⟩
  · have hc1 : (c == 0) = false := by rw [beq_eq_false_iff_ne]; exact hc0
    go_wp2_with (go_at_call 18; refine (same_ii _ _ _ _ z 223 _ _ _ _ 223 _ hy hz (by omega) (by omega)).mono ?_; rintro e w10 ⟨rfl, hb10⟩; have hbw10 := hb9.trans (hb10.mono hb9.size))
    go_ret
    exact ⟨rfl, hbw10⟩

/-- The law of the texts. -/
theorem texts_any (na : Bool) (A : Option Addr) (n p : Nat) (la : List Nat) (s : ByteArray) (w : World) (hx : Sl w A n p la) (hp : Pows w) :
    Calls Tryd.prog 9 #[.agg #[.bool na, .slice A n p], .string s] w fun e w' => e = .returned (.bool true) ∧ Below w.heap.size w w' := by
  by_cases h : n ≤ 12
  · by_cases hm : (2100 : Int) < (s.size : Int)
    · exact texts_far na A n p s s.size w h rfl hm hp
    · refine texts_short na A n p (cnt na la) s.data.toList s s.size w ⟨la, hx, rfl, h⟩ ?_ rfl hm ?_ hp
      · simp
      · have : s.data.toList.length = s.size := Array.length_toList
        omega
  · exact texts_long na A n p s w (Nat.le_trans hx.le_cap hx.cap_le) h hp

end Go.Proofs.YtalbdjnanmcoeaaDoor
