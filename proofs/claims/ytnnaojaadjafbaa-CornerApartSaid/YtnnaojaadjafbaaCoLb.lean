/-
  Walk: the law CornerApart.
-/
import Derived.Test.YtnnaojaadjafbaaCoLa
import Derived.Deep.RegionHeld3
import Derived.Deep.Cut
set_option linter.unusedSimpArgs false
set_option linter.unusedVariables false
namespace Go.Proofs.Ytnnaojaadjafbaa
open Go.RowKit

set_option maxRecDepth 100000 in
set_option maxHeartbeats 6400000 in
theorem lawApart_any (A : Option Addr) (n c : Nat) (l : List Cor) (r : Int) (w : World) (h : CS w A n c l) :
    Calls Try.prog 6 #[.slice A n c, .int .i64 r] w fun e w' => e = .returned (.bool true) ∧ Below w.heap.size w w' := by
  have hcap := h.2.1
  have hcl := h.2.2.1
  have hb0 := (Below.refl w.heap.size w).alloc (Nat.le_refl _) (.cells #[.int .i64 r] 3)
  have hs0 := h.alloc (.cells #[.int .i64 r] 3)
  have r0 : (w.alloc (.cells #[.int .i64 r] 3)).cell? ⟨w.heap.size, 0, none⟩ = some (.int .i64 r) := by simp [go_sem]
  have hz0 : (w.alloc (.cells #[.int .i64 r] 3)).heap.size = w.heap.size + 1 := by simp
  by_cases hf : n ≤ 40
  · have hfi : (n : Int) ≤ 40 := by omega
    obtain ⟨k, hk⟩ : ∃ k, thinC r l = k := ⟨_, rfl⟩
    by_cases hk0 : k = 0
    · subst hk0
      have hok := thinC_ok.1 hk
      have hlen := h.1
      obtain ⟨K, hK⟩ : ∃ K, thinF r l = K := ⟨_, rfl⟩
      have hKok : ThinOk r K := ⟨by rw [← hK]; have := thinF_length r l; omega, hok.2.1, fun q hq => hok.2.2 q (thinF_sub r l q (by rw [hK]; exact hq))⟩
      have hKK : thinF r K = K := by rw [← hK]; exact thinF_id r _ (thinF_apart r l)
      have hKap : Apart r K := by rw [← hK]; exact thinF_apart r l
      have hKl : K.length ≤ n := by rw [← hK, hlen]; exact thinF_length r l
      have hall : ∀ q, q ∈ l → K.any (sameB r q) = true := fun q hq => by rw [← hK]; exact all_same r l hq
      have c1 := Lib.hid (fun W hW => Thin_ok r A n c l W hW hok)
      rw [hK] at c1
      obtain ⟨m, hm⟩ : ∃ m, K.length = m := ⟨_, rfl⟩
      rw [hm] at hKl
      have c2 := Lib.hid (fun W A' c' (hW : CS W A' m c' K) => Thin_ok r A' m c' K W hW hKok)
      rw [hKK] at c2
      have eg1 := enters_lnear
      have eg2 := enters_lsame
      have hmf : ∀ (fn : Fn) (first cap : Array Value) (w : World), (Instr.makeFunc fn first cap).run Try.prog w = .ok (.func fn first cap) w := fun _ _ _ _ => rfl
      replace hk := Lib.hid hk
      replace hok := Lib.hid hok
      replace hK := Lib.hid hK
      replace hKok := Lib.hid hKok
      replace hKK := Lib.hid hKK
      replace hKap := Lib.hid hKap
      replace hall := Lib.hid hall
      replace hlen := Lib.hid hlen
      replace hm := Lib.hid hm
      clear h
      go_enter Try.func6, Try.ntmps6
      go_wp2_with (first
        | (go_at_call 11; refine (known_any _).mono ?_; rintro e w1 ⟨rfl, hb1⟩; have hs1 := hs0.below hb1 (Nat.le_refl _); have r1 := (hb1.cell (p := ⟨w.heap.size, 0, none⟩) (by rw [hz0]; exact Nat.lt_succ_self _)).trans r0; have hB1 := hb0.trans (hb1.mono hb0.size))
        | (go_at_call 19; refine (c1.out _ hs1).mono ?_; rintro e w2 ⟨v2, rfl, hown2, hb2⟩; obtain ⟨A2, c2', rfl, hcs2, -, -⟩ := own_form hown2; have hs2 := hs1.below hb2 (Nat.le_refl _); have r2 := (hb2.cell (p := ⟨w.heap.size, 0, none⟩) (World.block_lt_of_cell? _ _ r1)).trans r1; have hB2 := hB1.trans (hb2.mono hB1.size)))
      rw [hm.out] at hcs2 ⊢
      have hcap2 := hcs2.2.1
      have hcl2 := hcs2.2.2.1
      have hr2 : w.heap.size < w2.heap.size := World.block_lt_of_cell? _ _ r2
      have r3 := (World.cell?_alloc_lt w2 (.cells #[.func (.func 21) #[] #[.pointer (some ⟨w.heap.size, 0, none⟩)]] 40) ⟨w.heap.size, 0, none⟩ hr2).trans r2
      have f3 : (w2.alloc (.cells #[.func (.func 21) #[] #[.pointer (some ⟨w.heap.size, 0, none⟩)]] 40)).cell? ⟨w2.heap.size, 0, none⟩ = some (.func (.func 21) #[] #[.pointer (some ⟨w.heap.size, 0, none⟩)]) := by simp [go_sem]
      have hs3 := hs2.alloc (.cells #[.func (.func 21) #[] #[.pointer (some ⟨w.heap.size, 0, none⟩)]] 40)
      have hcs3 := hcs2.alloc (.cells #[.func (.func 21) #[] #[.pointer (some ⟨w.heap.size, 0, none⟩)]] 40)
      have hB3 := hB2.alloc hB2.size (.cells #[.func (.func 21) #[] #[.pointer (some ⟨w.heap.size, 0, none⟩)]] 40)
      have hz3 : (w2.alloc (.cells #[.func (.func 21) #[] #[.pointer (some ⟨w.heap.size, 0, none⟩)]] 40)).heap.size = w2.heap.size + 1 := by simp
      obtain ⟨gf, hgf⟩ : ∃ gf, w2.heap.size = gf := ⟨_, rfl⟩
      obtain ⟨w3, hw3⟩ : ∃ w3, w2.alloc (.cells #[.func (.func 21) #[] #[.pointer (some ⟨w.heap.size, 0, none⟩)]] 40) = w3 := ⟨_, rfl⟩
      rw [hw3] at r3 f3 hs3 hcs3 hB3 hz3 ⊢
      rw [hgf] at f3 hz3 hr2 ⊢
      clear hs0 hs1 hs2 hcs2 r0 r1 r2 hB1 hB2 hb1 hb2 hb0 hown2
      replace hw3 := Lib.hid hw3
      replace hgf := Lib.hid hgf
      replace hs3 := Lib.hid hs3
      replace hcs3 := Lib.hid hcs3
      replace r3 := Lib.hid r3
      replace f3 := Lib.hid f3
      go_loopw [33] (fun v wr => ∃ i : Nat, i ≤ m ∧ v = .int .i64 (i : Int) ∧ Below w3.heap.size w3 wr) (fun v _ => m - (intOf v).toNat)
      case atStart => exact ⟨0, Nat.zero_le _, rfl, Below.refl _ _⟩
      case round =>
        obtain ⟨i, hi, rfl, hBx⟩ := hrel
        by_cases hlt : i < m
        · have hii : (i : Int) < (m : Int) := by omega
          go_wp2
          obtain ⟨wo, rfl⟩ : ∃ wo, wo = wr := ⟨_, rfl⟩
          go_loopw [37] (fun v wr => ∃ j : Nat, j ≤ i ∧ v = .int .i64 (j : Int) ∧ Below w3.heap.size w3 wr) (fun v _ => i - (intOf v).toNat)
          case atStart => exact ⟨0, Nat.zero_le _, rfl, hBx⟩
          case round =>
            clear hBx
            obtain ⟨j, hj, rfl, hBx⟩ := hrel
            by_cases hltj : j < i
            · have hji : (j : Int) < (i : Int) := by omega
              have hzx := hBx.size
              obtain ⟨bi, oi, rfl, hbi, hci⟩ := (hcs3.out.below hBx (Nat.le_refl _)).at_ (by omega)
              obtain ⟨p0, p1, p2⟩ := hci i hlt
              obtain ⟨q0, q1, q2⟩ := hci j (by omega)
              clear hci
              have f4 := (hBx.cell (p := ⟨gf, 0, none⟩) (by rw [hz3]; exact Nat.lt_succ_self _)).trans f3.out
              have r4 := (hBx.cell (p := ⟨w.heap.size, 0, none⟩) (World.block_lt_of_cell? _ _ r3.out)).trans r3.out
              have hin1 := hKok.out.2.2 (corAt K i) (by rw [corAt_eq (by rw [hm.out]; exact hlt)]; exact List.getElem_mem _)
              have hin2 := hKok.out.2.2 (corAt K j) (by rw [corAt_eq (by rw [hm.out]; omega)]; exact List.getElem_mem _)
              have hnb := hKap.out i j hltj (by rw [hm.out]; exact hlt)
              obtain ⟨⟨x1, x2, x3⟩, hx⟩ : ∃ y, corAt K i = y := ⟨_, rfl⟩
              obtain ⟨⟨y1, y2, y3⟩, hy⟩ : ∃ y, corAt K j = y := ⟨_, rfl⟩
              rw [hx] at p0 p1 p2 hin1 hnb
              rw [hy] at q0 q1 q2 hin2 hnb
              obtain ⟨mi, hmi⟩ : ∃ mi, i * 3 = mi := ⟨_, rfl⟩
              obtain ⟨mj, hmj⟩ : ∃ mi, j * 3 = mi := ⟨_, rfl⟩
              simp only [hmi] at p0 p1 p2
              simp only [hmj] at q0 q1 q2
              have hcall := Lib.hid (fun W (hb : Below wr.heap.size wr W) => lnear_at (w := W) (g := w.heap.size) hnb ((hb.cell (p := ⟨w.heap.size, 0, none⟩) (World.block_lt_of_cell? _ _ r4)).trans r4) hin1 hin2 hKok.out.2.1)
              have hgw := World.block_lt_of_cell? _ _ f4
              have keepS : ∀ w', Below wr.heap.size wr w' → w'.cell? ⟨gf, 0, none⟩ = some (.func (.func 21) #[] #[.pointer (some ⟨w.heap.size, 0, none⟩)]) ∧ w'.cell? ⟨bi, oi + mi, none⟩ = some (.int .i64 x1) ∧ w'.cell? ⟨bi, oi + mi + 1, none⟩ = some (.int .i64 x2) ∧ w'.cell? ⟨bi, oi + mi + 2, none⟩ = some (.int .i64 x3) ∧ w'.cell? ⟨bi, oi + mj, none⟩ = some (.int .i64 y1) ∧ w'.cell? ⟨bi, oi + mj + 1, none⟩ = some (.int .i64 y2) ∧ w'.cell? ⟨bi, oi + mj + 2, none⟩ = some (.int .i64 y3) := by
                intro w' hb
                have kk : ∀ (bk ok : Nat), bk < wr.heap.size → w'.cell? ⟨bk, ok, none⟩ = wr.cell? ⟨bk, ok, none⟩ := fun bk ok hlt => hb.cell (p := ⟨bk, ok, none⟩) hlt
                exact ⟨(kk _ _ hgw).trans f4, (kk _ _ hbi).trans p0, (kk _ _ hbi).trans p1, (kk _ _ hbi).trans p2, (kk _ _ hbi).trans q0, (kk _ _ hbi).trans q1, (kk _ _ hbi).trans q2⟩
              replace keepS := Lib.hid keepS
              replace hx := Lib.hid hx
              replace hy := Lib.hid hy
              replace hnb := Lib.hid hnb
              replace hin1 := Lib.hid hin1
              replace hin2 := Lib.hid hin2
              have g1 : (0 : Int) ≤ (i : Int) := by omega
              have g3 : (0 : Int) ≤ (j : Int) := by omega
              have g4 : (j : Int) < (m : Int) := by omega
              go_wp2
              go_region_held3 (fun w' => w'.cell? ⟨gf, 0, none⟩ = some (.func (.func 21) #[] #[.pointer (some ⟨w.heap.size, 0, none⟩)]) ∧ w'.cell? ⟨bi, oi + mi, none⟩ = some (.int .i64 x1) ∧ w'.cell? ⟨bi, oi + mi + 1, none⟩ = some (.int .i64 x2) ∧ w'.cell? ⟨bi, oi + mi + 2, none⟩ = some (.int .i64 x3) ∧ w'.cell? ⟨bi, oi + mj, none⟩ = some (.int .i64 y1) ∧ w'.cell? ⟨bi, oi + mj + 1, none⟩ = some (.int .i64 y2) ∧ w'.cell? ⟨bi, oi + mj + 2, none⟩ = some (.int .i64 y3))
                (exact keepS.out _ (by repeat (first | refine Below.drew ?_ | exact qB1 | exact Below.refl _ _)))
                (first | (go_at_fn 21; refine (hcall.out _ (by repeat (first | exact Below.refl _ _ | refine Below.drew ?_))).mono ?_; rintro e qw1 ⟨rfl, qh1⟩; have qB1 : Below wr.heap.size wr qw1 := Below.trans (by repeat (first | exact Below.refl _ _ | refine Below.drew ?_)) (qh1.mono (by first | omega | exact Nat.le_refl _ | (simp <;> omega)))))
              go_wp2
              go_roundw
              case rel => exact ⟨j + 1, hltj, by go_num, hBx.trans (qB1.mono hBx.size)⟩
              case measure => simp [intOf]; omega
            · obtain rfl : j = i := by omega
              have hji : ¬ (j : Int) < (j : Int) := by omega
              go_wp2
              go_roundw
              case rel => exact ⟨j + 1, hlt, by go_num, hBx⟩
              case measure => simp [intOf]; omega
        · obtain rfl : i = m := by omega
          have hii : ¬ (i : Int) < (i : Int) := by omega
          go_wp2
          obtain ⟨wo, rfl⟩ : ∃ wo, wo = wr := ⟨_, rfl⟩
          go_loopw [54] (fun v wr => ∃ j : Nat, j ≤ n ∧ v = .int .i64 (j : Int) ∧ Below w3.heap.size w3 wr) (fun v _ => n - (intOf v).toNat)
          case atStart => exact ⟨0, Nat.zero_le _, rfl, hBx⟩
          case round =>
            clear hBx
            obtain ⟨j, hj, rfl, hBx⟩ := hrel
            have hzx := hBx.size
            have f4 := (hBx.cell (p := ⟨gf, 0, none⟩) (by rw [hz3]; exact Nat.lt_succ_self _)).trans f3.out
            have r4 := (hBx.cell (p := ⟨w.heap.size, 0, none⟩) (World.block_lt_of_cell? _ _ r3.out)).trans r3.out
            have hcs4 := hcs3.out.below hBx (Nat.le_refl _)
            by_cases hltj : j < n
            · have hji : (j : Int) < (n : Int) := by omega
              obtain ⟨bi, oi, rfl, hbi, hci⟩ := (hs3.out.below hBx (Nat.le_refl _)).at_ (by omega)
              obtain ⟨p0, p1, p2⟩ := hci j hltj
              clear hci
              have hmem : corAt l j ∈ l := by rw [corAt_eq (by rw [← hlen.out]; exact hltj)]; exact List.getElem_mem _
              have hin1 := hok.out.2.2 _ hmem
              have hany := hall.out _ hmem
              clear hmem
              obtain ⟨⟨x, y, s⟩, hx⟩ : ∃ y, corAt l j = y := ⟨_, rfl⟩
              rw [hx] at p0 p1 p2 hin1 hany
              obtain ⟨mi, hmi⟩ : ∃ mi, j * 3 = mi := ⟨_, rfl⟩
              simp only [hmi] at p0 p1 p2
              obtain ⟨⟨t1, t2, t3⟩, -⟩ := cell3 (heap_alloc_new wr (.cells #[.int .i64 x, .int .i64 y, .int .i64 s] 36))
              have kc : ∀ b o u, wr.cell? ⟨b, o, none⟩ = some u → (wr.alloc (.cells #[.int .i64 x, .int .i64 y, .int .i64 s] 36)).cell? ⟨b, o, none⟩ = some u := fun b o u h => (World.cell?_alloc_lt wr _ ⟨b, o, none⟩ (World.block_lt_of_cell? wr _ h)).trans h
              have hpred : PredC 23 #[.pointer (some ⟨wr.heap.size, 0, none⟩), .pointer (some ⟨gf, 0, none⟩)] (sameB r (x, y, s)) K (wr.alloc (.cells #[.int .i64 x, .int .i64 y, .int .i64 s] 36)) := fun W q hq hb => by
                have kw : ∀ b o u, (wr.alloc (.cells #[.int .i64 x, .int .i64 y, .int .i64 s] 36)).cell? ⟨b, o, none⟩ = some u → W.cell? ⟨b, o, none⟩ = some u := fun b o u h => (hb.cell (p := ⟨b, o, none⟩) (World.block_lt_of_cell? _ _ h)).trans h
                exact lsame_any q.1 q.2.1 q.2.2 x y s r w.heap.size wr.heap.size gf W (kw _ _ _ (kc _ _ _ r4)) (kw _ _ _ t1) (kw _ _ _ t2) (kw _ _ _ t3) (kw _ _ _ (kc _ _ _ f4)) (hKok.out.2.2 q hq) hin1 hKok.out.2.1
              have hcall := Lib.hid (ContainsFunc_cors _ _ _ enters_lsame A2 i c2' K _ (hcs4.alloc (.cells #[.int .i64 x, .int .i64 y, .int .i64 s] 36)) hpred hany)
              replace hx := Lib.hid hx
              replace hin1 := Lib.hid hin1
              replace hany := Lib.hid hany
              clear kc hpred t1 t2 t3 hcs4
              go_wp2_with (go_at_call 22; refine (hcall.out).mono ?_; rintro e w5 ⟨rfl, hb5⟩)
              go_roundw
              case rel => exact ⟨j + 1, hltj, by go_num, (hBx.alloc hBx.size _).trans (hb5.mono (by simp; omega))⟩
              case measure => simp [intOf]; omega
            · obtain rfl : j = n := by omega
              have hji : ¬ (j : Int) < (j : Int) := by omega
              go_wp2_with (first
                | (go_at_call 19; refine (c2.out _ _ _ hcs4).mono ?_; rintro e w6 ⟨v6, rfl, hown6, hb6⟩; obtain ⟨A6, c6, rfl, hcs6, -, -⟩ := own_form hown6; replace hcs4 := hcs4.below hb6 (Nat.le_refl _); have hB6 := hBx.trans (hb6.mono hBx.size))
                | (go_at_call 18; refine (kEq hcs6 hcs4).mono ?_; rintro e w7 ⟨rfl, hb7⟩))
              go_ret
              exact ⟨rfl, hB3.trans ((hB6.trans (hb7.mono hB6.size)).mono hB3.size)⟩
    · have c1 := Lib.hid (fun W hW => Thin_no r A n c l W hW hk hk0)
      have hne : (k != 0) = true := by simp [hk0]
      replace hk := Lib.hid hk
      replace hk0 := Lib.hid hk0
      clear h
      go_enter Try.func6, Try.ntmps6
      go_wp2_with (first
        | (go_at_call 11; refine (known_any _).mono ?_; rintro e w1 ⟨rfl, hb1⟩; have hs1 := hs0.below hb1 (Nat.le_refl _); have r1 := (hb1.cell (p := ⟨w.heap.size, 0, none⟩) (by rw [hz0]; exact Nat.lt_succ_self _)).trans r0; have hB1 := hb0.trans (hb1.mono hb0.size))
        | (go_at_call 19; refine (c1.out _ hs1).mono ?_; rintro e w2 ⟨rfl, hb2⟩))
      go_ret
      exact ⟨rfl, hB1.trans (hb2.mono hB1.size)⟩
  · have hfi : (40 : Int) < (n : Int) := by omega
    clear h hs0
    go_enter Try.func6, Try.ntmps6
    go_wp2_with (go_at_call 11; refine (known_any _).mono ?_; rintro e w1 ⟨rfl, hb1⟩)
    go_ret
    exact ⟨rfl, hb0.trans (hb1.mono hb0.size)⟩

end Go.Proofs.Ytnnaojaadjafbaa
