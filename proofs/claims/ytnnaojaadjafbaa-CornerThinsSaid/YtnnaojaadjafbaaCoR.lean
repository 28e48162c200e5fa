/-
  Walk: Thin of the reference.
-/
import Derived.Test.YtnnaojaadjafbaaCoT
import Derived.Deep.RegionHeld3
set_option linter.unusedSimpArgs false
set_option linter.unusedVariables false
namespace Go.Proofs.Ytnnaojaadjafbaa
open Go.RowKit

theorem outB_yes {c : Cor} (h : ¬ InC c) : 1048576 < c.1 ∨ c.1 < -1048576 ∨ (-1048576 ≤ c.1 ∧ c.1 ≤ 1048576) ∧ (1048576 < c.2.1 ∨ c.2.1 < -1048576) := by unfold InC at h; omega

set_option maxRecDepth 100000 in
set_option maxHeartbeats 3200000 in
theorem rThin_no (r : Int) (A : Option Addr) (n c : Nat) (l : List Cor) (w : World) (h : CS w A n c l) {k : Int} (hk : thinC r l = k) (hk0 : k ≠ 0) :
    Calls Try.prog 20 #[.slice A n c, .int .i64 r] w fun e w' => e = .returned (.tuple #[.slice none 0 0, .int .i64 k]) ∧ Below w.heap.size w w' := by
  have hlen := h.1
  have hcap := h.2.1
  have hcl := h.2.2.1
  by_cases h1 : 4096 < n
  · have : k = 3 := by rw [← hk]; unfold thinC; rw [if_pos (by omega)]
    subst this
    replace hk := Lib.hid hk
    clear h hlen
    go_enter Try.func20, Try.ntmps20
    go_wp2
    exact bodyPost_ret (v := .tuple #[.slice none 0 0, .int .i64 3]) (by simp [results, Try.results20, go_sem]) rfl ⟨rfl, Below.refl _ _⟩
  · have hk2 : k = 2 := by
      rw [← hk] at hk0 ⊢
      unfold thinC at hk0 ⊢
      rw [if_neg (by omega)] at hk0 ⊢
      split at hk0
      · exact absurd rfl hk0
      · rename_i h2; rw [if_neg h2]
    subst hk2
    have h1' : n ≤ 4096 := by omega
    by_cases hr0 : r < 0
    · replace hk := Lib.hid hk
      clear h hlen
      go_enter Try.func20, Try.ntmps20
      go_wp2
      exact bodyPost_ret (v := .tuple #[.slice none 0 0, .int .i64 2]) (by simp [results, Try.results20, go_sem]) rfl ⟨rfl, Below.refl _ _⟩
    · have hr0' : 0 ≤ r := by omega
      by_cases hr1 : 1048576 < r
      · replace hk := Lib.hid hk
        clear h hlen
        go_enter Try.func20, Try.ntmps20
        go_wp2
        exact bodyPost_ret (v := .tuple #[.slice none 0 0, .int .i64 2]) (by simp [results, Try.results20, go_sem]) rfl ⟨rfl, Below.refl _ _⟩
      · have hr1' : r ≤ 1048576 := by omega
        have ha : ¬ ∀ c ∈ l, InC c := by
          intro ha
          unfold thinC at hk
          rw [if_neg (by omega), if_pos ⟨⟨hr0', hr1'⟩, any_out.2 ha⟩] at hk
          omega
        replace hk := Lib.hid hk
        replace ha := Lib.hid ha
        replace hlen := Lib.hid hlen
        replace h := Lib.hid h
        clear h1 hr0 hr1
        go_enter Try.func20, Try.ntmps20
        go_wp2
        go_loopw [6] (fun i wr => ∃ k : Nat, k ≤ n ∧ i = .int .i64 k ∧ Hid (∀ j, j < k → InC (corAt l j)) ∧ wr = w) (fun i _ => n - (intOf i).toNat)
        case atStart => exact ⟨0, Nat.zero_le _, rfl, Lib.hid fun j hj => absurd hj (Nat.not_lt_zero _), rfl⟩
        case round =>
          obtain ⟨k, hkn, rfl, HA, rfl⟩ := hrel
          by_cases hlt : k < n
          · obtain ⟨b, off, rfl, hbw, hc⟩ := h.out.at_ (by omega)
            obtain ⟨q0, q1, q2⟩ := hc k hlt
            clear hc
            obtain ⟨⟨x, y, s⟩, hy⟩ : ∃ y, corAt l k = y := ⟨_, rfl⟩
            rw [hy] at q0 q1 q2
            obtain ⟨m, hm⟩ : ∃ m, k * 3 = m := ⟨_, rfl⟩
            simp only [hm] at q0 q1 q2
            replace hy := Lib.hid hy
            by_cases hin : InC (x, y, s)
            · have hin' := Lib.hid hin
              obtain ⟨⟨p1, p2⟩, p3, p4⟩ := hin
              simp only at p1 p2 p3 p4
              go_wp2
              exact ⟨⟨k + 1, hlt, by first | rfl | go_num, Lib.hid (fun j hj => (by
                by_cases e : j = k
                · rw [e, hy.out]; exact hin'.out
                · exact HA.out j (by omega))), by first | rfl | trivial⟩, by simp [intOf]; omega⟩
            · rcases outB_yes hin with p | p | ⟨⟨p1, p2⟩, p | p⟩
              · simp only at p
                go_wp2
                exact bodyPost_ret (v := .tuple #[.slice none 0 0, .int .i64 2]) (by simp [results, Try.results20, go_sem]) rfl ⟨rfl, Below.refl _ _⟩
              · simp only at p
                have p5 : x ≤ 1048576 := by omega
                go_wp2
                exact bodyPost_ret (v := .tuple #[.slice none 0 0, .int .i64 2]) (by simp [results, Try.results20, go_sem]) rfl ⟨rfl, Below.refl _ _⟩
              · simp only at p
                simp only at p1 p2
                go_wp2
                exact bodyPost_ret (v := .tuple #[.slice none 0 0, .int .i64 2]) (by simp [results, Try.results20, go_sem]) rfl ⟨rfl, Below.refl _ _⟩
              · simp only at p
                simp only at p1 p2
                have p5 : y ≤ 1048576 := by omega
                go_wp2
                exact bodyPost_ret (v := .tuple #[.slice none 0 0, .int .i64 2]) (by simp [results, Try.results20, go_sem]) rfl ⟨rfl, Below.refl _ _⟩
          · exact absurd (fun c hc => by
              obtain ⟨i, hi, rfl⟩ := List.mem_iff_getElem.1 hc
              rw [← corAt_eq hi]
              exact HA.out i (by have := hlen.out; omega)) ha.out

set_option maxRecDepth 100000 in
set_option maxHeartbeats 3200000 in
theorem rThin_ok (r : Int) (A : Option Addr) (n c : Nat) (l : List Cor) (w : World) (h : CS w A n c l) (hok : ThinOk r l) :
    Calls Try.prog 20 #[.slice A n c, .int .i64 r] w (RetL w (thinF r l) 0) := by
  obtain ⟨h1, ⟨hr0, hr1⟩, h3⟩ := hok
  have hlen := h.1
  have hcap := h.2.1
  have hcl := h.2.2.1
  have hn : n ≤ 4096 := by omega
  have h2 : Hid (0 ≤ r ∧ r ≤ 1048576) := Lib.hid ⟨hr0, hr1⟩
  have hB0 := (Below.refl w.heap.size w).alloc (Nat.le_refl _) (.cells #[] 36)
  have hown0 : (w.alloc (.cells #[] 36)).ownsRow w.heap.size 36 3 (.slice (some ⟨w.heap.size, 0, none⟩) 0 0) 0 (ccells []) := World.ownsRow_made w #[] 0 (Nat.le_refl _) (Nat.zero_le _) rfl
  replace h := Lib.hid h
  replace hlen := Lib.hid hlen
  replace h3 := Lib.hid h3
  replace hown0 := Lib.hid hown0
  clear h1
  go_enter Try.func20, Try.ntmps20
  go_wp2
  go_loopw [6] (fun i wr => ∃ k : Nat, k ≤ n ∧ i = .int .i64 k ∧ w = wr) (fun i _ => n - (intOf i).toNat)
  case atStart => exact ⟨0, Nat.zero_le _, rfl, rfl⟩
  case round =>
    obtain ⟨k, hkn, rfl, rfl⟩ := hrel
    by_cases hlt : k < n
    · obtain ⟨b, off, rfl, hbw, hc⟩ := h.out.at_ (by omega)
      obtain ⟨q0, q1, q2⟩ := hc k hlt
      clear hc
      have hin : InC (corAt l k) := h3.out _ (by rw [corAt_eq (by rw [← hlen.out]; exact hlt)]; exact List.getElem_mem _)
      obtain ⟨⟨x, y, s⟩, hy⟩ : ∃ y, corAt l k = y := ⟨_, rfl⟩
      rw [hy] at q0 q1 q2 hin
      obtain ⟨m, hm⟩ : ∃ m, k * 3 = m := ⟨_, rfl⟩
      simp only [hm] at q0 q1 q2
      replace hy := Lib.hid hy
      obtain ⟨⟨p1, p2⟩, p3, p4⟩ := hin
      simp only at p1 p2 p3 p4
      go_wp2
      exact ⟨⟨k + 1, hlt, by first | rfl | go_num, by first | rfl | trivial⟩, by simp [intOf]; omega⟩
    · obtain rfl : k = n := by omega
      go_wp2
      go_loopw [7, 8] (fun kv i wr => ∃ k2 : Nat, k2 ≤ k ∧ i = .int .i64 k2 ∧ wr.ownsRow w.heap.size 36 3 kv (thinF r (l.take k2)).length (ccells (thinF r (l.take k2))) ∧ Below w.heap.size w wr) (fun _ i _ => k - (intOf i).toNat)
      case atStart => exact ⟨0, Nat.zero_le _, rfl, hown0.out, hB0⟩
      case round =>
        obtain ⟨k2, hk2, rfl, hown, hB⟩ := hrel
        obtain ⟨wo, rfl⟩ : ∃ wo, wo = wr := ⟨_, rfl⟩
        by_cases hlt2 : k2 < k
        · obtain ⟨b, off, rfl, hbw, hc⟩ := (h.out.below hB (Nat.le_refl _)).at_ (by omega)
          have hold := h.out.old (by omega) b off rfl
          have hkc : k ≤ c := by omega
          obtain ⟨q0, q1, q2⟩ := hc k2 hlt2
          clear hc
          have hin := h3.out (corAt l k2) (by rw [corAt_eq (by rw [← hlen.out]; exact hlt2)]; exact List.getElem_mem _)
          have htk := thinF_take (r := r) (l := l) (k := k2) (by rw [← hlen.out]; exact hlt2)
          obtain ⟨K, hK⟩ : ∃ K, thinF r (l.take k2) = K := ⟨_, rfl⟩
          have hKin : ∀ c ∈ K, InC c := fun c hc => h3.out c (List.mem_of_mem_take (thinF_sub r (l.take k2) c (by rw [hK]; exact hc)))
          have hKl : K.length ≤ k2 := by rw [← hK]; have := thinF_length r (l.take k2); rw [List.length_take] at this; omega
          rw [hK] at hown htk
          obtain ⟨⟨x, y, s⟩, hy⟩ : ∃ y, corAt l k2 = y := ⟨_, rfl⟩
          rw [hy] at q0 q1 q2 hin htk
          obtain ⟨m, hm⟩ : ∃ m, k2 * 3 = m := ⟨_, rfl⟩
          simp only [hm] at q0 q1 q2
          obtain ⟨kl, hkl⟩ : ∃ kl, K.length = kl := ⟨_, rfl⟩
          rw [hkl] at hown hKl
          obtain ⟨A2, c2, rfl, hcs, hA2, hBA⟩ := own_form hown
          have hcap2 := hcs.2.1
          have hcl2 := hcs.2.2.1
          have hz := hB.size
          replace hkl := Lib.hid hkl
          replace hy := Lib.hid hy
          replace hK := Lib.hid hK
          replace htk := Lib.hid htk
          replace hin := Lib.hid hin
          replace hKin := Lib.hid hKin
          replace hown := Lib.hid hown
          replace hcs := Lib.hid hcs
          go_wp2
          go_loopw [9, 10] (fun fv i wx => ∃ (j : Nat) (fr : Bool), j ≤ kl ∧ i = .int .i64 j ∧ fv = .bool fr ∧ Hid (fr = !(K.take j).any (nearB r (x, y, s))) ∧ Below wo.heap.size wo wx) (fun _ i _ => kl - (intOf i).toNat)
          case atStart => exact ⟨0, true, Nat.zero_le _, rfl, rfl, Lib.hid rfl, Below.refl _ _⟩
          case round =>
            obtain ⟨j, fr, hj, rfl, rfl, HA, hBx⟩ := hrel
            have hzx := hBx.size
            have e0 := (hBx.cell (p := ⟨b, off + m, none⟩) hbw).trans q0
            have e1 := (hBx.cell (p := ⟨b, off + m + 1, none⟩) hbw).trans q1
            have e2 := (hBx.cell (p := ⟨b, off + m + 2, none⟩) hbw).trans q2
            have hcsx := hcs.out.below hBx (Nat.le_refl _)
            have hB2 : Below w.heap.size w wr := hB.trans (hBx.mono hB.size)
            by_cases hjl : j < kl
            · obtain ⟨b2, off2, rfl, hbw2, hc2⟩ := hcsx.at_ (by omega)
              obtain ⟨p0, p1, p2⟩ := hc2 j hjl
              clear hc2
              have hin2 := hKin.out (corAt K j) (by rw [corAt_eq (by rw [hkl.out]; exact hjl)]; exact List.getElem_mem _)
              obtain ⟨⟨x2, y2, s2⟩, hy2⟩ : ∃ y, corAt K j = y := ⟨_, rfl⟩
              rw [hy2] at p0 p1 p2 hin2
              obtain ⟨m2, hm2⟩ : ∃ m, j * 3 = m := ⟨_, rfl⟩
              simp only [hm2] at p0 p1 p2
              have hstep : (K.take (j + 1)).any (nearB r (x, y, s)) = ((K.take j).any (nearB r (x, y, s)) || nearB r (x, y, s) (x2, y2, s2)) := by
                have hjK : j < K.length := by rw [hkl.out]; exact hjl
                rw [List.take_add_one, List.any_append, List.getElem?_eq_getElem hjK, ← hy2, corAt_eq hjK]
                simp
              obtain ⟨bq, hq⟩ : ∃ bq, nearB r (x, y, s) (x2, y2, s2) = bq := ⟨_, rfl⟩
              have hcall := Lib.hid (near_at hq hin.out hin2 h2.out)
              rw [hq] at hstep
              replace hstep := Lib.hid hstep
              replace hq := Lib.hid hq
              replace hin2 := Lib.hid hin2
              replace hy2 := Lib.hid hy2
              have keepS : ∀ w', Below wr.heap.size wr w' → w'.cell? ⟨b, off + m, none⟩ = some (.int .i64 x) ∧ w'.cell? ⟨b, off + m + 1, none⟩ = some (.int .i64 y) ∧ w'.cell? ⟨b, off + m + 2, none⟩ = some (.int .i64 s) ∧ w'.cell? ⟨b2, off2 + m2, none⟩ = some (.int .i64 x2) ∧ w'.cell? ⟨b2, off2 + m2 + 1, none⟩ = some (.int .i64 y2) ∧ w'.cell? ⟨b2, off2 + m2 + 2, none⟩ = some (.int .i64 s2) := by
                intro w' hb
                have kk : ∀ (bk ok : Nat), bk < wr.heap.size → w'.cell? ⟨bk, ok, none⟩ = wr.cell? ⟨bk, ok, none⟩ := fun bk ok hlt => hb.cell (p := ⟨bk, ok, none⟩) hlt
                exact ⟨(kk _ _ (by omega)).trans e0, (kk _ _ (by omega)).trans e1, (kk _ _ (by omega)).trans e2, (kk _ _ hbw2).trans p0, (kk _ _ hbw2).trans p1, (kk _ _ hbw2).trans p2⟩
              replace keepS := Lib.hid keepS
              have g1 : (0 : Int) ≤ (k2 : Int) := by omega
              have g2 : (k2 : Int) < (k : Int) := by omega
              have g3 : (0 : Int) ≤ (j : Int) := by omega
              have g4 : (j : Int) < (kl : Int) := by omega
              have tt1 : True := trivial
              go_wp2
              have qtok1 : True := trivial
              go_region_held3 (fun w' => w'.cell? ⟨b, off + m, none⟩ = some (.int .i64 x) ∧ w'.cell? ⟨b, off + m + 1, none⟩ = some (.int .i64 y) ∧ w'.cell? ⟨b, off + m + 2, none⟩ = some (.int .i64 s) ∧ w'.cell? ⟨b2, off2 + m2, none⟩ = some (.int .i64 x2) ∧ w'.cell? ⟨b2, off2 + m2 + 1, none⟩ = some (.int .i64 y2) ∧ w'.cell? ⟨b2, off2 + m2 + 2, none⟩ = some (.int .i64 s2))
                (exact keepS.out _ (by repeat (first | exact qB1 | exact (Below.refl wr.heap.size wr) | refine Below.drew ?_ | refine Below.drewN ?_ _ | refine Below.alloc ?_ (by first | omega | (simp <;> omega)) _)))
                (first | (go_at_call 48; clear qtok1; refine (hcall.out _).mono ?_; rintro e qw1 ⟨rfl, qh1⟩; have qB1 : Below wr.heap.size wr qw1 := Below.trans (by repeat (first | exact (Below.refl wr.heap.size wr) | refine Below.drew ?_ | refine Below.drewN ?_ _ | refine Below.alloc ?_ (by first | omega | (simp <;> omega)) _)) (qh1.mono (by first | omega | (simp <;> omega))); have qs1 := qB1.size))
              cases bq
              · go_wp2
                go_roundw
                case rel => exact ⟨j + 1, fr, hjl, by first | rfl | go_num, rfl, Lib.hid (by rw [hstep.out, ← Bool.not_eq_eq_eq_not, HA.out]; simp), hBx.trans (qB1.mono hBx.size)⟩
                case measure => simp [intOf]; omega
              · go_wp2
                go_roundw
                case rel => exact ⟨j + 1, false, hjl, by first | rfl | go_num, rfl, Lib.hid (by rw [hstep.out]; simp), hBx.trans (qB1.mono hBx.size)⟩
                case measure => simp [intOf]; omega
            · obtain rfl : kl = j := by omega
              have hall : fr = !K.any (nearB r (x, y, s)) := by rw [HA.out, ← hkl.out, List.take_length]
              have hownx := own_bel hown.out hBx
              cases fr with
              | false =>
                have hany : K.any (nearB r (x, y, s)) = true := by simpa using hall.symm
                have hnew : Hid (thinF r (l.take (k2 + 1)) = K) := Lib.hid (by rw [htk.out, thinS, if_pos hany])
                replace hownx := Lib.hid hownx
                clear hcsx
                replace hall := Lib.hid hall
                replace hany := Lib.hid hany
                go_wp2
                exact ⟨⟨k2 + 1, hlt2, by first | rfl | go_num, by rw [hnew.out, hkl.out]; exact hownx.out, hB2⟩, by simp [intOf]; omega⟩
              | true =>
                have hany : K.any (nearB r (x, y, s)) = false := by simpa using hall.symm
                have hnew : Hid (thinF r (l.take (k2 + 1)) = K ++ [(x, y, s)]) := Lib.hid (by rw [htk.out, thinS, if_neg (by rw [hany]; simp)])
                obtain ⟨i0, hi, hz0, hz1, hz2⟩ := info_parts infoC
                clear hcsx
                replace hall := Lib.hid hall
                replace hany := Lib.hid hany
                go_wp2_with (at_builtin; refine wpList_append_own _ rfl _ _ 31 rfl w.heap.size 36 i0 (.agg #[.int .i64 0, .int .i64 0, .int .i64 0]) 3 24 Try.underlying31 hi hz0 hz1 hz2 rfl (by decide) _ _ _ rfl (hownx.alloc _) ⟨wr.heap.size, 0, none⟩ 1 1 (ccells [(x, y, s)]) rfl rfl ?qc2 (ccells_one _) ?qc4 ?qc5 ?qc6 ?_)
                case qc2 =>
                  intro j u hj
                  rw [Addr.add_lit, Nat.zero_add, cell_of_row _ wr.heap.size j _ _ _ (heap_alloc_new wr _)]
                  rw [← List.getElem?_toArray] at hj
                  exact hj
                case qc4 => unfold maxLen; omega
                case qc5 => omega
                case qc6 => simp; omega
                intro v' w4 hown4 hgrow hnil
                have hown5 : w4.ownsRow w.heap.size 36 3 v' (kl + 1) (ccells (K ++ [(x, y, s)])) := by rw [ccells_append]; exact hown4
                have hlt4 := (World.ownsRow.lt hownx)
                have hB4 : Below w.heap.size w w4 := (hB2.alloc hB2.size _).grown hgrow (by simp; omega) (fun q hq => (hlt4 q hq).1)
                go_wp2
                exact ⟨⟨k2 + 1, hlt2, by first | rfl | go_num, by rw [hnew.out, List.length_append, hkl.out]; exact hown5, hB4⟩, by simp [intOf]; omega⟩
        · obtain rfl : k2 = k := by omega
          have hfin : Hid (thinF r (l.take k2) = thinF r l) := Lib.hid (by rw [hlen.out, List.take_length])
          rw [hfin.out] at hown
          obtain ⟨A2, c2, rfl, -, -, -⟩ := own_form hown
          replace hown := Lib.hid hown
          go_wp2
          exact bodyPost_ret (v := .tuple #[.slice A2 (thinF r l).length c2, .int .i64 0]) (by simp [results, Try.results20, go_sem]) rfl ⟨_, rfl, hown.out, hB⟩

end Go.Proofs.Ytnnaojaadjafbaa
