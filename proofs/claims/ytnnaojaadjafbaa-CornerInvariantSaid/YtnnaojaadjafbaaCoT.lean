/-
  Walk: Thin of package corner.
-/
import Derived.Test.YtnnaojaadjafbaaCoN
import Derived.Laws.EntriesVeiled
import Derived.WalkMore
import Derived.Deep.LoopGhost
set_option linter.unusedSimpArgs false
set_option linter.unusedVariables false
namespace Go.Proofs.Ytnnaojaadjafbaa
open Go.RowKit

/-- What Thin takes. -/
def ThinOk (r : Int) (l : List Cor) : Prop := l.length ≤ 4096 ∧ (0 ≤ r ∧ r ≤ 1048576) ∧ ∀ c ∈ l, InC c
theorem any_out {l : List Cor} : l.any outB = false ↔ ∀ c ∈ l, InC c := by
  rw [List.any_eq_false]
  exact ⟨fun h c hc => outB_no.1 (by simpa using h c hc), fun h c hc => by simpa using outB_no.2 (h c hc)⟩
def thinC (r : Int) (l : List Cor) : Int := if 4096 < l.length then 3 else if (0 ≤ r ∧ r ≤ 1048576) ∧ l.any outB = false then 0 else 2
theorem thinC_ok {r : Int} {l : List Cor} : thinC r l = 0 ↔ ThinOk r l := by
  unfold thinC ThinOk
  split
  · refine ⟨fun h => by omega, fun h => by omega⟩
  · split
    · rename_i h1 h2
      exact ⟨fun _ => ⟨by omega, h2.1, any_out.1 h2.2⟩, fun _ => rfl⟩
    · rename_i h1 h2
      exact ⟨fun h => by omega, fun h => absurd ⟨h.2.1, any_out.2 h.2.2⟩ h2⟩

/-- Corners that the call returns, in memory of its own, and a code. -/
def RetL (w : World) (l : List Cor) (code : Int) (e : Ending) (w' : World) : Prop :=
  ∃ v, e = .returned (.tuple #[v, .int .i64 code]) ∧ w'.ownsRow w.heap.size 36 3 v l.length (ccells l) ∧ Below w.heap.size w w'

theorem Thin_no (r : Int) (A : Option Addr) (n c : Nat) (l : List Cor) (w : World) (h : CS w A n c l) {k : Int} (hk : thinC r l = k) (hk0 : k ≠ 0) :
    Calls Try.prog 19 #[.slice A n c, .int .i64 r] w fun e w' => e = .returned (.tuple #[.slice none 0 0, .int .i64 k]) ∧ Below w.heap.size w w' := by
  have hlen := h.1
  have hcap := h.2.1
  have hcl := h.2.2.1
  by_cases h1 : 4096 < n
  · have : k = 3 := by rw [← hk]; unfold thinC; rw [if_pos (by omega)]
    subst this
    replace hk := Lib.hid hk
    clear h hlen
    go_enter Try.func19, Try.ntmps19
    go_wp2
    go_step3
    go_wp2
    try rw [Exit.noGoto_ret]
    exact bodyPost_ret (v := .tuple #[.slice none 0 0, .int .i64 3]) (by simp [results, Try.results19, go_sem]) rfl ⟨rfl, Below.refl _ _⟩
  · have hk2 : k = 2 := by
      rw [← hk] at hk0 ⊢
      unfold thinC at hk0 ⊢
      rw [if_neg (by omega)] at hk0 ⊢
      split at hk0
      · exact absurd rfl hk0
      · rename_i h2; rw [if_neg h2]
    subst hk2
    obtain ⟨b, hb⟩ : ∃ b, win r 0 1048576 = b := ⟨_, rfl⟩
    have k1 := Lib.hid (cwithin_at hb)
    cases b
    · replace hk := Lib.hid hk
      replace hb := Lib.hid hb
      clear h hlen
      go_enter Try.func19, Try.ntmps19
      go_wp2
      go_step3
      go_wp2_with (go_at_call 37; refine (k1.out _).mono ?_; rintro e w' ⟨rfl, rfl⟩)
      try rw [Exit.noGoto_ret]
      exact bodyPost_ret (v := .tuple #[.slice none 0 0, .int .i64 2]) (by simp [results, Try.results19, go_sem]) rfl ⟨rfl, Below.refl _ _⟩
    · have ha : l.any outB = true := by
        rw [← Bool.not_eq_false]
        intro ha
        unfold thinC at hk
        rw [if_neg (by omega), if_pos ⟨win_iff.1 hb, ha⟩] at hk
        omega
      have k2 := Lib.hid (ContainsFunc_cors _ _ _ enters_outside A n c l w h (outside_predC l w) ha)
      replace hk := Lib.hid hk
      replace hb := Lib.hid hb
      replace ha := Lib.hid ha
      clear h hlen
      go_enter Try.func19, Try.ntmps19
      go_wp2
      go_step3
      go_wp2_with (first | (go_at_call 37; refine (k1.out _).mono ?_; rintro e w' ⟨rfl, rfl⟩) | (go_at_call 22; refine (k2.out).mono ?_; rintro e w' ⟨rfl, hb2⟩))
      try rw [Exit.noGoto_ret]
      exact bodyPost_ret (v := .tuple #[.slice none 0 0, .int .i64 2]) (by simp [results, Try.results19, go_sem]) rfl ⟨rfl, hb2⟩

set_option maxRecDepth 100000 in
set_option maxHeartbeats 3200000 in
theorem Thin_ok (r : Int) (A : Option Addr) (n c : Nat) (l : List Cor) (w : World) (h : CS w A n c l) (hok : ThinOk r l) :
    Calls Try.prog 19 #[.slice A n c, .int .i64 r] w (RetL w (thinF r l) 0) := by
  obtain ⟨h1, h2, h3⟩ := hok
  have hlen := h.1
  have hcap := h.2.1
  have hcl := h.2.2.1
  have hn : n ≤ 4096 := by omega
  have k1 := Lib.hid (cwithin_at (win_iff.2 h2))
  have k2 := Lib.hid (ContainsFunc_cors _ _ _ enters_outside A n c l w h (outside_predC l w) (any_out.2 h3))
  replace h := Lib.hid h
  replace hlen := Lib.hid hlen
  replace h2 := Lib.hid h2
  replace h3 := Lib.hid h3
  clear h1
  go_enter Try.func19, Try.ntmps19
  go_wp2
  go_step3
  go_wp2_with (first | (go_at_call 37; refine (k1.out _).mono ?_; rintro e w' ⟨rfl, rfl⟩) | (go_at_call 22; refine (k2.out).mono ?_; rintro e w1 ⟨rfl, hb1⟩))
  go_step3
  go_wp2
  go_loopg [7, 27] n (fun g kv i wr => ∃ k : Nat, k + g = n ∧ i = .int .i64 k ∧ wr.ownsRow w.heap.size 36 3 kv (thinF r (l.take k)).length (ccells (thinF r (l.take k))) ∧ Below w.heap.size w wr)
  case atStart => exact ⟨0, Nat.zero_add _, rfl, World.ownsRow_nil _ _ _ _, hb1⟩
  case round =>
    obtain ⟨k, hk, rfl, hown, hB⟩ := hrel
    cases gk with
    | zero =>
      obtain rfl : n = k := by omega
      have hfin : Hid (thinF r (l.take n) = thinF r l) := Lib.hid (by rw [hlen.out, List.take_length])
      rw [hfin.out] at hown
      obtain ⟨A2, c2, rfl, -, -, -⟩ := own_form hown
      replace hown := Lib.hid hown
      go_wp2
      try rw [Exit.noGoto_ret]
      exact bodyPost_ret (v := .tuple #[.slice A2 (thinF r l).length c2, .int .i64 0]) (by simp [results, Try.results19, go_sem]) rfl ⟨_, rfl, hown.out, hB⟩
    | succ g =>
      have hlt : k < n := by omega
      obtain ⟨b, off, rfl, hbw, hc⟩ := (h.out.below hB (Nat.le_refl _)).at_ (by omega)
      obtain ⟨q0, q1, q2⟩ := hc k hlt
      clear hc
      have hm : corAt l k ∈ l := by rw [corAt_eq (by rw [← hlen.out]; exact hlt)]; exact List.getElem_mem _
      have hin := h3.out _ hm
      clear hm
      have htk := thinF_take (r := r) (l := l) (k := k) (by rw [← hlen.out]; exact hlt)
      obtain ⟨K, hK⟩ : ∃ K, thinF r (l.take k) = K := ⟨_, rfl⟩
      have hKin : ∀ c ∈ K, InC c := fun c hc => h3.out c (List.mem_of_mem_take (thinF_sub r (l.take k) c (by rw [hK]; exact hc)))
      have hKl : K.length ≤ k := by rw [← hK]; have := thinF_length r (l.take k); rw [List.length_take] at this; omega
      rw [hK] at hown htk
      obtain ⟨⟨x, y, s⟩, hy⟩ : ∃ y, corAt l k = y := ⟨_, rfl⟩
      rw [hy] at q0 q1 q2 hin htk
      obtain ⟨m, hm⟩ : ∃ m, k * 3 = m := ⟨_, rfl⟩
      simp only [hm] at q0 q1 q2
      obtain ⟨kl, hkl⟩ : ∃ kl, K.length = kl := ⟨_, rfl⟩
      rw [hkl] at hown hKl
      obtain ⟨A2, c2, rfl, hcs, hA2, hBA⟩ := own_form hown
      have hcap2 := hcs.2.1
      have hcl2 := hcs.2.2.1
      have hBa := hB.alloc hB.size (.cells #[.int .i64 x, .int .i64 y, .int .i64 s] 36)
      have hcsa := hcs.alloc (.cells #[.int .i64 x, .int .i64 y, .int .i64 s] 36)
      have d0 : (wr.alloc (.cells #[.int .i64 x, .int .i64 y, .int .i64 s] 36)).cell? ⟨wr.heap.size, 0, none⟩ = some (.int .i64 x) := by simp [go_sem]
      have d1 : (wr.alloc (.cells #[.int .i64 x, .int .i64 y, .int .i64 s] 36)).cell? ⟨wr.heap.size, 1, none⟩ = some (.int .i64 y) := by simp [go_sem]
      have d2 : (wr.alloc (.cells #[.int .i64 x, .int .i64 y, .int .i64 s] 36)).cell? ⟨wr.heap.size, 2, none⟩ = some (.int .i64 s) := by simp [go_sem]
      have howna := hown.alloc (.cells #[.int .i64 x, .int .i64 y, .int .i64 s] 36)
      replace hkl := Lib.hid hkl
      replace hy := Lib.hid hy
      replace hK := Lib.hid hK
      replace htk := Lib.hid htk
      replace hin := Lib.hid hin
      replace hKin := Lib.hid hKin
      replace howna := Lib.hid howna
      replace hcsa := Lib.hid hcsa
      replace d0 := Lib.hid d0
      replace d1 := Lib.hid d1
      replace d2 := Lib.hid d2
      clear hown hcs
      go_wp2
      obtain ⟨wo, rfl⟩ : ∃ wo, wo = wr := ⟨_, rfl⟩
      go_loopg [33] kl (fun g2 i wx => ∃ j : Nat, j + g2 = kl ∧ i = .int .i64 j ∧ Hid (∀ i, i < j → nearB r (x, y, s) (corAt K i) = false) ∧ Below (wo.heap.size + 1) (wo.alloc (.cells #[.int .i64 x, .int .i64 y, .int .i64 s] 36)) wx)
      case atStart => exact ⟨0, Nat.zero_add _, rfl, Lib.hid fun i hi => absurd hi (Nat.not_lt_zero _), Below.refl _ _⟩
      case round =>
        obtain ⟨j, hj, rfl, HA, hBx⟩ := hrel
        have e0 := (hBx.cell (p := ⟨wo.heap.size, 0, none⟩) (Nat.lt_succ_self _)).trans d0.out
        have e1 := (hBx.cell (p := ⟨wo.heap.size, 1, none⟩) (Nat.lt_succ_self _)).trans d1.out
        have e2 := (hBx.cell (p := ⟨wo.heap.size, 2, none⟩) (Nat.lt_succ_self _)).trans d2.out
        have hsx := hBx.size
        simp only [World.size_alloc] at hsx
        have hz := hB.size
        have hne : ¬ wo.heap.size = wr.heap.size := by omega
        have hB2 : Below w.heap.size w wr := hBa.trans (hBx.mono (Nat.le_succ_of_le hB.size))
        have hcsx := hcsa.out.below hBx (by simp)
        cases gk with
        | zero =>
          obtain rfl : kl = j := by omega
          have hany : K.any (nearB r (x, y, s)) = false := canyN (by rw [hkl.out]; exact HA.out)
          have hnew : Hid (thinF r (l.take (k + 1)) = K ++ [(x, y, s)]) := Lib.hid (by rw [htk.out, thinS, if_neg (by rw [hany]; simp)])
          have hownx := own_bel howna.out (by simpa using hBx)
          replace hany := Lib.hid hany
          obtain ⟨i0, hi, hz0, hz1, hz2⟩ := info_parts infoC
          clear hcsx e0 e1 e2
          have e0 := (hBx.cell (p := ⟨wo.heap.size, 0, none⟩) (Nat.lt_succ_self _)).trans d0.out
          have e1 := (hBx.cell (p := ⟨wo.heap.size, 1, none⟩) (Nat.lt_succ_self _)).trans d1.out
          have e2 := (hBx.cell (p := ⟨wo.heap.size, 2, none⟩) (Nat.lt_succ_self _)).trans d2.out
          go_wp2_with (at_builtin; refine wpList_append_own _ rfl _ _ 31 rfl w.heap.size 36 i0 (.agg #[.int .i64 0, .int .i64 0, .int .i64 0]) 3 24 Try.underlying31 hi hz0 hz1 hz2 rfl (by decide) _ _ _ rfl (hownx.alloc _) ⟨wr.heap.size, 0, none⟩ 1 1 (ccells [(x, y, s)]) rfl rfl ?qc2 (ccells_one _) ?qc4 ?qc5 ?qc6 ?_)
          case qc2 =>
            intro j u hj
            rw [Addr.add_lit, Nat.zero_add, cell_of_row _ wr.heap.size j _ _ _ (heap_alloc_new wr _)]
            rw [← List.getElem?_toArray] at hj
            exact hj
          case qc4 => unfold maxLen; omega
          case qc5 => omega
          case qc6 => simp; omega
          intro v' w4 hown4 hgrow hnil
          have hown5 : w4.ownsRow w.heap.size 36 3 v' (kl + 1) (ccells (K ++ [(x, y, s)])) := by rw [ccells_append]; exact hown4
          have hlt4 := (World.ownsRow.lt hownx)
          have hB4 : Below w.heap.size w w4 := (hB2.alloc hB2.size _).grown hgrow (by simp; omega) (fun q hq => (hlt4 q hq).1)
          go_wp2
          go_roundg g
          case measure => omega
          case rel => exact ⟨k + 1, by omega, by first | rfl | go_num, by rw [hnew.out, List.length_append, hkl.out]; exact hown5, hB4⟩
        | succ g2 =>
          have hjl : j < kl := by omega
          obtain ⟨b2, off2, rfl, hbw2, hc2⟩ := hcsx.at_ (by omega)
          obtain ⟨p0, p1, p2⟩ := hc2 j hjl
          clear hc2
          replace e0 := (World.cell?_alloc_lt wr (.cells #[.int .i64 (corAt K j).1, .int .i64 (corAt K j).2.1, .int .i64 (corAt K j).2.2] 36) ⟨wo.heap.size, 0, none⟩ hsx).trans e0
          replace e1 := (World.cell?_alloc_lt wr (.cells #[.int .i64 (corAt K j).1, .int .i64 (corAt K j).2.1, .int .i64 (corAt K j).2.2] 36) ⟨wo.heap.size, 1, none⟩ hsx).trans e1
          replace e2 := (World.cell?_alloc_lt wr (.cells #[.int .i64 (corAt K j).1, .int .i64 (corAt K j).2.1, .int .i64 (corAt K j).2.2] 36) ⟨wo.heap.size, 2, none⟩ hsx).trans e2
          have hKj : corAt K j ∈ K := by rw [corAt_eq (by rw [hkl.out]; exact hjl)]; exact List.getElem_mem _
          have hin2 := hKin.out _ hKj
          clear hKj
          obtain ⟨⟨x2, y2, s2⟩, hy2⟩ : ∃ y, corAt K j = y := ⟨_, rfl⟩
          rw [hy2] at p0 p1 p2 hin2
          simp only [hy2] at e0 e1 e2
          obtain ⟨m2, hm2⟩ : ∃ m, j * 3 = m := ⟨_, rfl⟩
          simp only [hm2] at p0 p1 p2
          replace hy2 := Lib.hid hy2
          cases hq : nearB r (x, y, s) (x2, y2, s2) with
          | true =>
            have hcall := Lib.hid (isNear_at hq hin.out hin2 h2.out)
            have hany : K.any (nearB r (x, y, s)) = true := canyI (k := j) (by rw [hkl.out]; exact hjl) (by rw [hy2.out]; exact hq)
            have hnew : Hid (thinF r (l.take (k + 1)) = K) := Lib.hid (by rw [htk.out, thinS, if_pos hany])
            replace hany := Lib.hid hany
            replace hq := Lib.hid hq
            replace hin2 := Lib.hid hin2
            have hownx := Lib.hid (own_bel howna.out (by simpa using hBx))
            go_wp2_with (go_at_call 47; refine (hcall.out _).mono ?_; rintro e w4 ⟨rfl, hb4⟩)
            go_roundg g
            case measure => omega
            case rel => exact ⟨k + 1, by omega, by first | rfl | go_num, by rw [hnew.out, hkl.out]; exact own_bel hownx.out (((Below.refl _ _).alloc (Nat.le_refl _) _).trans (hb4.mono (by simp))), (hB2.alloc hB2.size _).trans (hb4.mono (by simp; omega))⟩
          | false =>
            have hcall := Lib.hid (isNear_at hq hin.out hin2 h2.out)
            replace hq := Lib.hid hq
            replace hin2 := Lib.hid hin2
            go_wp2_with (go_at_call 47; refine (hcall.out _).mono ?_; rintro e w4 ⟨rfl, hb4⟩)
            go_roundg g2
            case measure => omega
            case rel => exact ⟨j + 1, by omega, by first | rfl | go_num, Lib.hid (fun i hi => (by
              by_cases e : i = j
              · rw [e, hy2.out]; exact hq.out
              · exact HA.out i (by omega))), (hBx.alloc (by omega) _).trans (hb4.mono (by simp; omega))⟩

end Go.Proofs.Ytnnaojaadjafbaa
