/-
  Walks: same of the law.
-/
import Derived.Test.YtfkoboljobghkaaFrSa
import Derived.Test.YtfkoboljobghkaaFrCm
import Derived.Laws.StructEq
set_option linter.unusedSimpArgs false
set_option linter.unusedVariables false
namespace Go.Proofs.Ytfkoboljobghkaa
open Go.RowKit Go.Shelf

theorem ent_neq (a b c d : ByteArray) (w : World) :
    (binOp .neq 68 (.agg #[.string a, .string b]) (.agg #[.string c, .string d])).run Try.prog w = .ok (.bool (!(a.toList == c.toList && b.toList == d.toList))) w := by
  have hu := Try.underlying68
  have hs : Try.prog.underlying 9 = some .string := Try.underlying9
  rw [run_neq_struct, run_equalIn_struct (d := 9999) (ht := by simp only [Program.fieldsOf, hu]) (hp := by kernel_rfl)]
  simp only [Program.fieldsOf, hu]
  by_cases h1 : a.toList == c.toList <;> by_cases h2 : b.toList == d.toList <;> simp [Op.eqFields, go_sem, h1, h2, hs]
theorem ent_guard (op : BinOp) (x y : Operand) (a b c d : ByteArray) (w : World) :
    (eqGuard op 68 x y (.agg #[.string a, .string b]) (.agg #[.string c, .string d])).run Try.prog w = .ok () w :=
  run_eqGuard_agg w op _ x y _ _ (by kernel_rfl)

theorem ent_same (a b : ByteArray) (w : World) :
    (binOp .neq 68 (.agg #[.string a, .string b]) (.agg #[.string a, .string b])).run Try.prog w = .ok (.bool false) w := by
  rw [ent_neq]; simp
theorem toList_one {a c : ByteArray} (h : a.toList = c.toList) : a = c := by
  rw [ByteArray.toList_eq, ByteArray.toList_eq] at h
  obtain ⟨⟨x⟩⟩ := a
  obtain ⟨⟨y⟩⟩ := c
  simp at h
  rw [h]
theorem ent_other (a b c d : ByteArray) (h : ¬ (a = c ∧ b = d)) (w : World) :
    (binOp .neq 68 (.agg #[.string a, .string b]) (.agg #[.string c, .string d])).run Try.prog w = .ok (.bool true) w := by
  rw [ent_neq]
  have : (a.toList == c.toList && b.toList == d.toList) = false := by
    rw [Bool.and_eq_false_iff]
    by_cases h1 : a = c
    · exact Or.inr (by simpa using fun e => h ⟨h1, toList_one e⟩)
    · exact Or.inl (by simpa using fun e => h1 (toList_one e))
  rw [this]; rfl

theorem ent_ext {E E2 : List Ent} (h : E.length = E2.length) (ha : ∀ j, j < E.length → keyAt E j = keyAt E2 j ∧ valAt E j = valAt E2 j) : E = E2 := by
  apply List.ext_getElem h
  intro i h1 h2
  have := ha i h1
  simp only [keyAt, valAt, List.getD_eq_getElem?_getD, List.getElem?_eq_getElem h1, List.getElem?_eq_getElem h2, Option.getD_some] at this
  exact Prod.ext this.1 this.2

/-- Are two frames the same? -/
def sameF (W H M : Int) (P : List Int) (E : List Ent) (W2 H2 M2 : Int) (P2 : List Int) (E2 : List Ent) : Bool := eqr W H M P W2 H2 M2 P2 && decide (E = E2)

set_option maxRecDepth 100000 in
set_option maxHeartbeats 3200000 in
theorem same_any (A : Option Addr) (n c : Nat) (E : List Ent) (W H M : Int) (Ap : Option Addr) (np cp : Nat) (P : List Int) (A2 : Option Addr) (n2 c2 : Nat) (E2 : List Ent) (W2 H2 M2 : Int) (Ap2 : Option Addr) (np2 cp2 : Nat) (P2 : List Int) (w : World) (h : En w A n c E) (hp : Sl w Ap np cp P) (h2 : En w A2 n2 c2 E2) (hp2 : Sl w Ap2 np2 cp2 P2) :
    Calls Try.prog 35 #[.agg #[.slice A n c, .int .i64 W, .int .i64 H, .int .i64 M, .slice Ap np cp], .agg #[.slice A2 n2 c2, .int .i64 W2, .int .i64 H2, .int .i64 M2, .slice Ap2 np2 cp2]] w fun e w' => e = .returned (.bool (sameF W H M P E W2 H2 M2 P2 E2)) ∧ Below w.heap.size w w' := by
  have hb0 := ((Below.refl w.heap.size w).alloc (Nat.le_refl _) (.cells #[.slice A n c, .int .i64 W, .int .i64 H, .int .i64 M, .slice Ap np cp] 27)).alloc (by simp) (.cells #[.slice A2 n2 c2, .int .i64 W2, .int .i64 H2, .int .i64 M2, .slice Ap2 np2 cp2] 27)
  have hs := (hp.alloc (.cells #[.slice A n c, .int .i64 W, .int .i64 H, .int .i64 M, .slice Ap np cp] 27)).alloc (.cells #[.slice A2 n2 c2, .int .i64 W2, .int .i64 H2, .int .i64 M2, .slice Ap2 np2 cp2] 27)
  have hs2 := (hp2.alloc (.cells #[.slice A n c, .int .i64 W, .int .i64 H, .int .i64 M, .slice Ap np cp] 27)).alloc (.cells #[.slice A2 n2 c2, .int .i64 W2, .int .i64 H2, .int .i64 M2, .slice Ap2 np2 cp2] 27)
  have hE := (h.alloc (.cells #[.slice A n c, .int .i64 W, .int .i64 H, .int .i64 M, .slice Ap np cp] 27)).alloc (.cells #[.slice A2 n2 c2, .int .i64 W2, .int .i64 H2, .int .i64 M2, .slice Ap2 np2 cp2] 27)
  have hE2 := (h2.alloc (.cells #[.slice A n c, .int .i64 W, .int .i64 H, .int .i64 M, .slice Ap np cp] 27)).alloc (.cells #[.slice A2 n2 c2, .int .i64 W2, .int .i64 H2, .int .i64 M2, .slice Ap2 np2 cp2] 27)
  have hcap := h.2.1
  have hcl := h.2.2.1
  have hcap2 := h2.2.1
  have hcl2 := h2.2.2.1
  obtain ⟨b, hb⟩ : ∃ b, eqr W H M P W2 H2 M2 P2 = b := ⟨_, rfl⟩
  have hcon := sameRas_any W H M Ap np cp P W2 H2 M2 Ap2 np2 cp2 P2 _ hs hs2
  rw [hb] at hcon
  replace hcon := Lib.hid hcon
  clear hs hs2 hp hp2 h h2
  replace hE := Lib.hid hE
  replace hE2 := Lib.hid hE2
  cases b
  · have hv : Hid (sameF W H M P E W2 H2 M2 P2 E2 = false) := Lib.hid (by unfold sameF; rw [hb]; rfl)
    replace hb := Lib.hid hb
    go_enter Try.func35, Try.ntmps35
    go_wp2_with (go_at_call 21; refine hcon.out.mono ?_; rintro e w2 ⟨rfl, hb2⟩)
    go_ret
    exact ⟨ret_bool hv.out.symm, hb0.trans (hb2.mono (by simp; omega))⟩
  · by_cases hl : n = n2
    · subst hl
      have hv : Hid (sameF W H M P E W2 H2 M2 P2 E2 = decide (E = E2)) := Lib.hid (by unfold sameF; rw [hb]; rfl)
      replace hb := Lib.hid hb
      have ht2 : ((n : Int) != (n : Int)) = false := by simp
      go_enter Try.func35, Try.ntmps35
      go_wp2_with (go_at_call 21; refine hcon.out.mono ?_; rintro e w1 ⟨rfl, hb2⟩; have x0 : w1.cell? ⟨w.heap.size, 0, none⟩ = some (.slice A n c) := (hb2.cell (p := ⟨w.heap.size, 0, none⟩) (by simp <;> omega)).trans (by simp [go_sem]); have y0 : w1.cell? ⟨w.heap.size + 1, 0, none⟩ = some (.slice A2 n c2) := (hb2.cell (p := ⟨w.heap.size + 1, 0, none⟩) (by simp <;> omega)).trans (by simp [go_sem]))
      have hEa := Lib.hid (hE.out.below hb2 (Nat.le_refl _))
      have hEb := Lib.hid (hE2.out.below hb2 (Nat.le_refl _))
      go_loopw [24] (fun i wr => ∃ k q, k ≤ n ∧ i = .int .i64 ((k : Nat) : Int) ∧ Hid (∀ j, j < k → keyAt E j = keyAt E2 j ∧ valAt E j = valAt E2 j) ∧ wr = w1.drewN q) (fun i _ => n - (intOf i).toNat)
      case atStart => exact ⟨0, 0, Nat.zero_le _, rfl, Lib.hid fun j h => absurd h (by omega), rfl⟩
      case round =>
        obtain ⟨k, q, hk, rfl, hag, rfl⟩ := hrel
        by_cases hlt : k < n
        · obtain ⟨b, off, rfl, hbl, hc⟩ := hEa.out.at_ (by omega)
          obtain ⟨b2, off2, rfl, hbl2, hc2⟩ := hEb.out.at_ (by omega)
          obtain ⟨c0, c1⟩ := hc k hlt
          obtain ⟨d0, d1⟩ := hc2 k hlt
          clear hc hc2
          obtain ⟨ks, hks⟩ : ∃ s, keyAt E k = s := ⟨_, rfl⟩
          obtain ⟨vs, hvs⟩ : ∃ s, valAt E k = s := ⟨_, rfl⟩
          obtain ⟨ks2, hks2⟩ : ∃ s, keyAt E2 k = s := ⟨_, rfl⟩
          obtain ⟨vs2, hvs2⟩ : ∃ s, valAt E2 k = s := ⟨_, rfl⟩
          rw [hks] at c0
          rw [hvs] at c1
          rw [hks2] at d0
          rw [hvs2] at d1
          obtain ⟨u, hu⟩ : ∃ u, k * 2 = u := ⟨_, rfl⟩
          rw [hu] at c0 c1 d0 d1
          replace hks := Lib.hid hks
          replace hvs := Lib.hid hvs
          replace hks2 := Lib.hid hks2
          replace hvs2 := Lib.hid hvs2
          have hki : (k : Int) < (n : Int) := by omega
          by_cases hxy : ks = ks2 ∧ vs = vs2
          · obtain ⟨rfl, rfl⟩ := hxy
            have hq1 := fun W => ent_same ks vs W
            have hg1 := fun W x y => ent_guard .neq x y ks vs ks vs W
            go_wp2
            go_quiet (fail)
            go_wp2
            go_roundw
            case rel => exact ⟨k + 1, _, by omega, by go_num, Lib.hid (fun j h => by
              by_cases e : j = k
              · rw [e, hks.out, hks2.out, hvs.out, hvs2.out]; exact ⟨rfl, rfl⟩
              · exact hag.out j (by omega)), rfl⟩
            case measure => simp [intOf]; omega
          · have hf : Hid (sameF W H M P E W2 H2 M2 P2 E2 = false) := Lib.hid (by
              rw [hv.out]
              refine decide_eq_false fun e => hxy ?_
              rw [← hks.out, ← hvs.out, ← hks2.out, ← hvs2.out, e]; exact ⟨rfl, rfl⟩)
            have hq1 := fun W => ent_other ks vs ks2 vs2 hxy W
            have hg1 := fun W x y => ent_guard .neq x y ks vs ks2 vs2 W
            replace hxy := Lib.hid hxy
            go_wp2
            go_quiet (fail)
            go_wp2
            go_ret
            exact ⟨ret_bool hf.out.symm, by first | exact below_drewN (hb0.trans (hb2.mono (by simp; omega))) _ | exact below_drewN (below_drewN (hb0.trans (hb2.mono (by simp; omega))) _) _⟩
        · have hf : Hid (sameF W H M P E W2 H2 M2 P2 E2 = true) := Lib.hid (by
            rw [hv.out]
            exact decide_eq_true (ent_ext (by rw [← hEa.out.1, ← hEb.out.1]) (fun j hj => hag.out j (by rw [← hEa.out.1] at hj; omega))))
          go_wp2
          go_ret
          exact ⟨ret_bool hf.out.symm, by first | exact below_drewN (hb0.trans (hb2.mono (by simp; omega))) _ | exact below_drewN (below_drewN (hb0.trans (hb2.mono (by simp; omega))) _) _⟩
    · have hv : Hid (sameF W H M P E W2 H2 M2 P2 E2 = false) := Lib.hid (by
        unfold sameF; rw [hb, decide_eq_false (fun e => hl (by rw [hE.out.1, hE2.out.1, e]))]; rfl)
      replace hb := Lib.hid hb
      have ht2 : ((n : Int) != (n2 : Int)) = true := by rw [bne_iff_ne]; omega
      replace hl := Lib.hid hl
      go_enter Try.func35, Try.ntmps35
      go_wp2_with (go_at_call 21; refine hcon.out.mono ?_; rintro e w1 ⟨rfl, hb2⟩; have x0 : w1.cell? ⟨w.heap.size, 0, none⟩ = some (.slice A n c) := (hb2.cell (p := ⟨w.heap.size, 0, none⟩) (by simp <;> omega)).trans (by simp [go_sem]); have y0 : w1.cell? ⟨w.heap.size + 1, 0, none⟩ = some (.slice A2 n2 c2) := (hb2.cell (p := ⟨w.heap.size + 1, 0, none⟩) (by simp <;> omega)).trans (by simp [go_sem]))
      go_ret
      exact ⟨ret_bool hv.out.symm, hb0.trans (hb2.mono (by simp; omega))⟩

end Go.Proofs.Ytfkoboljobghkaa
