/-
  Walks: the closures of the law CornerInvariant.
-/
import Derived.Test.YtnnaojaadjafbaaCoLtr
import Derived.Laws.EntriesVeiled
set_option linter.unusedSimpArgs false
set_option linter.unusedVariables false
namespace Go.Proofs.Ytnnaojaadjafbaa
open Go.RowKit

/-- What is asked of a function value that takes a pixel: in every later world it says f, and changes nothing. -/
def PredF (g : Nat) (lb : Array Value) (f : Int → Int) (P : List Int) (w : World) : Prop :=
  ∀ (W : World) (x : Int), x ∈ P → Below w.heap.size w W → Calls Try.prog g (#[.int .i64 x] ++ lb) W fun e w' => e = .returned (.int .i64 (f x)) ∧ W = w'

theorem neg_predF (M : Int) (g : Nat) (P : List Int) (w : World) (hg : w.cell? ⟨g, 2, none⟩ = some (.int .i64 M)) (hP : ∀ x ∈ P, 0 ≤ x ∧ x ≤ M) (hM : M ≤ 1023) : PredF 28 #[.pointer (some ⟨g, 0, none⟩)] (fun x => M - x) P w := fun W x hx hb => by
  have hc := (hb.cell (p := ⟨g, 2, none⟩) (World.block_lt_of_cell? w _ hg)).trans hg
  obtain ⟨p1, p2⟩ := hP x hx
  show Calls Try.prog 28 #[.int .i64 x, .pointer (some ⟨g, 0, none⟩)] W fun e w' => e = .returned (.int .i64 (M - x)) ∧ W = w'
  go_enter Try.func28, Try.ntmps28
  go_wp2
  go_ret
  exact ⟨rfl, rfl⟩
theorem add_predF (d : Int) (g : Nat) (P : List Int) (w : World) (hg : w.cell? ⟨g, 0, none⟩ = some (.int .u8 d)) (hd : 0 ≤ d ∧ d ≤ 255) (hP : ∀ x ∈ P, 0 ≤ x ∧ x ≤ 1023) : PredF 29 #[.pointer (some ⟨g, 0, none⟩)] (fun x => x + d) P w := fun W x hx hb => by
  have hc := (hb.cell (p := ⟨g, 0, none⟩) (World.block_lt_of_cell? w _ hg)).trans hg
  obtain ⟨p1, p2⟩ := hP x hx
  obtain ⟨d1, d2⟩ := hd
  show Calls Try.prog 29 #[.int .i64 x, .pointer (some ⟨g, 0, none⟩)] W fun e w' => e = .returned (.int .i64 (x + d)) ∧ W = w'
  go_enter Try.func29, Try.ntmps29
  go_wp2
  go_ret
  exact ⟨rfl, rfl⟩
theorem mul_predF (k : Int) (g : Nat) (P : List Int) (w : World) (hg : w.cell? ⟨g, 0, none⟩ = some (.int .i64 k)) (hk : 1 ≤ k ∧ k ≤ 5) (hP : ∀ x ∈ P, 0 ≤ x ∧ x ≤ 1023) : PredF 30 #[.pointer (some ⟨g, 0, none⟩)] (fun x => x * k) P w := fun W x hx hb => by
  have hc := (hb.cell (p := ⟨g, 0, none⟩) (World.block_lt_of_cell? w _ hg)).trans hg
  obtain ⟨p1, p2⟩ := hP x hx
  obtain ⟨d1, d2⟩ := hk
  have hm : 0 ≤ x * k ∧ x * k ≤ 5115 := by
    refine ⟨Int.mul_nonneg p1 (by omega), ?_⟩
    have := Int.mul_le_mul p2 d2 (by omega) (by omega)
    omega
  obtain ⟨m1, m2⟩ := hm
  show Calls Try.prog 30 #[.int .i64 x, .pointer (some ⟨g, 0, none⟩)] W fun e w' => e = .returned (.int .i64 (x * k)) ∧ W = w'
  go_enter Try.func30, Try.ntmps30
  go_wp2
  go_ret
  exact ⟨rfl, rfl⟩
theorem enters_F2 : ∀ args w, (callFunc 28 args).run Try.prog w = .ok (.enter 28 args) w := enters_of Try.func28 (by kernel_rfl) rfl
theorem enters_F3 : ∀ args w, (callFunc 29 args).run Try.prog w = .ok (.enter 29 args) w := enters_of Try.func29 (by kernel_rfl) rfl
theorem enters_F4 : ∀ args w, (callFunc 30 args).run Try.prog w = .ok (.enter 30 args) w := enters_of Try.func30 (by kernel_rfl) rfl
theorem enters_CH : ∀ args w, (callFunc 27 args).run Try.prog w = .ok (.enter 27 args) w := enters_of Try.func27 (by kernel_rfl) rfl

theorem take_map (P : List Int) (f : Int → Int) {k : Nat} (hk : k < P.length) : (P.take (k + 1)).map f = (P.take k).map f ++ [f (nth P k)] := by
  rw [List.take_add_one, List.map_append, List.getElem?_eq_getElem hk, nth_eq hk]
  rfl

set_option maxRecDepth 100000 in
set_option maxHeartbeats 6400000 in
theorem changed_any (gf : Nat) (lb : Array Value) (f : Int → Int) (eg : ∀ args w, (callFunc gf args).run Try.prog w = .ok (.enter gf args) w) (a b : Nat) (M most : Int) (gr bb off n c : Nat) (P : List Int) (w : World) (kr : RB w gr a b M (some ⟨bb, off, none⟩) n c) (h : Sl w (some ⟨bb, off, none⟩) n c P) (hn : n ≤ 200) (hab : a * b = n) (hf : PredF gf lb f P w) (hscr : Scr a b most (P.map f)) :
    Calls Try.prog 27 #[.int .i64 most, .func (.func gf) #[] lb, .pointer (some ⟨gr, 0, none⟩)] w fun e w' => ∃ g, e = .returned (.tuple #[.slice (some ⟨g, 0, none⟩) n n, .bool true]) ∧ w.heap.size ≤ g ∧ Bl w' g (scoresL a b (P.map f)) ∧ Below w.heap.size w w' := by
  have hcap := h.le_cap
  have hcl := h.cap_le
  have hlen := Lib.hid h.len
  have kQ := RB.new w a b most none 0 0
  have k4 := kr.alloc (.cells #[.int .i64 (a : Int), .int .i64 (b : Int), .int .i64 most, .slice none 0 0] 24)
  have hs4 := h.alloc (.cells #[.int .i64 (a : Int), .int .i64 (b : Int), .int .i64 most, .slice none 0 0] 24)
  have hB4 := (Below.refl w.heap.size w).alloc (Nat.le_refl _) (.cells #[.int .i64 (a : Int), .int .i64 (b : Int), .int .i64 most, .slice none 0 0] 24)
  have hgr := kr.lt
  obtain ⟨⟨p0, p1, p2, p3⟩, -⟩ := kr.cells
  obtain ⟨⟨d0, d1, d2, d3⟩, -⟩ := k4.cells
  have c1 := Lib.hid (fun W' A' c' (hW : Sl W' A' n c' (P.map f)) => Scores_ok a b most A' n c' (P.map f) W' hW hscr)
  simp only [Int.toNat_natCast] at c1
  replace hf := Lib.hid hf
  replace hscr := Lib.hid hscr
  replace hab := Lib.hid hab
  obtain ⟨gB, hgB⟩ : ∃ gB, w.heap.size = gB := ⟨_, rfl⟩
  have hz4 : (w.alloc (.cells #[.int .i64 (a : Int), .int .i64 (b : Int), .int .i64 most, .slice none 0 0] 24)).heap.size = gB + 1 := by simp [hgB]
  have hbw : n = 0 ∨ bb < gB := by
    rcases Nat.eq_zero_or_pos n with e | e
    · exact Or.inl e
    · exact Or.inr (by rw [← hgB]; exact h.old e bb off rfl)
  clear h kr
  go_enter Try.func27, Try.ntmps27
  go_wp2
  obtain ⟨w4, hw4⟩ : ∃ w4, w.alloc (.cells #[.int .i64 (a : Int), .int .i64 (b : Int), .int .i64 most, .slice none 0 0] 24) = w4 := ⟨_, rfl⟩
  rw [hw4] at kQ k4 hs4 hz4 hB4 ⊢
  rw [hgB] at kQ hgr hB4
  replace hgB := Lib.hid hgB
  replace hw4 := Lib.hid hw4
  clear d0 d1 d2 d3 p0 p1 p2 p3
  go_loopw [21] (fun i wr => ∃ (k : Nat) (A' : Option Addr) (c' : Nat), k ≤ n ∧ i = .int .i64 (k : Int) ∧ wr.ownsRow (gB + 1) 3 1 (.slice A' k c') k (cells ((P.take k).map f)) ∧ RB wr gB a b most A' k c' ∧ RB wr gr a b M (some ⟨bb, off, none⟩) n c ∧ Sl wr (some ⟨bb, off, none⟩) n c P ∧ Below gB w wr ∧ gB < wr.heap.size) (fun i _ => n - (intOf i).toNat)
  case atStart => exact ⟨0, none, 0, Nat.zero_le _, rfl, World.ownsRow_nil _ _ _ _, kQ, k4, hs4, hB4, by omega⟩
  case round =>
    clear kQ k4 hs4 hB4
    obtain ⟨k, A', c', hk, rfl, hown, kQ, k0, hs, hB, hz⟩ := hrel
    obtain ⟨⟨e0, e1, e2, e3⟩, g0, g1, g2, g3⟩ := kQ.cells
    by_cases hlt : k < n
    · have hki : (k : Int) < (n : Int) := by omega
      obtain ⟨b', off', e, hbbl, hcc⟩ := hs.at_ (by omega)
      cases e
      have hpix := hcc k hlt
      clear hcc
      have hkP : k < P.length := by rw [← hlen.out]; exact hlt
      have hmem : nth P k ∈ P := by rw [nth_eq hkP]; exact List.getElem_mem _
      have htm := take_map P f hkP
      obtain ⟨x, hx⟩ : ∃ x, nth P k = x := ⟨_, rfl⟩
      rw [hx] at hpix hmem htm
      obtain ⟨v, hv⟩ : ∃ v, f x = v := ⟨_, rfl⟩
      have hcall : ∀ q, Calls Try.prog gf (#[.int .i64 x] ++ lb) (wr.drewN q) fun e w' => e = .returned (.int .i64 v) ∧ wr.drewN q = w' := fun q => by
        have := hf.out (wr.drewN q) x hmem (by rw [hgB.out]; exact below_drewN hB q)
        rw [hv] at this
        exact this
      have hcall1 : Calls Try.prog gf (#[.int .i64 x] ++ lb) wr.drew fun e w' => e = .returned (.int .i64 v) ∧ wr.drew = w' := by
        have := hf.out wr.drew x hmem (by rw [hgB.out]; exact hB.drew)
        rw [hv] at this
        exact this
      rw [hv] at htm
      have htab : Hid (cells ((P.take (k + 1)).map f) = cells ((P.take k).map f) ++ [.int .i64 v]) := Lib.hid (by rw [htm, cells_append]; rfl)
      obtain ⟨i0, hi, hz00, hz01, hz02⟩ := info_parts infoI
      have hlt4 := World.ownsRow.lt hown
      have x3 : ∀ o : Obj, (wr.drew.alloc o).cell? ⟨gB, 3, none⟩ = some (.slice A' k c') := fun o => (World.cell?_alloc_lt wr.drew o ⟨gB, 3, none⟩ hz).trans e3
      replace hv := Lib.hid hv
      replace hx := Lib.hid hx
      replace hmem := Lib.hid hmem
      replace x3 := Lib.hid x3
      replace hcall := Lib.hid hcall
      replace hcall1 := Lib.hid hcall1
      clear htm
      go_wp2
      have x4 := x3.out (.cells #[.int .i64 v] 3)
      go_region_law
        (first
          | (go_simp; go_at_fn gf; refine (hcall1.out).mono ?_; rintro e w' ⟨rfl, rfl⟩)
          | (refine step_append_lies _ rfl _ _ 22 rfl (gB + 1) 3 i0 (.int .i64 0) 1 8 Try.underlying22 hi hz00 hz01 hz02 rfl (by decide) _ _ _ rfl (World.ownsRow.alloc (w := wr.drew) hown _) ⟨wr.heap.size, 0, none⟩ 1 1 [.int .i64 v] rfl rfl (new_one _ _ _ _ rfl) (fun u hu => by simp at hu; subst hu; rfl) (by decide) (by unfold maxLen; omega) (by omega) (by simp; omega) _ rfl ?_; intro g6 c6 w6 hown6 hgr6 hat6 hlt6; have hK6 : Below gB wr w6 := Below.grown ((Below.refl gB wr).drew.alloc (by show gB ≤ wr.heap.size; omega) _) hgr6 (by simp; omega) (fun q hq => by have := (hlt4 q hq).1; omega); have kQ6 := ((kQ.drew.alloc _).grown' hgr6 (fun e => by have := (hlt4 _ e).1; omega)); replace hown6 := Lib.hid hown6; replace hgr6 := Lib.hid hgr6; obtain ⟨⟨h0, h1, h2, h3⟩, h4, h5, h6, h7⟩ := kQ6.cells))
      all_goals
        have hK7 : Below gB wr (w6.setCell ⟨gB, 3, none⟩ (.slice (some ⟨g6, 0, none⟩) (k + 1) c6)) := hK6.setCell (Nat.le_refl _) _
        have hlt7 := World.ownsRow.lt hown6.out
        have hz6 : wr.heap.size + 1 ≤ w6.heap.size := by have := hgr6.out.size; simpa using this
        have hz7 : gB < w6.heap.size := by omega
        go_wp2
        go_roundw
        case rel => exact ⟨k + 1, some ⟨g6, 0, none⟩, c6, by omega, by go_num, by rw [htab.out]; exact own_far hown6.out (fun q hq => by have := (hlt7 q hq).1; show q ≠ gB; omega) _, kQ6.set3 _ _ _, k0.below hK7 hgr, hs.below' hK7 (fun _ b' off' e => by cases e; rcases hbw with e | e <;> omega), hB.trans hK7, by rw [size_set']; exact hz7⟩
        case measure => simp [intOf]; omega
    · obtain rfl : k = n := by omega
      have hsl := own_sl_int hown
      have hfin : Hid (P.take k = P) := Lib.hid (by rw [hlen.out, List.take_length])
      rw [hfin.out] at hsl
      go_wp2_with (go_at_call 13; refine (c1.out _ _ _ hsl).mono ?_; rintro e w5 ⟨gS, rfl, hgS, hblS, hb5⟩)
      exact bodyPost_ret (v := .tuple #[.slice (some ⟨gS, 0, none⟩) k k, .bool true]) (by simp [results, Try.results27, go_sem]) rfl ⟨gS, rfl, by rw [hgB.out]; omega, hblS, by rw [hgB.out]; exact hB.trans (hb5.mono (Nat.le_of_lt hz))⟩

end Go.Proofs.Ytnnaojaadjafbaa
