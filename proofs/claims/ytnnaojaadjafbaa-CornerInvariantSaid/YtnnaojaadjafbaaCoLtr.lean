/-
  Walk: the law CornerTransposes.
-/
import Derived.Test.YtnnaojaadjafbaaCoLs
import Derived.Test.YtnnaojaadjafbaaCoTm
import Derived.Deep.RegionLaw
import Derived.Deep.AppendLies
set_option linter.unusedSimpArgs false
set_option linter.unusedVariables false
namespace Go.Proofs.Ytnnaojaadjafbaa
open Go.RowKit

theorem new_one (w : World) (t : TypeId) (x : Value) (g : Nat) (hg : g = w.heap.size) : ∀ j u, ([x] : List Value)[j]? = some u → (w.alloc (.cells #[x] t)).cell? ((⟨g, 0, none⟩ : Addr).add j) = some u := by
  subst hg
  intro j u hj
  rw [Addr.add_lit, Nat.zero_add, cell_of_row _ _ j _ _ _ (heap_alloc_new w _), List.getElem?_toArray]
  exact hj
theorem size_set' (w : World) (p : Addr) (u : Value) : (w.setCell p u).heap.size = w.heap.size := by simp [World.setCell]
theorem tr_scr {a b : Nat} {M : Int} {P : List Int} (h : Scr a b M P) : Scr b a M (trL a b P) := by
  obtain ⟨⟨⟨h1, h2, h3⟩, h4, h5⟩, h6⟩ := h
  have hPl : P.length = a * b := by
    have : (P.length : Int) = ((a * b : Nat) : Int) := by rw [h4]; simp
    omega
  refine ⟨⟨⟨h2, h1, h3⟩, by rw [trL, tab_length, Int.mul_comm]; simp, fun g hg => ?_⟩, h6⟩
  unfold trL tab at hg
  obtain ⟨k, hk, rfl⟩ := List.mem_map.1 hg
  have hk := List.mem_range.1 hk
  unfold trF
  have hb : 1 ≤ b := by omega
  have hdm := mod_div_nat k b hb
  have hx : k / b < a := Nat.div_lt_of_lt_mul (by rw [Nat.mul_comm]; exact hk)
  have hi : (k % b) * a + k / b < P.length := by rw [hPl, Nat.mul_comm a b]; exact row_lt hdm.2 hx
  rw [nth_eq hi]
  exact h5 _ (List.getElem_mem _)
theorem ask_at {W H M : Int} {A : Option Addr} {n c : Nat} {P : List Int} {r : Int} (hr : AskR W H M P r) (w : World) (h : Sl w A n c P) :
    Calls Try.prog 26 #[.agg #[.int .i64 W, .int .i64 H, .int .i64 M, .slice A n c]] w fun e w' => e = .returned (.int .i64 r) ∧ Below w.heap.size w w' := Asked_any W H M A n c P w h hr

set_option maxRecDepth 100000 in
set_option maxHeartbeats 3200000 in
/-- Where nothing is asked. -/
theorem lawTrans_out (W H M : Int) (A : Option Addr) (n c : Nat) (P : List Int) (w : World) (h : Sl w A n c P) (ho : ¬ (n ≤ 200 ∧ Scr W H M P)) :
    Calls Try.prog 9 #[.agg #[.int .i64 W, .int .i64 H, .int .i64 M, .slice A n c]] w fun e w' => e = .returned (.bool true) ∧ Below w.heap.size w w' := by
  have hb0 := (Below.refl w.heap.size w).alloc (Nat.le_refl _) (.cells #[.int .i64 W, .int .i64 H, .int .i64 M, .slice A n c] 24)
  have hs0 := h.alloc (.cells #[.int .i64 W, .int .i64 H, .int .i64 M, .slice A n c] 24)
  have k0 := RB.new w W H M A n c
  have hn : n ≤ 9223372036854775807 := by have := h.le_cap; have := h.cap_le; omega
  clear h
  by_cases hf : n ≤ 200
  · have cf := Lib.hid (fun W' => few_at (W := W) (H := H) (M := M) (A := A) (c := c) (w := W') hn (decide_eq_true hf))
    obtain ⟨r, hr⟩ := AskR.ex W H M P
    have hr0 : r ≠ 0 := fun e => ho ⟨hf, by subst e; exact hr.zero⟩
    have hne : (r != 0) = true := by simp [hr0]
    have c1 := Lib.hid (ask_at (A := A) (n := n) (c := c) hr)
    replace hr := Lib.hid hr
    replace hr0 := Lib.hid hr0
    replace ho := Lib.hid ho
    go_enter Try.func9, Try.ntmps9
    go_wp2_with (first
      | (go_at_call 11; refine (known_any _).mono ?_; rintro e w1 ⟨rfl, hb1⟩; have k1 := k0.below hb1 k0.lt; have hs1 := hs0.below hb1 (Nat.le_refl _); have hB1 := hb0.trans (hb1.mono hb0.size); obtain ⟨⟨d0, d1, d2, d3⟩, f0, f1, f2, f3⟩ := k1.cells)
      | (go_at_call 12; refine (cf.out _).mono ?_; rintro e w2 ⟨rfl, hb2⟩; have k2 := k1.below hb2 k1.lt; have hs2 := hs1.below hb2 (Nat.le_refl _); have hB2 := hB1.trans (hb2.mono hB1.size); clear d0 d1 d2 d3 f0 f1 f2 f3; obtain ⟨⟨d0, d1, d2, d3⟩, f0, f1, f2, f3⟩ := k2.cells)
      | (go_at_call 26; refine (c1.out _ hs2).mono ?_; rintro e w3 ⟨rfl, hb3⟩; have hB3 := hB2.trans (hb3.mono hB2.size)))
    go_ret
    exact ⟨rfl, hB3⟩
  · have cf := Lib.hid (fun W' => few_at (W := W) (H := H) (M := M) (A := A) (c := c) (w := W') hn (decide_eq_false hf))
    replace ho := Lib.hid ho
    go_enter Try.func9, Try.ntmps9
    go_wp2_with (first
      | (go_at_call 11; refine (known_any _).mono ?_; rintro e w1 ⟨rfl, hb1⟩; have k1 := k0.below hb1 k0.lt; have hB1 := hb0.trans (hb1.mono hb0.size); obtain ⟨⟨d0, d1, d2, d3⟩, f0, f1, f2, f3⟩ := k1.cells)
      | (go_at_call 12; refine (cf.out _).mono ?_; rintro e w2 ⟨rfl, hb2⟩; have hB2 := hB1.trans (hb2.mono hB1.size)))
    go_ret
    exact ⟨rfl, hB2⟩

set_option maxRecDepth 100000 in
set_option maxHeartbeats 6400000 in
theorem lawTrans_in (W H M : Int) (A : Option Addr) (n c : Nat) (P : List Int) (w : World) (h : Sl w A n c P) (hf : n ≤ 200) (hscr : Scr W H M P) :
    Calls Try.prog 9 #[.agg #[.int .i64 W, .int .i64 H, .int .i64 M, .slice A n c]] w fun e w' => e = .returned (.bool true) ∧ Below w.heap.size w w' := by
  have hb0 := (Below.refl w.heap.size w).alloc (Nat.le_refl _) (.cells #[.int .i64 W, .int .i64 H, .int .i64 M, .slice A n c] 24)
  have hs0 := h.alloc (.cells #[.int .i64 W, .int .i64 H, .int .i64 M, .slice A n c] 24)
  have k0 := RB.new w W H M A n c
  have hcap := h.le_cap
  have hcl := h.cap_le
  have cf := Lib.hid (fun W' => few_at (W := W) (H := H) (M := M) (A := A) (c := c) (w := W') (by omega) (decide_eq_true hf))
  have ca := Lib.hid (ask_at (A := A) (n := n) (c := c) (.inr (.inr ⟨rfl, hscr⟩) : AskR W H M P 0))
  have c1 := Lib.hid (fun W' hW => Scores_ok W H M A n c P W' hW hscr)
  obtain ⟨a, b, rfl, rfl, ⟨ha1, ha2⟩, ⟨hb1, hb2⟩, ⟨hM1, hM2⟩, hab, hl1, hl2⟩ := hscr.1.nat
  obtain ⟨bb, off, rfl, hbw, -⟩ := h.at_ (by rw [h.len]; exact hl2)
  simp only [Int.toNat_natCast] at c1
  have hN : a * b = n := by rw [h.len, hab]
  have hscr2 := tr_scr hscr
  obtain ⟨Q, hQ⟩ : ∃ Q, trL a b P = Q := ⟨_, rfl⟩
  rw [hQ] at hscr2
  have c2 := Lib.hid (fun W' A' c' (hW : Sl W' A' n c' Q) => Scores_ok b a M A' n c' Q W' hW hscr2)
  simp only [Int.toNat_natCast] at c2
  obtain ⟨S, hS⟩ : ∃ S, scoresL a b P = S := ⟨_, rfl⟩
  obtain ⟨T, hT⟩ : ∃ S, scoresL b a Q = S := ⟨_, rfl⟩
  rw [hS] at c1
  rw [hT] at c2
  have hSl : Hid (S.length = n) := Lib.hid (by rw [← hS, scoresL, tab_length, hN])
  have hTl : Hid (T.length = n) := Lib.hid (by rw [← hT, scoresL, tab_length, Nat.mul_comm, hN])
  have hST : Hid (∀ x y, x < a → y < b → nth T (x * b + y) = nth S (y * a + x)) := Lib.hid (fun x y hx hy => by rw [← hT, ← hS, ← hQ]; exact tr_scores hx hy)
  have hQt : Hid (tab n (trF a b P) = Q) := Lib.hid (by rw [← hQ, trL, hN])
  have hn4 : n ≤ 4096 := by omega
  replace h := Lib.hid h
  replace hscr := Lib.hid hscr
  replace hscr2 := Lib.hid hscr2
  replace hQ := Lib.hid hQ
  replace hS := Lib.hid hS
  replace hT := Lib.hid hT
  replace hN := Lib.hid hN
  clear hab hl1 hl2
  go_enter Try.func9, Try.ntmps9
  go_wp2_with (first
    | (go_at_call 11; refine (known_any _).mono ?_; rintro e w1 ⟨rfl, hb1⟩; have k1 := k0.below hb1 k0.lt; have hs1 := hs0.below hb1 (Nat.le_refl _); have hB1 := hb0.trans (hb1.mono hb0.size); obtain ⟨⟨d0, d1, d2, d3⟩, f0, f1, f2, f3⟩ := k1.cells)
    | (go_at_call 12; refine (cf.out _).mono ?_; rintro e w2 ⟨rfl, hb2⟩; have k2 := k1.below hb2 k1.lt; have hs2 := hs1.below hb2 (Nat.le_refl _); have hB2 := hB1.trans (hb2.mono hB1.size); clear d0 d1 d2 d3 f0 f1 f2 f3; obtain ⟨⟨d0, d1, d2, d3⟩, f0, f1, f2, f3⟩ := k2.cells)
    | (go_at_call 26; refine (ca.out _ hs2).mono ?_; rintro e w3 ⟨rfl, hb3⟩; have k3 := k2.below hb3 k2.lt; have hs3 := hs2.below hb3 (Nat.le_refl _); have hB3 := hB2.trans (hb3.mono hB2.size); clear d0 d1 d2 d3 f0 f1 f2 f3; obtain ⟨⟨d0, d1, d2, d3⟩, f0, f1, f2, f3⟩ := k3.cells; obtain ⟨⟨p0, p1, p2, p3⟩, -⟩ := (k3.alloc (.cells #[.int .i64 (b : Int), .int .i64 (a : Int), .int .i64 M, .slice none 0 0] 24)).cells))
  clear p0 p1 p2 p3 k0 k1 k2 hs0 hs1 hs2 hb0 hb1 hb2 hb3 hB1 hB2 d0 d1 d2 d3 f0 f1 f2 f3
  have kQ := RB.new w3 b a M none 0 0
  have k4 := k3.alloc (.cells #[.int .i64 (b : Int), .int .i64 (a : Int), .int .i64 M, .slice none 0 0] 24)
  have hs4 := hs3.alloc (.cells #[.int .i64 (b : Int), .int .i64 (a : Int), .int .i64 M, .slice none 0 0] 24)
  have hz3 := k3.lt
  have hB4 := hB3.alloc hB3.size (.cells #[.int .i64 (b : Int), .int .i64 (a : Int), .int .i64 M, .slice none 0 0] 24)
  obtain ⟨gB, hgB⟩ : ∃ gB, w3.heap.size = gB := ⟨_, rfl⟩
  have hz4 : (w3.alloc (.cells #[.int .i64 (b : Int), .int .i64 (a : Int), .int .i64 M, .slice none 0 0] 24)).heap.size = gB + 1 := by simp [hgB]
  obtain ⟨w4, hw4⟩ : ∃ w4, w3.alloc (.cells #[.int .i64 (b : Int), .int .i64 (a : Int), .int .i64 M, .slice none 0 0] 24) = w4 := ⟨_, rfl⟩
  rw [hw4] at kQ k4 hs4 hz4 hB4 ⊢
  rw [hgB] at kQ hz3 ⊢
  replace hgB := Lib.hid hgB
  replace hw4 := Lib.hid hw4
  clear k3 hs3 hB3
  go_loopw [31] (fun i wr => ∃ (x q : Nat) (A' : Option Addr) (c' : Nat), x ≤ a ∧ i = .int .i64 (x : Int) ∧ Hid (q = x * b) ∧ wr.ownsRow (gB + 1) 3 1 (.slice A' q c') q (cells (tab q (trF a b P))) ∧ RB wr gB b a M A' q c' ∧ RB wr w.heap.size a b M (some ⟨bb, off, none⟩) n c ∧ Sl wr (some ⟨bb, off, none⟩) n c P ∧ Below w.heap.size w wr ∧ gB < wr.heap.size) (fun i _ => a - (intOf i).toNat)
  case atStart => exact ⟨0, 0, none, 0, Nat.zero_le _, rfl, Lib.hid (Nat.zero_mul _).symm, World.ownsRow_nil _ _ _ _, kQ, k4, hs4, hB4, by omega⟩
  case round =>
    clear kQ k4 hs4 hB4
    obtain ⟨x, q, A', c', hx, rfl, hq, hown, kQ, k0, hs, hB, hz⟩ := hrel
    obtain ⟨⟨d0, d1, d2, d3⟩, f0, f1, f2, f3⟩ := k0.cells
    by_cases hlt : x < a
    · have hji : (x : Int) < (a : Int) := by omega
      go_wp2
      obtain ⟨wo, rfl⟩ : ∃ wo, wo = wr := ⟨_, rfl⟩
      go_loopw [36] (fun i wr => ∃ (y q : Nat) (A' : Option Addr) (c' : Nat), y ≤ b ∧ i = .int .i64 (y : Int) ∧ Hid (q = x * b + y) ∧ wr.ownsRow (gB + 1) 3 1 (.slice A' q c') q (cells (tab q (trF a b P))) ∧ RB wr gB b a M A' q c' ∧ RB wr w.heap.size a b M (some ⟨bb, off, none⟩) n c ∧ Sl wr (some ⟨bb, off, none⟩) n c P ∧ Below w.heap.size w wr ∧ gB < wr.heap.size) (fun i _ => b - (intOf i).toNat)
      case atStart => exact ⟨0, q, A', c', Nat.zero_le _, rfl, Lib.hid (by rw [hq.out]; rfl), hown, kQ, k0, hs, hB, hz⟩
      case round =>
        clear kQ k0 hs hB hz hown hq d0 d1 d2 d3 f0 f1 f2 f3
        obtain ⟨y, q, A', c', hy, rfl, hq, hown, kQ, k0, hs, hB, hz⟩ := hrel
        obtain ⟨⟨d0, d1, d2, d3⟩, f0, f1, f2, f3⟩ := k0.cells
        by_cases hlty : y < b
        · have hii : (y : Int) < (b : Int) := by omega
          obtain ⟨⟨e0, e1, e2, e3⟩, g0, g1, g2, g3⟩ := kQ.cells
          have hyb := Lib.hid hlty
          have hql : q < n := by rw [hq.out, ← hN.out]; exact row_lt hlt hlty
          obtain ⟨m, hm⟩ : ∃ m, y * a + x = m := ⟨_, rfl⟩
          have hml : m < n := by rw [← hm, ← hN.out, Nat.mul_comm a b]; exact row_lt hlty hlt
          obtain ⟨b', off', e, hbbl, hcc⟩ := hs.at_ (by omega)
          cases e
          have hpix := hcc m hml
          clear hcc
          obtain ⟨v, hv⟩ : ∃ v, nth P m = v := ⟨_, rfl⟩
          rw [hv] at hpix
          have htab : Hid (cells (tab (q + 1) (trF a b P)) = cells (tab q (trF a b P)) ++ [.int .i64 v]) := Lib.hid (by
            rw [tab_succ, cells_append]
            have : trF a b P q = v := by unfold trF; rw [hq.out, row_mod hyb.out, row_div hyb.out, hm, hv]
            rw [this]; rfl)
          have hmi : (y : Int) * (a : Int) + (x : Int) = (m : Int) := by rw [← hm]; simp
          obtain ⟨z, hzz⟩ : ∃ z : Int, (y : Int) * (a : Int) = z := ⟨_, rfl⟩
          have hz9 : 0 ≤ z ∧ z ≤ 4096 := by
            rw [← hzz]
            refine ⟨Int.mul_nonneg (by omega) (by omega), ?_⟩
            have := Int.mul_le_mul (show (y : Int) ≤ 64 by omega) (show (a : Int) ≤ 64 by omega) (by omega) (by omega)
            omega
          obtain ⟨z1, z2⟩ := hz9
          rw [hzz] at hmi
          have l1 : (m : Int) < (n : Int) := by omega
          have l0 : (0 : Int) ≤ (m : Int) := by omega
          have hwz : IntKind.i64.wrap z = z := IntWalk.i64_in _ (by omega)
          have hwm : IntKind.i64.wrap (m : Int) = (m : Int) := IntWalk.i64_in _ (by omega)
          obtain ⟨i0, hi, hz00, hz01, hz02⟩ := info_parts infoI
          have hlt4 := World.ownsRow.lt hown
          have keepS : ∀ w', Below gB wr w' → w'.cell? ⟨w.heap.size, 0, none⟩ = some (.int .i64 (a : Int)) ∧ w'.cell? ⟨w.heap.size, 3, none⟩ = some (.slice (some ⟨bb, off, none⟩) n c) ∧ w'.cell? ⟨bb, off + m, none⟩ = some (.int .i64 v) := fun w' hb =>
            ⟨(hb.cell (p := ⟨w.heap.size, 0, none⟩) hz3).trans d0, (hb.cell (p := ⟨w.heap.size, 3, none⟩) hz3).trans d3, (hb.cell (p := ⟨bb, off + m, none⟩) (by show bb < gB; omega)).trans hpix⟩
          replace keepS := Lib.hid keepS
          have x3 : ∀ o : Obj, (wr.drew.alloc o).cell? ⟨gB, 3, none⟩ = some (.slice A' q c') := fun o => (World.cell?_alloc_lt wr.drew o ⟨gB, 3, none⟩ hz).trans e3
          replace hv := Lib.hid hv
          replace hm := Lib.hid hm
          replace x3 := Lib.hid x3
          go_wp2
          have x4 := x3.out (.cells #[.int .i64 v] 3)
          go_region_law
            (first | (refine step_append_lies _ rfl _ _ 22 rfl (gB + 1) 3 i0 (.int .i64 0) 1 8 Try.underlying22 hi hz00 hz01 hz02 rfl (by decide) _ _ _ rfl (World.ownsRow.alloc (w := wr.drew) hown _) ⟨wr.heap.size, 0, none⟩ 1 1 [.int .i64 v] rfl rfl (new_one _ _ _ _ rfl) (fun u hu => by simp at hu; subst hu; rfl) (by decide) (by unfold maxLen; omega) (by omega) (by simp; omega) _ rfl ?_; intro g6 c6 w6 hown6 hgr6 hat6 hlt6; have hK6 : Below gB wr w6 := Below.grown ((Below.refl gB wr).drew.alloc (by show gB ≤ wr.heap.size; omega) _) hgr6 (by simp; omega) (fun q hq => by have := (hlt4 q hq).1; omega); have kQ6 := ((kQ.drew.alloc _).grown' hgr6 (fun e => by have := (hlt4 _ e).1; omega)); replace hown6 := Lib.hid hown6; replace hgr6 := Lib.hid hgr6; obtain ⟨⟨h0, h1, h2, h3⟩, h4, h5, h6, h7⟩ := kQ6.cells))
          all_goals
            have hK7 : Below gB wr (w6.setCell ⟨gB, 3, none⟩ (.slice (some ⟨g6, 0, none⟩) (q + 1) c6)) := hK6.setCell (Nat.le_refl _) _
            have hlt7 := World.ownsRow.lt hown6.out
            have hz6 : wr.heap.size + 1 ≤ w6.heap.size := by have := hgr6.out.size; simpa using this
            have hz7 : gB < w6.heap.size := Nat.lt_of_lt_of_le hz (Nat.le_trans (Nat.le_succ _) hz6)
            go_wp2
            go_roundw
            case rel => exact ⟨y + 1, q + 1, some ⟨g6, 0, none⟩, c6, hyb.out, by go_num, Lib.hid (by rw [hq.out]; omega), by rw [htab.out]; exact own_far hown6.out (fun q hq => by have := (hlt7 q hq).1; show q ≠ gB; omega) _, kQ6.set3 _ _ _, k0.below hK7 hz3, hs.below' hK7 (fun _ b' off' e => by cases e; omega), hB.trans (hK7.mono (Nat.le_of_lt hz3)), by rw [size_set']; exact hz7⟩
            case measure => simp [intOf]; omega
        · obtain rfl : y = b := by omega
          have hii : ¬ (y : Int) < (y : Int) := by omega
          go_wp2
          go_roundw
          case rel => exact ⟨x + 1, q, A', c', hlt, by go_num, Lib.hid (by rw [hq.out, Nat.add_mul, Nat.one_mul]), hown, kQ, k0, hs, hB, hz⟩
          case measure => simp [intOf]; omega
    · obtain rfl : x = a := by omega
      have hji : ¬ (x : Int) < (x : Int) := by omega
      have hqn : q = n := by rw [hq.out, ← hN.out]
      subst hqn
      have hsl := own_sl_int hown
      rw [hQt.out] at hsl
      obtain ⟨⟨e0, e1, e2, e3⟩, g0, g1, g2, g3⟩ := kQ.cells
      have tok : True := trivial
      have hne1 : ((q : Int) != (q : Int)) = false := by simp
      go_wp2_with (first
        | (go_at_call 13; clear tok; refine (c1.out _ hs).mono ?_; rintro e w5 ⟨gS, rfl, hgS, hblS, hb5⟩; have k5 := k0.below hb5 k0.lt; have kQ5 := kQ.below hb5 hz; have hsl5 := hsl.below hb5 (Nat.le_refl _); have hB5 := hB.trans (hb5.mono hB.size); clear d0 d1 d2 d3 f0 f1 f2 f3 e0 e1 e2 e3 g0 g1 g2 g3; obtain ⟨⟨d0, d1, d2, d3⟩, f0, f1, f2, f3⟩ := k5.cells; obtain ⟨⟨e0, e1, e2, e3⟩, g0, g1, g2, g3⟩ := kQ5.cells)
        | (go_at_call 13; refine (c2.out _ _ _ hsl5).mono ?_; rintro e w6 ⟨gT, rfl, hgT, hblT, hb6⟩; have k6 := k5.below hb6 k5.lt; replace hblS := hblS.below hb6 hblS.lt; have hB6 := hB5.trans (hb6.mono hB5.size); clear d0 d1 d2 d3 f0 f1 f2 f3 e0 e1 e2 e3 g0 g1 g2 g3; obtain ⟨⟨d0, d1, d2, d3⟩, f0, f1, f2, f3⟩ := k6.cells))
      clear hs hsl hsl5 k0 kQ kQ5 k5 hB hB5 hb5 hb6
      replace hblS := Lib.hid hblS
      replace hblT := Lib.hid hblT
      obtain ⟨wo, rfl⟩ : ∃ wo, wo = wr := ⟨_, rfl⟩
      go_loopw [89] (fun i wr => ∃ (u qd : Nat), u ≤ x ∧ i = .int .i64 (u : Int) ∧ wr = w6.drewN qd) (fun i _ => x - (intOf i).toNat)
      case atStart => exact ⟨0, 0, Nat.zero_le _, rfl, rfl⟩
      case round =>
        obtain ⟨u, qd, hu, rfl, rfl⟩ := hrel
        by_cases hltu : u < x
        · have hui : (u : Int) < (x : Int) := by omega
          go_wp2
          go_loopw [94] (fun i wr => ∃ (y qd : Nat), y ≤ b ∧ i = .int .i64 (y : Int) ∧ wr = w6.drewN qd) (fun i _ => b - (intOf i).toNat)
          case atStart => exact ⟨0, qd, Nat.zero_le _, rfl, rfl⟩
          case round =>
            obtain ⟨y, qe, hy, rfl, rfl⟩ := hrel
            by_cases hlty : y < b
            · have hyi : (y : Int) < (b : Int) := by omega
              have hst := hST.out u y hltu hlty
              obtain ⟨m, hm⟩ : ∃ m, y * x + u = m := ⟨_, rfl⟩
              obtain ⟨k, hk⟩ : ∃ k, u * b + y = k := ⟨_, rfl⟩
              have hml : m < q := by rw [← hm, ← hN.out, Nat.mul_comm x b]; exact row_lt hlty hltu
              have hkl : k < q := by rw [← hk, ← hN.out]; exact row_lt hltu hlty
              rw [hm, hk] at hst
              have s1 := hblS.out.cell (i := m) (by rw [hSl.out]; exact hml)
              have s2 := hblT.out.cell (i := k) (by rw [hTl.out]; exact hkl)
              rw [hst] at s2
              obtain ⟨v, hv⟩ : ∃ v, nth S m = v := ⟨_, rfl⟩
              rw [hv] at s1 s2
              have hvv : (v != v) = false := by simp
              have hmi : (y : Int) * (x : Int) + (u : Int) = (m : Int) := by rw [← hm]; simp
              have hki : (u : Int) * (b : Int) + (y : Int) = (k : Int) := by rw [← hk]; simp
              obtain ⟨z, hzz⟩ : ∃ z : Int, (y : Int) * (x : Int) = z := ⟨_, rfl⟩
              obtain ⟨z', hzz'⟩ : ∃ z : Int, (u : Int) * (b : Int) = z := ⟨_, rfl⟩
              rw [hzz] at hmi
              rw [hzz'] at hki
              have l1 : (m : Int) < (q : Int) := by omega
              have l2 : (k : Int) < (q : Int) := by omega
              have z1 : 0 ≤ z := by rw [← hzz]; exact Int.mul_nonneg (by omega) (by omega)
              have z2 : 0 ≤ z' := by rw [← hzz']; exact Int.mul_nonneg (by omega) (by omega)
              have z3 : z ≤ 4096 := by omega
              have z4 : z' ≤ 4096 := by omega
              replace hv := Lib.hid hv
              replace hm := Lib.hid hm
              replace hk := Lib.hid hk
              replace hst := Lib.hid hst
              go_wp2
              go_quiet (fail)
              go_wp2
              go_roundw
              case rel => exact ⟨y + 1, _, hlty, by go_num, rfl⟩
              case measure => simp [intOf]; omega
            · obtain rfl : y = b := by omega
              have hyi : ¬ (y : Int) < (y : Int) := by omega
              go_wp2
              go_roundw
              case rel => exact ⟨u + 1, _, hltu, by go_num, rfl⟩
              case measure => simp [intOf]; omega
        · obtain rfl : u = x := by omega
          have hui : ¬ (u : Int) < (u : Int) := by omega
          go_wp2
          go_ret
          exact ⟨rfl, below_drewN hB6 _⟩

theorem lawTrans_any (W H M : Int) (A : Option Addr) (n c : Nat) (P : List Int) (w : World) (h : Sl w A n c P) :
    Calls Try.prog 9 #[.agg #[.int .i64 W, .int .i64 H, .int .i64 M, .slice A n c]] w fun e w' => e = .returned (.bool true) ∧ Below w.heap.size w w' := by
  by_cases ho : n ≤ 200 ∧ Scr W H M P
  · exact lawTrans_in W H M A n c P w h ho.1 ho.2
  · exact lawTrans_out W H M A n c P w h ho

end Go.Proofs.Ytnnaojaadjafbaa
