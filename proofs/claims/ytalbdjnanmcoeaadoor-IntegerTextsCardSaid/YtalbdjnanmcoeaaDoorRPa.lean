/-
  Walk over the reference: Parse.
-/
import Derived.Test.YtalbdjnanmcoeaaDoorPa
import Derived.Test.YtalbdjnanmcoeaaDoorOfR
namespace Go.Proofs.YtalbdjnanmcoeaaDoor
open Go.RowKit Num

set_option maxRecDepth 100000 in
set_option maxHeartbeats 1600000 in
theorem rParse_long (s : ByteArray) (n : Nat) (w : World) (hsz : s.size = n) (hbI : (2001 : Int) < (n : Int)) :
    Calls Tryd.prog 44 #[.string s] w (RetC w 0 9 223) := by
  have hb1 := (Below.refl w.heap.size w).alloc (Nat.le_refl _) (.cells #[.bool false, .slice none 0 0] 24)
  go_enter Tryd.func44, Tryd.ntmps44
  go_wp2
  refine bodyPost_ret (v := .tuple #[.agg #[.bool false, .slice none 0 0], .int .i64 9]) (by simp [results, Tryd.results44, go_sem, *]) rfl ?_
  exact ⟨false, none, 0, 0, rfl, II.zero _ _, by repeat (first | exact below_drewN hb1 _ | exact hb1 | refine Below.setCell ?_ (by first | (dsimp only; omega) | (simp <;> omega)) _)⟩

set_option maxRecDepth 100000 in
set_option maxHeartbeats 1600000 in
theorem rParse_none (s : ByteArray) (w : World) (hsz : s.size = 0) :
    Calls Tryd.prog 44 #[.string s] w (RetC w 0 8 223) := by
  have hb1 := (Below.refl w.heap.size w).alloc (Nat.le_refl _) (.cells #[.bool false, .slice none 0 0] 24)
  go_enter Tryd.func44, Tryd.ntmps44
  go_wp2
  refine bodyPost_ret (v := .tuple #[.agg #[.bool false, .slice none 0 0], .int .i64 8]) (by simp [results, Tryd.results44, go_sem, *]) rfl ?_
  exact ⟨false, none, 0, 0, rfl, II.zero _ _, by repeat (first | exact below_drewN hb1 _ | exact hb1 | refine Below.setCell ?_ (by first | (dsimp only; omega) | (simp <;> omega)) _)⟩

set_option maxRecDepth 100000 in
set_option maxHeartbeats 1600000 in
theorem rParse_neg0 (s s2 : ByteArray) (n m : Nat) (w : World) (hsz : s.size = n) (hl : n ≤ 2001) (h0 : 0 < n) (hi0 : (∀ k W, (Instr.index 9 (.string s) (.int k 0)).run Tryd.prog W = .ok (.int .u8 45) W)) (hex : s.extract 1 n = s2) (hnsz : s2.size = m) (hm0 : m = 0) :
    Calls Tryd.prog 44 #[.string s] w (RetC w 0 8 223) := by
  subst hm0
  have hb1 := (Below.refl w.heap.size w).alloc (Nat.le_refl _) (.cells #[.bool false, .slice none 0 0] 24)
  go_enter Tryd.func44, Tryd.ntmps44
  go_wp2
  refine bodyPost_ret (v := .tuple #[.agg #[.bool false, .slice none 0 0], .int .i64 8]) (by simp [results, Tryd.results44, go_sem, *]) rfl ?_
  exact ⟨false, none, 0, 0, rfl, II.zero _ _, by repeat (first | exact below_drewN hb1 _ | exact hb1 | refine Below.setCell ?_ (by first | (dsimp only; omega) | (simp <;> omega)) _)⟩

set_option maxRecDepth 100000 in
set_option maxHeartbeats 1600000 in
theorem rParse_neg48 (s s2 : ByteArray) (n m : Nat) (w : World) (hsz : s.size = n) (hl : n ≤ 2001) (h0 : 0 < n) (hi0 : (∀ k W, (Instr.index 9 (.string s) (.int k 0)).run Tryd.prog W = .ok (.int .u8 45) W)) (hex : s.extract 1 n = s2) (hnsz : s2.size = m) (hm0 : 0 < m) (hi2 : (∀ k W, (Instr.index 9 (.string s2) (.int k 0)).run Tryd.prog W = .ok (.int .u8 48) W)) :
    Calls Tryd.prog 44 #[.string s] w (RetC w 0 8 223) := by
  have hb1 := (Below.refl w.heap.size w).alloc (Nat.le_refl _) (.cells #[.bool false, .slice none 0 0] 24)
  go_enter Tryd.func44, Tryd.ntmps44
  go_wp2
  refine bodyPost_ret (v := .tuple #[.agg #[.bool false, .slice none 0 0], .int .i64 8]) (by simp [results, Tryd.results44, go_sem, *]) rfl ?_
  exact ⟨false, none, 0, 0, rfl, II.zero _ _, by repeat (first | exact below_drewN hb1 _ | exact hb1 | refine Below.setCell ?_ (by first | (dsimp only; omega) | (simp <;> omega)) _)⟩

set_option maxRecDepth 100000 in
set_option maxHeartbeats 1600000 in
theorem rParse_pos48 (s : ByteArray) (n : Nat) (w : World) (hsz : s.size = n) (hl : n ≤ 2001) (h0 : 0 < n) (c0 : Nat) (hi0 : (∀ k W, (Instr.index 9 (.string s) (.int k 0)).run Tryd.prog W = .ok (.int .u8 ((c0 : Nat) : Int)) W)) (hc0 : ((c0 : Int) == 45) = false) (h48 : c0 = 48) (hm1 : (1 : Int) < (n : Int)) :
    Calls Tryd.prog 44 #[.string s] w (RetC w 0 8 223) := by
  subst h48
  have hb1 := (Below.refl w.heap.size w).alloc (Nat.le_refl _) (.cells #[.bool false, .slice none 0 0] 24)
  go_enter Tryd.func44, Tryd.ntmps44
  go_wp2
  refine bodyPost_ret (v := .tuple #[.agg #[.bool false, .slice none 0 0], .int .i64 8]) (by simp [results, Tryd.results44, go_sem, *]) rfl ?_
  exact ⟨false, none, 0, 0, rfl, II.zero _ _, by repeat (first | exact below_drewN hb1 _ | exact hb1 | refine Below.setCell ?_ (by first | (dsimp only; omega) | (simp <;> omega)) _)⟩

set_option maxRecDepth 100000 in
set_option maxHeartbeats 8000000 in
theorem rParse_neg (s s2 : ByteArray) (n m : Nat) (w : World) (hsz : s.size = n) (hl : n ≤ 2001) (h0 : 0 < n) (hi0 : (∀ k W, (Instr.index 9 (.string s) (.int k 0)).run Tryd.prog W = .ok (.int .u8 45) W)) (hex : s.extract 1 n = s2) (hnsz : s2.size = m) (c1 : Nat) (hm0 : 0 < m) (hi2 : (∀ k W, (Instr.index 9 (.string s2) (.int k 0)).run Tryd.prog W = .ok (.int .u8 ((c1 : Nat) : Int)) W)) (hc1 : ((c1 : Int) == 48) = false) (hml : m ≤ 2001) (bs : List UInt8) (hbl : bs.length = m) (hix : ∀ i, i < m → ∀ k W, (Instr.index 9 (.string s2) (.int k (i : Int))).run Tryd.prog W = .ok (.int .u8 ((byt bs i : Nat) : Int)) W) (c z : Int) (hbad : ∀ i, i < m → ¬ (48 ≤ byt bs i ∧ byt bs i ≤ 57) → c = 8 ∧ z = 0) (hlong : (∀ i, i < m → 48 ≤ byt bs i ∧ byt bs i ≤ 57) → 2000 < m → c = 9 ∧ z = 0) (hok : (∀ i, i < m → 48 ≤ byt bs i ∧ byt bs i ≤ 57) → m ≤ 2000 → c = 0 ∧ z = sgnd true (dv bs)) :
    Calls Tryd.prog 44 #[.string s] w (RetC w z c 223) := by
  obtain ⟨i0, hi, hz0, hz1, hz2⟩ := info_parts infoU
  obtain ⟨w0, hw0⟩ : ∃ w0, w.alloc (.cells #[.bool false, .slice none 0 0] 24) = w0 := ⟨_, rfl⟩
  have hbw : Below w.heap.size w w0 := hw0 ▸ (Below.refl w.heap.size w).alloc (Nat.le_refl _) _
  have hs0 : w0.heap.size = w.heap.size + 1 := by rw [← hw0]; simp
  have d1 : w0.cell? ⟨w.heap.size, 0, none⟩ = some (.bool false) := by rw [← hw0]; simp [go_sem]
  have d2 : w0.cell? ⟨w.heap.size, 1, none⟩ = some (.slice none 0 0) := by rw [← hw0]; simp [go_sem]
  have e1 : w0.frozen? ⟨w.heap.size, 0, none⟩ = false := by rw [← hw0]; simp [go_sem]
  have e2 : w0.frozen? ⟨w.heap.size, 1, none⟩ = false := by rw [← hw0]; simp [go_sem]
  have hown0 := World.ownsRow_made (base := w0.heap.size) (e := 48) (size := 1) w0 #[] 0 (Nat.le_refl _) (by unfold maxLen; omega) rfl
  have hb0 := (Below.refl w0.heap.size w0).alloc (Nat.le_refl _) (.cells #[] 48)
  rw [hs0] at hown0 hb0
  have hmz : ((m : Int) == 0) = false := by rw [beq_eq_false_iff_ne]; omega
  replace hix := Lib.hid hix
  replace hbad := Lib.hid hbad
  replace hlong := Lib.hid hlong
  replace hok := Lib.hid hok
  replace hbl := Lib.hid hbl
  go_enter Tryd.func44, Tryd.ntmps44
  go_upto_region 9 with fail
  clear hw0
  generalize hW1 : w0.alloc (.cells #[] 48) = W1 at hown0 hb0 ⊢
  clear hW1
  have w1 := (hb0.cell (p := ⟨w.heap.size, 0, none⟩) (by simp)).trans d1
  have w2 := (hb0.cell (p := ⟨w.heap.size, 1, none⟩) (by simp)).trans d2
  have w3 := (hb0.frozen (p := ⟨w.heap.size, 0, none⟩) (by simp)).trans e1
  have w4 := (hb0.frozen (p := ⟨w.heap.size, 1, none⟩) (by simp)).trans e2
  have hbW : Below w.heap.size w W1 := hbw.trans (hb0.mono (by omega))
  go_wp2
  go_loopw [6] (fun v wr => ∃ i, i ≤ m ∧ v = .int .i64 ((i : Nat) : Int) ∧ (∀ j, j < i → 48 ≤ byt bs j ∧ byt bs j ≤ 57) ∧ ∃ q, wr = W1.drewN q) (fun v _ => m - (intOf v).toNat)
  case atStart => exact ⟨0, Nat.zero_le _, rfl, fun j hj => by omega, 0, rfl⟩
  case round =>
    obtain ⟨i, hi', rfl, hdg, q, rfl⟩ := hrel
    replace hdg := Lib.hid hdg
    by_cases hlt : i < m
    · have hb := hix.out i hlt
      have hnN := hbad.out i hlt
      obtain ⟨d, hd⟩ : ∃ d, byt bs i = d := ⟨_, rfl⟩
      rw [hd] at hb hnN
      replace hnN := Lib.hid hnN
      replace hd := Lib.hid hd
      by_cases hlo : d < 48
      · obtain ⟨rfl, rfl⟩ := hnN.out (by have := hd.out; omega)
        go_wp2
        refine bodyPost_ret (v := .tuple #[.agg #[.bool false, .slice none 0 0], .int .i64 8]) (by simp [results, Tryd.results44, go_sem, w1, w2]) rfl ?_
        exact ⟨false, none, 0, 0, rfl, II.zero _ _, by repeat (first | exact below_drewN hbW _ | exact hbW | refine Below.setCell ?_ (by first | (dsimp only; omega) | (simp <;> omega)) _)⟩
      · by_cases hhi : 57 < d
        · obtain ⟨rfl, rfl⟩ := hnN.out (by have := hd.out; omega)
          go_wp2
          refine bodyPost_ret (v := .tuple #[.agg #[.bool false, .slice none 0 0], .int .i64 8]) (by simp [results, Tryd.results44, go_sem, w1, w2]) rfl ?_
          exact ⟨false, none, 0, 0, rfl, II.zero _ _, by repeat (first | exact below_drewN hbW _ | exact hbW | refine Below.setCell ?_ (by first | (dsimp only; omega) | (simp <;> omega)) _)⟩
        · go_wp2
          have hnx : ∀ j, j < i + 1 → 48 ≤ byt bs j ∧ byt bs j ≤ 57 := fun j hj => by
            rcases Nat.lt_or_ge j i with h | h
            · exact hdg.out j h
            · obtain rfl : j = i := by omega
              have := hd.out
              omega
          go_roundw
          case rel => exact ⟨i + 1, hlt, by go_num, hnx, q, rfl⟩
          case measure => simp [intOf]; omega
    · obtain rfl : i = m := by omega
      by_cases hlo : 2000 < i
      · obtain ⟨rfl, rfl⟩ := hlong.out hdg.out hlo
        first
        | (exfalso; omega)
        | (have hloI := int_lt hlo
           go_wp2
           refine bodyPost_ret (v := .tuple #[.agg #[.bool false, .slice none 0 0], .int .i64 9]) (by simp [results, Tryd.results44, go_sem, w1, w2]) rfl ?_
           exact ⟨false, none, 0, 0, rfl, II.zero _ _, by repeat (first | exact below_drewN hbW _ | exact hbW | refine Below.setCell ?_ (by first | (dsimp only; omega) | (simp <;> omega)) _)⟩)
      · obtain ⟨rfl, rfl⟩ := hok.out hdg.out (by omega)
        have hloI := int_nlt (m := i) (by omega)
        have hN : ∀ b ∈ bs, isDg b := dg_byt.2 (by rw [hbl.out]; exact hdg.out)
        have hst := fun (R : List Nat) (k : Nat) (E : Int) (h : RdInv bs R k E) => h.step hN
        have hnine := fun i j => seg_nine hN (i := i) (j := j)
        rw [hbl.out] at hnine
        have hi0' : RdInv bs [] 0 ((i : Nat) : Int) := ⟨rfl, Grp.nil, by rw [← hbl.out]; simp [val, pw_zero, seg_all], by rw [hbl.out]; simp⟩
        have hkE : ∀ R k E, RdInv bs R k E → E = (i : Int) - 9 * (k : Int) := fun R k E h => by have := h.2.2.2; rwa [hbl.out] at this
        have hown1 : (W1.drewN q).ownsRow (w.heap.size + 1) 48 1 (.slice (some ⟨w.heap.size + 1, 0, none⟩) 0 0) 0 (cells []) := hown0
        have hb9 := below_drewN hb0 q
        generalize W1.drewN q = W2 at hown1 hb9 ⊢
        replace hN := Lib.hid hN
        replace hst := Lib.hid hst
        replace hnine := Lib.hid hnine
        replace hkE := Lib.hid hkE
        clear hown0 hb0 hbW w1 w2 w3 w4
        go_wp2
        go_loopw [5, 7, 8, 9, 10] (fun gs en _ _ _ wr => ∃ k R E, en = .int .i64 E ∧ -9 < E ∧ E ≤ i ∧ wr.ownsRow (w.heap.size + 1) 48 1 gs k (cells R) ∧ RdInv bs R k E ∧ Below (w.heap.size + 1) w0 wr) (fun _ en _ _ _ _ => (intOf en).toNat)
        case atStart => exact ⟨0, [], i, rfl, by omega, by omega, hown1, hi0', hb9⟩
        case round =>
          obtain ⟨k, R, E, rfl, hE9, hEn, hown, hinv, hB⟩ := hrel
          by_cases hE : 0 < E
          · obtain ⟨e, rfl⟩ : ∃ e : Nat, E = (e : Int) := ⟨E.toNat, by omega⟩
            obtain ⟨st, hst0⟩ : ∃ st : Nat, (st : Int) = max 0 ((e : Int) - 9) := ⟨(max 0 ((e : Int) - 9)).toNat, by omega⟩
            have hsle : st ≤ e := by omega
            have hs9 : e ≤ st + 9 := by omega
            have hen : e ≤ i := by omega
            have hinv2 := fun g hg => hst.out R k e hinv hE (st := st) (e := e) (g := g) rfl hst0 hg
            have hkb : k ≤ 1000000 := by have := hkE.out _ _ _ hinv; omega
            replace hinv2 := Lib.hid hinv2
            clear hinv
            have h2 : ((e : Int) < 9 ∧ st = 0) ∨ (¬ (e : Int) < 9 ∧ (e : Int) - 9 = (st : Int)) := by omega
            replace hst0 := Lib.hid hst0
            rcases h2 with ⟨hlt9, rfl⟩ | ⟨hlt9, hst9⟩
            · first
              | (exfalso; omega)
              | (go_wp2
                 go_loopw [9, 10] (fun g ii wi => ∃ j G, 0 ≤ j ∧ j ≤ e ∧ ii = .int .i64 ((j : Nat) : Int) ∧ g = .int .u32 ((G : Nat) : Int) ∧ seg bs 0 j = G ∧ ∃ q, wi = wr.drewN q) (fun _ ii _ => e - (intOf ii).toNat)
                 case atStart => exact ⟨0, 0, Nat.le_refl _, hsle, rfl, rfl, seg_self _ _, 0, rfl⟩
                 case round =>
                   obtain ⟨j, G, hsj, hje, rfl, rfl, hG, q, rfl⟩ := hrel
                   by_cases hlt : j < e
                   · have hb := hix.out j (by omega)
                     have hdj := hdg.out j (by omega)
                     have hG2 := seg_succ (bs := bs) hsj (by rw [hbl.out]; omega)
                     have hG9 := hnine.out 0 (j + 1) (by omega) (by omega) (by omega)
                     rw [hG2, hG] at hG9
                     rw [hG] at hG2
                     obtain ⟨d, hd⟩ : ∃ d, byt bs j = d := ⟨_, rfl⟩
                     rw [hd] at hb hdj hG2 hG9
                     obtain ⟨d', rfl⟩ : ∃ d', d = 48 + d' := ⟨d - 48, by omega⟩
                     have hd9 : d' ≤ 9 := by omega
                     obtain ⟨G', hG'⟩ : ∃ G', 10 * G + d' = G' := ⟨_, rfl⟩
                     have hG9' : G' < 1000000000 := by omega
                     have hG10 : (G : Int) * 10 ≤ 999999999 := by omega
                     have hG11 : (G : Int) * 10 + (d' : Int) ≤ 999999999 := by omega
                     replace hG2 := Lib.hid (hG2.trans (by omega : 10 * G + (48 + d' - 48) = G'))
                     replace hd := Lib.hid hd
                     clear hG hG9 hdj
                     go_wp2
                     exact ⟨⟨j + 1, G', by omega, hlt, by go_num, congrArg (Value.int .u32) (by omega), hG2.out, q, rfl⟩, by simp [intOf]; omega⟩
                   · obtain rfl : j = e := by omega
                     have hinv3 := Lib.hid (hinv2.out G hG)
                     have hownq : (wr.drewN q).ownsRow (w.heap.size + 1) 48 1 u5 k (cells R) := hown
                     have hBq := below_drewN hB q
                     clear hown hB
                     generalize wr.drewN q = wq at hownq hBq ⊢
                     have hsq := hBq.size
                     go_wp2_with (at_builtin; refine wpList_append_own _ rfl _ _ 22 rfl (w.heap.size + 1) 48 i0 (.int .u32 0) 1 4 Tryd.underlying22 hi hz0 hz1 hz2 rfl (by decide) _ _ _ rfl (hownq.alloc _) ⟨wq.heap.size, 0, none⟩ 1 1 [.int .u32 (G : Int)] rfl rfl (cell_one_new _ _ _) (by simp [Value.oneCell']) (by unfold maxLen; omega) (by omega) (by simp; omega) ?_; intro v' w1 hown' hgrow _)
                     have hE3 : IntKind.i64.wrap ((j : Int) - 9) = (j : Int) - 9 := by rw [IntKind.wrap_i64]; omega
                     exact ⟨⟨k + 1, R ++ [G], (j : Int) - 9, by first | rfl | rw [hE3], by omega, by omega, by rw [cells_snoc]; exact hown', hinv3.out, below_appended' (by omega) hBq hownq hgrow⟩, by simp [intOf]; omega⟩)
            · first
              | (exfalso; omega)
              | (go_wp2
                 go_loopw [9, 10] (fun g ii wi => ∃ j G, st ≤ j ∧ j ≤ e ∧ ii = .int .i64 ((j : Nat) : Int) ∧ g = .int .u32 ((G : Nat) : Int) ∧ seg bs st j = G ∧ ∃ q, wi = wr.drewN q) (fun _ ii _ => e - (intOf ii).toNat)
                 case atStart => exact ⟨st, 0, Nat.le_refl _, hsle, rfl, rfl, seg_self _ _, 0, rfl⟩
                 case round =>
                   obtain ⟨j, G, hsj, hje, rfl, rfl, hG, q, rfl⟩ := hrel
                   by_cases hlt : j < e
                   · have hb := hix.out j (by omega)
                     have hdj := hdg.out j (by omega)
                     have hG2 := seg_succ (bs := bs) hsj (by rw [hbl.out]; omega)
                     have hG9 := hnine.out st (j + 1) (by omega) (by omega) (by omega)
                     rw [hG2, hG] at hG9
                     rw [hG] at hG2
                     obtain ⟨d, hd⟩ : ∃ d, byt bs j = d := ⟨_, rfl⟩
                     rw [hd] at hb hdj hG2 hG9
                     obtain ⟨d', rfl⟩ : ∃ d', d = 48 + d' := ⟨d - 48, by omega⟩
                     have hd9 : d' ≤ 9 := by omega
                     obtain ⟨G', hG'⟩ : ∃ G', 10 * G + d' = G' := ⟨_, rfl⟩
                     have hG9' : G' < 1000000000 := by omega
                     have hG10 : (G : Int) * 10 ≤ 999999999 := by omega
                     have hG11 : (G : Int) * 10 + (d' : Int) ≤ 999999999 := by omega
                     replace hG2 := Lib.hid (hG2.trans (by omega : 10 * G + (48 + d' - 48) = G'))
                     replace hd := Lib.hid hd
                     clear hG hG9 hdj
                     go_wp2
                     exact ⟨⟨j + 1, G', by omega, hlt, by go_num, congrArg (Value.int .u32) (by omega), hG2.out, q, rfl⟩, by simp [intOf]; omega⟩
                   · obtain rfl : j = e := by omega
                     have hinv3 := Lib.hid (hinv2.out G hG)
                     have hownq : (wr.drewN q).ownsRow (w.heap.size + 1) 48 1 u5 k (cells R) := hown
                     have hBq := below_drewN hB q
                     clear hown hB
                     generalize wr.drewN q = wq at hownq hBq ⊢
                     have hsq := hBq.size
                     go_wp2_with (at_builtin; refine wpList_append_own _ rfl _ _ 22 rfl (w.heap.size + 1) 48 i0 (.int .u32 0) 1 4 Tryd.underlying22 hi hz0 hz1 hz2 rfl (by decide) _ _ _ rfl (hownq.alloc _) ⟨wq.heap.size, 0, none⟩ 1 1 [.int .u32 (G : Int)] rfl rfl (cell_one_new _ _ _) (by simp [Value.oneCell']) (by unfold maxLen; omega) (by omega) (by simp; omega) ?_; intro v' w1 hown' hgrow _)
                     have hE3 : IntKind.i64.wrap ((j : Int) - 9) = (j : Int) - 9 := by rw [IntKind.wrap_i64]; omega
                     exact ⟨⟨k + 1, R ++ [G], (j : Int) - 9, by first | rfl | rw [hE3] | rw [hst9], by omega, by omega, by rw [cells_snoc]; exact hown', hinv3.out, below_appended' (by omega) hBq hownq hgrow⟩, by simp [intOf]; omega⟩)
          · have hk0 : E.toNat = 0 := by omega
            have hkk := hkE.out _ _ _ hinv
            obtain ⟨h1, h2, h3, h4⟩ := hinv
            rw [hk0, seg_self, Nat.mul_zero, Nat.add_zero] at h3
            have hkn : k ≤ 223 := by omega
            obtain ⟨A, nn, c, rfl, hsl, hm⟩ := own_sl hown
            rw [← hm] at hkn
            have q1 := (hB.cell (p := ⟨w.heap.size, 0, none⟩) (by simp)).trans d1
            have q2 := (hB.cell (p := ⟨w.heap.size, 1, none⟩) (by simp)).trans d2
            have q3 := (hB.frozen (p := ⟨w.heap.size, 0, none⟩) (by simp)).trans e1
            have q4 := (hB.frozen (p := ⟨w.heap.size, 1, none⟩) (by simp)).trans e2
            replace h3 := Lib.hid h3
            replace h4 := Lib.hid h4
            replace h1 := Lib.hid h1
            replace hkk := Lib.hid hkk
            replace hkn := Lib.hid hkn
            replace hm := Lib.hid hm
            go_wp2_with (go_at_call 54; refine (made_any true _ _ _ _ _ hsl h2 (by have := hkn.out; omega)).mono ?_; rintro e W ⟨neg3, A3, n3, c3, rfl, hi3, hB'⟩; obtain ⟨hcc, hff, hss⟩ := old3 hB'; have hws := hB.size; have x3 := (hcc _ 0 (show w.heap.size < wr.heap.size by omega)).trans q1; have x4 := (hcc _ 1 (show w.heap.size < wr.heap.size by omega)).trans q2; have y3 := (hff _ 0 (show w.heap.size < wr.heap.size by omega)).trans q3; have y4 := (hff _ 1 (show w.heap.size < wr.heap.size by omega)).trans q4; clear hcc hff)
            refine bodyPost_ret (v := .tuple #[.agg #[.bool neg3, .slice A3 n3 c3], .int .i64 0]) (by simp [results, Tryd.results44, go_sem, x3, x4]) rfl ?_
            rw [h3.out] at hi3
            exact RetC.close (hi3.mono hkn.out) ((hbw.trans (hB.mono (by omega))).trans (hB'.mono (by omega))) (Nat.le_refl _) x3 x4

set_option maxRecDepth 100000 in
set_option maxHeartbeats 8000000 in
theorem rParse_pos (s : ByteArray) (n : Nat) (w : World) (hsz : s.size = n) (hl : n ≤ 2001) (h0 : 0 < n) (c0 : Nat) (hi0 : (∀ k W, (Instr.index 9 (.string s) (.int k 0)).run Tryd.prog W = .ok (.int .u8 ((c0 : Nat) : Int)) W)) (hc0 : ((c0 : Int) == 45) = false) (hc1 : ((c0 : Int) == 48) = false ∨ (c0 = 48 ∧ ¬ (1 : Int) < (n : Int))) (bs : List UInt8) (hbl : bs.length = n) (hix : ∀ i, i < n → ∀ k W, (Instr.index 9 (.string s) (.int k (i : Int))).run Tryd.prog W = .ok (.int .u8 ((byt bs i : Nat) : Int)) W) (c z : Int) (hbad : ∀ i, i < n → ¬ (48 ≤ byt bs i ∧ byt bs i ≤ 57) → c = 8 ∧ z = 0) (hlong : (∀ i, i < n → 48 ≤ byt bs i ∧ byt bs i ≤ 57) → 2000 < n → c = 9 ∧ z = 0) (hok : (∀ i, i < n → 48 ≤ byt bs i ∧ byt bs i ≤ 57) → n ≤ 2000 → c = 0 ∧ z = sgnd false (dv bs)) :
    Calls Tryd.prog 44 #[.string s] w (RetC w z c 223) := by
  obtain ⟨i0, hi, hz0, hz1, hz2⟩ := info_parts infoU
  obtain ⟨w0, hw0⟩ : ∃ w0, w.alloc (.cells #[.bool false, .slice none 0 0] 24) = w0 := ⟨_, rfl⟩
  have hbw : Below w.heap.size w w0 := hw0 ▸ (Below.refl w.heap.size w).alloc (Nat.le_refl _) _
  have hs0 : w0.heap.size = w.heap.size + 1 := by rw [← hw0]; simp
  have d1 : w0.cell? ⟨w.heap.size, 0, none⟩ = some (.bool false) := by rw [← hw0]; simp [go_sem]
  have d2 : w0.cell? ⟨w.heap.size, 1, none⟩ = some (.slice none 0 0) := by rw [← hw0]; simp [go_sem]
  have e1 : w0.frozen? ⟨w.heap.size, 0, none⟩ = false := by rw [← hw0]; simp [go_sem]
  have e2 : w0.frozen? ⟨w.heap.size, 1, none⟩ = false := by rw [← hw0]; simp [go_sem]
  have hown0 := World.ownsRow_made (base := w0.heap.size) (e := 48) (size := 1) w0 #[] 0 (Nat.le_refl _) (by unfold maxLen; omega) rfl
  have hb0 := (Below.refl w0.heap.size w0).alloc (Nat.le_refl _) (.cells #[] 48)
  rw [hs0] at hown0 hb0
  have hmz : ((n : Int) == 0) = false := by rw [beq_eq_false_iff_ne]; omega
  replace hix := Lib.hid hix
  replace hbad := Lib.hid hbad
  replace hlong := Lib.hid hlong
  replace hok := Lib.hid hok
  replace hbl := Lib.hid hbl
  rcases hc1 with hc1 | ⟨rfl, hc1⟩
  all_goals
    go_enter Tryd.func44, Tryd.ntmps44
    go_upto_region 9 with fail
    clear hw0
    generalize hW1 : w0.alloc (.cells #[] 48) = W1 at hown0 hb0 ⊢
    clear hW1
    have w1 := (hb0.cell (p := ⟨w.heap.size, 0, none⟩) (by simp)).trans d1
    have w2 := (hb0.cell (p := ⟨w.heap.size, 1, none⟩) (by simp)).trans d2
    have w3 := (hb0.frozen (p := ⟨w.heap.size, 0, none⟩) (by simp)).trans e1
    have w4 := (hb0.frozen (p := ⟨w.heap.size, 1, none⟩) (by simp)).trans e2
    have hbW : Below w.heap.size w W1 := hbw.trans (hb0.mono (by omega))
    go_wp2
    go_loopw [6] (fun v wr => ∃ i, i ≤ n ∧ v = .int .i64 ((i : Nat) : Int) ∧ (∀ j, j < i → 48 ≤ byt bs j ∧ byt bs j ≤ 57) ∧ ∃ q, wr = W1.drewN q) (fun v _ => n - (intOf v).toNat)
    case atStart => exact ⟨0, Nat.zero_le _, rfl, fun j hj => by omega, 0, rfl⟩
    case round =>
      obtain ⟨i, hi', rfl, hdg, q, rfl⟩ := hrel
      replace hdg := Lib.hid hdg
      by_cases hlt : i < n
      · have hb := hix.out i hlt
        have hnN := hbad.out i hlt
        obtain ⟨d, hd⟩ : ∃ d, byt bs i = d := ⟨_, rfl⟩
        rw [hd] at hb hnN
        replace hnN := Lib.hid hnN
        replace hd := Lib.hid hd
        by_cases hlo : d < 48
        · obtain ⟨rfl, rfl⟩ := hnN.out (by have := hd.out; omega)
          go_wp2
          refine bodyPost_ret (v := .tuple #[.agg #[.bool false, .slice none 0 0], .int .i64 8]) (by simp [results, Tryd.results44, go_sem, w1, w2]) rfl ?_
          exact ⟨false, none, 0, 0, rfl, II.zero _ _, by repeat (first | exact below_drewN hbW _ | exact hbW | refine Below.setCell ?_ (by first | (dsimp only; omega) | (simp <;> omega)) _)⟩
        · by_cases hhi : 57 < d
          · obtain ⟨rfl, rfl⟩ := hnN.out (by have := hd.out; omega)
            go_wp2
            refine bodyPost_ret (v := .tuple #[.agg #[.bool false, .slice none 0 0], .int .i64 8]) (by simp [results, Tryd.results44, go_sem, w1, w2]) rfl ?_
            exact ⟨false, none, 0, 0, rfl, II.zero _ _, by repeat (first | exact below_drewN hbW _ | exact hbW | refine Below.setCell ?_ (by first | (dsimp only; omega) | (simp <;> omega)) _)⟩
          · go_wp2
            have hnx : ∀ j, j < i + 1 → 48 ≤ byt bs j ∧ byt bs j ≤ 57 := fun j hj => by
              rcases Nat.lt_or_ge j i with h | h
              · exact hdg.out j h
              · obtain rfl : j = i := by omega
                have := hd.out
                omega
            go_roundw
            case rel => exact ⟨i + 1, hlt, by go_num, hnx, q, rfl⟩
            case measure => simp [intOf]; omega
      · obtain rfl : i = n := by omega
        by_cases hlo : 2000 < i
        · obtain ⟨rfl, rfl⟩ := hlong.out hdg.out hlo
          first
          | (exfalso; omega)
          | (have hloI := int_lt hlo
             go_wp2
             refine bodyPost_ret (v := .tuple #[.agg #[.bool false, .slice none 0 0], .int .i64 9]) (by simp [results, Tryd.results44, go_sem, w1, w2]) rfl ?_
             exact ⟨false, none, 0, 0, rfl, II.zero _ _, by repeat (first | exact below_drewN hbW _ | exact hbW | refine Below.setCell ?_ (by first | (dsimp only; omega) | (simp <;> omega)) _)⟩)
        · obtain ⟨rfl, rfl⟩ := hok.out hdg.out (by omega)
          have hloI := int_nlt (m := i) (by omega)
          have hN : ∀ b ∈ bs, isDg b := dg_byt.2 (by rw [hbl.out]; exact hdg.out)
          have hst := fun (R : List Nat) (k : Nat) (E : Int) (h : RdInv bs R k E) => h.step hN
          have hnine := fun i j => seg_nine hN (i := i) (j := j)
          rw [hbl.out] at hnine
          have hi0' : RdInv bs [] 0 ((i : Nat) : Int) := ⟨rfl, Grp.nil, by rw [← hbl.out]; simp [val, pw_zero, seg_all], by rw [hbl.out]; simp⟩
          have hkE : ∀ R k E, RdInv bs R k E → E = (i : Int) - 9 * (k : Int) := fun R k E h => by have := h.2.2.2; rwa [hbl.out] at this
          have hown1 : (W1.drewN q).ownsRow (w.heap.size + 1) 48 1 (.slice (some ⟨w.heap.size + 1, 0, none⟩) 0 0) 0 (cells []) := hown0
          have hb9 := below_drewN hb0 q
          generalize W1.drewN q = W2 at hown1 hb9 ⊢
          replace hN := Lib.hid hN
          replace hst := Lib.hid hst
          replace hnine := Lib.hid hnine
          replace hkE := Lib.hid hkE
          clear hown0 hb0 hbW w1 w2 w3 w4
          go_wp2
          go_loopw [5, 7, 8, 9, 10] (fun gs en _ _ _ wr => ∃ k R E, en = .int .i64 E ∧ -9 < E ∧ E ≤ i ∧ wr.ownsRow (w.heap.size + 1) 48 1 gs k (cells R) ∧ RdInv bs R k E ∧ Below (w.heap.size + 1) w0 wr) (fun _ en _ _ _ _ => (intOf en).toNat)
          case atStart => exact ⟨0, [], i, rfl, by omega, by omega, hown1, hi0', hb9⟩
          case round =>
            obtain ⟨k, R, E, rfl, hE9, hEn, hown, hinv, hB⟩ := hrel
            by_cases hE : 0 < E
            · obtain ⟨e, rfl⟩ : ∃ e : Nat, E = (e : Int) := ⟨E.toNat, by omega⟩
              obtain ⟨st, hst0⟩ : ∃ st : Nat, (st : Int) = max 0 ((e : Int) - 9) := ⟨(max 0 ((e : Int) - 9)).toNat, by omega⟩
              have hsle : st ≤ e := by omega
              have hs9 : e ≤ st + 9 := by omega
              have hen : e ≤ i := by omega
              have hinv2 := fun g hg => hst.out R k e hinv hE (st := st) (e := e) (g := g) rfl hst0 hg
              have hkb : k ≤ 1000000 := by have := hkE.out _ _ _ hinv; omega
              replace hinv2 := Lib.hid hinv2
              clear hinv
              have h2 : ((e : Int) < 9 ∧ st = 0) ∨ (¬ (e : Int) < 9 ∧ (e : Int) - 9 = (st : Int)) := by omega
              replace hst0 := Lib.hid hst0
              rcases h2 with ⟨hlt9, rfl⟩ | ⟨hlt9, hst9⟩
              · first
                | (exfalso; omega)
                | (go_wp2
                   go_loopw [9, 10] (fun g ii wi => ∃ j G, 0 ≤ j ∧ j ≤ e ∧ ii = .int .i64 ((j : Nat) : Int) ∧ g = .int .u32 ((G : Nat) : Int) ∧ seg bs 0 j = G ∧ ∃ q, wi = wr.drewN q) (fun _ ii _ => e - (intOf ii).toNat)
                   case atStart => exact ⟨0, 0, Nat.le_refl _, hsle, rfl, rfl, seg_self _ _, 0, rfl⟩
                   case round =>
                     obtain ⟨j, G, hsj, hje, rfl, rfl, hG, q, rfl⟩ := hrel
                     by_cases hlt : j < e
                     · have hb := hix.out j (by omega)
                       have hdj := hdg.out j (by omega)
                       have hG2 := seg_succ (bs := bs) hsj (by rw [hbl.out]; omega)
                       have hG9 := hnine.out 0 (j + 1) (by omega) (by omega) (by omega)
                       rw [hG2, hG] at hG9
                       rw [hG] at hG2
                       obtain ⟨d, hd⟩ : ∃ d, byt bs j = d := ⟨_, rfl⟩
                       rw [hd] at hb hdj hG2 hG9
                       obtain ⟨d', rfl⟩ : ∃ d', d = 48 + d' := ⟨d - 48, by omega⟩
                       have hd9 : d' ≤ 9 := by omega
                       obtain ⟨G', hG'⟩ : ∃ G', 10 * G + d' = G' := ⟨_, rfl⟩
                       have hG9' : G' < 1000000000 := by omega
                       have hG10 : (G : Int) * 10 ≤ 999999999 := by omega
                       have hG11 : (G : Int) * 10 + (d' : Int) ≤ 999999999 := by omega
                       replace hG2 := Lib.hid (hG2.trans (by omega : 10 * G + (48 + d' - 48) = G'))
                       replace hd := Lib.hid hd
                       clear hG hG9 hdj
                       go_wp2
                       exact ⟨⟨j + 1, G', by omega, hlt, by go_num, congrArg (Value.int .u32) (by omega), hG2.out, q, rfl⟩, by simp [intOf]; omega⟩
                     · obtain rfl : j = e := by omega
                       have hinv3 := Lib.hid (hinv2.out G hG)
                       have hownq : (wr.drewN q).ownsRow (w.heap.size + 1) 48 1 u5 k (cells R) := hown
                       have hBq := below_drewN hB q
                       clear hown hB
                       generalize wr.drewN q = wq at hownq hBq ⊢
                       have hsq := hBq.size
                       go_wp2_with (at_builtin; refine wpList_append_own _ rfl _ _ 22 rfl (w.heap.size + 1) 48 i0 (.int .u32 0) 1 4 Tryd.underlying22 hi hz0 hz1 hz2 rfl (by decide) _ _ _ rfl (hownq.alloc _) ⟨wq.heap.size, 0, none⟩ 1 1 [.int .u32 (G : Int)] rfl rfl (cell_one_new _ _ _) (by simp [Value.oneCell']) (by unfold maxLen; omega) (by omega) (by simp; omega) ?_; intro v' w1 hown' hgrow _)
                       have hE3 : IntKind.i64.wrap ((j : Int) - 9) = (j : Int) - 9 := by rw [IntKind.wrap_i64]; omega
                       exact ⟨⟨k + 1, R ++ [G], (j : Int) - 9, by first | rfl | rw [hE3], by omega, by omega, by rw [cells_snoc]; exact hown', hinv3.out, below_appended' (by omega) hBq hownq hgrow⟩, by simp [intOf]; omega⟩)
              · first
                | (exfalso; omega)
                | (go_wp2
                   go_loopw [9, 10] (fun g ii wi => ∃ j G, st ≤ j ∧ j ≤ e ∧ ii = .int .i64 ((j : Nat) : Int) ∧ g = .int .u32 ((G : Nat) : Int) ∧ seg bs st j = G ∧ ∃ q, wi = wr.drewN q) (fun _ ii _ => e - (intOf ii).toNat)
                   case atStart => exact ⟨st, 0, Nat.le_refl _, hsle, rfl, rfl, seg_self _ _, 0, rfl⟩
                   case round =>
                     obtain ⟨j, G, hsj, hje, rfl, rfl, hG, q, rfl⟩ := hrel
                     by_cases hlt : j < e
                     · have hb := hix.out j (by omega)
                       have hdj := hdg.out j (by omega)
                       have hG2 := seg_succ (bs := bs) hsj (by rw [hbl.out]; omega)
                       have hG9 := hnine.out st (j + 1) (by omega) (by omega) (by omega)
                       rw [hG2, hG] at hG9
                       rw [hG] at hG2
                       obtain ⟨d, hd⟩ : ∃ d, byt bs j = d := ⟨_, rfl⟩
                       rw [hd] at hb hdj hG2 hG9
                       obtain ⟨d', rfl⟩ : ∃ d', d = 48 + d' := ⟨d - 48, by omega⟩
                       have hd9 : d' ≤ 9 := by omega
                       obtain ⟨G', hG'⟩ : ∃ G', 10 * G + d' = G' := ⟨_, rfl⟩
                       have hG9' : G' < 1000000000 := by omega
                       have hG10 : (G : Int) * 10 ≤ 999999999 := by omega
                       have hG11 : (G : Int) * 10 + (d' : Int) ≤ 999999999 := by omega
                       replace hG2 := Lib.hid (hG2.trans (by omega : 10 * G + (48 + d' - 48) = G'))
                       replace hd := Lib.hid hd
                       clear hG hG9 hdj
                       go_wp2
                       exact ⟨⟨j + 1, G', by omega, hlt, by go_num, congrArg (Value.int .u32) (by omega), hG2.out, q, rfl⟩, by simp [intOf]; omega⟩
                     · obtain rfl : j = e := by omega
                       have hinv3 := Lib.hid (hinv2.out G hG)
                       have hownq : (wr.drewN q).ownsRow (w.heap.size + 1) 48 1 u5 k (cells R) := hown
                       have hBq := below_drewN hB q
                       clear hown hB
                       generalize wr.drewN q = wq at hownq hBq ⊢
                       have hsq := hBq.size
                       go_wp2_with (at_builtin; refine wpList_append_own _ rfl _ _ 22 rfl (w.heap.size + 1) 48 i0 (.int .u32 0) 1 4 Tryd.underlying22 hi hz0 hz1 hz2 rfl (by decide) _ _ _ rfl (hownq.alloc _) ⟨wq.heap.size, 0, none⟩ 1 1 [.int .u32 (G : Int)] rfl rfl (cell_one_new _ _ _) (by simp [Value.oneCell']) (by unfold maxLen; omega) (by omega) (by simp; omega) ?_; intro v' w1 hown' hgrow _)
                       have hE3 : IntKind.i64.wrap ((j : Int) - 9) = (j : Int) - 9 := by rw [IntKind.wrap_i64]; omega
                       exact ⟨⟨k + 1, R ++ [G], (j : Int) - 9, by first | rfl | rw [hE3] | rw [hst9], by omega, by omega, by rw [cells_snoc]; exact hown', hinv3.out, below_appended' (by omega) hBq hownq hgrow⟩, by simp [intOf]; omega⟩)
            · have hk0 : E.toNat = 0 := by omega
              have hkk := hkE.out _ _ _ hinv
              obtain ⟨h1, h2, h3, h4⟩ := hinv
              rw [hk0, seg_self, Nat.mul_zero, Nat.add_zero] at h3
              have hkn : k ≤ 223 := by omega
              obtain ⟨A, nn, c, rfl, hsl, hm⟩ := own_sl hown
              rw [← hm] at hkn
              have q1 := (hB.cell (p := ⟨w.heap.size, 0, none⟩) (by simp)).trans d1
              have q2 := (hB.cell (p := ⟨w.heap.size, 1, none⟩) (by simp)).trans d2
              have q3 := (hB.frozen (p := ⟨w.heap.size, 0, none⟩) (by simp)).trans e1
              have q4 := (hB.frozen (p := ⟨w.heap.size, 1, none⟩) (by simp)).trans e2
              replace h3 := Lib.hid h3
              replace h4 := Lib.hid h4
              replace h1 := Lib.hid h1
              replace hkk := Lib.hid hkk
              replace hkn := Lib.hid hkn
              replace hm := Lib.hid hm
              go_wp2_with (go_at_call 54; refine (made_any false _ _ _ _ _ hsl h2 (by have := hkn.out; omega)).mono ?_; rintro e W ⟨neg3, A3, n3, c3, rfl, hi3, hB'⟩; obtain ⟨hcc, hff, hss⟩ := old3 hB'; have hws := hB.size; have x3 := (hcc _ 0 (show w.heap.size < wr.heap.size by omega)).trans q1; have x4 := (hcc _ 1 (show w.heap.size < wr.heap.size by omega)).trans q2; have y3 := (hff _ 0 (show w.heap.size < wr.heap.size by omega)).trans q3; have y4 := (hff _ 1 (show w.heap.size < wr.heap.size by omega)).trans q4; clear hcc hff)
              refine bodyPost_ret (v := .tuple #[.agg #[.bool neg3, .slice A3 n3 c3], .int .i64 0]) (by simp [results, Tryd.results44, go_sem, x3, x4]) rfl ?_
              rw [h3.out] at hi3
              exact RetC.close (hi3.mono hkn.out) ((hbw.trans (hB.mono (by omega))).trans (hB'.mono (by omega))) (Nat.le_refl _) x3 x4

/-- Parse of the reference. -/
theorem rParse_any (bs : List UInt8) (w : World) (c z : Int) (hpc : PC bs c z) :
    Calls Tryd.prog 44 #[.string ⟨bs.toArray⟩] w (RetC w z c 223) := by
  have hsz := str_size bs
  by_cases hlong : 2001 < bs.length
  · have e : c = 9 ∧ z = 0 := by
      rcases hpc with ⟨_, h, h2⟩ | ⟨h, _⟩ | ⟨h, _⟩ | ⟨h, _⟩
      · exact ⟨h, h2⟩
      all_goals omega
    obtain ⟨rfl, rfl⟩ := e
    exact rParse_long _ bs.length w hsz (int_gt hlong)
  · have hl1 : bs.length ≤ 2001 := by omega
    have hpc2 : (¬ Dec bs ∧ c = 8 ∧ z = 0) ∨ (Dec bs ∧ ((2000 < (nbs bs).length ∧ c = 9 ∧ z = 0) ∨ ((nbs bs).length ≤ 2000 ∧ c = 0 ∧ z = zOf bs))) := by
      rcases hpc with ⟨h, _⟩ | ⟨_, h, h2⟩ | ⟨_, h, h2⟩ | ⟨_, h, h2⟩
      · omega
      · exact .inl ⟨h, h2⟩
      · exact .inr ⟨h, .inl h2⟩
      · exact .inr ⟨h, .inr h2⟩
    have hsyn : ¬ Dec bs → c = 8 ∧ z = 0 := fun h => by
      rcases hpc2 with ⟨_, h2⟩ | ⟨h1, _⟩
      · exact h2
      · exact absurd h1 h
    have hbad : ∀ i, i < (nbs bs).length → ¬ (48 ≤ byt (nbs bs) i ∧ byt (nbs bs) i ≤ 57) → c = 8 ∧ z = 0 := fun i hi h =>
      hsyn fun hd => h (dg_byt.1 hd.1.2.1 i hi)
    rcases start_cases bs with ⟨h1, h2, h3⟩ | ⟨h1, h2, h3, h4⟩ | ⟨h1, h2, h3, h4⟩
    · obtain ⟨rfl, rfl⟩ := hsyn fun hd => hd.1.1 (by rw [h3]; exact List.length_eq_zero_iff.1 h1)
      exact rParse_none _ w (by rw [hsz, h1])
    · have hi0 : ∀ k W, (Instr.index 9 (.string ⟨bs.toArray⟩) (.int k 0)).run Tryd.prog W = .ok (.int .u8 45) W := by
        have := fun k W => run_ix bs 0 h1 k W
        rw [h2] at this
        exact this
      have htl : (ByteArray.mk bs.toArray).extract 1 bs.length = ⟨(nbs bs).toArray⟩ := by rw [str_tail, h4]
      have hsn := str_size (nbs bs)
      have hnl : (nbs bs).length ≤ 2001 := by rw [h4, List.length_tail]; omega
      by_cases hm : (nbs bs).length = 0
      · obtain ⟨rfl, rfl⟩ := hsyn fun hd => hd.1.1 (List.length_eq_zero_iff.1 hm)
        exact rParse_neg0 _ _ bs.length (nbs bs).length w hsz hl1 h1 hi0 htl hsn hm
      · have hm0 : 0 < (nbs bs).length := by omega
        have hne : nbs bs ≠ [] := List.length_pos_iff.1 hm0
        have hi2 := fun k W => run_ix (nbs bs) 0 hm0 k W
        have hh := head_byt hne (c := 48)
        by_cases h48 : byt (nbs bs) 0 = 48
        · have hnd : ¬ Dec bs := fun hd => by
            have hl := hd.1.2.2 (hh.2 h48)
            refine hd.2 ⟨h3, ?_⟩
            have hy := hh.2 h48
            cases hc : nbs bs with
            | nil => exact absurd hc hne
            | cons y ys =>
              rw [hc] at hl hy
              simp at hl hy
              rw [hl, hy]
          obtain ⟨rfl, rfl⟩ := hsyn hnd
          rw [h48] at hi2
          exact rParse_neg48 _ _ bs.length (nbs bs).length w hsz hl1 h1 hi0 htl hsn hm0 hi2
        · have hdec : (∀ i, i < (nbs bs).length → 48 ≤ byt (nbs bs) i ∧ byt (nbs bs) i ≤ 57) → Dec bs := fun h =>
            ⟨⟨hne, dg_byt.2 h, fun e => absurd (hh.1 e) h48⟩, fun e => h48 (hh.1 (by rw [e.2]; rfl))⟩
          refine rParse_neg _ _ bs.length (nbs bs).length w hsz hl1 h1 hi0 htl hsn (byt (nbs bs) 0) hm0 hi2 (by rw [beq_eq_false_iff_ne]; omega) hnl (nbs bs) rfl (fun i hi k W => run_ix (nbs bs) i hi k W) c z hbad ?_ ?_
          · intro h hlo
            rcases hpc2 with ⟨hd, _⟩ | ⟨_, ⟨_, h2⟩ | ⟨hsh, _⟩⟩
            · exact absurd (hdec h) hd
            · exact h2
            · omega
          · intro h hsh
            rcases hpc2 with ⟨hd, _⟩ | ⟨_, ⟨hlo, _⟩ | ⟨_, h5, h6⟩⟩
            · exact absurd (hdec h) hd
            · omega
            · exact ⟨h5, by rw [h6]; unfold zOf; rw [h3]⟩
    · have hi0 := fun k W => run_ix bs 0 h1 k W
      have hne : bs ≠ [] := List.length_pos_iff.1 h1
      have hh := head_byt hne (c := 48)
      rw [h4] at hbad
      by_cases h48 : byt bs 0 = 48 ∧ 1 < bs.length
      · obtain ⟨rfl, rfl⟩ := hsyn fun hd => by
          have := hd.1
          rw [h4] at this
          have := this.2.2 (hh.2 h48.1)
          omega
        exact rParse_pos48 _ bs.length w hsz hl1 h1 (byt bs 0) hi0 (int_nz h2) h48.1 (int_gt h48.2)
      · have hc1 : (((byt bs 0 : Nat) : Int) == 48) = false ∨ (byt bs 0 = 48 ∧ ¬ (1 : Int) < (bs.length : Int)) := by
          by_cases h : byt bs 0 = 48
          · exact .inr ⟨h, by have := fun h2 => h48 ⟨h, h2⟩; omega⟩
          · exact .inl (by rw [beq_eq_false_iff_ne]; omega)
        have hdec : (∀ i, i < bs.length → 48 ≤ byt bs i ∧ byt bs i ≤ 57) → Dec bs := fun h =>
          ⟨by
            rw [h4]
            exact ⟨hne, dg_byt.2 h, fun e => by
              have e2 := hh.1 e
              have : ¬ 1 < bs.length := fun h2 => h48 ⟨e2, h2⟩
              omega⟩, fun e => by rw [h3] at e; cases e.1⟩
        refine rParse_pos _ bs.length w hsz hl1 h1 (byt bs 0) hi0 (int_nz h2) hc1 bs rfl (fun i hi k W => run_ix bs i hi k W) c z hbad ?_ ?_
        · intro h hlo
          rcases hpc2 with ⟨hd, _⟩ | ⟨_, ⟨_, h2⟩ | ⟨hsh, _⟩⟩
          · exact absurd (hdec h) hd
          · exact h2
          · rw [h4] at hsh; omega
        · intro h hsh
          rcases hpc2 with ⟨hd, _⟩ | ⟨_, ⟨hlo, _⟩ | ⟨_, h5, h6⟩⟩
          · exact absurd (hdec h) hd
          · rw [h4] at hlo; omega
          · exact ⟨h5, by rw [h6]; unfold zOf; rw [h3, h4]⟩

end Go.Proofs.YtalbdjnanmcoeaaDoor
