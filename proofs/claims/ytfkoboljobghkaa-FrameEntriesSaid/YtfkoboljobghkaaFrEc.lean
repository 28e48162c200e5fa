/-
  Walks: encode, row and number of a writer.
-/
import Derived.Test.YtfkoboljobghkaaFrEn
set_option linter.unusedSimpArgs false
set_option linter.unusedVariables false
namespace Go.Proofs.Ytfkoboljobghkaa
open Go.RowKit

theorem enters_wbit : ∀ args w, (callFunc 82 args).run Try.prog w = .ok (.enter 82 args) w := enters_of Try.func82 (by kernel_rfl) rfl

theorem and_one {z : Int} (h : 0 ≤ z) (h2 : z ≤ 65535) : bits .and .i64 z 1 = z % 2 := by
  obtain ⟨a, rfl⟩ : ∃ a : Nat, z = (a : Int) := ⟨z.toNat, by omega⟩
  have h1 : (BitVec.ofInt 64 (a : Int)).toNat = a := by
    rw [BitVec.ofInt_natCast, BitVec.toNat_ofNat]; exact Nat.mod_eq_of_lt (by omega)
  have h2 : (BitVec.ofInt 64 (1 : Int)).toNat = 1 := rfl
  show IntKind.i64.wrap ((BitVec.ofInt 64 (a : Int) &&& BitVec.ofInt 64 (1 : Int)).toNat : Int) = _
  rw [BitVec.toNat_and, h1, h2, Nat.and_one_is_mod, IntWalk.i64_left, IntWalk.wrap64_in _ (by omega)]
  omega
theorem low_take {v : Int} {k j : Nat} (h : j < k) : (low v k).take (j + 1) = (low v k).take j ++ [v / ((2 ^ (k - 1 - j) : Nat) : Int) % 2] := by
  rw [take_succ_nth (by rw [low_length]; exact h), nth_eq (by rw [low_length]; exact h)]
  simp [low]

set_option maxHeartbeats 3200000 in
set_option maxRecDepth 100000 in
theorem wenc_any (B g k : Nat) (v : Int) (D bs : List Int) (w : World) (h : Wb w B g D bs) (hB : B ≤ w.heap.size) (hlen : D.length + bs.length ≤ 10000000000) (hv : 0 ≤ v) (hv2 : v ≤ 65535) (hk : k ≤ 16) :
    Calls Try.prog 81 #[.int .i64 v, .int .i64 (k : Int), .func (.func 82) #[.pointer (some ⟨g, 0, none⟩)] #[]] w fun e w' => (∃ u, e = .returned u) ∧ Wb w' B g D (bs ++ code k v) ∧ Kx B g w w' := by
  have eg := enters_wbit
  have hq := shr_range hv k
  have hqe : Hid (v / (2 : Int) ^ k = v / ((2 ^ k : Nat) : Int)) := Lib.hid (shr_pow v k)
  obtain ⟨q, hqq⟩ : ∃ q : Nat, v / (2 : Int) ^ k = (q : Int) := ⟨(v / (2 : Int) ^ k).toNat, by omega⟩
  have hcode : Hid (code k v = List.replicate q 1 ++ [0] ++ low v k) := Lib.hid (by
    unfold code
    rw [← hqe.out, hqq]
    rfl)
  have hql : q ≤ 65535 := by omega
  replace hlen := Lib.hid hlen
  replace h := Lib.hid h
  go_enter Try.func81, Try.ntmps81
  go_wp2
  rw [hqq] at *
  go_loopw [10] (fun i wr => ∃ j : Nat, j ≤ q ∧ i = .int .i64 (j : Int) ∧ Hid (Wb wr B g D (bs ++ List.replicate j 1)) ∧ Kx B g w wr) (fun i _ => q - (intOf i).toNat)
  case atStart => exact ⟨0, Nat.zero_le _, rfl, Lib.hid (by simpa using h.out), Kx.refl _ _ _⟩
  case round =>
    obtain ⟨j, hj, rfl, hW, hK⟩ := hrel
    have hBr := Nat.le_trans hB hK.size
    by_cases hlt : j < q
    · have hcall := Lib.hid (wbit_any B g D _ 1 wr hW.out hBr (by have := hlen.out; simp; omega) (.inr rfl))
      go_wp2_with (go_at_fn 82; refine hcall.out.mono ?_; rintro e w2 ⟨⟨u, rfl⟩, hW2, hK2⟩; replace hW2 := Lib.hid hW2)
      refine ⟨⟨j + 1, hlt, by go_num, Lib.hid ?_, hK.trans hK2⟩, by simp [intOf]; omega⟩
      have := hW2.out
      rw [List.append_assoc, ← List.replicate_succ'] at this
      exact this
    · obtain rfl : j = q := by omega
      have hcall := Lib.hid (wbit_any B g D _ 0 wr hW.out hBr (by have := hlen.out; simp; omega) (.inl rfl))
      go_wp2_with (go_at_fn 82; refine hcall.out.mono ?_; rintro e w2 ⟨⟨u, rfl⟩, hW2, hK2⟩; replace hW2 := Lib.hid hW2)
      have hK3 := hK.trans hK2
      clear hcall hW hK hK2 hBr
      go_loopw [6] (fun i wr2 => ∃ (p : Nat) (z : Int), p ≤ k ∧ i = .int .i64 z ∧ z = (k : Int) - 1 - p ∧ Hid (Wb wr2 B g D (bs ++ (List.replicate j 1 ++ [0] ++ (low v k).take p))) ∧ Kx B g w wr2) (fun i _ => (intOf i + 1).toNat)
      case atStart => exact ⟨0, _, Nat.zero_le _, rfl, by simp, Lib.hid (by have := hW2.out; simpa [List.append_assoc] using this), hK3⟩
      case round =>
        obtain ⟨p, z, hp, rfl, hz, hW, hK⟩ := hrel
        have hBr := Nat.le_trans hB hK.size
        by_cases hlt2 : p < k
        · obtain ⟨y, rfl⟩ : ∃ y : Nat, z = (y : Int) := ⟨z.toNat, by omega⟩
          have hy : k - 1 - p = y := by omega
          have hbit := low_take (v := v) hlt2
          have hvy := shr_range hv y
          rw [hy, ← shr_pow, ← and_one hvy.1 (by omega)] at hbit
          have hb2 : bits .and .i64 (v / (2 : Int) ^ y) 1 = 0 ∨ bits .and .i64 (v / (2 : Int) ^ y) 1 = 1 := by rw [and_one hvy.1 (by omega)]; omega
          have hcall := Lib.hid (wbit_any B g D _ (bits .and .i64 (v / (2 : Int) ^ y) 1) _ hW.out hBr (by have := hlen.out; simp [low_length]; omega) hb2)
          have hyk : y ≤ 16 := by omega
          replace hbit := Lib.hid hbit
          have hzz : Hid ((y : Int) - 1 = (k : Int) - 1 - ((p + 1 : Nat) : Int)) := Lib.hid (by omega)
          have hmm : Hid (((y : Int) - 1 + 1).toNat < ((y : Int) + 1).toNat) := Lib.hid (by omega)
          clear hb2 hz hy
          go_wp2_with (go_at_fn 82; refine hcall.out.mono ?_; rintro e w2 ⟨⟨u, rfl⟩, hW2, hK2⟩; replace hW2 := Lib.hid hW2)
          refine ⟨⟨p + 1, _, hlt2, rfl, hzz.out, Lib.hid ?_, hK.trans hK2⟩, by first | (simp [intOf]; done) | (simp [intOf]; omega)⟩
          have := hW2.out
          rw [List.append_assoc, List.append_assoc, ← hbit.out] at this
          exact this
        · obtain rfl : p = k := by omega
          have hfin := hW.out
          rw [List.take_of_length_le (by rw [low_length]; exact Nat.le_refl _), ← hcode.out] at hfin
          replace hfin := Lib.hid hfin
          have hz2 : ¬ 0 ≤ z := by omega
          clear hz
          go_wp2
          go_end0
          exact ⟨⟨_, rfl⟩, hfin.out, hK⟩

/-- Behind calls that leave what lay. -/
theorem Wb.below {w w' : World} {B g : Nat} {D bs : List Int} (h : Wb w B g D bs) (hb : Below w.heap.size w w') : Wb w' B g D bs := by
  obtain ⟨hbs, r, c, hbox, hBg, hown, h0, hrg⟩ := h
  refine ⟨hbs, r, c, ?_, hBg, hown.keep (hb.block r hown.facts.2.1), h0, hrg⟩
  rw [hb.block g (Array.getElem?_eq_some_iff.1 hbox).1]
  exact hbox
theorem wenc_at {B g k : Nat} {v u : Int} {D bs : List Int} {w : World} (h : Wb w B g D bs) (hB : B ≤ w.heap.size) (hlen : D.length + bs.length ≤ 10000000000) (hv : 0 ≤ v) (hv2 : v ≤ 65535) (hk : k ≤ 16) (hu : u = (k : Int)) :
    Calls Try.prog 81 #[.int .i64 v, .int .i64 u, .func (.func 82) #[.pointer (some ⟨g, 0, none⟩)] #[]] w fun e w' => (∃ u, e = .returned u) ∧ Wb w' B g D (bs ++ code k v) ∧ Kx B g w w' := by
  subst hu
  exact wenc_any B g k v D bs w h hB hlen hv hv2 hk

theorem codes_take {l : List Int} {j : Nat} (k : Nat) (h : j < l.length) : codes k (l.take (j + 1)) = codes k (l.take j) ++ code k (nth l j) := by
  rw [take_succ_nth h, codes_snoc]
theorem codes_length {l : List Int} (h : Row l) (k : Nat) (hk : k ≤ 16) : ∀ j, j ≤ l.length → (codes k (l.take j)).length ≤ j * 65552 := by
  intro j
  induction j with
  | zero => intro _; simp [codes]
  | succ j ih =>
    intro hj
    have := ih (by omega)
    rw [codes_take k (by omega), List.length_append, code_length]
    have h1 := h.nth j
    have h3 : Go.Proofs.Ytfkoboljobghkaa.nth l j / ((2 ^ k : Nat) : Int) ≤ Go.Proofs.Ytfkoboljobghkaa.nth l j := Int.ediv_le_self _ h1.1
    generalize Go.Proofs.Ytfkoboljobghkaa.nth l j / ((2 ^ k : Nat) : Int) = z at *
    omega

set_option maxHeartbeats 3200000 in
set_option maxRecDepth 100000 in
/-- A row of residuals is written. -/
theorem wrow_any (B g r off n c : Nat) (L l D bs : List Int) (w : World) (h : Wb w B g D bs) (hB : B ≤ w.heap.size) (hlen : D.length + bs.length ≤ 1000000000) (hr : Bl w r L) (hrg : r ≠ g) (ho : off + n ≤ L.length) (hll : (L.drop off).take n = l) (hn : n ≤ 1000) (hnc : n ≤ c) (hc : c ≤ 9223372036854775807) (hl : Row l) :
    Calls Try.prog 63 #[.pointer (some ⟨g, 0, none⟩), .slice (some ⟨r, off, none⟩) n c] w fun e w' => (∃ u, e = .returned u) ∧ Wb w' B g (D ++ pack bs ++ [(best l : Int)]) (codes (best l) l) ∧ Kx B g w w' := by
  have hsl : ∀ W, Bl W r L → Sl W (some ⟨r, off, none⟩) n c l := fun W hb => hll ▸ hb.sl ho hnc hc
  have hln : l.length = n := by rw [← hll, List.length_take, List.length_drop]; omega
  have hbest := best_any _ _ _ _ _ (hsl _ hr) hn hl
  have hble := best_le l
  have hcl := Lib.hid (codes_length hl (best l) hble)
  have hct := Lib.hid (fun j (hj : j < l.length) => codes_take (l := l) (best l) hj)
  obtain ⟨K, hK⟩ : ∃ K, best l = K := ⟨_, rfl⟩
  rw [hK] at hble hbest hcl hct ⊢
  replace hbest := Lib.hid hbest
  replace hl := Lib.hid hl
  replace hsl := Lib.hid hsl
  replace hln := Lib.hid hln
  replace h := Lib.hid h
  replace hlen := Lib.hid hlen
  clear hK hll
  have hcode0 : codes K (l.take 0) = [] := by simp [codes]
  replace hcode0 := Lib.hid hcode0
  go_enter Try.func63, Try.ntmps63
  go_wp2_with (first
    | (go_at_call 60; refine hbest.out.mono ?_; rintro e w1 ⟨rfl, hb1⟩)
    | (go_at_call 79; refine (wbyte_to B g D bs (K : Int) w1 (h.out.below hb1) (Nat.le_trans hB hb1.size) (by have := hlen.out; omega)).mono ?_; rintro e w2 ⟨⟨u, rfl⟩, hW2, hK2⟩; replace hW2 := Lib.hid hW2))
  have hK1 : Kx B g w w2 := (Kx.of_below hb1 hB).trans hK2
  clear hK2 hb1
  go_loopw [19] (fun i wr => ∃ j : Nat, j ≤ n ∧ i = .int .i64 (j : Int) ∧ Hid (Wb wr B g (D ++ pack bs ++ [(K : Int)]) (codes K (l.take j))) ∧ Kx B g w wr) (fun i _ => n - (intOf i).toNat)
  case atStart => exact ⟨0, Nat.zero_le _, rfl, Lib.hid (by rw [hcode0.out]; exact hW2.out), hK1⟩
  case round =>
    obtain ⟨j, hj, rfl, hW, hKr⟩ := hrel
    by_cases hlt : j < n
    · have hBr := Nat.le_trans hB hKr.size
      obtain ⟨b', o', e', hbw, hcc⟩ := (hsl.out _ (hKr.bl hr hrg)).at_ (by omega)
      cases e'
      have hcell := hcc j hlt
      clear hcc
      have hv := hl.out.nth j
      have hc1 := hct.out j (by rw [hln.out]; exact hlt)
      have hc2 := hcl.out j (by rw [hln.out]; exact hj)
      obtain ⟨v, hvv⟩ : ∃ v, nth l j = v := ⟨_, rfl⟩
      rw [hvv] at hv hc1 hcell
      have hcall := Lib.hid (fun (u : Int) hu => wenc_at (u := u) (v := v) hW.out hBr (by have := hlen.out; rw [List.length_append, List.length_append, pack_length]; simp; omega) hv.1 hv.2 hble hu)
      replace hc1 := Lib.hid hc1
      clear hc2 hvv
      go_wp2_with (go_at_call 81; refine (hcall.out _ rfl).mono ?_; rintro e w3 ⟨⟨u, rfl⟩, hW3, hK3⟩; replace hW3 := Lib.hid hW3)
      refine ⟨⟨j + 1, hlt, by go_num, Lib.hid ?_, hKr.trans hK3⟩, by simp [intOf]; omega⟩
      rw [hc1.out]
      exact hW3.out
    · obtain rfl : j = n := by omega
      have hfin := hW.out
      rw [List.take_of_length_le (by rw [hln.out]; exact Nat.le_refl _)] at hfin
      replace hfin := Lib.hid hfin
      go_wp2
      go_end0
      exact ⟨⟨_, rfl⟩, hfin.out, hKr⟩

end Go.Proofs.Ytfkoboljobghkaa
