/-
  Walk: the law of encoding.
-/
import Derived.Test.YtcnlghkdhpgnmaaFrFi
import Derived.Test.YtcnlghkdhpgnmaaFrSx
import Derived.Test.YtcnlghkdhpgnmaaFrDc
set_option linter.unusedSimpArgs false
set_option linter.unusedVariables false
namespace Go.Proofs.Ytcnlghkdhpgnmaa
open Go.RowKit Go.Shelf

theorem eqB (l : List Int) : (Lib.bytesOf l == Lib.bytesOf l) = true := by simp

set_option maxRecDepth 100000 in
set_option maxHeartbeats 6400000 in
theorem lawEncodes_ok (A : Option Addr) (n c : Nat) (E : List Ent) (W H : Nat) (M : Int) (gA offA n2 c2 : Nat) (P : List Int) (w : World) (h : En0 w A n c E) (h2 : Sl w (some ⟨gA, offA, none⟩) n2 c2 P) (hsm : smallB n2 E M = true) (hg : Good W H M P E) :
    Calls Try.prog 7 #[.agg #[.slice A n c, .int .i64 (W : Int), .int .i64 (H : Int), .int .i64 M, .slice (some ⟨gA, offA, none⟩) n2 c2]] w fun e w' => e = .returned (.bool true) ∧ Below w.heap.size w w' := by
  have hb0 := (Below.refl w.heap.size w).alloc (Nat.le_refl _) (.cells #[.slice A n c, .int .i64 (W : Int), .int .i64 (H : Int), .int .i64 M, .slice (some ⟨gA, offA, none⟩) n2 c2] 27)
  have hs := Lib.hid (h2.alloc (.cells #[.slice A n c, .int .i64 (W : Int), .int .i64 (H : Int), .int .i64 M, .slice (some ⟨gA, offA, none⟩) n2 c2] 27))
  have hn0 := Lib.hid (h.alloc (.cells #[.slice A n c, .int .i64 (W : Int), .int .i64 (H : Int), .int .i64 M, .slice (some ⟨gA, offA, none⟩) n2 c2] 27))
  have hn := Lib.hid (hn0.out.few (n2 := n2) (by unfold smallB at hsm; rw [Bool.and_eq_true] at hsm; exact hsm.1))
  have hcf := fun v (hv : En0 v A n c E) => small_any A n c E (W : Int) (H : Int) M (some ⟨gA, offA, none⟩) n2 c2 v hv (by have := h2.le_cap; have := h2.cap_le; omega)
  rw [hsm] at hcf
  replace hcf := Lib.hid hcf
  have hck := Lib.hid (fun v (hv : En v A n c E) (hv2 : Sl v (some ⟨gA, offA, none⟩) n2 c2 P) => lcheck_any A n c E (W : Int) (H : Int) M (some ⟨gA, offA, none⟩) n2 c2 P v hv hv2 (r := 0) (.inr ⟨hg.1, hg.2.symm⟩))
  have hce := fun v (hv : En v A n c E) (hv2 : Sl v (some ⟨gA, offA, none⟩) n2 c2 P) => Encode_yes A n c E W H M (some ⟨gA, offA, none⟩) n2 c2 P v hv hv2 hg
  have hfi := fun v (hv : En v A n c E) (hv2 : Sl v (some ⟨gA, offA, none⟩) n2 c2 P) => lfile_any A n c E W H M gA offA n2 c2 P v hv hv2 hg
  obtain ⟨F, hF⟩ : ∃ F, fileB E W H M P = F := ⟨_, rfl⟩
  rw [hF] at hce hfi
  have hEq := eqB F
  obtain ⟨FL, hFL⟩ : ∃ L, F.length = L := ⟨_, rfl⟩
  have hob : Hid (∀ v B r c, Ob v B r c F → Lib.BytesIn v (some ⟨r, 0, none⟩) FL F) := Lib.hid (fun v B r c ho => hFL ▸ ho.bytes)
  have hfl : Hid (F.length = FL) := Lib.hid hFL
  rw [hFL] at hce hfi
  replace hFL := Lib.hid hFL
  replace hF := Lib.hid hF
  replace hce := Lib.hid hce
  replace hfi := Lib.hid hfi
  replace hg := Lib.hid hg
  replace hsm := Lib.hid hsm
  replace hEq := Lib.hid hEq
  clear h h2
  go_enter Try.func7, Try.ntmps7
  go_wp2_with (first
    | (go_at_call 12; refine (known_any _).mono ?_; rintro e w1 ⟨rfl, hb1⟩; obtain ⟨x0, x1, x2, x3, x4⟩ := cell5 ((hb1.block w.heap.size (by simp)).trans (heap_alloc_new w _)))
    | (go_at_call 30; refine (hcf.out _ (hn0.out.below hb1 (Nat.le_refl _))).mono ?_; rintro e w2 ⟨rfl, hb2'⟩; have hb2 := hb1.trans (hb2'.mono hb1.size); clear hb2' x0 x1 x2 x3 x4; obtain ⟨x0, x1, x2, x3, x4⟩ := cell5 ((hb2.block w.heap.size (by simp)).trans (heap_alloc_new w _)))
    | (go_at_call 31; refine (hce.out _ (hn.out.below hb2 (Nat.le_refl _)) (hs.out.below hb2 (Nat.le_refl _))).mono ?_; rintro e w3 ⟨r3, c3, rfl, ho3, hb3'⟩; have hb3 := hb2.trans (hb3'.mono hb2.size); replace ho3 := Lib.hid ho3; clear hb3' x0 x1 x2 x3 x4; obtain ⟨x0, x1, x2, x3, x4⟩ := cell5 ((hb3.block w.heap.size (by simp)).trans (heap_alloc_new w _)))
    | (go_at_call 15; refine (hck.out _ (hn.out.below hb3 (Nat.le_refl _)) (hs.out.below hb3 (Nat.le_refl _))).mono ?_; rintro e w4 ⟨rfl, hb4'⟩; have hb4 := hb3.trans (hb4'.mono hb3.size); have ho4 := Lib.hid (ho3.out.keep (hb4'.block r3 ho3.out.facts.2.1)); clear hb4' x0 x1 x2 x3 x4; obtain ⟨x0, x1, x2, x3, x4⟩ := cell5 ((hb4.block w.heap.size (by simp)).trans (heap_alloc_new w _)))
    | (go_at_call 33; refine (hfi.out _ (hn.out.below hb4 (Nat.le_refl _)) (hs.out.below hb4 (Nat.le_refl _))).mono ?_; rintro e w5 ⟨r5, c5, rfl, ho5, hb5'⟩; have hb5 := hb4.trans (hb5'.mono hb4.size); have ho35 := Lib.hid (ho4.out.keep (hb5'.block r3 ho4.out.facts.2.1)); replace ho5 := Lib.hid ho5; clear hb5' x0 x1 x2 x3 x4)
    | (go_at_call 32; refine (Try.bytes_Equal_all _ _ _ _ _ _ F F w5 hfl.out hfl.out (hob.out _ _ _ _ ho35.out) (hob.out _ _ _ _ ho5.out)).mono ?_; rintro e w6 ⟨he, rfl⟩; rw [hEq.out] at he; subst he))
  go_ret
  exact ⟨rfl, hb0.trans (hb5.mono (by simp))⟩

set_option maxRecDepth 100000 in
set_option maxHeartbeats 6400000 in
theorem lawEncodes_any (A : Option Addr) (n c : Nat) (E : List Ent) (W H M : Int) (A2 : Option Addr) (n2 c2 : Nat) (P : List Int) (w : World) (h : En0 w A n c E) (h2 : Sl w A2 n2 c2 P) :
    Calls Try.prog 7 #[.agg #[.slice A n c, .int .i64 W, .int .i64 H, .int .i64 M, .slice A2 n2 c2]] w fun e w' => e = .returned (.bool true) ∧ Below w.heap.size w w' := by
  have hb0 := (Below.refl w.heap.size w).alloc (Nat.le_refl _) (.cells #[.slice A n c, .int .i64 W, .int .i64 H, .int .i64 M, .slice A2 n2 c2] 27)
  have hs := Lib.hid (h2.alloc (.cells #[.slice A n c, .int .i64 W, .int .i64 H, .int .i64 M, .slice A2 n2 c2] 27))
  have hn := Lib.hid (h.alloc (.cells #[.slice A n c, .int .i64 W, .int .i64 H, .int .i64 M, .slice A2 n2 c2] 27))
  obtain ⟨b, hb⟩ : ∃ b, smallB n2 E M = b := ⟨_, rfl⟩
  have hf := fun v (hv : En0 v A n c E) => small_any A n c E W H M A2 n2 c2 v hv (by have := h2.le_cap; have := h2.cap_le; omega)
  rw [hb] at hf
  cases b
  · replace hf := Lib.hid hf
    replace hb := Lib.hid hb
    clear h h2
    go_enter Try.func7, Try.ntmps7
    go_wp2_with (first | (go_at_call 12; refine (known_any _).mono ?_; rintro e w1 ⟨rfl, hb1⟩; obtain ⟨x0, x1, x2, x3, x4⟩ := cell5 ((hb1.block w.heap.size (by simp)).trans (heap_alloc_new w _))) | (go_at_call 30; refine (hf.out _ (hn.out.below hb1 (Nat.le_refl _))).mono ?_; rintro e w2 ⟨rfl, hb2'⟩; have hb2 := hb1.trans (hb2'.mono hb1.size)))
    go_ret
    exact ⟨rfl, hb0.trans (hb2.mono (by simp))⟩
  · by_cases hg : Ras W H M P ∧ metaC E = 0
    · obtain ⟨x, rfl⟩ : ∃ x : Nat, W = (x : Int) := ⟨W.toNat, by have := hg.1.1; omega⟩
      obtain ⟨y, rfl⟩ : ∃ y : Nat, H = (y : Int) := ⟨H.toNat, by have := hg.1.1; omega⟩
      obtain ⟨gA, offA, rfl, -, -⟩ := h2.at_ (by rw [h2.len]; exact hg.1.pos.1)
      exact lawEncodes_ok A n c E x y M gA offA n2 c2 P w h h2 hb hg
    · have hnf := Lib.hid (hn.out.few (n2 := n2) (by unfold smallB at hb; rw [Bool.and_eq_true] at hb; exact hb.1))
      obtain ⟨r, hr, hr0⟩ : ∃ r, RasC W H M P E r ∧ r ≠ 0 := by
        by_cases hq : Ras W H M P
        · exact ⟨_, .inr ⟨hq, rfl⟩, fun e => hg ⟨hq, e⟩⟩
        · exact ⟨1, .inl ⟨hq, rfl⟩, by decide⟩
      have hrn : (r != 0) = true := by rw [bne_iff_ne]; exact hr0
      have hrr : ((r : Int) == (r : Int)) = true := by simp
      replace hf := Lib.hid hf
      replace hb := Lib.hid hb
      replace hg := Lib.hid hg
      replace hr := Lib.hid hr
      replace hr0 := Lib.hid hr0
      clear h h2
      go_enter Try.func7, Try.ntmps7
      go_wp2_with (first | (go_at_call 12; refine (known_any _).mono ?_; rintro e w1 ⟨rfl, hb1⟩; obtain ⟨x0, x1, x2, x3, x4⟩ := cell5 ((hb1.block w.heap.size (by simp)).trans (heap_alloc_new w _))) | (go_at_call 30; refine (hf.out _ (hn.out.below hb1 (Nat.le_refl _))).mono ?_; rintro e w2 ⟨rfl, hb2'⟩; have hb2 := hb1.trans (hb2'.mono hb1.size); clear hb2' x0 x1 x2 x3 x4; obtain ⟨x0, x1, x2, x3, x4⟩ := cell5 ((hb2.block w.heap.size (by simp)).trans (heap_alloc_new w _))) | (go_at_call 31; refine (Encode_no _ _ _ _ _ _ _ _ _ _ _ _ (hnf.out.below hb2 (Nat.le_refl _)) (hs.out.below hb2 (Nat.le_refl _)) hr.out hr0.out).mono ?_; rintro e w4 ⟨rfl, hb4'⟩; have hb4 := hb2.trans (hb4'.mono hb2.size); clear hb4' x0 x1 x2 x3 x4; obtain ⟨x0, x1, x2, x3, x4⟩ := cell5 ((hb4.block w.heap.size (by simp)).trans (heap_alloc_new w _))) | (go_at_call 15; refine (lcheck_any _ _ _ _ _ _ _ _ _ _ _ _ (hnf.out.below hb4 (Nat.le_refl _)) (hs.out.below hb4 (Nat.le_refl _)) hr.out).mono ?_; rintro e w3 ⟨rfl, hb3'⟩; have hb3 := hb4.trans (hb3'.mono hb4.size)))
      go_ret
      exact ⟨ret_bool (by first | rfl | simp), hb0.trans (hb3.mono (by simp))⟩

end Go.Proofs.Ytcnlghkdhpgnmaa
