/-
  Walk: the law of what is decoded from a file.
-/
import Derived.Test.YtcnlghkdhpgnmaaFrFi
import Derived.Test.YtcnlghkdhpgnmaaFrSx
import Derived.Test.YtcnlghkdhpgnmaaFrRq
set_option linter.unusedSimpArgs false
set_option linter.unusedVariables false
namespace Go.Proofs.Ytcnlghkdhpgnmaa
open Go.RowKit Go.Shelf

theorem sameF_self (W H M : Int) (P : List Int) (E : List Ent) : sameF W H M P E W H M P E = true := by simp [sameF, eqr]
theorem Ob.tl {w : World} {B r c : Nat} {l : List Int} (h : Ob w B r c l) : Tl w w (.slice (some ⟨r, 0, none⟩) l.length c) l := by
  obtain ⟨-, f2, f3, f4, -⟩ := h.facts
  exact ⟨_, _, _, rfl, ⟨rfl, f3, f4, fun _ => ⟨r, 0, rfl, fun i hi => by rw [Nat.zero_add]; exact h.cell hi⟩⟩, fun e => (by cases e), fun _ b off e => (by cases e; exact f2)⟩
theorem fileB_short {E : List Ent} {W H : Nat} {M : Int} {P : List Int} (hg : Good W H M P E) : (fileB E W H M P).length ≤ 1048576 := by
  have h1 := fileB_le (E := E) hg.1
  have h2 := ents_length hg.2 E.length (Nat.le_refl _)
  rw [List.take_length] at h2
  have h3 := (metaC_zero hg.2).1
  have hr := hg.1.1
  have h4 : H * (1 + (17 * W + 7) / 8) ≤ 64 * 201 := Nat.mul_le_mul (by omega) (by omega)
  omega

set_option maxRecDepth 100000 in
set_option maxHeartbeats 6400000 in
theorem lawReturns_ok (A : Option Addr) (n c : Nat) (E : List Ent) (W H : Nat) (M : Int) (gA offA n2 c2 : Nat) (P : List Int) (w : World) (h : En0 w A n c E) (h2 : Sl w (some ⟨gA, offA, none⟩) n2 c2 P) (hsm : smallB n2 E M = true) (hg : Good W H M P E) :
    Calls Try.prog 8 #[.agg #[.slice A n c, .int .i64 (W : Int), .int .i64 (H : Int), .int .i64 M, .slice (some ⟨gA, offA, none⟩) n2 c2]] w fun e w' => e = .returned (.bool true) ∧ Below w.heap.size w w' := by
  have hb0 := (Below.refl w.heap.size w).alloc (Nat.le_refl _) (.cells #[.slice A n c, .int .i64 (W : Int), .int .i64 (H : Int), .int .i64 M, .slice (some ⟨gA, offA, none⟩) n2 c2] 27)
  have hs := Lib.hid (h2.alloc (.cells #[.slice A n c, .int .i64 (W : Int), .int .i64 (H : Int), .int .i64 M, .slice (some ⟨gA, offA, none⟩) n2 c2] 27))
  have hn0 := Lib.hid (h.alloc (.cells #[.slice A n c, .int .i64 (W : Int), .int .i64 (H : Int), .int .i64 M, .slice (some ⟨gA, offA, none⟩) n2 c2] 27))
  have hn := Lib.hid (hn0.out.few (n2 := n2) (by unfold smallB at hsm; rw [Bool.and_eq_true] at hsm; exact hsm.1))
  have hcf := fun v (hv : En0 v A n c E) => small_any A n c E (W : Int) (H : Int) M (some ⟨gA, offA, none⟩) n2 c2 v hv (by have := h2.le_cap; have := h2.cap_le; omega)
  rw [hsm] at hcf
  replace hcf := Lib.hid hcf
  have hck := Lib.hid (fun v (hv : En v A n c E) (hv2 : Sl v (some ⟨gA, offA, none⟩) n2 c2 P) => lcheck_any A n c E (W : Int) (H : Int) M (some ⟨gA, offA, none⟩) n2 c2 P v hv hv2 (r := 0) (.inr ⟨hg.1, hg.2.symm⟩))
  have hfi := fun v (hv : En v A n c E) (hv2 : Sl v (some ⟨gA, offA, none⟩) n2 c2 P) => lfile_any A n c E W H M gA offA n2 c2 P v hv hv2 hg
  have hrf := readF_fileB hg
  have hby := fileB_byt E W H M P
  have hsh := fileB_short hg
  have heq : (Lib.bytesOf (fileB E W H M P) == Lib.bytesOf (fileB E W H M P)) = true := by simp
  have hde := fun v r c (hv : Tl v v (.slice (some ⟨r, 0, none⟩) (fileB E W H M P).length c) (fileB E W H M P)) => Decode_yes (some ⟨r, 0, none⟩) _ c (fileB E W H M P) v hv hby hsh ⟨E, W, H, M, P⟩ W H hrf rfl rfl hg heq
  have hcS := fun v A3 n3 c3 g k (hv : En v A n c E) (hv2 : Sl v (some ⟨gA, offA, none⟩) n2 c2 P) (hv3 : En v A3 n3 c3 E) (hv4 : Sl v (some ⟨g, 0, none⟩) k k P) => same_any A n c E (W : Int) (H : Int) M (some ⟨gA, offA, none⟩) n2 c2 P A3 n3 c3 E (W : Int) (H : Int) M (some ⟨g, 0, none⟩) k k P v hv hv2 hv3 hv4
  rw [sameF_self] at hcS
  replace hcS := Lib.hid hcS
  clear hrf hby hsh heq
  obtain ⟨F, hF⟩ : ∃ F, fileB E W H M P = F := ⟨_, rfl⟩
  rw [hF] at hde hfi
  obtain ⟨FL, hFL⟩ : ∃ L, F.length = L := ⟨_, rfl⟩
  have hob : Hid (∀ v B r c, Ob v B r c F → Tl v v (.slice (some ⟨r, 0, none⟩) FL c) F) := Lib.hid (fun v B r c ho => hFL ▸ ho.tl)
  rw [hFL] at hde hfi
  replace hFL := Lib.hid hFL
  replace hF := Lib.hid hF
  replace hde := Lib.hid hde
  replace hfi := Lib.hid hfi
  replace hg := Lib.hid hg
  replace hsm := Lib.hid hsm
  clear h h2
  go_enter Try.func8, Try.ntmps8
  go_wp2_with (first
    | (go_at_call 12; refine (known_any _).mono ?_; rintro e w1 ⟨rfl, hb1⟩; obtain ⟨x0, x1, x2, x3, x4⟩ := cell5 ((hb1.block w.heap.size (by simp)).trans (heap_alloc_new w _)))
    | (go_at_call 30; refine (hcf.out _ (hn0.out.below hb1 (Nat.le_refl _))).mono ?_; rintro e w2 ⟨rfl, hb2'⟩; have hb2 := hb1.trans (hb2'.mono hb1.size); clear hb2' x0 x1 x2 x3 x4; obtain ⟨x0, x1, x2, x3, x4⟩ := cell5 ((hb2.block w.heap.size (by simp)).trans (heap_alloc_new w _)))
    | (go_at_call 15; refine (hck.out _ (hn.out.below hb2 (Nat.le_refl _)) (hs.out.below hb2 (Nat.le_refl _))).mono ?_; rintro e w3 ⟨rfl, hb3'⟩; have hb3 := hb2.trans (hb3'.mono hb2.size); clear hb3' x0 x1 x2 x3 x4; obtain ⟨x0, x1, x2, x3, x4⟩ := cell5 ((hb3.block w.heap.size (by simp)).trans (heap_alloc_new w _)))
    | (go_at_call 33; refine (hfi.out _ (hn.out.below hb3 (Nat.le_refl _)) (hs.out.below hb3 (Nat.le_refl _))).mono ?_; rintro e w4 ⟨r4, c4, rfl, ho4, hb4'⟩; have hb4 := hb3.trans (hb4'.mono hb3.size); have ht4 := Lib.hid (hob.out _ _ _ _ ho4); replace ho4 := Lib.hid ho4; clear hb4' x0 x1 x2 x3 x4)
    | (go_at_call 34; refine (hde.out _ _ _ ht4.out).mono ?_; rintro e w5 ⟨A5, n5, c5, g5, k5, rfl, hsl5, hen5, hb5'⟩; have hs5 := Lib.hid (hsl5.alloc (.cells #[.slice A5 n5 c5, .int .i64 (W : Int), .int .i64 (H : Int), .int .i64 M, .slice (some ⟨g5, 0, none⟩) k5 k5] 27)); have hn5 := Lib.hid (hen5.alloc (.cells #[.slice A5 n5 c5, .int .i64 (W : Int), .int .i64 (H : Int), .int .i64 M, .slice (some ⟨g5, 0, none⟩) k5 k5] 27)); have hz5 := heap_alloc_new w5 (.cells #[.slice A5 n5 c5, .int .i64 (W : Int), .int .i64 (H : Int), .int .i64 M, .slice (some ⟨g5, 0, none⟩) k5 k5] 27); have hb5 := (hb4.trans (hb5'.mono hb4.size)).alloc (by have := hb4.size; have := hb5'.size; omega) (.cells #[.slice A5 n5 c5, .int .i64 (W : Int), .int .i64 (H : Int), .int .i64 M, .slice (some ⟨g5, 0, none⟩) k5 k5] 27); replace hsl5 := Lib.hid hsl5; replace hen5 := Lib.hid hen5; clear hb5'; obtain ⟨y0, y1, y2, y3, y4⟩ := cell5 hz5; obtain ⟨x0, x1, x2, x3, x4⟩ := cell5 ((hb5.block w.heap.size (by simp)).trans (heap_alloc_new w _)))
    | (go_at_call 35; refine (hcS.out _ _ _ _ _ _ (hn.out.below hb5 (Nat.le_refl _)) (hs.out.below hb5 (Nat.le_refl _)) hn5.out hs5.out).mono ?_; rintro e w6 ⟨rfl, hb6'⟩; have hb6 := hb5.trans (hb6'.mono hb5.size)))
  go_ret
  exact ⟨rfl, hb0.trans (hb6.mono (by simp))⟩

set_option maxRecDepth 100000 in
set_option maxHeartbeats 6400000 in
theorem lawReturns_any (A : Option Addr) (n c : Nat) (E : List Ent) (W H M : Int) (A2 : Option Addr) (n2 c2 : Nat) (P : List Int) (w : World) (h : En0 w A n c E) (h2 : Sl w A2 n2 c2 P) :
    Calls Try.prog 8 #[.agg #[.slice A n c, .int .i64 W, .int .i64 H, .int .i64 M, .slice A2 n2 c2]] w fun e w' => e = .returned (.bool true) ∧ Below w.heap.size w w' := by
  have hb0 := (Below.refl w.heap.size w).alloc (Nat.le_refl _) (.cells #[.slice A n c, .int .i64 W, .int .i64 H, .int .i64 M, .slice A2 n2 c2] 27)
  have hs := Lib.hid (h2.alloc (.cells #[.slice A n c, .int .i64 W, .int .i64 H, .int .i64 M, .slice A2 n2 c2] 27))
  have hn := Lib.hid (h.alloc (.cells #[.slice A n c, .int .i64 W, .int .i64 H, .int .i64 M, .slice A2 n2 c2] 27))
  obtain ⟨b, hb⟩ : ∃ b, smallB n2 E M = b := ⟨_, rfl⟩
  have hf := fun v (hv : En0 v A n c E) => small_any A n c E W H M A2 n2 c2 v hv (by have := h2.le_cap; have := h2.cap_le; omega)
  rw [hb] at hf
  cases b
  · replace hf := Lib.hid hf
    replace hb := Lib.hid hb
    clear h h2
    go_enter Try.func8, Try.ntmps8
    go_wp2_with (first | (go_at_call 12; refine (known_any _).mono ?_; rintro e w1 ⟨rfl, hb1⟩; obtain ⟨x0, x1, x2, x3, x4⟩ := cell5 ((hb1.block w.heap.size (by simp)).trans (heap_alloc_new w _))) | (go_at_call 30; refine (hf.out _ (hn.out.below hb1 (Nat.le_refl _))).mono ?_; rintro e w2 ⟨rfl, hb2'⟩; have hb2 := hb1.trans (hb2'.mono hb1.size)))
    go_ret
    exact ⟨rfl, hb0.trans (hb2.mono (by simp))⟩
  · by_cases hg : Ras W H M P ∧ metaC E = 0
    · obtain ⟨x, rfl⟩ : ∃ x : Nat, W = (x : Int) := ⟨W.toNat, by have := hg.1.1; omega⟩
      obtain ⟨y, rfl⟩ : ∃ y : Nat, H = (y : Int) := ⟨H.toNat, by have := hg.1.1; omega⟩
      obtain ⟨gA, offA, rfl, -, -⟩ := h2.at_ (by rw [h2.len]; exact hg.1.pos.1)
      exact lawReturns_ok A n c E x y M gA offA n2 c2 P w h h2 hb hg
    · have hnf := Lib.hid (hn.out.few (n2 := n2) (by unfold smallB at hb; rw [Bool.and_eq_true] at hb; exact hb.1))
      obtain ⟨r, hr, hr0⟩ : ∃ r, RasC W H M P E r ∧ r ≠ 0 := by
        by_cases hq : Ras W H M P
        · exact ⟨_, .inr ⟨hq, rfl⟩, fun e => hg ⟨hq, e⟩⟩
        · exact ⟨1, .inl ⟨hq, rfl⟩, by decide⟩
      have hrn : (r != 0) = true := by rw [bne_iff_ne]; exact hr0
      have hrr : ((r : Int) == (r : Int)) = true := by simp
      replace hf := Lib.hid hf
      replace hb := Lib.hid hb
      replace hg := Lib.hid hg
      replace hr := Lib.hid hr
      replace hr0 := Lib.hid hr0
      clear h h2
      go_enter Try.func8, Try.ntmps8
      go_wp2_with (first | (go_at_call 12; refine (known_any _).mono ?_; rintro e w1 ⟨rfl, hb1⟩; obtain ⟨x0, x1, x2, x3, x4⟩ := cell5 ((hb1.block w.heap.size (by simp)).trans (heap_alloc_new w _))) | (go_at_call 30; refine (hf.out _ (hn.out.below hb1 (Nat.le_refl _))).mono ?_; rintro e w2 ⟨rfl, hb2'⟩; have hb2 := hb1.trans (hb2'.mono hb1.size); clear hb2' x0 x1 x2 x3 x4; obtain ⟨x0, x1, x2, x3, x4⟩ := cell5 ((hb2.block w.heap.size (by simp)).trans (heap_alloc_new w _))) | (go_at_call 15; refine (lcheck_any _ _ _ _ _ _ _ _ _ _ _ _ (hnf.out.below hb2 (Nat.le_refl _)) (hs.out.below hb2 (Nat.le_refl _)) hr.out).mono ?_; rintro e w3 ⟨rfl, hb3'⟩; have hb3 := hb2.trans (hb3'.mono hb2.size)))
      go_ret
      exact ⟨ret_bool (by first | rfl | simp), hb0.trans (hb3.mono (by simp))⟩

end Go.Proofs.Ytcnlghkdhpgnmaa
