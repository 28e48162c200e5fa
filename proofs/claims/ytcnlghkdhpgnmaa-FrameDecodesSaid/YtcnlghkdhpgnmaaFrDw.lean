/-
  Walk: the law of decoding.
-/
import Derived.Test.YtcnlghkdhpgnmaaFrFi
import Derived.Test.YtcnlghkdhpgnmaaFrDn
import Derived.Test.YtcnlghkdhpgnmaaFrKn
import Derived.Test.YtcnlghkdhpgnmaaFrLc
set_option linter.unusedSimpArgs false
set_option linter.unusedVariables false
namespace Go.Proofs.Ytcnlghkdhpgnmaa
open Go.RowKit Go.Shelf

theorem Tl.later {w w' : World} {v : Value} {l : List Int} (h : Tl w w v l) (hb : Below w.heap.size w w') : Tl w' w' v l := by
  obtain ⟨A9, n9, c9, e9, h91, h92, h93⟩ := h.grow hb
  exact ⟨A9, n9, c9, e9, h91, h92, fun h0 b off e => Nat.lt_of_lt_of_le (h93 h0 b off e) hb.size⟩
theorem same_zero : sameF 0 0 0 [] [] 0 0 0 [] [] = true := by decide

set_option maxRecDepth 100000 in
set_option maxHeartbeats 6400000 in
theorem lawDecodes_no (A : Option Addr) (n c : Nat) (l : List Int) (w : World) (h : Tl w w (.slice A n c) l) (hn : n ≤ 2000) (hD : Hid (∀ W', Tl W' W' (.slice A n c) l → Calls Try.prog 34 #[.slice A n c] W' (NoF 8 W'))) :
    Calls Try.prog 9 #[.slice A n c] w fun e w' => e = .returned (.bool true) ∧ Below w.heap.size w w' := by
  have hT := Lib.hid (fun W' hb => h.later (w' := W') hb)
  have hcS := fun (W' : World) => same_any none 0 0 [] 0 0 0 none 0 0 [] none 0 0 [] 0 0 0 none 0 0 [] W' (En.nil _) (Sl.nil _) (En.nil _) (Sl.nil _)
  rw [same_zero] at hcS
  replace hcS := Lib.hid hcS
  clear h
  go_enter Try.func9, Try.ntmps9
  go_wp2_with (first
    | (go_at_call 12; refine (known_any _).mono ?_; rintro e w1 ⟨rfl, hb1⟩)
    | (go_at_call 34; refine (hD.out _ (hT.out _ hb1)).mono ?_; rintro e w2 ⟨rfl, hb2'⟩; have hb2 := (hb1.trans (hb2'.mono hb1.size)).alloc (by have := hb1.size; have := hb2'.size; omega) (.cells #[.slice none 0 0, .int .i64 0, .int .i64 0, .int .i64 0, .slice none 0 0] 27); clear hb2')
    | (go_at_call 35; refine (hcS.out _).mono ?_; rintro e w3 ⟨rfl, hb3'⟩; have hb3 := hb2.trans (hb3'.mono hb2.size)))
  go_ret
  exact ⟨ret_bool (by first | rfl | simp), hb3⟩

set_option maxRecDepth 100000 in
set_option maxHeartbeats 6400000 in
theorem lawDecodes_yes (A : Option Addr) (n c : Nat) (l : List Int) (w : World) (h : Tl w w (.slice A n c) l) (hb : Byt l) (hn : n ≤ 2000) (E : List Ent) (W H : Nat) (M : Int) (P : List Int) (hf : readF l = some ⟨E, W, H, M, P⟩) (hg : Good W H M P E) (heq : (Lib.bytesOf (fileB E W H M P) == Lib.bytesOf l) = true) :
    Calls Try.prog 9 #[.slice A n c] w fun e w' => e = .returned (.bool true) ∧ Below w.heap.size w w' := by
  have hT := Lib.hid (fun W' hb => h.later (w' := W') hb)
  have hsl : Sb w A n c l := by
    obtain ⟨A9, n9, c9, e9, h91, h92, h93⟩ := h
    cases e9; exact h91
  have hlen := Lib.hid hsl.len
  have hsb := Lib.hid (fun W' (hb : Below w.heap.size w W') => (hsl.below hb (Nat.le_refl _)).bytes)
  have hcap := hsl.le_cap
  have hcl := hsl.cap_le
  have hn20 : 0 < P.length := hg.1.pos.1
  have hD := Lib.hid (fun W' hW => Decode_yes A n c l W' hW hb (by omega) ⟨E, W, H, M, P⟩ W H hf rfl rfl hg heq)
  have hck := Lib.hid (fun v A2 n2 c2 g k (hv : En v A2 n2 c2 E) (hv2 : Sl v (some ⟨g, 0, none⟩) k k P) => lcheck_any A2 n2 c2 E (W : Int) (H : Int) M (some ⟨g, 0, none⟩) k k P v hv hv2 (r := 0) (.inr ⟨hg.1, hg.2.symm⟩))
  have hfi := fun v A2 n2 c2 g k (hv : En v A2 n2 c2 E) (hv2 : Sl v (some ⟨g, 0, none⟩) k k P) => lfile_any A2 n2 c2 E W H M g 0 k k P v hv hv2 hg
  obtain ⟨F, hF⟩ : ∃ F, fileB E W H M P = F := ⟨_, rfl⟩
  rw [hF] at hfi heq
  replace hfi := Lib.hid hfi
  replace hF := Lib.hid hF
  replace heq := Lib.hid heq
  replace hg := Lib.hid hg
  replace hf := Lib.hid hf
  replace hn20 := Lib.hid hn20
  clear h hsl hb
  go_enter Try.func9, Try.ntmps9
  go_wp2_with (first
    | (go_at_call 12; refine (known_any _).mono ?_; rintro e w1 ⟨rfl, hb1⟩)
    | (go_at_call 34; refine (hD.out _ (hT.out _ hb1)).mono ?_; rintro e w2 ⟨A2, n2, c2, g, k, rfl, hsl2, hen2, hb2'⟩; have hz2 := heap_alloc_new w2 (.cells #[.slice A2 n2 c2, .int .i64 (W : Int), .int .i64 (H : Int), .int .i64 M, .slice (some ⟨g, 0, none⟩) k k] 27); have hs2 := Lib.hid (hsl2.alloc (.cells #[.slice A2 n2 c2, .int .i64 (W : Int), .int .i64 (H : Int), .int .i64 M, .slice (some ⟨g, 0, none⟩) k k] 27)); have hn2 := Lib.hid (hen2.alloc (.cells #[.slice A2 n2 c2, .int .i64 (W : Int), .int .i64 (H : Int), .int .i64 M, .slice (some ⟨g, 0, none⟩) k k] 27)); have hb2 := (hb1.trans (hb2'.mono hb1.size)).alloc (by have := hb1.size; have := hb2'.size; omega) (.cells #[.slice A2 n2 c2, .int .i64 (W : Int), .int .i64 (H : Int), .int .i64 M, .slice (some ⟨g, 0, none⟩) k k] 27); replace hsl2 := Lib.hid hsl2; replace hen2 := Lib.hid hen2; clear hb2'; obtain ⟨x0, x1, x2, x3, x4⟩ := cell5 hz2)
    | (go_at_call 15; refine (hck.out _ _ _ _ _ _ hn2.out hs2.out).mono ?_; rintro e w3 ⟨rfl, hb3'⟩; have hs3 := Lib.hid (hs2.out.below hb3' (Nat.le_refl _)); have hn3 := Lib.hid (hn2.out.below hb3' (Nat.le_refl _)); have hb3 := hb2.trans (hb3'.mono hb2.size); have hz3 := (hb3'.block w2.heap.size (by simp)).trans hz2; clear x0 x1 x2 x3 x4 hb3'; obtain ⟨x0, x1, x2, x3, x4⟩ := cell5 hz3)
    | (go_at_call 33; refine (hfi.out _ _ _ _ _ _ hn3.out hs3.out).mono ?_; rintro e w4 ⟨r4, c4, rfl, ho4, hb4'⟩; have hb4 := hb3.trans (hb4'.mono hb3.size); have hby := Lib.hid ho4.bytes; replace ho4 := Lib.hid ho4; clear hb4' x0 x1 x2 x3 x4)
    | (go_at_call 32; refine (Try.bytes_Equal_all _ _ _ _ _ _ F l w4 rfl hlen.out.symm hby.out (hsb.out _ hb4)).mono ?_; rintro e w5 ⟨he, rfl⟩; rw [heq.out] at he; subst he))
  go_ret
  exact ⟨rfl, hb4⟩

set_option maxRecDepth 100000 in
set_option maxHeartbeats 6400000 in
theorem lawDecodes_any (A : Option Addr) (n c : Nat) (l : List Int) (w : World) (h : Tl w w (.slice A n c) l) (hb : Byt l) :
    Calls Try.prog 9 #[.slice A n c] w fun e w' => e = .returned (.bool true) ∧ Below w.heap.size w w' := by
  by_cases hn : 2000 < n
  · have hsl : Sb w A n c l := by
      obtain ⟨A9, n9, c9, e9, h91, h92, h93⟩ := h
      cases e9; exact h91
    have hcap := hsl.le_cap
    have hcl := hsl.cap_le
    clear h hsl
    go_enter Try.func9, Try.ntmps9
    go_wp2_with (go_at_call 12; refine (known_any _).mono ?_; rintro e w1 ⟨rfl, hb1⟩)
    go_ret
    exact ⟨rfl, hb1⟩
  have hn : n ≤ 2000 := by omega
  cases hf : readF l with
  | none => exact lawDecodes_no A n c l w h hn (Lib.hid fun W' hW => Decode_none A n c l W' hW hb (by omega) hf)
  | some f =>
    obtain ⟨E, fW, fH, M, P⟩ := f
    have hr := readF_ras hf
    by_cases hm : metaC E = 0
    · have hr1 := hr.1
      dsimp only at hr hr1
      obtain ⟨x, rfl⟩ : ∃ x : Nat, fW = (x : Int) := ⟨fW.toNat, by omega⟩
      obtain ⟨y, rfl⟩ : ∃ y : Nat, fH = (y : Int) := ⟨fH.toNat, by omega⟩
      cases heq : (Lib.bytesOf (fileB E x y M P) == Lib.bytesOf l) with
      | true => exact lawDecodes_yes A n c l w h hb hn E x y M P hf ⟨hr, hm⟩ heq
      | false => exact lawDecodes_no A n c l w h hn (Lib.hid fun W' hW => Decode_other A n c l W' hW hb (by omega) E x y M P hf ⟨hr, hm⟩ heq)
    · exact lawDecodes_no A n c l w h hn (Lib.hid fun W' hW => Decode_bad A n c l W' hW hb (by omega) E fW fH M P hf (r := metaC E) (.inr ⟨hr, rfl⟩) hm)

end Go.Proofs.Ytcnlghkdhpgnmaa
