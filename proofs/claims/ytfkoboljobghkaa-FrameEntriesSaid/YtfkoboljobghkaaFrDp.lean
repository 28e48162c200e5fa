/-
  Walks: Drop of package frame.
-/
import Derived.Test.YtfkoboljobghkaaFrDl
set_option linter.unusedSimpArgs false
set_option linter.unusedVariables false
namespace Go.Proofs.Ytfkoboljobghkaa
open Go.RowKit Go.Shelf

set_option maxRecDepth 100000 in
set_option maxHeartbeats 3200000 in
theorem Drop_no (A : Option Addr) (n c : Nat) (E : List Ent) (W H M : Int) (A2 : Option Addr) (n2 c2 : Nat) (P : List Int) (k : ByteArray) (w : World) (h : En w A n c E) (h2 : Sl w A2 n2 c2 P) {r : Int} (hr : RasC W H M P E r) (hr0 : r ≠ 0) :
    Calls Try.prog 38 #[.agg #[.slice A n c, .int .i64 W, .int .i64 H, .int .i64 M, .slice A2 n2 c2], .string k] w (NoF r w) := by
  have hb0 := ((Below.refl w.heap.size w).alloc (Nat.le_refl _) (.cells #[.slice A n c, .int .i64 W, .int .i64 H, .int .i64 M, .slice A2 n2 c2] 27)).alloc (by simp) (.cells #[.slice none 0 0, .int .i64 0, .int .i64 0, .int .i64 0, .slice none 0 0] 27)
  have hE := (h.alloc (.cells #[.slice A n c, .int .i64 W, .int .i64 H, .int .i64 M, .slice A2 n2 c2] 27)).alloc (.cells #[.slice none 0 0, .int .i64 0, .int .i64 0, .int .i64 0, .slice none 0 0] 27)
  have hS := (h2.alloc (.cells #[.slice A n c, .int .i64 W, .int .i64 H, .int .i64 M, .slice A2 n2 c2] 27)).alloc (.cells #[.slice none 0 0, .int .i64 0, .int .i64 0, .int .i64 0, .slice none 0 0] 27)
  have hcon := Lib.hid (fCheck_any A n c E W H M A2 n2 c2 P _ hE hS hr)
  have k1 := FB.new (w.alloc (.cells #[.slice A n c, .int .i64 W, .int .i64 H, .int .i64 M, .slice A2 n2 c2] 27)) (.slice none 0 0) (.int .i64 0) (.int .i64 0) (.int .i64 0) (.slice none 0 0)
  simp only [World.size_alloc] at k1
  have hne : (r != 0) = true := by simp [hr0]
  replace hr0 := Lib.hid hr0
  replace hr := Lib.hid hr
  clear hE hS h h2
  go_enter Try.func38, Try.ntmps38
  go_wp2_with (go_at_call 14; refine hcon.out.mono ?_; rintro e w2 ⟨rfl, hb2⟩; simp only [World.size_alloc] at hb2; obtain ⟨⟨z0, z1, z2, z3, z4⟩, t0, t1, t2, t3, t4⟩ := (k1.below hb2 (by omega)).cells)
  refine bodyPost_ret (v := .tuple #[.agg #[.slice none 0 0, .int .i64 0, .int .i64 0, .int .i64 0, .slice none 0 0], .int .i64 r]) (by simp [results, Try.results38, go_sem, z0, z1, z2, z3, z4, t0, t1, t2, t3, t4]) rfl ⟨rfl, ?_⟩
  repeat (refine Below.setCell ?_ (by simp <;> omega) _)
  exact hb0.trans (hb2.mono (by omega))

set_option maxRecDepth 100000 in
set_option maxHeartbeats 3200000 in
theorem Drop_missing (A : Option Addr) (n c : Nat) (E : List Ent) (W H M : Int) (A2 : Option Addr) (n2 c2 : Nat) (P : List Int) (k : ByteArray) (p : Nat) (w : World) (h : En w A n c E) (h2 : Sl w A2 n2 c2 P) (hg : Good W H M P E) (hp : PosOf E k p) (ha : isAt E k p = false) :
    Calls Try.prog 38 #[.agg #[.slice A n c, .int .i64 W, .int .i64 H, .int .i64 M, .slice A2 n2 c2], .string k] w (NoF 6 w) := by
  have hb0 := ((Below.refl w.heap.size w).alloc (Nat.le_refl _) (.cells #[.slice A n c, .int .i64 W, .int .i64 H, .int .i64 M, .slice A2 n2 c2] 27)).alloc (by simp) (.cells #[.slice none 0 0, .int .i64 0, .int .i64 0, .int .i64 0, .slice none 0 0] 27)
  have hE := (h.alloc (.cells #[.slice A n c, .int .i64 W, .int .i64 H, .int .i64 M, .slice A2 n2 c2] 27)).alloc (.cells #[.slice none 0 0, .int .i64 0, .int .i64 0, .int .i64 0, .slice none 0 0] 27)
  have hS := (h2.alloc (.cells #[.slice A n c, .int .i64 W, .int .i64 H, .int .i64 M, .slice A2 n2 c2] 27)).alloc (.cells #[.slice none 0 0, .int .i64 0, .int .i64 0, .int .i64 0, .slice none 0 0] 27)
  have hcon := Lib.hid (fCheck_any A n c E W H M A2 n2 c2 P _ hE hS (rasC_good hg))
  have hn : n ≤ 1000000 := by have := (metaC_zero hg.2).1; have := h.1; omega
  have hfi := Lib.hid (fun W hW => ha ▸ find_any A n c E k p W hW hn hp)
  have k0 := (FB.new w (.slice A n c) (.int .i64 W) (.int .i64 H) (.int .i64 M) (.slice A2 n2 c2)).alloc (.cells #[.slice none 0 0, .int .i64 0, .int .i64 0, .int .i64 0, .slice none 0 0] 27)
  have k1 := FB.new (w.alloc (.cells #[.slice A n c, .int .i64 W, .int .i64 H, .int .i64 M, .slice A2 n2 c2] 27)) (.slice none 0 0) (.int .i64 0) (.int .i64 0) (.int .i64 0) (.slice none 0 0)
  simp only [World.size_alloc] at k1
  replace hE := Lib.hid hE
  clear hS h h2 hg hp ha
  go_enter Try.func38, Try.ntmps38
  go_wp2_with (first
    | (go_at_call 14; refine hcon.out.mono ?_; rintro e w2 ⟨rfl, hb2⟩; have hE2 := hE.out.below hb2 (Nat.le_refl _); simp only [World.size_alloc] at hb2; obtain ⟨⟨x0, x1, x2, x3, x4⟩, y0, y1, y2, y3, y4⟩ := (k0.below hb2 (by omega)).cells)
    | (go_at_call 66; refine (hfi.out _ hE2).mono ?_; rintro e w3 ⟨rfl, hb3⟩; have hb4 := hb2.trans (hb3.mono (by have := hb2.size; simp at this; omega)); obtain ⟨⟨z0, z1, z2, z3, z4⟩, t0, t1, t2, t3, t4⟩ := (k1.below hb4 (by omega)).cells))
  refine bodyPost_ret (v := .tuple #[.agg #[.slice none 0 0, .int .i64 0, .int .i64 0, .int .i64 0, .slice none 0 0], .int .i64 6]) (by simp [results, Try.results38, go_sem, z0, z1, z2, z3, z4, t0, t1, t2, t3, t4]) rfl ⟨rfl, ?_⟩
  repeat (refine Below.setCell ?_ (by simp <;> omega) _)
  exact hb0.trans (hb4.mono (by omega))

theorem own_at {w : World} {B n c1 : Nat} {A' : Option Addr} {xs : List Value} (h : w.ownsRow B 68 2 (.slice A' n c1) n xs) (hn : 0 < n) : ∃ q, A' = some ⟨q, 0, none⟩ ∧ B ≤ q ∧ q < w.heap.size ∧ ∃ cur : Array Value, w.heap[q]? = some (.cells cur 68 (0, 0)) := by
  rcases h.2 with ⟨h1, h2⟩ | ⟨g, cap, cur, h1, h2, h3, h4⟩
  · omega
  · injection h1 with e1 e2 e3
    exact ⟨g, e1, h2, (Array.getElem?_eq_some_iff.1 h3).1, cur, h3⟩
theorem bl_ne {w : World} {q g : Nat} {P : List Int} {cur : Array Value} (h : w.heap[q]? = some (.cells cur 68 (0, 0))) (hb : Bl w g P) : g ≠ q := by
  obtain ⟨T, hb⟩ := hb
  exact ne_of_types hb h (by decide)

/-- A frame in memory of the call's own, and no error. -/
def RetK (w : World) (W H M : Int) (P : List Int) (E : List Ent) (e : Ending) (w' : World) : Prop :=
  ∃ A' c1 g k c', e = .returned (.tuple #[.agg #[.slice A' E.length c1, .int .i64 W, .int .i64 H, .int .i64 M, .slice (some ⟨g, 0, none⟩) k c'], .int .i64 0]) ∧ w'.ownsRow w.heap.size 68 2 (.slice A' E.length c1) E.length (ecells E) ∧ w.heap.size ≤ g ∧ Bl w' g P ∧ k = P.length ∧ k ≤ c' ∧ c' ≤ 9223372036854775807 ∧ Below w.heap.size w w'

set_option maxRecDepth 100000 in
set_option maxHeartbeats 6400000 in
theorem Drop_yes (A : Option Addr) (n c : Nat) (E : List Ent) (W H M : Int) (A2 : Option Addr) (n2 c2 : Nat) (P : List Int) (k : ByteArray) (p : Nat) (w : World) (h : En w A n c E) (h2 : Sl w A2 n2 c2 P) (hg : Good W H M P E) (hp : PosOf E k p) (ha : isAt E k p = true) :
    Calls Try.prog 38 #[.agg #[.slice A n c, .int .i64 W, .int .i64 H, .int .i64 M, .slice A2 n2 c2], .string k] w (RetK w W H M P (E.eraseIdx p)) := by
  have hb0 := ((Below.refl w.heap.size w).alloc (Nat.le_refl _) (.cells #[.slice A n c, .int .i64 W, .int .i64 H, .int .i64 M, .slice A2 n2 c2] 27)).alloc (by simp) (.cells #[.slice none 0 0, .int .i64 0, .int .i64 0, .int .i64 0, .slice none 0 0] 27)
  have hE := (h.alloc (.cells #[.slice A n c, .int .i64 W, .int .i64 H, .int .i64 M, .slice A2 n2 c2] 27)).alloc (.cells #[.slice none 0 0, .int .i64 0, .int .i64 0, .int .i64 0, .slice none 0 0] 27)
  have hS := (h2.alloc (.cells #[.slice A n c, .int .i64 W, .int .i64 H, .int .i64 M, .slice A2 n2 c2] 27)).alloc (.cells #[.slice none 0 0, .int .i64 0, .int .i64 0, .int .i64 0, .slice none 0 0] 27)
  have hcon := Lib.hid (fCheck_any A n c E W H M A2 n2 c2 P _ hE hS (rasC_good hg))
  obtain rfl := h.1
  have hn : E.length ≤ 1000000 := by have := (metaC_zero hg.2).1; omega
  have hpn : p < E.length := by
    unfold isAt at ha
    exact (of_decide_eq_true ha).1
  have hfi := Lib.hid (fun W hW => ha ▸ find_any A E.length c E k p W hW hn hp)
  obtain ⟨hn2a, hn2b⟩ : 0 < n2 ∧ n2 ≤ 1000000 := by
    obtain ⟨⟨hW, hH, hM⟩, hPl, -⟩ := hg.1
    have := area hW.1 hW.2 hH.1 hH.2
    have := h2.len
    omega
  have hco := Lib.hid (fun V hV hV2 => copiedF_any A E.length c E W H M A2 n2 c2 P V hV hV2 hn hn2a hn2b)
  have k0 := (FB.new w (.slice A E.length c) (.int .i64 W) (.int .i64 H) (.int .i64 M) (.slice A2 n2 c2)).alloc (.cells #[.slice none 0 0, .int .i64 0, .int .i64 0, .int .i64 0, .slice none 0 0] 27)
  have k1 := FB.new (w.alloc (.cells #[.slice A E.length c, .int .i64 W, .int .i64 H, .int .i64 M, .slice A2 n2 c2] 27)) (.slice none 0 0) (.int .i64 0) (.int .i64 0) (.int .i64 0) (.slice none 0 0)
  simp only [World.size_alloc] at k1
  have hel : Hid ((E.eraseIdx p).length = E.length - 1) := Lib.hid (List.length_eraseIdx_of_lt hpn)
  replace hE := Lib.hid hE
  replace hS := Lib.hid hS
  clear h h2 hg hp ha
  go_enter Try.func38, Try.ntmps38
  go_wp2_with (first
    | (go_at_call 14; refine hcon.out.mono ?_; rintro e w2 ⟨rfl, hb2⟩; have hE2 := hE.out.below hb2 (Nat.le_refl _); simp only [World.size_alloc] at hb2; obtain ⟨⟨x0, x1, x2, x3, x4⟩, y0, y1, y2, y3, y4⟩ := (k0.below hb2 (by omega)).cells)
    | (go_at_call 66; refine (hfi.out _ hE2).mono ?_; rintro e w3 ⟨rfl, hb3⟩; have hb4 := hb2.trans (hb3.mono (by have := hb2.size; simp at this; omega)); have hE3 := hE.out.below hb4 (by simp); have hS3 := hS.out.below hb4 (by simp); have hs3 := hb4.size; simp only [World.size_alloc] at hs3; obtain ⟨⟨z0, z1, z2, z3, z4⟩, t0, t1, t2, t3, t4⟩ := (k0.below hb4 (by omega)).cells)
    | (go_at_call 69; refine (hco.out _ hE3 hS3).mono ?_; rintro e w4 ⟨A', c1, g, kk, c', rfl, ho, hgw, hbl, hkk, hkc, hcm, hb5⟩; subst hkk; have hb6 := hb4.trans (hb5.mono (by omega)); have hs4 := hb5.size; have k14 := (k1.below hb6 (by omega)).alloc (.cells #[.slice A' E.length c1, .int .i64 W, .int .i64 H, .int .i64 M, .slice (some ⟨g, 0, none⟩) P.length c'] 27); obtain ⟨q, rfl, hq, hqs, cur, hcur⟩ := own_at ho (by omega); have hgq := bl_ne hcur hbl)
    | (go_at_call 70; refine (DeleteE_any w3.heap.size q E.length c1 p E _ (World.ownsRow.alloc ho _) rfl hpn hn).mono ?_; rintro e w6 ⟨rfl, ho6, hk6⟩; have f6 := (FB.new w4 (.slice (some ⟨q, 0, none⟩) E.length c1) (.int .i64 W) (.int .i64 H) (.int .i64 M) (.slice (some ⟨g, 0, none⟩) P.length c')).keep (w' := w6) (hk6.block _ (by simp) (by intro e; injection e; omega)); have k16 := k14.keep (w' := w6) (hk6.block _ (by simp; omega) (by intro e; injection e; omega)); obtain ⟨⟨u0, u1, u2, u3, u4⟩, v0, v1, v2, v3, v4⟩ := f6.cells; obtain ⟨⟨r0, r1, r2, r3, r4⟩, s0, s1, s2, s3, s4⟩ := k16.cells))
  have hs6 := hk6.size
  simp only [World.size_alloc] at hs6
  have hgl := hbl.lt
  have hd : w4.heap.size ≠ w.heap.size + 1 := by omega
  have hd2 : w.heap.size + 1 ≠ w4.heap.size := by omega
  refine bodyPost_ret (v := .tuple #[.agg #[.slice (some ⟨q, 0, none⟩) (E.length - 1) c1, .int .i64 W, .int .i64 H, .int .i64 M, .slice (some ⟨g, 0, none⟩) P.length c'], .int .i64 0]) (by simp [results, Try.results38, go_sem, r0, r1, r2, r3, r4, s0, s1, s2, s3, s4, u0, u1, u2, u3, u4, v0, v1, v2, v3, v4, hd, hd2]) rfl ?_
  refine ⟨some ⟨q, 0, none⟩, c1, g, P.length, c', by rw [hel.out], ?_, by omega, ?_, rfl, hkc, hcm, ?_⟩
  · rw [hel.out]
    repeat (refine own_far ?_ (fun q' hq' => by injection hq' with hq'; subst hq'; simp; omega) _)
    exact own_mono ho6 (by omega)
  · repeat (refine Bl.far ?_ (by simp <;> omega) _)
    exact (hbl.alloc _).only hk6 (by exact hgq)
  · repeat (refine Below.setCell ?_ (by simp <;> omega) _)
    refine (hb0.trans (hb6.mono (by omega))).trans ?_
    exact ((Below.refl w4.heap.size w4).alloc (Nat.le_refl _) _).mono (by omega) |>.trans (hk6.below (by omega) (by simp; omega))

end Go.Proofs.Ytfkoboljobghkaa
