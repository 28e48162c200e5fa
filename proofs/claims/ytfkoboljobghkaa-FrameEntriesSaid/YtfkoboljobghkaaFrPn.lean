/-
  Walks: Put of package frame, where it puts. (Written by tools/mk_frpn.py.)
-/
import Derived.Test.YtfkoboljobghkaaFrPt
import Derived.Test.YtfkoboljobghkaaFrIa
set_option linter.unusedSimpArgs false
set_option linter.unusedVariables false
namespace Go.Proofs.Ytfkoboljobghkaa
open Go.RowKit Go.Shelf

theorem own_some {w : World} {B n c1 : Nat} {A' : Option Addr} {a : Addr} {xs : List Value} (h : w.ownsRow B 68 2 (.slice A' n c1) n xs) (ha : A' = some a) : ∃ q, a = ⟨q, 0, none⟩ := by
  subst ha
  rcases h.2 with ⟨h1, h2⟩ | ⟨g, cap, cur, h1, h2⟩
  · cases h1
  · injection h1 with e1 e2 e3
    injection e1 with e1
    exact ⟨g, e1⟩
theorem own_parts' {w : World} {B q n cap m : Nat} {E : List Ent} (ho : w.ownsRow B 68 2 (.slice (some ⟨q, 0, none⟩) n cap) n (ecells E)) (hm : E.length = m) : ∃ cur : Array Value, B ≤ q ∧ w.heap[q]? = some (.cells cur 68 (0, 0)) ∧ n ≤ cap ∧ cap ≤ 9223372036854775807 := by
  obtain ⟨cur, h1, h2, h3, h4, -⟩ := own_parts ho
  exact ⟨cur, h1, h2, h3, by simpa [maxLen] using h4⟩
theorem cell_own {w : World} {B q n cap : Nat} {E : List Ent} (ho : w.ownsRow B 68 2 (.slice (some ⟨q, 0, none⟩) n cap) n (ecells E)) (j : Nat) (hj : j < n * 2) : ∃ x, w.cell? ⟨q, j, none⟩ = some x := by
  rw [World.ownsRow.cellAt ho j hj, List.getElem?_eq_getElem (by have := ho.1; omega)]
  exact ⟨_, rfl⟩

set_option maxRecDepth 100000 in
set_option maxHeartbeats 6400000 in
theorem Put_new (A : Option Addr) (n c : Nat) (E : List Ent) (W H M : Int) (A2 : Option Addr) (n2 c2 : Nat) (P : List Int) (k u : ByteArray) (w : World) (h : En w A n c E) (h2 : Sl w A2 n2 c2 P) (hg : Good W H M P E) (hk : k.size ≤ 1000000000) (hu : u.size ≤ 1000000000) (hq : keyB k = true) (hr : valC u = 0) {p : Nat} (hp : PosOf E k p) (ha : isAt E k p = false) (hl : n ≠ 32) :
    Calls Try.prog 37 #[.agg #[.slice A n c, .int .i64 W, .int .i64 H, .int .i64 M, .slice A2 n2 c2], .string k, .string u] w (RetK w W H M P (put E p (k, u))) := by
  have hb0 := ((Below.refl w.heap.size w).alloc (Nat.le_refl _) (.cells #[.slice A n c, .int .i64 W, .int .i64 H, .int .i64 M, .slice A2 n2 c2] 27)).alloc (by simp) (.cells #[.slice none 0 0, .int .i64 0, .int .i64 0, .int .i64 0, .slice none 0 0] 27)
  have hE := (h.alloc (.cells #[.slice A n c, .int .i64 W, .int .i64 H, .int .i64 M, .slice A2 n2 c2] 27)).alloc (.cells #[.slice none 0 0, .int .i64 0, .int .i64 0, .int .i64 0, .slice none 0 0] 27)
  have hS := (h2.alloc (.cells #[.slice A n c, .int .i64 W, .int .i64 H, .int .i64 M, .slice A2 n2 c2] 27)).alloc (.cells #[.slice none 0 0, .int .i64 0, .int .i64 0, .int .i64 0, .slice none 0 0] 27)
  have hcon := Lib.hid (fCheck_any A n c E W H M A2 n2 c2 P _ hE hS (rasC_good hg))
  have k0 := (FB.new w (.slice A n c) (.int .i64 W) (.int .i64 H) (.int .i64 M) (.slice A2 n2 c2)).alloc (.cells #[.slice none 0 0, .int .i64 0, .int .i64 0, .int .i64 0, .slice none 0 0] 27)
  have k1 := FB.new (w.alloc (.cells #[.slice A n c, .int .i64 W, .int .i64 H, .int .i64 M, .slice A2 n2 c2] 27)) (.slice none 0 0) (.int .i64 0) (.int .i64 0) (.int .i64 0) (.slice none 0 0)
  simp only [World.size_alloc] at k1
  obtain rfl := h.1
  have hn : E.length ≤ 1000000 := by have := (metaC_zero hg.2).1; omega
  have hpn : Hid (p ≤ E.length) := Lib.hid hp.1
  have hik := Lib.hid (fun V => isKey_at hq V hk)
  have hcv := Lib.hid (fun V => checkValue_at hr V hu)
  have hfi := Lib.hid (fun V hV => ha ▸ find_any A E.length c E k p V hV hn hp)
  obtain ⟨hn2a, hn2b⟩ : 0 < n2 ∧ n2 ≤ 1000000 := by
    obtain ⟨⟨hW, hH, hM⟩, hPl, -⟩ := hg.1
    have := area hW.1 hW.2 hH.1 hH.2
    have := h2.len
    omega
  have hco := Lib.hid (fun V hV hV2 => copiedF_any A E.length c E W H M A2 n2 c2 P V hV hV2 hn hn2a hn2b)
  have hpl : Hid ((put E p (k, ⟨#[]⟩)).length = E.length + 1) := Lib.hid (put_length hpn.out)
  have hl2 : ((E.length : Int) == 32) = false := by rw [beq_eq_false_iff_ne]; omega
  have hpi : (p : Int) ≤ (E.length : Int) := by have := hpn.out; omega
  have hpi2 : p < E.length + 1 := by omega
  have hpi3 : (p : Int) < (E.length : Int) + 1 := by omega
  replace hr := Lib.hid hr
  replace hq := Lib.hid hq
  replace hg := Lib.hid hg
  replace hE := Lib.hid hE
  replace hS := Lib.hid hS
  clear h h2 hp ha
  go_enter Try.func37, Try.ntmps37
  go_wp2_with (first
    | (go_at_call 14; refine hcon.out.mono ?_; rintro e w2 ⟨rfl, hb2⟩; have hE2 := hE.out.below hb2 (Nat.le_refl _); have hS2 := hS.out.below hb2 (Nat.le_refl _); simp only [World.size_alloc] at hb2; have hs2 := hb2.size; simp only [World.size_alloc] at hs2; obtain ⟨⟨x0, x1, x2, x3, x4⟩, y0, y1, y2, y3, y4⟩ := (k0.below hb2 (by omega)).cells; obtain ⟨⟨z0, z1, z2, z3, z4⟩, t0, t1, t2, t3, t4⟩ := (k1.below hb2 (by omega)).cells)
    | (go_at_call 67; refine (hik.out _).mono ?_; rintro e w3 ⟨rfl, hb3'⟩; have hb3 := hb2.trans (hb3'.mono (by omega)); have hs3 := hb3'.size; have hE3 := hE.out.below hb3 (by simp); have hS3 := hS.out.below hb3 (by simp); obtain ⟨⟨x0, x1, x2, x3, x4⟩, y0, y1, y2, y3, y4⟩ := (k0.below hb3 (by omega)).cells; obtain ⟨⟨z0, z1, z2, z3, z4⟩, t0, t1, t2, t3, t4⟩ := (k1.below hb3 (by omega)).cells)
    | (go_at_call 68; refine (hcv.out _).mono ?_; rintro e w4 ⟨rfl, hb4'⟩; have hb4 := hb3.trans (hb4'.mono (by omega)); have hs4 := hb4'.size; have hE4 := hE.out.below hb4 (by simp); have hS4 := hS.out.below hb4 (by simp); obtain ⟨⟨x0, x1, x2, x3, x4⟩, y0, y1, y2, y3, y4⟩ := (k0.below hb4 (by omega)).cells; obtain ⟨⟨z0, z1, z2, z3, z4⟩, t0, t1, t2, t3, t4⟩ := (k1.below hb4 (by omega)).cells)
    | (go_at_call 66; refine (hfi.out _ hE4).mono ?_; rintro e w5 ⟨rfl, hb5'⟩; have hb5 := hb4.trans (hb5'.mono (by omega)); have hs5 := hb5'.size; have hE5 := hE.out.below hb5 (by simp); have hS5 := hS.out.below hb5 (by simp); obtain ⟨⟨x0, x1, x2, x3, x4⟩, y0, y1, y2, y3, y4⟩ := (k0.below hb5 (by omega)).cells; obtain ⟨⟨z0, z1, z2, z3, z4⟩, t0, t1, t2, t3, t4⟩ := (k1.below hb5 (by omega)).cells)
    | (go_at_call 69; refine (hco.out _ hE5 hS5).mono ?_; rintro e w6 ⟨A', c1, g, kk, c', rfl, ho, hgw, hbl, hkk, hkc, hcm, hb6'⟩; subst hkk; have hb6 := hb5.trans (hb6'.mono (by omega)); have hs6 := hb6'.size; have k16 := (k1.below hb6 (by omega)).alloc (.cells #[.slice A' E.length c1, .int .i64 W, .int .i64 H, .int .i64 M, .slice (some ⟨g, 0, none⟩) P.length c'] 27))
    | (go_at_call 46; refine (InsertE_any w5.heap.size E.length c1 p A' E k ⟨#[]⟩ (w6.heap.size + 1) _ (World.ownsRow.alloc (World.ownsRow.alloc ho (.cells #[.slice A' E.length c1, .int .i64 W, .int .i64 H, .int .i64 M, .slice (some ⟨g, 0, none⟩) P.length c'] 27)) (.cells #[.string k, .string ⟨#[]⟩] 68)) rfl hn hpn.out (by simp; omega) (fun q e => by have := (World.ownsRow.lt ho q (by rw [e]; rfl)).2; omega) (by have h9 := heap_alloc_new (w6.alloc (.cells #[.slice A' E.length c1, .int .i64 W, .int .i64 H, .int .i64 M, .slice (some ⟨g, 0, none⟩) P.length c'] 27)) (.cells #[.string k, .string ⟨#[]⟩] 68); rw [World.size_alloc] at h9; exact h9)).mono ?_; rintro e w7 ⟨q', c2, rfl, ho7, hk7⟩; have hkb : ∀ b, b < w6.heap.size + 2 → (∀ q, A' = some ⟨q, 0, none⟩ → b ≠ q) → w7.heap[b]? = ((w6.alloc (.cells #[.slice A' E.length c1, .int .i64 W, .int .i64 H, .int .i64 M, .slice (some ⟨g, 0, none⟩) P.length c'] 27)).alloc (.cells #[.string k, .string ⟨#[]⟩] 68)).heap[b]? := (fun b hb hne => hk7.block b (by simp; omega) (by cases hA : A' with | none => simp [Value.ownBlock] | some a => obtain ⟨q, hq⟩ := (own_some ho hA); subst hq; intro e; simp [Value.ownBlock] at e; exact hne q hA (by omega))); have hql := (fun q (e : A' = some ⟨q, 0, none⟩) => (World.ownsRow.lt ho q (by rw [e]; rfl))); have f7 := ((FB.new w6 (.slice A' E.length c1) (.int .i64 W) (.int .i64 H) (.int .i64 M) (.slice (some ⟨g, 0, none⟩) P.length c')).alloc (.cells #[.string k, .string ⟨#[]⟩] 68)).keep (w' := w7) (hkb _ (by omega) (fun q e => by have := (hql q e).2; omega)); have k17 := (k16.alloc (.cells #[.string k, .string ⟨#[]⟩] 68)).keep (w' := w7) (hkb _ (by omega) (fun q e => by have := (hql q e).1; omega)); have hs7 := hk7.size; simp only [World.size_alloc] at hs7; obtain ⟨⟨u0, u1, u2, u3, u4⟩, v0, v1, v2, v3, v4⟩ := f7.cells; obtain ⟨⟨r0, r1, r2, r3, r4⟩, s0, s1, s2, s3, s4⟩ := k17.cells; obtain ⟨cur7, hq7, hh7, -⟩ := own_parts' ho7 hpl.out; have n1 : q' ≠ w6.heap.size := ne_of_types hh7 f7 (by decide); have n2' : q' ≠ w.heap.size + 1 := ne_of_types hh7 k17 (by decide); have n1r := n1.symm; have n2r := n2'.symm; obtain ⟨cx, ce⟩ := cell_own ho7 (p * 2 + 1) (by omega); have hgq := (fun q (e : A' = some ⟨q, 0, none⟩) => (by subst e; obtain ⟨cur, _, hh, _⟩ := own_parts ho; exact bl_ne hh hbl : g ≠ q)); have b7 := ((hbl.alloc (.cells #[.slice A' E.length c1, .int .i64 W, .int .i64 H, .int .i64 M, .slice (some ⟨g, 0, none⟩) P.length c'] 27)).alloc (.cells #[.string k, .string ⟨#[]⟩] 68)).keep (w' := w7) (hkb g (by have := hbl.lt; omega) hgq); have n3 := bl_ne hh7 b7; have fe := World.ownsRow.frozenAt ho7 (p * 2 + 1)))
  have hd : w6.heap.size ≠ w.heap.size + 1 := by omega
  have hd2 : w.heap.size + 1 ≠ w6.heap.size := by omega
  have hgl := hbl.lt
  have hB7 : Below w.heap.size w w7 := (((hb0.trans (hb6.mono (by omega))).alloc (by omega) (.cells #[.slice A' E.length c1, .int .i64 W, .int .i64 H, .int .i64 M, .slice (some ⟨g, 0, none⟩) P.length c'] 27)).alloc (by simp; omega) (.cells #[.string k, .string ⟨#[]⟩] 68)).grown hk7 (by simp; omega) (fun b hb => by have := (World.ownsRow.lt ho b hb).1; omega)
  refine bodyPost_ret (v := .tuple #[.agg #[.slice (some ⟨q', 0, none⟩) (E.length + 1) c2, .int .i64 W, .int .i64 H, .int .i64 M, .slice (some ⟨g, 0, none⟩) P.length c'], .int .i64 0]) (by simp [results, Try.results37, go_sem, r0, r1, r2, r3, r4, s0, s1, s2, s3, s4, u0, u1, u2, u3, u4, v0, v1, v2, v3, v4, hd, hd2, n1, n1r, n2', n2r, ce, fe]) rfl ?_
  have st := (World.ownsRow.stored (own_far ho7 (p := ⟨w6.heap.size, 0, none⟩) (fun x hx => by injection hx with hx; subst hx; exact n1) (.slice (some ⟨q', 0, none⟩) (E.length + 1) c2)) (p * 2 + 1) (.string u)).1
  rw [ecells_set u (by rw [hpl.out]; omega), put_set hpn.out] at st
  refine ⟨some ⟨q', 0, none⟩, c2, g, P.length, c', by rw [put_length hpn.out], ?_, by omega, ?_, rfl, hkc, hcm, ?_⟩
  · rw [put_length hpn.out]
    repeat (refine own_far ?_ (fun x hx => by injection hx with hx; subst hx; exact n2') _)
    exact own_mono st (by omega)
  · repeat (refine Bl.far ?_ (by first | exact n3 | (simp <;> omega)) _)
    exact b7
  · repeat (refine Below.setCell ?_ (by simp <;> omega) _)
    exact hB7

end Go.Proofs.Ytfkoboljobghkaa
