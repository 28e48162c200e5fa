/-
  Walks: the law FrameEntries where the key is there and Put refuses. (Written by tools/mk_frxw.py.)
-/
import Derived.Test.YtfkoboljobghkaaFrXa
import Derived.Test.YtfkoboljobghkaaFrKe
import Derived.Test.YtfkoboljobghkaaFrVa
import Derived.Deep.Cut
set_option linter.unusedSimpArgs false
set_option linter.unusedVariables false
namespace Go.Proofs.Ytfkoboljobghkaa
open Go.RowKit Go.Shelf

theorem sameF_me (W H M : Int) (P : List Int) (E : List Ent) : sameF W H M P E W H M P E = true := by simp [sameF, eqr]

set_option maxRecDepth 100000 in
set_option maxHeartbeats 6400000 in
theorem lawE_name_yes (A : Option Addr) (n c : Nat) (E : List Ent) (W H M : Int) (A2 : Option Addr) (n2 c2 : Nat) (P : List Int) (k u : ByteArray) (w : World) (h : En w A n c E) (h2 : Sl w A2 n2 c2 P) (hf : fewB n2 E = true) (hks : k.size ≤ 140) (hus : u.size ≤ 140) (hg : Good W H M P E) {p : Nat} (hp : PosOf E k p) (ha : isAt E k p = true) (hq : keyB k = false) :
    Calls Try.prog 10 #[.agg #[.slice A n c, .int .i64 W, .int .i64 H, .int .i64 M, .slice A2 n2 c2], .string k, .string u] w fun e w' => e = .returned (.bool true) ∧ Below w.heap.size w w' := by
  have hpn : p < E.length := by
    unfold isAt at ha
    exact (of_decide_eq_true ha).1
  obtain ⟨gb, go, rfl, -, -⟩ := h.at_ (by have := h.1; omega)
  obtain rfl := h.1
  have hcap := h.2.1
  have hcl9 := h.2.2.1
  have hc2 : n2 ≤ 9223372036854775807 := by have := h2.le_cap; have := h2.cap_le; omega
  have hks2 : k.size ≤ 1000000000 := by omega
  have hus2 : u.size ≤ 1000000000 := by omega
  have hksi : (k.size : Int) ≤ 140 := by omega
  have husi : (u.size : Int) ≤ 140 := by omega
  have hsz := Lib.hid h.sizes
  have hb0 : Below w.heap.size w ((w.alloc (.cells #[.slice (some ⟨gb, go, none⟩) E.length c, .int .i64 W, .int .i64 H, .int .i64 M, .slice A2 n2 c2] 27)).alloc (.cells #[.string k] 9)) := ((Below.refl w.heap.size w).alloc (Nat.le_refl _) (.cells #[.slice (some ⟨gb, go, none⟩) E.length c, .int .i64 W, .int .i64 H, .int .i64 M, .slice A2 n2 c2] 27)).alloc (by simp) (.cells #[.string k] 9)
  have hE0 := (h.alloc (.cells #[.slice (some ⟨gb, go, none⟩) E.length c, .int .i64 W, .int .i64 H, .int .i64 M, .slice A2 n2 c2] 27)).alloc (.cells #[.string k] 9)
  have hS0 := (h2.alloc (.cells #[.slice (some ⟨gb, go, none⟩) E.length c, .int .i64 W, .int .i64 H, .int .i64 M, .slice A2 n2 c2] 27)).alloc (.cells #[.string k] 9)
  have f0 := (FB.new w (.slice (some ⟨gb, go, none⟩) E.length c) (.int .i64 W) (.int .i64 H) (.int .i64 M) (.slice A2 n2 c2)).alloc (.cells #[.string k] 9)
  have hK0 := KB.new (w.alloc (.cells #[.slice (some ⟨gb, go, none⟩) E.length c, .int .i64 W, .int .i64 H, .int .i64 M, .slice A2 n2 c2] 27)) k
  simp only [World.size_alloc] at hK0
  have hval : ∀ v, En v (some ⟨gb, go, none⟩) E.length c E → v.cell? ⟨gb, go + p * 2 + 1, none⟩ = some (.string (valAt E p)) := by
    intro v hv
    obtain ⟨b, off, e, -, hc⟩ := hv.at_ (by omega)
    cases e
    exact (hc p hpn).2
  have hcel : Hid (∀ v, Below ((w.alloc (.cells #[.slice (some ⟨gb, go, none⟩) E.length c, .int .i64 W, .int .i64 H, .int .i64 M, .slice A2 n2 c2] 27)).alloc (.cells #[.string k] 9)).heap.size ((w.alloc (.cells #[.slice (some ⟨gb, go, none⟩) E.length c, .int .i64 W, .int .i64 H, .int .i64 M, .slice A2 n2 c2] 27)).alloc (.cells #[.string k] 9)) v → (v.cell? ⟨w.heap.size, 0, none⟩ = some (.slice (some ⟨gb, go, none⟩) E.length c) ∧ v.cell? ⟨w.heap.size, 1, none⟩ = some (.int .i64 W) ∧ v.cell? ⟨w.heap.size, 2, none⟩ = some (.int .i64 H) ∧ v.cell? ⟨w.heap.size, 3, none⟩ = some (.int .i64 M) ∧ v.cell? ⟨w.heap.size, 4, none⟩ = some (.slice A2 n2 c2)) ∧ (v.cell? ⟨w.heap.size + 1, 0, none⟩ = some (.string k) ∧ v.cell? ⟨gb, go + p * 2 + 1, none⟩ = some (.string (valAt E p))) ∧ En v (some ⟨gb, go, none⟩) E.length c E ∧ Sl v A2 n2 c2 P ∧ KB v (w.heap.size + 1) k) := by
    intro v hv
    have f1 := f0.below hv (by simp; omega)
    have k1 := hK0.below hv (by simp)
    exact ⟨f1.cells.1, ⟨k1.cell, hval v (hE0.below hv (Nat.le_refl _))⟩, hE0.below hv (Nat.le_refl _), hS0.below hv (Nat.le_refl _), k1⟩
  have hfw := fun v (hv : En v (some ⟨gb, go, none⟩) E.length c E) => few_any (some ⟨gb, go, none⟩) E.length c E W H M A2 n2 c2 v hv hc2
  rw [hf] at hfw
  replace hfw := Lib.hid hfw
  have hn : E.length ≤ 1000000 := by unfold fewB at hf; simp at hf; omega
  have hs0 := Lib.hid (fun v => same_zero v)
  have hget := Lib.hid (fun v hv hv2 => Get_yes (some ⟨gb, go, none⟩) E.length c E W H M A2 n2 c2 P k p v hv hv2 hg hp ha)
  have hput := Lib.hid (fun v hv hv2 => Put_name (some ⟨gb, go, none⟩) E.length c E W H M A2 n2 c2 P k u v hv hv2 hg hks2 hus2 hq)
  have hdrop := Lib.hid (fun v hv hv2 => Drop_yes (some ⟨gb, go, none⟩) E.length c E W H M A2 n2 c2 P k p v hv hv2 hg hp ha)
  have hck := Lib.hid (fun v hv hv2 => lcheck_any (some ⟨gb, go, none⟩) E.length c E W H M A2 n2 c2 P v hv hv2 (r := 0) (.inr ⟨hg.1, hg.2.symm⟩))
  have hixr := Lib.hid (ix_yes hg.2 hp ha)
  have hix := Lib.hid (fun v hv hK => IndexE_any 40 (w.heap.size + 1) k enters_key1 (key1_pred _ _) (some ⟨gb, go, none⟩) E.length c E _ v hv hK hixr.out)
  have hcl := Lib.hid (fun v hv => CloneE_any (some ⟨gb, go, none⟩) E.length c E v hv hn)
  have hky := Lib.hid (fun v => hq ▸ keyed_any k v hks2)
  have hpni : (p : Int) < (E.length : Int) := by omega
  obtain ⟨vv, hvv⟩ : ∃ vv, valAt E p = vv := ⟨_, rfl⟩
  rw [hvv] at hget hcel
  obtain ⟨pq, hpq⟩ : ∃ q, p * 2 = q := ⟨_, rfl⟩
  rw [hpq] at hcel
  replace hvv := Lib.hid hvv
  clear hval
  have hke : keyAt E p = k := (at_yes hg.2 hp ha).2.1
  have hun : Hid (∀ j, j < E.length → j ≠ p → keyAt E j ≠ k) := Lib.hid (at_yes hg.2 hp ha).2.2
  have hld : (E.eraseIdx p).length = E.length - 1 := List.length_eraseIdx_of_lt hpn
  obtain ⟨RD, hRD⟩ : ∃ R, E.eraseIdx p = R := ⟨_, rfl⟩
  obtain ⟨LD, hLD⟩ : ∃ R, RD.length = R := ⟨_, rfl⟩
  have hszr : ∀ e ∈ RD, e.1.size ≤ 1000000000 ∧ e.2.size ≤ 1000000000 := fun e he => hsz.out e (List.mem_of_mem_eraseIdx (hRD ▸ he))
  have hde : Hid (∀ v B Aq cq, v.ownsRow B 68 2 (.slice Aq LD cq) LD (ecells RD) → En v Aq LD cq RD) := Lib.hid (fun v B Aq cq ho => by rw [← hLD] at ho ⊢; exact En.of_own ho rfl hszr)
  have hre : Hid (∀ v B Aq cq, v.ownsRow B 68 2 (.slice Aq (E.length - 1) cq) (E.length - 1) (ecells (E.eraseIdx p)) → En v Aq (E.length - 1) cq RD) := Lib.hid (fun v B Aq cq ho => by rw [hRD] at ho hld; rw [← hld] at ho ⊢; exact En.of_own ho rfl hszr)
  have hsd : Hid (∀ v A1 c1 B1 q1 A3 c3, En v A1 LD c1 RD → Sl v (some ⟨B1, 0, none⟩) P.length q1 P → En v A3 (E.length - 1) c3 RD → Sl v A2 n2 c2 P → Calls Try.prog 35 #[.agg #[.slice A1 LD c1, .int .i64 W, .int .i64 H, .int .i64 M, .slice (some ⟨B1, 0, none⟩) P.length q1], .agg #[.slice A3 (E.length - 1) c3, .int .i64 W, .int .i64 H, .int .i64 M, .slice A2 n2 c2]] v fun e w' => e = .returned (.bool true) ∧ Below v.heap.size v w') := Lib.hid (fun v A1 c1 B1 q1 A3 c3 h1 h2 h3 h4 => by
    have := same_any A1 LD c1 RD W H M (some ⟨B1, 0, none⟩) P.length q1 P A3 (E.length - 1) c3 RD W H M A2 n2 c2 P v h1 h2 h3 h4
    rw [sameF_me] at this
    exact this)
  rw [hRD] at hdrop
  unfold RetK at hdrop
  rw [hLD] at hdrop
  have hpl : p ≤ E.length := hp.1
  have hpli : ¬ (p : Int) < 0 := by omega
  clear h h2 hE0 hS0 f0 hK0 hf
  replace hp := Lib.hid hp
  replace hg := Lib.hid hg
  replace ha := Lib.hid ha
  have tok1 : True := trivial
  have tok2 : True := trivial
  go_enter Try.func10, Try.ntmps10
  go_wp2_with (first
    | (go_at_call 12; refine (known_any _).mono ?_; rintro e w1 ⟨rfl, hb1'⟩; have hB1 := hb1'; obtain ⟨⟨x0, x1, x2, x3, x4⟩, ⟨xk, xv⟩, hE, hS, hK⟩ := hcel.out _ hB1)
    | (go_at_call 13; refine (hfw.out _ hE).mono ?_; rintro e w2 ⟨rfl, hb2'⟩; have hB2 := hB1.trans (hb2'.mono hB1.size); clear x0 x1 x2 x3 x4 xk hE hS hK xv; obtain ⟨⟨x0, x1, x2, x3, x4⟩, ⟨xk, xv⟩, hE, hS, hK⟩ := hcel.out _ hB2)
    | (go_at_call 36; refine (hget.out _ hE hS).mono ?_; rintro e w3 ⟨rfl, hb3'⟩; have hB3 := hB2.trans (hb3'.mono hB2.size); clear x0 x1 x2 x3 x4 xk hE hS hK xv; obtain ⟨⟨x0, x1, x2, x3, x4⟩, ⟨xk, xv⟩, hE, hS, hK⟩ := hcel.out _ hB3)
    | (go_at_call 37; refine (hput.out _ hE hS).mono ?_; rintro e w4 ⟨rfl, hb4'⟩; have hB4 := hB3.trans (hb4'.mono hB3.size); replace hB4 := hB4.alloc hB4.size (.cells #[.slice none 0 0, .int .i64 0, .int .i64 0, .int .i64 0, .slice none 0 0] 27); clear x0 x1 x2 x3 x4 xk hE hS hK xv; obtain ⟨⟨x0, x1, x2, x3, x4⟩, ⟨xk, xv⟩, hE, hS, hK⟩ := hcel.out _ hB4; have hfp : Hid (∀ v, Below (w4.alloc (.cells #[.slice none 0 0, .int .i64 0, .int .i64 0, .int .i64 0, .slice none 0 0] 27)).heap.size (w4.alloc (.cells #[.slice none 0 0, .int .i64 0, .int .i64 0, .int .i64 0, .slice none 0 0] 27)) v → (v.cell? ⟨w4.heap.size, 0, none⟩ = some (.slice none 0 0) ∧ v.cell? ⟨w4.heap.size, 1, none⟩ = some (.int .i64 0) ∧ v.cell? ⟨w4.heap.size, 2, none⟩ = some (.int .i64 0) ∧ v.cell? ⟨w4.heap.size, 3, none⟩ = some (.int .i64 0) ∧ v.cell? ⟨w4.heap.size, 4, none⟩ = some (.slice none 0 0))) := (fun v hv => ((FB.new w4 (.slice none 0 0) (.int .i64 0) (.int .i64 0) (.int .i64 0) (.slice none 0 0)).below hv (by simp)).cells.1); obtain ⟨p0, p1, p2, p3, p4⟩ := hfp.out _ (Below.refl _ _))
    | (go_at_call 38; refine (hdrop.out _ hE hS).mono ?_; rintro e w5 ⟨Ad, cd, gd, kk, md, rfl, ho, hgw, hbl, hkk, hkc, hcm, hb5'⟩; subst hkk; have hB5 := hB4.trans (hb5'.mono hB4.size); have hp5 := hb5'; replace hB5 := hB5.alloc hB5.size (.cells #[.slice Ad LD cd, .int .i64 W, .int .i64 H, .int .i64 M, .slice (some ⟨gd, 0, none⟩) P.length md] 27); replace hp5 := hp5.alloc hp5.size (.cells #[.slice Ad LD cd, .int .i64 W, .int .i64 H, .int .i64 M, .slice (some ⟨gd, 0, none⟩) P.length md] 27); clear x0 x1 x2 x3 x4 xk hE hS hK xv; obtain ⟨⟨x0, x1, x2, x3, x4⟩, ⟨xk, xv⟩, hE, hS, hK⟩ := hcel.out _ hB5; clear p0 p1 p2 p3 p4; obtain ⟨p0, p1, p2, p3, p4⟩ := hfp.out _ hp5; have hfd : Hid (∀ v, Below (w5.alloc (.cells #[.slice Ad LD cd, .int .i64 W, .int .i64 H, .int .i64 M, .slice (some ⟨gd, 0, none⟩) P.length md] 27)).heap.size (w5.alloc (.cells #[.slice Ad LD cd, .int .i64 W, .int .i64 H, .int .i64 M, .slice (some ⟨gd, 0, none⟩) P.length md] 27)) v → (v.cell? ⟨w5.heap.size, 0, none⟩ = some (.slice Ad LD cd) ∧ v.cell? ⟨w5.heap.size, 1, none⟩ = some (.int .i64 W) ∧ v.cell? ⟨w5.heap.size, 2, none⟩ = some (.int .i64 H) ∧ v.cell? ⟨w5.heap.size, 3, none⟩ = some (.int .i64 M) ∧ v.cell? ⟨w5.heap.size, 4, none⟩ = some (.slice (some ⟨gd, 0, none⟩) P.length md)) ∧ En v Ad LD cd RD ∧ Sl v (some ⟨gd, 0, none⟩) P.length md P) := (fun v hv => ⟨((FB.new w5 (.slice Ad LD cd) (.int .i64 W) (.int .i64 H) (.int .i64 M) (.slice (some ⟨gd, 0, none⟩) P.length md)).below hv (by simp)).cells.1, (hde.out _ _ _ _ (ho)) |>.alloc _ |>.below hv (Nat.le_refl _), ((hbl.sl0 (n := P.length) (c := md) rfl hkc hcm).alloc _).below hv (Nat.le_refl _)⟩); obtain ⟨⟨d0, d1, d2, d3, d4⟩, dE, dS⟩ := hfd.out _ (Below.refl _ _))
    | (go_at_call 15; refine (hck.out _ hE hS).mono ?_; rintro e w6 ⟨rfl, hb6'⟩; have hB6 := hB5.trans (hb6'.mono hB5.size); have hp6 := hp5.trans (hb6'.mono hp5.size); have hd6 := hb6'; clear x0 x1 x2 x3 x4 xk hE hS hK xv; obtain ⟨⟨x0, x1, x2, x3, x4⟩, ⟨xk, xv⟩, hE, hS, hK⟩ := hcel.out _ hB6; clear p0 p1 p2 p3 p4; obtain ⟨p0, p1, p2, p3, p4⟩ := hfp.out _ hp6; clear d0 d1 d2 d3 d4 dE dS; obtain ⟨⟨d0, d1, d2, d3, d4⟩, dE, dS⟩ := hfd.out _ hd6)
    | (go_at_call 39; refine (hix.out _ hE hK).mono ?_; rintro e w7 ⟨rfl, hb7'⟩; have hB7 := hB6.trans (hb7'.mono hB6.size); have hp7 := hp6.trans (hb7'.mono hp6.size); have hd7 := hd6.trans (hb7'.mono hd6.size); clear x0 x1 x2 x3 x4 xk hE hS hK xv; obtain ⟨⟨x0, x1, x2, x3, x4⟩, ⟨xk, xv⟩, hE, hS, hK⟩ := hcel.out _ hB7; clear p0 p1 p2 p3 p4; obtain ⟨p0, p1, p2, p3, p4⟩ := hfp.out _ hp7; clear d0 d1 d2 d3 d4 dE dS; obtain ⟨⟨d0, d1, d2, d3, d4⟩, dE, dS⟩ := hfd.out _ hd7)
    | (go_at_call 42; refine (hcl.out _ hE).mono ?_; rintro e w8 ⟨AR, cR, rfl, ho8, hb8'⟩; have hB8 := hB7.trans (hb8'.mono hB7.size); have hp8 := hp7.trans (hb8'.mono hp7.size); have hd8 := hd7.trans (hb8'.mono hd7.size); clear x0 x1 x2 x3 x4 xk hE hS hK xv; obtain ⟨⟨x0, x1, x2, x3, x4⟩, ⟨xk, xv⟩, hE, hS, hK⟩ := hcel.out _ hB8; clear p0 p1 p2 p3 p4; obtain ⟨p0, p1, p2, p3, p4⟩ := hfp.out _ hp8; clear d0 d1 d2 d3 d4 dE dS; obtain ⟨⟨d0, d1, d2, d3, d4⟩, dE, dS⟩ := hfd.out _ hd8; obtain ⟨gR, rfl, hgR, hgR2, -⟩ := own_at ho8 (by omega); have hz8 := hB7.size; simp only [World.size_alloc] at hz8)
    | (go_at_call 41; refine (DeleteK_yes 43 (w.heap.size + 1) k enters_key2 (key2_pred _ _) w7.heap.size gR E.length cR p E _ ho8 rfl hpn hke hun.out hn hsz.out hK (by omega)).mono ?_; rintro e w9 ⟨rfl, ho9, hk9⟩; have hb9' : Below w7.heap.size w8 w9 := hk9.below hgR (by omega); have hB9 := hB8.trans (hb9'.mono hB7.size); have hp9 := hp8.trans (hb9'.mono hp7.size); have hd9 := hd8.trans (hb9'.mono hd7.size); clear x0 x1 x2 x3 x4 xk hE hS hK xv; obtain ⟨⟨x0, x1, x2, x3, x4⟩, ⟨xk, xv⟩, hE, hS, hK⟩ := hcel.out _ hB9; clear p0 p1 p2 p3 p4; obtain ⟨p0, p1, p2, p3, p4⟩ := hfp.out _ hp9; clear d0 d1 d2 d3 d4 dE dS; obtain ⟨⟨d0, d1, d2, d3, d4⟩, dE, dS⟩ := hfd.out _ hd9)
    | (go_at_call 35; clear tok1; refine (hsd.out _ _ _ _ _ _ _ dE dS (hre.out _ _ _ _ ho9) hS).mono ?_; rintro e w10 ⟨rfl, hb10'⟩; have hB10 := hB9.trans (hb10'.mono hB9.size); have hp10 := hp9.trans (hb10'.mono hp9.size); have hd10 := hd9.trans (hb10'.mono hd9.size); clear x0 x1 x2 x3 x4 xk hE hS hK xv; obtain ⟨⟨x0, x1, x2, x3, x4⟩, ⟨xk, xv⟩, hE, hS, hK⟩ := hcel.out _ hB10; clear p0 p1 p2 p3 p4; obtain ⟨p0, p1, p2, p3, p4⟩ := hfp.out _ hp10; clear d0 d1 d2 d3 d4 dE dS; obtain ⟨⟨d0, d1, d2, d3, d4⟩, dE, dS⟩ := hfd.out _ hd10)
    | (go_at_call 44; refine (hky.out _).mono ?_; rintro e w11 ⟨rfl, hb11'⟩; have hB11 := hB10.trans (hb11'.mono hB10.size); have hp11 := hp10.trans (hb11'.mono hp10.size); have hd11 := hd10.trans (hb11'.mono hd10.size); clear x0 x1 x2 x3 x4 xk hE hS hK xv; obtain ⟨⟨x0, x1, x2, x3, x4⟩, ⟨xk, xv⟩, hE, hS, hK⟩ := hcel.out _ hB11; clear p0 p1 p2 p3 p4; obtain ⟨p0, p1, p2, p3, p4⟩ := hfp.out _ hp11; clear d0 d1 d2 d3 d4 dE dS; obtain ⟨⟨d0, d1, d2, d3, d4⟩, dE, dS⟩ := hfd.out _ hd11)
    | (go_at_call 35; clear tok2; refine (hs0.out _).mono ?_; rintro e w12 ⟨rfl, hb12'⟩; have hB12 := hB11.trans (hb12'.mono hB11.size); have hp12 := hp11.trans (hb12'.mono hp11.size); have hd12 := hd11.trans (hb12'.mono hd11.size); clear x0 x1 x2 x3 x4 xk hE hS hK xv; obtain ⟨⟨x0, x1, x2, x3, x4⟩, ⟨xk, xv⟩, hE, hS, hK⟩ := hcel.out _ hB12; clear p0 p1 p2 p3 p4; obtain ⟨p0, p1, p2, p3, p4⟩ := hfp.out _ hp12; clear d0 d1 d2 d3 d4 dE dS; obtain ⟨⟨d0, d1, d2, d3, d4⟩, dE, dS⟩ := hfd.out _ hd12))
  go_ret
  exact ⟨ret_bool (by first | rfl | simp), hb0.trans (hB12.mono hb0.size)⟩

set_option maxRecDepth 100000 in
set_option maxHeartbeats 6400000 in
theorem lawE_value_yes (A : Option Addr) (n c : Nat) (E : List Ent) (W H M : Int) (A2 : Option Addr) (n2 c2 : Nat) (P : List Int) (k u : ByteArray) (w : World) (h : En w A n c E) (h2 : Sl w A2 n2 c2 P) (hf : fewB n2 E = true) (hks : k.size ≤ 140) (hus : u.size ≤ 140) (hg : Good W H M P E) {p : Nat} (hp : PosOf E k p) (ha : isAt E k p = true) (hq : keyB k = true) {r : Int} (hr : valC u = r) (hr0 : r ≠ 0) :
    Calls Try.prog 10 #[.agg #[.slice A n c, .int .i64 W, .int .i64 H, .int .i64 M, .slice A2 n2 c2], .string k, .string u] w fun e w' => e = .returned (.bool true) ∧ Below w.heap.size w w' := by
  have hpn : p < E.length := by
    unfold isAt at ha
    exact (of_decide_eq_true ha).1
  obtain ⟨gb, go, rfl, -, -⟩ := h.at_ (by have := h.1; omega)
  obtain rfl := h.1
  have hcap := h.2.1
  have hcl9 := h.2.2.1
  have hc2 : n2 ≤ 9223372036854775807 := by have := h2.le_cap; have := h2.cap_le; omega
  have hks2 : k.size ≤ 1000000000 := by omega
  have hus2 : u.size ≤ 1000000000 := by omega
  have hksi : (k.size : Int) ≤ 140 := by omega
  have husi : (u.size : Int) ≤ 140 := by omega
  have hsz := Lib.hid h.sizes
  have hb0 : Below w.heap.size w ((w.alloc (.cells #[.slice (some ⟨gb, go, none⟩) E.length c, .int .i64 W, .int .i64 H, .int .i64 M, .slice A2 n2 c2] 27)).alloc (.cells #[.string k] 9)) := ((Below.refl w.heap.size w).alloc (Nat.le_refl _) (.cells #[.slice (some ⟨gb, go, none⟩) E.length c, .int .i64 W, .int .i64 H, .int .i64 M, .slice A2 n2 c2] 27)).alloc (by simp) (.cells #[.string k] 9)
  have hE0 := (h.alloc (.cells #[.slice (some ⟨gb, go, none⟩) E.length c, .int .i64 W, .int .i64 H, .int .i64 M, .slice A2 n2 c2] 27)).alloc (.cells #[.string k] 9)
  have hS0 := (h2.alloc (.cells #[.slice (some ⟨gb, go, none⟩) E.length c, .int .i64 W, .int .i64 H, .int .i64 M, .slice A2 n2 c2] 27)).alloc (.cells #[.string k] 9)
  have f0 := (FB.new w (.slice (some ⟨gb, go, none⟩) E.length c) (.int .i64 W) (.int .i64 H) (.int .i64 M) (.slice A2 n2 c2)).alloc (.cells #[.string k] 9)
  have hK0 := KB.new (w.alloc (.cells #[.slice (some ⟨gb, go, none⟩) E.length c, .int .i64 W, .int .i64 H, .int .i64 M, .slice A2 n2 c2] 27)) k
  simp only [World.size_alloc] at hK0
  have hval : ∀ v, En v (some ⟨gb, go, none⟩) E.length c E → v.cell? ⟨gb, go + p * 2 + 1, none⟩ = some (.string (valAt E p)) := by
    intro v hv
    obtain ⟨b, off, e, -, hc⟩ := hv.at_ (by omega)
    cases e
    exact (hc p hpn).2
  have hcel : Hid (∀ v, Below ((w.alloc (.cells #[.slice (some ⟨gb, go, none⟩) E.length c, .int .i64 W, .int .i64 H, .int .i64 M, .slice A2 n2 c2] 27)).alloc (.cells #[.string k] 9)).heap.size ((w.alloc (.cells #[.slice (some ⟨gb, go, none⟩) E.length c, .int .i64 W, .int .i64 H, .int .i64 M, .slice A2 n2 c2] 27)).alloc (.cells #[.string k] 9)) v → (v.cell? ⟨w.heap.size, 0, none⟩ = some (.slice (some ⟨gb, go, none⟩) E.length c) ∧ v.cell? ⟨w.heap.size, 1, none⟩ = some (.int .i64 W) ∧ v.cell? ⟨w.heap.size, 2, none⟩ = some (.int .i64 H) ∧ v.cell? ⟨w.heap.size, 3, none⟩ = some (.int .i64 M) ∧ v.cell? ⟨w.heap.size, 4, none⟩ = some (.slice A2 n2 c2)) ∧ (v.cell? ⟨w.heap.size + 1, 0, none⟩ = some (.string k) ∧ v.cell? ⟨gb, go + p * 2 + 1, none⟩ = some (.string (valAt E p))) ∧ En v (some ⟨gb, go, none⟩) E.length c E ∧ Sl v A2 n2 c2 P ∧ KB v (w.heap.size + 1) k) := by
    intro v hv
    have f1 := f0.below hv (by simp; omega)
    have k1 := hK0.below hv (by simp)
    exact ⟨f1.cells.1, ⟨k1.cell, hval v (hE0.below hv (Nat.le_refl _))⟩, hE0.below hv (Nat.le_refl _), hS0.below hv (Nat.le_refl _), k1⟩
  have hfw := fun v (hv : En v (some ⟨gb, go, none⟩) E.length c E) => few_any (some ⟨gb, go, none⟩) E.length c E W H M A2 n2 c2 v hv hc2
  rw [hf] at hfw
  replace hfw := Lib.hid hfw
  have hn : E.length ≤ 1000000 := by unfold fewB at hf; simp at hf; omega
  have hs0 := Lib.hid (fun v => same_zero v)
  have hget := Lib.hid (fun v hv hv2 => Get_yes (some ⟨gb, go, none⟩) E.length c E W H M A2 n2 c2 P k p v hv hv2 hg hp ha)
  have hput := Lib.hid (fun v hv hv2 => Put_value (some ⟨gb, go, none⟩) E.length c E W H M A2 n2 c2 P k u v hv hv2 hg hks2 hus2 hq hr hr0)
  have hdrop := Lib.hid (fun v hv hv2 => Drop_yes (some ⟨gb, go, none⟩) E.length c E W H M A2 n2 c2 P k p v hv hv2 hg hp ha)
  have hck := Lib.hid (fun v hv hv2 => lcheck_any (some ⟨gb, go, none⟩) E.length c E W H M A2 n2 c2 P v hv hv2 (r := 0) (.inr ⟨hg.1, hg.2.symm⟩))
  have hixr := Lib.hid (ix_yes hg.2 hp ha)
  have hix := Lib.hid (fun v hv hK => IndexE_any 40 (w.heap.size + 1) k enters_key1 (key1_pred _ _) (some ⟨gb, go, none⟩) E.length c E _ v hv hK hixr.out)
  have hcl := Lib.hid (fun v hv => CloneE_any (some ⟨gb, go, none⟩) E.length c E v hv hn)
  have hky := Lib.hid (fun v => hq ▸ keyed_any k v hks2)
  have hvl := Lib.hid (fun v => hr ▸ valued_any u v hus2)
  have hrr : ((r : Int) == (r : Int)) = true := by simp
  have hrn : (r != 0) = true := by simp [hr0]
  have hre0 : ((r : Int) == 0) = false := by simp [hr0]
  replace hr := Lib.hid hr
  replace hr0 := Lib.hid hr0
  have hpni : (p : Int) < (E.length : Int) := by omega
  obtain ⟨vv, hvv⟩ : ∃ vv, valAt E p = vv := ⟨_, rfl⟩
  rw [hvv] at hget hcel
  obtain ⟨pq, hpq⟩ : ∃ q, p * 2 = q := ⟨_, rfl⟩
  rw [hpq] at hcel
  replace hvv := Lib.hid hvv
  clear hval
  have hke : keyAt E p = k := (at_yes hg.2 hp ha).2.1
  have hun : Hid (∀ j, j < E.length → j ≠ p → keyAt E j ≠ k) := Lib.hid (at_yes hg.2 hp ha).2.2
  have hld : (E.eraseIdx p).length = E.length - 1 := List.length_eraseIdx_of_lt hpn
  obtain ⟨RD, hRD⟩ : ∃ R, E.eraseIdx p = R := ⟨_, rfl⟩
  obtain ⟨LD, hLD⟩ : ∃ R, RD.length = R := ⟨_, rfl⟩
  have hszr : ∀ e ∈ RD, e.1.size ≤ 1000000000 ∧ e.2.size ≤ 1000000000 := fun e he => hsz.out e (List.mem_of_mem_eraseIdx (hRD ▸ he))
  have hde : Hid (∀ v B Aq cq, v.ownsRow B 68 2 (.slice Aq LD cq) LD (ecells RD) → En v Aq LD cq RD) := Lib.hid (fun v B Aq cq ho => by rw [← hLD] at ho ⊢; exact En.of_own ho rfl hszr)
  have hre : Hid (∀ v B Aq cq, v.ownsRow B 68 2 (.slice Aq (E.length - 1) cq) (E.length - 1) (ecells (E.eraseIdx p)) → En v Aq (E.length - 1) cq RD) := Lib.hid (fun v B Aq cq ho => by rw [hRD] at ho hld; rw [← hld] at ho ⊢; exact En.of_own ho rfl hszr)
  have hsd : Hid (∀ v A1 c1 B1 q1 A3 c3, En v A1 LD c1 RD → Sl v (some ⟨B1, 0, none⟩) P.length q1 P → En v A3 (E.length - 1) c3 RD → Sl v A2 n2 c2 P → Calls Try.prog 35 #[.agg #[.slice A1 LD c1, .int .i64 W, .int .i64 H, .int .i64 M, .slice (some ⟨B1, 0, none⟩) P.length q1], .agg #[.slice A3 (E.length - 1) c3, .int .i64 W, .int .i64 H, .int .i64 M, .slice A2 n2 c2]] v fun e w' => e = .returned (.bool true) ∧ Below v.heap.size v w') := Lib.hid (fun v A1 c1 B1 q1 A3 c3 h1 h2 h3 h4 => by
    have := same_any A1 LD c1 RD W H M (some ⟨B1, 0, none⟩) P.length q1 P A3 (E.length - 1) c3 RD W H M A2 n2 c2 P v h1 h2 h3 h4
    rw [sameF_me] at this
    exact this)
  rw [hRD] at hdrop
  unfold RetK at hdrop
  rw [hLD] at hdrop
  have hpl : p ≤ E.length := hp.1
  have hpli : ¬ (p : Int) < 0 := by omega
  clear h h2 hE0 hS0 f0 hK0 hf
  replace hp := Lib.hid hp
  replace hg := Lib.hid hg
  replace ha := Lib.hid ha
  have tok1 : True := trivial
  have tok2 : True := trivial
  go_enter Try.func10, Try.ntmps10
  go_wp2_with (first
    | (go_at_call 12; refine (known_any _).mono ?_; rintro e w1 ⟨rfl, hb1'⟩; have hB1 := hb1'; obtain ⟨⟨x0, x1, x2, x3, x4⟩, ⟨xk, xv⟩, hE, hS, hK⟩ := hcel.out _ hB1)
    | (go_at_call 13; refine (hfw.out _ hE).mono ?_; rintro e w2 ⟨rfl, hb2'⟩; have hB2 := hB1.trans (hb2'.mono hB1.size); clear x0 x1 x2 x3 x4 xk hE hS hK xv; obtain ⟨⟨x0, x1, x2, x3, x4⟩, ⟨xk, xv⟩, hE, hS, hK⟩ := hcel.out _ hB2)
    | (go_at_call 36; refine (hget.out _ hE hS).mono ?_; rintro e w3 ⟨rfl, hb3'⟩; have hB3 := hB2.trans (hb3'.mono hB2.size); clear x0 x1 x2 x3 x4 xk hE hS hK xv; obtain ⟨⟨x0, x1, x2, x3, x4⟩, ⟨xk, xv⟩, hE, hS, hK⟩ := hcel.out _ hB3)
    | (go_at_call 37; refine (hput.out _ hE hS).mono ?_; rintro e w4 ⟨rfl, hb4'⟩; have hB4 := hB3.trans (hb4'.mono hB3.size); replace hB4 := hB4.alloc hB4.size (.cells #[.slice none 0 0, .int .i64 0, .int .i64 0, .int .i64 0, .slice none 0 0] 27); clear x0 x1 x2 x3 x4 xk hE hS hK xv; obtain ⟨⟨x0, x1, x2, x3, x4⟩, ⟨xk, xv⟩, hE, hS, hK⟩ := hcel.out _ hB4; have hfp : Hid (∀ v, Below (w4.alloc (.cells #[.slice none 0 0, .int .i64 0, .int .i64 0, .int .i64 0, .slice none 0 0] 27)).heap.size (w4.alloc (.cells #[.slice none 0 0, .int .i64 0, .int .i64 0, .int .i64 0, .slice none 0 0] 27)) v → (v.cell? ⟨w4.heap.size, 0, none⟩ = some (.slice none 0 0) ∧ v.cell? ⟨w4.heap.size, 1, none⟩ = some (.int .i64 0) ∧ v.cell? ⟨w4.heap.size, 2, none⟩ = some (.int .i64 0) ∧ v.cell? ⟨w4.heap.size, 3, none⟩ = some (.int .i64 0) ∧ v.cell? ⟨w4.heap.size, 4, none⟩ = some (.slice none 0 0))) := (fun v hv => ((FB.new w4 (.slice none 0 0) (.int .i64 0) (.int .i64 0) (.int .i64 0) (.slice none 0 0)).below hv (by simp)).cells.1); obtain ⟨p0, p1, p2, p3, p4⟩ := hfp.out _ (Below.refl _ _))
    | (go_at_call 38; refine (hdrop.out _ hE hS).mono ?_; rintro e w5 ⟨Ad, cd, gd, kk, md, rfl, ho, hgw, hbl, hkk, hkc, hcm, hb5'⟩; subst hkk; have hB5 := hB4.trans (hb5'.mono hB4.size); have hp5 := hb5'; replace hB5 := hB5.alloc hB5.size (.cells #[.slice Ad LD cd, .int .i64 W, .int .i64 H, .int .i64 M, .slice (some ⟨gd, 0, none⟩) P.length md] 27); replace hp5 := hp5.alloc hp5.size (.cells #[.slice Ad LD cd, .int .i64 W, .int .i64 H, .int .i64 M, .slice (some ⟨gd, 0, none⟩) P.length md] 27); clear x0 x1 x2 x3 x4 xk hE hS hK xv; obtain ⟨⟨x0, x1, x2, x3, x4⟩, ⟨xk, xv⟩, hE, hS, hK⟩ := hcel.out _ hB5; clear p0 p1 p2 p3 p4; obtain ⟨p0, p1, p2, p3, p4⟩ := hfp.out _ hp5; have hfd : Hid (∀ v, Below (w5.alloc (.cells #[.slice Ad LD cd, .int .i64 W, .int .i64 H, .int .i64 M, .slice (some ⟨gd, 0, none⟩) P.length md] 27)).heap.size (w5.alloc (.cells #[.slice Ad LD cd, .int .i64 W, .int .i64 H, .int .i64 M, .slice (some ⟨gd, 0, none⟩) P.length md] 27)) v → (v.cell? ⟨w5.heap.size, 0, none⟩ = some (.slice Ad LD cd) ∧ v.cell? ⟨w5.heap.size, 1, none⟩ = some (.int .i64 W) ∧ v.cell? ⟨w5.heap.size, 2, none⟩ = some (.int .i64 H) ∧ v.cell? ⟨w5.heap.size, 3, none⟩ = some (.int .i64 M) ∧ v.cell? ⟨w5.heap.size, 4, none⟩ = some (.slice (some ⟨gd, 0, none⟩) P.length md)) ∧ En v Ad LD cd RD ∧ Sl v (some ⟨gd, 0, none⟩) P.length md P) := (fun v hv => ⟨((FB.new w5 (.slice Ad LD cd) (.int .i64 W) (.int .i64 H) (.int .i64 M) (.slice (some ⟨gd, 0, none⟩) P.length md)).below hv (by simp)).cells.1, (hde.out _ _ _ _ (ho)) |>.alloc _ |>.below hv (Nat.le_refl _), ((hbl.sl0 (n := P.length) (c := md) rfl hkc hcm).alloc _).below hv (Nat.le_refl _)⟩); obtain ⟨⟨d0, d1, d2, d3, d4⟩, dE, dS⟩ := hfd.out _ (Below.refl _ _))
    | (go_at_call 15; refine (hck.out _ hE hS).mono ?_; rintro e w6 ⟨rfl, hb6'⟩; have hB6 := hB5.trans (hb6'.mono hB5.size); have hp6 := hp5.trans (hb6'.mono hp5.size); have hd6 := hb6'; clear x0 x1 x2 x3 x4 xk hE hS hK xv; obtain ⟨⟨x0, x1, x2, x3, x4⟩, ⟨xk, xv⟩, hE, hS, hK⟩ := hcel.out _ hB6; clear p0 p1 p2 p3 p4; obtain ⟨p0, p1, p2, p3, p4⟩ := hfp.out _ hp6; clear d0 d1 d2 d3 d4 dE dS; obtain ⟨⟨d0, d1, d2, d3, d4⟩, dE, dS⟩ := hfd.out _ hd6)
    | (go_at_call 39; refine (hix.out _ hE hK).mono ?_; rintro e w7 ⟨rfl, hb7'⟩; have hB7 := hB6.trans (hb7'.mono hB6.size); have hp7 := hp6.trans (hb7'.mono hp6.size); have hd7 := hd6.trans (hb7'.mono hd6.size); clear x0 x1 x2 x3 x4 xk hE hS hK xv; obtain ⟨⟨x0, x1, x2, x3, x4⟩, ⟨xk, xv⟩, hE, hS, hK⟩ := hcel.out _ hB7; clear p0 p1 p2 p3 p4; obtain ⟨p0, p1, p2, p3, p4⟩ := hfp.out _ hp7; clear d0 d1 d2 d3 d4 dE dS; obtain ⟨⟨d0, d1, d2, d3, d4⟩, dE, dS⟩ := hfd.out _ hd7)
    | (go_at_call 42; refine (hcl.out _ hE).mono ?_; rintro e w8 ⟨AR, cR, rfl, ho8, hb8'⟩; have hB8 := hB7.trans (hb8'.mono hB7.size); have hp8 := hp7.trans (hb8'.mono hp7.size); have hd8 := hd7.trans (hb8'.mono hd7.size); clear x0 x1 x2 x3 x4 xk hE hS hK xv; obtain ⟨⟨x0, x1, x2, x3, x4⟩, ⟨xk, xv⟩, hE, hS, hK⟩ := hcel.out _ hB8; clear p0 p1 p2 p3 p4; obtain ⟨p0, p1, p2, p3, p4⟩ := hfp.out _ hp8; clear d0 d1 d2 d3 d4 dE dS; obtain ⟨⟨d0, d1, d2, d3, d4⟩, dE, dS⟩ := hfd.out _ hd8; obtain ⟨gR, rfl, hgR, hgR2, -⟩ := own_at ho8 (by omega); have hz8 := hB7.size; simp only [World.size_alloc] at hz8)
    | (go_at_call 41; refine (DeleteK_yes 43 (w.heap.size + 1) k enters_key2 (key2_pred _ _) w7.heap.size gR E.length cR p E _ ho8 rfl hpn hke hun.out hn hsz.out hK (by omega)).mono ?_; rintro e w9 ⟨rfl, ho9, hk9⟩; have hb9' : Below w7.heap.size w8 w9 := hk9.below hgR (by omega); have hB9 := hB8.trans (hb9'.mono hB7.size); have hp9 := hp8.trans (hb9'.mono hp7.size); have hd9 := hd8.trans (hb9'.mono hd7.size); clear x0 x1 x2 x3 x4 xk hE hS hK xv; obtain ⟨⟨x0, x1, x2, x3, x4⟩, ⟨xk, xv⟩, hE, hS, hK⟩ := hcel.out _ hB9; clear p0 p1 p2 p3 p4; obtain ⟨p0, p1, p2, p3, p4⟩ := hfp.out _ hp9; clear d0 d1 d2 d3 d4 dE dS; obtain ⟨⟨d0, d1, d2, d3, d4⟩, dE, dS⟩ := hfd.out _ hd9)
    | (go_at_call 35; clear tok1; refine (hsd.out _ _ _ _ _ _ _ dE dS (hre.out _ _ _ _ ho9) hS).mono ?_; rintro e w10 ⟨rfl, hb10'⟩; have hB10 := hB9.trans (hb10'.mono hB9.size); have hp10 := hp9.trans (hb10'.mono hp9.size); have hd10 := hd9.trans (hb10'.mono hd9.size); clear x0 x1 x2 x3 x4 xk hE hS hK xv; obtain ⟨⟨x0, x1, x2, x3, x4⟩, ⟨xk, xv⟩, hE, hS, hK⟩ := hcel.out _ hB10; clear p0 p1 p2 p3 p4; obtain ⟨p0, p1, p2, p3, p4⟩ := hfp.out _ hp10; clear d0 d1 d2 d3 d4 dE dS; obtain ⟨⟨d0, d1, d2, d3, d4⟩, dE, dS⟩ := hfd.out _ hd10)
    | (go_at_call 44; refine (hky.out _).mono ?_; rintro e w11 ⟨rfl, hb11'⟩; have hB11 := hB10.trans (hb11'.mono hB10.size); have hp11 := hp10.trans (hb11'.mono hp10.size); have hd11 := hd10.trans (hb11'.mono hd10.size); clear x0 x1 x2 x3 x4 xk hE hS hK xv; obtain ⟨⟨x0, x1, x2, x3, x4⟩, ⟨xk, xv⟩, hE, hS, hK⟩ := hcel.out _ hB11; clear p0 p1 p2 p3 p4; obtain ⟨p0, p1, p2, p3, p4⟩ := hfp.out _ hp11; clear d0 d1 d2 d3 d4 dE dS; obtain ⟨⟨d0, d1, d2, d3, d4⟩, dE, dS⟩ := hfd.out _ hd11)
    | (go_at_call 45; refine (hvl.out _).mono ?_; rintro e w12 ⟨rfl, hb12'⟩; have hB12 := hB11.trans (hb12'.mono hB11.size); have hp12 := hp11.trans (hb12'.mono hp11.size); have hd12 := hd11.trans (hb12'.mono hd11.size); clear x0 x1 x2 x3 x4 xk hE hS hK xv; obtain ⟨⟨x0, x1, x2, x3, x4⟩, ⟨xk, xv⟩, hE, hS, hK⟩ := hcel.out _ hB12; clear p0 p1 p2 p3 p4; obtain ⟨p0, p1, p2, p3, p4⟩ := hfp.out _ hp12; clear d0 d1 d2 d3 d4 dE dS; obtain ⟨⟨d0, d1, d2, d3, d4⟩, dE, dS⟩ := hfd.out _ hd12)
    | (go_at_call 35; clear tok2; refine (hs0.out _).mono ?_; rintro e w13 ⟨rfl, hb13'⟩; have hB13 := hB12.trans (hb13'.mono hB12.size); have hp13 := hp12.trans (hb13'.mono hp12.size); have hd13 := hd12.trans (hb13'.mono hd12.size); clear x0 x1 x2 x3 x4 xk hE hS hK xv; obtain ⟨⟨x0, x1, x2, x3, x4⟩, ⟨xk, xv⟩, hE, hS, hK⟩ := hcel.out _ hB13; clear p0 p1 p2 p3 p4; obtain ⟨p0, p1, p2, p3, p4⟩ := hfp.out _ hp13; clear d0 d1 d2 d3 d4 dE dS; obtain ⟨⟨d0, d1, d2, d3, d4⟩, dE, dS⟩ := hfd.out _ hd13))
  go_ret
  exact ⟨ret_bool (by first | rfl | simp), hb0.trans (hB13.mono hb0.size)⟩


end Go.Proofs.Ytfkoboljobghkaa
