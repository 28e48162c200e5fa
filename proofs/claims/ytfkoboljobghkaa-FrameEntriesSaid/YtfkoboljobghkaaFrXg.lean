/-
  Walks: the law FrameEntries where the key is there and Put puts. (Written by tools/mk_frxw.py.)
-/
import Derived.Test.YtfkoboljobghkaaFrXc
import Derived.Deep.Cut
import Derived.BigQuiet
set_option linter.unusedSimpArgs false
set_option linter.unusedVariables false
namespace Go.Proofs.Ytfkoboljobghkaa
open Go.RowKit Go.Shelf

set_option maxRecDepth 100000 in
set_option maxHeartbeats 6400000 in
theorem lawE_ok_yes (A : Option Addr) (n c : Nat) (E : List Ent) (W H M : Int) (A2 : Option Addr) (n2 c2 : Nat) (P : List Int) (k u : ByteArray) (w : World) (h : En w A n c E) (h2 : Sl w A2 n2 c2 P) (hf : fewB n2 E = true) (hks : k.size ≤ 140) (hus : u.size ≤ 140) (hg : Good W H M P E) {p : Nat} (hp : PosOf E k p) (ha : isAt E k p = true) (hq : keyB k = true) (hr : valC u = 0)  :
    Calls Try.prog 10 #[.agg #[.slice A n c, .int .i64 W, .int .i64 H, .int .i64 M, .slice A2 n2 c2], .string k, .string u] w fun e w' => e = .returned (.bool true) ∧ Below w.heap.size w w' := by
  have hpn : p < E.length := by
    unfold isAt at ha
    exact (of_decide_eq_true ha).1
  obtain ⟨gb, go, rfl, -, -⟩ := h.at_ (by have := h.1; omega)
  obtain rfl := h.1
  have hcap := h.2.1
  have hcl9 := h.2.2.1
  have hc2 : n2 ≤ 9223372036854775807 := by have := h2.le_cap; have := h2.cap_le; omega
  have hks2 : k.size ≤ 1000000000 := by omega
  have hus2 : u.size ≤ 1000000000 := by omega
  have hksi : (k.size : Int) ≤ 140 := by omega
  have husi : (u.size : Int) ≤ 140 := by omega
  have hsz := Lib.hid h.sizes
  have hb0 : Below w.heap.size w ((w.alloc (.cells #[.slice (some ⟨gb, go, none⟩) E.length c, .int .i64 W, .int .i64 H, .int .i64 M, .slice A2 n2 c2] 27)).alloc (.cells #[.string k] 9)) := ((Below.refl w.heap.size w).alloc (Nat.le_refl _) (.cells #[.slice (some ⟨gb, go, none⟩) E.length c, .int .i64 W, .int .i64 H, .int .i64 M, .slice A2 n2 c2] 27)).alloc (by simp) (.cells #[.string k] 9)
  have hE0 := (h.alloc (.cells #[.slice (some ⟨gb, go, none⟩) E.length c, .int .i64 W, .int .i64 H, .int .i64 M, .slice A2 n2 c2] 27)).alloc (.cells #[.string k] 9)
  have hS0 := (h2.alloc (.cells #[.slice (some ⟨gb, go, none⟩) E.length c, .int .i64 W, .int .i64 H, .int .i64 M, .slice A2 n2 c2] 27)).alloc (.cells #[.string k] 9)
  have f0 := (FB.new w (.slice (some ⟨gb, go, none⟩) E.length c) (.int .i64 W) (.int .i64 H) (.int .i64 M) (.slice A2 n2 c2)).alloc (.cells #[.string k] 9)
  have hK0 := KB.new (w.alloc (.cells #[.slice (some ⟨gb, go, none⟩) E.length c, .int .i64 W, .int .i64 H, .int .i64 M, .slice A2 n2 c2] 27)) k
  simp only [World.size_alloc] at hK0
  have hval : ∀ v, En v (some ⟨gb, go, none⟩) E.length c E → v.cell? ⟨gb, go + p * 2 + 1, none⟩ = some (.string (valAt E p)) := by
    intro v hv
    obtain ⟨b, off, e, -, hc⟩ := hv.at_ (by omega)
    cases e
    exact (hc p hpn).2
  have hcel : Hid (∀ v, Below ((w.alloc (.cells #[.slice (some ⟨gb, go, none⟩) E.length c, .int .i64 W, .int .i64 H, .int .i64 M, .slice A2 n2 c2] 27)).alloc (.cells #[.string k] 9)).heap.size ((w.alloc (.cells #[.slice (some ⟨gb, go, none⟩) E.length c, .int .i64 W, .int .i64 H, .int .i64 M, .slice A2 n2 c2] 27)).alloc (.cells #[.string k] 9)) v → (v.cell? ⟨w.heap.size, 0, none⟩ = some (.slice (some ⟨gb, go, none⟩) E.length c) ∧ v.cell? ⟨w.heap.size, 1, none⟩ = some (.int .i64 W) ∧ v.cell? ⟨w.heap.size, 2, none⟩ = some (.int .i64 H) ∧ v.cell? ⟨w.heap.size, 3, none⟩ = some (.int .i64 M) ∧ v.cell? ⟨w.heap.size, 4, none⟩ = some (.slice A2 n2 c2)) ∧ (v.cell? ⟨w.heap.size + 1, 0, none⟩ = some (.string k) ∧ v.cell? ⟨gb, go + p * 2 + 1, none⟩ = some (.string (valAt E p))) ∧ En v (some ⟨gb, go, none⟩) E.length c E ∧ Sl v A2 n2 c2 P ∧ KB v (w.heap.size + 1) k) := by
    intro v hv
    have f1 := f0.below hv (by simp; omega)
    have k1 := hK0.below hv (by simp)
    exact ⟨f1.cells.1, ⟨k1.cell, hval v (hE0.below hv (Nat.le_refl _))⟩, hE0.below hv (Nat.le_refl _), hS0.below hv (Nat.le_refl _), k1⟩
  have hfw := fun v (hv : En v (some ⟨gb, go, none⟩) E.length c E) => few_any (some ⟨gb, go, none⟩) E.length c E W H M A2 n2 c2 v hv hc2
  rw [hf] at hfw
  replace hfw := Lib.hid hfw
  have hn : E.length ≤ 1000000 := by unfold fewB at hf; simp at hf; omega
  have hs0 := Lib.hid (fun v => same_zero v)
  have hget := Lib.hid (fun v hv hv2 => Get_yes (some ⟨gb, go, none⟩) E.length c E W H M A2 n2 c2 P k p v hv hv2 hg hp ha)
  have hput := Lib.hid (fun v hv hv2 => Put_old (some ⟨gb, go, none⟩) E.length c E W H M A2 n2 c2 P k u v hv hv2 hg hks2 hus2 hq hr hp ha)
  have hdrop := Lib.hid (fun v hv hv2 => Drop_yes (some ⟨gb, go, none⟩) E.length c E W H M A2 n2 c2 P k p v hv hv2 hg hp ha)
  have hck := Lib.hid (fun v hv hv2 => lcheck_any (some ⟨gb, go, none⟩) E.length c E W H M A2 n2 c2 P v hv hv2 (r := 0) (.inr ⟨hg.1, hg.2.symm⟩))
  have hixr := Lib.hid (ix_yes hg.2 hp ha)
  have hix := Lib.hid (fun v hv hK => IndexE_any 40 (w.heap.size + 1) k enters_key1 (key1_pred _ _) (some ⟨gb, go, none⟩) E.length c E _ v hv hK hixr.out)
  have hcl := Lib.hid (fun v hv => CloneE_any (some ⟨gb, go, none⟩) E.length c E v hv hn)
  have hky := Lib.hid (fun v => hq ▸ keyed_any k v hks2)
  have hvl := Lib.hid (fun v => hr ▸ valued_any u v hus2)
  have hn32 : E.length ≤ 32 := by have := (metaC_zero hg.2).1; omega
  have hl2 : (((E.length - 1 : Nat) : Int) == 32) = false := by rw [beq_eq_false_iff_ne]; omega
  have hrl := rest_loop hp
  have hrp : E.set p (keyAt E p, u) = put (restE E k p) p (k, u) := rest_put hg.2 hp ha
  have hre2 : restE E k p = E.eraseIdx p := by unfold restE; rw [if_pos ha]
  rw [hre2] at hrl hrp
  rw [hrp] at hput
  have hpni : (p : Int) < (E.length : Int) := by omega
  obtain ⟨vv, hvv⟩ : ∃ vv, valAt E p = vv := ⟨_, rfl⟩
  rw [hvv] at hget hcel
  obtain ⟨pq, hpq⟩ : ∃ q, p * 2 = q := ⟨_, rfl⟩
  rw [hpq] at hcel
  replace hvv := Lib.hid hvv
  clear hval
  have hke : keyAt E p = k := (at_yes hg.2 hp ha).2.1
  have hun : Hid (∀ j, j < E.length → j ≠ p → keyAt E j ≠ k) := Lib.hid (at_yes hg.2 hp ha).2.2
  have hld : (E.eraseIdx p).length = E.length - 1 := List.length_eraseIdx_of_lt hpn
  obtain ⟨RD, hRD⟩ : ∃ R, E.eraseIdx p = R := ⟨_, rfl⟩
  obtain ⟨LD, hLD⟩ : ∃ R, RD.length = R := ⟨_, rfl⟩
  have hszr : ∀ e ∈ RD, e.1.size ≤ 1000000000 ∧ e.2.size ≤ 1000000000 := fun e he => hsz.out e (List.mem_of_mem_eraseIdx (hRD ▸ he))
  have hde : Hid (∀ v B Aq cq, v.ownsRow B 68 2 (.slice Aq LD cq) LD (ecells RD) → En v Aq LD cq RD) := Lib.hid (fun v B Aq cq ho => by rw [← hLD] at ho ⊢; exact En.of_own ho rfl hszr)
  have hre : Hid (∀ v B Aq cq, v.ownsRow B 68 2 (.slice Aq (E.length - 1) cq) (E.length - 1) (ecells (E.eraseIdx p)) → En v Aq (E.length - 1) cq RD) := Lib.hid (fun v B Aq cq ho => by rw [hRD] at ho hld; rw [← hld] at ho ⊢; exact En.of_own ho rfl hszr)
  have hsd : Hid (∀ v A1 c1 B1 q1 A3 c3, En v A1 LD c1 RD → Sl v (some ⟨B1, 0, none⟩) P.length q1 P → En v A3 (E.length - 1) c3 RD → Sl v A2 n2 c2 P → Calls Try.prog 35 #[.agg #[.slice A1 LD c1, .int .i64 W, .int .i64 H, .int .i64 M, .slice (some ⟨B1, 0, none⟩) P.length q1], .agg #[.slice A3 (E.length - 1) c3, .int .i64 W, .int .i64 H, .int .i64 M, .slice A2 n2 c2]] v fun e w' => e = .returned (.bool true) ∧ Below v.heap.size v w') := Lib.hid (fun v A1 c1 B1 q1 A3 c3 h1 h2 h3 h4 => by
    have := same_any A1 LD c1 RD W H M (some ⟨B1, 0, none⟩) P.length q1 P A3 (E.length - 1) c3 RD W H M A2 n2 c2 P v h1 h2 h3 h4
    rw [sameF_me] at this
    exact this)
  rw [hRD] at hdrop
  unfold RetK at hdrop
  rw [hLD] at hdrop
  rw [hRD] at hput hrl
  obtain ⟨PL, hPL⟩ : ∃ R, put RD p (k, u) = R := ⟨_, rfl⟩
  obtain ⟨LL, hLL⟩ : ∃ R, PL.length = R := ⟨_, rfl⟩
  have hrle : RD.length = (E.length - 1) := by rw [← hRD]; exact hld
  have hLN : LL = (E.length - 1) + 1 := by rw [← hLL, ← hPL, put_length hrl.1, hrle]
  have hszp : ∀ e ∈ PL, e.1.size ≤ 1000000000 ∧ e.2.size ≤ 1000000000 := fun e he => by
    rcases put_sub e (hPL ▸ he) with h | rfl
    · exact hszr e h
    · exact ⟨hks2, hus2⟩
  have hpe : Hid (∀ v B Aq cq, v.ownsRow B 68 2 (.slice Aq LL cq) LL (ecells PL) → En v Aq LL cq PL) := Lib.hid (fun v B Aq cq ho => by rw [← hLL] at ho ⊢; exact En.of_own ho rfl hszp)
  have hrE : Hid (∀ v B Aq cq, v.ownsRow B 68 2 (.slice Aq (E.length - 1) cq) (E.length - 1) (ecells RD) → En v Aq (E.length - 1) cq RD) := Lib.hid (fun v B Aq cq ho => by rw [← hrle] at ho ⊢; exact En.of_own ho rfl hszr)
  have hsp : Hid (∀ v A1 c1 B1 q1 A3 c3, En v A1 LL c1 PL → Sl v (some ⟨B1, 0, none⟩) P.length q1 P → En v A3 ((E.length - 1) + 1) c3 PL → Sl v A2 n2 c2 P → Calls Try.prog 35 #[.agg #[.slice A1 LL c1, .int .i64 W, .int .i64 H, .int .i64 M, .slice (some ⟨B1, 0, none⟩) P.length q1], .agg #[.slice A3 ((E.length - 1) + 1) c3, .int .i64 W, .int .i64 H, .int .i64 M, .slice A2 n2 c2]] v fun e w' => e = .returned (.bool true) ∧ Below v.heap.size v w') := Lib.hid (fun v A1 c1 B1 q1 A3 c3 h1 h2 h3 h4 => by
    have := same_any A1 LL c1 PL W H M (some ⟨B1, 0, none⟩) P.length q1 P A3 ((E.length - 1) + 1) c3 PL W H M A2 n2 c2 P v h1 h2 h3 h4
    rw [sameF_me] at this
    exact this)
  unfold RetK at hput
  rw [hPL, hLL] at hput
  have hpl : p ≤ E.length := hp.1
  have hpli : ¬ (p : Int) < 0 := by omega
  clear h h2 hE0 hS0 f0 hK0 hf
  replace hp := Lib.hid hp
  replace hg := Lib.hid hg
  replace ha := Lib.hid ha
  replace hr := Lib.hid hr
  replace hq := Lib.hid hq
  replace hLN := Lib.hid hLN
  replace hLL := Lib.hid hLL
  replace hPL := Lib.hid hPL
  replace hrle := Lib.hid hrle
  replace hre2 := Lib.hid hre2
  replace hrp := Lib.hid hrp
  replace hrl := Lib.hid hrl
  go_enter Try.func10, Try.ntmps10
  go_upto_region 25 with (first
    | (go_at_call 12; refine (known_any _).mono ?_; rintro e w1 ⟨rfl, hb1'⟩; have hB1 := hb1'; obtain ⟨⟨x0, x1, x2, x3, x4⟩, ⟨xk, xv⟩, hE, hS, hK⟩ := hcel.out _ hB1)
    | (go_at_call 13; refine (hfw.out _ hE).mono ?_; rintro e w2 ⟨rfl, hb2'⟩; have hB2 := hB1.trans (hb2'.mono hB1.size); clear x0 x1 x2 x3 x4 xk hE hS hK xv; obtain ⟨⟨x0, x1, x2, x3, x4⟩, ⟨xk, xv⟩, hE, hS, hK⟩ := hcel.out _ hB2)
    | (go_at_call 36; refine (hget.out _ hE hS).mono ?_; rintro e w3 ⟨rfl, hb3'⟩; have hB3 := hB2.trans (hb3'.mono hB2.size); clear x0 x1 x2 x3 x4 xk hE hS hK xv; obtain ⟨⟨x0, x1, x2, x3, x4⟩, ⟨xk, xv⟩, hE, hS, hK⟩ := hcel.out _ hB3)
    | (go_at_call 37; refine (hput.out _ hE hS).mono ?_; rintro e w4 ⟨Ap, cp, gp, kk, mp, rfl, ho, hgw, hbl, hkk, hkc, hcm, hb4'⟩; subst hkk; have hB4 := hB3.trans (hb4'.mono hB3.size); replace hB4 := hB4.alloc hB4.size (.cells #[.slice Ap LL cp, .int .i64 W, .int .i64 H, .int .i64 M, .slice (some ⟨gp, 0, none⟩) P.length mp] 27); clear x0 x1 x2 x3 x4 xk hE hS hK xv; obtain ⟨⟨x0, x1, x2, x3, x4⟩, ⟨xk, xv⟩, hE, hS, hK⟩ := hcel.out _ hB4; have hfp : Hid (∀ v, Below (w4.alloc (.cells #[.slice Ap LL cp, .int .i64 W, .int .i64 H, .int .i64 M, .slice (some ⟨gp, 0, none⟩) P.length mp] 27)).heap.size (w4.alloc (.cells #[.slice Ap LL cp, .int .i64 W, .int .i64 H, .int .i64 M, .slice (some ⟨gp, 0, none⟩) P.length mp] 27)) v → (v.cell? ⟨w4.heap.size, 0, none⟩ = some (.slice Ap LL cp) ∧ v.cell? ⟨w4.heap.size, 1, none⟩ = some (.int .i64 W) ∧ v.cell? ⟨w4.heap.size, 2, none⟩ = some (.int .i64 H) ∧ v.cell? ⟨w4.heap.size, 3, none⟩ = some (.int .i64 M) ∧ v.cell? ⟨w4.heap.size, 4, none⟩ = some (.slice (some ⟨gp, 0, none⟩) P.length mp)) ∧ En v Ap LL cp PL ∧ Sl v (some ⟨gp, 0, none⟩) P.length mp P) := (fun v hv => ⟨((FB.new w4 (.slice Ap LL cp) (.int .i64 W) (.int .i64 H) (.int .i64 M) (.slice (some ⟨gp, 0, none⟩) P.length mp)).below hv (by simp)).cells.1, (hpe.out _ _ _ _ (ho)) |>.alloc _ |>.below hv (Nat.le_refl _), ((hbl.sl0 (n := P.length) (c := mp) rfl hkc hcm).alloc _).below hv (Nat.le_refl _)⟩); obtain ⟨⟨p0, p1, p2, p3, p4⟩, pE, pS⟩ := hfp.out _ (Below.refl _ _))
    | (go_at_call 38; refine (hdrop.out _ hE hS).mono ?_; rintro e w5 ⟨Ad, cd, gd, kk, md, rfl, ho, hgw, hbl, hkk, hkc, hcm, hb5'⟩; subst hkk; have hB5 := hB4.trans (hb5'.mono hB4.size); have hp5 := hb5'; replace hB5 := hB5.alloc hB5.size (.cells #[.slice Ad LD cd, .int .i64 W, .int .i64 H, .int .i64 M, .slice (some ⟨gd, 0, none⟩) P.length md] 27); replace hp5 := hp5.alloc hp5.size (.cells #[.slice Ad LD cd, .int .i64 W, .int .i64 H, .int .i64 M, .slice (some ⟨gd, 0, none⟩) P.length md] 27); clear x0 x1 x2 x3 x4 xk hE hS hK xv; obtain ⟨⟨x0, x1, x2, x3, x4⟩, ⟨xk, xv⟩, hE, hS, hK⟩ := hcel.out _ hB5; clear p0 p1 p2 p3 p4 pE pS; obtain ⟨⟨p0, p1, p2, p3, p4⟩, pE, pS⟩ := hfp.out _ hp5; have hfd : Hid (∀ v, Below (w5.alloc (.cells #[.slice Ad LD cd, .int .i64 W, .int .i64 H, .int .i64 M, .slice (some ⟨gd, 0, none⟩) P.length md] 27)).heap.size (w5.alloc (.cells #[.slice Ad LD cd, .int .i64 W, .int .i64 H, .int .i64 M, .slice (some ⟨gd, 0, none⟩) P.length md] 27)) v → (v.cell? ⟨w5.heap.size, 0, none⟩ = some (.slice Ad LD cd) ∧ v.cell? ⟨w5.heap.size, 1, none⟩ = some (.int .i64 W) ∧ v.cell? ⟨w5.heap.size, 2, none⟩ = some (.int .i64 H) ∧ v.cell? ⟨w5.heap.size, 3, none⟩ = some (.int .i64 M) ∧ v.cell? ⟨w5.heap.size, 4, none⟩ = some (.slice (some ⟨gd, 0, none⟩) P.length md)) ∧ En v Ad LD cd RD ∧ Sl v (some ⟨gd, 0, none⟩) P.length md P) := (fun v hv => ⟨((FB.new w5 (.slice Ad LD cd) (.int .i64 W) (.int .i64 H) (.int .i64 M) (.slice (some ⟨gd, 0, none⟩) P.length md)).below hv (by simp)).cells.1, (hde.out _ _ _ _ (ho)) |>.alloc _ |>.below hv (Nat.le_refl _), ((hbl.sl0 (n := P.length) (c := md) rfl hkc hcm).alloc _).below hv (Nat.le_refl _)⟩); obtain ⟨⟨d0, d1, d2, d3, d4⟩, dE, dS⟩ := hfd.out _ (Below.refl _ _))
    | (go_at_call 15; refine (hck.out _ hE hS).mono ?_; rintro e w6 ⟨rfl, hb6'⟩; have hB6 := hB5.trans (hb6'.mono hB5.size); have hp6 := hp5.trans (hb6'.mono hp5.size); have hd6 := hb6'; clear x0 x1 x2 x3 x4 xk hE hS hK xv; obtain ⟨⟨x0, x1, x2, x3, x4⟩, ⟨xk, xv⟩, hE, hS, hK⟩ := hcel.out _ hB6; clear p0 p1 p2 p3 p4 pE pS; obtain ⟨⟨p0, p1, p2, p3, p4⟩, pE, pS⟩ := hfp.out _ hp6; clear d0 d1 d2 d3 d4 dE dS; obtain ⟨⟨d0, d1, d2, d3, d4⟩, dE, dS⟩ := hfd.out _ hd6)
    | (go_at_call 39; refine (hix.out _ hE hK).mono ?_; rintro e w7 ⟨rfl, hb7'⟩; have hB7 := hB6.trans (hb7'.mono hB6.size); have hp7 := hp6.trans (hb7'.mono hp6.size); have hd7 := hd6.trans (hb7'.mono hd6.size); clear x0 x1 x2 x3 x4 xk hE hS hK xv; obtain ⟨⟨x0, x1, x2, x3, x4⟩, ⟨xk, xv⟩, hE, hS, hK⟩ := hcel.out _ hB7; clear p0 p1 p2 p3 p4 pE pS; obtain ⟨⟨p0, p1, p2, p3, p4⟩, pE, pS⟩ := hfp.out _ hp7; clear d0 d1 d2 d3 d4 dE dS; obtain ⟨⟨d0, d1, d2, d3, d4⟩, dE, dS⟩ := hfd.out _ hd7)
    | (go_at_call 42; refine (hcl.out _ hE).mono ?_; rintro e w8 ⟨AR, cR, rfl, ho8, hb8'⟩; have hB8 := hB7.trans (hb8'.mono hB7.size); have hp8 := hp7.trans (hb8'.mono hp7.size); have hd8 := hd7.trans (hb8'.mono hd7.size); clear x0 x1 x2 x3 x4 xk hE hS hK xv; obtain ⟨⟨x0, x1, x2, x3, x4⟩, ⟨xk, xv⟩, hE, hS, hK⟩ := hcel.out _ hB8; clear p0 p1 p2 p3 p4 pE pS; obtain ⟨⟨p0, p1, p2, p3, p4⟩, pE, pS⟩ := hfp.out _ hp8; clear d0 d1 d2 d3 d4 dE dS; obtain ⟨⟨d0, d1, d2, d3, d4⟩, dE, dS⟩ := hfd.out _ hd8; obtain ⟨gR, rfl, hgR, hgR2, -⟩ := own_at ho8 (by omega); have hz8 := hB7.size; simp only [World.size_alloc] at hz8)
    | (go_at_call 41; refine (DeleteK_yes 43 (w.heap.size + 1) k enters_key2 (key2_pred _ _) w7.heap.size gR E.length cR p E _ ho8 rfl hpn hke hun.out hn hsz.out hK (by omega)).mono ?_; rintro e w9 ⟨rfl, hR9, hk9⟩; have hb9' : Below w7.heap.size w8 w9 := hk9.below hgR (by omega); have hB9 := hB8.trans (hb9'.mono hB7.size); have hp9 := hp8.trans (hb9'.mono hp7.size); have hd9 := hd8.trans (hb9'.mono hd7.size); clear x0 x1 x2 x3 x4 xk hE hS hK xv; obtain ⟨⟨x0, x1, x2, x3, x4⟩, ⟨xk, xv⟩, hE, hS, hK⟩ := hcel.out _ hB9; clear p0 p1 p2 p3 p4 pE pS; obtain ⟨⟨p0, p1, p2, p3, p4⟩, pE, pS⟩ := hfp.out _ hp9; clear d0 d1 d2 d3 d4 dE dS; obtain ⟨⟨d0, d1, d2, d3, d4⟩, dE, dS⟩ := hfd.out _ hd9)
    | (go_at_call 35; refine (hsd.out _ _ _ _ _ _ _ dE dS (hre.out _ _ _ _ hR9) hS).mono ?_; rintro e w10 ⟨rfl, hb10'⟩; have hB10 := hB9.trans (hb10'.mono hB9.size); have hp10 := hp9.trans (hb10'.mono hp9.size); have hd10 := hd9.trans (hb10'.mono hd9.size); clear x0 x1 x2 x3 x4 xk hE hS hK xv; obtain ⟨⟨x0, x1, x2, x3, x4⟩, ⟨xk, xv⟩, hE, hS, hK⟩ := hcel.out _ hB10; clear p0 p1 p2 p3 p4 pE pS; obtain ⟨⟨p0, p1, p2, p3, p4⟩, pE, pS⟩ := hfp.out _ hp10; clear d0 d1 d2 d3 d4 dE dS; obtain ⟨⟨d0, d1, d2, d3, d4⟩, dE, dS⟩ := hfd.out _ hd10; have hR10 := own_bel hR9 hb10')
    | (go_at_call 44; refine (hky.out _).mono ?_; rintro e w11 ⟨rfl, hb11'⟩; have hB11 := hB10.trans (hb11'.mono hB10.size); have hp11 := hp10.trans (hb11'.mono hp10.size); have hd11 := hd10.trans (hb11'.mono hd10.size); clear x0 x1 x2 x3 x4 xk hE hS hK xv; obtain ⟨⟨x0, x1, x2, x3, x4⟩, ⟨xk, xv⟩, hE, hS, hK⟩ := hcel.out _ hB11; clear p0 p1 p2 p3 p4 pE pS; obtain ⟨⟨p0, p1, p2, p3, p4⟩, pE, pS⟩ := hfp.out _ hp11; clear d0 d1 d2 d3 d4 dE dS; obtain ⟨⟨d0, d1, d2, d3, d4⟩, dE, dS⟩ := hfd.out _ hd11; have hR11 := own_bel hR10 hb11')
    | (go_at_call 45; refine (hvl.out _).mono ?_; rintro e w12 ⟨rfl, hb12'⟩; have hB12 := hB11.trans (hb12'.mono hB11.size); have hp12 := hp11.trans (hb12'.mono hp11.size); have hd12 := hd11.trans (hb12'.mono hd11.size); clear x0 x1 x2 x3 x4 xk hE hS hK xv; obtain ⟨⟨x0, x1, x2, x3, x4⟩, ⟨xk, xv⟩, hE, hS, hK⟩ := hcel.out _ hB12; clear p0 p1 p2 p3 p4 pE pS; obtain ⟨⟨p0, p1, p2, p3, p4⟩, pE, pS⟩ := hfp.out _ hp12; clear d0 d1 d2 d3 d4 dE dS; obtain ⟨⟨d0, d1, d2, d3, d4⟩, dE, dS⟩ := hfd.out _ hd12; have hR12 := own_bel hR11 hb12'))
  rw [hRD] at hR12
  have hRE := hrE.out _ _ _ _ hR12
  have hRlen := hrle.out
  have hcR1 := hRE.2.1
  have hcR2 := hRE.2.2.1
  have hpR : p ≤ (E.length - 1) := by have := hrl.out.1; omega
  replace hRlen := Lib.hid hRlen
  go_wp2
  go_loopw [16] (fun i wr => ∃ m z : Nat, m ≤ p ∧ i = .int .i64 m ∧ wr = w12.drewN z) (fun i _ => p - (intOf i).toNat)
  case atStart => exact ⟨0, 0, Nat.zero_le _, rfl, rfl⟩
  case round =>
    obtain ⟨m, z, hm, rfl, rfl⟩ := hrel
    by_cases hlt : m < p
    · obtain ⟨b, off, e, -, hc⟩ := hRE.at_ (by omega)
      cases e
      obtain ⟨c0, -⟩ := hc m (by omega)
      clear hc
      (try simp only [Nat.zero_add] at c0)
      obtain ⟨m2, hm2⟩ : ∃ m2, m * 2 = m2 := ⟨_, rfl⟩
      obtain ⟨y, hy⟩ : ∃ y, keyAt RD m = y := ⟨_, rfl⟩
      rw [hm2, hy] at c0
      have hless := hrl.out.2.1 m hlt
      rw [hy] at hless
      unfold less at hless
      replace hy := Lib.hid hy
      have hmi : (m : Int) < (((E.length - 1) : Nat) : Int) := by omega
      have hmn : m < (E.length - 1) := by omega
      go_wp2
      go_quiet (fail)
      go_wp2
      go_roundw
      case rel => exact ⟨m + 1, _, hlt, by go_num, rfl⟩
      case measure => simp [intOf]; omega
    · obtain rfl : m = p := by omega
      by_cases hin : m < (E.length - 1)
      · obtain ⟨b, off, e, -, hc⟩ := hRE.at_ (by omega)
        cases e
        obtain ⟨c0, -⟩ := hc m (by omega)
        clear hc
        (try simp only [Nat.zero_add] at c0)
        obtain ⟨y, hy⟩ : ∃ y, keyAt RD m = y := ⟨_, rfl⟩
        have hm2 := hpq
        rw [hm2, hy] at c0
        clear hm2
        have hless := hrl.out.2.2 (by rw [hRlen.out]; exact hin)
        rw [hy] at hless
        unfold less at hless
        replace hy := Lib.hid hy
        have hmi : (m : Int) < (((E.length - 1) : Nat) : Int) := by omega
        go_wp2
        go_quiet (fail)
        go_upto_region 28 with fail
        obtain ⟨wv, hwv⟩ : ∃ v, (w12.drewN z).drewN nq = v := ⟨_, rfl⟩
        have hEv : En wv (some ⟨gR, 0, none⟩) (E.length - 1) cR RD := hwv ▸ (show En ((w12.drewN z).drewN nq) (some ⟨gR, 0, none⟩) (E.length - 1) cR RD from hRE)
        have hBv := hwv ▸ below_drewN (below_drewN hB12 z) nq
        have hpv := hwv ▸ below_drewN (below_drewN hp12 z) nq
        have xk' : wv.cell? ⟨w.heap.size + 1, 0, none⟩ = some (.string k) := hwv ▸ (show ((w12.drewN z).drewN nq).cell? ⟨w.heap.size + 1, 0, none⟩ = some (.string k) from xk)
        rw [hwv]
        clear hwv x0 x1 x2 x3 x4 xk p0 p1 p2 p3 p4
        obtain ⟨⟨x0, x1, x2, x3, x4⟩, xk, hE, hS, hK⟩ := hcel.out _ hBv
        obtain ⟨⟨p0, p1, p2, p3, p4⟩, pE, pS⟩ := hfp.out _ hpv
        have hnR : (E.length - 1) ≤ 1000000 := by omega
        have hnE : Hid ((E.length - 1) = RD.length) := Lib.hid hrle.out.symm
        have hpn9 : Hid (∀ v B Aq cq, v.ownsRow B 68 2 (.slice Aq ((E.length - 1) + 1) cq) ((E.length - 1) + 1) (ecells (put RD m (k, u))) → En v Aq ((E.length - 1) + 1) cq PL) := Lib.hid (fun v B Aq cq ho => by rw [hPL.out, ← hLN.out] at ho; rw [← hLN.out]; exact hpe.out _ _ _ _ ho)
        have hEvh := Lib.hid hEv
        clear hEv
        go_region_with (first
          | (go_at_call 42; refine (CloneE_any _ _ _ RD _ (by first | exact hEvh.out | exact hEvh.out.alloc (.cells #[.string k, .string u] 68)) hnR).mono ?_; rintro e wc ⟨Ac, cc, rfl, hoc, hbc⟩; have hwc : Hid (Below wv.heap.size wv wc) := (by first | exact ⟨hbc.os, hbc.tape, hbc.output, hbc.size, hbc.block⟩ | exact ((Below.refl wv.heap.size wv).alloc (Nat.le_refl _) (.cells #[.string k, .string u] 68)).trans (Below.mono (show Below (wv.alloc (.cells #[.string k, .string u] 68)).heap.size (wv.alloc (.cells #[.string k, .string u] 68)) wc from ⟨hbc.os, hbc.tape, hbc.output, hbc.size, hbc.block⟩) (by simp))); have hoc' : wc.ownsRow wv.heap.size 68 2 (.slice Ac (E.length - 1) cc) (E.length - 1) (ecells RD) := (by first | exact hoc | exact own_mono hoc (by show wv.heap.size ≤ (wv.alloc (.cells #[.string k, .string u] 68)).heap.size; rw [World.size_alloc]; exact Nat.le_succ _)); have hBc := hBv.trans (hwc.out.mono hBv.size); clear x0 x1 x2 x3 x4 xk hE hS hK; obtain ⟨⟨x0, x1, x2, x3, x4⟩, xk, hE, hS, hK⟩ := hcel.out _ hBc)
          | (go_at_call 46; refine (InsertE_any wv.heap.size (E.length - 1) cc m Ac RD k u _ _ (by first | exact hoc' | exact World.ownsRow.alloc hoc' _) (by first | rfl | exact hnE.out) hnR (by first | exact hpR | omega) (by have h9 := hwc.out.size; first | exact h9 | (rw [World.size_alloc]; omega)) (by intro q e; have hq := World.ownsRow.lt hoc q (by rw [e]; rfl); first | exact Nat.ne_of_lt hq.2 | (intro e2; have h1 : (wv.alloc (.cells #[.string k, .string u] 68)).heap.size ≤ q := hq.1; rw [World.size_alloc] at h1; have e3 : q = wv.heap.size := e2; omega)) (by first | exact heap_alloc_new _ _ | exact (hbc.block wv.heap.size (by show wv.heap.size < (wv.alloc (.cells #[.string k, .string u] 68)).heap.size; rw [World.size_alloc]; exact Nat.lt_succ_self _)).trans (heap_alloc_new wv (.cells #[.string k, .string u] 68)))).mono ?_; rintro e wz ⟨qz, cz, rfl, hoz, hkz⟩; have hwz : Hid (Below wv.heap.size wv wz) := (by first | exact hwc.out.grown hkz hwc.out.size (fun b hb => (World.ownsRow.lt hoc' b hb).1) | exact (hwc.out.alloc hwc.out.size (.cells #[.string k, .string u] 68)).grown hkz (by rw [World.size_alloc]; have := hwc.out.size; omega) (fun b hb => (World.ownsRow.lt hoc' b hb).1)); have hBz := hBv.trans (hwz.out.mono hBv.size); have hpz := hpv.trans (hwz.out.mono hpv.size); clear x0 x1 x2 x3 x4 xk hE hS hK p0 p1 p2 p3 p4 pE pS; obtain ⟨⟨x0, x1, x2, x3, x4⟩, xk, hE, hS, hK⟩ := hcel.out _ hBz; obtain ⟨⟨p0, p1, p2, p3, p4⟩, pE, pS⟩ := hfp.out _ hpz; have hEz := Lib.hid (hpn9.out _ _ _ _ hoz)))
        all_goals
          go_wp2_with (go_at_call 35; refine (hsp.out _ _ _ _ _ _ _ pE pS hEz.out hS).mono ?_; rintro e wy ⟨rfl, hby⟩; have hBy := hBz.trans (hby.mono hBz.size))
          go_ret
          exact ⟨ret_bool (by first | rfl | simp), hb0.trans (hBy.mono hb0.size)⟩

      · have hmi : ¬ (m : Int) < (((E.length - 1) : Nat) : Int) := by omega
        have hmi2 : decide ((m : Int) < (((E.length - 1) : Nat) : Int)) = false := decide_eq_false hmi
        go_wp2
        go_quiet (fail)
        go_upto_region 28 with fail
        obtain ⟨wv, hwv⟩ : ∃ v, (w12.drewN z).drewN nq = v := ⟨_, rfl⟩
        have hEv : En wv (some ⟨gR, 0, none⟩) (E.length - 1) cR RD := hwv ▸ (show En ((w12.drewN z).drewN nq) (some ⟨gR, 0, none⟩) (E.length - 1) cR RD from hRE)
        have hBv := hwv ▸ below_drewN (below_drewN hB12 z) nq
        have hpv := hwv ▸ below_drewN (below_drewN hp12 z) nq
        have xk' : wv.cell? ⟨w.heap.size + 1, 0, none⟩ = some (.string k) := hwv ▸ (show ((w12.drewN z).drewN nq).cell? ⟨w.heap.size + 1, 0, none⟩ = some (.string k) from xk)
        rw [hwv]
        clear hwv x0 x1 x2 x3 x4 xk p0 p1 p2 p3 p4
        obtain ⟨⟨x0, x1, x2, x3, x4⟩, xk, hE, hS, hK⟩ := hcel.out _ hBv
        obtain ⟨⟨p0, p1, p2, p3, p4⟩, pE, pS⟩ := hfp.out _ hpv
        have hnR : (E.length - 1) ≤ 1000000 := by omega
        have hnE : Hid ((E.length - 1) = RD.length) := Lib.hid hrle.out.symm
        have hpn9 : Hid (∀ v B Aq cq, v.ownsRow B 68 2 (.slice Aq ((E.length - 1) + 1) cq) ((E.length - 1) + 1) (ecells (put RD m (k, u))) → En v Aq ((E.length - 1) + 1) cq PL) := Lib.hid (fun v B Aq cq ho => by rw [hPL.out, ← hLN.out] at ho; rw [← hLN.out]; exact hpe.out _ _ _ _ ho)
        have hEvh := Lib.hid hEv
        clear hEv
        go_region_with (first
          | (go_at_call 42; refine (CloneE_any _ _ _ RD _ (by first | exact hEvh.out | exact hEvh.out.alloc (.cells #[.string k, .string u] 68)) hnR).mono ?_; rintro e wc ⟨Ac, cc, rfl, hoc, hbc⟩; have hwc : Hid (Below wv.heap.size wv wc) := (by first | exact ⟨hbc.os, hbc.tape, hbc.output, hbc.size, hbc.block⟩ | exact ((Below.refl wv.heap.size wv).alloc (Nat.le_refl _) (.cells #[.string k, .string u] 68)).trans (Below.mono (show Below (wv.alloc (.cells #[.string k, .string u] 68)).heap.size (wv.alloc (.cells #[.string k, .string u] 68)) wc from ⟨hbc.os, hbc.tape, hbc.output, hbc.size, hbc.block⟩) (by simp))); have hoc' : wc.ownsRow wv.heap.size 68 2 (.slice Ac (E.length - 1) cc) (E.length - 1) (ecells RD) := (by first | exact hoc | exact own_mono hoc (by show wv.heap.size ≤ (wv.alloc (.cells #[.string k, .string u] 68)).heap.size; rw [World.size_alloc]; exact Nat.le_succ _)); have hBc := hBv.trans (hwc.out.mono hBv.size); clear x0 x1 x2 x3 x4 xk hE hS hK; obtain ⟨⟨x0, x1, x2, x3, x4⟩, xk, hE, hS, hK⟩ := hcel.out _ hBc)
          | (go_at_call 46; refine (InsertE_any wv.heap.size (E.length - 1) cc m Ac RD k u _ _ (by first | exact hoc' | exact World.ownsRow.alloc hoc' _) (by first | rfl | exact hnE.out) hnR (by first | exact hpR | omega) (by have h9 := hwc.out.size; first | exact h9 | (rw [World.size_alloc]; omega)) (by intro q e; have hq := World.ownsRow.lt hoc q (by rw [e]; rfl); first | exact Nat.ne_of_lt hq.2 | (intro e2; have h1 : (wv.alloc (.cells #[.string k, .string u] 68)).heap.size ≤ q := hq.1; rw [World.size_alloc] at h1; have e3 : q = wv.heap.size := e2; omega)) (by first | exact heap_alloc_new _ _ | exact (hbc.block wv.heap.size (by show wv.heap.size < (wv.alloc (.cells #[.string k, .string u] 68)).heap.size; rw [World.size_alloc]; exact Nat.lt_succ_self _)).trans (heap_alloc_new wv (.cells #[.string k, .string u] 68)))).mono ?_; rintro e wz ⟨qz, cz, rfl, hoz, hkz⟩; have hwz : Hid (Below wv.heap.size wv wz) := (by first | exact hwc.out.grown hkz hwc.out.size (fun b hb => (World.ownsRow.lt hoc' b hb).1) | exact (hwc.out.alloc hwc.out.size (.cells #[.string k, .string u] 68)).grown hkz (by rw [World.size_alloc]; have := hwc.out.size; omega) (fun b hb => (World.ownsRow.lt hoc' b hb).1)); have hBz := hBv.trans (hwz.out.mono hBv.size); have hpz := hpv.trans (hwz.out.mono hpv.size); clear x0 x1 x2 x3 x4 xk hE hS hK p0 p1 p2 p3 p4 pE pS; obtain ⟨⟨x0, x1, x2, x3, x4⟩, xk, hE, hS, hK⟩ := hcel.out _ hBz; obtain ⟨⟨p0, p1, p2, p3, p4⟩, pE, pS⟩ := hfp.out _ hpz; have hEz := Lib.hid (hpn9.out _ _ _ _ hoz)))
        all_goals
          go_wp2_with (go_at_call 35; refine (hsp.out _ _ _ _ _ _ _ pE pS hEz.out hS).mono ?_; rintro e wy ⟨rfl, hby⟩; have hBy := hBz.trans (hby.mono hBz.size))
          go_ret
          exact ⟨ret_bool (by first | rfl | simp), hb0.trans (hBy.mono hb0.size)⟩



end Go.Proofs.Ytfkoboljobghkaa
