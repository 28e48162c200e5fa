/-
  Walk: the law's file.
-/
import Derived.Test.YtcnlghkdhpgnmaaFrWd
import Derived.Test.YtcnlghkdhpgnmaaFrLr
import Derived.Test.YtcnlghkdhpgnmaaFrSz
import Derived.Test.YtcnlghkdhpgnmaaFrBl
import Derived.Test.YtcnlghkdhpgnmaaFrRf
import Derived.Deep.RegionHeldLaw
set_option linter.unusedSimpArgs false
set_option linter.unusedVariables false
namespace Go.Proofs.Ytcnlghkdhpgnmaa
open Go.RowKit Go.Shelf

def slen9 : Value → Nat
  | .string s => s.size
  | _ => 0
set_option maxRecDepth 100000 in
theorem st48 (V : World) : (convert 21 9 (.int .i32 48)).run Try.prog V = .ok (.string ⟨#[48]⟩) V := by rfl
set_option maxRecDepth 100000 in
theorem st49 (V : World) : (convert 21 9 (.int .i32 49)).run Try.prog V = .ok (.string ⟨#[49]⟩) V := by rfl
theorem Kx.frame {B g k : Nat} {w w' : World} (h : Kx B g w w') {cs : Array Value} (hb : w.heap[k]? = some (.cells cs 27 (0, 0))) (hne : k ≠ g) : w'.heap[k]? = some (.cells cs 27 (0, 0)) :=
  (h.2.2 k (Array.getElem?_eq_some_iff.1 hb).1 hne (fun cs fr e => by rw [hb] at e; cases e)).trans hb

set_option maxRecDepth 100000 in
set_option maxHeartbeats 12800000 in
theorem lfile_any (A : Option Addr) (n c : Nat) (E : List Ent) (W H : Nat) (M : Int) (gA offA n2 c2 : Nat) (P : List Int) (w : World) (h : En w A n c E) (h2 : Sl w (some ⟨gA, offA, none⟩) n2 c2 P) (hg : Good W H M P E) :
    Calls Try.prog 33 #[.agg #[.slice A n c, .int .i64 (W : Int), .int .i64 (H : Int), .int .i64 M, .slice (some ⟨gA, offA, none⟩) n2 c2]] w fun e w' =>
      ∃ r c', e = .returned (.slice (some ⟨r, 0, none⟩) (fileB E W H M P).length c') ∧ Ob w' w.heap.size r c' (fileB E W H M P) ∧ Below w.heap.size w w' := by
  obtain ⟨hr, hm⟩ := hg
  have hb0 := (Below.refl w.heap.size w).alloc (Nat.le_refl _) (.cells #[.slice A n c, .int .i64 (W : Int), .int .i64 (H : Int), .int .i64 M, .slice (some ⟨gA, offA, none⟩) n2 c2] 27)
  have hn := Lib.hid (fun v (hb : Below w.heap.size w v) => h.below hb (Nat.le_refl _))
  have hs := Lib.hid (fun v (hb : Below w.heap.size w v) => h2.below hb (Nat.le_refl _))
  have hlenE := Lib.hid h.1
  have hcapE := h.2.1
  have hclE := h.2.2.1
  have hlenP := Lib.hid h2.len
  have hcapP := h2.le_cap
  have hclP := h2.cap_le
  have hE32 := (metaC_zero hm).1
  have hn32 : n ≤ 32 := by have := h.1; omega
  obtain ⟨⟨⟨w1', w2'⟩, ⟨v1', v2'⟩, m1, m2⟩, har, hP⟩ := id hr
  have hme := Lib.hid (metaC_zero hm).2
  have hml := Lib.hid (ents_length hm)
  have hras := Lib.hid hr
  replace hP := Lib.hid hP
  replace hm := Lib.hid hm
  have hconv := Lib.run_convert_bytes_const (P := Try.prog) (w.alloc (.cells #[.slice A n c, .int .i64 (W : Int), .int .i64 (H : Int), .int .i64 M, .slice (some ⟨gA, offA, none⟩) n2 c2] 27)) 53 5 #[.int .u8 70, .int .u8 82, .int .u8 65, .int .u8 77, .int .u8 69, .int .u8 49, .int .u8 10] 7 7 Try.underlying53 Try.underlying5
  simp only [List.size_toArray, List.length_cons, List.length_nil, Nat.reduceAdd, World.size_alloc] at hconv
  clear h h2 hr har
  have hfb0 : ((w.alloc (.cells #[.slice A n c, .int .i64 (W : Int), .int .i64 (H : Int), .int .i64 M, .slice (some ⟨gA, offA, none⟩) n2 c2] 27)).alloc (.cells #[.int .u8 70, .int .u8 82, .int .u8 65, .int .u8 77, .int .u8 69, .int .u8 49, .int .u8 10] 5 (7, 8))).heap[w.heap.size]? = some (.cells #[.slice A n c, .int .i64 (W : Int), .int .i64 (H : Int), .int .i64 M, .slice (some ⟨gA, offA, none⟩) n2 c2] 27 (0, 0)) := by
    rw [Below.heap_alloc _ _ w.heap.size (by simp)]
    exact heap_alloc_new w _
  have hob0 : FS ((w.alloc (.cells #[.slice A n c, .int .i64 (W : Int), .int .i64 (H : Int), .int .i64 M, .slice (some ⟨gA, offA, none⟩) n2 c2] 27)).alloc (.cells #[.int .u8 70, .int .u8 82, .int .u8 65, .int .u8 77, .int .u8 69, .int .u8 49, .int .u8 10] 5 (7, 8))) w.heap.size (w.heap.size + 1) 7 headB := .inr ⟨rfl, fun j u hu => by
    have hX := heap_alloc_new (w.alloc (.cells #[.slice A n c, .int .i64 (W : Int), .int .i64 (H : Int), .int .i64 M, .slice (some ⟨gA, offA, none⟩) n2 c2] 27)) (.cells #[.int .u8 70, .int .u8 82, .int .u8 65, .int .u8 77, .int .u8 69, .int .u8 49, .int .u8 10] 5 (7, 8))
    rw [World.size_alloc] at hX
    rw [Addr.add_lit, Nat.zero_add, cell_of_row _ (w.heap.size + 1) j _ _ _ hX]
    rw [← List.getElem?_toArray] at hu
    exact hu⟩
  have hbB : Below w.heap.size w ((w.alloc (.cells #[.slice A n c, .int .i64 (W : Int), .int .i64 (H : Int), .int .i64 M, .slice (some ⟨gA, offA, none⟩) n2 c2] 27)).alloc (.cells #[.int .u8 70, .int .u8 82, .int .u8 65, .int .u8 77, .int .u8 69, .int .u8 49, .int .u8 10] 5 (7, 8))) := hb0.alloc (by simp) _
  have hst48 := st48
  have hst49 := st49
  go_enter Try.func33, Try.ntmps33
  go_wp2
  go_loopw [3, 23] (fun f i wr => ∃ (k r c' q : Nat) (l : List Int), k ≤ n ∧ i = .int .i64 (k : Int) ∧ f = .slice (some ⟨r, 0, none⟩) q c' ∧ Hid (q = l.length) ∧ Hid (l = headB ++ (E.take k).flatMap ent) ∧ FS wr w.heap.size r c' l ∧ 0 < l.length ∧
    wr.heap[w.heap.size]? = some (.cells #[.slice A n c, .int .i64 (W : Int), .int .i64 (H : Int), .int .i64 M, .slice (some ⟨gA, offA, none⟩) n2 c2] 27 (0, 0)) ∧ Below w.heap.size w wr ∧ w.heap.size + 1 ≤ wr.heap.size) (fun _ i _ => n - (intOf i).toNat)
  case atStart => exact ⟨0, w.heap.size + 1, 7, 7, headB, Nat.zero_le _, rfl, rfl, Lib.hid rfl, Lib.hid (by simp), hob0, by decide, hfb0, hbB, by simp⟩
  case round =>
    clear hob0 hfb0 hbB
    obtain ⟨k, r, c', q, l, hk, rfl, rfl, hql, hl, hob, hl0, hfb, hB, hsz⟩ := hrel
    by_cases hlt : k < n
    · obtain ⟨b, off, rfl, hbw, hc⟩ := (hn.out _ hB).at_ (by omega)
      obtain ⟨c0, c1⟩ := hc k hlt
      clear hc
      obtain ⟨s0, s1⟩ := entC_zero (hme.out k (by rw [← hlenE.out]; exact hlt))
      have htk := Lib.hid (ents_take (E := E) (j := k) (by rw [← hlenE.out]; exact hlt))
      have hll : q ≤ 10000 := by
        rw [hql.out, hl.out, List.length_append]
        have := hml.out k (by rw [← hlenE.out]; exact hk)
        have h7 : headB.length = 7 := rfl
        omega
      obtain ⟨ks, hks⟩ : ∃ s, keyAt E k = s := ⟨_, rfl⟩
      obtain ⟨vs, hvs⟩ : ∃ s, valAt E k = s := ⟨_, rfl⟩
      rw [hks] at c0 s0 htk
      rw [hvs] at c1 s1 htk
      obtain ⟨p, hp⟩ : ∃ p, k * 2 = p := ⟨_, rfl⟩
      rw [hp] at c0 c1
      have z1 : (ks ++ (⟨#[32]⟩ : ByteArray)).size ≤ 1000 := by rw [ByteArray.size_append]; show ks.size + 1 ≤ 1000; omega
      have z2 : (ks ++ (⟨#[32]⟩ : ByteArray) ++ vs).size ≤ 1000 := by rw [ByteArray.size_append, ByteArray.size_append]; show ks.size + 1 + vs.size ≤ 1000; omega
      have z3 : (ks ++ (⟨#[32]⟩ : ByteArray) ++ vs ++ ⟨#[10]⟩).size ≤ 1000 := by rw [ByteArray.size_append, ByteArray.size_append, ByteArray.size_append]; show ks.size + 1 + vs.size + 1 ≤ 1000; omega
      replace hks := Lib.hid hks
      replace hvs := Lib.hid hvs
      have z4 : 1 ≤ (ks ++ (⟨#[32]⟩ : ByteArray) ++ vs ++ ⟨#[10]⟩).size := by rw [ByteArray.size_append]; show 1 ≤ _ + 1; omega
      have hql2 := hql.out
      have hlen1 : l.length ≤ 1000000 := by omega
      have hEnt := Lib.hid (ent_txt ks vs)
      replace hob := Lib.hid hob
      clear hql2
      go_wp2_with (at_builtin; refine step_app_str _ rfl _ _ rfl Try.underlying9 w.heap.size r c' q l _ rfl rfl hql.out (hob.out.alloc _) hl0 z4 hlen1 (by omega) (by simp; omega) ?_)
      intro r2 c5 w5 hob5 hk5
      rw [hEnt.out] at hob5
      have hsz5 := (hk5 0).size
      simp only [World.size_alloc] at hsz5
      go_wp2
      refine ⟨⟨k + 1, r2, c5, _, l ++ ent (ks, vs), hlt, by go_num, rfl, Lib.hid ?_, Lib.hid ?_, .inl hob5, by rw [List.length_append]; omega, ?_, (hB.alloc (by omega) _).trans (hk5 0).1, by omega⟩, by simp [intOf]; omega⟩
      · rw [List.length_append, ← hEnt.out, txt_length, ← hql.out, ByteArray.size_append, ByteArray.size_append, ByteArray.size_append]; rfl
      · rw [htk.out, ← List.append_assoc, ← hl.out]
      · exact (hk5 (w.heap.size + 1)).frame ((Below.heap_alloc wr _ w.heap.size (by omega)).trans hfb) (by omega)
    · obtain rfl : n = k := by omega
      obtain ⟨w3, rfl⟩ : ∃ w3, w3 = wr := ⟨_, rfl⟩
      have hD : Hid (l = headB ++ E.flatMap ent) := Lib.hid (by rw [hl.out, List.take_of_length_le (by rw [← hlenE.out]; exact Nat.le_refl _)])
      have hll : q ≤ 10000 := by
        rw [hql.out, hl.out, List.length_append]
        have := hml.out n (by rw [← hlenE.out]; exact hk)
        have h7 : headB.length = 7 := rfl
        omega
      obtain ⟨x0, x1, x2, x3, x4⟩ := cell5 hfb
      have hlq : l.length ≤ 10000 := by rw [← hql.out]; exact hll
      have hfr := Lib.hid (fun g w' (hk : Kx w.heap.size g w3 w') (hne : w.heap.size ≠ g) => hk.frame hfb hne)
      have keepS : ∀ w', Kx w.heap.size (w.heap.size + 1) w3 w' → w'.cell? ⟨w.heap.size, 1, none⟩ = some (.int .i64 (W : Int)) ∧ w'.cell? ⟨w.heap.size, 2, none⟩ = some (.int .i64 (H : Int)) ∧ w'.cell? ⟨w.heap.size, 3, none⟩ = some (.int .i64 M) := fun w' hk => by
        obtain ⟨y0, y1, y2, y3, y4⟩ := cell5 (hfr.out _ _ hk (by omega))
        exact ⟨y1, y2, y3⟩
      replace keepS := Lib.hid keepS
      have hK0 := Kx.refl w.heap.size (w.heap.size + 1) w3
      replace hob := Lib.hid hob
      have hw4 : ∀ n, (word n).length = 4 := fun _ => rfl
      have tok1 : True := trivial
      have tok2 : True := trivial
      have tok3 : True := trivial
      go_wp2
      go_region_held_law (fun w' => w'.cell? ⟨w.heap.size, 1, none⟩ = some (.int .i64 (W : Int)) ∧ w'.cell? ⟨w.heap.size, 2, none⟩ = some (.int .i64 (H : Int)) ∧ w'.cell? ⟨w.heap.size, 3, none⟩ = some (.int .i64 M)) (exact keepS.out _ (by repeat (first | exact hK7 | exact hK6 | exact hK5 | exact hK4 | exact hK0 | refine Kx.drew ?_ | refine Kx.alloc ?_ (by omega) _))) (first
        | (go_at_call 64; have _t := tok1; clear tok1 _t; refine (lword_any w.heap.size r4 c4 _ _ (W : Int) _ hob4.out hq4.out (by simp only [List.length_append, hw4, List.length_cons, List.length_nil]; omega) (by simp only [List.length_append, hw4, List.length_cons, List.length_nil]; omega) (by have := hK4.size; omega) (by omega) (by omega)).mono ?_; rintro e w5 ⟨r5, c5, rfl, hob5, hk5⟩; have hK5 := hK4.trans (hk5 (w.heap.size + 1)); replace hob5 := Lib.hid hob5)
        | (go_at_call 64; have _t := tok2; clear tok2 _t; refine (lword_any w.heap.size r5 c5 _ _ (H : Int) _ hob5.out (by rw [List.length_append, ← hq4.out]; rfl) (by simp only [List.length_append, hw4, List.length_cons, List.length_nil]; omega) (by simp only [List.length_append, hw4, List.length_cons, List.length_nil]; omega) (by have := hK5.size; omega) (by omega) (by omega)).mono ?_; rintro e w6 ⟨r6, c6, rfl, hob6, hk6⟩; have hK6 := hK5.trans (hk6 (w.heap.size + 1)); replace hob6 := Lib.hid hob6)
        | (go_at_call 64; have _t := tok3; clear tok3 _t; refine (lword_any w.heap.size r6 c6 _ _ M _ hob6.out (by rw [List.length_append, List.length_append, ← hq4.out]; rfl) (by simp only [List.length_append, hw4, List.length_cons, List.length_nil]; omega) (by simp only [List.length_append, hw4, List.length_cons, List.length_nil]; omega) (by have := hK6.size; omega) (by omega) (by omega)).mono ?_; rintro e w7 ⟨r7, c7, rfl, hob7, hk7⟩; have hK7 := hK6.trans (hk7 (w.heap.size + 1)); replace hob7 := Lib.hid hob7)
        | (refine step_app_rowR _ rfl _ _ rfl w.heap.size r c' q l [10] w3.heap.size 0 1 1 rfl rfl hql.out rfl (hob.out.alloc _) hl0 (by decide) (by omega) (by decide) (by simp; omega) (new_four _ _ _ _ rfl rfl) ?_; intro r4 c4 w4 hob4 hk4; have hK4 := (hK0.drew.alloc (by omega) _).trans (hk4 (w.heap.size + 1)); have hq4 : Hid (q + 1 = (l ++ [10]).length) := Lib.hid (by rw [List.length_append, ← hql.out]; rfl); replace hob4 := Lib.hid hob4))
      obtain ⟨D, hDD⟩ : ∃ D, l ++ [10] ++ word (W : Int) ++ word (H : Int) ++ word M = D := ⟨_, rfl⟩
      have hDl : q + 1 + 4 + 4 + 4 = D.length := by rw [← hDD]; simp only [List.length_append, hw4, List.length_cons, List.length_nil]; rw [← hql.out]
      obtain ⟨qd, hqd⟩ : ∃ x, q + 1 + 4 + 4 + 4 = x := ⟨_, rfl⟩
      rw [hqd] at hDl ⊢
      have hob8 := hob7.out
      rw [hDD] at hob8
      have hDb : D.length ≤ 10100 := by omega
      have hD0 : 0 < D.length := by omega
      have hfb7 := hK7.frame hfb (by omega)
      have hB7 : Below w.heap.size w w7 := hB.trans hK7.1
      have hsz7 := hK7.size
      have hWe : Hid (D = headB ++ E.flatMap ent ++ [10] ++ word W ++ word H ++ word M) := Lib.hid (by rw [← hDD, hD.out])
      have hcR := fun v hv => lresiduals_bl W H M (some ⟨gA, offA, none⟩) n2 c2 P v hv hras.out
      have hRrow := residuals_row hras.out
      have hRl := residuals_length W M P
      have hWe2 : Hid (fileB E W H M P = D ++ (List.range H).flatMap fun y => rowB (rowOf W (residuals W M P) y)) := Lib.hid (by rw [hWe.out]; rfl)
      obtain ⟨R, hR⟩ : ∃ R, residuals W M P = R := ⟨_, rfl⟩
      rw [hR] at hcR hRrow hRl hWe2
      replace hcR := Lib.hid hcR
      replace hRrow := Lib.hid hRrow
      have hRn : Hid (n2 = R.length) := Lib.hid (by rw [hRl]; exact hlenP.out)
      have hWH : H * W = n2 := by
        have h1 := hras.out.2.1
        rw [← hlenP.out] at h1
        have : ((H * W : Nat) : Int) = (n2 : Int) := by rw [h1]; simp [Int.mul_comm]
        omega
      have hn24 : n2 ≤ 4096 := by
        rw [← hWH]
        exact Nat.mul_le_mul (show H ≤ 64 by omega) (show W ≤ 64 by omega)
      replace hWH := Lib.hid hWH
      replace hqd := Lib.hid hqd
      replace hDl := Lib.hid hDl
      replace hDD := Lib.hid hDD
      replace hR := Lib.hid hR
      replace hob8 := Lib.hid hob8
      have hrs7 := hob8.out.facts.2.1
      clear hob hob4 hob5 hob6 hob7 hK0 hK4 hK5 hK6 hk4 hk5 hk6 hk7 x0 x1 x2 x3 x4 hq4 hRl hl0 hll hlq hql hl hw4 keepS hfr hK7 hfb hB hconv hb0
      obtain ⟨x0, x1, x2, x3, x4⟩ := cell5 hfb7
      go_wp2_with (go_at_call 20; refine (hcR.out _ (hs.out _ hB7)).mono ?_; rintro e w8 ⟨g8, c8, rfl, hbl8, hc8, hc8m, hg8, hb8⟩; have hfb8 := (hb8.block w.heap.size (by omega)).trans hfb7; clear x0 x1 x2 x3 x4; obtain ⟨x0, x1, x2, x3, x4⟩ := cell5 hfb8)
      have hob9 := Lib.hid (hob8.out.keep (hb8.block r7 hrs7))
      have hB8 : Below w.heap.size w w8 := hB7.trans (hb8.mono (by omega))
      have hsz8 := hb8.size
      clear x0 x1 x2 x3 x4 hob8
      go_loopw [3, 58] (fun f i wr => ∃ (y r c' q : Nat) (l : List Int), y ≤ H ∧ i = .int .i64 (y : Int) ∧ f = .slice (some ⟨r, 0, none⟩) q c' ∧ Hid (q = l.length) ∧ Hid (l = D ++ (List.range y).flatMap fun y => rowB (rowOf W R y)) ∧ Hid (Ob wr w.heap.size r c' l) ∧ 0 < l.length ∧ l.length ≤ 10100 + y * 140 ∧ wr.heap[w.heap.size]? = some (.cells #[.slice A n c, .int .i64 (W : Int), .int .i64 (H : Int), .int .i64 M, .slice (some ⟨gA, offA, none⟩) n2 c2] 27 (0, 0)) ∧ Bl wr g8 R ∧ Below w.heap.size w wr ∧ w.heap.size + 1 ≤ wr.heap.size) (fun _ i _ => H - (intOf i).toNat)
      case atStart => exact ⟨0, r7, c7, qd, D, Nat.zero_le _, rfl, rfl, hDl, Lib.hid (by simp), hob9, hD0, by omega, hfb8, hbl8, hB8, by omega⟩
      case round =>
        clear hob9 hfb8 hbl8 hB8 hfb7 hB7
        obtain ⟨y, r, c', q, l, hy, rfl, rfl, hql, hl, hob, hl0, hlb, hfb, hbl, hB, hsz⟩ := hrel
        obtain ⟨x0, x1, x2, x3, x4⟩ := cell5 hfb
        by_cases hly : y < H
        · obtain ⟨q1, hq1⟩ : ∃ q1, y * W = q1 := ⟨_, rfl⟩
          have hqn : q1 + W ≤ n2 := by rw [← hWH.out, ← hq1, ← Nat.succ_mul]; exact Nat.mul_le_mul_right _ hly
          have hqi : (y : Int) * (W : Int) = (q1 : Int) := by rw [← hq1]; simp
          have hqj : ((y : Int) + 1) * (W : Int) = (q1 : Int) + (W : Int) := by rw [Int.add_mul, hqi, Int.one_mul]
          obtain ⟨rl, hrl⟩ : ∃ rl, rowOf W R y = rl := ⟨_, rfl⟩
          have hrl1 : (R.drop q1).take W = rl := by rw [← hrl, ← hq1]; rfl
          have hrll : rl.length = W := by rw [← hrl1, List.length_take, List.length_drop, ← hRn.out]; omega
          have hrow : Hid (Row rl) := Lib.hid (hrl ▸ row_of W hRrow.out y)
          replace hq1 := Lib.hid hq1
          replace hrl := Lib.hid hrl
          have hslr : Hid (∀ v, Bl v g8 R → Sl v (some ⟨g8, q1, none⟩) W (c8 - q1) rl) := Lib.hid (fun v hv => hrl1 ▸ hv.sl (by rw [← hRn.out]; exact hqn) (by omega) (by omega))
          have hbs := lbest_any (some ⟨g8, q1, none⟩) W (c8 - q1) rl wr (hslr.out _ hbl) (by omega) hrow.out
          have hK16 := best_le rl
          have hT1 := codes_len hrow.out (best rl)
          have hT2 := bestTo_least rl 16 16 (Nat.le_refl _)
          rw [bits16 hrow.out] at hT2
          have hT3 : bitsOf rl (bestTo rl 16) = bitsOf rl (best rl) := rfl
          have hRB : Hid (rowB rl = [(best rl : Int)] ++ pack (codes (best rl) rl)) := Lib.hid rfl
          obtain ⟨K, hK⟩ : ∃ K, best rl = K := ⟨_, rfl⟩
          rw [hK] at hbs hK16 hT1 hT3 hRB
          have hT : (codes K rl).length ≤ 1088 := by omega
          have hpre : Hid (∀ j, (codes K (rl.take j)).length ≤ (codes K rl).length) := Lib.hid (fun j => by
            have : codes K rl = codes K (rl.take j) ++ codes K (rl.drop j) := by
              unfold codes; rw [← List.flatMap_append, List.take_append_drop]
            rw [this, List.length_append]; omega)
          have hct := Lib.hid (fun j (hj : j < rl.length) => codes_take (l := rl) K hj)
          replace hrll := Lib.hid hrll
          replace hrl1 := Lib.hid hrl1
          replace hbs := Lib.hid hbs
          replace hK := Lib.hid hK
          replace hT := Lib.hid hT
          have hKu : (K : Int) % 256 = (K : Int) := by omega
          clear hT1 hT2 hT3
          have hl100 : l.length ≤ 100000 := by omega
          go_wp2_with (first
            | (go_at_call 29; refine hbs.out.mono ?_; rintro e w10 ⟨rfl, hb10⟩; have hob10 := Lib.hid (hob.out.keep (hb10.block r hob.out.facts.2.1)); have hs10 := hb10.size)
            | (at_builtin; refine step_app_row _ rfl _ _ rfl w.heap.size r c' q l [(K : Int)] w10.heap.size 0 1 1 rfl rfl hql.out rfl (.inl (hob10.out.alloc _)) hl0 (by show 1 ≤ 1; omega) (by omega) (by show 1 ≤ 1000000; omega) (by simp; omega) (new_four _ _ _ _ rfl rfl) ?_))
          intro r12 c12 w12 hob12 hk12
          have hs12 := (hk12 0).size
          simp only [World.size_alloc] at hs12
          have hk10 : ∀ g, Kx w.heap.size g wr w12 := fun g => ((Kx.of_below hb10 (by omega)).alloc (by omega) _).trans (hk12 g)
          have hfb12 := (hk10 (w.heap.size + 1)).frame hfb (by omega)
          have hbl12 := (hk10 (g8 + 1)).bl hbl (by omega)
          have hB12 : Below w.heap.size w w12 := hB.trans (hk10 0).1
          have hsz12 : w.heap.size + 1 ≤ w12.heap.size := by omega
          have hq12 : Hid (q + 1 = (l ++ [(K : Int)]).length) := Lib.hid (by rw [List.length_append, ← hql.out]; rfl)
          replace hob12 := Lib.hid hob12
          obtain ⟨q12, hqq12⟩ : ∃ x, q + 1 = x := ⟨_, rfl⟩
          rw [hqq12] at hq12 ⊢
          replace hqq12 := Lib.hid hqq12
          clear hob10 hk12 hk10 hb10 x0 x1 x2 x3 x4 hbl hfb hB hob hbs
          obtain ⟨b', off', e', hbw12, hc12⟩ := (hslr.out _ hbl12).at_ (by omega)
          cases e'
          replace hc12 := Lib.hid hc12
          go_wp2
          go_loopw [10, 83] (fun tv io w13 => ∃ (j : Nat) (s : ByteArray), j ≤ W ∧ io = .int .i64 (j : Int) ∧ tv = .string s ∧ Hid (s = btxt (codes K (rl.take j))) ∧ Hid (w12 = w13)) (fun _ io _ => W - (intOf io).toNat)
          case atStart => exact ⟨0, _, Nat.zero_le _, rfl, rfl, Lib.hid (by simp [codes, btxt_nil]), Lib.hid rfl⟩
          case round =>
            obtain ⟨j, s, hj, rfl, rfl, hsb, hww⟩ := hrel
            obtain rfl := hww.out
            by_cases hlj : j < W
            · have hcell := hc12.out j hlj
              have hvr := hrow.out.nth j
              have hcj := hct.out j (by rw [hrll.out]; exact hlj)
              obtain ⟨v, hv⟩ : ∃ v, nth rl j = v := ⟨_, rfl⟩
              rw [hv] at hcell hvr hcj
              have hqr := shr_range hvr.1 K
              obtain ⟨qv, hqv⟩ : ∃ qv : Nat, v / (2 : Int) ^ K = (qv : Int) := ⟨(v / (2 : Int) ^ K).toNat, by omega⟩
              have hcode : Hid (code K v = List.replicate qv 1 ++ [0] ++ low v K) := Lib.hid (by
                unfold code
                rw [← shr_pow, hqv]
                rfl)
              have hlen1 := hpre.out (j + 1)
              rw [hcj, List.length_append, hcode.out] at hlen1
              simp only [List.length_append, List.length_replicate, List.length_cons, List.length_nil, low_length] at hlen1
              obtain ⟨cj, hcjj⟩ : ∃ x, codes K (rl.take j) = x := ⟨_, rfl⟩
              rw [hcjj] at hlen1 hsb hcj
              have hlen2 : cj.length + (qv + 1 + K) ≤ 1088 := by have := hT.out; omega
              replace hlen1 := Lib.hid hlen1
              replace hcj := Lib.hid hcj
              replace hcjj := Lib.hid hcjj
              replace hv := Lib.hid hv
              go_wp2
              try rw [hqv]
              go_loopw [10, 90] (fun tv io w13 => ∃ (p : Nat) (s : ByteArray), p ≤ qv ∧ io = .int .i64 (p : Int) ∧ tv = .string s ∧ Hid (s = btxt (cj ++ List.replicate p 1)) ∧ Hid (w12 = w13)) (fun _ io _ => qv - (intOf io).toNat)
              case atStart => exact ⟨0, _, Nat.zero_le _, rfl, rfl, Lib.hid (by rw [hsb.out]; simp), Lib.hid rfl⟩
              case round =>
                obtain ⟨p, s2, hp, rfl, rfl, hs2, hww⟩ := hrel
                obtain rfl := hww.out
                by_cases hlp : p < qv
                · have hsl2 : s2.size ≤ 1100 := by rw [hs2.out, btxt_size]; simp; omega
                  go_wp2
                  refine ⟨⟨p + 1, _, hlp, by go_num, rfl, Lib.hid ?_, Lib.hid (by first | rfl | trivial)⟩, by simp [intOf]; omega⟩
                  rw [hs2.out, ← btxt_one, btxt_append, List.append_assoc, ← List.replicate_succ']
                · obtain rfl : qv = p := by omega
                  have hsl2 : s2.size ≤ 1100 := by rw [hs2.out, btxt_size]; simp; omega
                  have hs3 : s2 ++ (⟨#[48]⟩ : ByteArray) = btxt (cj ++ (List.replicate qv 1 ++ [0])) := by rw [hs2.out, ← btxt_zero, btxt_append, List.append_assoc]
                  replace hs3 := Lib.hid hs3
                  go_wp2
                  go_loopw [10, 13] (fun tv io w13 => ∃ (p : Nat) (z : Int) (s : ByteArray), p ≤ K ∧ io = .int .i64 z ∧ Hid (z = (K : Int) - 1 - p) ∧ tv = .string s ∧ Hid (s = btxt (cj ++ (List.replicate qv 1 ++ [0] ++ (low v K).take p))) ∧ Hid (w12 = w13)) (fun _ io _ => (intOf io + 1).toNat)
                  case atStart => exact ⟨0, _, _, Nat.zero_le _, rfl, Lib.hid (by simp), rfl, Lib.hid (by rw [hs3.out]; simp), Lib.hid rfl⟩
                  case round =>
                    obtain ⟨p, z, s4, hp, rfl, hz, rfl, hs4, hww⟩ := hrel
                    obtain rfl := hww.out
                    have hs4l : s4.size ≤ 1088 := by rw [hs4.out, btxt_size]; simp [low_length]; omega
                    by_cases hlt2 : p < K
                    · obtain ⟨y2, rfl⟩ : ∃ y2 : Nat, z = (y2 : Int) := ⟨z.toNat, by have := hz.out; omega⟩
                      have hy3 : K - 1 - p = y2 := by have := hz.out; omega
                      have hbit := low_take (v := v) hlt2
                      have hvy := shr_range hvr.1 y2
                      rw [hy3, ← shr_pow, ← and_one hvy.1 (by omega)] at hbit
                      have hyk : y2 ≤ 16 := by omega
                      obtain ⟨b, hb⟩ : ∃ b, bits .and .i64 (v / (2 : Int) ^ y2) 1 = b := ⟨_, rfl⟩
                      have hb2 : b = 0 ∨ b = 1 := by rw [← hb, and_one hvy.1 (by omega)]; omega
                      rw [hb] at hbit
                      have hzz : Hid ((y2 : Int) - 1 = (K : Int) - 1 - ((p + 1 : Nat) : Int)) := Lib.hid (by have := hz.out; omega)
                      have hmm : Hid (((y2 : Int) - 1 + 1).toNat < ((y2 : Int) + 1).toNat) := Lib.hid (by omega)
                      replace hbit := Lib.hid hbit
                      clear hy3
                      rcases hb2 with rfl | rfl
                      · go_wp2
                        refine ⟨⟨p + 1, _, _, hlt2, rfl, hzz, rfl, Lib.hid ?_, Lib.hid (by first | rfl | trivial)⟩, by first | (simp [intOf]; done) | (simp [intOf]; omega)⟩
                        rw [hs4.out, ← btxt_zero, btxt_append, hbit.out]; simp
                      · go_wp2
                        refine ⟨⟨p + 1, _, _, hlt2, rfl, hzz, rfl, Lib.hid ?_, Lib.hid (by first | rfl | trivial)⟩, by first | (simp [intOf]; done) | (simp [intOf]; omega)⟩
                        rw [hs4.out, ← btxt_one, btxt_append, hbit.out]; simp
                    · obtain rfl : K = p := by omega
                      have hfin : Hid (s4 = btxt (codes K (rl.take (j + 1)))) := Lib.hid (by rw [hs4.out, hcj.out, hcode.out, List.take_of_length_le (by rw [low_length]; exact Nat.le_refl _)])
                      have hz2 : ¬ 0 ≤ z := by have := hz.out; omega
                      replace hs4l := Lib.hid hs4l
                      go_wp2
                      exact ⟨⟨j + 1, _, hlj, by go_num, rfl, hfin, Lib.hid (by first | rfl | trivial)⟩, by simp [intOf]; omega⟩
            · obtain rfl : W = j := by omega
              obtain ⟨bs, hbsd⟩ : ∃ bs, codes K rl = bs := ⟨_, rfl⟩
              have hs5 : Hid (s = btxt bs) := Lib.hid (by rw [hsb.out, List.take_of_length_le (by rw [hrll.out]; exact Nat.le_refl _), hbsd])
              have hbsb : Hid (IsBits bs) := Lib.hid (hbsd ▸ codes_bits K rl)
              have hTb : bs.length ≤ 1088 := by rw [← hbsd]; exact hT.out
              rw [hbsd] at hRB
              obtain ⟨N8, hN8⟩ : ∃ x, (bs.length + 7) / 8 = x := ⟨_, rfl⟩
              have hN8a : bs.length ≤ 8 * N8 ∧ 8 * N8 < bs.length + 8 := by omega
              replace hbsd := Lib.hid hbsd
              replace hN8 := Lib.hid hN8
              go_wp2
              go_loopw [10] (fun tv w13 => ∃ (z : Nat) (s : ByteArray), tv = .string s ∧ Hid (s = btxt (bs ++ List.replicate z 0)) ∧ bs.length + z ≤ 8 * N8 ∧ Hid (w12 = w13)) (fun tv _ => 8 * N8 - slen9 tv)
              case atStart => exact ⟨0, _, rfl, Lib.hid (by rw [hs5.out]; simp), by omega, Lib.hid rfl⟩
              case round =>
                obtain ⟨z, s6, rfl, hs6, hz8, hww⟩ := hrel
                obtain rfl := hww.out
                have hsz6 : s6.size = bs.length + z := by rw [hs6.out, btxt_size]; simp
                obtain ⟨sz, hszz⟩ : ∃ x, bs.length + z = x := ⟨_, rfl⟩
                rw [hszz] at hsz6 hz8
                have hszb : sz ≤ 1100 := by omega
                by_cases h8 : sz % 8 = 0
                · have hm8 : ((sz : Int) % 8 != 0) = false := by rw [bne_eq_false_iff_eq]; omega
                  have hsz8e : sz = 8 * N8 := by omega
                  have hpk : Hid (pack (bs ++ List.replicate z 0) = pack bs) := Lib.hid (pack_zeros (by omega))
                  have hbl9 : Hid (IsBits (bs ++ List.replicate z 0)) := Lib.hid (hbsb.out.append (IsBits.zeros z))
                  have hbl8 : (bs ++ List.replicate z 0).length = sz := by rw [List.length_append, List.length_replicate]; exact hszz
                  obtain ⟨bp, hbp⟩ : ∃ x, bs ++ List.replicate z 0 = x := ⟨_, rfl⟩
                  rw [hbp] at hpk hbl9 hbl8 hs6
                  have hbl8' := Lib.hid hbl8
                  replace hszz := Lib.hid hszz
                  replace hbp := Lib.hid hbp
                  replace hsz8e := Lib.hid hsz8e
                  clear hbl8 h8
                  go_wp2
                  go_loopw [3, 14] (fun f io w13 => ∃ (m e r c' q : Nat) (l2 : List Int), Hid (e = 8 * m) ∧ e ≤ sz ∧ io = .int .i64 (e : Int) ∧ f = .slice (some ⟨r, 0, none⟩) q c' ∧ Hid (q = l2.length) ∧ Hid (l2 = l ++ [(K : Int)] ++ (pack bp).take m) ∧ Hid (Ob w13 w.heap.size r c' l2) ∧ 0 < l2.length ∧ w13.heap[w.heap.size]? = some (.cells #[.slice A n c, .int .i64 (W : Int), .int .i64 (H : Int), .int .i64 M, .slice (some ⟨gA, offA, none⟩) n2 c2] 27 (0, 0)) ∧ Bl w13 g8 R ∧ Below w.heap.size w w13 ∧ w.heap.size + 1 ≤ w13.heap.size) (fun _ io _ => sz - (intOf io).toNat)
                  case atStart => exact ⟨0, 0, r12, c12, q12, _, Lib.hid rfl, Nat.zero_le _, rfl, rfl, hq12, Lib.hid (by simp), hob12, by simp, hfb12, hbl12, hB12, hsz12⟩
                  case round =>
                    obtain ⟨m, e, r, c', q, l2, he, hes, rfl, rfl, hql2, hl2, hob2, hl20, hfb2, hbl2, hB2, hsz2⟩ := hrel
                    by_cases hle : e < sz
                    · have he8 : e + 8 ≤ sz := by have := he.out; have := hsz8e.out; omega
                      obtain ⟨w9, rfl⟩ : ∃ w9, w9 = wr := ⟨_, rfl⟩
                      obtain ⟨b8, hb8⟩ : ∃ x, (bp.drop e).take 8 = x := ⟨_, rfl⟩
                      have hbb : IsBits b8 := by rw [← hb8]; exact (hbl9.out.drop e).take 8
                      have hb8l : b8.length = 8 := by rw [← hb8, List.length_take, List.length_drop, hbl8'.out]; omega
                      have hbn : Hid (bnum b8 = byteAt bp (8 * m)) := Lib.hid (by rw [← hb8, ← he.out]; exact bnum_byte (by rw [hbl8'.out]; exact he8))
                      obtain ⟨sub, hsub⟩ : ∃ x, s6.extract e (e + 8) = x := ⟨_, rfl⟩
                      have hsub2 : sub = btxt b8 := by rw [← hsub, hs6.out, btxt_extract, hb8]
                      have hsubl : sub.size = 8 := by rw [hsub2, btxt_size, hb8l]
                      have hip : Hid (∀ p, (w9.iter sub p).iterPos w9.heap.size = p) := Lib.hid (fun p => iterPos_of (World.iter_heap w9 sub p))
                      have hbr := Lib.hid (bnum_range hbb)
                      have hbt := Lib.hid (fun i (h : i < b8.length) => bnum_take (l := b8) h)
                      have hsa : Hid (∀ p (hp : p < sub.size), ((sub[p]'hp).toNat : Int) = 48 + nth b8 p) := Lib.hid (by subst hsub2; exact fun p hp => btxt_at hbb hp)
                      replace hsub2 := Lib.hid hsub2
                      replace hb8 := Lib.hid hb8
                      replace hbb := Lib.hid hbb
                      replace hb8l := Lib.hid hb8l
                      have hsubl' := Lib.hid hsubl
                      clear hsubl
                      go_wp2
                      rw [hsub]
                      replace hsub := Lib.hid hsub
                      go_loopw [15] (fun nv w13 => ∃ (pos : Nat) (x : Int), pos ≤ 8 ∧ w13 = w9.iter sub pos ∧ nv = .int .i64 x ∧ Hid (x = bnum (b8.take pos)) ∧ 0 ≤ x ∧ x ≤ 255) (fun _ w13 => 8 - w13.iterPos w9.heap.size)
                      case atStart => exact ⟨0, 0, by omega, rfl, rfl, Lib.hid rfl, by omega, by omega⟩
                      case round =>
                        obtain ⟨pos, x, hp, rfl, rfl, hx, hx0, hx1⟩ := hrel
                        by_cases hpl : pos < 8
                        · have hps : pos < sub.size := by rw [hsubl'.out]; exact hpl
                          have hbt1 := hbt.out pos (by rw [hb8l.out]; exact hpl)
                          have hb01 := hbb.out.nth pos
                          have hch := hsa.out pos hps
                          have hnx0 := hbr.out (pos + 1) (by omega)
                          rw [hbt1, ← hx.out] at hnx0
                          obtain ⟨bt, hbte⟩ : ∃ b, nth b8 pos = b := ⟨_, rfl⟩
                          rw [hbte] at hbt1 hb01 hch hnx0
                          have ha : (sub[pos]'hps).toNat < 128 := by omega
                          have hnx : ∀ ty, (Instr.next (.pointer (some ⟨w9.heap.size, 0, none⟩)) true ty).run Try.prog (w9.iter sub pos) = .ok (.tuple #[.bool true, .int .i64 pos, .int .i32 (48 + bt)]) (w9.iter sub (pos + 1)) := fun ty => by
                            rw [run_next_ascii w9 sub pos ty hps ha, hch]
                          have hp8 : (2 : Int) ^ (pos + 1) ≤ 256 := by
                            have : pos = 0 ∨ pos = 1 ∨ pos = 2 ∨ pos = 3 ∨ pos = 4 ∨ pos = 5 ∨ pos = 6 ∨ pos = 7 := by omega
                            rcases this with rfl | rfl | rfl | rfl | rfl | rfl | rfl | rfl <;> decide
                          have hn1 : 0 ≤ 2 * x + bt := hnx0.1
                          have hn2 : 2 * x + bt ≤ 255 := by omega
                          have hxn : Hid (2 * x + bt = bnum (b8.take (pos + 1))) := Lib.hid (by rw [hbt1, hx.out])
                          have hmz : Hid (8 - (w9.iter sub (pos + 1)).iterPos w9.heap.size < 8 - (w9.iter sub pos).iterPos w9.heap.size) := Lib.hid (by rw [hip.out, hip.out]; omega)
                          replace hch := Lib.hid hch
                          replace hbt1 := Lib.hid hbt1
                          replace hbte := Lib.hid hbte
                          replace hp8 := Lib.hid hp8
                          clear hnx0 ha
                          rcases hb01 with rfl | rfl
                          · go_wp2
                            exact ⟨⟨pos + 1, _, hpl, rfl, rfl, Lib.hid (by have := hxn.out; simpa using this), by omega, by omega⟩, hmz.out⟩
                          · go_wp2
                            exact ⟨⟨pos + 1, _, hpl, rfl, rfl, hxn, by omega, by omega⟩, hmz.out⟩
                        · obtain rfl : pos = 8 := by omega
                          have hend := fun ty => run_next_end (P := Try.prog) w9 sub 8 ty (by rw [hsubl'.out]; omega)
                          have hxe : Hid (x = byteAt bp (8 * m)) := Lib.hid (by rw [hx.out, List.take_of_length_le (by rw [hb8l.out]; exact Nat.le_refl _), hbn.out])
                          have hl2b : l2.length ≤ 200000 := by rw [hl2.out, List.length_append, List.length_append, List.length_take, pack_length, hbl8'.out]; simp only [List.length_cons, List.length_nil]; omega
                          have hx256 : x % 256 = x := by omega
                          go_wp2_with (at_builtin; go_loud (refine step_app_row _ rfl _ _ rfl w.heap.size r c' q l2 [x] _ 0 1 1 rfl rfl hql2.out rfl (.inl (Ob.alloc (w := w9.iter sub 8) (Ob.alloc hob2.out _) _)) hl20 (by show 1 ≤ 1; omega) (by omega) (by show 1 ≤ 1000000; omega) (by simp [World.iter]; omega) (new_four _ _ _ _ (by simp [World.iter]) rfl) ?_))
                          intro r14 c14 w14 hob14 hk14
                          have hk9 : ∀ g, Kx w.heap.size g w9 w14 := fun g => (((Kx.refl _ g w9).alloc (by omega) (.stringIter sub 8)).alloc (by omega) _).trans (hk14 g)
                          have hs14 := (hk9 0).size
                          go_wp2
                          refine ⟨⟨m + 1, e + 8, r14, c14, _, l2 ++ [x], Lib.hid (by rw [he.out]; omega), he8, by go_num, rfl, Lib.hid ?_, Lib.hid ?_, Lib.hid hob14, by simp, (hk9 (w.heap.size + 1)).frame hfb2 (by omega), (hk9 (g8 + 1)).bl hbl2 (by omega), hB2.trans (hk9 0).1, by omega⟩, by simp [intOf]; omega⟩
                          · rw [List.length_append, ← hql2.out]; rfl
                          · rw [pack_take (by rw [hbl8'.out]; have := he.out; omega), ← List.append_assoc, ← hl2.out, hxe.out]
                    · have hem : 8 * m = sz := by have := he.out; omega
                      have hfull : l2 = l ++ rowB rl := by
                        rw [hl2.out, List.take_of_length_le (by rw [pack_length, hbl8'.out]; omega), hpk.out, hRB.out, List.append_assoc]
                      have hl2len : l2.length ≤ 10100 + (y + 1) * 140 := by
                        rw [hl2.out, List.length_append, List.length_append, List.length_take]
                        simp only [List.length_cons, List.length_nil]
                        omega
                      replace hfull := Lib.hid hfull
                      replace hem := Lib.hid hem
                      go_wp2
                      refine ⟨⟨y + 1, r, c', q, l2, hly, by go_num, rfl, hql2, Lib.hid ?_, hob2, hl20, hl2len, hfb2, hbl2, hB2, hsz2⟩, by simp [intOf]; omega⟩
                      rw [hfull.out, hl.out, List.range_succ, List.flatMap_append, List.append_assoc]
                      simp [hrl.out]
                · have hm8 : ((sz : Int) % 8 != 0) = true := by rw [bne_iff_ne]; omega
                  have hms : Hid (8 * N8 - slen9 (.string (s6 ++ (⟨#[48]⟩ : ByteArray))) < 8 * N8 - slen9 (.string s6)) := Lib.hid (by
                    show 8 * N8 - (s6 ++ (⟨#[48]⟩ : ByteArray)).size < 8 * N8 - s6.size
                    rw [ByteArray.size_append]
                    show 8 * N8 - (s6.size + 1) < _
                    omega)
                  go_wp2
                  refine ⟨⟨z + 1, _, rfl, Lib.hid ?_, by omega, Lib.hid (by first | rfl | trivial)⟩, hms.out⟩
                  rw [hs6.out, ← btxt_zero, btxt_append, List.append_assoc, ← List.replicate_succ']
        · obtain rfl : H = y := by omega
          have hfin : l = fileB E W H M P := by rw [hl.out, hWe2.out]
          have hqf : q = (fileB E W H M P).length := by rw [hql.out, hfin]
          have hob2 := hob.out
          rw [hfin] at hob2
          replace hqf := Lib.hid hqf
          replace hfin := Lib.hid hfin
          go_wp2
          go_ret
          exact ⟨r, c', by rw [hqf.out]; rfl, hob2, hB⟩

end Go.Proofs.Ytcnlghkdhpgnmaa
