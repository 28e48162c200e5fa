/-
  Walks: turned patterns: turnedBox, turned, Turned of package descriptor, around and turned of the law.
-/
import Derived.Test.YtonpnjjfidpoiaaDsE
import Derived.Test.YtonpnjjfidpoiaaDsTn
import Derived.Test.YtonpnjjfidpoiaaDsSt
import Derived.Deep.AppendLies
import Derived.Deep.RegionHeldLaw
set_option linter.unusedSimpArgs false
set_option linter.unusedVariables false
namespace Go.Proofs.Ytonpnjjfidpoiaa
open Go.RowKit

theorem tBox_at {q1 q2 q3 q4 : Int} (h : Bxs (q1, q2, q3, q4)) (w : World) :
    Calls Try.prog 58 #[.agg #[.int .i64 q1, .int .i64 q2, .int .i64 q3, .int .i64 q4]] w fun e w' => e = .returned (.agg #[.int .i64 q2, .int .i64 (1 - q1 - q3), .int .i64 q4, .int .i64 q3]) ∧ Below w.heap.size w w' := by
  obtain ⟨⟨r1, r2⟩, ⟨r3, r4⟩, ⟨r5, r6⟩, r7, r8⟩ := h
  simp only at r1 r2 r3 r4 r5 r6 r7 r8
  have hB := ((Below.refl w.heap.size w).alloc (Nat.le_refl _) (.cells #[.int .i64 q1, .int .i64 q2, .int .i64 q3, .int .i64 q4] 28)).alloc (by simp) (.cells #[.int .i64 q2, .int .i64 (1 - q1 - q3), .int .i64 q4, .int .i64 q3] 28)
  go_enter Try.func58, Try.ntmps58
  go_wp2
  exact bodyPost_ret (v := .agg #[.int .i64 q2, .int .i64 (1 - q1 - q3), .int .i64 q4, .int .i64 q3]) (by simp [results, Try.results58, go_sem]) rfl ⟨rfl, by simpa using hB⟩

theorem around_at {q1 q2 q3 q4 : Int} (h : Bxs (q1, q2, q3, q4)) (w : World) :
    Calls Try.prog 47 #[.agg #[.int .i64 q1, .int .i64 q2, .int .i64 q3, .int .i64 q4]] w fun e w' => e = .returned (.agg #[.int .i64 q2, .int .i64 (1 - q1 - q3), .int .i64 q4, .int .i64 q3]) ∧ Below w.heap.size w w' := by
  obtain ⟨⟨r1, r2⟩, ⟨r3, r4⟩, ⟨r5, r6⟩, r7, r8⟩ := h
  simp only at r1 r2 r3 r4 r5 r6 r7 r8
  have hB := ((Below.refl w.heap.size w).alloc (Nat.le_refl _) (.cells #[.int .i64 q1, .int .i64 q2, .int .i64 q3, .int .i64 q4] 28)).alloc (by simp) (.cells #[.int .i64 q2, .int .i64 (1 - q1 - q3), .int .i64 q4, .int .i64 q3] 28)
  go_enter Try.func47, Try.ntmps47
  go_wp2
  exact bodyPost_ret (v := .agg #[.int .i64 q2, .int .i64 (1 - q1 - q3), .int .i64 q4, .int .i64 q3]) (by simp [results, Try.results47, go_sem]) rfl ⟨rfl, by simpa using hB⟩

theorem FillT.map {f : Tst → Tst} {l L : List Tst} (h : FillT (fun i => f (tstAt l i)) l.length l.length L) : L = l.map f := tst_ext (by rw [h.1, List.length_map]) fun i hi => by
  rw [h.1] at hi
  rw [h.2 i hi, tstAt_map _ hi]

set_option maxRecDepth 100000 in
set_option maxHeartbeats 6400000 in
theorem dturned_any (A : Option Addr) (n c : Nat) (l : List Tst) (w : World) (h : PS w A n c l) (hn : n ≤ 64) (hok : ∀ i, i < l.length → tok (tstAt l i) = true) :
    Calls Try.prog 46 #[.slice A n c] w fun e w' => ∃ g, e = .returned (.slice (some ⟨g, 0, none⟩) n n) ∧ Pb w' g (l.map trT) ∧ w.heap.size ≤ g ∧ Below w.heap.size w w' := by
  have hcap := h.le_cap
  have hcl := h.cap_le
  have hlen := Lib.hid h.len
  replace hok := Lib.hid hok
  have hmk := run_make_tests .i64 .i64 (n : Int) n rfl (by omega)
  obtain ⟨C0, hC0⟩ : ∃ C0, (pcells (List.replicate n tz)).toArray = C0 := ⟨_, rfl⟩
  rw [hC0] at hmk
  obtain ⟨W1, hW1⟩ : ∃ W1, w.alloc (.cells C0 30) = W1 := ⟨_, rfl⟩
  have pb1 : Pb W1 w.heap.size (List.replicate n tz) := by rw [← hW1, ← hC0]; exact Pb.new _ _
  have hb1 : Below w.heap.size w W1 := by rw [← hW1]; exact (Below.refl _ _).alloc (Nat.le_refl _) _
  obtain ⟨g, hg⟩ : ∃ g, w.heap.size = g := ⟨_, rfl⟩
  rw [hg] at pb1
  have hgB : w.heap.size ≤ g := by omega
  have h' := Lib.hid (fun w' (hb : Below w.heap.size w w') => h.below hb (Nat.le_refl _))
  replace hC0 := Lib.hid hC0
  have hW1' := Lib.hid hW1
  have pb1' := Lib.hid pb1
  clear hW1 pb1 h
  go_enter Try.func46, Try.ntmps46
  go_wp2
  go_loopw [11] (fun i wr => ∃ (k : Nat) (L : List Tst), k ≤ n ∧ i = .int .i64 (k : Int) ∧ Pb wr g L ∧ Hid (FillT (fun i => trT (tstAt l i)) n k L) ∧ Below w.heap.size w wr) (fun i _ => n - (intOf i).toNat)
  case atStart =>
    rw [hW1'.out]
    exact ⟨0, _, by omega, rfl, pb1'.out, Lib.hid ⟨by simp, fun i hi => absurd hi (Nat.not_lt_zero _)⟩, hb1⟩
  case round =>
    obtain ⟨k, L, hk, rfl, pb, hf, hB⟩ := hrel
    by_cases hlt : k < n
    · have hlt' : (k : Int) < (n : Int) := by omega
      have hLl := Lib.hid hf.out.1
      obtain ⟨bb, off, rfl, hbw, hc⟩ := PS.at_ (h'.out _ hB) (by omega)
      obtain ⟨⟨q0, q1, q2, q3⟩, q4, q5, q6, q7⟩ := hc k hlt
      clear hc
      have htk := hok.out k (by rw [← hlen.out]; exact hlt)
      obtain ⟨⟨⟨x1, x2, x3, x4⟩, x5, x6, x7, x8⟩, ht⟩ : ∃ t, tstAt l k = t := ⟨_, rfl⟩
      rw [ht] at q0 q1 q2 q3 q4 q5 q6 q7 htk
      obtain ⟨m, hm⟩ : ∃ m, k * 8 = m := ⟨_, rfl⟩
      simp only [hm] at q0 q1 q2 q3 q4 q5 q6 q7
      obtain ⟨ok1, ok2⟩ := tok_iff'.1 htk
      have bx1 : Bxs (x1, x2, x3, x4) := Bxs.of_ok ok1
      have bx2 : Bxs (x5, x6, x7, x8) := Bxs.of_ok ok2
      have hstep : Hid (FillT (fun i => trT (tstAt l i)) n (k + 1) (L.set k (trT ((x1, x2, x3, x4), x5, x6, x7, x8)))) := Lib.hid (hf.out.step hlt (by rw [ht]))
      replace ht := Lib.hid ht
      have hpl := pb.lt
      have hB1 := hB.alloc hB.size (.cells #[.int .i64 x1, .int .i64 x2, .int .i64 x3, .int .i64 x4, .int .i64 x5, .int .i64 x6, .int .i64 x7, .int .i64 x8] 30)
      have kt : KB _ _ _ _ := KB.new wr #[.int .i64 x1, .int .i64 x2, .int .i64 x3, .int .i64 x4, .int .i64 x5, .int .i64 x6, .int .i64 x7, .int .i64 x8] 30
      have pba := pb.alloc (.cells #[.int .i64 x1, .int .i64 x2, .int .i64 x3, .int .i64 x4, .int .i64 x5, .int .i64 x6, .int .i64 x7, .int .i64 x8] 30)
      obtain ⟨w2, hw2⟩ : ∃ w2, wr.alloc (.cells #[.int .i64 x1, .int .i64 x2, .int .i64 x3, .int .i64 x4, .int .i64 x5, .int .i64 x6, .int .i64 x7, .int .i64 x8] 30) = w2 := ⟨_, rfl⟩
      have hz2 : w2.heap.size = wr.heap.size + 1 := by rw [← hw2]; simp
      rw [hw2] at hB1 kt pba
      have hzr := hB.size
      have d0 := kt.cell 0 rfl
      have d1 := kt.cell 1 rfl
      have d2 := kt.cell 2 rfl
      have d3 := kt.cell 3 rfl
      have d4 := kt.cell 4 rfl
      have d5 := kt.cell 5 rfl
      have d6 := kt.cell 6 rfl
      have d7 := kt.cell 7 rfl
      have pb1 := Lib.hid (fun w' (hb : Below w2.heap.size w2 w') => pba.below hb (by omega))
      clear ok1 ok2 htk pb pba hf
      go_wp2
      have keepS : ∀ w', Only w2 w' g → w'.cell? ⟨wr.heap.size, 0, none⟩ = some (.int .i64 x1) ∧ w'.cell? ⟨wr.heap.size, 1, none⟩ = some (.int .i64 x2) ∧ w'.cell? ⟨wr.heap.size, 2, none⟩ = some (.int .i64 x3) ∧ w'.cell? ⟨wr.heap.size, 3, none⟩ = some (.int .i64 x4) ∧ w'.cell? ⟨wr.heap.size, 4, none⟩ = some (.int .i64 x5) ∧ w'.cell? ⟨wr.heap.size, 5, none⟩ = some (.int .i64 x6) ∧ w'.cell? ⟨wr.heap.size, 6, none⟩ = some (.int .i64 x7) ∧ w'.cell? ⟨wr.heap.size, 7, none⟩ = some (.int .i64 x8) := by
        intro w' ho
        have r2 : KB w' _ _ _ := kt.keep (ho.block _ kt.lt (fun e => by injection e with e; omega))
        exact ⟨r2.cell 0 rfl, r2.cell 1 rfl, r2.cell 2 rfl, r2.cell 3 rfl, r2.cell 4 rfl, r2.cell 5 rfl, r2.cell 6 rfl, r2.cell 7 rfl⟩
      replace keepS := Lib.hid keepS
      have qtok1 : True := trivial
      have qtok2 : True := trivial
      go_region_held3 (fun w' => w'.cell? ⟨wr.heap.size, 0, none⟩ = some (.int .i64 x1) ∧ w'.cell? ⟨wr.heap.size, 1, none⟩ = some (.int .i64 x2) ∧ w'.cell? ⟨wr.heap.size, 2, none⟩ = some (.int .i64 x3) ∧ w'.cell? ⟨wr.heap.size, 3, none⟩ = some (.int .i64 x4) ∧ w'.cell? ⟨wr.heap.size, 4, none⟩ = some (.int .i64 x5) ∧ w'.cell? ⟨wr.heap.size, 5, none⟩ = some (.int .i64 x6) ∧ w'.cell? ⟨wr.heap.size, 6, none⟩ = some (.int .i64 x7) ∧ w'.cell? ⟨wr.heap.size, 7, none⟩ = some (.int .i64 x8))
        (exact keepS.out _ (by repeat (with_reducible (first | exact Only.of_below qB2 g | exact Only.of_below qB1 g | exact Only.refl w2 g | refine Only.setCell ?_ rfl _ | refine Only.drew ?_ | refine Only.drewN ?_ _))))
        (first | (go_at_call 58; clear qtok1; refine (tBox_at bx1 _).mono ?_; rintro e qw1 ⟨rfl, qh1⟩; have qB1 : Below w2.heap.size w2 qw1 := Below.trans (by repeat (first | exact (Below.refl w2.heap.size w2) | refine Below.drew ?_ | refine Below.drewN ?_ _ | refine Below.alloc ?_ (by first | omega | (simp <;> omega)) _)) (qh1.mono (by first | omega | (simp <;> omega))); have qs1 := qB1.size) | (go_at_call 58; clear qtok2; refine (tBox_at bx2 _).mono ?_; rintro e qw2 ⟨rfl, qh2⟩; have qB2 : Below w2.heap.size w2 qw2 := Below.trans (by repeat (first | exact qB1 | refine Below.drew ?_ | refine Below.drewN ?_ _ | refine Below.alloc ?_ (by first | omega | (simp <;> omega)) _)) (qh2.mono (by first | omega | (simp <;> omega))); have qs2 := qB2.size; have hBq := hB1.trans (qB2.mono (by omega)); have hpq := pb1.out _ qB2; obtain ⟨⟨e0, e1, e2, e3⟩, e4, e5, e6, e7⟩ := hpq.cells (i := k) (by have := hLl.out; omega); rw [hm] at e0 e1 e2 e3 e4 e5 e6 e7; have f0 := hpq.frozen (m); have f1 := hpq.frozen (m + 1); have f2 := hpq.frozen (m + 2); have f3 := hpq.frozen (m + 3); have f4 := hpq.frozen (m + 4); have f5 := hpq.frozen (m + 5); have f6 := hpq.frozen (m + 6); have f7 := hpq.frozen (m + 7); have hput := hpq.put (k := k) (by have := hLl.out; omega) (trT ((x1, x2, x3, x4), x5, x6, x7, x8)); rw [hm] at hput; replace hput := Lib.hid hput))
      go_wp2
      exact ⟨⟨k + 1, _, by omega, by go_num, hput.out, hstep, put8_below hBq hgB m (trT ((x1, x2, x3, x4), x5, x6, x7, x8))⟩, by simp [intOf]; omega⟩
    · obtain rfl : k = n := by omega
      have hfin : L = l.map trT := FillT.map (by rw [← hlen.out]; exact hf.out)
      have hpb : Hid (Pb wr g (l.map trT)) := Lib.hid (hfin ▸ pb)
      clear hfin pb
      go_wp2
      go_ret
      exact ⟨g, rfl, hpb.out, hgB, hB⟩

theorem KB.drew {w : World} {g : Nat} {cs : Array Value} {t : TypeId} (h : KB w g cs t) : KB w.drew g cs t := h
theorem KB.drewN {w : World} {g : Nat} {cs : Array Value} {t : TypeId} (h : KB w g cs t) (q : Nat) : KB (w.drewN q) g cs t := h
theorem take_trT {l : List Tst} {k : Nat} (h : k < l.length) : (l.take (k + 1)).map trT = (l.take k).map trT ++ [trT (tstAt l k)] := by
  rw [List.take_add_one, List.map_append, List.getElem?_eq_getElem h, tstAt_eq h]
  rfl
theorem news8 {W : World} {x1 x2 x3 x4 x5 x6 x7 x8 : Int} {b : Nat} (hb : b = W.heap.size) : ∀ j u, (pcells [((x1, x2, x3, x4), x5, x6, x7, x8)])[j]? = some u → (W.alloc (.cells #[.int .i64 x1, .int .i64 x2, .int .i64 x3, .int .i64 x4, .int .i64 x5, .int .i64 x6, .int .i64 x7, .int .i64 x8] 30)).cell? ((⟨b, 0, none⟩ : Addr).add j) = some u := by
  intro j u hj
  subst hb
  rw [Addr.add_lit, Nat.zero_add, cell_of_row _ W.heap.size j _ _ _ (heap_alloc_new W _)]
  rw [← List.getElem?_toArray] at hj
  exact hj

set_option maxRecDepth 100000 in
set_option maxHeartbeats 3200000 in
theorem lturned_any (A : Option Addr) (n c : Nat) (l : List Tst) (w : World) (h : PS w A n c l) (hn : n ≤ 70) (hok : ∀ i, i < l.length → tok (tstAt l i) = true) :
    Calls Try.prog 27 #[.slice A n c] w fun e w' => (∃ A2 c2, e = .returned (.slice A2 n c2) ∧ PS w' A2 n c2 (l.map trT)) ∧ Below w.heap.size w w' := by
  have hcap := h.le_cap
  have hcl := h.cap_le
  have hlen := Lib.hid h.len
  replace hok := Lib.hid hok
  have h' := Lib.hid (fun w' (hb : Below w.heap.size w w') => h.below hb (Nat.le_refl _))
  obtain ⟨i0, hi, hz0, hz1, hz2⟩ := info_parts infoT
  clear h
  go_enter Try.func27, Try.ntmps27
  go_wp2
  go_loopw [3, 8] (fun v i wr => ∃ k : Nat, k ≤ n ∧ i = .int .i64 (k : Int) ∧ wr.ownsRow w.heap.size 30 8 v k (pcells ((l.take k).map trT)) ∧ Below w.heap.size w wr) (fun _ i _ => n - (intOf i).toNat)
  case atStart => exact ⟨0, Nat.zero_le _, rfl, World.ownsRow_nil _ _ _ _, Below.refl _ _⟩
  case round =>
    obtain ⟨k, hk, rfl, hown, hB⟩ := hrel
    obtain ⟨A5, c5, rfl, s5, -, -⟩ := own_form hown
    by_cases hlt : k < n
    · have hlt' : (k : Int) < (n : Int) := by omega
      clear s5
      obtain ⟨bb, off, rfl, hbw, hc⟩ := PS.at_ (h'.out _ hB) (by omega)
      obtain ⟨⟨q0, q1, q2, q3⟩, q4, q5, q6, q7⟩ := hc k hlt
      clear hc
      have htk := hok.out k (by rw [← hlen.out]; exact hlt)
      obtain ⟨⟨⟨x1, x2, x3, x4⟩, x5, x6, x7, x8⟩, ht⟩ : ∃ t, tstAt l k = t := ⟨_, rfl⟩
      rw [ht] at q0 q1 q2 q3 q4 q5 q6 q7 htk
      obtain ⟨m, hm⟩ : ∃ m, k * 8 = m := ⟨_, rfl⟩
      simp only [hm] at q0 q1 q2 q3 q4 q5 q6 q7
      obtain ⟨ok1, ok2⟩ := tok_iff'.1 htk
      have bx1 : Bxs (x1, x2, x3, x4) := Bxs.of_ok ok1
      have bx2 : Bxs (x5, x6, x7, x8) := Bxs.of_ok ok2
      have hnext : Hid ((l.take (k + 1)).map trT = (l.take k).map trT ++ [trT ((x1, x2, x3, x4), x5, x6, x7, x8)]) := Lib.hid (by rw [take_trT (by rw [← hlen.out]; exact hlt), ht])
      replace ht := Lib.hid ht
      have hB1 := hB.alloc hB.size (.cells #[.int .i64 x1, .int .i64 x2, .int .i64 x3, .int .i64 x4, .int .i64 x5, .int .i64 x6, .int .i64 x7, .int .i64 x8] 30)
      have kt : KB _ _ _ _ := KB.new wr #[.int .i64 x1, .int .i64 x2, .int .i64 x3, .int .i64 x4, .int .i64 x5, .int .i64 x6, .int .i64 x7, .int .i64 x8] 30
      have hown1 := World.ownsRow.alloc hown (.cells #[.int .i64 x1, .int .i64 x2, .int .i64 x3, .int .i64 x4, .int .i64 x5, .int .i64 x6, .int .i64 x7, .int .i64 x8] 30)
      have hlt8 := Lib.hid (fun q hq => (hown.lt q hq))
      obtain ⟨w2, hw2⟩ : ∃ w2, wr.alloc (.cells #[.int .i64 x1, .int .i64 x2, .int .i64 x3, .int .i64 x4, .int .i64 x5, .int .i64 x6, .int .i64 x7, .int .i64 x8] 30) = w2 := ⟨_, rfl⟩
      have hz2' : w2.heap.size = wr.heap.size + 1 := by rw [← hw2]; simp
      rw [hw2] at hB1 kt hown1
      have hzr := hB.size
      have d0 := kt.cell 0 rfl
      have d1 := kt.cell 1 rfl
      have d2 := kt.cell 2 rfl
      have d3 := kt.cell 3 rfl
      have d4 := kt.cell 4 rfl
      have d5 := kt.cell 5 rfl
      have d6 := kt.cell 6 rfl
      have d7 := kt.cell 7 rfl
      clear ok1 ok2 htk
      have keepS : ∀ w', KB w' wr.heap.size #[.int .i64 x1, .int .i64 x2, .int .i64 x3, .int .i64 x4, .int .i64 x5, .int .i64 x6, .int .i64 x7, .int .i64 x8] 30 → w'.cell? ⟨wr.heap.size, 0, none⟩ = some (.int .i64 x1) ∧ w'.cell? ⟨wr.heap.size, 1, none⟩ = some (.int .i64 x2) ∧ w'.cell? ⟨wr.heap.size, 2, none⟩ = some (.int .i64 x3) ∧ w'.cell? ⟨wr.heap.size, 3, none⟩ = some (.int .i64 x4) ∧ w'.cell? ⟨wr.heap.size, 4, none⟩ = some (.int .i64 x5) ∧ w'.cell? ⟨wr.heap.size, 5, none⟩ = some (.int .i64 x6) ∧ w'.cell? ⟨wr.heap.size, 6, none⟩ = some (.int .i64 x7) ∧ w'.cell? ⟨wr.heap.size, 7, none⟩ = some (.int .i64 x8) := fun w' r2 => ⟨r2.cell 0 rfl, r2.cell 1 rfl, r2.cell 2 rfl, r2.cell 3 rfl, r2.cell 4 rfl, r2.cell 5 rfl, r2.cell 6 rfl, r2.cell 7 rfl⟩
      replace keepS := Lib.hid keepS
      have hown1' := Lib.hid hown1
      clear hown hown1
      have tok1 : True := trivial
      go_wp2
      go_region_held_law (fun w' => w'.cell? ⟨wr.heap.size, 0, none⟩ = some (.int .i64 x1) ∧ w'.cell? ⟨wr.heap.size, 1, none⟩ = some (.int .i64 x2) ∧ w'.cell? ⟨wr.heap.size, 2, none⟩ = some (.int .i64 x3) ∧ w'.cell? ⟨wr.heap.size, 3, none⟩ = some (.int .i64 x4) ∧ w'.cell? ⟨wr.heap.size, 4, none⟩ = some (.int .i64 x5) ∧ w'.cell? ⟨wr.heap.size, 5, none⟩ = some (.int .i64 x6) ∧ w'.cell? ⟨wr.heap.size, 6, none⟩ = some (.int .i64 x7) ∧ w'.cell? ⟨wr.heap.size, 7, none⟩ = some (.int .i64 x8)) (exact keepS.out _ (by repeat (with_reducible (first | exact kt6 | exact kt2 | exact kt1 | exact kt | refine KB.alloc ?_ _ | refine KB.drew ?_ | refine KB.drewN ?_ _)))) (first
        | (go_at_call 47; have _t := tok1; clear tok1 _t; refine (around_at bx1 _).mono ?_; rintro e qw1 ⟨rfl, qh1⟩; have qB1 : Below w2.heap.size w2 qw1 := Below.trans (by repeat (first | exact Below.refl _ _ | refine Below.drew ?_)) (qh1.mono (by first | omega | (simp <;> omega))); have qs1 := qB1.size; have kt1 := kt.below qB1 (by omega))
        | (go_at_call 47; refine (around_at bx2 _).mono ?_; rintro e qw2 ⟨rfl, qh2⟩; have qB2 : Below w2.heap.size w2 qw2 := Below.trans (by repeat (first | exact qB1 | refine Below.drew ?_)) (qh2.mono (by first | omega | (simp <;> omega))); have qs2 := qB2.size; have kt2 := kt.below qB2 (by omega))
        | (refine step_append_lies _ rfl _ _ 22 rfl w.heap.size 30 i0 (.agg #[.int .i64 0, .int .i64 0, .int .i64 0, .int .i64 0, .int .i64 0, .int .i64 0, .int .i64 0, .int .i64 0]) 8 64 Try.underlying22 hi hz0 hz1 hz2 rfl (by decide) _ _ _ rfl (World.ownsRow.alloc (own_bel hown1'.out qB2) _) ⟨qw2.heap.size, 0, none⟩ 1 1 (pcells [((x2, 1 - x1 - x3, x4, x3), x6, 1 - x5 - x7, x8, x7)]) rfl rfl (news8 rfl) (pcells_one _) (by decide) (by unfold maxLen; omega) (by omega) (by simp; omega) _ rfl ?_; intro g6 c6 w6 hown6 hgr6 hat6 hlt6; have kt6 := KB.keep (w' := w6) kt2 ((hgr6.block wr.heap.size (by simp; omega) (fun e => by have := (hlt8.out _ e.symm).2; omega)).trans (Below.heap_alloc _ _ _ (by omega))); have hB6 : Below w.heap.size w w6 := Below.grown ((hB1.trans (qB2.mono (by omega))).alloc (by omega) _) hgr6 (by simp; omega) (fun q hq => (hlt8.out q hq).1); replace hown6 := Lib.hid hown6; clear hgr6 hat6))
      go_wp2
      exact ⟨⟨k + 1, hlt, by go_num, by rw [hnext.out, pcells_append]; exact hown6.out, hB6⟩, by simp [intOf]; omega⟩
    · obtain rfl : k = n := by omega
      have hfin : Hid ((l.take k).map trT = l.map trT) := Lib.hid (by rw [List.take_of_length_le (by rw [← hlen.out]; exact Nat.le_refl _)])
      rw [hfin.out] at s5
      clear hown
      go_wp2
      go_ret
      exact ⟨⟨_, _, rfl, s5⟩, hB⟩

theorem Turned_bad (A : Option Addr) (n c : Nat) (l : List Tst) (w : World) (h : PS w A n c l) (hp : pat l = false) :
    Calls Try.prog 25 #[.slice A n c] w fun e w' => e = .returned (.tuple #[.slice none 0 0, .int .i64 1]) ∧ Below w.heap.size w w' := by
  have hck := dCheck_any A n c l w h
  rw [hp] at hck
  replace hck := Lib.hid hck
  clear h hp
  go_enter Try.func25, Try.ntmps25
  go_wp2_with (go_at_call 12; refine hck.out.mono ?_; rintro e w1 ⟨rfl, hb1⟩)
  go_ret2
  exact ⟨rfl, hb1⟩
theorem Turned_ok (A : Option Addr) (n c : Nat) (l : List Tst) (w : World) (h : PS w A n c l) (hp : pat l = true) :
    Calls Try.prog 25 #[.slice A n c] w fun e w' => ∃ g, e = .returned (.tuple #[.slice (some ⟨g, 0, none⟩) n n, .int .i64 0]) ∧ Pb w' g (l.map trT) ∧ Below w.heap.size w w' := by
  have hck := dCheck_any A n c l w h
  have hpi := pat_iff.1 hp
  rw [← h.len] at hpi
  have h' := Lib.hid (fun w' (hb : Below w.heap.size w w') => dturned_any A n c l w' (h.below hb (Nat.le_refl _)) hpi.1.2 (by rw [← h.len]; exact hpi.2))
  rw [hp] at hck
  replace hck := Lib.hid hck
  clear h hp hpi
  go_enter Try.func25, Try.ntmps25
  go_wp2_with (first | (go_at_call 12; refine hck.out.mono ?_; rintro e w1 ⟨rfl, hb1⟩) | (go_at_call 46; refine (h'.out _ hb1).mono ?_; rintro e w2 ⟨g, rfl, hpb, hg, hb2⟩; replace hpb := Lib.hid hpb))
  go_ret2
  exact ⟨g, rfl, hpb.out, hb1.trans (hb2.mono hb1.size)⟩

end Go.Proofs.Ytonpnjjfidpoiaa
