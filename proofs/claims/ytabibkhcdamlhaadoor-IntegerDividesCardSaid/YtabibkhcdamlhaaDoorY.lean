/-
  Walk: Text of package integer.
-/
import Derived.Test.YtabibkhcdamlhaaDoorX
import Derived.Laws.IdiomStrings
import Derived.OwnWalkIn
set_option linter.unusedSimpArgs false
set_option linter.unusedVariables false
namespace Go.Proofs.YtabibkhcdamlhaaDoor
open Go.RowKit Go.Shelf Num

attribute [local go_sem] Oper.semAt_some

/-- The call returns the text of the integer z. -/
def RetT (w : World) (z : Int) (e : Ending) (w' : World) : Prop :=
  ∃ neg l, CanZ neg l ∧ sval neg l = z ∧ e = .returned (.string ⟨(txt neg l).toArray⟩) ∧ Below w.heap.size w w'

theorem run_make_u8 (k1 k2 : IntKind) (u : Int) (n : Nat) (hu : u = (n : Int)) (hn : n ≤ 100000000000) (W : World) :
    (Instr.makeSlice 53 (.int k1 0) (.int k2 u)).run Tryd.prog W = .ok (.slice (some ⟨W.heap.size, 0, none⟩) 0 n) (W.alloc (.cells (madeCells #[.int .u8 0] n) 5)) := by
  obtain ⟨i0, hi, hz0, hz1, hz2⟩ := infoB
  have := run_make (P := Tryd.prog) W 53 5 i0 (.int .u8 0) Tryd.underlying53 hi hz0 k1 k2 0 u (by omega) (by omega) (by rw [hz2]; omega) (by omega)
  rw [this, hu]
  simp only [Int.toNat_natCast, hz1, Nat.mul_one]
  rfl

theorem ret_str {a b : ByteArray} (h : a = b) : Ending.returned (.string a) = .returned (.string b) := by rw [h]

/-- The indices. -/
def idx {n : Nat} (pre : List (Ix n)) : List Nat := pre.map (·.1)
theorem idx_length {n : Nat} (pre : List (Ix n)) : (idx pre).length = pre.length := by simp [idx]
theorem idx_snoc {n : Nat} (pre : List (Ix n)) (x : Ix n) : idx (pre ++ [x]) = idx pre ++ [x.1] := by simp [idx]

theorem kept_box {W w2 : World} {b : Nat} {t : TypeId} {v : Value} (hv : Boxed W b t v) (ht : t ≠ 5) (ho : Lib.OthersKept 5 none W w2) : Boxed w2 b t v :=
  ho b _ hv (by simp) (fun c fz e => ht (by injection e))

/-- The buffer's variable behind a call that has appended to it, and the store. -/
theorem after_chunk {W w2 : World} {B T m : Nat} {v v' : Value} {ys : List Value} (hv : Boxed W T 53 v) (hown : w2.ownsRow B 5 1 v' m ys) (hb : Below B W w2) (ho : Lib.OthersKept 5 none W w2) (hs : W.heap.size ≤ w2.heap.size) (hBT : B ≤ T) :
    Boxed w2 T 53 v ∧ Boxed (w2.setCell ⟨T, 0, none⟩ v') T 53 v' ∧ (w2.setCell ⟨T, 0, none⟩ v').ownsRow B 5 1 v' m ys ∧ KeepsOthers W (w2.setCell ⟨T, 0, none⟩ v') ∧ Below B W (w2.setCell ⟨T, 0, none⟩ v') ∧
      ∀ I u, I ≠ T → Boxed W I 22 u → Boxed (w2.setCell ⟨T, 0, none⟩ v') I 22 u := by
  have h1 := kept_box hv (by decide) ho
  refine ⟨h1, h1.set v', hown.kept (grownBy_setCell' w2 T v') (.inr (h1.not_row (by decide) hown).symm), ?_, hb.setCell (p := ⟨T, 0, none⟩) hBT v', ?_⟩
  · refine KeepsOthers.trans ⟨hs, fun k o hk hc => ho k o hk (by simp) (fun c fz e => by rw [e] at hc; cases hc)⟩ (KeepsOthers.setCell _ _ _)
  · intro I u hI hu
    exact (kept_box hu (by decide) ho).kept (grownBy_setCell' w2 T v') (by simp [hI])

set_option maxRecDepth 100000 in
set_option maxHeartbeats 2000000 in
/-- Text of 0. -/
theorem Text_zero (neg : Bool) (A : Option Addr) (n c : Nat) (k : Nat) (w : World) (h : VI w neg A n c 0 k) (hk : k ≤ 1000000000) :
    Calls Tryd.prog 24 #[.agg #[.bool neg, .slice A n c]] w (RetT w 0) := by
  have hb1 := (Below.refl w.heap.size w).alloc (Nat.le_refl _) (.cells #[.bool neg, .slice A n c] 24)
  refine (callsIn_wide (n := 6)).1 ?_
  refine callsIn_of_wp_marks Tryd.func24 rfl trivial ?_ rfl
  simp only [Tryd.ntmps24, List.size_toArray, List.length_cons, List.length_nil, Nat.reduceAdd, Nat.reduceSub, Array.replicate_succ, Array.replicate_zero, List.push_toArray, List.append_toArray, List.nil_append, List.cons_append]
  gi_wp2_with (refine ⟨trivial, ?_⟩; gi_at_call 50; refine (callsIn_wide.2 (counted_old neg A n c 0 k w _ h hb1 hk)).mono ?_; rintro e w1 ⟨neg1, A1, n1, c1, rfl, hi1, hb2⟩; have hn1 : n1 = 0 := hi1.len_zero.2 rfl; subst hn1; obtain ⟨⟨d1, d2⟩, ⟨e1, e2⟩, hsz⟩ := box1s hb2)
  exact ⟨_, results_tmp rfl _ _ _, false, [], ⟨Cano.nil, fun _ => rfl⟩, rfl, rfl, by refine Below.setCell (Below.setCell (hb1.trans (hb2.mono (by simp))) (by simp) _) (by simp) _⟩

set_option maxRecDepth 100000 in
set_option maxHeartbeats 4000000 in
/-- Text of a positive integer. -/
theorem Text_pos (neg : Bool) (A : Option Addr) (n c : Nat) (z : Int) (k : Nat) (w : World) (h : VI w neg A n c z k) (hk : k ≤ 1000000000) (hz : 0 < z) (hp : Pows w) :
    Calls Tryd.prog 24 #[.agg #[.bool neg, .slice A n c]] w (RetT w z) := by
  have hb1 := (Below.refl w.heap.size w).alloc (Nat.le_refl _) (.cells #[.bool neg, .slice A n c] 24)
  refine (callsIn_wide (n := 6)).1 ?_
  refine callsIn_of_wp_marks Tryd.func24 rfl trivial ?_ rfl
  simp only [Tryd.ntmps24, List.size_toArray, List.length_cons, List.length_nil, Nat.reduceAdd, Nat.reduceSub, Array.replicate_succ, Array.replicate_zero, List.push_toArray, List.append_toArray, List.nil_append, List.cons_append]
  gi_wp2_with (first | (refine ⟨trivial, ?_⟩; gi_at_call 50; refine (callsIn_wide.2 (counted_old neg A n c z k w _ h hb1 hk)).mono ?_; rintro e w1 ⟨neg1, A1, n1, c1, rfl, hi1, hb2⟩; have hn1 : n1 ≠ 0 := (fun e => by have := hi1.len_zero.1 e; omega); have hneg : neg1 = false := (by cases neg1 with | false => rfl | true => exact absurd (hi1.neg_iff.1 rfl) (by omega)); subst hneg; obtain ⟨⟨d1, d2⟩, ⟨e1, e2⟩, hsz⟩ := box1s hb2; obtain ⟨l, hsl, hcz, hsv, hnk⟩ := hi1; obtain ⟨N, hN⟩ : ∃ N, 9 * n1 + 1 = N := ⟨_, rfl⟩; have hmk := run_make_u8 .i64 .i64 (9 * (n1 : Int) + 1) N (by omega) (by omega); have h0 : ((n1 : Int) == 0) = false := (by rw [beq_eq_false_iff_ne]; omega); replace hN := Lib.hid hN; replace hn1 := Lib.hid hn1; replace hsv := Lib.hid hsv) | (refine ⟨trivial, ?_⟩; gi_at_call 56; refine (back_in _ _ _ _ _).mono ?_; rintro e w' ⟨rfl, rfl⟩))
  have hblt : 0 < n1 → ∀ b o, A1 = some ⟨b, o, none⟩ → b < w.heap.size := hsl.old
  have hB1 : Below w.heap.size w ((w1.setCell ⟨w.heap.size, 0, none⟩ (.bool false)).setCell ⟨w.heap.size, 1, none⟩ (.slice A1 n1 c1)) := Below.setCell (Below.setCell (hb1.trans (hb2.mono (by simp))) (by simp) _) (by simp) _
  have hc1 : ((w1.setCell ⟨w.heap.size, 0, none⟩ (.bool false)).setCell ⟨w.heap.size, 1, none⟩ (.slice A1 n1 c1)).cell? ⟨w.heap.size, 1, none⟩ = some (.slice A1 n1 c1) := by simp [go_sem, d1, d2]
  obtain ⟨B, hBe⟩ : ∃ B, w1.heap.size = B := ⟨_, rfl⟩
  have hsz1 : ((w1.setCell ⟨w.heap.size, 0, none⟩ (.bool false)).setCell ⟨w.heap.size, 1, none⟩ (.slice A1 n1 c1)).heap.size = B := by simp [hBe]
  rw [hBe] at hsz ⊢
  generalize (w1.setCell ⟨w.heap.size, 0, none⟩ (.bool false)).setCell ⟨w.heap.size, 1, none⟩ (.slice A1 n1 c1) = W1 at hB1 hc1 hsz1 ⊢
  clear d1 d2 e1 e2 hb2 hBe
  have hrow0 : (((W1.alloc (.cells (madeCells #[.int .u8 0] N) 5)).alloc (.cells #[.slice (some ⟨B, 0, none⟩) 0 N] 53)).alloc (.cells #[.slice A1 n1 c1] 22)).ownsRow B 5 1 (.slice (some ⟨B, 0, none⟩) 0 N) 0 [] := by
    have := World.ownsRow_made (base := B) (e := 5) (size := 1) W1 (madeCells #[.int .u8 0] N) N (by omega) (by have := hN.out; unfold maxLen; omega) (by rw [size_madeCells]; simp)
    rw [hsz1] at this
    exact (this.alloc _).alloc _
  have bT := (Boxed.new (W1.alloc (.cells (madeCells #[.int .u8 0] N) 5)) 53 (.slice (some ⟨B, 0, none⟩) 0 N)).alloc (.cells #[.slice A1 n1 c1] 22)
  have bI := Boxed.new ((W1.alloc (.cells (madeCells #[.int .u8 0] N) 5)).alloc (.cells #[.slice (some ⟨B, 0, none⟩) 0 N] 53)) 22 (.slice A1 n1 c1)
  simp only [World.size_alloc, hsz1] at bT bI
  have hc5 : (((W1.alloc (.cells (madeCells #[.int .u8 0] N) 5)).alloc (.cells #[.slice (some ⟨B, 0, none⟩) 0 N] 53)).alloc (.cells #[.slice A1 n1 c1] 22)).cell? ⟨w.heap.size, 1, none⟩ = some (.slice A1 n1 c1) := by
    rw [World.cell?_alloc_lt _ _ _ (by simp; omega), World.cell?_alloc_lt _ _ _ (by simp; omega), World.cell?_alloc_lt _ _ _ (by simp; omega)]; exact hc1
  have hB5 : Below w.heap.size w (((W1.alloc (.cells (madeCells #[.int .u8 0] N) 5)).alloc (.cells #[.slice (some ⟨B, 0, none⟩) 0 N] 53)).alloc (.cells #[.slice A1 n1 c1] 22)) :=
    ((hB1.alloc (by omega) _).alloc (by simp; omega) _).alloc (by simp; omega) _
  have hs5 : (((W1.alloc (.cells (madeCells #[.int .u8 0] N) 5)).alloc (.cells #[.slice (some ⟨B, 0, none⟩) 0 N] 53)).alloc (.cells #[.slice A1 n1 c1] 22)).heap.size = B + 1 + 1 + 1 := by simp [hsz1]
  generalize ((W1.alloc (.cells (madeCells #[.int .u8 0] N) 5)).alloc (.cells #[.slice (some ⟨B, 0, none⟩) 0 N] 53)).alloc (.cells #[.slice A1 n1 c1] 22) = W5 at hrow0 bT bI hc5 hB5 hs5 ⊢
  have hlenE := Lib.hid hsl.len
  have hG : Grp l := hcz.1.1
  have hnb : n1 ≤ 1000000000 := by omega
  refine wpIn_rangeFunc_ownG rfl (by omega) (gf := 83) (lb := #[.pointer (some ⟨B + 1 + 1, 0, none⟩)]) rfl trivial (enters_of Tryd.func83 (by kernel_rfl) rfl)
    (back_stops_kp 5 (by omega) (B + 1 + 1) (fun W W' => Below B W W' ∧ ∀ v, Boxed W (B + 1 + 1) 22 v → Boxed W' (B + 1 + 1) 22 v) A1 n1 c1 l hnb W5 (fun W => ⟨Below.refl _ _, fun _ h => h⟩) (fun h k => ⟨h.1.trans k.1, fun v hv => k.2 v (h.2 v hv)⟩)
      (fun W hW wr hk => ⟨(hk.2 _ ((hW.block _ (by omega)).trans bI)).cell, ((hsl.below (hB5.trans (hW.mono (by omega))) (Nat.le_refl _)).below' hk.1 (fun h b o e => by have := hblt h b o e; omega))⟩))
    (fun h k => ⟨h.1.trans k.1, fun v hv => k.2 v (h.2 v hv)⟩)
    (fun W lo o o' hl h hc hw => ⟨belowK_b (w := W5) (by omega) W lo o o' hl h hc hw, fun v hv => hv.kept (grownBy_putObj' W lo o') (by simp; omega)⟩)
    (Below.refl _ _) (fun _ => rfl)
    (fun (pre : List (Ix n1)) W => (∃ v, Boxed W (B + 1) 53 v ∧ W.ownsRow B 5 1 v ([] ++ (idx pre).flatMap (chunk l)).length (Lib.byteCells ([] ++ (idx pre).flatMap (chunk l))) ∧ True) ∧ Below B W5 W)
    (fun _ _ _ => False)
    (OwnFrom.and (Own.from (holdsRow_own B (B + 1) 53 5 1 (fun (pre : List (Ix n1)) => ([] ++ (idx pre).flatMap (chunk l)).length) (fun (pre : List (Ix n1)) => Lib.byteCells ([] ++ (idx pre).flatMap (chunk l))) (fun _ _ => True)) _) (ownFrom_below (by omega) (by omega)))
    (fun _ _ _ _ _ hs _ _ => hs)
    ⟨⟨_, bT, hrow0, trivial⟩, Below.refl _ _⟩
    (fun (x : Ix n1) => { tmps := #[.agg #[.bool neg, .slice A n c], .pointer (some ⟨w.heap.size, 0, none⟩), .string ⟨#[]⟩, .pointer (some ⟨B + 1, 0, none⟩), .int .i64 ((x.1 : Nat) : Int), .int .u32 ((nth l x.1 : Nat) : Int), .agg #[.bool neg, .slice A n c], .agg #[.bool false, .slice A1 n1 c1], .pointer (some ⟨w.heap.size, 1, none⟩), .slice A1 n1 c1, .int .i64 n1, .bool false, .pointer (some ⟨w.heap.size, 1, none⟩), .slice A1 n1 c1, .int .i64 n1, .int .i64 (9 * (n1 : Int)), .int .i64 (9 * (n1 : Int) + 1), .slice (some ⟨B, 0, none⟩) 0 N, .pointer (some ⟨w.heap.size, 0, none⟩), .bool false, undef, undef, undef, .pointer (some ⟨w.heap.size, 1, none⟩), .slice A1 n1 c1, .func (.func 83) #[] #[.pointer (some ⟨B + 1 + 1, 0, none⟩)], .int .i64 ((x.1 : Nat) : Int), .int .u32 ((nth l x.1 : Nat) : Int), undef, undef, undef, undef, undef, undef, undef, undef, undef, undef, undef, undef, undef, undef, undef], defers := [] }) ?assign ?body ?done ?stop
  case assign =>
    intro lp x W K hK
    gi_wp2
    exact hK
  case body =>
    rintro lp pre ⟨x, hxn⟩ W ⟨⟨v, hv, hrow, _⟩, hB⟩ hlt
    dsimp only
    have hc3 := hv.cell
    have hc1 := (hB.cell (p := ⟨w.heap.size, 1, none⟩) hsz).trans hc5
    have hWs := hB.size
    have hpre : ((idx pre).flatMap (chunk l)).length ≤ 9 * n1 := by
      have := chunks_length hG (idx pre)
      rw [idx_length] at this
      omega
    have hlen : ([] ++ (idx pre).flatMap (chunk l)).length ≤ 9 * n1 + 1 := by
      rw [List.length_append]
      have : ([] : List UInt8).length ≤ 1 := by decide
      omega
    have hnext : ∀ d : List UInt8, chunk l x = d → [] ++ (idx (pre ++ [(⟨x, hxn⟩ : Ix n1)])).flatMap (chunk l) = ([] ++ (idx pre).flatMap (chunk l)) ++ d := by
      intro d hd
      simp [idx_snoc, List.flatMap_append, hd]
    have hgx := hG.get x
    obtain ⟨u, hu⟩ : ∃ u, nth l x = u := ⟨_, rfl⟩
    rw [hu] at hgx ⊢
    generalize [] ++ (idx pre).flatMap (chunk l) = bs at hrow hlen hnext
    replace hnext := Lib.hid hnext
    have hu9 : (u : Int) ≤ 999999999 := by omega
    by_cases hx : x = n1 - 1
    · have ht : ((x : Int) == (n1 : Int) - 1) = true := by rw [beq_iff_eq]; omega
      have hch := Lib.hid (hnext.out (Lib.decDigits u) (by unfold chunk; rw [← hlenE.out, if_pos hx, hu]))
      have hap := AppendUint_any u (by omega) B bs.length v (Lib.byteCells bs) W hrow (by omega) (by omega) (pows_below hp (hB5.trans (hB.mono (by omega))))
      replace hx := Lib.hid hx
      gi_wp2_with (refine ⟨trivial, ?_⟩; gi_at_call 57; refine (CallsIn.inRound lp (callsIn_wide.2 hap)).mono ?_; rintro e w2 ⟨v', rfl, hown', hb2, ho2⟩; rw [← Lib.byteCells_append, ← List.length_append] at hown'; obtain ⟨m, hm⟩ : ∃ m, (bs ++ Lib.decDigits u).length = m + 1 := ⟨(bs ++ Lib.decDigits u).length - 1, (by have := Lib.nDigits_pos u; rw [List.length_append, Lib.decDigits_length]; omega)⟩; rw [hm] at hown'; obtain ⟨g', cap', rfl⟩ := ownsRow_succ hown'; obtain ⟨k1, k2, k3, k4, k5, k6⟩ := after_chunk hv hown' hb2 ho2 hb2.size (by omega); have hcc := k1.cell; have hff := k1.frozen)
      exact ⟨k4.from _, ⟨k5, fun u hu => k6 _ _ (by omega) hu⟩, ⟨_, k2, by rw [hch.out, hm]; exact k3, trivial⟩, hB.trans k5⟩
    · have ht : ((x : Int) == (n1 : Int) - 1) = false := by rw [beq_eq_false_iff_ne]; omega
      have hch := Lib.hid (hnext.out (pads u 9) (by unfold chunk; rw [← hlenE.out, if_neg hx, hu]))
      have hap := appendGroup_any u hgx B bs.length v (Lib.byteCells bs) W hrow (by omega) (by omega)
      replace hx := Lib.hid hx
      gi_wp2_with (refine ⟨trivial, ?_⟩; gi_at_call 58; refine (CallsIn.inRound lp (callsIn_wide.2 hap)).mono ?_; rintro e w2 ⟨v', rfl, hown', hb2, ho2⟩; rw [← Lib.byteCells_append] at hown'; obtain ⟨g', cap', rfl⟩ := ownsRow_succ (k := bs.length + 8) hown'; obtain ⟨k1, k2, k3, k4, k5, k6⟩ := after_chunk hv hown' hb2 ho2 hb2.size (by omega); have hcc := k1.cell; have hff := k1.frozen)
      exact ⟨k4.from _, ⟨k5, fun u hu => k6 _ _ (by omega) hu⟩, ⟨_, k2, by rw [hch.out, List.length_append, pads_length]; exact k3, trivial⟩, hB.trans k5⟩
  case done =>
    rintro D ys W hD hys ⟨⟨v, hv, hrow, _⟩, hB⟩ hK
    have hbs : [] ++ (idx ys).flatMap (chunk l) = txt false l := by
      have hl0 : l ≠ [] := fun e => by have := hlenE.out; rw [e] at this; exact hn1.out this
      unfold txt
      rw [if_neg hl0, ← hlenE.out]
      show [] ++ (ys.map (·.1)).flatMap (chunk l) = _
      rw [hys]
      rfl
    rw [hbs] at hrow
    obtain ⟨bs, hbs2⟩ : ∃ bs, txt false l = bs := ⟨_, rfl⟩
    have hpos : 0 < bs.length := by
      rw [← hbs2, ← hbs, List.length_append]
      show 0 < _ + ((ys.map (·.1)).flatMap (chunk l)).length
      rw [hys, show down n1 n1 = (n1 - 1) :: (List.range (n1 - 1)).map (fun j => n1 - 1 - (j + 1)) by
        unfold down
        obtain ⟨p, hp⟩ : ∃ p, n1 = p + 1 := ⟨n1 - 1, by have := hn1.out; omega⟩
        rw [hp, List.range_succ_eq_map]
        simp, List.flatMap_cons, List.length_append]
      have : 0 < (chunk l (n1 - 1)).length := by
        unfold chunk
        rw [← hlenE.out, if_pos rfl, Lib.decDigits_length]
        exact Lib.nDigits_pos _
      omega
    rw [hbs2] at hrow
    rcases hrow.2 with ⟨_, h1⟩ | ⟨g, cap, cur, rfl, h1, h2, h3, h4, h5, h6⟩
    · omega
    · have hc3 := hv.cell
      have hcv := run_convert_bytes_back (P := Tryd.prog) W 53 9 5 ⟨g, 0, none⟩ cap bs Tryd.underlying53 Tryd.underlying5 Tryd.underlying9 (fun j hj => by
        have := hrow.cells (g := g) rfl j (.int .u8 (bs[j].toNat : Int)) (by simp [Lib.byteCells, hj])
        exact this)
      replace hrow := Lib.hid hrow
      gi_wp2
      refine ⟨by simp, .inl ⟨_, _, rfl, run_takeDeferred hK, ?_⟩⟩
      exact ⟨_, results_tmp rfl _ _ _, false, l, hcz, hsv.out, by exact ret_str (by rw [hbs2]), hB5.trans ((hB.mono (by omega)).trans (belowK_b (w := W5) (by omega) W D _ _ hD hK rfl rfl))⟩
  case stop =>
    rintro D cd pre W _ _ hf _
    exact hf.elim
set_option maxRecDepth 100000 in
set_option maxHeartbeats 4000000 in
/-- Text of a negative integer. -/
theorem Text_neg (neg : Bool) (A : Option Addr) (n c : Nat) (z : Int) (k : Nat) (w : World) (h : VI w neg A n c z k) (hk : k ≤ 1000000000) (hz : z < 0) (hp : Pows w) :
    Calls Tryd.prog 24 #[.agg #[.bool neg, .slice A n c]] w (RetT w z) := by
  have hb1 := (Below.refl w.heap.size w).alloc (Nat.le_refl _) (.cells #[.bool neg, .slice A n c] 24)
  obtain ⟨i0, hi, hz0, hz1, hz2⟩ := infoB
  refine (callsIn_wide (n := 6)).1 ?_
  refine callsIn_of_wp_marks Tryd.func24 rfl trivial ?_ rfl
  simp only [Tryd.ntmps24, List.size_toArray, List.length_cons, List.length_nil, Nat.reduceAdd, Nat.reduceSub, Array.replicate_succ, Array.replicate_zero, List.push_toArray, List.append_toArray, List.nil_append, List.cons_append]
  gi_wp2_with (first | (refine ⟨trivial, ?_⟩; gi_at_call 50; refine (callsIn_wide.2 (counted_old neg A n c z k w _ h hb1 hk)).mono ?_; rintro e w1 ⟨neg1, A1, n1, c1, rfl, hi1, hb2⟩; have hn1 : n1 ≠ 0 := (fun e => by have := hi1.len_zero.1 e; omega); have hneg : neg1 = true := hi1.neg_iff.2 hz; subst hneg; obtain ⟨⟨d1, d2⟩, ⟨e1, e2⟩, hsz⟩ := box1s hb2; obtain ⟨l, hsl, hcz, hsv, hnk⟩ := hi1; obtain ⟨N, hN⟩ : ∃ N, 9 * n1 + 1 = N := ⟨_, rfl⟩; have hmk := run_make_u8 .i64 .i64 (9 * (n1 : Int) + 1) N (by omega) (by omega); have h0 : ((n1 : Int) == 0) = false := (by rw [beq_eq_false_iff_ne]; omega); have hrow00 := ((World.ownsRow_made (base := w1.heap.size) (e := 5) (size := 1) ((w1.setCell ⟨w.heap.size, 0, none⟩ (.bool true)).setCell ⟨w.heap.size, 1, none⟩ (.slice A1 n1 c1)) (madeCells #[.int .u8 0] N) N (by simp) (by have := hN; unfold maxLen; omega) (by rw [size_madeCells]; simp)).alloc (.cells #[.slice (some ⟨w1.heap.size, 0, none⟩) 0 N] 53)); have bT0 := Boxed.new (((w1.setCell ⟨w.heap.size, 0, none⟩ (.bool true)).setCell ⟨w.heap.size, 1, none⟩ (.slice A1 n1 c1)).alloc (.cells (madeCells #[.int .u8 0] N) 5)) 53 (.slice (some ⟨w1.heap.size, 0, none⟩) 0 N); have hnew45 := cell_one_new ((((w1.setCell ⟨w.heap.size, 0, none⟩ (.bool true)).setCell ⟨w.heap.size, 1, none⟩ (.slice A1 n1 c1)).alloc (.cells (madeCells #[.int .u8 0] N) 5)).alloc (.cells #[.slice (some ⟨w1.heap.size, 0, none⟩) 0 N] 53)) (.int .u8 45) 5; simp only [World.size_alloc, World.size_setCell] at hrow00 bT0 hnew45; have hc00 : (((((w1.setCell ⟨w.heap.size, 0, none⟩ (.bool true)).setCell ⟨w.heap.size, 1, none⟩ (.slice A1 n1 c1)).alloc (.cells (madeCells #[.int .u8 0] N) 5)).alloc (.cells #[.slice (some ⟨w1.heap.size, 0, none⟩) 0 N] 53))).cell? ⟨w.heap.size, 1, none⟩ = some (.slice A1 n1 c1) := (by rw [World.cell?_alloc_lt _ _ _ (by simp <;> omega), World.cell?_alloc_lt _ _ _ (by simp <;> omega)]; simp [go_sem, d1, d2]); replace hN := Lib.hid hN; replace hn1 := Lib.hid hn1; replace hsv := Lib.hid hsv) | (gi_at_builtin; refine wpListIn_append_own _ rfl _ _ 53 rfl w1.heap.size 5 i0 (.int .u8 0) 1 1 Tryd.underlying53 hi hz0 hz1 hz2 rfl (by decide) _ _ _ rfl (hrow00.alloc _) ⟨w1.heap.size + 1 + 1, 0, none⟩ 1 1 [.int .u8 45] rfl rfl hnew45 (by simp [Value.oneCell']) (by decide) (by omega) (by simp <;> omega) ?_; intro v' w2 hown' hgrow _; obtain ⟨hv1, hv2, hr2, hkk2, hbb2⟩ := bT0.appended (by decide) hrow00 (by simp; omega) (by omega) hown' hgrow; obtain ⟨g', cap', rfl⟩ := ownsRow_succ hown'; have hcc := hv1.cell; have hff := hv1.frozen; have hcA := hbb2.cell (p := ⟨w.heap.size, 1, none⟩) hsz; rw [World.cell?_setCell_other _ _ _ _ (by simp <;> omega)] at hcA; replace hcA := hcA.trans hc00) | (refine ⟨trivial, ?_⟩; gi_at_call 56; refine (back_in _ _ _ _ _).mono ?_; rintro e w' ⟨rfl, rfl⟩))
  have hblt : 0 < n1 → ∀ b o, A1 = some ⟨b, o, none⟩ → b < w.heap.size := hsl.old
  have hB1 : Below w.heap.size w ((w1.setCell ⟨w.heap.size, 0, none⟩ (.bool true)).setCell ⟨w.heap.size, 1, none⟩ (.slice A1 n1 c1)) := Below.setCell (Below.setCell (hb1.trans (hb2.mono (by simp))) (by simp) _) (by simp) _
  have hB5 : Below w.heap.size w ((w2.setCell ⟨w1.heap.size + 1, 0, none⟩ (.slice (some ⟨g', 0, none⟩) 1 cap')).alloc (.cells #[.slice A1 n1 c1] 22)) :=
    ((((hB1.alloc (by simp; omega) _).alloc (by simp; omega) _).trans (hbb2.mono (by omega))).alloc (by have := hv1.lt; simp; omega) _)
  have hI : w1.heap.size + 1 < w2.heap.size := hv1.lt
  have hrow0 : ((w2.setCell ⟨w1.heap.size + 1, 0, none⟩ (.slice (some ⟨g', 0, none⟩) 1 cap')).alloc (.cells #[.slice A1 n1 c1] 22)).ownsRow w1.heap.size 5 1 (.slice (some ⟨g', 0, none⟩) 1 cap') 1 [.int .u8 45] := by exact hr2.alloc _
  have bT : Boxed ((w2.setCell ⟨w1.heap.size + 1, 0, none⟩ (.slice (some ⟨g', 0, none⟩) 1 cap')).alloc (.cells #[.slice A1 n1 c1] 22)) (w1.heap.size + 1) 53 (.slice (some ⟨g', 0, none⟩) 1 cap') := by exact hv2.alloc _
  have bI := Boxed.new (w2.setCell ⟨w1.heap.size + 1, 0, none⟩ (.slice (some ⟨g', 0, none⟩) 1 cap')) 22 (.slice A1 n1 c1)
  have hc5 : ((w2.setCell ⟨w1.heap.size + 1, 0, none⟩ (.slice (some ⟨g', 0, none⟩) 1 cap')).alloc (.cells #[.slice A1 n1 c1] 22)).cell? ⟨w.heap.size, 1, none⟩ = some (.slice A1 n1 c1) := by
    rw [World.cell?_alloc_lt _ _ _ (by simp; omega), World.cell?_setCell_other _ _ _ _ (by simp <;> omega)]; exact hcA
  have hs5 : ((w2.setCell ⟨w1.heap.size + 1, 0, none⟩ (.slice (some ⟨g', 0, none⟩) 1 cap')).alloc (.cells #[.slice A1 n1 c1] 22)).heap.size = w2.heap.size + 1 := by simp
  rw [World.size_setCell] at bI
  generalize (w2.setCell ⟨w1.heap.size + 1, 0, none⟩ (.slice (some ⟨g', 0, none⟩) 1 cap')).alloc (.cells #[.slice A1 n1 c1] 22) = W5 at hrow0 bT bI hc5 hB5 hs5 ⊢
  clear hrow00 bT0 hnew45 hc00 hown' hgrow hv1 hv2 hr2 hkk2 hbb2 hcc hff hcA d1 d2 e1 e2 hb2 hB1
  generalize w1.heap.size = B at *
  generalize w2.heap.size = I at *
  have hlenE := Lib.hid hsl.len
  have hG : Grp l := hcz.1.1
  have hnb : n1 ≤ 1000000000 := by omega
  refine wpIn_rangeFunc_ownG rfl (by omega) (gf := 83) (lb := #[.pointer (some ⟨I, 0, none⟩)]) rfl trivial (enters_of Tryd.func83 (by kernel_rfl) rfl)
    (back_stops_kp 5 (by omega) (I) (fun W W' => Below B W W' ∧ ∀ v, Boxed W (I) 22 v → Boxed W' (I) 22 v) A1 n1 c1 l hnb W5 (fun W => ⟨Below.refl _ _, fun _ h => h⟩) (fun h k => ⟨h.1.trans k.1, fun v hv => k.2 v (h.2 v hv)⟩)
      (fun W hW wr hk => ⟨(hk.2 _ ((hW.block _ (by omega)).trans bI)).cell, ((hsl.below (hB5.trans (hW.mono (by omega))) (Nat.le_refl _)).below' hk.1 (fun h b o e => by have := hblt h b o e; omega))⟩))
    (fun h k => ⟨h.1.trans k.1, fun v hv => k.2 v (h.2 v hv)⟩)
    (fun W lo o o' hl h hc hw => ⟨belowK_b (w := W5) (by omega) W lo o o' hl h hc hw, fun v hv => hv.kept (grownBy_putObj' W lo o') (by simp; omega)⟩)
    (Below.refl _ _) (fun _ => rfl)
    (fun (pre : List (Ix n1)) W => (∃ v, Boxed W (B + 1) 53 v ∧ W.ownsRow B 5 1 v ([45] ++ (idx pre).flatMap (chunk l)).length (Lib.byteCells ([45] ++ (idx pre).flatMap (chunk l))) ∧ True) ∧ Below B W5 W)
    (fun _ _ _ => False)
    (OwnFrom.and (Own.from (holdsRow_own B (B + 1) 53 5 1 (fun (pre : List (Ix n1)) => ([45] ++ (idx pre).flatMap (chunk l)).length) (fun (pre : List (Ix n1)) => Lib.byteCells ([45] ++ (idx pre).flatMap (chunk l))) (fun _ _ => True)) _) (ownFrom_below (by omega) (by omega)))
    (fun _ _ _ _ _ hs _ _ => hs)
    ⟨⟨_, bT, hrow0, trivial⟩, Below.refl _ _⟩
    (fun (x : Ix n1) => { tmps := #[.agg #[.bool neg, .slice A n c], .pointer (some ⟨w.heap.size, 0, none⟩), .string ⟨#[]⟩, .pointer (some ⟨B + 1, 0, none⟩), .int .i64 ((x.1 : Nat) : Int), .int .u32 ((nth l x.1 : Nat) : Int), .agg #[.bool neg, .slice A n c], .agg #[.bool true, .slice A1 n1 c1], .pointer (some ⟨w.heap.size, 1, none⟩), .slice A1 n1 c1, .int .i64 n1, .bool false, .pointer (some ⟨w.heap.size, 1, none⟩), .slice A1 n1 c1, .int .i64 n1, .int .i64 (9 * (n1 : Int)), .int .i64 (9 * (n1 : Int) + 1), .slice (some ⟨B, 0, none⟩) 0 N, .pointer (some ⟨w.heap.size, 0, none⟩), .bool true, .slice (some ⟨B, 0, none⟩) 0 N, .slice (some ⟨B + 1 + 1, 0, none⟩) 1 1, .slice (some ⟨g', 0, none⟩) 1 cap', .pointer (some ⟨w.heap.size, 1, none⟩), .slice A1 n1 c1, .func (.func 83) #[] #[.pointer (some ⟨I, 0, none⟩)], .int .i64 ((x.1 : Nat) : Int), .int .u32 ((nth l x.1 : Nat) : Int), undef, undef, undef, undef, undef, undef, undef, undef, undef, undef, undef, undef, undef, undef, undef], defers := [] }) ?assign ?body ?done ?stop
  case assign =>
    intro lp x W K hK
    gi_wp2
    exact hK
  case body =>
    rintro lp pre ⟨x, hxn⟩ W ⟨⟨v, hv, hrow, _⟩, hB⟩ hlt
    dsimp only
    have hc3 := hv.cell
    have hc1 := (hB.cell (p := ⟨w.heap.size, 1, none⟩) hsz).trans hc5
    have hWs := hB.size
    have hpre : ((idx pre).flatMap (chunk l)).length ≤ 9 * n1 := by
      have := chunks_length hG (idx pre)
      rw [idx_length] at this
      omega
    have hlen : ([45] ++ (idx pre).flatMap (chunk l)).length ≤ 9 * n1 + 1 := by
      rw [List.length_append]
      have : ([45] : List UInt8).length ≤ 1 := by decide
      omega
    have hnext : ∀ d : List UInt8, chunk l x = d → [45] ++ (idx (pre ++ [(⟨x, hxn⟩ : Ix n1)])).flatMap (chunk l) = ([45] ++ (idx pre).flatMap (chunk l)) ++ d := by
      intro d hd
      simp [idx_snoc, List.flatMap_append, hd]
    have hgx := hG.get x
    obtain ⟨u, hu⟩ : ∃ u, nth l x = u := ⟨_, rfl⟩
    rw [hu] at hgx ⊢
    generalize [45] ++ (idx pre).flatMap (chunk l) = bs at hrow hlen hnext
    replace hnext := Lib.hid hnext
    have hu9 : (u : Int) ≤ 999999999 := by omega
    by_cases hx : x = n1 - 1
    · have ht : ((x : Int) == (n1 : Int) - 1) = true := by rw [beq_iff_eq]; omega
      have hch := Lib.hid (hnext.out (Lib.decDigits u) (by unfold chunk; rw [← hlenE.out, if_pos hx, hu]))
      have hap := AppendUint_any u (by omega) B bs.length v (Lib.byteCells bs) W hrow (by omega) (by omega) (pows_below hp (hB5.trans (hB.mono (by omega))))
      replace hx := Lib.hid hx
      gi_wp2_with (refine ⟨trivial, ?_⟩; gi_at_call 57; refine (CallsIn.inRound lp (callsIn_wide.2 hap)).mono ?_; rintro e w2 ⟨v', rfl, hown', hb2, ho2⟩; rw [← Lib.byteCells_append, ← List.length_append] at hown'; obtain ⟨m, hm⟩ : ∃ m, (bs ++ Lib.decDigits u).length = m + 1 := ⟨(bs ++ Lib.decDigits u).length - 1, (by have := Lib.nDigits_pos u; rw [List.length_append, Lib.decDigits_length]; omega)⟩; rw [hm] at hown'; obtain ⟨g', cap', rfl⟩ := ownsRow_succ hown'; obtain ⟨k1, k2, k3, k4, k5, k6⟩ := after_chunk hv hown' hb2 ho2 hb2.size (by omega); have hcc := k1.cell; have hff := k1.frozen)
      exact ⟨k4.from _, ⟨k5, fun u hu => k6 _ _ (by omega) hu⟩, ⟨_, k2, by rw [hch.out, hm]; exact k3, trivial⟩, hB.trans k5⟩
    · have ht : ((x : Int) == (n1 : Int) - 1) = false := by rw [beq_eq_false_iff_ne]; omega
      have hch := Lib.hid (hnext.out (pads u 9) (by unfold chunk; rw [← hlenE.out, if_neg hx, hu]))
      have hap := appendGroup_any u hgx B bs.length v (Lib.byteCells bs) W hrow (by omega) (by omega)
      replace hx := Lib.hid hx
      gi_wp2_with (refine ⟨trivial, ?_⟩; gi_at_call 58; refine (CallsIn.inRound lp (callsIn_wide.2 hap)).mono ?_; rintro e w2 ⟨v', rfl, hown', hb2, ho2⟩; rw [← Lib.byteCells_append] at hown'; obtain ⟨g', cap', rfl⟩ := ownsRow_succ (k := bs.length + 8) hown'; obtain ⟨k1, k2, k3, k4, k5, k6⟩ := after_chunk hv hown' hb2 ho2 hb2.size (by omega); have hcc := k1.cell; have hff := k1.frozen)
      exact ⟨k4.from _, ⟨k5, fun u hu => k6 _ _ (by omega) hu⟩, ⟨_, k2, by rw [hch.out, List.length_append, pads_length]; exact k3, trivial⟩, hB.trans k5⟩
  case done =>
    rintro D ys W hD hys ⟨⟨v, hv, hrow, _⟩, hB⟩ hK
    have hbs : [45] ++ (idx ys).flatMap (chunk l) = txt true l := by
      have hl0 : l ≠ [] := fun e => by have := hlenE.out; rw [e] at this; exact hn1.out this
      unfold txt
      rw [if_neg hl0, ← hlenE.out]
      show [45] ++ (ys.map (·.1)).flatMap (chunk l) = _
      rw [hys]
      rfl
    rw [hbs] at hrow
    obtain ⟨bs, hbs2⟩ : ∃ bs, txt true l = bs := ⟨_, rfl⟩
    have hpos : 0 < bs.length := by
      rw [← hbs2, ← hbs, List.length_append]
      show 0 < _ + ((ys.map (·.1)).flatMap (chunk l)).length
      rw [hys, show down n1 n1 = (n1 - 1) :: (List.range (n1 - 1)).map (fun j => n1 - 1 - (j + 1)) by
        unfold down
        obtain ⟨p, hp⟩ : ∃ p, n1 = p + 1 := ⟨n1 - 1, by have := hn1.out; omega⟩
        rw [hp, List.range_succ_eq_map]
        simp, List.flatMap_cons, List.length_append]
      have : 0 < (chunk l (n1 - 1)).length := by
        unfold chunk
        rw [← hlenE.out, if_pos rfl, Lib.decDigits_length]
        exact Lib.nDigits_pos _
      omega
    rw [hbs2] at hrow
    rcases hrow.2 with ⟨_, h1⟩ | ⟨g, cap, cur, rfl, h1, h2, h3, h4, h5, h6⟩
    · omega
    · have hc3 := hv.cell
      have hcv := run_convert_bytes_back (P := Tryd.prog) W 53 9 5 ⟨g, 0, none⟩ cap bs Tryd.underlying53 Tryd.underlying5 Tryd.underlying9 (fun j hj => by
        have := hrow.cells (g := g) rfl j (.int .u8 (bs[j].toNat : Int)) (by simp [Lib.byteCells, hj])
        exact this)
      replace hrow := Lib.hid hrow
      gi_wp2
      refine ⟨by simp, .inl ⟨_, _, rfl, run_takeDeferred hK, ?_⟩⟩
      exact ⟨_, results_tmp rfl _ _ _, true, l, hcz, hsv.out, by exact ret_str (by rw [hbs2]), hB5.trans ((hB.mono (by omega)).trans (belowK_b (w := W5) (by omega) W D _ _ hD hK rfl rfl))⟩
  case stop =>
    rintro D cd pre W _ _ hf _
    exact hf.elim

end Go.Proofs.YtabibkhcdamlhaaDoor
