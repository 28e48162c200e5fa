/-
  Walk: readMeta of package frame.
-/
import Derived.Test.YtfkoboljobghkaaFrCu
import Derived.Lib.SlBytesConst
set_option linter.unusedSimpArgs false
set_option linter.unusedVariables false
namespace Go.Proofs.Ytfkoboljobghkaa
open Go.RowKit Go.Shelf

theorem infoE : (Try.prog.info? 68).map (fun i => (i.zero, i.size, i.bytes)) = some (some (.agg #[.string ⟨#[]⟩, .string ⟨#[]⟩]), 2, 32) := by kernel_rfl

theorem str_any (A : Option Addr) (n c : Nat) (l : List Int) (w : World) (h : Sb w A n c l) (hA : A ≠ none) : (convert 53 9 (.slice A n c)).run Try.prog w = .ok (.string (strOfNums l)) w := by
  cases A with
  | none => exact absurd rfl hA
  | some a =>
    by_cases h0 : 0 < n
    · obtain ⟨b, off, e, hc⟩ := h.2.2.2 h0
      cases e
      exact run_convert_bytes_arg w 53 5 Try.underlying53 Try.underlying5 b off n c l h.len.symm hc 9 Try.underlying9
    · obtain rfl : n = 0 := by omega
      have hl : l = [] := List.length_eq_zero_iff.1 h.len.symm
      subst hl
      exact run_convert_bytes_zero w 53 5 Try.underlying53 Try.underlying5 (some a) c 9 Try.underlying9

def ecells (E : List Ent) : List Value := E.flatMap fun e => [.string e.1, .string e.2]
theorem ecells_length (E : List Ent) : (ecells E).length = E.length * 2 := by
  induction E with
  | nil => rfl
  | cons e E ih => unfold ecells at *; rw [List.flatMap_cons, List.length_append, ih]; simp; omega
def slen : Value → Nat
  | .slice _ n _ => n
  | _ => 0

/-- What is left of the bytes. -/
def Tl (w0 w : World) (v : Value) (l : List Int) : Prop := ∃ A n c, v = .slice A n c ∧ Sb w A n c l ∧ (A = none → c = 0) ∧ (0 < n → ∀ b off, A = some ⟨b, off, none⟩ → b < w0.heap.size)

theorem Tl.from {w0 w : World} {A : Option Addr} {n c : Nat} {l : List Int} (h : Sb w A n c l) (hA : A = none → c = 0) (hold : 0 < n → ∀ b off, A = some ⟨b, off, none⟩ → b < w0.heap.size) (hn : 0 < n) {k : Nat} (hk : k ≤ n) : Tl w0 w (Lib.fromV A n c k) (l.drop k) := by
  refine ⟨_, _, _, rfl, h.drop hk, ?_, ?_⟩
  · intro e
    split at e
    · have := hA e; have := h.le_cap; omega
    · cases A with
      | none => have := hA rfl; have := h.le_cap; omega
      | some a => simp at e
  · intro h0 b off e
    obtain ⟨b', off', e', -, -⟩ := h.at_ hn
    subst e'
    have := hold hn b' off' rfl
    split at e
    · cases e; exact this
    · simp only [Option.map_some, Option.some.injEq] at e
      have : (Addr.add ⟨b', off', none⟩ k).block = b' := by unfold Addr.add; split <;> rfl
      rw [e] at this
      simp only at this
      omega
theorem Tl.ne {A : Option Addr} {c k : Nat} (hA : A ≠ none) : (if c = k then A else A.map (fun x => x.add k)) ≠ none := by
  split
  · exact hA
  · cases A with
    | none => exact absurd rfl hA
    | some a => simp
theorem Tl.grow {w0 w w' : World} {v : Value} {l : List Int} (h : Tl w0 w v l) (hb : Below w.heap.size w w') : Tl w0 w' v l := by
  obtain ⟨A, n, c, rfl, hs, hA, ho⟩ := h
  exact ⟨A, n, c, rfl, hs.below hb (Nat.le_refl _), hA, ho⟩

/-- What readMeta returns. -/
def MetaP (w : World) (r : Option (List Ent × List Int)) (e : Ending) (w' : World) : Prop :=
  (match r with
   | none => ∃ v1 v2, e = .returned (.tuple #[v1, v2, .bool false])
   | some (E, t) => ∃ v1 v2, e = .returned (.tuple #[v1, v2, .bool true]) ∧ w'.ownsRow w.heap.size 68 2 v1 E.length (ecells E) ∧ Tl w w' v2 t) ∧ Below w.heap.size w w'

set_option maxRecDepth 100000 in
set_option maxHeartbeats 6400000 in
theorem readMeta_any (A : Option Addr) (n c : Nat) (l : List Int) (w : World) (h : Tl w w (.slice A n c) l) (hn : n ≤ 10000000) :
    Calls Try.prog 84 #[.slice A n c] w (MetaP w (metaR (n + 1) l [])) := by
  obtain ⟨i0, hi, hz0, hz1, hz2⟩ := info_parts infoE
  have hc10 := fun (W : World) => Lib.run_convert_bytes_const (P := Try.prog) W 53 5 #[.int .u8 10] 1 1 Try.underlying53 Try.underlying5
  have hc32 := fun (W : World) => Lib.run_convert_bytes_const (P := Try.prog) W 53 5 #[.int .u8 32] 1 1 Try.underlying53 Try.underlying5
  simp only [List.size_toArray, List.length_cons, List.length_nil, Nat.reduceAdd] at hc10 hc32
  replace h := Lib.hid h
  obtain ⟨res, hres⟩ : ∃ r, metaR (n + 1) l [] = r := ⟨_, rfl⟩
  rw [hres]
  replace hres := Lib.hid hres
  go_enter Try.func84, Try.ntmps84
  go_wp2
  go_loopw [0, 5] (fun bv mv wr => ∃ (f n1 : Nat) (l1 : List Int) (E : List Ent), n1 + 1 ≤ f ∧ n1 = slen bv ∧ n1 ≤ n ∧ Tl w wr bv l1 ∧ Hid (metaR f l1 E = res) ∧ wr.ownsRow w.heap.size 68 2 mv E.length (ecells E) ∧ E.length + n1 ≤ n ∧ Below w.heap.size w wr) (fun bv _ _ => slen bv)
  case atStart => exact ⟨n + 1, n, l, [], Nat.le_refl _, rfl, Nat.le_refl _, h.out, hres, World.ownsRow_nil w _ _ _, by simp, Below.refl _ _⟩
  case round =>
    obtain ⟨f, n1, l1, E, hf, hn1, hnn, ⟨A1, n1', c1, rfl, hs, hA, hold⟩, hm, hown, hEn, hB⟩ := hrel
    have : n1' = n1 := hn1.symm
    subst this
    clear hn1
    obtain ⟨f', rfl⟩ : ∃ f', f = f' + 1 := ⟨f - 1, by omega⟩
    obtain ⟨r1, r2⟩ := cutI_range 10 l1
    have hll := hs.len
    have hcap := hs.le_cap
    have hcl := hs.cap_le
    have hsa := hs.alloc (.cells #[.int .u8 10] 5 (1, 2))
    have hcut := Lib.hid (cut_any 10 A1 n1' c1 wr.heap.size l1 _ hsa hA (by rw [cell_of_row _ wr.heap.size 0 _ _ _ (heap_alloc_new wr _)]; rfl) (by omega))
    obtain ⟨i, hi'⟩ : ∃ i, cutI 10 l1 = i := ⟨_, rfl⟩
    rw [hi'] at hcut r1 r2
    have hm' := hm.out
    unfold metaR at hm'
    rw [hi'] at hm'
    by_cases h0 : i < 0
    · rw [if_pos h0] at hm'
      have hV : Lib.cutV A1 n1' c1 1 i = .tuple #[.slice A1 n1' c1, .slice none 0 0, .bool false] := by unfold Lib.cutV; rw [if_neg (by omega)]
      rw [hV] at hcut
      subst hm'
      replace hi' := Lib.hid hi'
      replace hll := Lib.hid hll
      clear hV
      go_wp2_with (go_at_call 96; refine hcut.out.mono ?_; rintro e w2 ⟨rfl, q2, rfl⟩)
      refine bodyPost_ret (v := .tuple #[_, .slice none 0 0, .bool false]) (by simp [results, Try.results84, go_sem]; rfl) rfl ?_
      exact ⟨⟨_, _, rfl⟩, below_drewN (hB.alloc hB.size _) _⟩
    · obtain ⟨m, rfl⟩ : ∃ m : Nat, i = (m : Int) := ⟨i.toNat, by omega⟩
      have hmn := r2 (by omega)
      rw [if_neg h0] at hm'
      have hV : Lib.cutV A1 n1' c1 1 (m : Int) = .tuple #[.slice A1 m c1, .slice (if c1 = m + 1 then A1 else A1.map (fun x => x.add (m + 1))) (n1' - (m + 1)) (c1 - (m + 1)), .bool true] := by unfold Lib.cutV Lib.fromV; rw [if_pos (by omega)]; simp
      rw [hV] at hcut
      have hn1p : 0 < n1' := by omega
      have hAn : A1 ≠ none := by
        obtain ⟨b, off, e, -, -⟩ := hs.at_ hn1p
        rw [e]; simp
      have hW2 : Below w.heap.size w (wr.alloc (.cells #[.int .u8 10] 5 (1, 2))) := hB.alloc hB.size _
      have hTf := Tl.from (w0 := w) hsa hA hold hn1p (k := m + 1) (by omega)
      unfold Lib.fromV at hTf
      obtain ⟨A2, hA2⟩ : ∃ A2, (if c1 = m + 1 then A1 else A1.map (fun x => x.add (m + 1))) = A2 := ⟨_, rfl⟩
      rw [hA2] at hcut hTf
      replace hTf := Lib.hid hTf
      clear hV hA2
      by_cases hm0 : m = 0
      · subst hm0
        rw [if_pos (by rfl)] at hm'
        subst hm'
        replace hi' := Lib.hid hi'
        replace hll := Lib.hid hll
        go_wp2_with (go_at_call 96; refine hcut.out.mono ?_; rintro e w2 ⟨rfl, q2, rfl⟩)
        refine bodyPost_ret (v := .tuple #[u5, .slice A2 (n1' - (0 + 1)) (c1 - (0 + 1)), .bool true]) (by simp [results, Try.results84, go_sem]) rfl ?_
        refine ⟨⟨_, _, rfl, World.ownsRow.alloc hown _, ?_⟩, below_drewN hW2 _⟩
        exact hTf.out.grow (below_drewN (Below.refl _ _) _)
      · rw [if_neg (by omega), Int.toNat_natCast] at hm'
        have hml : Hid (((m : Int) == 0) = false) := Lib.hid (by rw [beq_eq_false_iff_ne]; omega)
        have hml2 := hml.out
        obtain ⟨s1, s2⟩ := cutI_range 32 (l1.take m)
        have hline : Sb (((wr.alloc (.cells #[.int .u8 10] 5 (1, 2)))).alloc (.cells #[.int .u8 32] 5 (1, 2))) A1 m c1 (l1.take m) := (hsa.take (k := m) (by omega) (by omega) (Nat.le_refl _)).alloc _
        have htl : (l1.take m).length = m := by rw [List.length_take]; omega
        have hcut2 := Lib.hid (fun q => cut_any 32 A1 m c1 (wr.heap.size + 1) (l1.take m) ((((wr.alloc (.cells #[.int .u8 10] 5 (1, 2))).drewN q)).alloc (.cells #[.int .u8 32] 5 (1, 2))) hline hA (by
          have := heap_alloc_new ((wr.alloc (.cells #[.int .u8 10] 5 (1, 2))).drewN q) (.cells #[.int .u8 32] 5 (1, 2))
          change (((wr.alloc (.cells #[.int .u8 10] 5 (1, 2))).drewN q).alloc (.cells #[.int .u8 32] 5 (1, 2))).heap[(wr.alloc (.cells #[.int .u8 10] 5 (1, 2))).heap.size]? = _ at this
          rw [World.size_alloc] at this
          rw [cell_of_row _ (wr.heap.size + 1) 0 _ _ _ this]; rfl) (by omega))
        have hc32' : ∀ q, (convert 53 53 (.slice (some ⟨wr.heap.size + 1, 0, none⟩) 1 1)).run Try.prog (((wr.alloc (.cells #[.int .u8 10] 5 (1, 2))).drewN q).alloc (.cells #[.int .u8 32] 5)) = .ok (.slice (some ⟨wr.heap.size + 1, 0, none⟩) 1 1) (((wr.alloc (.cells #[.int .u8 10] 5 (1, 2))).drewN q).alloc (.cells #[.int .u8 32] 5 (1, 2))) := fun q => by
          have := hc32 ((wr.alloc (.cells #[.int .u8 10] 5 (1, 2))).drewN q)
          have e : ((wr.alloc (.cells #[.int .u8 10] 5 (1, 2))).drewN q).heap.size = wr.heap.size + 1 := World.size_alloc _ _
          rw [e] at this
          exact this
        obtain ⟨j, hj⟩ : ∃ j, cutI 32 (l1.take m) = j := ⟨_, rfl⟩
        rw [hj] at hcut2 s1 s2 hm'
        rw [htl] at s2
        by_cases hj0 : j < 0
        · rw [if_pos hj0] at hm'
          have hV : Lib.cutV A1 m c1 1 j = .tuple #[.slice A1 m c1, .slice none 0 0, .bool false] := by unfold Lib.cutV; rw [if_neg (by omega)]
          rw [hV] at hcut2
          subst hm'
          replace hi' := Lib.hid hi'
          replace hj := Lib.hid hj
          replace hll := Lib.hid hll
          replace htl := Lib.hid htl
          clear hV
          go_wp2_with (first | (go_at_call_of 96 (Value.slice A1 n1' c1); refine hcut.out.mono ?_; rintro e w2 ⟨rfl, q2, rfl⟩) | (go_at_call_of 96 (Value.slice A1 m c1); refine (hcut2.out _).mono ?_; rintro e w3 ⟨rfl, q3, rfl⟩))
          refine bodyPost_ret (v := .tuple #[.slice none 0 0, .slice none 0 0, .bool false]) (by simp [results, Try.results84, go_sem]) rfl ?_
          exact ⟨⟨_, _, rfl⟩, below_drewN ((below_drewN hW2 _).alloc (by have := hB.size; simp; omega) _) _⟩
        · obtain ⟨p, rfl⟩ : ∃ p : Nat, j = (p : Int) := ⟨j.toNat, by omega⟩
          have hpm := s2 (by omega)
          rw [if_neg (by omega), Int.toNat_natCast] at hm'
          have hV : Lib.cutV A1 m c1 1 (p : Int) = .tuple #[.slice A1 p c1, .slice (if c1 = p + 1 then A1 else A1.map (fun x => x.add (p + 1))) (m - (p + 1)) (c1 - (p + 1)), .bool true] := by unfold Lib.cutV Lib.fromV; rw [if_pos (by omega)]; simp
          rw [hV] at hcut2
          have hk1 : Sb wr A1 p c1 ((l1.take m).take p) := (hs.take (k := m) (by omega) (by omega) (Nat.le_refl _)).take (k := p) (by omega) (by omega) (Nat.le_refl _)
          have hk2 := (hs.take (k := m) (c' := c1) (by omega) (by omega) (Nat.le_refl _)).drop (k := p + 1) (by omega)
          have hA3n := Tl.ne (c := c1) (k := p + 1) hAn
          obtain ⟨A3, hA3⟩ : ∃ A3, (if c1 = p + 1 then A1 else A1.map (fun x => x.add (p + 1))) = A3 := ⟨_, rfl⟩
          rw [hA3] at hcut2 hA3n
          have hk2' : Sb wr A3 (m - (p + 1)) (c1 - (p + 1)) ((l1.take m).drop (p + 1)) := hA3 ▸ hk2
          obtain ⟨ks, hks⟩ : ∃ s, strOfNums ((l1.take m).take p) = s := ⟨_, rfl⟩
          obtain ⟨vs, hvs⟩ : ∃ s, strOfNums ((l1.take m).drop (p + 1)) = s := ⟨_, rfl⟩
          have hst1 : ∀ q q', (convert 53 9 (.slice A1 p c1)).run Try.prog ((((wr.alloc (.cells #[.int .u8 10] 5 (1, 2))).drewN q).alloc (.cells #[.int .u8 32] 5 (1, 2))).drewN q') = .ok (.string ks) ((((wr.alloc (.cells #[.int .u8 10] 5 (1, 2))).drewN q).alloc (.cells #[.int .u8 32] 5 (1, 2))).drewN q') := fun q q' => by
            rw [← hks]; exact str_any A1 p c1 _ _ ((((hk1.alloc (.cells #[.int .u8 10] 5 (1, 2))).drewN q).alloc (.cells #[.int .u8 32] 5 (1, 2))).drewN q') hAn
          have hst2 : ∀ q q', (convert 53 9 (.slice A3 (m - (p + 1)) (c1 - (p + 1)))).run Try.prog ((((wr.alloc (.cells #[.int .u8 10] 5 (1, 2))).drewN q).alloc (.cells #[.int .u8 32] 5 (1, 2))).drewN q') = .ok (.string vs) ((((wr.alloc (.cells #[.int .u8 10] 5 (1, 2))).drewN q).alloc (.cells #[.int .u8 32] 5 (1, 2))).drewN q') := fun q q' => by
            rw [← hvs]; exact str_any A3 _ _ _ _ ((((hk2'.alloc (.cells #[.int .u8 10] 5 (1, 2))).drewN q).alloc (.cells #[.int .u8 32] 5 (1, 2))).drewN q') hA3n
          rw [hks, hvs] at hm'
          replace hm' := Lib.hid hm'
          replace hi' := Lib.hid hi'
          replace hj := Lib.hid hj
          replace hll := Lib.hid hll
          replace htl := Lib.hid htl
          replace hks := Lib.hid hks
          replace hvs := Lib.hid hvs
          have hsz := hB.size
          clear hV hA3 hk2 hk1 hk2'
          go_wp2_with (first | (go_at_call_of 96 (Value.slice A1 n1' c1); refine hcut.out.mono ?_; rintro e w2 ⟨rfl, q2, rfl⟩) | (go_at_call_of 96 (Value.slice A1 m c1); refine (hcut2.out _).mono ?_; rintro e w3 ⟨rfl, q3, rfl⟩) | (at_builtin; refine wpList_append_own _ rfl _ _ 22 rfl w.heap.size 68 i0 (.agg #[.string ⟨#[]⟩, .string ⟨#[]⟩]) 2 32 Try.underlying22 hi hz0 hz1 hz2 rfl (by decide) _ _ _ rfl (World.ownsRow.alloc (w := ((((wr.alloc (.cells #[.int .u8 10] 5 (1, 2))).drewN q2).alloc (.cells #[.int .u8 32] 5 (1, 2))).drewN q3)) (World.ownsRow.alloc (World.ownsRow.alloc hown _) _) _) ⟨wr.heap.size + 1 + 1, 0, none⟩ 1 1 [.string ks, .string vs] rfl rfl ?qc2 ?qc3 ?qc4 ?qc5 ?qc6 ?_))
          case qc2 =>
            intro j u hj
            have hX := heap_alloc_new ((((wr.alloc (.cells #[.int .u8 10] 5 (1, 2))).drewN q2).alloc (.cells #[.int .u8 32] 5 (1, 2))).drewN q3) (.cells #[.string ks, .string vs] 68)
            have e : ((((wr.alloc (.cells #[.int .u8 10] 5 (1, 2))).drewN q2).alloc (.cells #[.int .u8 32] 5 (1, 2))).drewN q3).heap.size = wr.heap.size + 1 + 1 := by
              show ((wr.alloc (.cells #[.int .u8 10] 5 (1, 2))).alloc (.cells #[.int .u8 32] 5 (1, 2))).heap.size = _
              rw [World.size_alloc, World.size_alloc]
            rw [e] at hX
            rw [Addr.add_lit, Nat.zero_add, cell_of_row _ _ j _ _ _ hX, List.getElem?_toArray]
            exact hj
          case qc3 =>
            intro u hu
            simp only [List.mem_cons, List.not_mem_nil, or_false] at hu
            rcases hu with rfl | rfl <;> rfl
          case qc4 => unfold maxLen; omega
          case qc5 => omega
          case qc6 =>
            show w.heap.size ≤ (((wr.alloc (.cells #[.int .u8 10] 5 (1, 2))).alloc (.cells #[.int .u8 32] 5 (1, 2))).alloc (.cells #[.string ks, .string vs] 68)).heap.size
            simp
            omega
          intro v' w6 hown6 hgr6 hnil6
          have hB6 : Below w.heap.size w (((((wr.alloc (.cells #[.int .u8 10] 5 (1, 2))).drewN q2).alloc (.cells #[.int .u8 32] 5 (1, 2))).drewN q3).alloc (.cells #[.string ks, .string vs] 68)) := (below_drewN ((below_drewN hW2 q2).alloc (by show w.heap.size ≤ (wr.alloc _).heap.size; simp; omega) _) q3).alloc (by show w.heap.size ≤ ((wr.alloc (.cells #[.int .u8 10] 5 (1, 2))).alloc (.cells #[.int .u8 32] 5 (1, 2))).heap.size; simp; omega) _
          have hB7 : Below w.heap.size w w6 := hB6.grown hgr6 (by show w.heap.size ≤ (((wr.alloc (.cells #[.int .u8 10] 5 (1, 2))).alloc (.cells #[.int .u8 32] 5 (1, 2))).alloc (.cells #[.string ks, .string vs] 68)).heap.size; simp; omega) (fun k hk => (World.ownsRow.lt hown k hk).1)
          have hT7 : Tl w w6 (.slice A2 (n1' - (m + 1)) (c1 - (m + 1))) (l1.drop (m + 1)) := by
            obtain ⟨A9, n9, c9, e9, hs9, hA9, ho9⟩ := hTf.out
            cases e9
            refine ⟨_, _, _, rfl, hs9.keep fun h0 b i ⟨off, e⟩ _ => ?_, hA9, ho9⟩
            have hbw := ho9 h0 b off e
            rw [hB7.cell (p := ⟨b, i, none⟩) hbw, (hB.alloc hB.size (.cells #[.int .u8 10] 5 (1, 2))).cell (p := ⟨b, i, none⟩) hbw]
          go_wp2
          refine ⟨⟨f', n1' - (m + 1), l1.drop (m + 1), E ++ [(ks, vs)], by omega, rfl, by omega, hT7, hm', ?_, by rw [List.length_append]; simp; omega, hB7⟩, by show n1' - (m + 1) < n1'; omega⟩
          have he : ecells (E ++ [(ks, vs)]) = ecells E ++ [.string ks, .string vs] := by simp [ecells]
          rw [he, List.length_append]
          exact hown6

end Go.Proofs.Ytfkoboljobghkaa
