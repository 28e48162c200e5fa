/-
  Walk: matches of package neighbour.
-/
import Derived.Test.YtofoiocpopmifaaNbCi
import Derived.Deep.RegionHeld3
import Derived.Test.YtofoiocpopmifaaInv
import Derived.Deep.RegionWith
set_option linter.unusedSimpArgs false
set_option linter.unusedVariables false
namespace Go.Proofs.Ytofoiocpopmifaa
open Go.RowKit

/-- Matches: first, second, distance. -/
abbrev Mat := Nat × Nat × Nat
def mcells (l : List Mat) : List Value := l.flatMap fun v => [.int .i64 (v.1 : Int), .int .i64 (v.2.1 : Int), .int .i64 (v.2.2 : Int)]
theorem mcells_length : ∀ l : List Mat, (mcells l).length = l.length * 3
  | [] => rfl
  | c :: l => by
    have := mcells_length l
    simp only [mcells, List.flatMap_cons, List.length_append, List.length_cons, List.length_nil] at this ⊢
    omega
theorem mcells_append (a b : List Mat) : mcells (a ++ b) = mcells a ++ mcells b := by simp [mcells]
theorem mcells_one (l : List Mat) : ∀ u ∈ mcells l, u.oneCell' = true := by
  intro u hu
  unfold mcells at hu
  obtain ⟨e, _, h⟩ := List.mem_flatMap.1 hu
  simp only [List.mem_cons, List.not_mem_nil, or_false] at h
  rcases h with rfl | rfl | rfl <;> rfl
theorem infoM : (Try.prog.info? 53).map (fun i => (i.zero, i.size, i.bytes)) = some (some (.agg #[.int .i64 0, .int .i64 0, .int .i64 0]), 3, 24) := by kernel_rfl

/-- Is word i of a matched: its choice, and the choice of that? -/
def selB (a b : List Nat) (num den : Nat) (Lc Lb : List Cho) (i : Nat) : Bool :=
  (choAt Lb (choAt Lc i).1).1 == i && (clearB b (nw a i) (choAt Lc i).1 (choAt Lc i).2 num den && clearB a (nw b (choAt Lc i).1) (choAt Lb (choAt Lc i).1).1 (choAt Lb (choAt Lc i).1).2 num den)
/-- The matches of the first k words. -/
def matF (a b : List Nat) (num den : Nat) (Lc Lb : List Cho) (k : Nat) : List Mat := ((List.range k).filter (selB a b num den Lc Lb)).map fun i => (i, (choAt Lc i).1, (choAt Lc i).2)
theorem matF_succ (a b : List Nat) (num den : Nat) (Lc Lb : List Cho) (k : Nat) : matF a b num den Lc Lb (k + 1) = if selB a b num den Lc Lb k then matF a b num den Lc Lb k ++ [(k, (choAt Lc k).1, (choAt Lc k).2)] else matF a b num den Lc Lb k := by
  unfold matF
  rw [List.range_succ, List.filter_append]
  by_cases h : selB a b num den Lc Lb k
  · simp [h]
  · simp [h]
theorem matF_length (a b : List Nat) (num den : Nat) (Lc Lb : List Cho) (k : Nat) : (matF a b num den Lc Lb k).length ≤ k := by
  unfold matF
  rw [List.length_map]
  have := List.length_filter_le (selB a b num den Lc Lb) (List.range k)
  rwa [List.length_range] at this

set_option maxRecDepth 100000 in
theorem matches_none (A : Option Addr) (n c : Nat) (A2 : Option Addr) (n2 c2 : Nat) (u v : Int) (w : World) (h : n = 0 ∨ n2 = 0) (hn : n ≤ 64) (hn2 : n2 ≤ 64) :
    Calls Try.prog 46 #[.slice A n c, .slice A2 n2 c2, .int .i64 u, .int .i64 v] w fun e w' => e = .returned (.slice none 0 0) ∧ w = w' := by
  by_cases h0 : n = 0
  · subst h0
    go_enter Try.func46, Try.ntmps46
    go_wp2
    go_ret
    exact ⟨rfl, rfl⟩
  · obtain rfl : n2 = 0 := by omega
    have hz : ((n : Int) == 0) = false := by simp; omega
    go_enter Try.func46, Try.ntmps46
    go_wp2
    go_ret
    exact ⟨rfl, rfl⟩

/-- The frame with what the region writes into its slots. -/
def holeMT9 (a : Act) (v39 v40 v41 v42 v43 v44 v45 v46 v47 v48 v49 v50 v51 v52 v53 v54 v55 v56 v57 v58 v59 v60 v61 v62 v63 v64 v65 : Value) : Act := { a with tmps := (((((((((((((((((((((((((((a.tmps.setIfInBounds 39 v39).setIfInBounds 40 v40).setIfInBounds 41 v41).setIfInBounds 42 v42).setIfInBounds 43 v43).setIfInBounds 44 v44).setIfInBounds 45 v45).setIfInBounds 46 v46).setIfInBounds 47 v47).setIfInBounds 48 v48).setIfInBounds 49 v49).setIfInBounds 50 v50).setIfInBounds 51 v51).setIfInBounds 52 v52).setIfInBounds 53 v53).setIfInBounds 54 v54).setIfInBounds 55 v55).setIfInBounds 56 v56).setIfInBounds 57 v57).setIfInBounds 58 v58).setIfInBounds 59 v59).setIfInBounds 60 v60).setIfInBounds 61 v61).setIfInBounds 62 v62).setIfInBounds 63 v63).setIfInBounds 64 v64).setIfInBounds 65 v65) }
/-- The stages of the region. -/
def PMT9 (W0 : World) (x39 x40 x41 x42 x43 x44 x45 x46 x47 x48 x49 x50 x51 x52 x53 x54 x55 x56 x57 x58 x59 x60 x61 x62 x63 x64 x65 : Value) (w : World) : Nat → Prop
  | 0 => Below W0.heap.size W0 w
  | _ => Below W0.heap.size W0 w
abbrev FMT9 (W0 : World) (x39 x40 x41 x42 x43 x44 x45 x46 x47 x48 x49 x50 x51 x52 x53 x54 x55 x56 x57 x58 x59 x60 x61 x62 x63 x64 x65 : Value) (L : Array Bool) (v39 v40 v41 v42 v43 v44 v45 v46 v47 v48 v49 v50 v51 v52 v53 v54 v55 v56 v57 v58 v59 v60 v61 v62 v63 v64 v65 : Value) : Prop := FC L 0 (v39 = x39) ∧ FC L 1 (v40 = x40) ∧ FC L 2 (v41 = x41) ∧ FC L 3 (v42 = x42) ∧ FC L 4 (v43 = x43) ∧ FC L 5 (v44 = x44) ∧ FC L 6 (v45 = x45) ∧ FC L 7 (v46 = x46) ∧ FC L 8 (v47 = x47) ∧ FC L 9 (v48 = x48) ∧ FC L 10 (v49 = x49) ∧ FC L 11 (v50 = x50) ∧ FC L 12 (v51 = x51) ∧ FC L 13 (v52 = x52) ∧ FC L 14 (v53 = x53) ∧ FC L 15 (v54 = x54) ∧ FC L 16 (v55 = x55) ∧ FC L 17 (v56 = x56) ∧ FC L 18 (v57 = x57) ∧ FC L 19 (v58 = x58) ∧ FC L 20 (v59 = x59) ∧ FC L 21 (v60 = x60) ∧ FC L 22 (v61 = x61) ∧ FC L 23 (v62 = x62) ∧ FC L 24 (v63 = x63) ∧ FC L 25 (v64 = x64) ∧ FC L 26 (v65 = x65)
abbrev BMT9 (W0 : World) (x39 x40 x41 x42 x43 x44 x45 x46 x47 x48 x49 x50 x51 x52 x53 x54 x55 x56 x57 x58 x59 x60 x61 x62 x63 x64 x65 : Value) (a0 : Act) (L : Array Bool) (a : Act) (w : World) (v39 v40 v41 v42 v43 v44 v45 v46 v47 v48 v49 v50 v51 v52 v53 v54 v55 v56 v57 v58 v59 v60 v61 v62 v63 v64 v65 : Value) : Prop := a = holeMT9 a0 v39 v40 v41 v42 v43 v44 v45 v46 v47 v48 v49 v50 v51 v52 v53 v54 v55 v56 v57 v58 v59 v60 v61 v62 v63 v64 v65 ∧ L.size = 27 ∧ (∃ k, Stg [13] k L ∧ PMT9 W0 x39 x40 x41 x42 x43 x44 x45 x46 x47 x48 x49 x50 x51 x52 x53 x54 x55 x56 x57 x58 x59 x60 x61 x62 x63 x64 x65 w  k) ∧ FMT9 W0 x39 x40 x41 x42 x43 x44 x45 x46 x47 x48 x49 x50 x51 x52 x53 x54 x55 x56 x57 x58 x59 x60 x61 x62 x63 x64 x65 L v39 v40 v41 v42 v43 v44 v45 v46 v47 v48 v49 v50 v51 v52 v53 v54 v55 v56 v57 v58 v59 v60 v61 v62 v63 v64 v65
/-- What stands while the region is under way. -/
def IMT9 (W0 : World) (x39 x40 x41 x42 x43 x44 x45 x46 x47 x48 x49 x50 x51 x52 x53 x54 x55 x56 x57 x58 x59 x60 x61 x62 x63 x64 x65 : Value) (a0 : Act) (L : Array Bool) (a : Act) (w : World) : Prop :=
  ∃ v39 v40 v41 v42 v43 v44 v45 v46 v47 v48 v49 v50 v51 v52 v53 v54 v55 v56 v57 v58 v59 v60 v61 v62 v63 v64 v65, BMT9 W0 x39 x40 x41 x42 x43 x44 x45 x46 x47 x48 x49 x50 x51 x52 x53 x54 x55 x56 x57 x58 x59 x60 x61 x62 x63 x64 x65 a0 L a w v39 v40 v41 v42 v43 v44 v45 v46 v47 v48 v49 v50 v51 v52 v53 v54 v55 v56 v57 v58 v59 v60 v61 v62 v63 v64 v65

set_option maxRecDepth 100000 in
set_option maxHeartbeats 6400000 in
theorem matches_some (A : Option Addr) (n c : Nat) (a : List Nat) (A2 : Option Addr) (n2 c2 : Nat) (b : List Nat) (num den : Nat) (w : World) (h : WS w A n c a) (h2 : WS w A2 n2 c2 b) (hn : n ≤ 64) (hn2 : n2 ≤ 64) (h0 : 0 < n) (h02 : 0 < n2) (hnum : num ≤ 1000) (hden : den ≤ 1000) :
    Calls Try.prog 46 #[.slice A n c, .slice A2 n2 c2, .int .i64 (num : Int), .int .i64 (den : Int)] w fun e w' => (∃ (Lc Lb : List Cho) (v : Value), e = .returned v ∧ Chosen b a Lc ∧ Chosen a b Lb ∧ w'.ownsRow w.heap.size 53 3 v (matF a b num den Lc Lb n).length (mcells (matF a b num den Lc Lb n))) ∧ Below w.heap.size w w' := by
  have hz : ((n : Int) == 0) = false := by simp; omega
  have hz2 : ((n2 : Int) == 0) = false := by simp; omega
  have hcap := h.le_cap
  have hcl := h.cap_le
  have hcap2 := h2.le_cap
  have hcl2 := h2.cap_le
  have hlen := Lib.hid h.len
  have hlen2 := Lib.hid h2.len
  have hWa := Lib.hid h.2
  have hWb := Lib.hid h2.2
  have hca := Lib.hid (choices_any A2 n2 c2 b A n c a w h2 h hn2 hn h0)
  have hcb := Lib.hid (fun W (hb : Below w.heap.size w W) => choices_any A n c a A2 n2 c2 b W (h.below hb (Nat.le_refl _)) (h2.below hb (Nat.le_refl _)) hn hn2 h02)
  have hsa := Lib.hid h
  have hsb := Lib.hid h2
  have tok : True := trivial
  clear h h2
  go_enter Try.func46, Try.ntmps46
  go_wp2_with (first | (go_at_call 58; clear tok; refine hca.out.mono ?_; rintro e w1 ⟨⟨gB, Lb, rfl, hgB, cbB, hLb⟩, hb1⟩) | (go_at_call 58; refine (hcb.out _ hb1).mono ?_; rintro e w2 ⟨⟨gC, Lc, rfl, hgC, cbC, hLc⟩, hb2⟩))
  have cbB2 := cbB.below hb2 cbB.lt
  have hB2 := hb1.trans (hb2.mono hb1.size)
  have z2 : gB < w2.heap.size := cbB2.lt
  have z3 : gC < w2.heap.size := cbC.lt
  have hLc' := Lib.hid hLc
  have hLb' := Lib.hid hLb
  have cbB' := Lib.hid cbB2
  have cbC' := Lib.hid cbC
  clear hLc hLb cbB cbB2 cbC hca hcb
  go_loopw [9, 29] (fun kv i wr => ∃ k : Nat, k ≤ n ∧ i = .int .i64 (k : Int) ∧ wr.ownsRow w2.heap.size 53 3 kv (matF a b num den Lc Lb k).length (mcells (matF a b num den Lc Lb k)) ∧ Below w2.heap.size w2 wr) (fun _ i _ => n - (intOf i).toNat)
  case atStart => exact ⟨0, Nat.zero_le _, rfl, World.ownsRow_nil _ _ _ _, Below.refl _ _⟩
  case round =>
    obtain ⟨k, hk, rfl, hown, hB⟩ := hrel
    have hz4 := hB.size
    have zB : gB < wr.heap.size := by omega
    have zC : gC < wr.heap.size := by omega
    obtain ⟨K, hK⟩ : ∃ K, matF a b num den Lc Lb k = K := ⟨_, rfl⟩
    have hKl : K.length ≤ k := by rw [← hK]; exact matF_length a b num den Lc Lb k
    obtain ⟨kl, hkl⟩ : ∃ kl, K.length = kl := ⟨_, rfl⟩
    have hsucc := matF_succ a b num den Lc Lb k
    rw [hK] at hown hsucc
    rw [hkl] at hown hKl
    obtain ⟨A3, c3, rfl, -, -, -⟩ := own_form hown
    by_cases hlt : k < n
    · have hka : k < a.length := by rw [← hlen.out]; exact hlt
      have hki : (k : Int) < (n : Int) := by omega
      have near1 := hLc'.out.2 k hka
      obtain ⟨cj, hcj⟩ : ∃ cj, (choAt Lc k).1 = cj := ⟨_, rfl⟩
      obtain ⟨cd, hcd⟩ : ∃ cd, (choAt Lc k).2 = cd := ⟨_, rfl⟩
      rw [hcj, hcd] at near1
      have hcjb : cj < b.length := near1.1
      have hcjn : cj < n2 := by rw [hlen2.out]; exact hcjb
      have near2 := hLb'.out.2 cj hcjb
      obtain ⟨dk, hdk⟩ : ∃ dk, (choAt Lb cj).1 = dk := ⟨_, rfl⟩
      obtain ⟨dd, hdd⟩ : ∃ dd, (choAt Lb cj).2 = dd := ⟨_, rfl⟩
      rw [hdk, hdd] at near2
      have hdka : dk < a.length := near2.1
      have hcd64 := near1.le64
      have hdd64 := near2.le64
      obtain ⟨q0, q1⟩ := (cbC'.out.below hB z3).cell (i := k) (by rw [hLc'.out.1]; exact hka)
      obtain ⟨q2, q3⟩ := (cbB'.out.below hB z2).cell (i := cj) (by rw [hLb'.out.1]; exact hcjb)
      rw [hcj] at q0
      rw [hcd] at q1
      rw [hdk] at q2
      rw [hdd] at q3
      have hsel : selB a b num den Lc Lb k = (dk == k && (clearB b (nw a k) cj cd num den && clearB a (nw b cj) dk dd num den)) := by
        unfold selB
        rw [hcj, hcd, hdk, hdd]
      rw [hcj, hcd] at hsucc
      have hBw : Below w.heap.size w wr := hB2.trans (hB.mono hB2.size)
      have sa := hsa.out.below hBw (Nat.le_refl _)
      have sb := hsb.out.below hBw (Nat.le_refl _)
      obtain ⟨ba, oa, rfl, hba, hca⟩ := sa.at_ (by omega)
      obtain ⟨bb, ob, rfl, hbb, hcb⟩ := sb.at_ (by omega)
      have r0 := hca k hlt
      have r1 := hcb cj hcjn
      obtain ⟨x, hx⟩ : ∃ x, nw a k = x := ⟨_, rfl⟩
      obtain ⟨y, hy⟩ : ∃ y, nw b cj = y := ⟨_, rfl⟩
      rw [hx] at r0 hsel
      rw [hy] at r1 hsel
      have cji : (cj : Int) < (n2 : Int) := by omega
      obtain ⟨e1, he1⟩ : ∃ e1, clearB b x cj cd num den = e1 := ⟨_, rfl⟩
      obtain ⟨e2, he2⟩ : ∃ e2, clearB a y dk dd num den = e2 := ⟨_, rfl⟩
      rw [he1, he2] at hsel
      have hx64 : x < 2 ^ 64 := by rw [← hx]; exact hWa.out.nw k
      have hy64 : y < 2 ^ 64 := by rw [← hy]; exact hWb.out.nw cj
      have kc1 := Lib.hid (fun W (hb : Below wr.heap.size wr W) => isClear_any _ n2 c2 b x cj cd num den W (sb.below hb (Nat.le_refl _)) hx64 (by omega) (by omega) hcd64 hnum hden he1)
      have kc2 := Lib.hid (fun W (hb : Below wr.heap.size wr W) => isClear_any _ n c a y dk dd num den W (sa.below hb (Nat.le_refl _)) hy64 (by omega) (by have := hlen.out; omega) hdd64 hnum hden he2)
      replace hcj := Lib.hid hcj
      replace hcd := Lib.hid hcd
      replace hdk := Lib.hid hdk
      replace hdd := Lib.hid hdd
      replace hx := Lib.hid hx
      replace hy := Lib.hid hy
      replace near1 := Lib.hid near1
      replace near2 := Lib.hid near2
      replace hka := Lib.hid hka
      replace hcjb := Lib.hid hcjb
      replace hdka := Lib.hid hdka
      replace he1 := Lib.hid he1
      replace he2 := Lib.hid he2
      replace hK := Lib.hid hK
      replace hkl := Lib.hid hkl
      clear hca hcb sa sb
      by_cases hdi : dk = k
      · have hd1 : ((dk : Int) == (k : Int)) = true := by simp [hdi]
        obtain rfl : k = dk := hdi.symm
        clear hdi
        obtain ⟨W5, hW5⟩ : ∃ W5, (wr.alloc (.cells #[.int .i64 (cj : Int), .int .i64 (cd : Int)] 92)).alloc (.cells #[.int .i64 (k : Int), .int .i64 (dd : Int)] 92) = W5 := ⟨_, rfl⟩
        have hB5 : Below wr.heap.size wr W5 := by rw [← hW5]; exact ((Below.refl _ _).alloc (Nat.le_refl _) _).alloc (by simp) _
        have z5 : W5.heap.size = wr.heap.size + 2 := by rw [← hW5]; simp
        have s0 := cell_of_row _ wr.heap.size 0 _ _ _ (heap_alloc_new wr (.cells #[.int .i64 (cj : Int), .int .i64 (cd : Int)] 92))
        have s1 := cell_of_row _ wr.heap.size 1 _ _ _ (heap_alloc_new wr (.cells #[.int .i64 (cj : Int), .int .i64 (cd : Int)] 92))
        have s2 := cell_of_row _ _ 0 _ _ _ (heap_alloc_new (wr.alloc (.cells #[.int .i64 (cj : Int), .int .i64 (cd : Int)] 92)) (.cells #[.int .i64 (k : Int), .int .i64 (dd : Int)] 92))
        have s3 := cell_of_row _ _ 1 _ _ _ (heap_alloc_new (wr.alloc (.cells #[.int .i64 (cj : Int), .int .i64 (cd : Int)] 92)) (.cells #[.int .i64 (k : Int), .int .i64 (dd : Int)] 92))
        simp only [World.size_alloc] at s2 s3
        have u0 : W5.cell? ⟨wr.heap.size, 0, none⟩ = some (.int .i64 (cj : Int)) := by rw [← hW5, World.cell?_alloc_lt _ _ _ (by simp)]; exact s0
        have u1 : W5.cell? ⟨wr.heap.size, 1, none⟩ = some (.int .i64 (cd : Int)) := by rw [← hW5, World.cell?_alloc_lt _ _ _ (by simp)]; exact s1
        have u2 : W5.cell? ⟨wr.heap.size + 1, 0, none⟩ = some (.int .i64 (k : Int)) := by rw [← hW5]; exact s2
        have u3 : W5.cell? ⟨wr.heap.size + 1, 1, none⟩ = some (.int .i64 (dd : Int)) := by rw [← hW5]; exact s3
        have u4 : W5.cell? ⟨ba, oa + k, none⟩ = some (.int .u64 (x : Int)) := (hB5.cell (p := ⟨ba, oa + k, none⟩) hba).trans r0
        have u5 : W5.cell? ⟨bb, ob + cj, none⟩ = some (.int .u64 (y : Int)) := (hB5.cell (p := ⟨bb, ob + cj, none⟩) hbb).trans r1
        have keepS : ∀ w', Below W5.heap.size W5 w' → w'.cell? ⟨wr.heap.size, 0, none⟩ = some (.int .i64 (cj : Int)) ∧ w'.cell? ⟨wr.heap.size, 1, none⟩ = some (.int .i64 (cd : Int)) ∧ w'.cell? ⟨wr.heap.size + 1, 0, none⟩ = some (.int .i64 (k : Int)) ∧ w'.cell? ⟨wr.heap.size + 1, 1, none⟩ = some (.int .i64 (dd : Int)) ∧ w'.cell? ⟨ba, oa + k, none⟩ = some (.int .u64 (x : Int)) ∧ w'.cell? ⟨bb, ob + cj, none⟩ = some (.int .u64 (y : Int)) := fun w' hb =>
          ⟨(hb.cell (p := ⟨wr.heap.size, 0, none⟩) (by show wr.heap.size < _; omega)).trans u0, (hb.cell (p := ⟨wr.heap.size, 1, none⟩) (by show wr.heap.size < _; omega)).trans u1, (hb.cell (p := ⟨wr.heap.size + 1, 0, none⟩) (by show wr.heap.size + 1 < _; omega)).trans u2, (hb.cell (p := ⟨wr.heap.size + 1, 1, none⟩) (by show wr.heap.size + 1 < _; omega)).trans u3, (hb.cell (p := ⟨ba, oa + k, none⟩) (by show ba < _; omega)).trans u4, (hb.cell (p := ⟨bb, ob + cj, none⟩) (by show bb < _; omega)).trans u5⟩
        replace keepS := Lib.hid keepS
        have kc1' := Lib.hid (fun W (hb : Below W5.heap.size W5 W) => kc1.out W (hB5.trans (hb.mono hB5.size)))
        have kc2' := Lib.hid (fun W (hb : Below W5.heap.size W5 W) => kc2.out W (hB5.trans (hb.mono hB5.size)))
        have own5 := own_bel hown hB5
        have hB5w := hB.trans (hB5.mono hz4)
        clear s0 s1 s2 s3 kc1 kc2
        cases e1 with
        | false =>
          have hs2 : Hid (matF a b num den Lc Lb (k + 1) = K) := Lib.hid (by rw [hsucc, hsel]; simp)
          clear hsucc hsel
          replace hown := Lib.hid hown
          replace own5 := Lib.hid own5
          go_wp2
          replace hW5 := Lib.hid hW5
          have hgood : ∀ (wg : World) (ks : Nat), ks ≤ 1 → PMT9 W5 (.pointer (some ⟨wr.heap.size + 1, 0, none⟩)) (.int .i64 (k : Int)) (.int .i64 (k : Int)) (.bool true) (.bool true) (.agg #[.int .i64 (cj : Int), .int .i64 (cd : Int)]) (.slice (some ⟨bb, ob, none⟩) n2 c2) (.slice (some ⟨ba, oa, none⟩) n c) (.int .i64 (k : Int)) (.pointer (some ⟨ba, oa + k, none⟩)) (.int .u64 (x : Int)) (.int .i64 (num : Int)) (.int .i64 (den : Int)) (.bool false) (.bool false) (.bool false) undef undef undef undef undef undef undef undef undef undef (.bool false) wg  ks → wg.cell? ⟨wr.heap.size, 0, none⟩ = some (.int .i64 (cj : Int)) ∧ wg.cell? ⟨wr.heap.size, 1, none⟩ = some (.int .i64 (cd : Int)) ∧ wg.cell? ⟨wr.heap.size + 1, 0, none⟩ = some (.int .i64 (k : Int)) ∧ wg.cell? ⟨wr.heap.size + 1, 1, none⟩ = some (.int .i64 (dd : Int)) ∧ wg.cell? ⟨ba, oa + k, none⟩ = some (.int .u64 (x : Int)) ∧ wg.cell? ⟨bb, ob + cj, none⟩ = some (.int .u64 (y : Int)) := by
            intro wg ks hk hg
            rcases (by omega : ks = 0 ∨ ks = 1) with rfl | rfl
            · simp only [PMT9] at hg
              exact keepS.out _ (hg)
            · simp only [PMT9] at hg
              exact keepS.out _ (hg)
          replace hgood := Lib.hid hgood
          refine wp_region_inv0 (I0 := IMT9 W5 (.pointer (some ⟨wr.heap.size + 1, 0, none⟩)) (.int .i64 (k : Int)) (.int .i64 (k : Int)) (.bool true) (.bool true) (.agg #[.int .i64 (cj : Int), .int .i64 (cd : Int)]) (.slice (some ⟨bb, ob, none⟩) n2 c2) (.slice (some ⟨ba, oa, none⟩) n c) (.int .i64 (k : Int)) (.pointer (some ⟨ba, oa + k, none⟩)) (.int .u64 (x : Int)) (.int .i64 (num : Int)) (.int .i64 (den : Int)) (.bool false) (.bool false) (.bool false) undef undef undef undef undef undef undef undef undef undef (.bool false)) (by kernel_rfl) (by kernel_rfl) ?_ ?_ ?_ ?_
          · intro L a w1 hI
            unfold IMT9 at hI
            obtain ⟨v39, v40, v41, v42, v43, v44, v45, v46, v47, v48, v49, v50, v51, v52, v53, v54, v55, v56, v57, v58, v59, v60, v61, v62, v63, v64, v65, hI⟩ := hI
            exact hI.2.1
          · exact ⟨u39, u40, u41, u42, u43, u44, u45, u46, u47, u48, u49, u50, u51, u52, u53, u54, u55, u56, u57, u58, u59, u60, u61, u62, u63, u64, u65, (by simp only [holeMT9, Act.put, List.setIfInBounds_toArray, List.set_cons_zero, List.set_cons_succ]), by simp, ⟨0, stg_start, (by simp only [PMT9]; exact (Below.refl _ _).drew)⟩, FC.start, FC.start, FC.start, FC.start, FC.start, FC.start, FC.start, FC.start, FC.start, FC.start, FC.start, FC.start, FC.start, FC.start, FC.start, FC.start, FC.start, FC.start, FC.start, FC.start, FC.start, FC.start, FC.start, FC.start, FC.start, FC.start, FC.start⟩
          · refine steps_cons ?_ (steps_cons ?_ (steps_cons ?_ (steps_cons ?_ (steps_cons ?_ (steps_cons ?_ (steps_cons ?_ (steps_cons ?_ (steps_cons ?_ (steps_cons ?_ (steps_cons ?_ (steps_cons ?_ (steps_cons ?_ (steps_cons ?_ (steps_cons ?_ (steps_cons ?_ (steps_cons ?_ (steps_cons ?_ (steps_cons ?_ (steps_cons ?_ (steps_cons ?_ (steps_cons ?_ (steps_cons ?_ (steps_cons ?_ (steps_cons ?_ (steps_cons ?_ (steps_cons ?_ (steps_nil)))))))))))))))))))))))))))
            · unfold StepAt
              intro L a w1 KK hI hi ha hKK
              unfold IMT9 at hI
              obtain ⟨v39, v40, v41, v42, v43, v44, v45, v46, v47, v48, v49, v50, v51, v52, v53, v54, v55, v56, v57, v58, v59, v60, v61, v62, v63, v64, v65, hI⟩ := hI
              obtain ⟨hae, hsz, hS, hF⟩ := hI
              obtain ⟨l0_, l1_, l2_, l3_, l4_, l5_, l6_, l7_, l8_, l9_, l10_, l11_, l12_, l13_, l14_, l15_, l16_, l17_, l18_, l19_, l20_, l21_, l22_, l23_, l24_, l25_, l26_⟩ := hF
              replace hS := Lib.hid hS
              replace l0_ := Lib.hid l0_
              replace l1_ := Lib.hid l1_
              replace l2_ := Lib.hid l2_
              replace l3_ := Lib.hid l3_
              replace l4_ := Lib.hid l4_
              replace l5_ := Lib.hid l5_
              replace l6_ := Lib.hid l6_
              replace l7_ := Lib.hid l7_
              replace l8_ := Lib.hid l8_
              replace l9_ := Lib.hid l9_
              replace l10_ := Lib.hid l10_
              replace l11_ := Lib.hid l11_
              replace l12_ := Lib.hid l12_
              replace l13_ := Lib.hid l13_
              replace l14_ := Lib.hid l14_
              replace l15_ := Lib.hid l15_
              replace l16_ := Lib.hid l16_
              replace l17_ := Lib.hid l17_
              replace l18_ := Lib.hid l18_
              replace l19_ := Lib.hid l19_
              replace l20_ := Lib.hid l20_
              replace l21_ := Lib.hid l21_
              replace l22_ := Lib.hid l22_
              replace l23_ := Lib.hid l23_
              replace l24_ := Lib.hid l24_
              replace l25_ := Lib.hid l25_
              replace l26_ := Lib.hid l26_
              rw [hae]
              clear hae
              simp only [holeMT9, List.setIfInBounds_toArray, List.set_cons_zero, List.set_cons_succ]
              go_simp
              exact hKK _ _ ⟨(.pointer (some ⟨wr.heap.size + 1, 0, none⟩)), v40, v41, v42, v43, v44, v45, v46, v47, v48, v49, v50, v51, v52, v53, v54, v55, v56, v57, v58, v59, v60, v61, v62, v63, v64, v65, (by simp only [holeMT9, Act.put, List.setIfInBounds_toArray, List.set_cons_zero, List.set_cons_succ]), by simpa using hsz, (by obtain ⟨k_, a_, b_⟩ := hS.out; exact ⟨k_, stg_keep a_ rfl, b_⟩), FC.put rfl, l1_.out.keep (by decide), l2_.out.keep (by decide), l3_.out.keep (by decide), l4_.out.keep (by decide), l5_.out.keep (by decide), l6_.out.keep (by decide), l7_.out.keep (by decide), l8_.out.keep (by decide), l9_.out.keep (by decide), l10_.out.keep (by decide), l11_.out.keep (by decide), l12_.out.keep (by decide), l13_.out.keep (by decide), l14_.out.keep (by decide), l15_.out.keep (by decide), l16_.out.keep (by decide), l17_.out.keep (by decide), l18_.out.keep (by decide), l19_.out.keep (by decide), l20_.out.keep (by decide), l21_.out.keep (by decide), l22_.out.keep (by decide), l23_.out.keep (by decide), l24_.out.keep (by decide), l25_.out.keep (by decide), l26_.out.keep (by decide)⟩
            · unfold StepAt
              intro L a w1 KK hI hi ha hKK
              unfold IMT9 at hI
              obtain ⟨v39, v40, v41, v42, v43, v44, v45, v46, v47, v48, v49, v50, v51, v52, v53, v54, v55, v56, v57, v58, v59, v60, v61, v62, v63, v64, v65, hI⟩ := hI
              obtain ⟨hae, hsz, hS, hF⟩ := hI
              obtain ⟨l0_, l1_, l2_, l3_, l4_, l5_, l6_, l7_, l8_, l9_, l10_, l11_, l12_, l13_, l14_, l15_, l16_, l17_, l18_, l19_, l20_, l21_, l22_, l23_, l24_, l25_, l26_⟩ := hF
              obtain ⟨kg_, hkg_, hPg_⟩ := id hS
              obtain ⟨j1, j2, j3, j4, j5, j6⟩ := hgood.out _ _ hkg_.1 hPg_
              clear hkg_ hPg_
              have e0 := l0_ (waits ha 0 rfl)
              subst e0
              replace hS := Lib.hid hS
              replace l0_ := Lib.hid l0_
              replace l1_ := Lib.hid l1_
              replace l2_ := Lib.hid l2_
              replace l3_ := Lib.hid l3_
              replace l4_ := Lib.hid l4_
              replace l5_ := Lib.hid l5_
              replace l6_ := Lib.hid l6_
              replace l7_ := Lib.hid l7_
              replace l8_ := Lib.hid l8_
              replace l9_ := Lib.hid l9_
              replace l10_ := Lib.hid l10_
              replace l11_ := Lib.hid l11_
              replace l12_ := Lib.hid l12_
              replace l13_ := Lib.hid l13_
              replace l14_ := Lib.hid l14_
              replace l15_ := Lib.hid l15_
              replace l16_ := Lib.hid l16_
              replace l17_ := Lib.hid l17_
              replace l18_ := Lib.hid l18_
              replace l19_ := Lib.hid l19_
              replace l20_ := Lib.hid l20_
              replace l21_ := Lib.hid l21_
              replace l22_ := Lib.hid l22_
              replace l23_ := Lib.hid l23_
              replace l24_ := Lib.hid l24_
              replace l25_ := Lib.hid l25_
              replace l26_ := Lib.hid l26_
              rw [hae]
              clear hae
              simp only [holeMT9, List.setIfInBounds_toArray, List.set_cons_zero, List.set_cons_succ]
              go_simp
              exact hKK _ _ ⟨(.pointer (some ⟨wr.heap.size + 1, 0, none⟩)), (.int .i64 (k : Int)), v41, v42, v43, v44, v45, v46, v47, v48, v49, v50, v51, v52, v53, v54, v55, v56, v57, v58, v59, v60, v61, v62, v63, v64, v65, (by simp only [holeMT9, Act.put, List.setIfInBounds_toArray, List.set_cons_zero, List.set_cons_succ]), by simpa using hsz, (by obtain ⟨k_, a_, b_⟩ := hS.out; exact ⟨k_, stg_keep a_ rfl, b_⟩), FC.put rfl, FC.put rfl, l2_.out.keep (by decide), l3_.out.keep (by decide), l4_.out.keep (by decide), l5_.out.keep (by decide), l6_.out.keep (by decide), l7_.out.keep (by decide), l8_.out.keep (by decide), l9_.out.keep (by decide), l10_.out.keep (by decide), l11_.out.keep (by decide), l12_.out.keep (by decide), l13_.out.keep (by decide), l14_.out.keep (by decide), l15_.out.keep (by decide), l16_.out.keep (by decide), l17_.out.keep (by decide), l18_.out.keep (by decide), l19_.out.keep (by decide), l20_.out.keep (by decide), l21_.out.keep (by decide), l22_.out.keep (by decide), l23_.out.keep (by decide), l24_.out.keep (by decide), l25_.out.keep (by decide), l26_.out.keep (by decide)⟩
            · unfold StepAt
              intro L a w1 KK hI hi ha hKK
              unfold IMT9 at hI
              obtain ⟨v39, v40, v41, v42, v43, v44, v45, v46, v47, v48, v49, v50, v51, v52, v53, v54, v55, v56, v57, v58, v59, v60, v61, v62, v63, v64, v65, hI⟩ := hI
              obtain ⟨hae, hsz, hS, hF⟩ := hI
              obtain ⟨l0_, l1_, l2_, l3_, l4_, l5_, l6_, l7_, l8_, l9_, l10_, l11_, l12_, l13_, l14_, l15_, l16_, l17_, l18_, l19_, l20_, l21_, l22_, l23_, l24_, l25_, l26_⟩ := hF
              replace hS := Lib.hid hS
              replace l0_ := Lib.hid l0_
              replace l1_ := Lib.hid l1_
              replace l2_ := Lib.hid l2_
              replace l3_ := Lib.hid l3_
              replace l4_ := Lib.hid l4_
              replace l5_ := Lib.hid l5_
              replace l6_ := Lib.hid l6_
              replace l7_ := Lib.hid l7_
              replace l8_ := Lib.hid l8_
              replace l9_ := Lib.hid l9_
              replace l10_ := Lib.hid l10_
              replace l11_ := Lib.hid l11_
              replace l12_ := Lib.hid l12_
              replace l13_ := Lib.hid l13_
              replace l14_ := Lib.hid l14_
              replace l15_ := Lib.hid l15_
              replace l16_ := Lib.hid l16_
              replace l17_ := Lib.hid l17_
              replace l18_ := Lib.hid l18_
              replace l19_ := Lib.hid l19_
              replace l20_ := Lib.hid l20_
              replace l21_ := Lib.hid l21_
              replace l22_ := Lib.hid l22_
              replace l23_ := Lib.hid l23_
              replace l24_ := Lib.hid l24_
              replace l25_ := Lib.hid l25_
              replace l26_ := Lib.hid l26_
              rw [hae]
              clear hae
              simp only [holeMT9, List.setIfInBounds_toArray, List.set_cons_zero, List.set_cons_succ]
              go_simp
              exact hKK _ _ ⟨v39, v40, (.int .i64 (k : Int)), v42, v43, v44, v45, v46, v47, v48, v49, v50, v51, v52, v53, v54, v55, v56, v57, v58, v59, v60, v61, v62, v63, v64, v65, (by simp only [holeMT9, Act.put, List.setIfInBounds_toArray, List.set_cons_zero, List.set_cons_succ]), by simpa using hsz, (by obtain ⟨k_, a_, b_⟩ := hS.out; exact ⟨k_, stg_keep a_ rfl, b_⟩), l0_.out.keep (by decide), l1_.out.keep (by decide), FC.put rfl, l3_.out.keep (by decide), l4_.out.keep (by decide), l5_.out.keep (by decide), l6_.out.keep (by decide), l7_.out.keep (by decide), l8_.out.keep (by decide), l9_.out.keep (by decide), l10_.out.keep (by decide), l11_.out.keep (by decide), l12_.out.keep (by decide), l13_.out.keep (by decide), l14_.out.keep (by decide), l15_.out.keep (by decide), l16_.out.keep (by decide), l17_.out.keep (by decide), l18_.out.keep (by decide), l19_.out.keep (by decide), l20_.out.keep (by decide), l21_.out.keep (by decide), l22_.out.keep (by decide), l23_.out.keep (by decide), l24_.out.keep (by decide), l25_.out.keep (by decide), l26_.out.keep (by decide)⟩
            · unfold StepAt
              intro L a w1 KK hI hi ha hKK
              unfold IMT9 at hI
              obtain ⟨v39, v40, v41, v42, v43, v44, v45, v46, v47, v48, v49, v50, v51, v52, v53, v54, v55, v56, v57, v58, v59, v60, v61, v62, v63, v64, v65, hI⟩ := hI
              obtain ⟨hae, hsz, hS, hF⟩ := hI
              obtain ⟨l0_, l1_, l2_, l3_, l4_, l5_, l6_, l7_, l8_, l9_, l10_, l11_, l12_, l13_, l14_, l15_, l16_, l17_, l18_, l19_, l20_, l21_, l22_, l23_, l24_, l25_, l26_⟩ := hF
              have e1 := l1_ (waits ha 1 rfl)
              subst e1
              have e2 := l2_ (waits ha 2 rfl)
              subst e2
              replace hS := Lib.hid hS
              replace l0_ := Lib.hid l0_
              replace l1_ := Lib.hid l1_
              replace l2_ := Lib.hid l2_
              replace l3_ := Lib.hid l3_
              replace l4_ := Lib.hid l4_
              replace l5_ := Lib.hid l5_
              replace l6_ := Lib.hid l6_
              replace l7_ := Lib.hid l7_
              replace l8_ := Lib.hid l8_
              replace l9_ := Lib.hid l9_
              replace l10_ := Lib.hid l10_
              replace l11_ := Lib.hid l11_
              replace l12_ := Lib.hid l12_
              replace l13_ := Lib.hid l13_
              replace l14_ := Lib.hid l14_
              replace l15_ := Lib.hid l15_
              replace l16_ := Lib.hid l16_
              replace l17_ := Lib.hid l17_
              replace l18_ := Lib.hid l18_
              replace l19_ := Lib.hid l19_
              replace l20_ := Lib.hid l20_
              replace l21_ := Lib.hid l21_
              replace l22_ := Lib.hid l22_
              replace l23_ := Lib.hid l23_
              replace l24_ := Lib.hid l24_
              replace l25_ := Lib.hid l25_
              replace l26_ := Lib.hid l26_
              rw [hae]
              clear hae
              simp only [holeMT9, List.setIfInBounds_toArray, List.set_cons_zero, List.set_cons_succ]
              go_simp
              exact hKK _ _ ⟨v39, (.int .i64 (k : Int)), (.int .i64 (k : Int)), (.bool true), v43, v44, v45, v46, v47, v48, v49, v50, v51, v52, v53, v54, v55, v56, v57, v58, v59, v60, v61, v62, v63, v64, v65, (by simp only [holeMT9, Act.put, List.setIfInBounds_toArray, List.set_cons_zero, List.set_cons_succ]), by simpa using hsz, (by obtain ⟨k_, a_, b_⟩ := hS.out; exact ⟨k_, stg_keep a_ rfl, b_⟩), l0_.out.keep (by decide), FC.put rfl, FC.put rfl, FC.put rfl, l4_.out.keep (by decide), l5_.out.keep (by decide), l6_.out.keep (by decide), l7_.out.keep (by decide), l8_.out.keep (by decide), l9_.out.keep (by decide), l10_.out.keep (by decide), l11_.out.keep (by decide), l12_.out.keep (by decide), l13_.out.keep (by decide), l14_.out.keep (by decide), l15_.out.keep (by decide), l16_.out.keep (by decide), l17_.out.keep (by decide), l18_.out.keep (by decide), l19_.out.keep (by decide), l20_.out.keep (by decide), l21_.out.keep (by decide), l22_.out.keep (by decide), l23_.out.keep (by decide), l24_.out.keep (by decide), l25_.out.keep (by decide), l26_.out.keep (by decide)⟩
            · unfold StepAt
              intro L a w1 KK hI hi ha hKK
              unfold IMT9 at hI
              obtain ⟨v39, v40, v41, v42, v43, v44, v45, v46, v47, v48, v49, v50, v51, v52, v53, v54, v55, v56, v57, v58, v59, v60, v61, v62, v63, v64, v65, hI⟩ := hI
              obtain ⟨hae, hsz, hS, hF⟩ := hI
              obtain ⟨l0_, l1_, l2_, l3_, l4_, l5_, l6_, l7_, l8_, l9_, l10_, l11_, l12_, l13_, l14_, l15_, l16_, l17_, l18_, l19_, l20_, l21_, l22_, l23_, l24_, l25_, l26_⟩ := hF
              have e3 := l3_ (waits ha 3 rfl)
              subst e3
              replace hS := Lib.hid hS
              replace l0_ := Lib.hid l0_
              replace l1_ := Lib.hid l1_
              replace l2_ := Lib.hid l2_
              replace l3_ := Lib.hid l3_
              replace l4_ := Lib.hid l4_
              replace l5_ := Lib.hid l5_
              replace l6_ := Lib.hid l6_
              replace l7_ := Lib.hid l7_
              replace l8_ := Lib.hid l8_
              replace l9_ := Lib.hid l9_
              replace l10_ := Lib.hid l10_
              replace l11_ := Lib.hid l11_
              replace l12_ := Lib.hid l12_
              replace l13_ := Lib.hid l13_
              replace l14_ := Lib.hid l14_
              replace l15_ := Lib.hid l15_
              replace l16_ := Lib.hid l16_
              replace l17_ := Lib.hid l17_
              replace l18_ := Lib.hid l18_
              replace l19_ := Lib.hid l19_
              replace l20_ := Lib.hid l20_
              replace l21_ := Lib.hid l21_
              replace l22_ := Lib.hid l22_
              replace l23_ := Lib.hid l23_
              replace l24_ := Lib.hid l24_
              replace l25_ := Lib.hid l25_
              replace l26_ := Lib.hid l26_
              rw [hae]
              clear hae
              simp only [holeMT9, List.setIfInBounds_toArray, List.set_cons_zero, List.set_cons_succ]
              go_simp
              exact hKK _ _ ⟨v39, v40, v41, (.bool true), (.bool true), v44, v45, v46, v47, v48, v49, v50, v51, v52, v53, v54, v55, v56, v57, v58, v59, v60, v61, v62, v63, v64, v65, (by simp only [holeMT9, Act.put, List.setIfInBounds_toArray, List.set_cons_zero, List.set_cons_succ]), by simpa using hsz, (by obtain ⟨k_, a_, b_⟩ := hS.out; exact ⟨k_, stg_keep a_ rfl, b_⟩), l0_.out.keep (by decide), l1_.out.keep (by decide), l2_.out.keep (by decide), FC.put rfl, FC.put rfl, l5_.out.keep (by decide), l6_.out.keep (by decide), l7_.out.keep (by decide), l8_.out.keep (by decide), l9_.out.keep (by decide), l10_.out.keep (by decide), l11_.out.keep (by decide), l12_.out.keep (by decide), l13_.out.keep (by decide), l14_.out.keep (by decide), l15_.out.keep (by decide), l16_.out.keep (by decide), l17_.out.keep (by decide), l18_.out.keep (by decide), l19_.out.keep (by decide), l20_.out.keep (by decide), l21_.out.keep (by decide), l22_.out.keep (by decide), l23_.out.keep (by decide), l24_.out.keep (by decide), l25_.out.keep (by decide), l26_.out.keep (by decide)⟩
            · unfold StepAt
              intro L a w1 KK hI hi ha hKK
              unfold IMT9 at hI
              obtain ⟨v39, v40, v41, v42, v43, v44, v45, v46, v47, v48, v49, v50, v51, v52, v53, v54, v55, v56, v57, v58, v59, v60, v61, v62, v63, v64, v65, hI⟩ := hI
              obtain ⟨hae, hsz, hS, hF⟩ := hI
              obtain ⟨l0_, l1_, l2_, l3_, l4_, l5_, l6_, l7_, l8_, l9_, l10_, l11_, l12_, l13_, l14_, l15_, l16_, l17_, l18_, l19_, l20_, l21_, l22_, l23_, l24_, l25_, l26_⟩ := hF
              obtain ⟨kg_, hkg_, hPg_⟩ := id hS
              obtain ⟨j1, j2, j3, j4, j5, j6⟩ := hgood.out _ _ hkg_.1 hPg_
              clear hkg_ hPg_
              have e4 := l4_ (waits ha 4 rfl)
              subst e4
              replace hS := Lib.hid hS
              replace l0_ := Lib.hid l0_
              replace l1_ := Lib.hid l1_
              replace l2_ := Lib.hid l2_
              replace l3_ := Lib.hid l3_
              replace l4_ := Lib.hid l4_
              replace l5_ := Lib.hid l5_
              replace l6_ := Lib.hid l6_
              replace l7_ := Lib.hid l7_
              replace l8_ := Lib.hid l8_
              replace l9_ := Lib.hid l9_
              replace l10_ := Lib.hid l10_
              replace l11_ := Lib.hid l11_
              replace l12_ := Lib.hid l12_
              replace l13_ := Lib.hid l13_
              replace l14_ := Lib.hid l14_
              replace l15_ := Lib.hid l15_
              replace l16_ := Lib.hid l16_
              replace l17_ := Lib.hid l17_
              replace l18_ := Lib.hid l18_
              replace l19_ := Lib.hid l19_
              replace l20_ := Lib.hid l20_
              replace l21_ := Lib.hid l21_
              replace l22_ := Lib.hid l22_
              replace l23_ := Lib.hid l23_
              replace l24_ := Lib.hid l24_
              replace l25_ := Lib.hid l25_
              replace l26_ := Lib.hid l26_
              rw [hae]
              clear hae
              simp only [holeMT9, List.setIfInBounds_toArray, List.set_cons_zero, List.set_cons_succ]
              go_simp
              exact hKK _ _ ⟨v39, v40, v41, v42, (.bool true), (.agg #[.int .i64 (cj : Int), .int .i64 (cd : Int)]), v45, v46, v47, v48, v49, v50, v51, v52, v53, v54, v55, v56, v57, v58, v59, v60, v61, v62, v63, v64, v65, (by simp only [holeMT9, Act.put, List.setIfInBounds_toArray, List.set_cons_zero, List.set_cons_succ]), by simpa using hsz, (by obtain ⟨k_, a_, b_⟩ := hS.out; exact ⟨k_, stg_keep a_ rfl, b_⟩), l0_.out.keep (by decide), l1_.out.keep (by decide), l2_.out.keep (by decide), l3_.out.keep (by decide), FC.put rfl, FC.put rfl, l6_.out.keep (by decide), l7_.out.keep (by decide), l8_.out.keep (by decide), l9_.out.keep (by decide), l10_.out.keep (by decide), l11_.out.keep (by decide), l12_.out.keep (by decide), l13_.out.keep (by decide), l14_.out.keep (by decide), l15_.out.keep (by decide), l16_.out.keep (by decide), l17_.out.keep (by decide), l18_.out.keep (by decide), l19_.out.keep (by decide), l20_.out.keep (by decide), l21_.out.keep (by decide), l22_.out.keep (by decide), l23_.out.keep (by decide), l24_.out.keep (by decide), l25_.out.keep (by decide), l26_.out.keep (by decide)⟩
            · unfold StepAt
              intro L a w1 KK hI hi ha hKK
              unfold IMT9 at hI
              obtain ⟨v39, v40, v41, v42, v43, v44, v45, v46, v47, v48, v49, v50, v51, v52, v53, v54, v55, v56, v57, v58, v59, v60, v61, v62, v63, v64, v65, hI⟩ := hI
              obtain ⟨hae, hsz, hS, hF⟩ := hI
              obtain ⟨l0_, l1_, l2_, l3_, l4_, l5_, l6_, l7_, l8_, l9_, l10_, l11_, l12_, l13_, l14_, l15_, l16_, l17_, l18_, l19_, l20_, l21_, l22_, l23_, l24_, l25_, l26_⟩ := hF
              have e4 := l4_ (waits ha 4 rfl)
              subst e4
              replace hS := Lib.hid hS
              replace l0_ := Lib.hid l0_
              replace l1_ := Lib.hid l1_
              replace l2_ := Lib.hid l2_
              replace l3_ := Lib.hid l3_
              replace l4_ := Lib.hid l4_
              replace l5_ := Lib.hid l5_
              replace l6_ := Lib.hid l6_
              replace l7_ := Lib.hid l7_
              replace l8_ := Lib.hid l8_
              replace l9_ := Lib.hid l9_
              replace l10_ := Lib.hid l10_
              replace l11_ := Lib.hid l11_
              replace l12_ := Lib.hid l12_
              replace l13_ := Lib.hid l13_
              replace l14_ := Lib.hid l14_
              replace l15_ := Lib.hid l15_
              replace l16_ := Lib.hid l16_
              replace l17_ := Lib.hid l17_
              replace l18_ := Lib.hid l18_
              replace l19_ := Lib.hid l19_
              replace l20_ := Lib.hid l20_
              replace l21_ := Lib.hid l21_
              replace l22_ := Lib.hid l22_
              replace l23_ := Lib.hid l23_
              replace l24_ := Lib.hid l24_
              replace l25_ := Lib.hid l25_
              replace l26_ := Lib.hid l26_
              rw [hae]
              clear hae
              simp only [holeMT9, List.setIfInBounds_toArray, List.set_cons_zero, List.set_cons_succ]
              go_simp
              exact hKK _ _ ⟨v39, v40, v41, v42, (.bool true), v44, (.slice (some ⟨bb, ob, none⟩) n2 c2), v46, v47, v48, v49, v50, v51, v52, v53, v54, v55, v56, v57, v58, v59, v60, v61, v62, v63, v64, v65, (by simp only [holeMT9, Act.put, List.setIfInBounds_toArray, List.set_cons_zero, List.set_cons_succ]), by simpa using hsz, (by obtain ⟨k_, a_, b_⟩ := hS.out; exact ⟨k_, stg_keep a_ rfl, b_⟩), l0_.out.keep (by decide), l1_.out.keep (by decide), l2_.out.keep (by decide), l3_.out.keep (by decide), FC.put rfl, l5_.out.keep (by decide), FC.put rfl, l7_.out.keep (by decide), l8_.out.keep (by decide), l9_.out.keep (by decide), l10_.out.keep (by decide), l11_.out.keep (by decide), l12_.out.keep (by decide), l13_.out.keep (by decide), l14_.out.keep (by decide), l15_.out.keep (by decide), l16_.out.keep (by decide), l17_.out.keep (by decide), l18_.out.keep (by decide), l19_.out.keep (by decide), l20_.out.keep (by decide), l21_.out.keep (by decide), l22_.out.keep (by decide), l23_.out.keep (by decide), l24_.out.keep (by decide), l25_.out.keep (by decide), l26_.out.keep (by decide)⟩
            · unfold StepAt
              intro L a w1 KK hI hi ha hKK
              unfold IMT9 at hI
              obtain ⟨v39, v40, v41, v42, v43, v44, v45, v46, v47, v48, v49, v50, v51, v52, v53, v54, v55, v56, v57, v58, v59, v60, v61, v62, v63, v64, v65, hI⟩ := hI
              obtain ⟨hae, hsz, hS, hF⟩ := hI
              obtain ⟨l0_, l1_, l2_, l3_, l4_, l5_, l6_, l7_, l8_, l9_, l10_, l11_, l12_, l13_, l14_, l15_, l16_, l17_, l18_, l19_, l20_, l21_, l22_, l23_, l24_, l25_, l26_⟩ := hF
              have e4 := l4_ (waits ha 4 rfl)
              subst e4
              replace hS := Lib.hid hS
              replace l0_ := Lib.hid l0_
              replace l1_ := Lib.hid l1_
              replace l2_ := Lib.hid l2_
              replace l3_ := Lib.hid l3_
              replace l4_ := Lib.hid l4_
              replace l5_ := Lib.hid l5_
              replace l6_ := Lib.hid l6_
              replace l7_ := Lib.hid l7_
              replace l8_ := Lib.hid l8_
              replace l9_ := Lib.hid l9_
              replace l10_ := Lib.hid l10_
              replace l11_ := Lib.hid l11_
              replace l12_ := Lib.hid l12_
              replace l13_ := Lib.hid l13_
              replace l14_ := Lib.hid l14_
              replace l15_ := Lib.hid l15_
              replace l16_ := Lib.hid l16_
              replace l17_ := Lib.hid l17_
              replace l18_ := Lib.hid l18_
              replace l19_ := Lib.hid l19_
              replace l20_ := Lib.hid l20_
              replace l21_ := Lib.hid l21_
              replace l22_ := Lib.hid l22_
              replace l23_ := Lib.hid l23_
              replace l24_ := Lib.hid l24_
              replace l25_ := Lib.hid l25_
              replace l26_ := Lib.hid l26_
              rw [hae]
              clear hae
              simp only [holeMT9, List.setIfInBounds_toArray, List.set_cons_zero, List.set_cons_succ]
              go_simp
              exact hKK _ _ ⟨v39, v40, v41, v42, (.bool true), v44, v45, (.slice (some ⟨ba, oa, none⟩) n c), v47, v48, v49, v50, v51, v52, v53, v54, v55, v56, v57, v58, v59, v60, v61, v62, v63, v64, v65, (by simp only [holeMT9, Act.put, List.setIfInBounds_toArray, List.set_cons_zero, List.set_cons_succ]), by simpa using hsz, (by obtain ⟨k_, a_, b_⟩ := hS.out; exact ⟨k_, stg_keep a_ rfl, b_⟩), l0_.out.keep (by decide), l1_.out.keep (by decide), l2_.out.keep (by decide), l3_.out.keep (by decide), FC.put rfl, l5_.out.keep (by decide), l6_.out.keep (by decide), FC.put rfl, l8_.out.keep (by decide), l9_.out.keep (by decide), l10_.out.keep (by decide), l11_.out.keep (by decide), l12_.out.keep (by decide), l13_.out.keep (by decide), l14_.out.keep (by decide), l15_.out.keep (by decide), l16_.out.keep (by decide), l17_.out.keep (by decide), l18_.out.keep (by decide), l19_.out.keep (by decide), l20_.out.keep (by decide), l21_.out.keep (by decide), l22_.out.keep (by decide), l23_.out.keep (by decide), l24_.out.keep (by decide), l25_.out.keep (by decide), l26_.out.keep (by decide)⟩
            · unfold StepAt
              intro L a w1 KK hI hi ha hKK
              unfold IMT9 at hI
              obtain ⟨v39, v40, v41, v42, v43, v44, v45, v46, v47, v48, v49, v50, v51, v52, v53, v54, v55, v56, v57, v58, v59, v60, v61, v62, v63, v64, v65, hI⟩ := hI
              obtain ⟨hae, hsz, hS, hF⟩ := hI
              obtain ⟨l0_, l1_, l2_, l3_, l4_, l5_, l6_, l7_, l8_, l9_, l10_, l11_, l12_, l13_, l14_, l15_, l16_, l17_, l18_, l19_, l20_, l21_, l22_, l23_, l24_, l25_, l26_⟩ := hF
              have e4 := l4_ (waits ha 4 rfl)
              subst e4
              replace hS := Lib.hid hS
              replace l0_ := Lib.hid l0_
              replace l1_ := Lib.hid l1_
              replace l2_ := Lib.hid l2_
              replace l3_ := Lib.hid l3_
              replace l4_ := Lib.hid l4_
              replace l5_ := Lib.hid l5_
              replace l6_ := Lib.hid l6_
              replace l7_ := Lib.hid l7_
              replace l8_ := Lib.hid l8_
              replace l9_ := Lib.hid l9_
              replace l10_ := Lib.hid l10_
              replace l11_ := Lib.hid l11_
              replace l12_ := Lib.hid l12_
              replace l13_ := Lib.hid l13_
              replace l14_ := Lib.hid l14_
              replace l15_ := Lib.hid l15_
              replace l16_ := Lib.hid l16_
              replace l17_ := Lib.hid l17_
              replace l18_ := Lib.hid l18_
              replace l19_ := Lib.hid l19_
              replace l20_ := Lib.hid l20_
              replace l21_ := Lib.hid l21_
              replace l22_ := Lib.hid l22_
              replace l23_ := Lib.hid l23_
              replace l24_ := Lib.hid l24_
              replace l25_ := Lib.hid l25_
              replace l26_ := Lib.hid l26_
              rw [hae]
              clear hae
              simp only [holeMT9, List.setIfInBounds_toArray, List.set_cons_zero, List.set_cons_succ]
              go_simp
              exact hKK _ _ ⟨v39, v40, v41, v42, (.bool true), v44, v45, v46, (.int .i64 (k : Int)), v48, v49, v50, v51, v52, v53, v54, v55, v56, v57, v58, v59, v60, v61, v62, v63, v64, v65, (by simp only [holeMT9, Act.put, List.setIfInBounds_toArray, List.set_cons_zero, List.set_cons_succ]), by simpa using hsz, (by obtain ⟨k_, a_, b_⟩ := hS.out; exact ⟨k_, stg_keep a_ rfl, b_⟩), l0_.out.keep (by decide), l1_.out.keep (by decide), l2_.out.keep (by decide), l3_.out.keep (by decide), FC.put rfl, l5_.out.keep (by decide), l6_.out.keep (by decide), l7_.out.keep (by decide), FC.put rfl, l9_.out.keep (by decide), l10_.out.keep (by decide), l11_.out.keep (by decide), l12_.out.keep (by decide), l13_.out.keep (by decide), l14_.out.keep (by decide), l15_.out.keep (by decide), l16_.out.keep (by decide), l17_.out.keep (by decide), l18_.out.keep (by decide), l19_.out.keep (by decide), l20_.out.keep (by decide), l21_.out.keep (by decide), l22_.out.keep (by decide), l23_.out.keep (by decide), l24_.out.keep (by decide), l25_.out.keep (by decide), l26_.out.keep (by decide)⟩
            · unfold StepAt
              intro L a w1 KK hI hi ha hKK
              unfold IMT9 at hI
              obtain ⟨v39, v40, v41, v42, v43, v44, v45, v46, v47, v48, v49, v50, v51, v52, v53, v54, v55, v56, v57, v58, v59, v60, v61, v62, v63, v64, v65, hI⟩ := hI
              obtain ⟨hae, hsz, hS, hF⟩ := hI
              obtain ⟨l0_, l1_, l2_, l3_, l4_, l5_, l6_, l7_, l8_, l9_, l10_, l11_, l12_, l13_, l14_, l15_, l16_, l17_, l18_, l19_, l20_, l21_, l22_, l23_, l24_, l25_, l26_⟩ := hF
              have e7 := l7_ (waits ha 7 rfl)
              subst e7
              have e8 := l8_ (waits ha 8 rfl)
              subst e8
              have e4 := l4_ (waits ha 4 rfl)
              subst e4
              replace hS := Lib.hid hS
              replace l0_ := Lib.hid l0_
              replace l1_ := Lib.hid l1_
              replace l2_ := Lib.hid l2_
              replace l3_ := Lib.hid l3_
              replace l4_ := Lib.hid l4_
              replace l5_ := Lib.hid l5_
              replace l6_ := Lib.hid l6_
              replace l7_ := Lib.hid l7_
              replace l8_ := Lib.hid l8_
              replace l9_ := Lib.hid l9_
              replace l10_ := Lib.hid l10_
              replace l11_ := Lib.hid l11_
              replace l12_ := Lib.hid l12_
              replace l13_ := Lib.hid l13_
              replace l14_ := Lib.hid l14_
              replace l15_ := Lib.hid l15_
              replace l16_ := Lib.hid l16_
              replace l17_ := Lib.hid l17_
              replace l18_ := Lib.hid l18_
              replace l19_ := Lib.hid l19_
              replace l20_ := Lib.hid l20_
              replace l21_ := Lib.hid l21_
              replace l22_ := Lib.hid l22_
              replace l23_ := Lib.hid l23_
              replace l24_ := Lib.hid l24_
              replace l25_ := Lib.hid l25_
              replace l26_ := Lib.hid l26_
              rw [hae]
              clear hae
              simp only [holeMT9, List.setIfInBounds_toArray, List.set_cons_zero, List.set_cons_succ]
              go_simp
              exact hKK _ _ ⟨v39, v40, v41, v42, (.bool true), v44, v45, (.slice (some ⟨ba, oa, none⟩) n c), (.int .i64 (k : Int)), (.pointer (some ⟨ba, oa + k, none⟩)), v49, v50, v51, v52, v53, v54, v55, v56, v57, v58, v59, v60, v61, v62, v63, v64, v65, (by simp only [holeMT9, Act.put, List.setIfInBounds_toArray, List.set_cons_zero, List.set_cons_succ]), by simpa using hsz, (by obtain ⟨k_, a_, b_⟩ := hS.out; exact ⟨k_, stg_keep a_ rfl, b_⟩), l0_.out.keep (by decide), l1_.out.keep (by decide), l2_.out.keep (by decide), l3_.out.keep (by decide), FC.put rfl, l5_.out.keep (by decide), l6_.out.keep (by decide), FC.put rfl, FC.put rfl, FC.put rfl, l10_.out.keep (by decide), l11_.out.keep (by decide), l12_.out.keep (by decide), l13_.out.keep (by decide), l14_.out.keep (by decide), l15_.out.keep (by decide), l16_.out.keep (by decide), l17_.out.keep (by decide), l18_.out.keep (by decide), l19_.out.keep (by decide), l20_.out.keep (by decide), l21_.out.keep (by decide), l22_.out.keep (by decide), l23_.out.keep (by decide), l24_.out.keep (by decide), l25_.out.keep (by decide), l26_.out.keep (by decide)⟩
            · unfold StepAt
              intro L a w1 KK hI hi ha hKK
              unfold IMT9 at hI
              obtain ⟨v39, v40, v41, v42, v43, v44, v45, v46, v47, v48, v49, v50, v51, v52, v53, v54, v55, v56, v57, v58, v59, v60, v61, v62, v63, v64, v65, hI⟩ := hI
              obtain ⟨hae, hsz, hS, hF⟩ := hI
              obtain ⟨l0_, l1_, l2_, l3_, l4_, l5_, l6_, l7_, l8_, l9_, l10_, l11_, l12_, l13_, l14_, l15_, l16_, l17_, l18_, l19_, l20_, l21_, l22_, l23_, l24_, l25_, l26_⟩ := hF
              obtain ⟨kg_, hkg_, hPg_⟩ := id hS
              obtain ⟨j1, j2, j3, j4, j5, j6⟩ := hgood.out _ _ hkg_.1 hPg_
              clear hkg_ hPg_
              have e9 := l9_ (waits ha 9 rfl)
              subst e9
              have e4 := l4_ (waits ha 4 rfl)
              subst e4
              replace hS := Lib.hid hS
              replace l0_ := Lib.hid l0_
              replace l1_ := Lib.hid l1_
              replace l2_ := Lib.hid l2_
              replace l3_ := Lib.hid l3_
              replace l4_ := Lib.hid l4_
              replace l5_ := Lib.hid l5_
              replace l6_ := Lib.hid l6_
              replace l7_ := Lib.hid l7_
              replace l8_ := Lib.hid l8_
              replace l9_ := Lib.hid l9_
              replace l10_ := Lib.hid l10_
              replace l11_ := Lib.hid l11_
              replace l12_ := Lib.hid l12_
              replace l13_ := Lib.hid l13_
              replace l14_ := Lib.hid l14_
              replace l15_ := Lib.hid l15_
              replace l16_ := Lib.hid l16_
              replace l17_ := Lib.hid l17_
              replace l18_ := Lib.hid l18_
              replace l19_ := Lib.hid l19_
              replace l20_ := Lib.hid l20_
              replace l21_ := Lib.hid l21_
              replace l22_ := Lib.hid l22_
              replace l23_ := Lib.hid l23_
              replace l24_ := Lib.hid l24_
              replace l25_ := Lib.hid l25_
              replace l26_ := Lib.hid l26_
              rw [hae]
              clear hae
              simp only [holeMT9, List.setIfInBounds_toArray, List.set_cons_zero, List.set_cons_succ]
              go_simp
              exact hKK _ _ ⟨v39, v40, v41, v42, (.bool true), v44, v45, v46, v47, (.pointer (some ⟨ba, oa + k, none⟩)), (.int .u64 (x : Int)), v50, v51, v52, v53, v54, v55, v56, v57, v58, v59, v60, v61, v62, v63, v64, v65, (by simp only [holeMT9, Act.put, List.setIfInBounds_toArray, List.set_cons_zero, List.set_cons_succ]), by simpa using hsz, (by obtain ⟨k_, a_, b_⟩ := hS.out; exact ⟨k_, stg_keep a_ rfl, b_⟩), l0_.out.keep (by decide), l1_.out.keep (by decide), l2_.out.keep (by decide), l3_.out.keep (by decide), FC.put rfl, l5_.out.keep (by decide), l6_.out.keep (by decide), l7_.out.keep (by decide), l8_.out.keep (by decide), FC.put rfl, FC.put rfl, l11_.out.keep (by decide), l12_.out.keep (by decide), l13_.out.keep (by decide), l14_.out.keep (by decide), l15_.out.keep (by decide), l16_.out.keep (by decide), l17_.out.keep (by decide), l18_.out.keep (by decide), l19_.out.keep (by decide), l20_.out.keep (by decide), l21_.out.keep (by decide), l22_.out.keep (by decide), l23_.out.keep (by decide), l24_.out.keep (by decide), l25_.out.keep (by decide), l26_.out.keep (by decide)⟩
            · unfold StepAt
              intro L a w1 KK hI hi ha hKK
              unfold IMT9 at hI
              obtain ⟨v39, v40, v41, v42, v43, v44, v45, v46, v47, v48, v49, v50, v51, v52, v53, v54, v55, v56, v57, v58, v59, v60, v61, v62, v63, v64, v65, hI⟩ := hI
              obtain ⟨hae, hsz, hS, hF⟩ := hI
              obtain ⟨l0_, l1_, l2_, l3_, l4_, l5_, l6_, l7_, l8_, l9_, l10_, l11_, l12_, l13_, l14_, l15_, l16_, l17_, l18_, l19_, l20_, l21_, l22_, l23_, l24_, l25_, l26_⟩ := hF
              have e4 := l4_ (waits ha 4 rfl)
              subst e4
              replace hS := Lib.hid hS
              replace l0_ := Lib.hid l0_
              replace l1_ := Lib.hid l1_
              replace l2_ := Lib.hid l2_
              replace l3_ := Lib.hid l3_
              replace l4_ := Lib.hid l4_
              replace l5_ := Lib.hid l5_
              replace l6_ := Lib.hid l6_
              replace l7_ := Lib.hid l7_
              replace l8_ := Lib.hid l8_
              replace l9_ := Lib.hid l9_
              replace l10_ := Lib.hid l10_
              replace l11_ := Lib.hid l11_
              replace l12_ := Lib.hid l12_
              replace l13_ := Lib.hid l13_
              replace l14_ := Lib.hid l14_
              replace l15_ := Lib.hid l15_
              replace l16_ := Lib.hid l16_
              replace l17_ := Lib.hid l17_
              replace l18_ := Lib.hid l18_
              replace l19_ := Lib.hid l19_
              replace l20_ := Lib.hid l20_
              replace l21_ := Lib.hid l21_
              replace l22_ := Lib.hid l22_
              replace l23_ := Lib.hid l23_
              replace l24_ := Lib.hid l24_
              replace l25_ := Lib.hid l25_
              replace l26_ := Lib.hid l26_
              rw [hae]
              clear hae
              simp only [holeMT9, List.setIfInBounds_toArray, List.set_cons_zero, List.set_cons_succ]
              go_simp
              exact hKK _ _ ⟨v39, v40, v41, v42, (.bool true), v44, v45, v46, v47, v48, v49, (.int .i64 (num : Int)), v51, v52, v53, v54, v55, v56, v57, v58, v59, v60, v61, v62, v63, v64, v65, (by simp only [holeMT9, Act.put, List.setIfInBounds_toArray, List.set_cons_zero, List.set_cons_succ]), by simpa using hsz, (by obtain ⟨k_, a_, b_⟩ := hS.out; exact ⟨k_, stg_keep a_ rfl, b_⟩), l0_.out.keep (by decide), l1_.out.keep (by decide), l2_.out.keep (by decide), l3_.out.keep (by decide), FC.put rfl, l5_.out.keep (by decide), l6_.out.keep (by decide), l7_.out.keep (by decide), l8_.out.keep (by decide), l9_.out.keep (by decide), l10_.out.keep (by decide), FC.put rfl, l12_.out.keep (by decide), l13_.out.keep (by decide), l14_.out.keep (by decide), l15_.out.keep (by decide), l16_.out.keep (by decide), l17_.out.keep (by decide), l18_.out.keep (by decide), l19_.out.keep (by decide), l20_.out.keep (by decide), l21_.out.keep (by decide), l22_.out.keep (by decide), l23_.out.keep (by decide), l24_.out.keep (by decide), l25_.out.keep (by decide), l26_.out.keep (by decide)⟩
            · unfold StepAt
              intro L a w1 KK hI hi ha hKK
              unfold IMT9 at hI
              obtain ⟨v39, v40, v41, v42, v43, v44, v45, v46, v47, v48, v49, v50, v51, v52, v53, v54, v55, v56, v57, v58, v59, v60, v61, v62, v63, v64, v65, hI⟩ := hI
              obtain ⟨hae, hsz, hS, hF⟩ := hI
              obtain ⟨l0_, l1_, l2_, l3_, l4_, l5_, l6_, l7_, l8_, l9_, l10_, l11_, l12_, l13_, l14_, l15_, l16_, l17_, l18_, l19_, l20_, l21_, l22_, l23_, l24_, l25_, l26_⟩ := hF
              have e4 := l4_ (waits ha 4 rfl)
              subst e4
              replace hS := Lib.hid hS
              replace l0_ := Lib.hid l0_
              replace l1_ := Lib.hid l1_
              replace l2_ := Lib.hid l2_
              replace l3_ := Lib.hid l3_
              replace l4_ := Lib.hid l4_
              replace l5_ := Lib.hid l5_
              replace l6_ := Lib.hid l6_
              replace l7_ := Lib.hid l7_
              replace l8_ := Lib.hid l8_
              replace l9_ := Lib.hid l9_
              replace l10_ := Lib.hid l10_
              replace l11_ := Lib.hid l11_
              replace l12_ := Lib.hid l12_
              replace l13_ := Lib.hid l13_
              replace l14_ := Lib.hid l14_
              replace l15_ := Lib.hid l15_
              replace l16_ := Lib.hid l16_
              replace l17_ := Lib.hid l17_
              replace l18_ := Lib.hid l18_
              replace l19_ := Lib.hid l19_
              replace l20_ := Lib.hid l20_
              replace l21_ := Lib.hid l21_
              replace l22_ := Lib.hid l22_
              replace l23_ := Lib.hid l23_
              replace l24_ := Lib.hid l24_
              replace l25_ := Lib.hid l25_
              replace l26_ := Lib.hid l26_
              rw [hae]
              clear hae
              simp only [holeMT9, List.setIfInBounds_toArray, List.set_cons_zero, List.set_cons_succ]
              go_simp
              exact hKK _ _ ⟨v39, v40, v41, v42, (.bool true), v44, v45, v46, v47, v48, v49, v50, (.int .i64 (den : Int)), v52, v53, v54, v55, v56, v57, v58, v59, v60, v61, v62, v63, v64, v65, (by simp only [holeMT9, Act.put, List.setIfInBounds_toArray, List.set_cons_zero, List.set_cons_succ]), by simpa using hsz, (by obtain ⟨k_, a_, b_⟩ := hS.out; exact ⟨k_, stg_keep a_ rfl, b_⟩), l0_.out.keep (by decide), l1_.out.keep (by decide), l2_.out.keep (by decide), l3_.out.keep (by decide), FC.put rfl, l5_.out.keep (by decide), l6_.out.keep (by decide), l7_.out.keep (by decide), l8_.out.keep (by decide), l9_.out.keep (by decide), l10_.out.keep (by decide), l11_.out.keep (by decide), FC.put rfl, l13_.out.keep (by decide), l14_.out.keep (by decide), l15_.out.keep (by decide), l16_.out.keep (by decide), l17_.out.keep (by decide), l18_.out.keep (by decide), l19_.out.keep (by decide), l20_.out.keep (by decide), l21_.out.keep (by decide), l22_.out.keep (by decide), l23_.out.keep (by decide), l24_.out.keep (by decide), l25_.out.keep (by decide), l26_.out.keep (by decide)⟩
            · unfold StepAt
              intro L a w1 KK hI hi ha hKK
              unfold IMT9 at hI
              obtain ⟨v39, v40, v41, v42, v43, v44, v45, v46, v47, v48, v49, v50, v51, v52, v53, v54, v55, v56, v57, v58, v59, v60, v61, v62, v63, v64, v65, hI⟩ := hI
              obtain ⟨hae, hsz, hS, hF⟩ := hI
              obtain ⟨l0_, l1_, l2_, l3_, l4_, l5_, l6_, l7_, l8_, l9_, l10_, l11_, l12_, l13_, l14_, l15_, l16_, l17_, l18_, l19_, l20_, l21_, l22_, l23_, l24_, l25_, l26_⟩ := hF
              obtain ⟨k_, hk_, hP⟩ := hS
              have ek_ := stg_zero hk_ rfl hi (by omega)
              subst ek_
              simp only [PMT9] at hP
              have e5 := l5_ (waits ha 5 rfl)
              subst e5
              have e6 := l6_ (waits ha 6 rfl)
              subst e6
              have e10 := l10_ (waits ha 10 rfl)
              subst e10
              have e11 := l11_ (waits ha 11 rfl)
              subst e11
              have e12 := l12_ (waits ha 12 rfl)
              subst e12
              have e4 := l4_ (waits ha 4 rfl)
              subst e4
              have hbl := hP
              replace hk_ := Lib.hid hk_
              replace l0_ := Lib.hid l0_
              replace l1_ := Lib.hid l1_
              replace l2_ := Lib.hid l2_
              replace l3_ := Lib.hid l3_
              replace l4_ := Lib.hid l4_
              replace l5_ := Lib.hid l5_
              replace l6_ := Lib.hid l6_
              replace l7_ := Lib.hid l7_
              replace l8_ := Lib.hid l8_
              replace l9_ := Lib.hid l9_
              replace l10_ := Lib.hid l10_
              replace l11_ := Lib.hid l11_
              replace l12_ := Lib.hid l12_
              replace l13_ := Lib.hid l13_
              replace l14_ := Lib.hid l14_
              replace l15_ := Lib.hid l15_
              replace l16_ := Lib.hid l16_
              replace l17_ := Lib.hid l17_
              replace l18_ := Lib.hid l18_
              replace l19_ := Lib.hid l19_
              replace l20_ := Lib.hid l20_
              replace l21_ := Lib.hid l21_
              replace l22_ := Lib.hid l22_
              replace l23_ := Lib.hid l23_
              replace l24_ := Lib.hid l24_
              replace l25_ := Lib.hid l25_
              replace l26_ := Lib.hid l26_
              rw [hae]
              clear hae
              simp only [holeMT9, List.setIfInBounds_toArray, List.set_cons_zero, List.set_cons_succ]
              replace hKK := Lib.hid hKK
              go_wp2_with (go_at_call 59; refine (kc1'.out _ hbl).mono ?_; rintro e w7' ⟨rfl, hb17⟩)
              exact hKK.out _ _ ⟨v39, v40, v41, v42, (.bool true), (.agg #[.int .i64 (cj : Int), .int .i64 (cd : Int)]), (.slice (some ⟨bb, ob, none⟩) n2 c2), v46, v47, v48, (.int .u64 (x : Int)), (.int .i64 (num : Int)), (.int .i64 (den : Int)), (.bool false), v53, v54, v55, v56, v57, v58, v59, v60, v61, v62, v63, v64, v65, (by simp only [holeMT9, Act.put, List.setIfInBounds_toArray, List.set_cons_zero, List.set_cons_succ]), by simpa using hsz, ⟨1, stg_next hk_.out rfl (by decide) (by omega), (by simp only [PMT9]; exact hbl.trans (hb17.mono hbl.size))⟩, l0_.out.keep (by decide), l1_.out.keep (by decide), l2_.out.keep (by decide), l3_.out.keep (by decide), FC.put rfl, FC.put rfl, FC.put rfl, l7_.out.keep (by decide), l8_.out.keep (by decide), l9_.out.keep (by decide), FC.put rfl, FC.put rfl, FC.put rfl, FC.put rfl, l14_.out.keep (by decide), l15_.out.keep (by decide), l16_.out.keep (by decide), l17_.out.keep (by decide), l18_.out.keep (by decide), l19_.out.keep (by decide), l20_.out.keep (by decide), l21_.out.keep (by decide), l22_.out.keep (by decide), l23_.out.keep (by decide), l24_.out.keep (by decide), l25_.out.keep (by decide), l26_.out.keep (by decide)⟩
            · unfold StepAt
              intro L a w1 KK hI hi ha hKK
              unfold IMT9 at hI
              obtain ⟨v39, v40, v41, v42, v43, v44, v45, v46, v47, v48, v49, v50, v51, v52, v53, v54, v55, v56, v57, v58, v59, v60, v61, v62, v63, v64, v65, hI⟩ := hI
              obtain ⟨hae, hsz, hS, hF⟩ := hI
              obtain ⟨l0_, l1_, l2_, l3_, l4_, l5_, l6_, l7_, l8_, l9_, l10_, l11_, l12_, l13_, l14_, l15_, l16_, l17_, l18_, l19_, l20_, l21_, l22_, l23_, l24_, l25_, l26_⟩ := hF
              have e4 := l4_ (waits ha 4 rfl)
              subst e4
              have e13 := l13_ (waits ha 13 rfl)
              subst e13
              replace hS := Lib.hid hS
              replace l0_ := Lib.hid l0_
              replace l1_ := Lib.hid l1_
              replace l2_ := Lib.hid l2_
              replace l3_ := Lib.hid l3_
              replace l4_ := Lib.hid l4_
              replace l5_ := Lib.hid l5_
              replace l6_ := Lib.hid l6_
              replace l7_ := Lib.hid l7_
              replace l8_ := Lib.hid l8_
              replace l9_ := Lib.hid l9_
              replace l10_ := Lib.hid l10_
              replace l11_ := Lib.hid l11_
              replace l12_ := Lib.hid l12_
              replace l13_ := Lib.hid l13_
              replace l14_ := Lib.hid l14_
              replace l15_ := Lib.hid l15_
              replace l16_ := Lib.hid l16_
              replace l17_ := Lib.hid l17_
              replace l18_ := Lib.hid l18_
              replace l19_ := Lib.hid l19_
              replace l20_ := Lib.hid l20_
              replace l21_ := Lib.hid l21_
              replace l22_ := Lib.hid l22_
              replace l23_ := Lib.hid l23_
              replace l24_ := Lib.hid l24_
              replace l25_ := Lib.hid l25_
              replace l26_ := Lib.hid l26_
              rw [hae]
              clear hae
              simp only [holeMT9, List.setIfInBounds_toArray, List.set_cons_zero, List.set_cons_succ]
              go_simp
              exact hKK _ _ ⟨v39, v40, v41, v42, (.bool true), v44, v45, v46, v47, v48, v49, v50, v51, (.bool false), (.bool false), v54, v55, v56, v57, v58, v59, v60, v61, v62, v63, v64, v65, (by simp only [holeMT9, Act.put, List.setIfInBounds_toArray, List.set_cons_zero, List.set_cons_succ]), by simpa using hsz, (by obtain ⟨k_, a_, b_⟩ := hS.out; exact ⟨k_, stg_keep a_ rfl, b_⟩), l0_.out.keep (by decide), l1_.out.keep (by decide), l2_.out.keep (by decide), l3_.out.keep (by decide), FC.put rfl, l5_.out.keep (by decide), l6_.out.keep (by decide), l7_.out.keep (by decide), l8_.out.keep (by decide), l9_.out.keep (by decide), l10_.out.keep (by decide), l11_.out.keep (by decide), l12_.out.keep (by decide), FC.put rfl, FC.put rfl, l15_.out.keep (by decide), l16_.out.keep (by decide), l17_.out.keep (by decide), l18_.out.keep (by decide), l19_.out.keep (by decide), l20_.out.keep (by decide), l21_.out.keep (by decide), l22_.out.keep (by decide), l23_.out.keep (by decide), l24_.out.keep (by decide), l25_.out.keep (by decide), l26_.out.keep (by decide)⟩
            · unfold StepAt
              intro L a w1 KK hI hi ha hKK
              unfold IMT9 at hI
              obtain ⟨v39, v40, v41, v42, v43, v44, v45, v46, v47, v48, v49, v50, v51, v52, v53, v54, v55, v56, v57, v58, v59, v60, v61, v62, v63, v64, v65, hI⟩ := hI
              obtain ⟨hae, hsz, hS, hF⟩ := hI
              obtain ⟨l0_, l1_, l2_, l3_, l4_, l5_, l6_, l7_, l8_, l9_, l10_, l11_, l12_, l13_, l14_, l15_, l16_, l17_, l18_, l19_, l20_, l21_, l22_, l23_, l24_, l25_, l26_⟩ := hF
              have e14 := l14_ (waits ha 14 rfl)
              subst e14
              replace hS := Lib.hid hS
              replace l0_ := Lib.hid l0_
              replace l1_ := Lib.hid l1_
              replace l2_ := Lib.hid l2_
              replace l3_ := Lib.hid l3_
              replace l4_ := Lib.hid l4_
              replace l5_ := Lib.hid l5_
              replace l6_ := Lib.hid l6_
              replace l7_ := Lib.hid l7_
              replace l8_ := Lib.hid l8_
              replace l9_ := Lib.hid l9_
              replace l10_ := Lib.hid l10_
              replace l11_ := Lib.hid l11_
              replace l12_ := Lib.hid l12_
              replace l13_ := Lib.hid l13_
              replace l14_ := Lib.hid l14_
              replace l15_ := Lib.hid l15_
              replace l16_ := Lib.hid l16_
              replace l17_ := Lib.hid l17_
              replace l18_ := Lib.hid l18_
              replace l19_ := Lib.hid l19_
              replace l20_ := Lib.hid l20_
              replace l21_ := Lib.hid l21_
              replace l22_ := Lib.hid l22_
              replace l23_ := Lib.hid l23_
              replace l24_ := Lib.hid l24_
              replace l25_ := Lib.hid l25_
              replace l26_ := Lib.hid l26_
              rw [hae]
              clear hae
              simp only [holeMT9, List.setIfInBounds_toArray, List.set_cons_zero, List.set_cons_succ]
              go_simp
              exact hKK _ _ ⟨v39, v40, v41, v42, v43, v44, v45, v46, v47, v48, v49, v50, v51, v52, (.bool false), (.bool false), v55, v56, v57, v58, v59, v60, v61, v62, v63, v64, v65, (by simp only [holeMT9, Act.put, List.setIfInBounds_toArray, List.set_cons_zero, List.set_cons_succ]), by simpa using hsz, (by obtain ⟨k_, a_, b_⟩ := hS.out; exact ⟨k_, stg_keep a_ rfl, b_⟩), l0_.out.keep (by decide), l1_.out.keep (by decide), l2_.out.keep (by decide), l3_.out.keep (by decide), l4_.out.keep (by decide), l5_.out.keep (by decide), l6_.out.keep (by decide), l7_.out.keep (by decide), l8_.out.keep (by decide), l9_.out.keep (by decide), l10_.out.keep (by decide), l11_.out.keep (by decide), l12_.out.keep (by decide), l13_.out.keep (by decide), FC.put rfl, FC.put rfl, l16_.out.keep (by decide), l17_.out.keep (by decide), l18_.out.keep (by decide), l19_.out.keep (by decide), l20_.out.keep (by decide), l21_.out.keep (by decide), l22_.out.keep (by decide), l23_.out.keep (by decide), l24_.out.keep (by decide), l25_.out.keep (by decide), l26_.out.keep (by decide)⟩
            · unfold StepAt
              intro L a w1 KK hI hi ha hKK
              unfold IMT9 at hI
              obtain ⟨v39, v40, v41, v42, v43, v44, v45, v46, v47, v48, v49, v50, v51, v52, v53, v54, v55, v56, v57, v58, v59, v60, v61, v62, v63, v64, v65, hI⟩ := hI
              obtain ⟨hae, hsz, hS, hF⟩ := hI
              obtain ⟨l0_, l1_, l2_, l3_, l4_, l5_, l6_, l7_, l8_, l9_, l10_, l11_, l12_, l13_, l14_, l15_, l16_, l17_, l18_, l19_, l20_, l21_, l22_, l23_, l24_, l25_, l26_⟩ := hF
              have e15 := l15_ (waits ha 15 rfl)
              subst e15
              replace hS := Lib.hid hS
              replace l0_ := Lib.hid l0_
              replace l1_ := Lib.hid l1_
              replace l2_ := Lib.hid l2_
              replace l3_ := Lib.hid l3_
              replace l4_ := Lib.hid l4_
              replace l5_ := Lib.hid l5_
              replace l6_ := Lib.hid l6_
              replace l7_ := Lib.hid l7_
              replace l8_ := Lib.hid l8_
              replace l9_ := Lib.hid l9_
              replace l10_ := Lib.hid l10_
              replace l11_ := Lib.hid l11_
              replace l12_ := Lib.hid l12_
              replace l13_ := Lib.hid l13_
              replace l14_ := Lib.hid l14_
              replace l15_ := Lib.hid l15_
              replace l16_ := Lib.hid l16_
              replace l17_ := Lib.hid l17_
              replace l18_ := Lib.hid l18_
              replace l19_ := Lib.hid l19_
              replace l20_ := Lib.hid l20_
              replace l21_ := Lib.hid l21_
              replace l22_ := Lib.hid l22_
              replace l23_ := Lib.hid l23_
              replace l24_ := Lib.hid l24_
              replace l25_ := Lib.hid l25_
              replace l26_ := Lib.hid l26_
              rw [hae]
              clear hae
              simp only [holeMT9, List.setIfInBounds_toArray, List.set_cons_zero, List.set_cons_succ]
              go_simp
              exact hKK _ _ ⟨v39, v40, v41, v42, v43, v44, v45, v46, v47, v48, v49, v50, v51, v52, v53, (.bool false), undef, v56, v57, v58, v59, v60, v61, v62, v63, v64, v65, (by simp only [holeMT9, Act.put, List.setIfInBounds_toArray, List.set_cons_zero, List.set_cons_succ]), by simpa using hsz, (by obtain ⟨k_, a_, b_⟩ := hS.out; exact ⟨k_, stg_keep a_ rfl, b_⟩), l0_.out.keep (by decide), l1_.out.keep (by decide), l2_.out.keep (by decide), l3_.out.keep (by decide), l4_.out.keep (by decide), l5_.out.keep (by decide), l6_.out.keep (by decide), l7_.out.keep (by decide), l8_.out.keep (by decide), l9_.out.keep (by decide), l10_.out.keep (by decide), l11_.out.keep (by decide), l12_.out.keep (by decide), l13_.out.keep (by decide), l14_.out.keep (by decide), FC.put rfl, FC.put rfl, l17_.out.keep (by decide), l18_.out.keep (by decide), l19_.out.keep (by decide), l20_.out.keep (by decide), l21_.out.keep (by decide), l22_.out.keep (by decide), l23_.out.keep (by decide), l24_.out.keep (by decide), l25_.out.keep (by decide), l26_.out.keep (by decide)⟩
            · unfold StepAt
              intro L a w1 KK hI hi ha hKK
              unfold IMT9 at hI
              obtain ⟨v39, v40, v41, v42, v43, v44, v45, v46, v47, v48, v49, v50, v51, v52, v53, v54, v55, v56, v57, v58, v59, v60, v61, v62, v63, v64, v65, hI⟩ := hI
              obtain ⟨hae, hsz, hS, hF⟩ := hI
              obtain ⟨l0_, l1_, l2_, l3_, l4_, l5_, l6_, l7_, l8_, l9_, l10_, l11_, l12_, l13_, l14_, l15_, l16_, l17_, l18_, l19_, l20_, l21_, l22_, l23_, l24_, l25_, l26_⟩ := hF
              have e15 := l15_ (waits ha 15 rfl)
              subst e15
              replace hS := Lib.hid hS
              replace l0_ := Lib.hid l0_
              replace l1_ := Lib.hid l1_
              replace l2_ := Lib.hid l2_
              replace l3_ := Lib.hid l3_
              replace l4_ := Lib.hid l4_
              replace l5_ := Lib.hid l5_
              replace l6_ := Lib.hid l6_
              replace l7_ := Lib.hid l7_
              replace l8_ := Lib.hid l8_
              replace l9_ := Lib.hid l9_
              replace l10_ := Lib.hid l10_
              replace l11_ := Lib.hid l11_
              replace l12_ := Lib.hid l12_
              replace l13_ := Lib.hid l13_
              replace l14_ := Lib.hid l14_
              replace l15_ := Lib.hid l15_
              replace l16_ := Lib.hid l16_
              replace l17_ := Lib.hid l17_
              replace l18_ := Lib.hid l18_
              replace l19_ := Lib.hid l19_
              replace l20_ := Lib.hid l20_
              replace l21_ := Lib.hid l21_
              replace l22_ := Lib.hid l22_
              replace l23_ := Lib.hid l23_
              replace l24_ := Lib.hid l24_
              replace l25_ := Lib.hid l25_
              replace l26_ := Lib.hid l26_
              rw [hae]
              clear hae
              simp only [holeMT9, List.setIfInBounds_toArray, List.set_cons_zero, List.set_cons_succ]
              go_simp
              exact hKK _ _ ⟨v39, v40, v41, v42, v43, v44, v45, v46, v47, v48, v49, v50, v51, v52, v53, (.bool false), v55, undef, v57, v58, v59, v60, v61, v62, v63, v64, v65, (by simp only [holeMT9, Act.put, List.setIfInBounds_toArray, List.set_cons_zero, List.set_cons_succ]), by simpa using hsz, (by obtain ⟨k_, a_, b_⟩ := hS.out; exact ⟨k_, stg_keep a_ rfl, b_⟩), l0_.out.keep (by decide), l1_.out.keep (by decide), l2_.out.keep (by decide), l3_.out.keep (by decide), l4_.out.keep (by decide), l5_.out.keep (by decide), l6_.out.keep (by decide), l7_.out.keep (by decide), l8_.out.keep (by decide), l9_.out.keep (by decide), l10_.out.keep (by decide), l11_.out.keep (by decide), l12_.out.keep (by decide), l13_.out.keep (by decide), l14_.out.keep (by decide), FC.put rfl, l16_.out.keep (by decide), FC.put rfl, l18_.out.keep (by decide), l19_.out.keep (by decide), l20_.out.keep (by decide), l21_.out.keep (by decide), l22_.out.keep (by decide), l23_.out.keep (by decide), l24_.out.keep (by decide), l25_.out.keep (by decide), l26_.out.keep (by decide)⟩
            · unfold StepAt
              intro L a w1 KK hI hi ha hKK
              unfold IMT9 at hI
              obtain ⟨v39, v40, v41, v42, v43, v44, v45, v46, v47, v48, v49, v50, v51, v52, v53, v54, v55, v56, v57, v58, v59, v60, v61, v62, v63, v64, v65, hI⟩ := hI
              obtain ⟨hae, hsz, hS, hF⟩ := hI
              obtain ⟨l0_, l1_, l2_, l3_, l4_, l5_, l6_, l7_, l8_, l9_, l10_, l11_, l12_, l13_, l14_, l15_, l16_, l17_, l18_, l19_, l20_, l21_, l22_, l23_, l24_, l25_, l26_⟩ := hF
              have e15 := l15_ (waits ha 15 rfl)
              subst e15
              replace hS := Lib.hid hS
              replace l0_ := Lib.hid l0_
              replace l1_ := Lib.hid l1_
              replace l2_ := Lib.hid l2_
              replace l3_ := Lib.hid l3_
              replace l4_ := Lib.hid l4_
              replace l5_ := Lib.hid l5_
              replace l6_ := Lib.hid l6_
              replace l7_ := Lib.hid l7_
              replace l8_ := Lib.hid l8_
              replace l9_ := Lib.hid l9_
              replace l10_ := Lib.hid l10_
              replace l11_ := Lib.hid l11_
              replace l12_ := Lib.hid l12_
              replace l13_ := Lib.hid l13_
              replace l14_ := Lib.hid l14_
              replace l15_ := Lib.hid l15_
              replace l16_ := Lib.hid l16_
              replace l17_ := Lib.hid l17_
              replace l18_ := Lib.hid l18_
              replace l19_ := Lib.hid l19_
              replace l20_ := Lib.hid l20_
              replace l21_ := Lib.hid l21_
              replace l22_ := Lib.hid l22_
              replace l23_ := Lib.hid l23_
              replace l24_ := Lib.hid l24_
              replace l25_ := Lib.hid l25_
              replace l26_ := Lib.hid l26_
              rw [hae]
              clear hae
              simp only [holeMT9, List.setIfInBounds_toArray, List.set_cons_zero, List.set_cons_succ]
              go_simp
              exact hKK _ _ ⟨v39, v40, v41, v42, v43, v44, v45, v46, v47, v48, v49, v50, v51, v52, v53, (.bool false), v55, v56, undef, v58, v59, v60, v61, v62, v63, v64, v65, (by simp only [holeMT9, Act.put, List.setIfInBounds_toArray, List.set_cons_zero, List.set_cons_succ]), by simpa using hsz, (by obtain ⟨k_, a_, b_⟩ := hS.out; exact ⟨k_, stg_keep a_ rfl, b_⟩), l0_.out.keep (by decide), l1_.out.keep (by decide), l2_.out.keep (by decide), l3_.out.keep (by decide), l4_.out.keep (by decide), l5_.out.keep (by decide), l6_.out.keep (by decide), l7_.out.keep (by decide), l8_.out.keep (by decide), l9_.out.keep (by decide), l10_.out.keep (by decide), l11_.out.keep (by decide), l12_.out.keep (by decide), l13_.out.keep (by decide), l14_.out.keep (by decide), FC.put rfl, l16_.out.keep (by decide), l17_.out.keep (by decide), FC.put rfl, l19_.out.keep (by decide), l20_.out.keep (by decide), l21_.out.keep (by decide), l22_.out.keep (by decide), l23_.out.keep (by decide), l24_.out.keep (by decide), l25_.out.keep (by decide), l26_.out.keep (by decide)⟩
            · unfold StepAt
              intro L a w1 KK hI hi ha hKK
              unfold IMT9 at hI
              obtain ⟨v39, v40, v41, v42, v43, v44, v45, v46, v47, v48, v49, v50, v51, v52, v53, v54, v55, v56, v57, v58, v59, v60, v61, v62, v63, v64, v65, hI⟩ := hI
              obtain ⟨hae, hsz, hS, hF⟩ := hI
              obtain ⟨l0_, l1_, l2_, l3_, l4_, l5_, l6_, l7_, l8_, l9_, l10_, l11_, l12_, l13_, l14_, l15_, l16_, l17_, l18_, l19_, l20_, l21_, l22_, l23_, l24_, l25_, l26_⟩ := hF
              have e15 := l15_ (waits ha 15 rfl)
              subst e15
              replace hS := Lib.hid hS
              replace l0_ := Lib.hid l0_
              replace l1_ := Lib.hid l1_
              replace l2_ := Lib.hid l2_
              replace l3_ := Lib.hid l3_
              replace l4_ := Lib.hid l4_
              replace l5_ := Lib.hid l5_
              replace l6_ := Lib.hid l6_
              replace l7_ := Lib.hid l7_
              replace l8_ := Lib.hid l8_
              replace l9_ := Lib.hid l9_
              replace l10_ := Lib.hid l10_
              replace l11_ := Lib.hid l11_
              replace l12_ := Lib.hid l12_
              replace l13_ := Lib.hid l13_
              replace l14_ := Lib.hid l14_
              replace l15_ := Lib.hid l15_
              replace l16_ := Lib.hid l16_
              replace l17_ := Lib.hid l17_
              replace l18_ := Lib.hid l18_
              replace l19_ := Lib.hid l19_
              replace l20_ := Lib.hid l20_
              replace l21_ := Lib.hid l21_
              replace l22_ := Lib.hid l22_
              replace l23_ := Lib.hid l23_
              replace l24_ := Lib.hid l24_
              replace l25_ := Lib.hid l25_
              replace l26_ := Lib.hid l26_
              rw [hae]
              clear hae
              simp only [holeMT9, List.setIfInBounds_toArray, List.set_cons_zero, List.set_cons_succ]
              go_simp
              exact hKK _ _ ⟨v39, v40, v41, v42, v43, v44, v45, v46, v47, v48, v49, v50, v51, v52, v53, (.bool false), v55, v56, v57, undef, v59, v60, v61, v62, v63, v64, v65, (by simp only [holeMT9, Act.put, List.setIfInBounds_toArray, List.set_cons_zero, List.set_cons_succ]), by simpa using hsz, (by obtain ⟨k_, a_, b_⟩ := hS.out; exact ⟨k_, stg_keep a_ rfl, b_⟩), l0_.out.keep (by decide), l1_.out.keep (by decide), l2_.out.keep (by decide), l3_.out.keep (by decide), l4_.out.keep (by decide), l5_.out.keep (by decide), l6_.out.keep (by decide), l7_.out.keep (by decide), l8_.out.keep (by decide), l9_.out.keep (by decide), l10_.out.keep (by decide), l11_.out.keep (by decide), l12_.out.keep (by decide), l13_.out.keep (by decide), l14_.out.keep (by decide), FC.put rfl, l16_.out.keep (by decide), l17_.out.keep (by decide), l18_.out.keep (by decide), FC.put rfl, l20_.out.keep (by decide), l21_.out.keep (by decide), l22_.out.keep (by decide), l23_.out.keep (by decide), l24_.out.keep (by decide), l25_.out.keep (by decide), l26_.out.keep (by decide)⟩
            · unfold StepAt
              intro L a w1 KK hI hi ha hKK
              unfold IMT9 at hI
              obtain ⟨v39, v40, v41, v42, v43, v44, v45, v46, v47, v48, v49, v50, v51, v52, v53, v54, v55, v56, v57, v58, v59, v60, v61, v62, v63, v64, v65, hI⟩ := hI
              obtain ⟨hae, hsz, hS, hF⟩ := hI
              obtain ⟨l0_, l1_, l2_, l3_, l4_, l5_, l6_, l7_, l8_, l9_, l10_, l11_, l12_, l13_, l14_, l15_, l16_, l17_, l18_, l19_, l20_, l21_, l22_, l23_, l24_, l25_, l26_⟩ := hF
              have e15 := l15_ (waits ha 15 rfl)
              subst e15
              replace hS := Lib.hid hS
              replace l0_ := Lib.hid l0_
              replace l1_ := Lib.hid l1_
              replace l2_ := Lib.hid l2_
              replace l3_ := Lib.hid l3_
              replace l4_ := Lib.hid l4_
              replace l5_ := Lib.hid l5_
              replace l6_ := Lib.hid l6_
              replace l7_ := Lib.hid l7_
              replace l8_ := Lib.hid l8_
              replace l9_ := Lib.hid l9_
              replace l10_ := Lib.hid l10_
              replace l11_ := Lib.hid l11_
              replace l12_ := Lib.hid l12_
              replace l13_ := Lib.hid l13_
              replace l14_ := Lib.hid l14_
              replace l15_ := Lib.hid l15_
              replace l16_ := Lib.hid l16_
              replace l17_ := Lib.hid l17_
              replace l18_ := Lib.hid l18_
              replace l19_ := Lib.hid l19_
              replace l20_ := Lib.hid l20_
              replace l21_ := Lib.hid l21_
              replace l22_ := Lib.hid l22_
              replace l23_ := Lib.hid l23_
              replace l24_ := Lib.hid l24_
              replace l25_ := Lib.hid l25_
              replace l26_ := Lib.hid l26_
              rw [hae]
              clear hae
              simp only [holeMT9, List.setIfInBounds_toArray, List.set_cons_zero, List.set_cons_succ]
              go_simp
              exact hKK _ _ ⟨v39, v40, v41, v42, v43, v44, v45, v46, v47, v48, v49, v50, v51, v52, v53, (.bool false), v55, v56, v57, v58, undef, v60, v61, v62, v63, v64, v65, (by simp only [holeMT9, Act.put, List.setIfInBounds_toArray, List.set_cons_zero, List.set_cons_succ]), by simpa using hsz, (by obtain ⟨k_, a_, b_⟩ := hS.out; exact ⟨k_, stg_keep a_ rfl, b_⟩), l0_.out.keep (by decide), l1_.out.keep (by decide), l2_.out.keep (by decide), l3_.out.keep (by decide), l4_.out.keep (by decide), l5_.out.keep (by decide), l6_.out.keep (by decide), l7_.out.keep (by decide), l8_.out.keep (by decide), l9_.out.keep (by decide), l10_.out.keep (by decide), l11_.out.keep (by decide), l12_.out.keep (by decide), l13_.out.keep (by decide), l14_.out.keep (by decide), FC.put rfl, l16_.out.keep (by decide), l17_.out.keep (by decide), l18_.out.keep (by decide), l19_.out.keep (by decide), FC.put rfl, l21_.out.keep (by decide), l22_.out.keep (by decide), l23_.out.keep (by decide), l24_.out.keep (by decide), l25_.out.keep (by decide), l26_.out.keep (by decide)⟩
            · unfold StepAt
              intro L a w1 KK hI hi ha hKK
              unfold IMT9 at hI
              obtain ⟨v39, v40, v41, v42, v43, v44, v45, v46, v47, v48, v49, v50, v51, v52, v53, v54, v55, v56, v57, v58, v59, v60, v61, v62, v63, v64, v65, hI⟩ := hI
              obtain ⟨hae, hsz, hS, hF⟩ := hI
              obtain ⟨l0_, l1_, l2_, l3_, l4_, l5_, l6_, l7_, l8_, l9_, l10_, l11_, l12_, l13_, l14_, l15_, l16_, l17_, l18_, l19_, l20_, l21_, l22_, l23_, l24_, l25_, l26_⟩ := hF
              have e15 := l15_ (waits ha 15 rfl)
              subst e15
              replace hS := Lib.hid hS
              replace l0_ := Lib.hid l0_
              replace l1_ := Lib.hid l1_
              replace l2_ := Lib.hid l2_
              replace l3_ := Lib.hid l3_
              replace l4_ := Lib.hid l4_
              replace l5_ := Lib.hid l5_
              replace l6_ := Lib.hid l6_
              replace l7_ := Lib.hid l7_
              replace l8_ := Lib.hid l8_
              replace l9_ := Lib.hid l9_
              replace l10_ := Lib.hid l10_
              replace l11_ := Lib.hid l11_
              replace l12_ := Lib.hid l12_
              replace l13_ := Lib.hid l13_
              replace l14_ := Lib.hid l14_
              replace l15_ := Lib.hid l15_
              replace l16_ := Lib.hid l16_
              replace l17_ := Lib.hid l17_
              replace l18_ := Lib.hid l18_
              replace l19_ := Lib.hid l19_
              replace l20_ := Lib.hid l20_
              replace l21_ := Lib.hid l21_
              replace l22_ := Lib.hid l22_
              replace l23_ := Lib.hid l23_
              replace l24_ := Lib.hid l24_
              replace l25_ := Lib.hid l25_
              replace l26_ := Lib.hid l26_
              rw [hae]
              clear hae
              simp only [holeMT9, List.setIfInBounds_toArray, List.set_cons_zero, List.set_cons_succ]
              go_simp
              exact hKK _ _ ⟨v39, v40, v41, v42, v43, v44, v45, v46, v47, v48, v49, v50, v51, v52, v53, (.bool false), v55, v56, v57, v58, v59, undef, v61, v62, v63, v64, v65, (by simp only [holeMT9, Act.put, List.setIfInBounds_toArray, List.set_cons_zero, List.set_cons_succ]), by simpa using hsz, (by obtain ⟨k_, a_, b_⟩ := hS.out; exact ⟨k_, stg_keep a_ rfl, b_⟩), l0_.out.keep (by decide), l1_.out.keep (by decide), l2_.out.keep (by decide), l3_.out.keep (by decide), l4_.out.keep (by decide), l5_.out.keep (by decide), l6_.out.keep (by decide), l7_.out.keep (by decide), l8_.out.keep (by decide), l9_.out.keep (by decide), l10_.out.keep (by decide), l11_.out.keep (by decide), l12_.out.keep (by decide), l13_.out.keep (by decide), l14_.out.keep (by decide), FC.put rfl, l16_.out.keep (by decide), l17_.out.keep (by decide), l18_.out.keep (by decide), l19_.out.keep (by decide), l20_.out.keep (by decide), FC.put rfl, l22_.out.keep (by decide), l23_.out.keep (by decide), l24_.out.keep (by decide), l25_.out.keep (by decide), l26_.out.keep (by decide)⟩
            · unfold StepAt
              intro L a w1 KK hI hi ha hKK
              unfold IMT9 at hI
              obtain ⟨v39, v40, v41, v42, v43, v44, v45, v46, v47, v48, v49, v50, v51, v52, v53, v54, v55, v56, v57, v58, v59, v60, v61, v62, v63, v64, v65, hI⟩ := hI
              obtain ⟨hae, hsz, hS, hF⟩ := hI
              obtain ⟨l0_, l1_, l2_, l3_, l4_, l5_, l6_, l7_, l8_, l9_, l10_, l11_, l12_, l13_, l14_, l15_, l16_, l17_, l18_, l19_, l20_, l21_, l22_, l23_, l24_, l25_, l26_⟩ := hF
              have e15 := l15_ (waits ha 15 rfl)
              subst e15
              replace hS := Lib.hid hS
              replace l0_ := Lib.hid l0_
              replace l1_ := Lib.hid l1_
              replace l2_ := Lib.hid l2_
              replace l3_ := Lib.hid l3_
              replace l4_ := Lib.hid l4_
              replace l5_ := Lib.hid l5_
              replace l6_ := Lib.hid l6_
              replace l7_ := Lib.hid l7_
              replace l8_ := Lib.hid l8_
              replace l9_ := Lib.hid l9_
              replace l10_ := Lib.hid l10_
              replace l11_ := Lib.hid l11_
              replace l12_ := Lib.hid l12_
              replace l13_ := Lib.hid l13_
              replace l14_ := Lib.hid l14_
              replace l15_ := Lib.hid l15_
              replace l16_ := Lib.hid l16_
              replace l17_ := Lib.hid l17_
              replace l18_ := Lib.hid l18_
              replace l19_ := Lib.hid l19_
              replace l20_ := Lib.hid l20_
              replace l21_ := Lib.hid l21_
              replace l22_ := Lib.hid l22_
              replace l23_ := Lib.hid l23_
              replace l24_ := Lib.hid l24_
              replace l25_ := Lib.hid l25_
              replace l26_ := Lib.hid l26_
              rw [hae]
              clear hae
              simp only [holeMT9, List.setIfInBounds_toArray, List.set_cons_zero, List.set_cons_succ]
              go_simp
              exact hKK _ _ ⟨v39, v40, v41, v42, v43, v44, v45, v46, v47, v48, v49, v50, v51, v52, v53, (.bool false), v55, v56, v57, v58, v59, v60, undef, v62, v63, v64, v65, (by simp only [holeMT9, Act.put, List.setIfInBounds_toArray, List.set_cons_zero, List.set_cons_succ]), by simpa using hsz, (by obtain ⟨k_, a_, b_⟩ := hS.out; exact ⟨k_, stg_keep a_ rfl, b_⟩), l0_.out.keep (by decide), l1_.out.keep (by decide), l2_.out.keep (by decide), l3_.out.keep (by decide), l4_.out.keep (by decide), l5_.out.keep (by decide), l6_.out.keep (by decide), l7_.out.keep (by decide), l8_.out.keep (by decide), l9_.out.keep (by decide), l10_.out.keep (by decide), l11_.out.keep (by decide), l12_.out.keep (by decide), l13_.out.keep (by decide), l14_.out.keep (by decide), FC.put rfl, l16_.out.keep (by decide), l17_.out.keep (by decide), l18_.out.keep (by decide), l19_.out.keep (by decide), l20_.out.keep (by decide), l21_.out.keep (by decide), FC.put rfl, l23_.out.keep (by decide), l24_.out.keep (by decide), l25_.out.keep (by decide), l26_.out.keep (by decide)⟩
            · unfold StepAt
              intro L a w1 KK hI hi ha hKK
              unfold IMT9 at hI
              obtain ⟨v39, v40, v41, v42, v43, v44, v45, v46, v47, v48, v49, v50, v51, v52, v53, v54, v55, v56, v57, v58, v59, v60, v61, v62, v63, v64, v65, hI⟩ := hI
              obtain ⟨hae, hsz, hS, hF⟩ := hI
              obtain ⟨l0_, l1_, l2_, l3_, l4_, l5_, l6_, l7_, l8_, l9_, l10_, l11_, l12_, l13_, l14_, l15_, l16_, l17_, l18_, l19_, l20_, l21_, l22_, l23_, l24_, l25_, l26_⟩ := hF
              have e15 := l15_ (waits ha 15 rfl)
              subst e15
              replace hS := Lib.hid hS
              replace l0_ := Lib.hid l0_
              replace l1_ := Lib.hid l1_
              replace l2_ := Lib.hid l2_
              replace l3_ := Lib.hid l3_
              replace l4_ := Lib.hid l4_
              replace l5_ := Lib.hid l5_
              replace l6_ := Lib.hid l6_
              replace l7_ := Lib.hid l7_
              replace l8_ := Lib.hid l8_
              replace l9_ := Lib.hid l9_
              replace l10_ := Lib.hid l10_
              replace l11_ := Lib.hid l11_
              replace l12_ := Lib.hid l12_
              replace l13_ := Lib.hid l13_
              replace l14_ := Lib.hid l14_
              replace l15_ := Lib.hid l15_
              replace l16_ := Lib.hid l16_
              replace l17_ := Lib.hid l17_
              replace l18_ := Lib.hid l18_
              replace l19_ := Lib.hid l19_
              replace l20_ := Lib.hid l20_
              replace l21_ := Lib.hid l21_
              replace l22_ := Lib.hid l22_
              replace l23_ := Lib.hid l23_
              replace l24_ := Lib.hid l24_
              replace l25_ := Lib.hid l25_
              replace l26_ := Lib.hid l26_
              rw [hae]
              clear hae
              simp only [holeMT9, List.setIfInBounds_toArray, List.set_cons_zero, List.set_cons_succ]
              go_simp
              exact hKK _ _ ⟨v39, v40, v41, v42, v43, v44, v45, v46, v47, v48, v49, v50, v51, v52, v53, (.bool false), v55, v56, v57, v58, v59, v60, v61, undef, v63, v64, v65, (by simp only [holeMT9, Act.put, List.setIfInBounds_toArray, List.set_cons_zero, List.set_cons_succ]), by simpa using hsz, (by obtain ⟨k_, a_, b_⟩ := hS.out; exact ⟨k_, stg_keep a_ rfl, b_⟩), l0_.out.keep (by decide), l1_.out.keep (by decide), l2_.out.keep (by decide), l3_.out.keep (by decide), l4_.out.keep (by decide), l5_.out.keep (by decide), l6_.out.keep (by decide), l7_.out.keep (by decide), l8_.out.keep (by decide), l9_.out.keep (by decide), l10_.out.keep (by decide), l11_.out.keep (by decide), l12_.out.keep (by decide), l13_.out.keep (by decide), l14_.out.keep (by decide), FC.put rfl, l16_.out.keep (by decide), l17_.out.keep (by decide), l18_.out.keep (by decide), l19_.out.keep (by decide), l20_.out.keep (by decide), l21_.out.keep (by decide), l22_.out.keep (by decide), FC.put rfl, l24_.out.keep (by decide), l25_.out.keep (by decide), l26_.out.keep (by decide)⟩
            · unfold StepAt
              intro L a w1 KK hI hi ha hKK
              unfold IMT9 at hI
              obtain ⟨v39, v40, v41, v42, v43, v44, v45, v46, v47, v48, v49, v50, v51, v52, v53, v54, v55, v56, v57, v58, v59, v60, v61, v62, v63, v64, v65, hI⟩ := hI
              obtain ⟨hae, hsz, hS, hF⟩ := hI
              obtain ⟨l0_, l1_, l2_, l3_, l4_, l5_, l6_, l7_, l8_, l9_, l10_, l11_, l12_, l13_, l14_, l15_, l16_, l17_, l18_, l19_, l20_, l21_, l22_, l23_, l24_, l25_, l26_⟩ := hF
              have e15 := l15_ (waits ha 15 rfl)
              subst e15
              replace hS := Lib.hid hS
              replace l0_ := Lib.hid l0_
              replace l1_ := Lib.hid l1_
              replace l2_ := Lib.hid l2_
              replace l3_ := Lib.hid l3_
              replace l4_ := Lib.hid l4_
              replace l5_ := Lib.hid l5_
              replace l6_ := Lib.hid l6_
              replace l7_ := Lib.hid l7_
              replace l8_ := Lib.hid l8_
              replace l9_ := Lib.hid l9_
              replace l10_ := Lib.hid l10_
              replace l11_ := Lib.hid l11_
              replace l12_ := Lib.hid l12_
              replace l13_ := Lib.hid l13_
              replace l14_ := Lib.hid l14_
              replace l15_ := Lib.hid l15_
              replace l16_ := Lib.hid l16_
              replace l17_ := Lib.hid l17_
              replace l18_ := Lib.hid l18_
              replace l19_ := Lib.hid l19_
              replace l20_ := Lib.hid l20_
              replace l21_ := Lib.hid l21_
              replace l22_ := Lib.hid l22_
              replace l23_ := Lib.hid l23_
              replace l24_ := Lib.hid l24_
              replace l25_ := Lib.hid l25_
              replace l26_ := Lib.hid l26_
              rw [hae]
              clear hae
              simp only [holeMT9, List.setIfInBounds_toArray, List.set_cons_zero, List.set_cons_succ]
              go_simp
              exact hKK _ _ ⟨v39, v40, v41, v42, v43, v44, v45, v46, v47, v48, v49, v50, v51, v52, v53, (.bool false), v55, v56, v57, v58, v59, v60, v61, v62, undef, v64, v65, (by simp only [holeMT9, Act.put, List.setIfInBounds_toArray, List.set_cons_zero, List.set_cons_succ]), by simpa using hsz, (by obtain ⟨k_, a_, b_⟩ := hS.out; exact ⟨k_, stg_keep a_ rfl, b_⟩), l0_.out.keep (by decide), l1_.out.keep (by decide), l2_.out.keep (by decide), l3_.out.keep (by decide), l4_.out.keep (by decide), l5_.out.keep (by decide), l6_.out.keep (by decide), l7_.out.keep (by decide), l8_.out.keep (by decide), l9_.out.keep (by decide), l10_.out.keep (by decide), l11_.out.keep (by decide), l12_.out.keep (by decide), l13_.out.keep (by decide), l14_.out.keep (by decide), FC.put rfl, l16_.out.keep (by decide), l17_.out.keep (by decide), l18_.out.keep (by decide), l19_.out.keep (by decide), l20_.out.keep (by decide), l21_.out.keep (by decide), l22_.out.keep (by decide), l23_.out.keep (by decide), FC.put rfl, l25_.out.keep (by decide), l26_.out.keep (by decide)⟩
            · unfold StepAt
              intro L a w1 KK hI hi ha hKK
              unfold IMT9 at hI
              obtain ⟨v39, v40, v41, v42, v43, v44, v45, v46, v47, v48, v49, v50, v51, v52, v53, v54, v55, v56, v57, v58, v59, v60, v61, v62, v63, v64, v65, hI⟩ := hI
              obtain ⟨hae, hsz, hS, hF⟩ := hI
              obtain ⟨l0_, l1_, l2_, l3_, l4_, l5_, l6_, l7_, l8_, l9_, l10_, l11_, l12_, l13_, l14_, l15_, l16_, l17_, l18_, l19_, l20_, l21_, l22_, l23_, l24_, l25_, l26_⟩ := hF
              have e15 := l15_ (waits ha 15 rfl)
              subst e15
              replace hS := Lib.hid hS
              replace l0_ := Lib.hid l0_
              replace l1_ := Lib.hid l1_
              replace l2_ := Lib.hid l2_
              replace l3_ := Lib.hid l3_
              replace l4_ := Lib.hid l4_
              replace l5_ := Lib.hid l5_
              replace l6_ := Lib.hid l6_
              replace l7_ := Lib.hid l7_
              replace l8_ := Lib.hid l8_
              replace l9_ := Lib.hid l9_
              replace l10_ := Lib.hid l10_
              replace l11_ := Lib.hid l11_
              replace l12_ := Lib.hid l12_
              replace l13_ := Lib.hid l13_
              replace l14_ := Lib.hid l14_
              replace l15_ := Lib.hid l15_
              replace l16_ := Lib.hid l16_
              replace l17_ := Lib.hid l17_
              replace l18_ := Lib.hid l18_
              replace l19_ := Lib.hid l19_
              replace l20_ := Lib.hid l20_
              replace l21_ := Lib.hid l21_
              replace l22_ := Lib.hid l22_
              replace l23_ := Lib.hid l23_
              replace l24_ := Lib.hid l24_
              replace l25_ := Lib.hid l25_
              replace l26_ := Lib.hid l26_
              rw [hae]
              clear hae
              simp only [holeMT9, List.setIfInBounds_toArray, List.set_cons_zero, List.set_cons_succ]
              go_simp
              exact hKK _ _ ⟨v39, v40, v41, v42, v43, v44, v45, v46, v47, v48, v49, v50, v51, v52, v53, (.bool false), v55, v56, v57, v58, v59, v60, v61, v62, v63, undef, v65, (by simp only [holeMT9, Act.put, List.setIfInBounds_toArray, List.set_cons_zero, List.set_cons_succ]), by simpa using hsz, (by obtain ⟨k_, a_, b_⟩ := hS.out; exact ⟨k_, stg_keep a_ rfl, b_⟩), l0_.out.keep (by decide), l1_.out.keep (by decide), l2_.out.keep (by decide), l3_.out.keep (by decide), l4_.out.keep (by decide), l5_.out.keep (by decide), l6_.out.keep (by decide), l7_.out.keep (by decide), l8_.out.keep (by decide), l9_.out.keep (by decide), l10_.out.keep (by decide), l11_.out.keep (by decide), l12_.out.keep (by decide), l13_.out.keep (by decide), l14_.out.keep (by decide), FC.put rfl, l16_.out.keep (by decide), l17_.out.keep (by decide), l18_.out.keep (by decide), l19_.out.keep (by decide), l20_.out.keep (by decide), l21_.out.keep (by decide), l22_.out.keep (by decide), l23_.out.keep (by decide), l24_.out.keep (by decide), FC.put rfl, l26_.out.keep (by decide)⟩
            · unfold StepAt
              intro L a w1 KK hI hi ha hKK
              unfold IMT9 at hI
              obtain ⟨v39, v40, v41, v42, v43, v44, v45, v46, v47, v48, v49, v50, v51, v52, v53, v54, v55, v56, v57, v58, v59, v60, v61, v62, v63, v64, v65, hI⟩ := hI
              obtain ⟨hae, hsz, hS, hF⟩ := hI
              obtain ⟨l0_, l1_, l2_, l3_, l4_, l5_, l6_, l7_, l8_, l9_, l10_, l11_, l12_, l13_, l14_, l15_, l16_, l17_, l18_, l19_, l20_, l21_, l22_, l23_, l24_, l25_, l26_⟩ := hF
              have e15 := l15_ (waits ha 15 rfl)
              subst e15
              have e25 := l25_ (waits ha 25 rfl)
              subst e25
              replace hS := Lib.hid hS
              replace l0_ := Lib.hid l0_
              replace l1_ := Lib.hid l1_
              replace l2_ := Lib.hid l2_
              replace l3_ := Lib.hid l3_
              replace l4_ := Lib.hid l4_
              replace l5_ := Lib.hid l5_
              replace l6_ := Lib.hid l6_
              replace l7_ := Lib.hid l7_
              replace l8_ := Lib.hid l8_
              replace l9_ := Lib.hid l9_
              replace l10_ := Lib.hid l10_
              replace l11_ := Lib.hid l11_
              replace l12_ := Lib.hid l12_
              replace l13_ := Lib.hid l13_
              replace l14_ := Lib.hid l14_
              replace l15_ := Lib.hid l15_
              replace l16_ := Lib.hid l16_
              replace l17_ := Lib.hid l17_
              replace l18_ := Lib.hid l18_
              replace l19_ := Lib.hid l19_
              replace l20_ := Lib.hid l20_
              replace l21_ := Lib.hid l21_
              replace l22_ := Lib.hid l22_
              replace l23_ := Lib.hid l23_
              replace l24_ := Lib.hid l24_
              replace l25_ := Lib.hid l25_
              replace l26_ := Lib.hid l26_
              rw [hae]
              clear hae
              simp only [holeMT9, List.setIfInBounds_toArray, List.set_cons_zero, List.set_cons_succ]
              go_simp
              exact hKK _ _ ⟨v39, v40, v41, v42, v43, v44, v45, v46, v47, v48, v49, v50, v51, v52, v53, (.bool false), v55, v56, v57, v58, v59, v60, v61, v62, v63, undef, (.bool false), (by simp only [holeMT9, Act.put, List.setIfInBounds_toArray, List.set_cons_zero, List.set_cons_succ]), by simpa using hsz, (by obtain ⟨k_, a_, b_⟩ := hS.out; exact ⟨k_, stg_keep a_ rfl, b_⟩), l0_.out.keep (by decide), l1_.out.keep (by decide), l2_.out.keep (by decide), l3_.out.keep (by decide), l4_.out.keep (by decide), l5_.out.keep (by decide), l6_.out.keep (by decide), l7_.out.keep (by decide), l8_.out.keep (by decide), l9_.out.keep (by decide), l10_.out.keep (by decide), l11_.out.keep (by decide), l12_.out.keep (by decide), l13_.out.keep (by decide), l14_.out.keep (by decide), FC.put rfl, l16_.out.keep (by decide), l17_.out.keep (by decide), l18_.out.keep (by decide), l19_.out.keep (by decide), l20_.out.keep (by decide), l21_.out.keep (by decide), l22_.out.keep (by decide), l23_.out.keep (by decide), l24_.out.keep (by decide), FC.put rfl, FC.put rfl⟩
          · intro L a w1 hI hall
            unfold IMT9 at hI
            obtain ⟨v39, v40, v41, v42, v43, v44, v45, v46, v47, v48, v49, v50, v51, v52, v53, v54, v55, v56, v57, v58, v59, v60, v61, v62, v63, v64, v65, hI⟩ := hI
            obtain ⟨hae, hsz, hS, hF⟩ := hI
            obtain ⟨l0_, l1_, l2_, l3_, l4_, l5_, l6_, l7_, l8_, l9_, l10_, l11_, l12_, l13_, l14_, l15_, l16_, l17_, l18_, l19_, l20_, l21_, l22_, l23_, l24_, l25_, l26_⟩ := hF
            obtain ⟨k_, hk_, hP⟩ := hS
            have ek_ : k_ = 1 := stg_done hk_ hall rfl
            subst ek_
            simp only [PMT9] at hP
            have e26 := l26_ (hall 26 (by decide))
            subst e26
            rw [hae]
            clear hae hsz hk_ l0_ l1_ l2_ l3_ l4_ l5_ l6_ l7_ l8_ l9_ l10_ l11_ l12_ l13_ l14_ l15_ l16_ l17_ l18_ l19_ l20_ l21_ l22_ l23_ l24_ l25_ hall
            simp only [holeMT9, List.setIfInBounds_toArray, List.set_cons_zero, List.set_cons_succ]
            go_wp2
            go_roundw
            case rel => exact ⟨k + 1, hlt, by go_num, by rw [hs2.out, hkl.out]; exact own_bel own5.out hP, hB5w.trans (hP.mono (Nat.le_trans hz4 hB5.size))⟩
            case measure => simp [intOf]; omega
        | true =>
          go_wp2
          replace hW5 := Lib.hid hW5
          have qtok1 : True := trivial
          have qtok2 : True := trivial
          go_region_held3 (fun w' => w'.cell? ⟨wr.heap.size, 0, none⟩ = some (.int .i64 (cj : Int)) ∧ w'.cell? ⟨wr.heap.size, 1, none⟩ = some (.int .i64 (cd : Int)) ∧ w'.cell? ⟨wr.heap.size + 1, 0, none⟩ = some (.int .i64 (k : Int)) ∧ w'.cell? ⟨wr.heap.size + 1, 1, none⟩ = some (.int .i64 (dd : Int)) ∧ w'.cell? ⟨ba, oa + k, none⟩ = some (.int .u64 (x : Int)) ∧ w'.cell? ⟨bb, ob + cj, none⟩ = some (.int .u64 (y : Int)))
            (exact keepS.out _ (by repeat (first | exact qB2 | exact qB1 | exact (Below.refl W5.heap.size W5) | refine Below.drew ?_ | refine Below.drewN ?_ _ | refine Below.alloc ?_ (by first | omega | (simp <;> omega)) _)))
            (first | (go_at_call 59; clear qtok1; refine (kc1'.out _ (by repeat (first | exact (Below.refl W5.heap.size W5) | refine Below.drew ?_ | refine Below.drewN ?_ _ | refine Below.alloc ?_ (by first | omega | (simp <;> omega)) _))).mono ?_; rintro e qw1 ⟨rfl, qh1⟩; have qB1 : Below W5.heap.size W5 qw1 := Below.trans (by repeat (first | exact (Below.refl W5.heap.size W5) | refine Below.drew ?_ | refine Below.drewN ?_ _ | refine Below.alloc ?_ (by first | omega | (simp <;> omega)) _)) (qh1.mono (by first | omega | (simp <;> omega))); have qs1 := qB1.size) | (go_at_call 59; clear qtok2; refine (kc2'.out _ (by repeat (first | exact qB1 | refine Below.drew ?_ | refine Below.drewN ?_ _ | refine Below.alloc ?_ (by first | omega | (simp <;> omega)) _))).mono ?_; rintro e qw2 ⟨rfl, qh2⟩; have qB2 : Below W5.heap.size W5 qw2 := Below.trans (by repeat (first | exact qB1 | refine Below.drew ?_ | refine Below.drewN ?_ _ | refine Below.alloc ?_ (by first | omega | (simp <;> omega)) _)) (qh2.mono (by first | omega | (simp <;> omega))); have qs2 := qB2.size))
          have hcsz := qB2.size
          have own6 := own_bel own5 qB2
          have hB6 := hB5w.trans (qB2.mono (Nat.le_trans hz4 hB5.size))
          obtain ⟨t0, t1, -, -, -, -⟩ := keepS.out _ qB2
          cases e2 with
          | false =>
            have hs2 : Hid (matF a b num den Lc Lb (k + 1) = K) := Lib.hid (by rw [hsucc, hsel]; simp)
            clear hsucc hsel
            replace own6 := Lib.hid own6
            replace hown := Lib.hid hown
            replace own5 := Lib.hid own5
            go_wp2
            go_roundw
            case rel => exact ⟨k + 1, hlt, by go_num, by rw [hs2.out, hkl.out]; exact own6.out, hB6⟩
            case measure => simp [intOf]; omega
          | true =>
            have hs2 : Hid (matF a b num den Lc Lb (k + 1) = K ++ [(k, cj, cd)]) := Lib.hid (by rw [hsucc, hsel]; simp)
            clear hsucc hsel
            replace hown := Lib.hid hown
            replace own5 := Lib.hid own5
            obtain ⟨i0, hi, hz0, hz1, hz2'⟩ := info_parts infoM
            have hB6s := hB6.size
            go_wp2_with (at_builtin; refine wpList_append_own _ rfl _ _ 48 rfl w2.heap.size 53 i0 (.agg #[.int .i64 0, .int .i64 0, .int .i64 0]) 3 24 Try.underlying48 hi hz0 hz1 hz2' rfl (by decide) _ _ _ rfl (own6.alloc _) ⟨qw2.heap.size, 0, none⟩ 1 1 (mcells [(k, cj, cd)]) rfl rfl ?qc2 (mcells_one _) ?qc4 ?qc5 ?qc6 ?_)
            case qc2 =>
              intro j u hj
              rw [Addr.add_lit, Nat.zero_add, cell_of_row _ qw2.heap.size j _ _ _ (heap_alloc_new qw2 _)]
              rw [← List.getElem?_toArray] at hj
              exact hj
            case qc4 => unfold maxLen; omega
            case qc5 => omega
            case qc6 => simp; omega
            intro v' w6 hown6 hgrow hnil
            have hown7 : w6.ownsRow w2.heap.size 53 3 v' (kl + 1) (mcells (K ++ [(k, cj, cd)])) := by rw [mcells_append]; exact hown6
            have hlt4 := (World.ownsRow.lt own6)
            have hB7 := (hB6.alloc (by omega) _).grown hgrow (by simp; omega) (fun q hq => (hlt4 q hq).1)
            go_wp2
            go_roundw
            case rel => exact ⟨k + 1, hlt, by go_num, by rw [hs2.out, List.length_append, hkl.out]; exact hown7, hB7⟩
            case measure => simp [intOf]; omega
      · have hd1 : ((dk : Int) == (k : Int)) = false := by simp; omega
        have hs2 : Hid (matF a b num den Lc Lb (k + 1) = K) := Lib.hid (by
          rw [hsucc, hsel]
          have : (dk == k) = false := by simp [hdi]
          rw [this]; simp)
        clear hsucc hsel
        replace hdi := Lib.hid hdi
        replace hown := Lib.hid hown
        go_wp2
        go_quiet (fail)
        go_wp2
        go_roundw
        case rel =>
          refine ⟨k + 1, hlt, by go_num, ?_, ?_⟩
          · rw [hs2.out, hkl.out]
            exact ((hown.out.alloc _).alloc _)
          · exact below_drewN ((hB.alloc hz4 _).alloc (by simp; omega) _) _
        case measure => simp [intOf]; omega
    · obtain rfl : k = n := by omega
      have hki : ¬ (k : Int) < (k : Int) := by omega
      replace hK := Lib.hid hK
      replace hkl := Lib.hid hkl
      replace hown := Lib.hid hown
      clear hsucc
      go_wp2
      go_ret
      exact ⟨⟨Lc, Lb, _, rfl, hLc'.out, hLb'.out, by rw [hK.out, hkl.out]; exact own_mono hown.out hB2.size⟩, hB2.trans (hB.mono hB2.size)⟩

end Go.Proofs.Ytofoiocpopmifaa
