/-
  Walk: divideLong of package integer.
-/
import Derived.Test.YtabibkhcdamlhaaDoorRed
import Derived.Test.YtabibkhcdamlhaaDoorNum
import Derived.Test.YtabibkhcdamlhaaDoorDSh
import Derived.Test.YtabibkhcdamlhaaDoorX
import Derived.Test.YtabibkhcdamlhaaDoorLogA
import Derived.OwnWalkIn
import Derived.Sort.CutIn
set_option linter.unusedSimpArgs false
set_option linter.unusedVariables false
namespace Go.Proofs.YtabibkhcdamlhaaDoor
open Go.RowKit Go.Shelf Num

attribute [local go_sem] Oper.semAt_some

/-- copy into a row of the call's own, inside a fence. -/
theorem wpListIn_copy_bl {F : Fence} {n : Nat} {P : Program} {w : World} {ops : Array Oper} {rest : List Oper} {o : Oper} {a : Act} {Q : Exit → Act → World → Prop} (hgd : o.guard = none) (d s : Operand)
    (ho : o.op = .call { callee := .builtin .copy, args := #[d, s], argTypes := #[22, 22] }) (hu : P.underlying 22 = some (.slice 48)) (hsz : (P.info? 48).map (·.size) = some 1)
    (dLen dCap sLen sCap : Nat) (ad : Addr) (g off : Nat) (hd : a.eval d = .slice (some ⟨g, off, none⟩) dLen dCap) (hs : a.eval s = .slice (some ad) sLen sCap)
    (L l : List Nat) (hB : Bl w g L) (hS : Sl w (some ad) sLen sCap l) (h0 : 0 < sLen) (hle : sLen ≤ dLen) (hfit : off + sLen ≤ L.length)
    (h : ∀ w', Bl w' g (lay L off l) → Only w w' g → w'.heap.size = w.heap.size → wpListIn F n P ops Q rest (a.put o.dst (goInt sLen)) w') : wpListIn F n P ops Q (o :: rest) a w := by
  obtain ⟨b, off', e, _, hc⟩ := hS.at_ h0
  cases e
  obtain ⟨T, hT⟩ := hB
  have hcl : (cells l).length = sLen := by rw [cells_length, ← hS.len]
  refine wpListIn_plain hgd fun K hK' => ?_
  have hrun := run_copy_row (P := P) w 22 22 o.type 48 g off dLen dCap ⟨b, off', none⟩ sLen sCap _ _ (cells l) hu hsz hT (by rw [hcl]; exact (Nat.min_eq_left hle).symm)
    (cells_from_sl hS.len hc) (by simp [cells_length, hS.len ▸ hcl]; have := hS.len; omega) cells_one
  unfold Oper.wpIn
  refine ⟨by simp [Oper.about, ho, resolve, Target.leads, Sem.run_pure], ?_⟩
  rw [Oper.semAt_plain F _ _ (by rw [ho]; intro c hc'; cases hc')]
  simp [execOp, ho, resolve, invoke, builtin, hd, hs, hrun, Result.andThen]
  rw [hcl]
  refine hK' _ _ (h _ ⟨T, ?_⟩ ⟨rfl, rfl, rfl, by simp, fun k _ hk => setRow_other w g k _ (fun e => hk (by simp [e]))⟩ (by simp [World.setRow]))
  rw [setRow_heap w g _ _ _ _ hT]
  have e1 : off ≤ (cells L).length := by rw [cells_length]; omega
  have e2 : off + sLen ≤ (cells L).length := by rw [cells_length]; omega
  simp only [List.take_append_of_le_length e1, List.drop_append_of_le_length e2]
  unfold lay
  rw [cells_append, cells_append, ← hS.len]
  simp [cells, List.map_take, List.map_drop]

/-- The frame with what the region writes into its slots. -/
def holeR8 (a : Act) (v42 v43 v44 v45 v46 v47 v48 v49 v50 v51 v52 v53 v54 : Value) : Act := { a with tmps := (((((((((((((a.tmps.setIfInBounds 42 v42).setIfInBounds 43 v43).setIfInBounds 44 v44).setIfInBounds 45 v45).setIfInBounds 46 v46).setIfInBounds 47 v47).setIfInBounds 48 v48).setIfInBounds 49 v49).setIfInBounds 50 v50).setIfInBounds 51 v51).setIfInBounds 52 v52).setIfInBounds 53 v53).setIfInBounds 54 v54) }
/-- What stands while the region is under way. -/
def IR8 (WD : World) (RP : World → List Nat → Nat → Prop) (pt : Addr) (a42 a43 a44 a47 a48 a49 a50 a51 a52 a54 : Value) (a0 : Act) (L : Array Bool) (a : Act) (w : World) : Prop :=
  ∃ v42 v43 v44 v45 v46 v47 v48 v49 v50 v51 v52 v53 v54, a = holeR8 a0 v42 v43 v44 v45 v46 v47 v48 v49 v50 v51 v52 v53 v54 ∧ L.size = 14 ∧ (L.getD 13 false = false → L.getD 11 false = false → w = WD) ∧ (L.getD 13 false = false → L.getD 11 false = true → ∃ R' q, v53 = .int .u32 ((q : Nat) : Int) ∧ RP w R' q) ∧ (L.getD 13 false = true → (∃ w1 R' q, v53 = .int .u32 ((q : Nat) : Int) ∧ RP w1 R' q ∧ w = w1.setCell pt (.int .u32 ((q : Nat) : Int))) ∧ L.getD 0 false = true ∧ L.getD 1 false = true ∧ L.getD 2 false = true ∧ L.getD 3 false = true ∧ L.getD 4 false = true ∧ L.getD 5 false = true ∧ L.getD 6 false = true ∧ L.getD 7 false = true ∧ L.getD 8 false = true ∧ L.getD 9 false = true ∧ L.getD 10 false = true ∧ L.getD 11 false = true ∧ L.getD 12 false = true) ∧ (L.getD 0 false = true → v42 = a42) ∧ (L.getD 1 false = true → v43 = a43) ∧ (L.getD 2 false = true → v44 = a44) ∧ (L.getD 3 false = true → v45 = a43) ∧ (L.getD 4 false = true → v46 = a43) ∧ (L.getD 5 false = true → v47 = a47) ∧ (L.getD 6 false = true → v48 = a48) ∧ (L.getD 7 false = true → v49 = a49) ∧ (L.getD 8 false = true → v50 = a50) ∧ (L.getD 9 false = true → v51 = a51) ∧ (L.getD 10 false = true → v52 = a52) ∧ (L.getD 11 false = true → True) ∧ (L.getD 12 false = true → v54 = a54)
/-- The frame with what the region writes into its slots. -/
def holeR9 (a : Act) (v55 v56 v57 v58 : Value) : Act := { a with tmps := ((((a.tmps.setIfInBounds 55 v55).setIfInBounds 56 v56).setIfInBounds 57 v57).setIfInBounds 58 v58) }
/-- What stands while the region is under way. -/
def IR9 (WD : World) (p4 p5 : Addr) (xq xr : Value) (T4 T5 : Value → Prop) (a0 : Act) (L : Array Bool) (a : Act) (w : World) : Prop :=
  ∃ v55 v56 v57 v58, a = holeR9 a0 v55 v56 v57 v58 ∧ L.size = 6 ∧ (L.getD 5 false = false → L.getD 4 false = false → w = WD) ∧ (L.getD 5 false = false → L.getD 4 false = true → w = WD.setCell p4 v56 ∧ L.getD 0 false = true ∧ L.getD 1 false = true) ∧ (L.getD 5 false = true → (w = (WD.setCell p4 v56).setCell p5 v58) ∧ L.getD 0 false = true ∧ L.getD 1 false = true ∧ L.getD 2 false = true ∧ L.getD 3 false = true ∧ L.getD 4 false = true) ∧ (L.getD 0 false = true → v55 = xq) ∧ (L.getD 1 false = true → T4 v56) ∧ (L.getD 2 false = true → v57 = xr) ∧ (L.getD 3 false = true → T5 v58)
/-- The frame with what the region writes into its slots. -/
def holeR2 (a : Act) (v11 v12 v13 v14 v15 v16 v17 v18 v19 v20 v21 v22 v23 v24 v7 : Value) : Act := { a with tmps := (((((((((((((((a.tmps.setIfInBounds 11 v11).setIfInBounds 12 v12).setIfInBounds 13 v13).setIfInBounds 14 v14).setIfInBounds 15 v15).setIfInBounds 16 v16).setIfInBounds 17 v17).setIfInBounds 18 v18).setIfInBounds 19 v19).setIfInBounds 20 v20).setIfInBounds 21 v21).setIfInBounds 22 v22).setIfInBounds 23 v23).setIfInBounds 24 v24).setIfInBounds 7 v7) }
/-- What stands while the region is under way. -/
def IR2 (WD WD1 WD2 : World) (xb xn xn1 xp1 xy1 xz1 xm1 xn2 xp2 xy0 xz0 xl xq : Value) (a0 : Act) (L : Array Bool) (a : Act) (w : World) : Prop :=
  ∃ v11 v12 v13 v14 v15 v16 v17 v18 v19 v20 v21 v22 v23 v24 v7, a = holeR2 a0 v11 v12 v13 v14 v15 v16 v17 v18 v19 v20 v21 v22 v23 v24 v7 ∧ L.size = 16 ∧ (L.getD 15 false = false → L.getD 14 false = false → w = WD) ∧ (L.getD 15 false = false → L.getD 14 false = true → w = WD1) ∧ (L.getD 15 false = true → (w = WD2) ∧ L.getD 0 false = true ∧ L.getD 1 false = true ∧ L.getD 2 false = true ∧ L.getD 3 false = true ∧ L.getD 4 false = true ∧ L.getD 5 false = true ∧ L.getD 6 false = true ∧ L.getD 7 false = true ∧ L.getD 8 false = true ∧ L.getD 9 false = true ∧ L.getD 10 false = true ∧ L.getD 11 false = true ∧ L.getD 12 false = true ∧ L.getD 13 false = true ∧ L.getD 14 false = true) ∧ (L.getD 0 false = true → v11 = xb) ∧ (L.getD 1 false = true → v12 = xn) ∧ (L.getD 2 false = true → v13 = xn1) ∧ (L.getD 3 false = true → v14 = xp1) ∧ (L.getD 4 false = true → v15 = xy1) ∧ (L.getD 5 false = true → v16 = xz1) ∧ (L.getD 6 false = true → v17 = xm1) ∧ (L.getD 7 false = true → v18 = xb) ∧ (L.getD 8 false = true → v19 = xn) ∧ (L.getD 9 false = true → v20 = xn2) ∧ (L.getD 10 false = true → v21 = xp2) ∧ (L.getD 11 false = true → v22 = xy0) ∧ (L.getD 12 false = true → v23 = xz0) ∧ (L.getD 13 false = true → v24 = xl) ∧ (L.getD 14 false = true → v7 = xq)

set_option maxRecDepth 100000 in
set_option maxHeartbeats 8000000 in
/-- divideLong. -/
theorem divideLong_any (A : Option Addr) (na ca m ka : Nat) (A2 : Option Addr) (n' n cb d kd : Nat) (w : World) (ha : MM w A na ca m ka) (hb : MM w A2 n cb d kd) (hka : ka ≤ 1000000) (hkd : kd ≤ 1000000) (hn' : n' + 2 = n) (hna : n ≤ na) :
    Calls Tryd.prog 91 #[.slice A na ca, .slice A2 n cb] w fun e w' => ∃ A3 n3 c3 A4 n4 c4, e = .returned (.tuple #[.slice A3 n3 c3, .slice A4 n4 c4]) ∧ FM w' w.heap.size A3 n3 c3 (m / d) ka ∧ FM w' w.heap.size A4 n4 c4 (m % d) kd ∧ Below w.heap.size w w' := by
  obtain ⟨la, hsa, hca, hva, hnka⟩ := ha
  obtain ⟨lb, hsb, hcb, hvb, hnkb⟩ := hb
  have hla := hsa.len
  have hlb := hsb.len
  obtain ⟨kaA, oaA, rfl, hkaA, hca1⟩ := hsa.at_ (by omega)
  obtain ⟨kb, ob, rfl, hkb, hcb1⟩ := hsb.at_ (by omega)
  obtain ⟨n1, hn1⟩ : ∃ n1, n' + 1 = n1 := ⟨_, rfl⟩
  have hc1 := hcb1 n1 (by omega)
  have hc0 := hcb1 n' (by omega)
  obtain ⟨y1, hy1⟩ : ∃ y, nth lb n1 = y := ⟨_, rfl⟩
  obtain ⟨y0, hy0⟩ : ∃ y, nth lb n' = y := ⟨_, rfl⟩
  rw [hy1] at hc1
  rw [hy0] at hc0
  have hy19 : y1 < 1000000000 := by rw [← hy1]; exact hcb.1.get _
  have hy09 : y0 < 1000000000 := by rw [← hy0]; exact hcb.1.get _
  obtain ⟨lead, hlead⟩ : ∃ lead, y1 * 1000000000 + y0 = lead := ⟨_, rfl⟩
  have hleadI : (y1 : Int) * 1000000000 + (y0 : Int) = (lead : Int) := by omega
  have hacap := hsa.le_cap
  have hacl := hsa.cap_le
  have hbcap := hsb.le_cap
  have hbcl := hsb.cap_le
  have hy1I : (y1 : Int) ≤ 999999999 := by omega
  have hy0I : (y0 : Int) ≤ 999999999 := by omega
  have hn1I : (n : Int) - 1 = (n1 : Int) := by omega
  have hn2I : (n : Int) - 2 = (n' : Int) := by omega
  replace hla := Lib.hid hla
  replace hlb := Lib.hid hlb
  replace hy1 := Lib.hid hy1
  replace hy0 := Lib.hid hy0
  replace hlead := Lib.hid hlead
  replace hca1 := Lib.hid hca1
  replace hcb1 := Lib.hid hcb1
  have hn1n : (n1 : Int) < (n : Int) := by omega
  have hn0n : (n' : Int) < (n : Int) := by omega
  replace hn' := Lib.hid hn'
  replace hn1 := Lib.hid hn1
  refine (callsIn_wide (n := 6)).1 ?_
  refine callsIn_of_wp_marks Tryd.func91 rfl trivial ?_ rfl
  simp only [Tryd.ntmps91, List.size_toArray, List.length_cons, List.length_nil, Nat.reduceAdd, Nat.reduceSub, Array.replicate_succ, Array.replicate_zero, List.push_toArray, List.append_toArray, List.nil_append, List.cons_append]
  gi_wp2
  have hBe : Below w.heap.size w ((((w.alloc (.cells #[.slice (some ⟨kb, ob, none⟩) n cb] 22)).alloc (.cells #[.slice none 0 0] 22)).alloc (.cells #[.slice none 0 0] 22)).alloc (.cells #[.int .i64 (n : Int)] 3)) := ((((Below.refl _ w).alloc (Nat.le_refl _) _).alloc (by simp) _).alloc (by simp; omega) _).alloc (by simp; omega) _
  have c3 : ((((w.alloc (.cells #[.slice (some ⟨kb, ob, none⟩) n cb] 22)).alloc (.cells #[.slice none 0 0] 22)).alloc (.cells #[.slice none 0 0] 22)).alloc (.cells #[.int .i64 (n : Int)] 3)).cell? ⟨w.heap.size, 0, none⟩ = some (.slice (some ⟨kb, ob, none⟩) n cb) := by simp [go_sem]
  have c4 : ((((w.alloc (.cells #[.slice (some ⟨kb, ob, none⟩) n cb] 22)).alloc (.cells #[.slice none 0 0] 22)).alloc (.cells #[.slice none 0 0] 22)).alloc (.cells #[.int .i64 (n : Int)] 3)).cell? ⟨w.heap.size + 1, 0, none⟩ = some (.slice none 0 0) := by simp [go_sem]
  have c5 : ((((w.alloc (.cells #[.slice (some ⟨kb, ob, none⟩) n cb] 22)).alloc (.cells #[.slice none 0 0] 22)).alloc (.cells #[.slice none 0 0] 22)).alloc (.cells #[.int .i64 (n : Int)] 3)).cell? ⟨w.heap.size + 1 + 1, 0, none⟩ = some (.slice none 0 0) := by simp [go_sem]
  have c6 : ((((w.alloc (.cells #[.slice (some ⟨kb, ob, none⟩) n cb] 22)).alloc (.cells #[.slice none 0 0] 22)).alloc (.cells #[.slice none 0 0] 22)).alloc (.cells #[.int .i64 (n : Int)] 3)).cell? ⟨w.heap.size + 1 + 1 + 1, 0, none⟩ = some (.int .i64 (n : Int)) := by simp [go_sem]
  have f4 : ((((w.alloc (.cells #[.slice (some ⟨kb, ob, none⟩) n cb] 22)).alloc (.cells #[.slice none 0 0] 22)).alloc (.cells #[.slice none 0 0] 22)).alloc (.cells #[.int .i64 (n : Int)] 3)).frozen? ⟨w.heap.size + 1, 0, none⟩ = false := by simp [go_sem]
  have f5 : ((((w.alloc (.cells #[.slice (some ⟨kb, ob, none⟩) n cb] 22)).alloc (.cells #[.slice none 0 0] 22)).alloc (.cells #[.slice none 0 0] 22)).alloc (.cells #[.int .i64 (n : Int)] 3)).frozen? ⟨w.heap.size + 1 + 1, 0, none⟩ = false := by simp [go_sem]
  have hs4 : ((((w.alloc (.cells #[.slice (some ⟨kb, ob, none⟩) n cb] 22)).alloc (.cells #[.slice none 0 0] 22)).alloc (.cells #[.slice none 0 0] 22)).alloc (.cells #[.int .i64 (n : Int)] 3)).heap.size = w.heap.size + 1 + 1 + 1 + 1 := by simp
  generalize ((((w.alloc (.cells #[.slice (some ⟨kb, ob, none⟩) n cb] 22)).alloc (.cells #[.slice none 0 0] 22)).alloc (.cells #[.slice none 0 0] 22)).alloc (.cells #[.int .i64 (n : Int)] 3)) = W0 at hBe c3 c4 c5 c6 f4 f5 hs4 ⊢
  obtain ⟨WD, hWD⟩ : ∃ WD, W0.drew = WD := ⟨_, rfl⟩
  have d3 : WD.cell? ⟨w.heap.size, 0, none⟩ = some (.slice (some ⟨kb, ob, none⟩) n cb) := by rw [← hWD]; exact c3
  have d4 : WD.cell? ⟨w.heap.size + 1, 0, none⟩ = some (.slice none 0 0) := by rw [← hWD]; exact c4
  have d5 : WD.cell? ⟨w.heap.size + 1 + 1, 0, none⟩ = some (.slice none 0 0) := by rw [← hWD]; exact c5
  have d6 : WD.cell? ⟨w.heap.size + 1 + 1 + 1, 0, none⟩ = some (.int .i64 (n : Int)) := by rw [← hWD]; exact c6
  have df4 : WD.frozen? ⟨w.heap.size + 1, 0, none⟩ = false := by rw [← hWD]; exact f4
  have df5 : WD.frozen? ⟨w.heap.size + 1 + 1, 0, none⟩ = false := by rw [← hWD]; exact f5
  have hsD : WD.heap.size = w.heap.size + 1 + 1 + 1 + 1 := by rw [← hWD]; exact hs4
  have hBD : Below w.heap.size w WD := by rw [← hWD]; exact hBe.drew
  obtain ⟨WD1, hWD1⟩ : ∃ W, WD.alloc (.cells #[.int .u64 0] 58) = W := ⟨_, rfl⟩
  have hb1 : Below WD.heap.size WD WD1 := hWD1 ▸ (Below.refl _ _).alloc (Nat.le_refl _) _
  obtain ⟨hcc1, hff1, -⟩ := old3 hb1
  have k3 := (hcc1 w.heap.size 0 (by omega)).trans d3
  have k4 := (hcc1 (w.heap.size + 1) 0 (by omega)).trans d4
  have k5 := (hcc1 (w.heap.size + 1 + 1) 0 (by omega)).trans d5
  have k6 := (hcc1 (w.heap.size + 1 + 1 + 1) 0 (by omega)).trans d6
  have kf4 := (hff1 (w.heap.size + 1) 0 (by omega)).trans df4
  have kf5 := (hff1 (w.heap.size + 1 + 1) 0 (by omega)).trans df5
  have k7 : WD1.cell? ⟨w.heap.size + 1 + 1 + 1 + 1, 0, none⟩ = some (.int .u64 0) := by rw [← hWD1, ← hsD]; simp [go_sem]
  have kf7 : WD1.frozen? ⟨w.heap.size + 1 + 1 + 1 + 1, 0, none⟩ = false := by rw [← hWD1, ← hsD]; simp [go_sem]
  have hs1 : WD1.heap.size = w.heap.size + 1 + 1 + 1 + 1 + 1 := by rw [← hWD1]; simp [hsD]
  have hB1 : Below w.heap.size w WD1 := hBD.trans (hb1.mono hBD.size)
  have dc1 := (hBD.cell (p := ⟨kb, ob + n1, none⟩) hkb).trans hc1
  have dc0 := (hBD.cell (p := ⟨kb, ob + n', none⟩) hkb).trans hc0
  have kc1 := (hB1.cell (p := ⟨kb, ob + n1, none⟩) hkb).trans hc1
  have kc0 := (hB1.cell (p := ⟨kb, ob + n', none⟩) hkb).trans hc0
  have hgood : ∀ W, W = WD ∨ W = WD1 → W.cell? ⟨w.heap.size, 0, none⟩ = some (.slice (some ⟨kb, ob, none⟩) n cb) ∧ W.cell? ⟨w.heap.size + 1 + 1 + 1, 0, none⟩ = some (.int .i64 (n : Int)) ∧ W.cell? ⟨kb, ob + n1, none⟩ = some (.int .u32 (y1 : Int)) ∧ W.cell? ⟨kb, ob + n', none⟩ = some (.int .u32 (y0 : Int)) := by
    rintro W (rfl | rfl)
    · exact ⟨d3, d6, dc1, dc0⟩
    · exact ⟨k3, k6, kc1, kc0⟩
  replace hgood := Lib.hid hgood
  have hwn1 : IntKind.i64.wrap (n1 : Int) = (n1 : Int) := by rw [IntKind.wrap_i64]; omega
  have hwn2 : IntKind.i64.wrap (n' : Int) = (n' : Int) := by rw [IntKind.wrap_i64]; omega
  have hwy1 : IntKind.u64.wrap (y1 : Int) = (y1 : Int) := by rw [IntKind.wrap_u64]; omega
  have hwy0 : IntKind.u64.wrap (y0 : Int) = (y0 : Int) := by rw [IntKind.wrap_u64]; omega
  have hwm1 : IntKind.u64.wrap ((y1 : Int) * 1000000000) = (y1 : Int) * 1000000000 := by rw [IntKind.wrap_u64]; omega
  have hwl1 : IntKind.u64.wrap (lead : Int) = (lead : Int) := by rw [IntKind.wrap_u64]; omega
  clear c3 c4 c5 c6 f4 f5 hc1 hc0 hcc1 hff1 dc1 dc0 kc1 kc0
  refine wpIn_region_inv0 (I0 := IR2 WD WD1 (WD1.setCell ⟨w.heap.size + 1 + 1 + 1 + 1, 0, none⟩ (.int .u64 (lead : Int))) (.slice (some ⟨kb, ob, none⟩) n cb) (.int .i64 (n : Int)) (.int .i64 (n1 : Int)) (.pointer (some ⟨kb, ob + n1, none⟩)) (.int .u32 (y1 : Int)) (.int .u64 (y1 : Int)) (.int .u64 ((y1 : Int) * 1000000000)) (.int .i64 (n' : Int)) (.pointer (some ⟨kb, ob + n', none⟩)) (.int .u32 (y0 : Int)) (.int .u64 (y0 : Int)) (.int .u64 (lead : Int)) (.pointer (some ⟨w.heap.size + 1 + 1 + 1 + 1, 0, none⟩))) (by kernel_rfl) (by kernel_rfl) ?_ ?_ ?_ ?_
  · intro L a w1 hI
    unfold IR2 at hI
    obtain ⟨v11, v12, v13, v14, v15, v16, v17, v18, v19, v20, v21, v22, v23, v24, v7, hae, hsz, -⟩ := hI
    exact hsz
  · exact ⟨undef, undef, undef, undef, undef, undef, undef, undef, undef, undef, undef, undef, undef, undef, undef, (by simp only [holeR2, Act.put, List.setIfInBounds_toArray, List.set_cons_zero, List.set_cons_succ]), by simp, fun _ _ => hWD.symm ▸ rfl, fun _ h => by simp at h, fun h => by simp at h, fun h => by simp at h, fun h => by simp at h, fun h => by simp at h, fun h => by simp at h, fun h => by simp at h, fun h => by simp at h, fun h => by simp at h, fun h => by simp at h, fun h => by simp at h, fun h => by simp at h, fun h => by simp at h, fun h => by simp at h, fun h => by simp at h, fun h => by simp at h, fun h => by simp at h⟩
  · refine stepsIn_cons ?_ (stepsIn_cons ?_ (stepsIn_cons ?_ (stepsIn_cons ?_ (stepsIn_cons ?_ (stepsIn_cons ?_ (stepsIn_cons ?_ (stepsIn_cons ?_ (stepsIn_cons ?_ (stepsIn_cons ?_ (stepsIn_cons ?_ (stepsIn_cons ?_ (stepsIn_cons ?_ (stepsIn_cons ?_ (stepsIn_cons ?_ (stepsIn_cons ?_ (stepsIn_nil))))))))))))))))
    · unfold StepAtIn
      intro L a w1 KK hI hi ha hKK
      unfold IR2 at hI
      obtain ⟨v11, v12, v13, v14, v15, v16, v17, v18, v19, v20, v21, v22, v23, v24, v7, hae, hsz, p0, p1, p2, l0, l1, l2, l3, l4, l5, l6, l7, l8, l9, l10, l11, l12, l13, l14⟩ := hI
      have hlast : L.getD 15 false = false := by
        cases h : L.getD 15 false
        · rfl
        · exact (not_on hi ((p2 h).2.1)).elim
      obtain ⟨g1, g2, g3, g4⟩ := hgood.out w1 (by cases h : L.getD 14 false; exact .inl (p0 hlast h); exact .inr (p1 hlast h))
      rw [hae]
      clear hae
      simp only [holeR2, List.setIfInBounds_toArray, List.set_cons_zero, List.set_cons_succ]
      go_simp
      exact hKK _ _ ⟨(.slice (some ⟨kb, ob, none⟩) n cb), v12, v13, v14, v15, v16, v17, v18, v19, v20, v21, v22, v23, v24, v7, (by simp only [holeR2, Act.put, List.setIfInBounds_toArray, List.set_cons_zero, List.set_cons_succ]), by simpa using hsz, fun e1 e2 => p0 (by rwa [gs_off (by decide)] at e1) (by rwa [gs_off (by decide)] at e2), fun e1 e2 => p1 (by rwa [gs_off (by decide)] at e1) (by rwa [gs_off (by decide)] at e2), fun e => absurd (show L.getD 15 false = true from (by rwa [gs_off (by decide)] at e)) (by rw [hlast]; decide), fun _ => rfl, fun e => l1 (by rwa [gs_off (by decide)] at e), fun e => l2 (by rwa [gs_off (by decide)] at e), fun e => l3 (by rwa [gs_off (by decide)] at e), fun e => l4 (by rwa [gs_off (by decide)] at e), fun e => l5 (by rwa [gs_off (by decide)] at e), fun e => l6 (by rwa [gs_off (by decide)] at e), fun e => l7 (by rwa [gs_off (by decide)] at e), fun e => l8 (by rwa [gs_off (by decide)] at e), fun e => l9 (by rwa [gs_off (by decide)] at e), fun e => l10 (by rwa [gs_off (by decide)] at e), fun e => l11 (by rwa [gs_off (by decide)] at e), fun e => l12 (by rwa [gs_off (by decide)] at e), fun e => l13 (by rwa [gs_off (by decide)] at e), fun e => l14 (by rwa [gs_off (by decide)] at e)⟩
    · unfold StepAtIn
      intro L a w1 KK hI hi ha hKK
      unfold IR2 at hI
      obtain ⟨v11, v12, v13, v14, v15, v16, v17, v18, v19, v20, v21, v22, v23, v24, v7, hae, hsz, p0, p1, p2, l0, l1, l2, l3, l4, l5, l6, l7, l8, l9, l10, l11, l12, l13, l14⟩ := hI
      have hlast : L.getD 15 false = false := by
        cases h : L.getD 15 false
        · rfl
        · exact (not_on hi ((p2 h).2.2.1)).elim
      obtain ⟨g1, g2, g3, g4⟩ := hgood.out w1 (by cases h : L.getD 14 false; exact .inl (p0 hlast h); exact .inr (p1 hlast h))
      rw [hae]
      clear hae
      simp only [holeR2, List.setIfInBounds_toArray, List.set_cons_zero, List.set_cons_succ]
      go_simp
      exact hKK _ _ ⟨v11, (.int .i64 (n : Int)), v13, v14, v15, v16, v17, v18, v19, v20, v21, v22, v23, v24, v7, (by simp only [holeR2, Act.put, List.setIfInBounds_toArray, List.set_cons_zero, List.set_cons_succ]), by simpa using hsz, fun e1 e2 => p0 (by rwa [gs_off (by decide)] at e1) (by rwa [gs_off (by decide)] at e2), fun e1 e2 => p1 (by rwa [gs_off (by decide)] at e1) (by rwa [gs_off (by decide)] at e2), fun e => absurd (show L.getD 15 false = true from (by rwa [gs_off (by decide)] at e)) (by rw [hlast]; decide), fun e => l0 (by rwa [gs_off (by decide)] at e), fun _ => rfl, fun e => l2 (by rwa [gs_off (by decide)] at e), fun e => l3 (by rwa [gs_off (by decide)] at e), fun e => l4 (by rwa [gs_off (by decide)] at e), fun e => l5 (by rwa [gs_off (by decide)] at e), fun e => l6 (by rwa [gs_off (by decide)] at e), fun e => l7 (by rwa [gs_off (by decide)] at e), fun e => l8 (by rwa [gs_off (by decide)] at e), fun e => l9 (by rwa [gs_off (by decide)] at e), fun e => l10 (by rwa [gs_off (by decide)] at e), fun e => l11 (by rwa [gs_off (by decide)] at e), fun e => l12 (by rwa [gs_off (by decide)] at e), fun e => l13 (by rwa [gs_off (by decide)] at e), fun e => l14 (by rwa [gs_off (by decide)] at e)⟩
    · unfold StepAtIn
      intro L a w1 KK hI hi ha hKK
      unfold IR2 at hI
      obtain ⟨v11, v12, v13, v14, v15, v16, v17, v18, v19, v20, v21, v22, v23, v24, v7, hae, hsz, p0, p1, p2, l0, l1, l2, l3, l4, l5, l6, l7, l8, l9, l10, l11, l12, l13, l14⟩ := hI
      have hlast : L.getD 15 false = false := by
        cases h : L.getD 15 false
        · rfl
        · exact (not_on hi ((p2 h).2.2.2.1)).elim
      have q1 := ha { on := 1, ground := Ground.data } (by simp) rfl
      have e1 := l1 q1
      subst e1
      rw [hae]
      clear hae
      simp only [holeR2, List.setIfInBounds_toArray, List.set_cons_zero, List.set_cons_succ]
      go_simp
      exact hKK _ _ ⟨v11, (.int .i64 (n : Int)), (.int .i64 (n1 : Int)), v14, v15, v16, v17, v18, v19, v20, v21, v22, v23, v24, v7, (by simp only [holeR2, Act.put, List.setIfInBounds_toArray, List.set_cons_zero, List.set_cons_succ]), by simpa using hsz, fun e1 e2 => p0 (by rwa [gs_off (by decide)] at e1) (by rwa [gs_off (by decide)] at e2), fun e1 e2 => p1 (by rwa [gs_off (by decide)] at e1) (by rwa [gs_off (by decide)] at e2), fun e => absurd (show L.getD 15 false = true from (by rwa [gs_off (by decide)] at e)) (by rw [hlast]; decide), fun e => l0 (by rwa [gs_off (by decide)] at e), fun _ => rfl, fun _ => rfl, fun e => l3 (by rwa [gs_off (by decide)] at e), fun e => l4 (by rwa [gs_off (by decide)] at e), fun e => l5 (by rwa [gs_off (by decide)] at e), fun e => l6 (by rwa [gs_off (by decide)] at e), fun e => l7 (by rwa [gs_off (by decide)] at e), fun e => l8 (by rwa [gs_off (by decide)] at e), fun e => l9 (by rwa [gs_off (by decide)] at e), fun e => l10 (by rwa [gs_off (by decide)] at e), fun e => l11 (by rwa [gs_off (by decide)] at e), fun e => l12 (by rwa [gs_off (by decide)] at e), fun e => l13 (by rwa [gs_off (by decide)] at e), fun e => l14 (by rwa [gs_off (by decide)] at e)⟩
    · unfold StepAtIn
      intro L a w1 KK hI hi ha hKK
      unfold IR2 at hI
      obtain ⟨v11, v12, v13, v14, v15, v16, v17, v18, v19, v20, v21, v22, v23, v24, v7, hae, hsz, p0, p1, p2, l0, l1, l2, l3, l4, l5, l6, l7, l8, l9, l10, l11, l12, l13, l14⟩ := hI
      have hlast : L.getD 15 false = false := by
        cases h : L.getD 15 false
        · rfl
        · exact (not_on hi ((p2 h).2.2.2.2.1)).elim
      have q0 := ha { on := 0, ground := Ground.data } (by simp) rfl
      have e0 := l0 q0
      subst e0
      have q2 := ha { on := 2, ground := Ground.data } (by simp) rfl
      have e2 := l2 q2
      subst e2
      rw [hae]
      clear hae
      simp only [holeR2, List.setIfInBounds_toArray, List.set_cons_zero, List.set_cons_succ]
      go_simp
      replace hKK := Lib.hid hKK
      gi_wp2
      exact hKK.out _ _ ⟨(.slice (some ⟨kb, ob, none⟩) n cb), v12, (.int .i64 (n1 : Int)), (.pointer (some ⟨kb, ob + n1, none⟩)), v15, v16, v17, v18, v19, v20, v21, v22, v23, v24, v7, (by simp only [holeR2, Act.put, List.setIfInBounds_toArray, List.set_cons_zero, List.set_cons_succ]), by simpa using hsz, fun e1 e2 => p0 (by rwa [gs_off (by decide)] at e1) (by rwa [gs_off (by decide)] at e2), fun e1 e2 => p1 (by rwa [gs_off (by decide)] at e1) (by rwa [gs_off (by decide)] at e2), fun e => absurd (show L.getD 15 false = true from (by rwa [gs_off (by decide)] at e)) (by rw [hlast]; decide), fun _ => rfl, fun e => l1 (by rwa [gs_off (by decide)] at e), fun _ => rfl, fun _ => rfl, fun e => l4 (by rwa [gs_off (by decide)] at e), fun e => l5 (by rwa [gs_off (by decide)] at e), fun e => l6 (by rwa [gs_off (by decide)] at e), fun e => l7 (by rwa [gs_off (by decide)] at e), fun e => l8 (by rwa [gs_off (by decide)] at e), fun e => l9 (by rwa [gs_off (by decide)] at e), fun e => l10 (by rwa [gs_off (by decide)] at e), fun e => l11 (by rwa [gs_off (by decide)] at e), fun e => l12 (by rwa [gs_off (by decide)] at e), fun e => l13 (by rwa [gs_off (by decide)] at e), fun e => l14 (by rwa [gs_off (by decide)] at e)⟩
    · unfold StepAtIn
      intro L a w1 KK hI hi ha hKK
      unfold IR2 at hI
      obtain ⟨v11, v12, v13, v14, v15, v16, v17, v18, v19, v20, v21, v22, v23, v24, v7, hae, hsz, p0, p1, p2, l0, l1, l2, l3, l4, l5, l6, l7, l8, l9, l10, l11, l12, l13, l14⟩ := hI
      have hlast : L.getD 15 false = false := by
        cases h : L.getD 15 false
        · rfl
        · exact (not_on hi ((p2 h).2.2.2.2.2.1)).elim
      have q3 := ha { on := 3, ground := Ground.data } (by simp) rfl
      have e3 := l3 q3
      subst e3
      obtain ⟨g1, g2, g3, g4⟩ := hgood.out w1 (by cases h : L.getD 14 false; exact .inl (p0 hlast h); exact .inr (p1 hlast h))
      rw [hae]
      clear hae
      simp only [holeR2, List.setIfInBounds_toArray, List.set_cons_zero, List.set_cons_succ]
      go_simp
      exact hKK _ _ ⟨v11, v12, v13, (.pointer (some ⟨kb, ob + n1, none⟩)), (.int .u32 (y1 : Int)), v16, v17, v18, v19, v20, v21, v22, v23, v24, v7, (by simp only [holeR2, Act.put, List.setIfInBounds_toArray, List.set_cons_zero, List.set_cons_succ]), by simpa using hsz, fun e1 e2 => p0 (by rwa [gs_off (by decide)] at e1) (by rwa [gs_off (by decide)] at e2), fun e1 e2 => p1 (by rwa [gs_off (by decide)] at e1) (by rwa [gs_off (by decide)] at e2), fun e => absurd (show L.getD 15 false = true from (by rwa [gs_off (by decide)] at e)) (by rw [hlast]; decide), fun e => l0 (by rwa [gs_off (by decide)] at e), fun e => l1 (by rwa [gs_off (by decide)] at e), fun e => l2 (by rwa [gs_off (by decide)] at e), fun _ => rfl, fun _ => rfl, fun e => l5 (by rwa [gs_off (by decide)] at e), fun e => l6 (by rwa [gs_off (by decide)] at e), fun e => l7 (by rwa [gs_off (by decide)] at e), fun e => l8 (by rwa [gs_off (by decide)] at e), fun e => l9 (by rwa [gs_off (by decide)] at e), fun e => l10 (by rwa [gs_off (by decide)] at e), fun e => l11 (by rwa [gs_off (by decide)] at e), fun e => l12 (by rwa [gs_off (by decide)] at e), fun e => l13 (by rwa [gs_off (by decide)] at e), fun e => l14 (by rwa [gs_off (by decide)] at e)⟩
    · unfold StepAtIn
      intro L a w1 KK hI hi ha hKK
      unfold IR2 at hI
      obtain ⟨v11, v12, v13, v14, v15, v16, v17, v18, v19, v20, v21, v22, v23, v24, v7, hae, hsz, p0, p1, p2, l0, l1, l2, l3, l4, l5, l6, l7, l8, l9, l10, l11, l12, l13, l14⟩ := hI
      have hlast : L.getD 15 false = false := by
        cases h : L.getD 15 false
        · rfl
        · exact (not_on hi ((p2 h).2.2.2.2.2.2.1)).elim
      have q4 := ha { on := 4, ground := Ground.data } (by simp) rfl
      have e4 := l4 q4
      subst e4
      rw [hae]
      clear hae
      simp only [holeR2, List.setIfInBounds_toArray, List.set_cons_zero, List.set_cons_succ]
      go_simp
      exact hKK _ _ ⟨v11, v12, v13, v14, (.int .u32 (y1 : Int)), (.int .u64 (y1 : Int)), v17, v18, v19, v20, v21, v22, v23, v24, v7, (by simp only [holeR2, Act.put, List.setIfInBounds_toArray, List.set_cons_zero, List.set_cons_succ]), by simpa using hsz, fun e1 e2 => p0 (by rwa [gs_off (by decide)] at e1) (by rwa [gs_off (by decide)] at e2), fun e1 e2 => p1 (by rwa [gs_off (by decide)] at e1) (by rwa [gs_off (by decide)] at e2), fun e => absurd (show L.getD 15 false = true from (by rwa [gs_off (by decide)] at e)) (by rw [hlast]; decide), fun e => l0 (by rwa [gs_off (by decide)] at e), fun e => l1 (by rwa [gs_off (by decide)] at e), fun e => l2 (by rwa [gs_off (by decide)] at e), fun e => l3 (by rwa [gs_off (by decide)] at e), fun _ => rfl, fun _ => rfl, fun e => l6 (by rwa [gs_off (by decide)] at e), fun e => l7 (by rwa [gs_off (by decide)] at e), fun e => l8 (by rwa [gs_off (by decide)] at e), fun e => l9 (by rwa [gs_off (by decide)] at e), fun e => l10 (by rwa [gs_off (by decide)] at e), fun e => l11 (by rwa [gs_off (by decide)] at e), fun e => l12 (by rwa [gs_off (by decide)] at e), fun e => l13 (by rwa [gs_off (by decide)] at e), fun e => l14 (by rwa [gs_off (by decide)] at e)⟩
    · unfold StepAtIn
      intro L a w1 KK hI hi ha hKK
      unfold IR2 at hI
      obtain ⟨v11, v12, v13, v14, v15, v16, v17, v18, v19, v20, v21, v22, v23, v24, v7, hae, hsz, p0, p1, p2, l0, l1, l2, l3, l4, l5, l6, l7, l8, l9, l10, l11, l12, l13, l14⟩ := hI
      have hlast : L.getD 15 false = false := by
        cases h : L.getD 15 false
        · rfl
        · exact (not_on hi ((p2 h).2.2.2.2.2.2.2.1)).elim
      have q5 := ha { on := 5, ground := Ground.data } (by simp) rfl
      have e5 := l5 q5
      subst e5
      rw [hae]
      clear hae
      simp only [holeR2, List.setIfInBounds_toArray, List.set_cons_zero, List.set_cons_succ]
      go_simp
      exact hKK _ _ ⟨v11, v12, v13, v14, v15, (.int .u64 (y1 : Int)), (.int .u64 ((y1 : Int) * 1000000000)), v18, v19, v20, v21, v22, v23, v24, v7, (by simp only [holeR2, Act.put, List.setIfInBounds_toArray, List.set_cons_zero, List.set_cons_succ]), by simpa using hsz, fun e1 e2 => p0 (by rwa [gs_off (by decide)] at e1) (by rwa [gs_off (by decide)] at e2), fun e1 e2 => p1 (by rwa [gs_off (by decide)] at e1) (by rwa [gs_off (by decide)] at e2), fun e => absurd (show L.getD 15 false = true from (by rwa [gs_off (by decide)] at e)) (by rw [hlast]; decide), fun e => l0 (by rwa [gs_off (by decide)] at e), fun e => l1 (by rwa [gs_off (by decide)] at e), fun e => l2 (by rwa [gs_off (by decide)] at e), fun e => l3 (by rwa [gs_off (by decide)] at e), fun e => l4 (by rwa [gs_off (by decide)] at e), fun _ => rfl, fun _ => rfl, fun e => l7 (by rwa [gs_off (by decide)] at e), fun e => l8 (by rwa [gs_off (by decide)] at e), fun e => l9 (by rwa [gs_off (by decide)] at e), fun e => l10 (by rwa [gs_off (by decide)] at e), fun e => l11 (by rwa [gs_off (by decide)] at e), fun e => l12 (by rwa [gs_off (by decide)] at e), fun e => l13 (by rwa [gs_off (by decide)] at e), fun e => l14 (by rwa [gs_off (by decide)] at e)⟩
    · unfold StepAtIn
      intro L a w1 KK hI hi ha hKK
      unfold IR2 at hI
      obtain ⟨v11, v12, v13, v14, v15, v16, v17, v18, v19, v20, v21, v22, v23, v24, v7, hae, hsz, p0, p1, p2, l0, l1, l2, l3, l4, l5, l6, l7, l8, l9, l10, l11, l12, l13, l14⟩ := hI
      have hlast : L.getD 15 false = false := by
        cases h : L.getD 15 false
        · rfl
        · exact (not_on hi ((p2 h).2.2.2.2.2.2.2.2.1)).elim
      obtain ⟨g1, g2, g3, g4⟩ := hgood.out w1 (by cases h : L.getD 14 false; exact .inl (p0 hlast h); exact .inr (p1 hlast h))
      rw [hae]
      clear hae
      simp only [holeR2, List.setIfInBounds_toArray, List.set_cons_zero, List.set_cons_succ]
      go_simp
      exact hKK _ _ ⟨v11, v12, v13, v14, v15, v16, v17, (.slice (some ⟨kb, ob, none⟩) n cb), v19, v20, v21, v22, v23, v24, v7, (by simp only [holeR2, Act.put, List.setIfInBounds_toArray, List.set_cons_zero, List.set_cons_succ]), by simpa using hsz, fun e1 e2 => p0 (by rwa [gs_off (by decide)] at e1) (by rwa [gs_off (by decide)] at e2), fun e1 e2 => p1 (by rwa [gs_off (by decide)] at e1) (by rwa [gs_off (by decide)] at e2), fun e => absurd (show L.getD 15 false = true from (by rwa [gs_off (by decide)] at e)) (by rw [hlast]; decide), fun e => l0 (by rwa [gs_off (by decide)] at e), fun e => l1 (by rwa [gs_off (by decide)] at e), fun e => l2 (by rwa [gs_off (by decide)] at e), fun e => l3 (by rwa [gs_off (by decide)] at e), fun e => l4 (by rwa [gs_off (by decide)] at e), fun e => l5 (by rwa [gs_off (by decide)] at e), fun e => l6 (by rwa [gs_off (by decide)] at e), fun _ => rfl, fun e => l8 (by rwa [gs_off (by decide)] at e), fun e => l9 (by rwa [gs_off (by decide)] at e), fun e => l10 (by rwa [gs_off (by decide)] at e), fun e => l11 (by rwa [gs_off (by decide)] at e), fun e => l12 (by rwa [gs_off (by decide)] at e), fun e => l13 (by rwa [gs_off (by decide)] at e), fun e => l14 (by rwa [gs_off (by decide)] at e)⟩
    · unfold StepAtIn
      intro L a w1 KK hI hi ha hKK
      unfold IR2 at hI
      obtain ⟨v11, v12, v13, v14, v15, v16, v17, v18, v19, v20, v21, v22, v23, v24, v7, hae, hsz, p0, p1, p2, l0, l1, l2, l3, l4, l5, l6, l7, l8, l9, l10, l11, l12, l13, l14⟩ := hI
      have hlast : L.getD 15 false = false := by
        cases h : L.getD 15 false
        · rfl
        · exact (not_on hi ((p2 h).2.2.2.2.2.2.2.2.2.1)).elim
      obtain ⟨g1, g2, g3, g4⟩ := hgood.out w1 (by cases h : L.getD 14 false; exact .inl (p0 hlast h); exact .inr (p1 hlast h))
      rw [hae]
      clear hae
      simp only [holeR2, List.setIfInBounds_toArray, List.set_cons_zero, List.set_cons_succ]
      go_simp
      exact hKK _ _ ⟨v11, v12, v13, v14, v15, v16, v17, v18, (.int .i64 (n : Int)), v20, v21, v22, v23, v24, v7, (by simp only [holeR2, Act.put, List.setIfInBounds_toArray, List.set_cons_zero, List.set_cons_succ]), by simpa using hsz, fun e1 e2 => p0 (by rwa [gs_off (by decide)] at e1) (by rwa [gs_off (by decide)] at e2), fun e1 e2 => p1 (by rwa [gs_off (by decide)] at e1) (by rwa [gs_off (by decide)] at e2), fun e => absurd (show L.getD 15 false = true from (by rwa [gs_off (by decide)] at e)) (by rw [hlast]; decide), fun e => l0 (by rwa [gs_off (by decide)] at e), fun e => l1 (by rwa [gs_off (by decide)] at e), fun e => l2 (by rwa [gs_off (by decide)] at e), fun e => l3 (by rwa [gs_off (by decide)] at e), fun e => l4 (by rwa [gs_off (by decide)] at e), fun e => l5 (by rwa [gs_off (by decide)] at e), fun e => l6 (by rwa [gs_off (by decide)] at e), fun e => l7 (by rwa [gs_off (by decide)] at e), fun _ => rfl, fun e => l9 (by rwa [gs_off (by decide)] at e), fun e => l10 (by rwa [gs_off (by decide)] at e), fun e => l11 (by rwa [gs_off (by decide)] at e), fun e => l12 (by rwa [gs_off (by decide)] at e), fun e => l13 (by rwa [gs_off (by decide)] at e), fun e => l14 (by rwa [gs_off (by decide)] at e)⟩
    · unfold StepAtIn
      intro L a w1 KK hI hi ha hKK
      unfold IR2 at hI
      obtain ⟨v11, v12, v13, v14, v15, v16, v17, v18, v19, v20, v21, v22, v23, v24, v7, hae, hsz, p0, p1, p2, l0, l1, l2, l3, l4, l5, l6, l7, l8, l9, l10, l11, l12, l13, l14⟩ := hI
      have hlast : L.getD 15 false = false := by
        cases h : L.getD 15 false
        · rfl
        · exact (not_on hi ((p2 h).2.2.2.2.2.2.2.2.2.2.1)).elim
      have q8 := ha { on := 8, ground := Ground.data } (by simp) rfl
      have e8 := l8 q8
      subst e8
      rw [hae]
      clear hae
      simp only [holeR2, List.setIfInBounds_toArray, List.set_cons_zero, List.set_cons_succ]
      go_simp
      exact hKK _ _ ⟨v11, v12, v13, v14, v15, v16, v17, v18, (.int .i64 (n : Int)), (.int .i64 (n' : Int)), v21, v22, v23, v24, v7, (by simp only [holeR2, Act.put, List.setIfInBounds_toArray, List.set_cons_zero, List.set_cons_succ]), by simpa using hsz, fun e1 e2 => p0 (by rwa [gs_off (by decide)] at e1) (by rwa [gs_off (by decide)] at e2), fun e1 e2 => p1 (by rwa [gs_off (by decide)] at e1) (by rwa [gs_off (by decide)] at e2), fun e => absurd (show L.getD 15 false = true from (by rwa [gs_off (by decide)] at e)) (by rw [hlast]; decide), fun e => l0 (by rwa [gs_off (by decide)] at e), fun e => l1 (by rwa [gs_off (by decide)] at e), fun e => l2 (by rwa [gs_off (by decide)] at e), fun e => l3 (by rwa [gs_off (by decide)] at e), fun e => l4 (by rwa [gs_off (by decide)] at e), fun e => l5 (by rwa [gs_off (by decide)] at e), fun e => l6 (by rwa [gs_off (by decide)] at e), fun e => l7 (by rwa [gs_off (by decide)] at e), fun _ => rfl, fun _ => rfl, fun e => l10 (by rwa [gs_off (by decide)] at e), fun e => l11 (by rwa [gs_off (by decide)] at e), fun e => l12 (by rwa [gs_off (by decide)] at e), fun e => l13 (by rwa [gs_off (by decide)] at e), fun e => l14 (by rwa [gs_off (by decide)] at e)⟩
    · unfold StepAtIn
      intro L a w1 KK hI hi ha hKK
      unfold IR2 at hI
      obtain ⟨v11, v12, v13, v14, v15, v16, v17, v18, v19, v20, v21, v22, v23, v24, v7, hae, hsz, p0, p1, p2, l0, l1, l2, l3, l4, l5, l6, l7, l8, l9, l10, l11, l12, l13, l14⟩ := hI
      have hlast : L.getD 15 false = false := by
        cases h : L.getD 15 false
        · rfl
        · exact (not_on hi ((p2 h).2.2.2.2.2.2.2.2.2.2.2.1)).elim
      have q7 := ha { on := 7, ground := Ground.data } (by simp) rfl
      have e7 := l7 q7
      subst e7
      have q9 := ha { on := 9, ground := Ground.data } (by simp) rfl
      have e9 := l9 q9
      subst e9
      rw [hae]
      clear hae
      simp only [holeR2, List.setIfInBounds_toArray, List.set_cons_zero, List.set_cons_succ]
      go_simp
      replace hKK := Lib.hid hKK
      gi_wp2
      exact hKK.out _ _ ⟨v11, v12, v13, v14, v15, v16, v17, (.slice (some ⟨kb, ob, none⟩) n cb), v19, (.int .i64 (n' : Int)), (.pointer (some ⟨kb, ob + n', none⟩)), v22, v23, v24, v7, (by simp only [holeR2, Act.put, List.setIfInBounds_toArray, List.set_cons_zero, List.set_cons_succ]), by simpa using hsz, fun e1 e2 => p0 (by rwa [gs_off (by decide)] at e1) (by rwa [gs_off (by decide)] at e2), fun e1 e2 => p1 (by rwa [gs_off (by decide)] at e1) (by rwa [gs_off (by decide)] at e2), fun e => absurd (show L.getD 15 false = true from (by rwa [gs_off (by decide)] at e)) (by rw [hlast]; decide), fun e => l0 (by rwa [gs_off (by decide)] at e), fun e => l1 (by rwa [gs_off (by decide)] at e), fun e => l2 (by rwa [gs_off (by decide)] at e), fun e => l3 (by rwa [gs_off (by decide)] at e), fun e => l4 (by rwa [gs_off (by decide)] at e), fun e => l5 (by rwa [gs_off (by decide)] at e), fun e => l6 (by rwa [gs_off (by decide)] at e), fun _ => rfl, fun e => l8 (by rwa [gs_off (by decide)] at e), fun _ => rfl, fun _ => rfl, fun e => l11 (by rwa [gs_off (by decide)] at e), fun e => l12 (by rwa [gs_off (by decide)] at e), fun e => l13 (by rwa [gs_off (by decide)] at e), fun e => l14 (by rwa [gs_off (by decide)] at e)⟩
    · unfold StepAtIn
      intro L a w1 KK hI hi ha hKK
      unfold IR2 at hI
      obtain ⟨v11, v12, v13, v14, v15, v16, v17, v18, v19, v20, v21, v22, v23, v24, v7, hae, hsz, p0, p1, p2, l0, l1, l2, l3, l4, l5, l6, l7, l8, l9, l10, l11, l12, l13, l14⟩ := hI
      have hlast : L.getD 15 false = false := by
        cases h : L.getD 15 false
        · rfl
        · exact (not_on hi ((p2 h).2.2.2.2.2.2.2.2.2.2.2.2.1)).elim
      have q10 := ha { on := 10, ground := Ground.data } (by simp) rfl
      have e10 := l10 q10
      subst e10
      obtain ⟨g1, g2, g3, g4⟩ := hgood.out w1 (by cases h : L.getD 14 false; exact .inl (p0 hlast h); exact .inr (p1 hlast h))
      rw [hae]
      clear hae
      simp only [holeR2, List.setIfInBounds_toArray, List.set_cons_zero, List.set_cons_succ]
      go_simp
      exact hKK _ _ ⟨v11, v12, v13, v14, v15, v16, v17, v18, v19, v20, (.pointer (some ⟨kb, ob + n', none⟩)), (.int .u32 (y0 : Int)), v23, v24, v7, (by simp only [holeR2, Act.put, List.setIfInBounds_toArray, List.set_cons_zero, List.set_cons_succ]), by simpa using hsz, fun e1 e2 => p0 (by rwa [gs_off (by decide)] at e1) (by rwa [gs_off (by decide)] at e2), fun e1 e2 => p1 (by rwa [gs_off (by decide)] at e1) (by rwa [gs_off (by decide)] at e2), fun e => absurd (show L.getD 15 false = true from (by rwa [gs_off (by decide)] at e)) (by rw [hlast]; decide), fun e => l0 (by rwa [gs_off (by decide)] at e), fun e => l1 (by rwa [gs_off (by decide)] at e), fun e => l2 (by rwa [gs_off (by decide)] at e), fun e => l3 (by rwa [gs_off (by decide)] at e), fun e => l4 (by rwa [gs_off (by decide)] at e), fun e => l5 (by rwa [gs_off (by decide)] at e), fun e => l6 (by rwa [gs_off (by decide)] at e), fun e => l7 (by rwa [gs_off (by decide)] at e), fun e => l8 (by rwa [gs_off (by decide)] at e), fun e => l9 (by rwa [gs_off (by decide)] at e), fun _ => rfl, fun _ => rfl, fun e => l12 (by rwa [gs_off (by decide)] at e), fun e => l13 (by rwa [gs_off (by decide)] at e), fun e => l14 (by rwa [gs_off (by decide)] at e)⟩
    · unfold StepAtIn
      intro L a w1 KK hI hi ha hKK
      unfold IR2 at hI
      obtain ⟨v11, v12, v13, v14, v15, v16, v17, v18, v19, v20, v21, v22, v23, v24, v7, hae, hsz, p0, p1, p2, l0, l1, l2, l3, l4, l5, l6, l7, l8, l9, l10, l11, l12, l13, l14⟩ := hI
      have hlast : L.getD 15 false = false := by
        cases h : L.getD 15 false
        · rfl
        · exact (not_on hi ((p2 h).2.2.2.2.2.2.2.2.2.2.2.2.2.1)).elim
      have q11 := ha { on := 11, ground := Ground.data } (by simp) rfl
      have e11 := l11 q11
      subst e11
      rw [hae]
      clear hae
      simp only [holeR2, List.setIfInBounds_toArray, List.set_cons_zero, List.set_cons_succ]
      go_simp
      exact hKK _ _ ⟨v11, v12, v13, v14, v15, v16, v17, v18, v19, v20, v21, (.int .u32 (y0 : Int)), (.int .u64 (y0 : Int)), v24, v7, (by simp only [holeR2, Act.put, List.setIfInBounds_toArray, List.set_cons_zero, List.set_cons_succ]), by simpa using hsz, fun e1 e2 => p0 (by rwa [gs_off (by decide)] at e1) (by rwa [gs_off (by decide)] at e2), fun e1 e2 => p1 (by rwa [gs_off (by decide)] at e1) (by rwa [gs_off (by decide)] at e2), fun e => absurd (show L.getD 15 false = true from (by rwa [gs_off (by decide)] at e)) (by rw [hlast]; decide), fun e => l0 (by rwa [gs_off (by decide)] at e), fun e => l1 (by rwa [gs_off (by decide)] at e), fun e => l2 (by rwa [gs_off (by decide)] at e), fun e => l3 (by rwa [gs_off (by decide)] at e), fun e => l4 (by rwa [gs_off (by decide)] at e), fun e => l5 (by rwa [gs_off (by decide)] at e), fun e => l6 (by rwa [gs_off (by decide)] at e), fun e => l7 (by rwa [gs_off (by decide)] at e), fun e => l8 (by rwa [gs_off (by decide)] at e), fun e => l9 (by rwa [gs_off (by decide)] at e), fun e => l10 (by rwa [gs_off (by decide)] at e), fun _ => rfl, fun _ => rfl, fun e => l13 (by rwa [gs_off (by decide)] at e), fun e => l14 (by rwa [gs_off (by decide)] at e)⟩
    · unfold StepAtIn
      intro L a w1 KK hI hi ha hKK
      unfold IR2 at hI
      obtain ⟨v11, v12, v13, v14, v15, v16, v17, v18, v19, v20, v21, v22, v23, v24, v7, hae, hsz, p0, p1, p2, l0, l1, l2, l3, l4, l5, l6, l7, l8, l9, l10, l11, l12, l13, l14⟩ := hI
      have hlast : L.getD 15 false = false := by
        cases h : L.getD 15 false
        · rfl
        · exact (not_on hi ((p2 h).2.2.2.2.2.2.2.2.2.2.2.2.2.2.1)).elim
      have q6 := ha { on := 6, ground := Ground.data } (by simp) rfl
      have e6 := l6 q6
      subst e6
      have q12 := ha { on := 12, ground := Ground.data } (by simp) rfl
      have e12 := l12 q12
      subst e12
      rw [hae]
      clear hae
      simp only [holeR2, List.setIfInBounds_toArray, List.set_cons_zero, List.set_cons_succ]
      go_simp
      exact hKK _ _ ⟨v11, v12, v13, v14, v15, v16, (.int .u64 ((y1 : Int) * 1000000000)), v18, v19, v20, v21, v22, (.int .u64 (y0 : Int)), (.int .u64 (lead : Int)), v7, (by simp only [holeR2, Act.put, List.setIfInBounds_toArray, List.set_cons_zero, List.set_cons_succ]), by simpa using hsz, fun e1 e2 => p0 (by rwa [gs_off (by decide)] at e1) (by rwa [gs_off (by decide)] at e2), fun e1 e2 => p1 (by rwa [gs_off (by decide)] at e1) (by rwa [gs_off (by decide)] at e2), fun e => absurd (show L.getD 15 false = true from (by rwa [gs_off (by decide)] at e)) (by rw [hlast]; decide), fun e => l0 (by rwa [gs_off (by decide)] at e), fun e => l1 (by rwa [gs_off (by decide)] at e), fun e => l2 (by rwa [gs_off (by decide)] at e), fun e => l3 (by rwa [gs_off (by decide)] at e), fun e => l4 (by rwa [gs_off (by decide)] at e), fun e => l5 (by rwa [gs_off (by decide)] at e), fun _ => rfl, fun e => l7 (by rwa [gs_off (by decide)] at e), fun e => l8 (by rwa [gs_off (by decide)] at e), fun e => l9 (by rwa [gs_off (by decide)] at e), fun e => l10 (by rwa [gs_off (by decide)] at e), fun e => l11 (by rwa [gs_off (by decide)] at e), fun _ => rfl, fun _ => rfl, fun e => l14 (by rwa [gs_off (by decide)] at e)⟩
    · unfold StepAtIn
      intro L a w1 KK hI hi ha hKK
      unfold IR2 at hI
      obtain ⟨v11, v12, v13, v14, v15, v16, v17, v18, v19, v20, v21, v22, v23, v24, v7, hae, hsz, p0, p1, p2, l0, l1, l2, l3, l4, l5, l6, l7, l8, l9, l10, l11, l12, l13, l14⟩ := hI
      have hlast : L.getD 15 false = false := by
        cases h : L.getD 15 false
        · rfl
        · exact (not_on hi ((p2 h).2.2.2.2.2.2.2.2.2.2.2.2.2.2.2)).elim
      have hE : L.getD 14 false = false := by
        cases h : L.getD 14 false
        · rfl
        · exact (not_on hi h).elim
      have hww := p0 hlast hE
      subst hww
      rw [hae]
      clear hae
      simp only [holeR2, List.setIfInBounds_toArray, List.set_cons_zero, List.set_cons_succ]
      go_simp
      exact hKK _ _ ⟨v11, v12, v13, v14, v15, v16, v17, v18, v19, v20, v21, v22, v23, v24, (.pointer (some ⟨w.heap.size + 1 + 1 + 1 + 1, 0, none⟩)), (by simp only [holeR2, Act.put, List.setIfInBounds_toArray, List.set_cons_zero, List.set_cons_succ]), by simpa using hsz, fun _ e => by (exfalso; revert e; simp [Array.getD_eq_getD_getElem?, hsz]), fun _ _ => rfl, fun e => absurd (show L.getD 15 false = true from (by rwa [gs_off (by decide)] at e)) (by rw [hlast]; decide), fun e => l0 (by rwa [gs_off (by decide)] at e), fun e => l1 (by rwa [gs_off (by decide)] at e), fun e => l2 (by rwa [gs_off (by decide)] at e), fun e => l3 (by rwa [gs_off (by decide)] at e), fun e => l4 (by rwa [gs_off (by decide)] at e), fun e => l5 (by rwa [gs_off (by decide)] at e), fun e => l6 (by rwa [gs_off (by decide)] at e), fun e => l7 (by rwa [gs_off (by decide)] at e), fun e => l8 (by rwa [gs_off (by decide)] at e), fun e => l9 (by rwa [gs_off (by decide)] at e), fun e => l10 (by rwa [gs_off (by decide)] at e), fun e => l11 (by rwa [gs_off (by decide)] at e), fun e => l12 (by rwa [gs_off (by decide)] at e), fun e => l13 (by rwa [gs_off (by decide)] at e), fun _ => rfl⟩
    · unfold StepAtIn
      intro L a w1 KK hI hi ha hKK
      unfold IR2 at hI
      obtain ⟨v11, v12, v13, v14, v15, v16, v17, v18, v19, v20, v21, v22, v23, v24, v7, hae, hsz, p0, p1, p2, l0, l1, l2, l3, l4, l5, l6, l7, l8, l9, l10, l11, l12, l13, l14⟩ := hI
      have hlast : L.getD 15 false = false := by
        cases h : L.getD 15 false
        · rfl
        · exact (not_on hi h).elim
      have q14 := ha { on := 14, ground := Ground.data } (by simp) rfl
      have e14 := l14 q14
      subst e14
      have q13 := ha { on := 13, ground := Ground.data } (by simp) rfl
      have e13 := l13 q13
      subst e13
      have hE := ha { on := 14, ground := Ground.phase } (by simp) rfl
      have hww := p1 hlast hE
      subst hww
      rw [hae]
      clear hae
      simp only [holeR2, List.setIfInBounds_toArray, List.set_cons_zero, List.set_cons_succ]
      go_simp
      exact hKK _ _ ⟨v11, v12, v13, v14, v15, v16, v17, v18, v19, v20, v21, v22, v23, (.int .u64 (lead : Int)), (.pointer (some ⟨w.heap.size + 1 + 1 + 1 + 1, 0, none⟩)), (by simp only [holeR2, Act.put, List.setIfInBounds_toArray, List.set_cons_zero, List.set_cons_succ]), by simpa using hsz, fun e _ => by (exfalso; revert e; simp [Array.getD_eq_getD_getElem?, hsz]), fun e _ => by (exfalso; revert e; simp [Array.getD_eq_getD_getElem?, hsz]), fun _ => ⟨rfl, by rw [gs_off (by decide)]; exact ha { on := 0, ground := Ground.phase } (by simp) rfl, by rw [gs_off (by decide)]; exact ha { on := 1, ground := Ground.phase } (by simp) rfl, by rw [gs_off (by decide)]; exact ha { on := 2, ground := Ground.phase } (by simp) rfl, by rw [gs_off (by decide)]; exact ha { on := 3, ground := Ground.phase } (by simp) rfl, by rw [gs_off (by decide)]; exact ha { on := 4, ground := Ground.phase } (by simp) rfl, by rw [gs_off (by decide)]; exact ha { on := 5, ground := Ground.phase } (by simp) rfl, by rw [gs_off (by decide)]; exact ha { on := 6, ground := Ground.phase } (by simp) rfl, by rw [gs_off (by decide)]; exact ha { on := 7, ground := Ground.phase } (by simp) rfl, by rw [gs_off (by decide)]; exact ha { on := 8, ground := Ground.phase } (by simp) rfl, by rw [gs_off (by decide)]; exact ha { on := 9, ground := Ground.phase } (by simp) rfl, by rw [gs_off (by decide)]; exact ha { on := 10, ground := Ground.phase } (by simp) rfl, by rw [gs_off (by decide)]; exact ha { on := 11, ground := Ground.phase } (by simp) rfl, by rw [gs_off (by decide)]; exact ha { on := 12, ground := Ground.phase } (by simp) rfl, by rw [gs_off (by decide)]; exact ha { on := 13, ground := Ground.phase } (by simp) rfl, by rw [gs_off (by decide)]; exact ha { on := 14, ground := Ground.phase } (by simp) rfl⟩, fun e => l0 (by rwa [gs_off (by decide)] at e), fun e => l1 (by rwa [gs_off (by decide)] at e), fun e => l2 (by rwa [gs_off (by decide)] at e), fun e => l3 (by rwa [gs_off (by decide)] at e), fun e => l4 (by rwa [gs_off (by decide)] at e), fun e => l5 (by rwa [gs_off (by decide)] at e), fun e => l6 (by rwa [gs_off (by decide)] at e), fun e => l7 (by rwa [gs_off (by decide)] at e), fun e => l8 (by rwa [gs_off (by decide)] at e), fun e => l9 (by rwa [gs_off (by decide)] at e), fun e => l10 (by rwa [gs_off (by decide)] at e), fun e => l11 (by rwa [gs_off (by decide)] at e), fun e => l12 (by rwa [gs_off (by decide)] at e), fun _ => rfl, fun _ => rfl⟩

  · intro L a w1 hI hall
    unfold IR2 at hI
    obtain ⟨v11, v12, v13, v14, v15, v16, v17, v18, v19, v20, v21, v22, v23, v24, v7, hae, hsz, p0, p1, p2, l0, l1, l2, l3, l4, l5, l6, l7, l8, l9, l10, l11, l12, l13, l14⟩ := hI
    obtain ⟨hww, -⟩ := p2 (hall 15 (by decide))
    have e14 := l14 (hall 14 (by decide))
    subst e14
    rw [hae]
    clear hae p0 p1 p2 l0 l1 l2 l3 l4 l5 l6 l7 l8 l9 l10 l11 l12 l13 hall
    simp only [holeR2, List.setIfInBounds_toArray, List.set_cons_zero, List.set_cons_succ]
    have z3 : w1.cell? ⟨w.heap.size, 0, none⟩ = some (.slice (some ⟨kb, ob, none⟩) n cb) := by rw [hww]; simp [go_sem, k3]
    have z4 : w1.cell? ⟨w.heap.size + 1, 0, none⟩ = some (.slice none 0 0) := by rw [hww]; simp [go_sem, k4]
    have z5 : w1.cell? ⟨w.heap.size + 1 + 1, 0, none⟩ = some (.slice none 0 0) := by rw [hww]; simp [go_sem, k5]
    have z6 : w1.cell? ⟨w.heap.size + 1 + 1 + 1, 0, none⟩ = some (.int .i64 (n : Int)) := by rw [hww]; simp [go_sem, k6]
    have z7 : w1.cell? ⟨w.heap.size + 1 + 1 + 1 + 1, 0, none⟩ = some (.int .u64 (lead : Int)) := by rw [hww]; simp [go_sem, k7]
    have zf4 : w1.frozen? ⟨w.heap.size + 1, 0, none⟩ = false := by rw [hww]; simp [go_sem, kf4]
    have zf5 : w1.frozen? ⟨w.heap.size + 1 + 1, 0, none⟩ = false := by rw [hww]; simp [go_sem, kf5]
    have hsz1 : w1.heap.size = w.heap.size + 1 + 1 + 1 + 1 + 1 := by rw [hww]; simp [hs1]
    have hBz : Below w.heap.size w w1 := by rw [hww]; exact hB1.setCell (by dsimp only; omega) _
    clear hww d3 d4 d5 d6 df4 df5 k3 k4 k5 k6 kf4 kf5 k7 kf7 hWD hWD1 hsD hs1 hBD hB1 hb1 hgood hwn1 hwn2 hwy1 hwy0 hwm1 hwl1 hs4 hBe
    obtain ⟨N1, hN1⟩ : ∃ N1, na + 1 = N1 := ⟨_, rfl⟩
    have hN1I : (na : Int) + 1 = (N1 : Int) := by omega
    have hmk1 := run_make_u32 .i64 .i64 (N1 : Int) N1 rfl (by omega)
    obtain ⟨D, hD⟩ : ∃ D, na - n = D := ⟨_, rfl⟩
    have hDI : (na : Int) - (n : Int) = (D : Int) := by omega
    obtain ⟨Nq, hNq⟩ : ∃ Nq, D + 1 = Nq := ⟨_, rfl⟩
    have hNqI : (D : Int) + 1 = (Nq : Int) := by omega
    have hmk2 := run_make_u32 .i64 .i64 (Nq : Int) Nq rfl (by omega)
    replace hN1 := Lib.hid hN1
    replace hD := Lib.hid hD
    replace hNq := Lib.hid hNq
    have hzl := Lib.hid (zeros_length N1)
    have y3 : ((w1.setCell ⟨w.heap.size + 1 + 1, 0, none⟩ (.slice (some ⟨w.heap.size + 1 + 1 + 1 + 1 + 1, 0, none⟩) N1 N1)).alloc (.cells (cells (zeros N1)).toArray 48)).cell? ⟨w.heap.size, 0, none⟩ = some (.slice (some ⟨kb, ob, none⟩) n cb) := by simp [go_sem, hsz1, z3]
    have y4 : ((w1.setCell ⟨w.heap.size + 1 + 1, 0, none⟩ (.slice (some ⟨w.heap.size + 1 + 1 + 1 + 1 + 1, 0, none⟩) N1 N1)).alloc (.cells (cells (zeros N1)).toArray 48)).cell? ⟨w.heap.size + 1, 0, none⟩ = some (.slice none 0 0) := by simp [go_sem, hsz1, z4]
    have y5 : ((w1.setCell ⟨w.heap.size + 1 + 1, 0, none⟩ (.slice (some ⟨w.heap.size + 1 + 1 + 1 + 1 + 1, 0, none⟩) N1 N1)).alloc (.cells (cells (zeros N1)).toArray 48)).cell? ⟨w.heap.size + 1 + 1, 0, none⟩ = some (.slice (some ⟨w.heap.size + 1 + 1 + 1 + 1 + 1, 0, none⟩) N1 N1) := by simp [go_sem, hsz1, z5]
    have y6 : ((w1.setCell ⟨w.heap.size + 1 + 1, 0, none⟩ (.slice (some ⟨w.heap.size + 1 + 1 + 1 + 1 + 1, 0, none⟩) N1 N1)).alloc (.cells (cells (zeros N1)).toArray 48)).cell? ⟨w.heap.size + 1 + 1 + 1, 0, none⟩ = some (.int .i64 (n : Int)) := by simp [go_sem, hsz1, z6]
    have y7 : ((w1.setCell ⟨w.heap.size + 1 + 1, 0, none⟩ (.slice (some ⟨w.heap.size + 1 + 1 + 1 + 1 + 1, 0, none⟩) N1 N1)).alloc (.cells (cells (zeros N1)).toArray 48)).cell? ⟨w.heap.size + 1 + 1 + 1 + 1, 0, none⟩ = some (.int .u64 (lead : Int)) := by simp [go_sem, hsz1, z7]
    have yf4 : ((w1.setCell ⟨w.heap.size + 1 + 1, 0, none⟩ (.slice (some ⟨w.heap.size + 1 + 1 + 1 + 1 + 1, 0, none⟩) N1 N1)).alloc (.cells (cells (zeros N1)).toArray 48)).frozen? ⟨w.heap.size + 1, 0, none⟩ = false := by simp [go_sem, hsz1, zf4]
    have yf5 : ((w1.setCell ⟨w.heap.size + 1 + 1, 0, none⟩ (.slice (some ⟨w.heap.size + 1 + 1 + 1 + 1 + 1, 0, none⟩) N1 N1)).alloc (.cells (cells (zeros N1)).toArray 48)).frozen? ⟨w.heap.size + 1 + 1, 0, none⟩ = false := by simp [go_sem, hsz1, zf5]
    have hB5 : Bl ((w1.setCell ⟨w.heap.size + 1 + 1, 0, none⟩ (.slice (some ⟨w.heap.size + 1 + 1 + 1 + 1 + 1, 0, none⟩) N1 N1)).alloc (.cells (cells (zeros N1)).toArray 48)) (w.heap.size + 1 + 1 + 1 + 1 + 1) (zeros N1) := by
      have := Bl.new (w1.setCell ⟨w.heap.size + 1 + 1, 0, none⟩ (.slice (some ⟨w.heap.size + 1 + 1 + 1 + 1 + 1, 0, none⟩) N1 N1)) (zeros N1)
      rwa [World.size_setCell, hsz1] at this
    have hBc : Below w.heap.size w ((w1.setCell ⟨w.heap.size + 1 + 1, 0, none⟩ (.slice (some ⟨w.heap.size + 1 + 1 + 1 + 1 + 1, 0, none⟩) N1 N1)).alloc (.cells (cells (zeros N1)).toArray 48)) := (hBz.setCell (p := ⟨w.heap.size + 1 + 1, 0, none⟩) (by dsimp only; omega) _).alloc (by simp; omega) _
    have hsc : ((w1.setCell ⟨w.heap.size + 1 + 1, 0, none⟩ (.slice (some ⟨w.heap.size + 1 + 1 + 1 + 1 + 1, 0, none⟩) N1 N1)).alloc (.cells (cells (zeros N1)).toArray 48)).heap.size = w.heap.size + 1 + 1 + 1 + 1 + 1 + 1 := by simp [hsz1]
    have hsa5 := hsa.below hBc (Nat.le_refl _)
    gi_upto_region 4 with fail
    clear z3 z4 z5 z6 z7 zf4 zf5 hBz
    generalize ((w1.setCell ⟨w.heap.size + 1 + 1, 0, none⟩ (.slice (some ⟨w.heap.size + 1 + 1 + 1 + 1 + 1, 0, none⟩) N1 N1)).alloc (.cells (cells (zeros N1)).toArray 48)) = wc at y3 y4 y5 y6 y7 yf4 yf5 hB5 hBc hsc hsa5 ⊢
    gi_upto_region 5 with (refine wpListIn_copy_bl rfl (.tmp 29) (.tmp 30) rfl Tryd.underlying22 (by kernel_rfl) N1 N1 na ca ⟨kaA, oaA, none⟩ (w.heap.size + 1 + 1 + 1 + 1 + 1) 0 rfl rfl (zeros N1) la hB5 hsa5 (by omega) (by have := hN1.out; omega) (by have := hN1.out; rw [hzl.out]; omega) ?_; intro w2 hB2 ho2 hs2)
    have hlt := hsc
    have u3 := (ho2.cell_far (k := w.heap.size) (by omega) (by omega) 0).trans y3
    have u4 := (ho2.cell_far (k := w.heap.size + 1) (by omega) (by omega) 0).trans y4
    have u5 := (ho2.cell_far (k := w.heap.size + 1 + 1) (by omega) (by omega) 0).trans y5
    have u6 := (ho2.cell_far (k := w.heap.size + 1 + 1 + 1) (by omega) (by omega) 0).trans y6
    have u7 := (ho2.cell_far (k := w.heap.size + 1 + 1 + 1 + 1) (by omega) (by omega) 0).trans y7
    have uf4 := (World.frozen?_of_block (a := ⟨w.heap.size + 1, 0, none⟩) (ho2.block (w.heap.size + 1) (by omega) (fun e => by injection e; omega))).trans yf4
    have uf5 := (World.frozen?_of_block (a := ⟨w.heap.size + 1 + 1, 0, none⟩) (ho2.block (w.heap.size + 1 + 1) (by omega) (fun e => by injection e; omega))).trans yf5
    have hB2w : Below w.heap.size w w2 := hBc.trans (ho2.below (by omega) (by omega))
    rw [hsc] at hs2
    obtain ⟨R0, hR0⟩ : ∃ R0, lay (zeros N1) 0 la = R0 := ⟨_, rfl⟩
    have hR0n : ∀ i, nth R0 i = nth la i := fun i => by
      rw [← hR0, nth_lay (by rw [hzl.out, ← hla.out]; have := hN1.out; omega)]
      split
      · simp
      · rw [nth_zeros, nth_of_le (by omega)]
    have hR0l : R0.length = la.length + 1 := by rw [← hR0, lay_length (by rw [hzl.out, ← hla.out]; have := hN1.out; omega), hzl.out, ← hla.out]; exact hN1.out.symm
    rw [hR0] at hB2
    replace hR0 := Lib.hid hR0
    replace hR0n := Lib.hid hR0n
    replace hR0l := Lib.hid hR0l
    clear y3 y4 y5 y6 y7 yf4 yf5 hB5 hBc hsa5 hlt ho2 hsc
    gi_wp2_with (refine ⟨trivial, ?_⟩; gi_at_call 56; refine (back_in _ _ _ _ _).mono ?_; rintro e w' ⟨rfl, rfl⟩)
    have hzq := Lib.hid (zeros_length Nq)
    have m3 : (((w2.setCell ⟨w.heap.size + 1, 0, none⟩ (.slice (some ⟨w.heap.size + 1 + 1 + 1 + 1 + 1 + 1, 0, none⟩) Nq Nq)).alloc (.cells (cells (zeros Nq)).toArray 48)).alloc (.cells #[(.slice (some ⟨w.heap.size + 1 + 1 + 1 + 1 + 1 + 1, 0, none⟩) Nq Nq)] 22)).cell? ⟨w.heap.size, 0, none⟩ = some (.slice (some ⟨kb, ob, none⟩) n cb) := by simp [go_sem, hs2, u3]
    have m4 : (((w2.setCell ⟨w.heap.size + 1, 0, none⟩ (.slice (some ⟨w.heap.size + 1 + 1 + 1 + 1 + 1 + 1, 0, none⟩) Nq Nq)).alloc (.cells (cells (zeros Nq)).toArray 48)).alloc (.cells #[(.slice (some ⟨w.heap.size + 1 + 1 + 1 + 1 + 1 + 1, 0, none⟩) Nq Nq)] 22)).cell? ⟨w.heap.size + 1, 0, none⟩ = some (.slice (some ⟨w.heap.size + 1 + 1 + 1 + 1 + 1 + 1, 0, none⟩) Nq Nq) := by simp [go_sem, hs2, u4]
    have m5 : (((w2.setCell ⟨w.heap.size + 1, 0, none⟩ (.slice (some ⟨w.heap.size + 1 + 1 + 1 + 1 + 1 + 1, 0, none⟩) Nq Nq)).alloc (.cells (cells (zeros Nq)).toArray 48)).alloc (.cells #[(.slice (some ⟨w.heap.size + 1 + 1 + 1 + 1 + 1 + 1, 0, none⟩) Nq Nq)] 22)).cell? ⟨w.heap.size + 1 + 1, 0, none⟩ = some (.slice (some ⟨w.heap.size + 1 + 1 + 1 + 1 + 1, 0, none⟩) N1 N1) := by simp [go_sem, hs2, u5]
    have m6 : (((w2.setCell ⟨w.heap.size + 1, 0, none⟩ (.slice (some ⟨w.heap.size + 1 + 1 + 1 + 1 + 1 + 1, 0, none⟩) Nq Nq)).alloc (.cells (cells (zeros Nq)).toArray 48)).alloc (.cells #[(.slice (some ⟨w.heap.size + 1 + 1 + 1 + 1 + 1 + 1, 0, none⟩) Nq Nq)] 22)).cell? ⟨w.heap.size + 1 + 1 + 1, 0, none⟩ = some (.int .i64 (n : Int)) := by simp [go_sem, hs2, u6]
    have m7 : (((w2.setCell ⟨w.heap.size + 1, 0, none⟩ (.slice (some ⟨w.heap.size + 1 + 1 + 1 + 1 + 1 + 1, 0, none⟩) Nq Nq)).alloc (.cells (cells (zeros Nq)).toArray 48)).alloc (.cells #[(.slice (some ⟨w.heap.size + 1 + 1 + 1 + 1 + 1 + 1, 0, none⟩) Nq Nq)] 22)).cell? ⟨w.heap.size + 1 + 1 + 1 + 1, 0, none⟩ = some (.int .u64 (lead : Int)) := by simp [go_sem, hs2, u7]
    have mf4 : (((w2.setCell ⟨w.heap.size + 1, 0, none⟩ (.slice (some ⟨w.heap.size + 1 + 1 + 1 + 1 + 1 + 1, 0, none⟩) Nq Nq)).alloc (.cells (cells (zeros Nq)).toArray 48)).alloc (.cells #[(.slice (some ⟨w.heap.size + 1 + 1 + 1 + 1 + 1 + 1, 0, none⟩) Nq Nq)] 22)).frozen? ⟨w.heap.size + 1, 0, none⟩ = false := by simp [go_sem, hs2, uf4]
    have mf5 : (((w2.setCell ⟨w.heap.size + 1, 0, none⟩ (.slice (some ⟨w.heap.size + 1 + 1 + 1 + 1 + 1 + 1, 0, none⟩) Nq Nq)).alloc (.cells (cells (zeros Nq)).toArray 48)).alloc (.cells #[(.slice (some ⟨w.heap.size + 1 + 1 + 1 + 1 + 1 + 1, 0, none⟩) Nq Nq)] 22)).frozen? ⟨w.heap.size + 1 + 1, 0, none⟩ = false := by simp [go_sem, hs2, uf5]
    have bR : Bl (((w2.setCell ⟨w.heap.size + 1, 0, none⟩ (.slice (some ⟨w.heap.size + 1 + 1 + 1 + 1 + 1 + 1, 0, none⟩) Nq Nq)).alloc (.cells (cells (zeros Nq)).toArray 48)).alloc (.cells #[(.slice (some ⟨w.heap.size + 1 + 1 + 1 + 1 + 1 + 1, 0, none⟩) Nq Nq)] 22)) (w.heap.size + 1 + 1 + 1 + 1 + 1) R0 := ((hB2.far (p := ⟨w.heap.size + 1, 0, none⟩) (by dsimp only; omega) _).alloc _).alloc _
    have bQ : Bl (((w2.setCell ⟨w.heap.size + 1, 0, none⟩ (.slice (some ⟨w.heap.size + 1 + 1 + 1 + 1 + 1 + 1, 0, none⟩) Nq Nq)).alloc (.cells (cells (zeros Nq)).toArray 48)).alloc (.cells #[(.slice (some ⟨w.heap.size + 1 + 1 + 1 + 1 + 1 + 1, 0, none⟩) Nq Nq)] 22)) (w.heap.size + 1 + 1 + 1 + 1 + 1 + 1) (zeros Nq) := by
      have := Bl.new (w2.setCell ⟨w.heap.size + 1, 0, none⟩ (.slice (some ⟨w.heap.size + 1 + 1 + 1 + 1 + 1 + 1, 0, none⟩) Nq Nq)) (zeros Nq)
      rw [World.size_setCell, hs2] at this
      exact this.alloc _
    have bN : Boxed (((w2.setCell ⟨w.heap.size + 1, 0, none⟩ (.slice (some ⟨w.heap.size + 1 + 1 + 1 + 1 + 1 + 1, 0, none⟩) Nq Nq)).alloc (.cells (cells (zeros Nq)).toArray 48)).alloc (.cells #[(.slice (some ⟨w.heap.size + 1 + 1 + 1 + 1 + 1 + 1, 0, none⟩) Nq Nq)] 22)) (w.heap.size + 1 + 1 + 1 + 1 + 1 + 1 + 1) 22 (.slice (some ⟨w.heap.size + 1 + 1 + 1 + 1 + 1 + 1, 0, none⟩) Nq Nq) := by
      have := Boxed.new ((w2.setCell ⟨w.heap.size + 1, 0, none⟩ (.slice (some ⟨w.heap.size + 1 + 1 + 1 + 1 + 1 + 1, 0, none⟩) Nq Nq)).alloc (.cells (cells (zeros Nq)).toArray 48)) 22 (.slice (some ⟨w.heap.size + 1 + 1 + 1 + 1 + 1 + 1, 0, none⟩) Nq Nq)
      simp only [World.size_alloc, World.size_setCell, hs2] at this
      exact this
    have hBV : Below w.heap.size w (((w2.setCell ⟨w.heap.size + 1, 0, none⟩ (.slice (some ⟨w.heap.size + 1 + 1 + 1 + 1 + 1 + 1, 0, none⟩) Nq Nq)).alloc (.cells (cells (zeros Nq)).toArray 48)).alloc (.cells #[(.slice (some ⟨w.heap.size + 1 + 1 + 1 + 1 + 1 + 1, 0, none⟩) Nq Nq)] 22)) := ((hB2w.setCell (p := ⟨w.heap.size + 1, 0, none⟩) (by dsimp only; omega) _).alloc (by simp; omega) _).alloc (by simp; omega) _
    have hsV : (((w2.setCell ⟨w.heap.size + 1, 0, none⟩ (.slice (some ⟨w.heap.size + 1 + 1 + 1 + 1 + 1 + 1, 0, none⟩) Nq Nq)).alloc (.cells (cells (zeros Nq)).toArray 48)).alloc (.cells #[(.slice (some ⟨w.heap.size + 1 + 1 + 1 + 1 + 1 + 1, 0, none⟩) Nq Nq)] 22)).heap.size = w.heap.size + 1 + 1 + 1 + 1 + 1 + 1 + 1 + 1 := by simp [hs2]
    clear u3 u4 u5 u6 u7 uf4 uf5 hB2 hB2w hs2
    generalize (((w2.setCell ⟨w.heap.size + 1, 0, none⟩ (.slice (some ⟨w.heap.size + 1 + 1 + 1 + 1 + 1 + 1, 0, none⟩) Nq Nq)).alloc (.cells (cells (zeros Nq)).toArray 48)).alloc (.cells #[(.slice (some ⟨w.heap.size + 1 + 1 + 1 + 1 + 1 + 1, 0, none⟩) Nq Nq)] 22)) = V0 at m3 m4 m5 m6 m7 mf4 mf5 bR bQ bN hBV hsV ⊢
    have hd0 : DlInv la lb R0 (zeros Nq) n Nq := by
      have e : la.length + 1 - n = Nq := by have := hD.out; have := hNq.out; have := hla.out; omega
      rw [← e]
      exact DlInv.start hca.1 hcb.1 hlb.out.symm hcb (by have := hn'.out; omega) (by have := hla.out; omega) hR0l.out hR0n.out (by rw [zeros_length, e]) (fun i => nth_zeros _ _)
    have hRg0 : ∀ i, nth R0 i < 1000000000 := hd0.2.1
    refine wpIn_rangeFunc_ownG rfl (by omega) (gf := 83) (lb := #[.pointer (some ⟨w.heap.size + 1 + 1 + 1 + 1 + 1 + 1 + 1, 0, none⟩)]) rfl trivial (enters_of Tryd.func83 (by kernel_rfl) rfl)
      (back_stops_kv 5 (by omega) (w.heap.size + 1 + 1 + 1 + 1 + 1 + 1 + 1) (fun W W' => Below w.heap.size W W' ∧ (∀ v, Boxed W (w.heap.size + 1 + 1 + 1 + 1 + 1 + 1 + 1) 22 v → Boxed W' (w.heap.size + 1 + 1 + 1 + 1 + 1 + 1 + 1) 22 v) ∧ (∀ l, Bl W (w.heap.size + 1 + 1 + 1 + 1 + 1 + 1) l → l.length = Nq → ∃ l', Bl W' (w.heap.size + 1 + 1 + 1 + 1 + 1 + 1) l' ∧ l'.length = Nq)) (some ⟨w.heap.size + 1 + 1 + 1 + 1 + 1 + 1, 0, none⟩) Nq Nq (by have := hD.out; have := hNq.out; omega) V0 (fun W => ⟨Below.refl _ _, fun _ h => h, fun l h hl => ⟨l, h, hl⟩⟩) (fun h k => ⟨h.1.trans k.1, fun v hv => k.2.1 v (h.2.1 v hv), fun l hl hll => by obtain ⟨l', h1, h2⟩ := h.2.2 l hl hll; exact k.2.2 l' h1 h2⟩)
        (fun W hW wr hk => ⟨(hk.2.1 _ ((hW.block _ (by omega)).trans bN)).cell, by
          obtain ⟨l', h1, h2⟩ := hk.2.2 (zeros Nq) (bQ.below hW (by omega)) hzq.out
          have := h1.sl (off := 0) (n := Nq) (c := Nq) (by omega) (Nat.le_refl _) (by have := hD.out; have := hNq.out; omega)
          exact ⟨_, this⟩⟩))
      (fun h k => ⟨h.1.trans k.1, fun v hv => k.2.1 v (h.2.1 v hv), fun l hl hll => by obtain ⟨l', h1, h2⟩ := h.2.2 l hl hll; exact k.2.2 l' h1 h2⟩)
      (fun W lo o o' hl h hc hw => ⟨belowK_b (w := V0) (by omega) W lo o o' hl h hc hw, fun v hv => hv.kept (grownBy_putObj' W lo o') (by first | (simp at hl ⊢; omega) | (simp; omega)), fun l hbl hll => ⟨l, hbl.keep ((grownBy_putObj' W lo o').block _ hbl.lt (by first | (simp; omega) | (intro e; injection e; omega))), hll⟩⟩)
      (Below.refl _ _) (fun _ => rfl)
      (fun (pre : List (Ix Nq × Nat)) W => ((∃ R Q, Bl W (w.heap.size + 1 + 1 + 1 + 1 + 1) R ∧ Bl W (w.heap.size + 1 + 1 + 1 + 1 + 1 + 1) Q ∧ R.length = la.length + 1 ∧ (∀ i, nth R i < 1000000000) ∧ Q.length = Nq ∧ (pre.map (·.1.1) = down Nq pre.length → DlInv la lb R Q n (Nq - pre.length))) ∧ W.cell? ⟨w.heap.size, 0, none⟩ = some (.slice (some ⟨kb, ob, none⟩) n cb) ∧ W.cell? ⟨w.heap.size + 1, 0, none⟩ = some (.slice (some ⟨w.heap.size + 1 + 1 + 1 + 1 + 1 + 1, 0, none⟩) Nq Nq) ∧ W.cell? ⟨w.heap.size + 1 + 1, 0, none⟩ = some (.slice (some ⟨w.heap.size + 1 + 1 + 1 + 1 + 1, 0, none⟩) N1 N1) ∧ W.cell? ⟨w.heap.size + 1 + 1 + 1, 0, none⟩ = some (.int .i64 (n : Int)) ∧ W.cell? ⟨w.heap.size + 1 + 1 + 1 + 1, 0, none⟩ = some (.int .u64 (lead : Int)) ∧ W.frozen? ⟨w.heap.size + 1, 0, none⟩ = false ∧ W.frozen? ⟨w.heap.size + 1 + 1, 0, none⟩ = false) ∧ Below w.heap.size w W)
      (fun _ _ _ => False)
      (OwnFrom.and (Own.from (fun s A B row hs hg hr => by
        obtain ⟨⟨R, Q, ⟨T, h2⟩, ⟨T2, h3⟩, h4⟩, g3, g4, g5, g6, g7, gf4, gf5⟩ := hs
        exact ⟨⟨R, Q, ⟨T, (grownBy_keeps_cells hg hr h2 rfl).trans h2⟩, ⟨T2, (grownBy_keeps_cells hg hr h3 rfl).trans h3⟩, h4⟩, cell_kept g3 hg hr, cell_kept g4 hg hr, cell_kept g5 hg hr, cell_kept g6 hg hr, cell_kept g7 hg hr, (frozen_kept g4 hg hr).trans gf4, (frozen_kept g5 hg hr).trans gf5⟩) _) (ownFrom_below (Nat.le_refl _) (by omega)))
      (fun _ _ _ _ _ hs _ _ => hs)
      ⟨⟨⟨R0, zeros Nq, bR, bQ, hR0l.out, hRg0, hzq.out, fun _ => hd0⟩, m3, m4, m5, m6, m7, mf4, mf5⟩, hBV⟩
      (fun (x : Ix Nq × Nat) => { tmps := #[.slice (some ⟨kaA, oaA, none⟩) na ca, .slice (some ⟨kb, ob, none⟩) n cb, undef, .pointer (some ⟨w.heap.size, 0, none⟩), .pointer (some ⟨w.heap.size + 1, 0, none⟩), .pointer (some ⟨w.heap.size + 1 + 1, 0, none⟩), .pointer (some ⟨w.heap.size + 1 + 1 + 1, 0, none⟩), .pointer (some ⟨w.heap.size + 1 + 1 + 1 + 1, 0, none⟩), .int .i64 ((x.1.1 : Nat) : Int), .slice (some ⟨kb, ob, none⟩) n cb, .int .i64 (n : Int), v11, v12, v13, v14, v15, v16, v17, v18, v19, v20, v21, v22, v23, v24, .slice (some ⟨kaA, oaA, none⟩) na ca, .int .i64 (na : Int), .int .i64 (N1 : Int), (.slice (some ⟨w.heap.size + 1 + 1 + 1 + 1 + 1, 0, none⟩) N1 N1), (.slice (some ⟨w.heap.size + 1 + 1 + 1 + 1 + 1, 0, none⟩) N1 N1), .slice (some ⟨kaA, oaA, none⟩) na ca, .int .i64 (na : Int), .slice (some ⟨kaA, oaA, none⟩) na ca, .int .i64 (na : Int), .int .i64 (n : Int), .int .i64 (D : Int), .int .i64 (Nq : Int), (.slice (some ⟨w.heap.size + 1 + 1 + 1 + 1 + 1 + 1, 0, none⟩) Nq Nq), (.slice (some ⟨w.heap.size + 1 + 1 + 1 + 1 + 1 + 1, 0, none⟩) Nq Nq), .func (.func 83) #[] #[.pointer (some ⟨w.heap.size + 1 + 1 + 1 + 1 + 1 + 1 + 1, 0, none⟩)], .int .i64 ((x.1.1 : Nat) : Int), .int .u32 ((x.2 : Nat) : Int), undef, undef, undef, undef, undef, undef, undef, undef, undef, undef, undef, undef, undef, undef, undef, undef, undef], defers := [] }) ?assign ?body ?done ?stop
    case assign =>
      intro l' x W K hK
      gi_wp2
      exact hK
    case body =>
      rintro lp pre x W ⟨⟨⟨R, Q, hBR, hBQ, hRl, hRg, hQl, hDl⟩, g3, g4, g5, g6, g7, gf4, gf5⟩, hB⟩ hlen
      obtain ⟨⟨x, hxn⟩, xg⟩ := x
      dsimp only at hlen ⊢
      obtain ⟨mm, hmm⟩ : ∃ mm, n + 1 = mm := ⟨_, rfl⟩
      obtain ⟨xn, hxn1⟩ : ∃ xn, x + n = xn := ⟨_, rfl⟩
      obtain ⟨xm, hxm⟩ : ∃ xm, xn + 1 = xm := ⟨_, rfl⟩
      have hxnI : (x : Int) + (n : Int) = (xn : Int) := by omega
      have hxmI : (xn : Int) + 1 = (xm : Int) := by omega
      have hxN1 : xm ≤ N1 := by have := hD.out; have := hNq.out; have := hN1.out; omega
      have hmmx : xm - x = mm := by omega
      have hmmI : (xm : Int) - (x : Int) = (mm : Int) := by omega
      obtain ⟨cp, hcp⟩ : ∃ cp, N1 - x = cp := ⟨_, rfl⟩
      have hcpI : (N1 : Int) - (x : Int) = (cp : Int) := by omega
      have hcp0 : mm ≤ cp := by omega
      have hxle : x ≤ xm := by omega
      have hN1b : N1 ≤ 1000001 := by have := hN1.out; omega
      have hb0 : 0 < val lb := hcb.ne_zero (by have := hlb.out; have := hn'.out; omega)
      have htop : nth lb (n' + 1) ≠ 0 := by
        have h1 := (can_iff.1 hcb).2
        have h2 := hlb.out
        have h3 := hn'.out
        rcases h1 with h1 | h1
        · rw [h1] at h2; simp at h2; omega
        · rwa [show lb.length - 1 = n' + 1 by omega] at h1
      have hlead2 : nth lb (n' + 1) * 1000000000 + nth lb n' = lead := by
        rw [hn1.out, hy1.out, hy0.out]; exact hlead.out
      obtain ⟨WD, hWD⟩ : ∃ WD, W.drew = WD := ⟨_, rfl⟩
      have hBRD : Bl WD (w.heap.size + 1 + 1 + 1 + 1 + 1) R := by rw [← hWD]; exact hBR
      have hsbD : Sl WD (some ⟨kb, ob, none⟩) n cb lb := by rw [← hWD]; exact (hsb.below hB (Nat.le_refl _)).drew
      have hbV := hsb.old (by have := hn'.out; omega) kb ob rfl
      have hred := reduce_any (w.heap.size + 1 + 1 + 1 + 1 + 1) x n' mm cp R (some ⟨kb, ob, none⟩) n cb lb lead (vs R x (n + 1)) WD hn'.out hmm hBRD (by have := hN1.out; have := hla.out; omega) (by omega) (by omega) (fun i _ => hRg _) hsbD hcb.1 (fun k o e => by injection e with e; injection e with e1 e2; omega) hb0 htop hlead2 rfl (by have := hn'.out; omega)
      obtain ⟨RP, hRP⟩ : ∃ RP : World → List Nat → Nat → Prop, RP = fun w1 L' q => q < 1000000000 ∧ Bl w1 (w.heap.size + 1 + 1 + 1 + 1 + 1) L' ∧ L'.length = R.length ∧ (∀ i, (i < x ∨ x + n + 1 ≤ i) → nth L' i = nth R i) ∧ (∀ i, i < n → nth L' (x + i) < 1000000000) ∧ nth L' (x + n) = 0 ∧ (vs R x (n + 1) < val lb * 1000000000 → q = vs R x (n + 1) / val lb ∧ vs L' x n = vs R x (n + 1) % val lb) ∧ Only WD w1 (w.heap.size + 1 + 1 + 1 + 1 + 1) := ⟨_, rfl⟩
      have hredR : Calls Tryd.prog 108 #[.slice (some ⟨w.heap.size + 1 + 1 + 1 + 1 + 1, x, none⟩) mm cp, .slice (some ⟨kb, ob, none⟩) n cb, .int .u64 (lead : Int)] WD fun e w' => ∃ R' q, e = .returned (.int .u32 ((q : Nat) : Int)) ∧ RP w' R' q := by
        refine hred.mono ?_
        rintro e w' ⟨L', q, he, h⟩
        refine ⟨L', q, he, ?_⟩
        rw [hRP]
        exact h
      have hszW : w.heap.size + 1 + 1 + 1 + 1 + 1 + 1 < W.heap.size := hBQ.lt
      have hD3 : WD.cell? ⟨w.heap.size, 0, none⟩ = some (.slice (some ⟨kb, ob, none⟩) n cb) := by rw [← hWD]; exact g3
      have hD4 : WD.cell? ⟨w.heap.size + 1, 0, none⟩ = some (.slice (some ⟨w.heap.size + 1 + 1 + 1 + 1 + 1 + 1, 0, none⟩) Nq Nq) := by rw [← hWD]; exact g4
      have hD5 : WD.cell? ⟨w.heap.size + 1 + 1, 0, none⟩ = some (.slice (some ⟨w.heap.size + 1 + 1 + 1 + 1 + 1, 0, none⟩) N1 N1) := by rw [← hWD]; exact g5
      have hD6 : WD.cell? ⟨w.heap.size + 1 + 1 + 1, 0, none⟩ = some (.int .i64 (n : Int)) := by rw [← hWD]; exact g6
      have hD7 : WD.cell? ⟨w.heap.size + 1 + 1 + 1 + 1, 0, none⟩ = some (.int .u64 (lead : Int)) := by rw [← hWD]; exact g7
      have hszD : w.heap.size + 1 + 1 + 1 + 1 + 1 + 1 < WD.heap.size := by rw [← hWD]; exact hszW
      have hgood : ∀ W', (W' = WD ∨ ∃ R' q, RP W' R' q) → W'.cell? ⟨w.heap.size, 0, none⟩ = some (.slice (some ⟨kb, ob, none⟩) n cb) ∧ W'.cell? ⟨w.heap.size + 1, 0, none⟩ = some (.slice (some ⟨w.heap.size + 1 + 1 + 1 + 1 + 1 + 1, 0, none⟩) Nq Nq) ∧ W'.cell? ⟨w.heap.size + 1 + 1, 0, none⟩ = some (.slice (some ⟨w.heap.size + 1 + 1 + 1 + 1 + 1, 0, none⟩) N1 N1) ∧ W'.cell? ⟨w.heap.size + 1 + 1 + 1, 0, none⟩ = some (.int .i64 (n : Int)) ∧ W'.cell? ⟨w.heap.size + 1 + 1 + 1 + 1, 0, none⟩ = some (.int .u64 (lead : Int)) := by
        rintro W' (rfl | ⟨R', q, h⟩)
        · exact ⟨hD3, hD4, hD5, hD6, hD7⟩
        · rw [hRP] at h
          have ho := h.2.2.2.2.2.2.2
          exact ⟨(ho.cell_far (by omega) (by omega) 0).trans hD3, (ho.cell_far (by omega) (by omega) 0).trans hD4, (ho.cell_far (by omega) (by omega) 0).trans hD5, (ho.cell_far (by omega) (by omega) 0).trans hD6, (ho.cell_far (by omega) (by omega) 0).trans hD7⟩
      have hstq : ∀ W' R' q, RP W' R' q → W'.cell? ⟨w.heap.size + 1 + 1 + 1 + 1 + 1 + 1, x, none⟩ = some (.int .u32 (nth Q x : Nat)) ∧ W'.frozen? ⟨w.heap.size + 1 + 1 + 1 + 1 + 1 + 1, x, none⟩ = false := by
        intro W' R' q h
        rw [hRP] at h
        have ho := h.2.2.2.2.2.2.2
        have hBQD : Bl WD (w.heap.size + 1 + 1 + 1 + 1 + 1 + 1) Q := by rw [← hWD]; exact hBQ
        have hBQ' := hBQD.only ho (by omega)
        exact ⟨hBQ'.cell (by omega), hBQ'.frozen x⟩
      have hwxn : IntKind.i64.wrap (xn : Int) = (xn : Int) := by rw [IntKind.wrap_i64]; omega
      have hwxm : IntKind.i64.wrap (xm : Int) = (xm : Int) := by rw [IntKind.wrap_i64]; omega
      have hxmI2 : (xm : Int) ≤ (N1 : Int) := by omega
      have hxleI : (x : Int) ≤ (xm : Int) := by omega
      have hNqI2 : (x : Int) < (Nq : Int) := by omega
      have hxN : x < N1 := by omega
      replace hgood := Lib.hid hgood
      replace hstq := Lib.hid hstq
      replace hredR := Lib.hid hredR
      replace hmm := Lib.hid hmm
      replace hxn1 := Lib.hid hxn1
      replace hxm := Lib.hid hxm
      have hN1x : ¬ N1 = x := by omega
      replace hDl := Lib.hid hDl
      replace hRP := Lib.hid hRP
      replace hb0 := Lib.hid hb0
      replace hRg := Lib.hid hRg
      replace hRl := Lib.hid hRl
      replace hQl := Lib.hid hQl
      clear hD3 hD4 hD5 hD6 hD7 hred htop hlead2 hbV hsbD hBRD
      gi_wp2
      refine wpIn_region_inv0 (I0 := IR8 WD RP ⟨w.heap.size + 1 + 1 + 1 + 1 + 1 + 1, x, none⟩ (.slice (some ⟨w.heap.size + 1 + 1 + 1 + 1 + 1 + 1, 0, none⟩) Nq Nq) (.int .i64 (x : Int)) (.slice (some ⟨w.heap.size + 1 + 1 + 1 + 1 + 1, 0, none⟩) N1 N1) (.int .i64 (n : Int)) (.int .i64 (xn : Int)) (.int .i64 (xm : Int)) (.slice (some ⟨w.heap.size + 1 + 1 + 1 + 1 + 1, x, none⟩) mm cp) (.slice (some ⟨kb, ob, none⟩) n cb) (.int .u64 (lead : Int)) (.pointer (some ⟨w.heap.size + 1 + 1 + 1 + 1 + 1 + 1, x, none⟩))) (by kernel_rfl) (by kernel_rfl) ?_ ?_ ?_ ?_
      · intro L a w1 hI
        unfold IR8 at hI
        obtain ⟨v42, v43, v44, v45, v46, v47, v48, v49, v50, v51, v52, v53, v54, hae, hsz, -⟩ := hI
        exact hsz
      · exact ⟨undef, undef, undef, undef, undef, undef, undef, undef, undef, undef, undef, undef, undef, (by simp only [holeR8, Act.put, List.setIfInBounds_toArray, List.set_cons_zero, List.set_cons_succ]), by simp, fun _ _ => hWD.symm ▸ rfl, fun _ h => by simp at h, fun h => by simp at h, fun h => by simp at h, fun h => by simp at h, fun h => by simp at h, fun h => by simp at h, fun h => by simp at h, fun h => by simp at h, fun h => by simp at h, fun h => by simp at h, fun h => by simp at h, fun h => by simp at h, fun h => by simp at h, fun h => by simp at h, fun h => by simp at h⟩
      · refine stepsIn_cons ?_ (stepsIn_cons ?_ (stepsIn_cons ?_ (stepsIn_cons ?_ (stepsIn_cons ?_ (stepsIn_cons ?_ (stepsIn_cons ?_ (stepsIn_cons ?_ (stepsIn_cons ?_ (stepsIn_cons ?_ (stepsIn_cons ?_ (stepsIn_cons ?_ (stepsIn_cons ?_ (stepsIn_cons ?_ (stepsIn_nil))))))))))))))
        · unfold StepAtIn
          intro L a w1 KK hI hi ha hKK
          unfold IR8 at hI
          obtain ⟨v42, v43, v44, v45, v46, v47, v48, v49, v50, v51, v52, v53, v54, hae, hsz, p0, p1, p2, l0, l1, l2, l3, l4, l5, l6, l7, l8, l9, l10, l11, l12⟩ := hI
          have hlast : L.getD 13 false = false := by
            cases h : L.getD 13 false
            · rfl
            · exact (not_on hi ((p2 h).2.1)).elim
          obtain ⟨g3, g4, g5, g6, g7⟩ := hgood.out w1 (by cases h : L.getD 11 false; exact .inl (p0 hlast h); obtain ⟨R1, q1, -, h1⟩ := p1 hlast h; exact .inr ⟨_, _, h1⟩)
          rw [hae]
          clear hae
          simp only [holeR8, List.setIfInBounds_toArray, List.set_cons_zero, List.set_cons_succ]
          go_simp
          exact hKK _ _ ⟨(.slice (some ⟨w.heap.size + 1 + 1 + 1 + 1 + 1 + 1, 0, none⟩) Nq Nq), v43, v44, v45, v46, v47, v48, v49, v50, v51, v52, v53, v54, (by simp only [holeR8, Act.put, List.setIfInBounds_toArray, List.set_cons_zero, List.set_cons_succ]), by simpa using hsz, fun e1 e2 => p0 (by rwa [gs_off (by decide)] at e1) (by rwa [gs_off (by decide)] at e2), fun e1 e2 => p1 (by rwa [gs_off (by decide)] at e1) (by rwa [gs_off (by decide)] at e2), fun e => absurd (show L.getD 13 false = true from (by rwa [gs_off (by decide)] at e)) (by rw [hlast]; decide), fun _ => rfl, fun e => l1 (by rwa [gs_off (by decide)] at e), fun e => l2 (by rwa [gs_off (by decide)] at e), fun e => l3 (by rwa [gs_off (by decide)] at e), fun e => l4 (by rwa [gs_off (by decide)] at e), fun e => l5 (by rwa [gs_off (by decide)] at e), fun e => l6 (by rwa [gs_off (by decide)] at e), fun e => l7 (by rwa [gs_off (by decide)] at e), fun e => l8 (by rwa [gs_off (by decide)] at e), fun e => l9 (by rwa [gs_off (by decide)] at e), fun e => l10 (by rwa [gs_off (by decide)] at e), fun e => l11 (by rwa [gs_off (by decide)] at e), fun e => l12 (by rwa [gs_off (by decide)] at e)⟩
        · unfold StepAtIn
          intro L a w1 KK hI hi ha hKK
          unfold IR8 at hI
          obtain ⟨v42, v43, v44, v45, v46, v47, v48, v49, v50, v51, v52, v53, v54, hae, hsz, p0, p1, p2, l0, l1, l2, l3, l4, l5, l6, l7, l8, l9, l10, l11, l12⟩ := hI
          have hlast : L.getD 13 false = false := by
            cases h : L.getD 13 false
            · rfl
            · exact (not_on hi ((p2 h).2.2.1)).elim
          rw [hae]
          clear hae
          simp only [holeR8, List.setIfInBounds_toArray, List.set_cons_zero, List.set_cons_succ]
          go_simp
          exact hKK _ _ ⟨v42, (.int .i64 (x : Int)), v44, v45, v46, v47, v48, v49, v50, v51, v52, v53, v54, (by simp only [holeR8, Act.put, List.setIfInBounds_toArray, List.set_cons_zero, List.set_cons_succ]), by simpa using hsz, fun e1 e2 => p0 (by rwa [gs_off (by decide)] at e1) (by rwa [gs_off (by decide)] at e2), fun e1 e2 => p1 (by rwa [gs_off (by decide)] at e1) (by rwa [gs_off (by decide)] at e2), fun e => absurd (show L.getD 13 false = true from (by rwa [gs_off (by decide)] at e)) (by rw [hlast]; decide), fun e => l0 (by rwa [gs_off (by decide)] at e), fun _ => rfl, fun e => l2 (by rwa [gs_off (by decide)] at e), fun e => l3 (by rwa [gs_off (by decide)] at e), fun e => l4 (by rwa [gs_off (by decide)] at e), fun e => l5 (by rwa [gs_off (by decide)] at e), fun e => l6 (by rwa [gs_off (by decide)] at e), fun e => l7 (by rwa [gs_off (by decide)] at e), fun e => l8 (by rwa [gs_off (by decide)] at e), fun e => l9 (by rwa [gs_off (by decide)] at e), fun e => l10 (by rwa [gs_off (by decide)] at e), fun e => l11 (by rwa [gs_off (by decide)] at e), fun e => l12 (by rwa [gs_off (by decide)] at e)⟩
        · unfold StepAtIn
          intro L a w1 KK hI hi ha hKK
          unfold IR8 at hI
          obtain ⟨v42, v43, v44, v45, v46, v47, v48, v49, v50, v51, v52, v53, v54, hae, hsz, p0, p1, p2, l0, l1, l2, l3, l4, l5, l6, l7, l8, l9, l10, l11, l12⟩ := hI
          have hlast : L.getD 13 false = false := by
            cases h : L.getD 13 false
            · rfl
            · exact (not_on hi ((p2 h).2.2.2.1)).elim
          obtain ⟨g3, g4, g5, g6, g7⟩ := hgood.out w1 (by cases h : L.getD 11 false; exact .inl (p0 hlast h); obtain ⟨R1, q1, -, h1⟩ := p1 hlast h; exact .inr ⟨_, _, h1⟩)
          rw [hae]
          clear hae
          simp only [holeR8, List.setIfInBounds_toArray, List.set_cons_zero, List.set_cons_succ]
          go_simp
          exact hKK _ _ ⟨v42, v43, (.slice (some ⟨w.heap.size + 1 + 1 + 1 + 1 + 1, 0, none⟩) N1 N1), v45, v46, v47, v48, v49, v50, v51, v52, v53, v54, (by simp only [holeR8, Act.put, List.setIfInBounds_toArray, List.set_cons_zero, List.set_cons_succ]), by simpa using hsz, fun e1 e2 => p0 (by rwa [gs_off (by decide)] at e1) (by rwa [gs_off (by decide)] at e2), fun e1 e2 => p1 (by rwa [gs_off (by decide)] at e1) (by rwa [gs_off (by decide)] at e2), fun e => absurd (show L.getD 13 false = true from (by rwa [gs_off (by decide)] at e)) (by rw [hlast]; decide), fun e => l0 (by rwa [gs_off (by decide)] at e), fun e => l1 (by rwa [gs_off (by decide)] at e), fun _ => rfl, fun e => l3 (by rwa [gs_off (by decide)] at e), fun e => l4 (by rwa [gs_off (by decide)] at e), fun e => l5 (by rwa [gs_off (by decide)] at e), fun e => l6 (by rwa [gs_off (by decide)] at e), fun e => l7 (by rwa [gs_off (by decide)] at e), fun e => l8 (by rwa [gs_off (by decide)] at e), fun e => l9 (by rwa [gs_off (by decide)] at e), fun e => l10 (by rwa [gs_off (by decide)] at e), fun e => l11 (by rwa [gs_off (by decide)] at e), fun e => l12 (by rwa [gs_off (by decide)] at e)⟩
        · unfold StepAtIn
          intro L a w1 KK hI hi ha hKK
          unfold IR8 at hI
          obtain ⟨v42, v43, v44, v45, v46, v47, v48, v49, v50, v51, v52, v53, v54, hae, hsz, p0, p1, p2, l0, l1, l2, l3, l4, l5, l6, l7, l8, l9, l10, l11, l12⟩ := hI
          have hlast : L.getD 13 false = false := by
            cases h : L.getD 13 false
            · rfl
            · exact (not_on hi ((p2 h).2.2.2.2.1)).elim
          rw [hae]
          clear hae
          simp only [holeR8, List.setIfInBounds_toArray, List.set_cons_zero, List.set_cons_succ]
          go_simp
          exact hKK _ _ ⟨v42, v43, v44, (.int .i64 (x : Int)), v46, v47, v48, v49, v50, v51, v52, v53, v54, (by simp only [holeR8, Act.put, List.setIfInBounds_toArray, List.set_cons_zero, List.set_cons_succ]), by simpa using hsz, fun e1 e2 => p0 (by rwa [gs_off (by decide)] at e1) (by rwa [gs_off (by decide)] at e2), fun e1 e2 => p1 (by rwa [gs_off (by decide)] at e1) (by rwa [gs_off (by decide)] at e2), fun e => absurd (show L.getD 13 false = true from (by rwa [gs_off (by decide)] at e)) (by rw [hlast]; decide), fun e => l0 (by rwa [gs_off (by decide)] at e), fun e => l1 (by rwa [gs_off (by decide)] at e), fun e => l2 (by rwa [gs_off (by decide)] at e), fun _ => rfl, fun e => l4 (by rwa [gs_off (by decide)] at e), fun e => l5 (by rwa [gs_off (by decide)] at e), fun e => l6 (by rwa [gs_off (by decide)] at e), fun e => l7 (by rwa [gs_off (by decide)] at e), fun e => l8 (by rwa [gs_off (by decide)] at e), fun e => l9 (by rwa [gs_off (by decide)] at e), fun e => l10 (by rwa [gs_off (by decide)] at e), fun e => l11 (by rwa [gs_off (by decide)] at e), fun e => l12 (by rwa [gs_off (by decide)] at e)⟩
        · unfold StepAtIn
          intro L a w1 KK hI hi ha hKK
          unfold IR8 at hI
          obtain ⟨v42, v43, v44, v45, v46, v47, v48, v49, v50, v51, v52, v53, v54, hae, hsz, p0, p1, p2, l0, l1, l2, l3, l4, l5, l6, l7, l8, l9, l10, l11, l12⟩ := hI
          have hlast : L.getD 13 false = false := by
            cases h : L.getD 13 false
            · rfl
            · exact (not_on hi ((p2 h).2.2.2.2.2.1)).elim
          rw [hae]
          clear hae
          simp only [holeR8, List.setIfInBounds_toArray, List.set_cons_zero, List.set_cons_succ]
          go_simp
          exact hKK _ _ ⟨v42, v43, v44, v45, (.int .i64 (x : Int)), v47, v48, v49, v50, v51, v52, v53, v54, (by simp only [holeR8, Act.put, List.setIfInBounds_toArray, List.set_cons_zero, List.set_cons_succ]), by simpa using hsz, fun e1 e2 => p0 (by rwa [gs_off (by decide)] at e1) (by rwa [gs_off (by decide)] at e2), fun e1 e2 => p1 (by rwa [gs_off (by decide)] at e1) (by rwa [gs_off (by decide)] at e2), fun e => absurd (show L.getD 13 false = true from (by rwa [gs_off (by decide)] at e)) (by rw [hlast]; decide), fun e => l0 (by rwa [gs_off (by decide)] at e), fun e => l1 (by rwa [gs_off (by decide)] at e), fun e => l2 (by rwa [gs_off (by decide)] at e), fun e => l3 (by rwa [gs_off (by decide)] at e), fun _ => rfl, fun e => l5 (by rwa [gs_off (by decide)] at e), fun e => l6 (by rwa [gs_off (by decide)] at e), fun e => l7 (by rwa [gs_off (by decide)] at e), fun e => l8 (by rwa [gs_off (by decide)] at e), fun e => l9 (by rwa [gs_off (by decide)] at e), fun e => l10 (by rwa [gs_off (by decide)] at e), fun e => l11 (by rwa [gs_off (by decide)] at e), fun e => l12 (by rwa [gs_off (by decide)] at e)⟩
        · unfold StepAtIn
          intro L a w1 KK hI hi ha hKK
          unfold IR8 at hI
          obtain ⟨v42, v43, v44, v45, v46, v47, v48, v49, v50, v51, v52, v53, v54, hae, hsz, p0, p1, p2, l0, l1, l2, l3, l4, l5, l6, l7, l8, l9, l10, l11, l12⟩ := hI
          have hlast : L.getD 13 false = false := by
            cases h : L.getD 13 false
            · rfl
            · exact (not_on hi ((p2 h).2.2.2.2.2.2.1)).elim
          obtain ⟨g3, g4, g5, g6, g7⟩ := hgood.out w1 (by cases h : L.getD 11 false; exact .inl (p0 hlast h); obtain ⟨R1, q1, -, h1⟩ := p1 hlast h; exact .inr ⟨_, _, h1⟩)
          rw [hae]
          clear hae
          simp only [holeR8, List.setIfInBounds_toArray, List.set_cons_zero, List.set_cons_succ]
          go_simp
          exact hKK _ _ ⟨v42, v43, v44, v45, v46, (.int .i64 (n : Int)), v48, v49, v50, v51, v52, v53, v54, (by simp only [holeR8, Act.put, List.setIfInBounds_toArray, List.set_cons_zero, List.set_cons_succ]), by simpa using hsz, fun e1 e2 => p0 (by rwa [gs_off (by decide)] at e1) (by rwa [gs_off (by decide)] at e2), fun e1 e2 => p1 (by rwa [gs_off (by decide)] at e1) (by rwa [gs_off (by decide)] at e2), fun e => absurd (show L.getD 13 false = true from (by rwa [gs_off (by decide)] at e)) (by rw [hlast]; decide), fun e => l0 (by rwa [gs_off (by decide)] at e), fun e => l1 (by rwa [gs_off (by decide)] at e), fun e => l2 (by rwa [gs_off (by decide)] at e), fun e => l3 (by rwa [gs_off (by decide)] at e), fun e => l4 (by rwa [gs_off (by decide)] at e), fun _ => rfl, fun e => l6 (by rwa [gs_off (by decide)] at e), fun e => l7 (by rwa [gs_off (by decide)] at e), fun e => l8 (by rwa [gs_off (by decide)] at e), fun e => l9 (by rwa [gs_off (by decide)] at e), fun e => l10 (by rwa [gs_off (by decide)] at e), fun e => l11 (by rwa [gs_off (by decide)] at e), fun e => l12 (by rwa [gs_off (by decide)] at e)⟩
        · unfold StepAtIn
          intro L a w1 KK hI hi ha hKK
          unfold IR8 at hI
          obtain ⟨v42, v43, v44, v45, v46, v47, v48, v49, v50, v51, v52, v53, v54, hae, hsz, p0, p1, p2, l0, l1, l2, l3, l4, l5, l6, l7, l8, l9, l10, l11, l12⟩ := hI
          have hlast : L.getD 13 false = false := by
            cases h : L.getD 13 false
            · rfl
            · exact (not_on hi ((p2 h).2.2.2.2.2.2.2.1)).elim
          have q4 := ha { on := 4, ground := Ground.data } (by simp) rfl
          have e4 := l4 q4
          subst e4
          have q5 := ha { on := 5, ground := Ground.data } (by simp) rfl
          have e5 := l5 q5
          subst e5
          rw [hae]
          clear hae
          simp only [holeR8, List.setIfInBounds_toArray, List.set_cons_zero, List.set_cons_succ]
          go_simp
          exact hKK _ _ ⟨v42, v43, v44, v45, (.int .i64 (x : Int)), (.int .i64 (n : Int)), (.int .i64 (xn : Int)), v49, v50, v51, v52, v53, v54, (by simp only [holeR8, Act.put, List.setIfInBounds_toArray, List.set_cons_zero, List.set_cons_succ]), by simpa using hsz, fun e1 e2 => p0 (by rwa [gs_off (by decide)] at e1) (by rwa [gs_off (by decide)] at e2), fun e1 e2 => p1 (by rwa [gs_off (by decide)] at e1) (by rwa [gs_off (by decide)] at e2), fun e => absurd (show L.getD 13 false = true from (by rwa [gs_off (by decide)] at e)) (by rw [hlast]; decide), fun e => l0 (by rwa [gs_off (by decide)] at e), fun e => l1 (by rwa [gs_off (by decide)] at e), fun e => l2 (by rwa [gs_off (by decide)] at e), fun e => l3 (by rwa [gs_off (by decide)] at e), fun _ => rfl, fun _ => rfl, fun _ => rfl, fun e => l7 (by rwa [gs_off (by decide)] at e), fun e => l8 (by rwa [gs_off (by decide)] at e), fun e => l9 (by rwa [gs_off (by decide)] at e), fun e => l10 (by rwa [gs_off (by decide)] at e), fun e => l11 (by rwa [gs_off (by decide)] at e), fun e => l12 (by rwa [gs_off (by decide)] at e)⟩
        · unfold StepAtIn
          intro L a w1 KK hI hi ha hKK
          unfold IR8 at hI
          obtain ⟨v42, v43, v44, v45, v46, v47, v48, v49, v50, v51, v52, v53, v54, hae, hsz, p0, p1, p2, l0, l1, l2, l3, l4, l5, l6, l7, l8, l9, l10, l11, l12⟩ := hI
          have hlast : L.getD 13 false = false := by
            cases h : L.getD 13 false
            · rfl
            · exact (not_on hi ((p2 h).2.2.2.2.2.2.2.2.1)).elim
          have q6 := ha { on := 6, ground := Ground.data } (by simp) rfl
          have e6 := l6 q6
          subst e6
          rw [hae]
          clear hae
          simp only [holeR8, List.setIfInBounds_toArray, List.set_cons_zero, List.set_cons_succ]
          go_simp
          exact hKK _ _ ⟨v42, v43, v44, v45, v46, v47, (.int .i64 (xn : Int)), (.int .i64 (xm : Int)), v50, v51, v52, v53, v54, (by simp only [holeR8, Act.put, List.setIfInBounds_toArray, List.set_cons_zero, List.set_cons_succ]), by simpa using hsz, fun e1 e2 => p0 (by rwa [gs_off (by decide)] at e1) (by rwa [gs_off (by decide)] at e2), fun e1 e2 => p1 (by rwa [gs_off (by decide)] at e1) (by rwa [gs_off (by decide)] at e2), fun e => absurd (show L.getD 13 false = true from (by rwa [gs_off (by decide)] at e)) (by rw [hlast]; decide), fun e => l0 (by rwa [gs_off (by decide)] at e), fun e => l1 (by rwa [gs_off (by decide)] at e), fun e => l2 (by rwa [gs_off (by decide)] at e), fun e => l3 (by rwa [gs_off (by decide)] at e), fun e => l4 (by rwa [gs_off (by decide)] at e), fun e => l5 (by rwa [gs_off (by decide)] at e), fun _ => rfl, fun _ => rfl, fun e => l8 (by rwa [gs_off (by decide)] at e), fun e => l9 (by rwa [gs_off (by decide)] at e), fun e => l10 (by rwa [gs_off (by decide)] at e), fun e => l11 (by rwa [gs_off (by decide)] at e), fun e => l12 (by rwa [gs_off (by decide)] at e)⟩
        · unfold StepAtIn
          intro L a w1 KK hI hi ha hKK
          unfold IR8 at hI
          obtain ⟨v42, v43, v44, v45, v46, v47, v48, v49, v50, v51, v52, v53, v54, hae, hsz, p0, p1, p2, l0, l1, l2, l3, l4, l5, l6, l7, l8, l9, l10, l11, l12⟩ := hI
          have hlast : L.getD 13 false = false := by
            cases h : L.getD 13 false
            · rfl
            · exact (not_on hi ((p2 h).2.2.2.2.2.2.2.2.2.1)).elim
          have q2 := ha { on := 2, ground := Ground.data } (by simp) rfl
          have e2 := l2 q2
          subst e2
          have q3 := ha { on := 3, ground := Ground.data } (by simp) rfl
          have e3 := l3 q3
          subst e3
          have q7 := ha { on := 7, ground := Ground.data } (by simp) rfl
          have e7 := l7 q7
          subst e7
          rw [hae]
          clear hae
          simp only [holeR8, List.setIfInBounds_toArray, List.set_cons_zero, List.set_cons_succ]
          go_simp
          replace hKK := Lib.hid hKK
          gi_wp2
          exact hKK.out _ _ ⟨v42, v43, (.slice (some ⟨w.heap.size + 1 + 1 + 1 + 1 + 1, 0, none⟩) N1 N1), (.int .i64 (x : Int)), v46, v47, v48, (.int .i64 (xm : Int)), (.slice (some ⟨w.heap.size + 1 + 1 + 1 + 1 + 1, x, none⟩) mm cp), v51, v52, v53, v54, (by simp only [holeR8, Act.put, List.setIfInBounds_toArray, List.set_cons_zero, List.set_cons_succ]), by simpa using hsz, fun e1 e2 => p0 (by rwa [gs_off (by decide)] at e1) (by rwa [gs_off (by decide)] at e2), fun e1 e2 => p1 (by rwa [gs_off (by decide)] at e1) (by rwa [gs_off (by decide)] at e2), fun e => absurd (show L.getD 13 false = true from (by rwa [gs_off (by decide)] at e)) (by rw [hlast]; decide), fun e => l0 (by rwa [gs_off (by decide)] at e), fun e => l1 (by rwa [gs_off (by decide)] at e), fun _ => rfl, fun _ => rfl, fun e => l4 (by rwa [gs_off (by decide)] at e), fun e => l5 (by rwa [gs_off (by decide)] at e), fun e => l6 (by rwa [gs_off (by decide)] at e), fun _ => rfl, fun _ => rfl, fun e => l9 (by rwa [gs_off (by decide)] at e), fun e => l10 (by rwa [gs_off (by decide)] at e), fun e => l11 (by rwa [gs_off (by decide)] at e), fun e => l12 (by rwa [gs_off (by decide)] at e)⟩
        · unfold StepAtIn
          intro L a w1 KK hI hi ha hKK
          unfold IR8 at hI
          obtain ⟨v42, v43, v44, v45, v46, v47, v48, v49, v50, v51, v52, v53, v54, hae, hsz, p0, p1, p2, l0, l1, l2, l3, l4, l5, l6, l7, l8, l9, l10, l11, l12⟩ := hI
          have hlast : L.getD 13 false = false := by
            cases h : L.getD 13 false
            · rfl
            · exact (not_on hi ((p2 h).2.2.2.2.2.2.2.2.2.2.1)).elim
          obtain ⟨g3, g4, g5, g6, g7⟩ := hgood.out w1 (by cases h : L.getD 11 false; exact .inl (p0 hlast h); obtain ⟨R1, q1, -, h1⟩ := p1 hlast h; exact .inr ⟨_, _, h1⟩)
          rw [hae]
          clear hae
          simp only [holeR8, List.setIfInBounds_toArray, List.set_cons_zero, List.set_cons_succ]
          go_simp
          exact hKK _ _ ⟨v42, v43, v44, v45, v46, v47, v48, v49, v50, (.slice (some ⟨kb, ob, none⟩) n cb), v52, v53, v54, (by simp only [holeR8, Act.put, List.setIfInBounds_toArray, List.set_cons_zero, List.set_cons_succ]), by simpa using hsz, fun e1 e2 => p0 (by rwa [gs_off (by decide)] at e1) (by rwa [gs_off (by decide)] at e2), fun e1 e2 => p1 (by rwa [gs_off (by decide)] at e1) (by rwa [gs_off (by decide)] at e2), fun e => absurd (show L.getD 13 false = true from (by rwa [gs_off (by decide)] at e)) (by rw [hlast]; decide), fun e => l0 (by rwa [gs_off (by decide)] at e), fun e => l1 (by rwa [gs_off (by decide)] at e), fun e => l2 (by rwa [gs_off (by decide)] at e), fun e => l3 (by rwa [gs_off (by decide)] at e), fun e => l4 (by rwa [gs_off (by decide)] at e), fun e => l5 (by rwa [gs_off (by decide)] at e), fun e => l6 (by rwa [gs_off (by decide)] at e), fun e => l7 (by rwa [gs_off (by decide)] at e), fun e => l8 (by rwa [gs_off (by decide)] at e), fun _ => rfl, fun e => l10 (by rwa [gs_off (by decide)] at e), fun e => l11 (by rwa [gs_off (by decide)] at e), fun e => l12 (by rwa [gs_off (by decide)] at e)⟩
        · unfold StepAtIn
          intro L a w1 KK hI hi ha hKK
          unfold IR8 at hI
          obtain ⟨v42, v43, v44, v45, v46, v47, v48, v49, v50, v51, v52, v53, v54, hae, hsz, p0, p1, p2, l0, l1, l2, l3, l4, l5, l6, l7, l8, l9, l10, l11, l12⟩ := hI
          have hlast : L.getD 13 false = false := by
            cases h : L.getD 13 false
            · rfl
            · exact (not_on hi ((p2 h).2.2.2.2.2.2.2.2.2.2.2.1)).elim
          obtain ⟨g3, g4, g5, g6, g7⟩ := hgood.out w1 (by cases h : L.getD 11 false; exact .inl (p0 hlast h); obtain ⟨R1, q1, -, h1⟩ := p1 hlast h; exact .inr ⟨_, _, h1⟩)
          rw [hae]
          clear hae
          simp only [holeR8, List.setIfInBounds_toArray, List.set_cons_zero, List.set_cons_succ]
          go_simp
          exact hKK _ _ ⟨v42, v43, v44, v45, v46, v47, v48, v49, v50, v51, (.int .u64 (lead : Int)), v53, v54, (by simp only [holeR8, Act.put, List.setIfInBounds_toArray, List.set_cons_zero, List.set_cons_succ]), by simpa using hsz, fun e1 e2 => p0 (by rwa [gs_off (by decide)] at e1) (by rwa [gs_off (by decide)] at e2), fun e1 e2 => p1 (by rwa [gs_off (by decide)] at e1) (by rwa [gs_off (by decide)] at e2), fun e => absurd (show L.getD 13 false = true from (by rwa [gs_off (by decide)] at e)) (by rw [hlast]; decide), fun e => l0 (by rwa [gs_off (by decide)] at e), fun e => l1 (by rwa [gs_off (by decide)] at e), fun e => l2 (by rwa [gs_off (by decide)] at e), fun e => l3 (by rwa [gs_off (by decide)] at e), fun e => l4 (by rwa [gs_off (by decide)] at e), fun e => l5 (by rwa [gs_off (by decide)] at e), fun e => l6 (by rwa [gs_off (by decide)] at e), fun e => l7 (by rwa [gs_off (by decide)] at e), fun e => l8 (by rwa [gs_off (by decide)] at e), fun e => l9 (by rwa [gs_off (by decide)] at e), fun _ => rfl, fun e => l11 (by rwa [gs_off (by decide)] at e), fun e => l12 (by rwa [gs_off (by decide)] at e)⟩
        · unfold StepAtIn
          intro L a w1 KK hI hi ha hKK
          unfold IR8 at hI
          obtain ⟨v42, v43, v44, v45, v46, v47, v48, v49, v50, v51, v52, v53, v54, hae, hsz, p0, p1, p2, l0, l1, l2, l3, l4, l5, l6, l7, l8, l9, l10, l11, l12⟩ := hI
          have hlast : L.getD 13 false = false := by
            cases h : L.getD 13 false
            · rfl
            · exact (not_on hi ((p2 h).2.2.2.2.2.2.2.2.2.2.2.2.1)).elim
          have q8 := ha { on := 8, ground := Ground.data } (by simp) rfl
          have e8 := l8 q8
          subst e8
          have q9 := ha { on := 9, ground := Ground.data } (by simp) rfl
          have e9 := l9 q9
          subst e9
          have q10 := ha { on := 10, ground := Ground.data } (by simp) rfl
          have e10 := l10 q10
          subst e10
          have hE : L.getD 11 false = false := by
            cases h : L.getD 11 false
            · rfl
            · exact (not_on hi h).elim
          have hww := p0 hlast hE
          subst hww
          rw [hae]
          clear hae
          simp only [holeR8, List.setIfInBounds_toArray, List.set_cons_zero, List.set_cons_succ]
          replace hKK := Lib.hid hKK
          go_simp
          gi_wp2_with (refine ⟨trivial, ?_⟩; gi_at_call 108; refine (CallsIn.inRound lp (callsIn_wide.2 hredR.out)).mono ?_; rintro e w3 ⟨R', q, rfl, hRP3⟩)
          exact hKK.out _ _ ⟨v42, v43, v44, v45, v46, v47, v48, v49, (.slice (some ⟨w.heap.size + 1 + 1 + 1 + 1 + 1, x, none⟩) mm cp), (.slice (some ⟨kb, ob, none⟩) n cb), (.int .u64 (lead : Int)), (.int .u32 (q : Int)), v54, (by simp only [holeR8, Act.put, List.setIfInBounds_toArray, List.set_cons_zero, List.set_cons_succ]), by simpa using hsz, fun _ e => by (exfalso; revert e; simp [Array.getD_eq_getD_getElem?, hsz]), fun _ _ => ⟨R', q, rfl, hRP3⟩, fun e => absurd (show L.getD 13 false = true from (by rwa [gs_off (by decide)] at e)) (by rw [hlast]; decide), fun e => l0 (by rwa [gs_off (by decide)] at e), fun e => l1 (by rwa [gs_off (by decide)] at e), fun e => l2 (by rwa [gs_off (by decide)] at e), fun e => l3 (by rwa [gs_off (by decide)] at e), fun e => l4 (by rwa [gs_off (by decide)] at e), fun e => l5 (by rwa [gs_off (by decide)] at e), fun e => l6 (by rwa [gs_off (by decide)] at e), fun e => l7 (by rwa [gs_off (by decide)] at e), fun _ => rfl, fun _ => rfl, fun _ => rfl, fun _ => trivial, fun e => l12 (by rwa [gs_off (by decide)] at e)⟩
        · unfold StepAtIn
          intro L a w1 KK hI hi ha hKK
          unfold IR8 at hI
          obtain ⟨v42, v43, v44, v45, v46, v47, v48, v49, v50, v51, v52, v53, v54, hae, hsz, p0, p1, p2, l0, l1, l2, l3, l4, l5, l6, l7, l8, l9, l10, l11, l12⟩ := hI
          have hlast : L.getD 13 false = false := by
            cases h : L.getD 13 false
            · rfl
            · exact (not_on hi ((p2 h).2.2.2.2.2.2.2.2.2.2.2.2.2)).elim
          have q0 := ha { on := 0, ground := Ground.data } (by simp) rfl
          have e0 := l0 q0
          subst e0
          have q1 := ha { on := 1, ground := Ground.data } (by simp) rfl
          have e1 := l1 q1
          subst e1
          rw [hae]
          clear hae
          simp only [holeR8, List.setIfInBounds_toArray, List.set_cons_zero, List.set_cons_succ]
          go_simp
          replace hKK := Lib.hid hKK
          gi_wp2
          exact hKK.out _ _ ⟨(.slice (some ⟨w.heap.size + 1 + 1 + 1 + 1 + 1 + 1, 0, none⟩) Nq Nq), (.int .i64 (x : Int)), v44, v45, v46, v47, v48, v49, v50, v51, v52, v53, (.pointer (some ⟨w.heap.size + 1 + 1 + 1 + 1 + 1 + 1, x, none⟩)), (by simp only [holeR8, Act.put, List.setIfInBounds_toArray, List.set_cons_zero, List.set_cons_succ]), by simpa using hsz, fun e1 e2 => p0 (by rwa [gs_off (by decide)] at e1) (by rwa [gs_off (by decide)] at e2), fun e1 e2 => p1 (by rwa [gs_off (by decide)] at e1) (by rwa [gs_off (by decide)] at e2), fun e => absurd (show L.getD 13 false = true from (by rwa [gs_off (by decide)] at e)) (by rw [hlast]; decide), fun _ => rfl, fun _ => rfl, fun e => l2 (by rwa [gs_off (by decide)] at e), fun e => l3 (by rwa [gs_off (by decide)] at e), fun e => l4 (by rwa [gs_off (by decide)] at e), fun e => l5 (by rwa [gs_off (by decide)] at e), fun e => l6 (by rwa [gs_off (by decide)] at e), fun e => l7 (by rwa [gs_off (by decide)] at e), fun e => l8 (by rwa [gs_off (by decide)] at e), fun e => l9 (by rwa [gs_off (by decide)] at e), fun e => l10 (by rwa [gs_off (by decide)] at e), fun e => l11 (by rwa [gs_off (by decide)] at e), fun _ => rfl⟩
        · unfold StepAtIn
          intro L a w1 KK hI hi ha hKK
          unfold IR8 at hI
          obtain ⟨v42, v43, v44, v45, v46, v47, v48, v49, v50, v51, v52, v53, v54, hae, hsz, p0, p1, p2, l0, l1, l2, l3, l4, l5, l6, l7, l8, l9, l10, l11, l12⟩ := hI
          have hlast : L.getD 13 false = false := by
            cases h : L.getD 13 false
            · rfl
            · exact (not_on hi h).elim
          have q12 := ha { on := 12, ground := Ground.data } (by simp) rfl
          have e12 := l12 q12
          subst e12
          have hE := ha { on := 11, ground := Ground.phase } (by simp) rfl
          have hww := p1 hlast hE
          obtain ⟨R', q, e53, hRP⟩ := hww
          subst e53
          obtain ⟨hcx, hfx⟩ := hstq.out _ _ _ hRP
          rw [hae]
          clear hae
          simp only [holeR8, List.setIfInBounds_toArray, List.set_cons_zero, List.set_cons_succ]
          go_simp
          exact hKK _ _ ⟨v42, v43, v44, v45, v46, v47, v48, v49, v50, v51, v52, (.int .u32 ((q : Nat) : Int)), (.pointer (some ⟨w.heap.size + 1 + 1 + 1 + 1 + 1 + 1, x, none⟩)), (by simp only [holeR8, Act.put, List.setIfInBounds_toArray, List.set_cons_zero, List.set_cons_succ]), by simpa using hsz, fun e _ => by (exfalso; revert e; simp [Array.getD_eq_getD_getElem?, hsz]), fun e _ => by (exfalso; revert e; simp [Array.getD_eq_getD_getElem?, hsz]), fun _ => ⟨⟨_, R', q, rfl, hRP, rfl⟩, by rw [gs_off (by decide)]; exact ha { on := 0, ground := Ground.phase } (by simp) rfl, by rw [gs_off (by decide)]; exact ha { on := 1, ground := Ground.phase } (by simp) rfl, by rw [gs_off (by decide)]; exact ha { on := 2, ground := Ground.phase } (by simp) rfl, by rw [gs_off (by decide)]; exact ha { on := 3, ground := Ground.phase } (by simp) rfl, by rw [gs_off (by decide)]; exact ha { on := 4, ground := Ground.phase } (by simp) rfl, by rw [gs_off (by decide)]; exact ha { on := 5, ground := Ground.phase } (by simp) rfl, by rw [gs_off (by decide)]; exact ha { on := 6, ground := Ground.phase } (by simp) rfl, by rw [gs_off (by decide)]; exact ha { on := 7, ground := Ground.phase } (by simp) rfl, by rw [gs_off (by decide)]; exact ha { on := 8, ground := Ground.phase } (by simp) rfl, by rw [gs_off (by decide)]; exact ha { on := 9, ground := Ground.phase } (by simp) rfl, by rw [gs_off (by decide)]; exact ha { on := 10, ground := Ground.phase } (by simp) rfl, by rw [gs_off (by decide)]; exact ha { on := 11, ground := Ground.phase } (by simp) rfl, by rw [gs_off (by decide)]; exact ha { on := 12, ground := Ground.data } (by simp) rfl⟩, fun e => l0 (by rwa [gs_off (by decide)] at e), fun e => l1 (by rwa [gs_off (by decide)] at e), fun e => l2 (by rwa [gs_off (by decide)] at e), fun e => l3 (by rwa [gs_off (by decide)] at e), fun e => l4 (by rwa [gs_off (by decide)] at e), fun e => l5 (by rwa [gs_off (by decide)] at e), fun e => l6 (by rwa [gs_off (by decide)] at e), fun e => l7 (by rwa [gs_off (by decide)] at e), fun e => l8 (by rwa [gs_off (by decide)] at e), fun e => l9 (by rwa [gs_off (by decide)] at e), fun e => l10 (by rwa [gs_off (by decide)] at e), fun _ => trivial, fun _ => rfl⟩

      · intro L a w1 hI hall
        unfold IR8 at hI
        obtain ⟨v42, v43, v44, v45, v46, v47, v48, v49, v50, v51, v52, v53, v54, hae, hsz, p0, p1, p2, l0, l1, l2, l3, l4, l5, l6, l7, l8, l9, l10, l11, l12⟩ := hI
        obtain ⟨hww, -⟩ := p2 (hall 13 (by decide))
        rw [hae]
        clear hae p0 p1 p2 l0 l1 l2 l3 l4 l5 l6 l7 l8 l9 l10 l11 l12 hall
        simp only [holeR8, List.setIfInBounds_toArray, List.set_cons_zero, List.set_cons_succ]
        gi_wp2
        obtain ⟨w2, R', q, -, hRP2, hw1⟩ := hww
        obtain ⟨z3, z4, z5, z6, z7⟩ := hgood.out w2 (.inr ⟨_, _, hRP2⟩)
        rw [hRP.out] at hRP2
        obtain ⟨hq9, hB2', hL', ho', hg', hz', hv', hOnly⟩ := hRP2
        have hWsz : W.heap.size = WD.heap.size := by rw [← hWD]; rfl
        have hWh : ∀ k : Nat, WD.heap[k]? = W.heap[k]? := fun k => by rw [← hWD]; rfl
        have hkf : KeepsFrom V0.heap.size W w1 := by
          rw [hw1]
          refine ⟨?_, fun k o hk hko _ => ?_⟩
          · have := hOnly.size
            rw [World.size_setCell]
            omega
          · have hkl : k < W.heap.size := (Array.getElem?_eq_some_iff.1 hko).1
            exact ((Below.heap_setCell w2 ⟨w.heap.size + 1 + 1 + 1 + 1 + 1 + 1, x, none⟩ _ k (by dsimp only; omega)).trans ((hOnly.block k (by omega) (fun e => by injection e; omega)).trans (hWh k))).trans hko
        have hf4 := (World.frozen?_of_block (a := ⟨w.heap.size + 1, 0, none⟩) (hOnly.block (w.heap.size + 1) (by omega) (fun e => by injection e; omega))).trans (show WD.frozen? ⟨w.heap.size + 1, 0, none⟩ = false by rw [← hWD]; exact gf4)
        have hf5 := (World.frozen?_of_block (a := ⟨w.heap.size + 1 + 1, 0, none⟩) (hOnly.block (w.heap.size + 1 + 1) (by omega) (fun e => by injection e; omega))).trans (show WD.frozen? ⟨w.heap.size + 1 + 1, 0, none⟩ = false by rw [← hWD]; exact gf5)
        have hBW : Below w.heap.size W w2 := (show Below w.heap.size W WD by rw [← hWD]; exact (Below.refl _ W).drew).trans (hOnly.below (by omega) (by omega))
        have hBW1 : Below w.heap.size W w1 := by rw [hw1]; exact hBW.setCell (by dsimp only; omega) _
        have hxl : nth R' (x + n) < 1000000000 := by rw [hz']; omega
        have hRg' : ∀ i, nth R' i < 1000000000 := fun i => by
          by_cases h1 : i < x
          · rw [ho' i (.inl h1)]; exact hRg.out i
          · by_cases h2 : i < x + n
            · have := hg' (i - x) (by omega)
              rwa [show x + (i - x) = i by omega] at this
            · by_cases h3 : i = x + n
              · rw [h3]; exact hxl
              · rw [ho' i (.inr (by omega))]; exact hRg.out i
        have hBQ2 : Bl w2 (w.heap.size + 1 + 1 + 1 + 1 + 1 + 1) Q := (show Bl WD (w.heap.size + 1 + 1 + 1 + 1 + 1 + 1) Q by rw [← hWD]; exact hBQ).only hOnly (by omega)
        refine ⟨hkf, ⟨hBW1, ?_, ?_⟩, ⟨⟨R', Q.set x q, ?_, ?_, hL'.trans hRl.out, hRg', by rw [List.length_set]; exact hQl.out, ?_⟩, ?_, ?_, ?_, ?_, ?_, ?_, ?_⟩, hB.trans hBW1⟩
        · intro v hv
          rw [hw1]
          exact ((show Boxed WD _ _ v by rw [← hWD]; exact hv).kept hOnly (fun e => by injection e; omega)).kept (grownBy_at w2 _ x _) (fun e => by injection e; omega)
        · intro l hl hll
          rw [hw1]
          exact ⟨l.set x q, ((show Bl WD _ l by rw [← hWD]; exact hl).only hOnly (by omega)).set x q, by rw [List.length_set]; exact hll⟩
        · rw [hw1]; exact hB2'.far (by dsimp only; omega) _
        · rw [hw1]; exact hBQ2.set x q
        · intro hmap
          rw [List.map_append, List.length_append, List.length_cons, List.length_nil, Nat.zero_add, down_succ, List.map_cons, List.map_nil] at hmap
          obtain ⟨e1, e2⟩ := List.append_inj' hmap rfl
          have e3 : x = Nq - 1 - pre.length := by injection e2
          have hd1 := hDl.out e1
          rw [show Nq - pre.length = x + 1 by omega] at hd1
          have hpt := hd1.part
          obtain ⟨eq, er⟩ := hv' hpt
          rw [List.length_append, List.length_cons, List.length_nil, Nat.zero_add, show Nq - (pre.length + 1) = x by omega, eq]
          exact hd1.step (by have := hD.out; have := hNq.out; have := hla.out; omega) hb0.out hL' ho' hg' hz' er (by rw [← eq]; exact hq9)
        all_goals (rw [hw1]; simp [go_sem, z3, z4, z5, z6, z7, hf4, hf5])
    case done =>
      rintro DD ys W hDD hys ⟨⟨⟨R, Q, hBR, hBQ, hRl, hRg, hQl, hDl⟩, g3, g4, g5, g6, g7, gf4, gf5⟩, hB⟩ hK
      have hyl : ys.length = Nq := by
        have := congrArg List.length hys
        rwa [List.length_map, down_length] at this
      have hinv := hDl (by rw [hyl]; exact hys)
      rw [hyl, Nat.sub_self] at hinv
      obtain ⟨hvq, hvr⟩ := hinv.done hlb.out.symm (by have := hla.out; omega)
      have hQg : ∀ i, nth Q i < 1000000000 := hinv.2.2.2.2.2.1
      rw [hva, hvb] at hvq hvr
      obtain ⟨WD, hWD⟩ : ∃ WD, W.drew = WD := ⟨_, rfl⟩
      have hQN : Nq ≤ 1000001 := by have := hD.out; have := hNq.out; omega
      have hN1b : N1 ≤ 1000001 := by have := hN1.out; omega
      have hRlen : R.length = N1 := by have := hN1.out; have := hla.out; omega
      have hslQ : Sl WD (some ⟨w.heap.size + 1 + 1 + 1 + 1 + 1 + 1, 0, none⟩) Nq Nq Q := by
        have := hBQ.sl (off := 0) (n := Nq) (c := Nq) (by omega) (Nat.le_refl _) (by omega)
        rw [List.drop_zero, List.take_of_length_le (by omega)] at this
        rw [← hWD]; exact this
      have hBRD : Bl WD (w.heap.size + 1 + 1 + 1 + 1 + 1) R := by rw [← hWD]; exact hBR
      have hBQD : Bl WD (w.heap.size + 1 + 1 + 1 + 1 + 1 + 1) Q := by rw [← hWD]; exact hBQ
      have hslR : ∀ W', Bl W' (w.heap.size + 1 + 1 + 1 + 1 + 1) R → Sl W' (some ⟨w.heap.size + 1 + 1 + 1 + 1 + 1, 0, none⟩) N1 N1 R := fun W' h => by
        have := h.sl (off := 0) (n := N1) (c := N1) (by omega) (Nat.le_refl _) (by omega)
        rwa [List.drop_zero, List.take_of_length_le (by omega)] at this
      have hc4 : WD.cell? ⟨w.heap.size + 1, 0, none⟩ = some (.slice (some ⟨w.heap.size + 1 + 1 + 1 + 1 + 1 + 1, 0, none⟩) Nq Nq) := by rw [← hWD]; exact g4
      have hc5 : WD.cell? ⟨w.heap.size + 1 + 1, 0, none⟩ = some (.slice (some ⟨w.heap.size + 1 + 1 + 1 + 1 + 1, 0, none⟩) N1 N1) := by rw [← hWD]; exact g5
      have hf4 : WD.frozen? ⟨w.heap.size + 1, 0, none⟩ = false := by rw [← hWD]; exact gf4
      have hf5 : WD.frozen? ⟨w.heap.size + 1 + 1, 0, none⟩ = false := by rw [← hWD]; exact gf5
      have hgood : ∀ W', (W' = WD ∨ ∃ v, W' = WD.setCell ⟨w.heap.size + 1, 0, none⟩ v) → W'.cell? ⟨w.heap.size + 1 + 1, 0, none⟩ = some (.slice (some ⟨w.heap.size + 1 + 1 + 1 + 1 + 1, 0, none⟩) N1 N1) ∧ Sl W' (some ⟨w.heap.size + 1 + 1 + 1 + 1 + 1, 0, none⟩) N1 N1 R := by
        rintro W' (rfl | ⟨v, rfl⟩)
        · exact ⟨hc5, hslR _ hBRD⟩
        · exact ⟨by simp [go_sem, hc5], hslR _ (hBRD.far (by dsimp only; omega) _)⟩
      replace hgood := Lib.hid hgood
      replace hslR := Lib.hid hslR
      replace hvq := Lib.hid hvq
      replace hvr := Lib.hid hvr
      replace hys := Lib.hid hys
      replace hDl := Lib.hid hDl
      replace hinv := Lib.hid hinv
      replace hRg := Lib.hid hRg
      replace hQg := Lib.hid hQg
      clear g3 g4 g5 g6 g7 gf4 gf5
      gi_wp2
      refine wpIn_region_inv0 (I0 := IR9 WD ⟨w.heap.size + 1, 0, none⟩ ⟨w.heap.size + 1 + 1, 0, none⟩ (.slice (some ⟨w.heap.size + 1 + 1 + 1 + 1 + 1 + 1, 0, none⟩) Nq Nq) (.slice (some ⟨w.heap.size + 1 + 1 + 1 + 1 + 1, 0, none⟩) N1 N1) (fun v => ∃ k', v = .slice (some ⟨w.heap.size + 1 + 1 + 1 + 1 + 1 + 1, 0, none⟩) k' Nq ∧ k' ≤ Nq ∧ (∀ j, k' ≤ j → j < Nq → nth Q j = 0) ∧ (k' = 0 ∨ nth Q (k' - 1) ≠ 0)) (fun v => ∃ k', v = .slice (some ⟨w.heap.size + 1 + 1 + 1 + 1 + 1, 0, none⟩) k' N1 ∧ k' ≤ N1 ∧ (∀ j, k' ≤ j → j < N1 → nth R j = 0) ∧ (k' = 0 ∨ nth R (k' - 1) ≠ 0))) (by kernel_rfl) (by kernel_rfl) ?_ ?_ ?_ ?_
      · intro L a w1 hI
        unfold IR9 at hI
        obtain ⟨v55, v56, v57, v58, hae, hsz, -⟩ := hI
        exact hsz
      · exact ⟨undef, undef, undef, undef, (by simp only [holeR9, Act.put, List.setIfInBounds_toArray, List.set_cons_zero, List.set_cons_succ]), by simp, fun _ _ => hWD.symm ▸ rfl, fun _ h => by simp at h, fun h => by simp at h, fun h => by simp at h, fun h => by simp at h, fun h => by simp at h, fun h => by simp at h⟩
      · refine stepsIn_cons ?_ (stepsIn_cons ?_ (stepsIn_cons ?_ (stepsIn_cons ?_ (stepsIn_cons ?_ (stepsIn_cons ?_ (stepsIn_nil))))))
        · unfold StepAtIn
          intro L a w1 KK hI hi ha hKK
          unfold IR9 at hI
          obtain ⟨v55, v56, v57, v58, hae, hsz, p0, p1, p2, l0, l1, l2, l3⟩ := hI
          have hlast : L.getD 5 false = false := by
            cases h : L.getD 5 false
            · rfl
            · exact (not_on hi ((p2 h).2.1)).elim
          have hww : w1 = WD := by
            cases h : L.getD 4 false
            · exact p0 hlast h
            · exact (not_on hi (p1 hlast h).2.1).elim
          subst hww
          rw [hae]
          clear hae
          simp only [holeR9, List.setIfInBounds_toArray, List.set_cons_zero, List.set_cons_succ]
          go_simp
          exact hKK _ _ ⟨(.slice (some ⟨w.heap.size + 1 + 1 + 1 + 1 + 1 + 1, 0, none⟩) Nq Nq), v56, v57, v58, (by simp only [holeR9, Act.put, List.setIfInBounds_toArray, List.set_cons_zero, List.set_cons_succ]), by simpa using hsz, fun _ _ => rfl, fun e1 e2 => (not_on hi (p1 (by rwa [gs_off (by decide)] at e1) (by rwa [gs_off (by decide)] at e2)).2.1).elim, fun e => absurd (show L.getD 5 false = true from (by rwa [gs_off (by decide)] at e)) (by rw [hlast]; decide), fun _ => rfl, fun e => l1 (by rwa [gs_off (by decide)] at e), fun e => l2 (by rwa [gs_off (by decide)] at e), fun e => l3 (by rwa [gs_off (by decide)] at e)⟩
        · unfold StepAtIn
          intro L a w1 KK hI hi ha hKK
          unfold IR9 at hI
          obtain ⟨v55, v56, v57, v58, hae, hsz, p0, p1, p2, l0, l1, l2, l3⟩ := hI
          have hlast : L.getD 5 false = false := by
            cases h : L.getD 5 false
            · rfl
            · exact (not_on hi ((p2 h).2.2.1)).elim
          have q0 := ha { on := 0, ground := Ground.data } (by simp) rfl
          have e0 := l0 q0
          subst e0
          have hww : w1 = WD := by
            cases h : L.getD 4 false
            · exact p0 hlast h
            · exact (not_on hi (p1 hlast h).2.2).elim
          subst hww
          rw [hae]
          clear hae
          simp only [holeR9, List.setIfInBounds_toArray, List.set_cons_zero, List.set_cons_succ]
          replace hKK := Lib.hid hKK
          go_simp
          gi_wp2_with (refine ⟨trivial, ?_⟩; gi_at_call 81; refine (callsIn_wide.2 (trimmed_any _ _ _ _ _ hslQ (by omega))).mono ?_; rintro e w3 ⟨k', hk', hz', ht', rfl, rfl⟩)
          exact hKK.out _ _ ⟨(.slice (some ⟨w.heap.size + 1 + 1 + 1 + 1 + 1 + 1, 0, none⟩) Nq Nq), (.slice (some ⟨w.heap.size + 1 + 1 + 1 + 1 + 1 + 1, 0, none⟩) k' Nq), v57, v58, (by simp only [holeR9, Act.put, List.setIfInBounds_toArray, List.set_cons_zero, List.set_cons_succ]), by simpa using hsz, fun _ _ => rfl, fun e1 e2 => (not_on hi (p1 (by rwa [gs_off (by decide)] at e1) (by rwa [gs_off (by decide)] at e2)).2.2).elim, fun e => absurd (show L.getD 5 false = true from (by rwa [gs_off (by decide)] at e)) (by rw [hlast]; decide), fun _ => rfl, fun _ => ⟨k', rfl, hk', hz', ht'⟩, fun e => l2 (by rwa [gs_off (by decide)] at e), fun e => l3 (by rwa [gs_off (by decide)] at e)⟩
        · unfold StepAtIn
          intro L a w1 KK hI hi ha hKK
          unfold IR9 at hI
          obtain ⟨v55, v56, v57, v58, hae, hsz, p0, p1, p2, l0, l1, l2, l3⟩ := hI
          have hlast : L.getD 5 false = false := by
            cases h : L.getD 5 false
            · rfl
            · exact (not_on hi ((p2 h).2.2.2.1)).elim
          obtain ⟨gg1, gg2⟩ := hgood.out w1 (by cases h : L.getD 4 false; exact .inl (p0 hlast h); exact .inr ⟨_, (p1 hlast h).1⟩)
          rw [hae]
          clear hae
          simp only [holeR9, List.setIfInBounds_toArray, List.set_cons_zero, List.set_cons_succ]
          go_simp
          exact hKK _ _ ⟨v55, v56, (.slice (some ⟨w.heap.size + 1 + 1 + 1 + 1 + 1, 0, none⟩) N1 N1), v58, (by simp only [holeR9, Act.put, List.setIfInBounds_toArray, List.set_cons_zero, List.set_cons_succ]), by simpa using hsz, fun e1 e2 => p0 (by rwa [gs_off (by decide)] at e1) (by rwa [gs_off (by decide)] at e2), fun e1 e2 => ⟨(p1 (by rwa [gs_off (by decide)] at e1) (by rwa [gs_off (by decide)] at e2)).1, by rw [gs_off (by decide)]; exact (p1 (by rwa [gs_off (by decide)] at e1) (by rwa [gs_off (by decide)] at e2)).2.1, by rw [gs_off (by decide)]; exact (p1 (by rwa [gs_off (by decide)] at e1) (by rwa [gs_off (by decide)] at e2)).2.2⟩, fun e => absurd (show L.getD 5 false = true from (by rwa [gs_off (by decide)] at e)) (by rw [hlast]; decide), fun e => l0 (by rwa [gs_off (by decide)] at e), fun e => l1 (by rwa [gs_off (by decide)] at e), fun _ => rfl, fun e => l3 (by rwa [gs_off (by decide)] at e)⟩
        · unfold StepAtIn
          intro L a w1 KK hI hi ha hKK
          unfold IR9 at hI
          obtain ⟨v55, v56, v57, v58, hae, hsz, p0, p1, p2, l0, l1, l2, l3⟩ := hI
          have hlast : L.getD 5 false = false := by
            cases h : L.getD 5 false
            · rfl
            · exact (not_on hi ((p2 h).2.2.2.2.1)).elim
          have q2 := ha { on := 2, ground := Ground.data } (by simp) rfl
          have e2 := l2 q2
          subst e2
          obtain ⟨gg1, gg2⟩ := hgood.out w1 (by cases h : L.getD 4 false; exact .inl (p0 hlast h); exact .inr ⟨_, (p1 hlast h).1⟩)
          rw [hae]
          clear hae
          simp only [holeR9, List.setIfInBounds_toArray, List.set_cons_zero, List.set_cons_succ]
          replace hKK := Lib.hid hKK
          go_simp
          gi_wp2_with (refine ⟨trivial, ?_⟩; gi_at_call 81; refine (callsIn_wide.2 (trimmed_any _ _ _ _ _ gg2 (by omega))).mono ?_; rintro e w3 ⟨k', hk', hz', ht', rfl, rfl⟩)
          exact hKK.out _ _ ⟨v55, v56, (.slice (some ⟨w.heap.size + 1 + 1 + 1 + 1 + 1, 0, none⟩) N1 N1), (.slice (some ⟨w.heap.size + 1 + 1 + 1 + 1 + 1, 0, none⟩) k' N1), (by simp only [holeR9, Act.put, List.setIfInBounds_toArray, List.set_cons_zero, List.set_cons_succ]), by simpa using hsz, fun e1 e2 => p0 (by rwa [gs_off (by decide)] at e1) (by rwa [gs_off (by decide)] at e2), fun e1 e2 => ⟨(p1 (by rwa [gs_off (by decide)] at e1) (by rwa [gs_off (by decide)] at e2)).1, by rw [gs_off (by decide)]; exact (p1 (by rwa [gs_off (by decide)] at e1) (by rwa [gs_off (by decide)] at e2)).2.1, by rw [gs_off (by decide)]; exact (p1 (by rwa [gs_off (by decide)] at e1) (by rwa [gs_off (by decide)] at e2)).2.2⟩, fun e => absurd (show L.getD 5 false = true from (by rwa [gs_off (by decide)] at e)) (by rw [hlast]; decide), fun e => l0 (by rwa [gs_off (by decide)] at e), fun e => l1 (by rwa [gs_off (by decide)] at e), fun _ => rfl, fun _ => ⟨k', rfl, hk', hz', ht'⟩⟩
        · unfold StepAtIn
          intro L a w1 KK hI hi ha hKK
          unfold IR9 at hI
          obtain ⟨v55, v56, v57, v58, hae, hsz, p0, p1, p2, l0, l1, l2, l3⟩ := hI
          have hlast : L.getD 5 false = false := by
            cases h : L.getD 5 false
            · rfl
            · exact (not_on hi ((p2 h).2.2.2.2.2)).elim
          have q1 := ha { on := 1, ground := Ground.data } (by simp) rfl
          have e1 := l1 q1
          have hE : L.getD 4 false = false := by
            cases h : L.getD 4 false
            · rfl
            · exact (not_on hi h).elim
          have hww := p0 hlast hE
          subst hww
          obtain ⟨kq, rfl, hkq, hzq, htq⟩ := e1
          rw [hae]
          clear hae
          simp only [holeR9, List.setIfInBounds_toArray, List.set_cons_zero, List.set_cons_succ]
          go_simp
          exact hKK _ _ ⟨v55, (.slice (some ⟨w.heap.size + 1 + 1 + 1 + 1 + 1 + 1, 0, none⟩) kq Nq), v57, v58, (by simp only [holeR9, Act.put, List.setIfInBounds_toArray, List.set_cons_zero, List.set_cons_succ]), by simpa using hsz, fun _ e => by (exfalso; revert e; simp [Array.getD_eq_getD_getElem?, hsz]), fun _ _ => ⟨rfl, by rw [gs_off (by decide)]; exact ha { on := 0, ground := Ground.phase } (by simp) rfl, by rw [gs_off (by decide)]; exact ha { on := 1, ground := Ground.phase } (by simp) rfl⟩, fun e => absurd (show L.getD 5 false = true from (by rwa [gs_off (by decide)] at e)) (by rw [hlast]; decide), fun e => l0 (by rwa [gs_off (by decide)] at e), fun _ => ⟨kq, rfl, hkq, hzq, htq⟩, fun e => l2 (by rwa [gs_off (by decide)] at e), fun e => l3 (by rwa [gs_off (by decide)] at e)⟩
        · unfold StepAtIn
          intro L a w1 KK hI hi ha hKK
          unfold IR9 at hI
          obtain ⟨v55, v56, v57, v58, hae, hsz, p0, p1, p2, l0, l1, l2, l3⟩ := hI
          have hlast : L.getD 5 false = false := by
            cases h : L.getD 5 false
            · rfl
            · exact (not_on hi h).elim
          have q0 := ha { on := 0, ground := Ground.phase } (by simp) rfl
          have e0 := l0 q0
          subst e0
          have q3 := ha { on := 3, ground := Ground.data } (by simp) rfl
          have e3 := l3 q3
          have hE := ha { on := 4, ground := Ground.phase } (by simp) rfl
          have hww := (p1 hlast hE).1
          subst hww
          obtain ⟨kr, rfl, hkr, hzr, htr⟩ := e3
          rw [hae]
          clear hae
          simp only [holeR9, List.setIfInBounds_toArray, List.set_cons_zero, List.set_cons_succ]
          go_simp
          exact hKK _ _ ⟨(.slice (some ⟨w.heap.size + 1 + 1 + 1 + 1 + 1 + 1, 0, none⟩) Nq Nq), v56, v57, (.slice (some ⟨w.heap.size + 1 + 1 + 1 + 1 + 1, 0, none⟩) kr N1), (by simp only [holeR9, Act.put, List.setIfInBounds_toArray, List.set_cons_zero, List.set_cons_succ]), by simpa using hsz, fun e _ => by (exfalso; revert e; simp [Array.getD_eq_getD_getElem?, hsz]), fun e _ => by (exfalso; revert e; simp [Array.getD_eq_getD_getElem?, hsz]), fun _ => ⟨rfl, by rw [gs_off (by decide)]; exact ha { on := 0, ground := Ground.phase } (by simp) rfl, by rw [gs_off (by decide)]; exact ha { on := 1, ground := Ground.phase } (by simp) rfl, by rw [gs_off (by decide)]; exact ha { on := 2, ground := Ground.phase } (by simp) rfl, by rw [gs_off (by decide)]; exact ha { on := 3, ground := Ground.phase } (by simp) rfl, by rw [gs_off (by decide)]; exact ha { on := 4, ground := Ground.phase } (by simp) rfl⟩, fun _ => rfl, fun e => l1 (by rwa [gs_off (by decide)] at e), fun e => l2 (by rwa [gs_off (by decide)] at e), fun _ => ⟨kr, rfl, hkr, hzr, htr⟩⟩

      · intro L a w1 hI hall
        unfold IR9 at hI
        obtain ⟨v55, v56, v57, v58, hae, hsz, p0, p1, p2, l0, l1, l2, l3⟩ := hI
        obtain ⟨hww, -⟩ := p2 (hall 5 (by decide))
        obtain ⟨kq, rfl, hkq, hzq, htq⟩ := l1 (hall 1 (by decide))
        obtain ⟨kr, rfl, hkr, hzr, htr⟩ := l3 (hall 3 (by decide))
        rw [hae]
        clear hae p0 p1 p2 l0 l2 hall
        have hr4 : w1.cell? ⟨w.heap.size + 1, 0, none⟩ = some (.slice (some ⟨w.heap.size + 1 + 1 + 1 + 1 + 1 + 1, 0, none⟩) kq Nq) := by rw [hww]; simp [go_sem, hc4]
        have hr5 : w1.cell? ⟨w.heap.size + 1 + 1, 0, none⟩ = some (.slice (some ⟨w.heap.size + 1 + 1 + 1 + 1 + 1, 0, none⟩) kr N1) := by rw [hww]; simp [go_sem, hc5]
        replace hww := Lib.hid hww
        simp only [holeR9, List.setIfInBounds_toArray, List.set_cons_zero, List.set_cons_succ]
        gi_wp2
        have hK1 : w1.heap[DD]? = some (.deferred (some [])) := by
          rw [hww.out]
          exact ((Below.heap_setCell _ ⟨w.heap.size + 1 + 1, 0, none⟩ _ DD (by dsimp only; omega)).trans (Below.heap_setCell _ ⟨w.heap.size + 1, 0, none⟩ _ DD (by dsimp only; omega))).trans (by rw [← hWD]; exact hK)
        refine ⟨by simp, .inl ⟨_, _, rfl, run_takeDeferred hK1, ?_⟩⟩
        have hBQ1 : Bl w1 (w.heap.size + 1 + 1 + 1 + 1 + 1 + 1) Q := by rw [hww.out]; exact (hBQD.far (by dsimp only; omega) _).far (by dsimp only; omega) _
        have hBR1 : Bl w1 (w.heap.size + 1 + 1 + 1 + 1 + 1) R := by rw [hww.out]; exact (hBRD.far (by dsimp only; omega) _).far (by dsimp only; omega) _
        have hBQ2 := hBQ1.keep ((grownBy_putObj' w1 DD (.deferred none)).block _ hBQ1.lt (fun e => by injection e; omega))
        have hBR2 := hBR1.keep ((grownBy_putObj' w1 DD (.deferred none)).block _ hBR1.lt (fun e => by injection e; omega))
        have hB1 : Below w.heap.size w w1 := by
          rw [hww.out, ← hWD]
          exact ((hB.drew.setCell (by dsimp only; omega) _).setCell (by dsimp only; omega) _)
        have hfq := FM.trim (B := w.heap.size) (off := 0) (n := Nq) (c := Nq) (k := kq) hBQ2 (by omega) (by omega) (Nat.le_refl _) (by omega) (fun j _ => hQg.out _) hkq (by rw [List.drop_zero, List.take_of_length_le (by omega)]; exact hzq) (by rw [List.drop_zero, List.take_of_length_le (by omega)]; exact htq)
        have hfr := FM.trim (B := w.heap.size) (off := 0) (n := N1) (c := N1) (k := kr) hBR2 (by omega) (by omega) (Nat.le_refl _) (by omega) (fun j _ => hRg.out _) hkr (by rw [List.drop_zero, List.take_of_length_le (by omega)]; exact hzr) (by rw [List.drop_zero, List.take_of_length_le (by omega)]; exact htr)
        rw [vs_all Q (by omega), hvq.out] at hfq
        rw [vs_all R (by omega), hvr.out] at hfr
        have hd4 : (w1.putObj DD (.deferred none)).cell? ⟨w.heap.size + 1, 0, none⟩ = some (.slice (some ⟨w.heap.size + 1 + 1 + 1 + 1 + 1 + 1, 0, none⟩) kq Nq) := (World.cell?_of_block (World.putObj_heap_other (by dsimp only; omega))).trans hr4
        have hd5 : (w1.putObj DD (.deferred none)).cell? ⟨w.heap.size + 1 + 1, 0, none⟩ = some (.slice (some ⟨w.heap.size + 1 + 1 + 1 + 1 + 1, 0, none⟩) kr N1) := (World.cell?_of_block (World.putObj_heap_other (by dsimp only; omega))).trans hr5
        have hBD : Below w.heap.size w (w1.putObj DD (.deferred none)) := hB1.trans (belowK_b (w := w) (Nat.le_refl _) w1 DD _ _ (by omega) hK1 rfl rfl)
        have hm : MM w (some ⟨kb, ob, none⟩) n cb d kd := ⟨lb, hsb, hcb, hvb, hnkb⟩
        have hd0 : 0 < d := by rw [← hvb]; exact hcb.ne_zero (by have := hlb.out; have := hn'.out; omega)
        have hdm := Nat.mod_lt m hd0
        refine ⟨.tuple #[.slice (some ⟨w.heap.size + 1 + 1 + 1 + 1 + 1 + 1, 0, none⟩) kq Nq, .slice (some ⟨w.heap.size + 1 + 1 + 1 + 1 + 1, 0, none⟩) kr N1], ?_, some ⟨w.heap.size + 1 + 1 + 1 + 1 + 1 + 1, 0, none⟩, kq, Nq, some ⟨w.heap.size + 1 + 1 + 1 + 1 + 1, 0, none⟩, kr, N1, rfl, hfq.mono (by have := hD.out; have := hNq.out; omega), hfr.tight hm (by omega), hBD⟩
        simp [results, Tryd.f91, go_sem, hd4, hd5]
    case stop =>
      rintro DD cd pre W hDD hk hF hK
      exact hF.elim

end Go.Proofs.YtabibkhcdamlhaaDoor
