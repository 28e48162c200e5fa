/-
  Walk: Decode of package frame.
-/
import Derived.Test.YtfkoboljobghkaaFrRf
import Derived.Test.YtfkoboljobghkaaFrEa
set_option linter.unusedSimpArgs false
set_option linter.unusedVariables false
namespace Go.Proofs.Ytfkoboljobghkaa
open Go.RowKit Go.Shelf

theorem metaR_sizes {N : Nat} : ∀ f b E E' t, b.length ≤ N → (∀ e ∈ E, e.1.size ≤ N ∧ e.2.size ≤ N) → metaR f b E = some (E', t) → ∀ e ∈ E', e.1.size ≤ N ∧ e.2.size ≤ N
  | 0, b, E, E', t, _, _, h => by cases h
  | f + 1, b, E, E', t, hb, hE, h => by
    unfold metaR at h
    split at h
    · cases h
    split at h
    · cases h; exact hE
    split at h
    · cases h
    · refine metaR_sizes f _ _ _ _ (by rw [List.length_drop]; omega) ?_ h
      intro e he
      rcases List.mem_append.1 he with h1 | h1
      · exact hE e h1
      · rw [List.mem_singleton] at h1
        subst h1
        simp only [strOfNums_size, List.length_take, List.length_drop]
        omega
theorem readF_sizes {b : List Int} {f : FR} (h : readF b = some f) : ∀ e ∈ f.E, e.1.size ≤ b.length ∧ e.2.size ≤ b.length := by
  unfold readF at h
  split at h
  · cases h
  · split at h
    · cases h
    · rename_i E t hm
      unfold rest3 at h
      split at h
      · cases h
      split at h
      · cases h
      · cases h
        have := metaR_sizes (N := (b.drop 7).length) _ _ _ _ _ (Nat.le_refl _) (fun e he => by cases he) hm
        intro e he
        have := this e he
        rw [List.length_drop] at this
        omega

theorem ecells_at : ∀ {E : List Ent} {i : Nat}, i < E.length → (ecells E)[i * 2]? = some (.string (keyAt E i)) ∧ (ecells E)[i * 2 + 1]? = some (.string (valAt E i))
  | [], i, h => by simp at h
  | e :: E, 0, h => ⟨rfl, rfl⟩
  | e :: E, i + 1, h => by
    have := ecells_at (E := E) (i := i) (by simpa using h)
    rw [show (i + 1) * 2 = i * 2 + 1 + 1 from by omega]
    exact this

theorem En.of_own {w : World} {B : Nat} {A : Option Addr} {n c : Nat} {E : List Ent} (h : w.ownsRow B 68 2 (.slice A n c) E.length (ecells E)) (hn : n = E.length) (hs : ∀ e ∈ E, e.1.size ≤ 1000000000 ∧ e.2.size ≤ 1000000000) : En w A n c E := by
  subst hn
  have hsz : ∀ i, (keyAt E i).size ≤ 1000000000 ∧ (valAt E i).size ≤ 1000000000 := fun i => by
    unfold keyAt valAt
    by_cases hi : i < E.length
    · simp only [List.getD, List.getElem?_eq_getElem hi, Option.getD_some]
      exact hs _ (List.getElem_mem hi)
    · simp only [List.getD, List.getElem?_eq_none (Nat.not_lt.1 hi), Option.getD_none]
      exact ⟨by decide, by decide⟩
  rcases h.2 with ⟨h2, h0⟩ | ⟨g, cap, cur, h2, hB, hh, hnc, hcm, hcs, htake⟩
  · injection h2 with e1 e2 e3
    subst e1 e3
    exact ⟨rfl, by omega, by omega, fun h => by omega, hsz⟩
  · injection h2 with e1 e2 e3
    subst e1 e3
    refine ⟨rfl, hnc, by simpa [maxLen] using hcm, fun h0 => ⟨g, 0, rfl, fun i hi => ?_⟩, hsz⟩
    obtain ⟨e1, e2⟩ := ecells_at hi
    have hc := World.ownsRow.cells h (g := g) rfl
    have a1 := hc _ _ e1
    have a2 := hc _ _ e2
    rw [Addr.add_lit] at a1 a2
    rw [Nat.zero_add]
    exact ⟨by simpa using a1, by simpa using a2⟩

theorem Ob.bytes {w : World} {B r c : Nat} {l : List Int} (h : Ob w B r c l) : Lib.BytesIn w (some ⟨r, 0, none⟩) l.length l := fun hn => ⟨r, 0, rfl, fun i hi => by rw [Nat.zero_add]; exact h.cell hi⟩

/-- What Decode returns where it refuses. -/
def NoF (r : Int) (w : World) (e : Ending) (w' : World) : Prop := e = .returned (.tuple #[.agg #[.slice none 0 0, .int .i64 0, .int .i64 0, .int .i64 0, .slice none 0 0], .int .i64 r]) ∧ Below w.heap.size w w'

set_option maxRecDepth 100000 in
set_option maxHeartbeats 6400000 in
theorem Decode_yes (A : Option Addr) (n c : Nat) (l : List Int) (w : World) (h : Tl w w (.slice A n c) l) (hb : Byt l) (hn : n ≤ 1048576) (f : FR) (W H : Nat) (hf : readF l = some f) (hW : f.W = W) (hH : f.H = H) (hg : Good W H f.M f.P f.E) (heq : (Lib.bytesOf (fileB f.E W H f.M f.P) == Lib.bytesOf l) = true) :
    Calls Try.prog 34 #[.slice A n c] w fun e w' => ∃ A2 n2 c2 g k, e = .returned (.tuple #[.agg #[.slice A2 n2 c2, .int .i64 (W : Int), .int .i64 (H : Int), .int .i64 f.M, .slice (some ⟨g, 0, none⟩) k k], .int .i64 0]) ∧ Sl w' (some ⟨g, 0, none⟩) k k f.P ∧ En w' A2 n2 c2 f.E ∧ Below w.heap.size w w' := by
  obtain ⟨E, fW, fH, M, P⟩ := f
  simp only at hW hH hg heq ⊢
  subst hW hH
  have hb0 := (Below.refl w.heap.size w).alloc (Nat.le_refl _) (.cells #[.slice none 0 0, .int .i64 0, .int .i64 0, .int .i64 0, .slice none 0 0] 27)
  have hT := h.grow hb0
  have hTw : Tl (w.alloc (.cells #[.slice none 0 0, .int .i64 0, .int .i64 0, .int .i64 0, .slice none 0 0] 27)) (w.alloc (.cells #[.slice none 0 0, .int .i64 0, .int .i64 0, .int .i64 0, .slice none 0 0] 27)) (.slice A n c) l := by
    obtain ⟨A9, n9, c9, e9, h91, h92, h93⟩ := hT
    exact ⟨A9, n9, c9, e9, h91, h92, fun h0 b off e => by have := h93 h0 b off e; simp; omega⟩
  have hrd := read_any A n c l _ hTw hb (by omega)
  rw [hf] at hrd
  have hszs := Lib.hid (readF_sizes hf)
  have hsl : Sb w A n c l := by
    obtain ⟨A9, n9, c9, e9, h91, h92, h93⟩ := h
    cases e9; exact h91
  have hcap := hsl.le_cap
  have hcl := hsl.cap_le
  have hlen := Lib.hid hsl.len
  have hfb0 := heap_alloc_new w (.cells #[.slice none 0 0, .int .i64 0, .int .i64 0, .int .i64 0, .slice none 0 0] 27)
  replace hrd := Lib.hid hrd
  replace hg := Lib.hid hg
  replace heq := Lib.hid heq
  replace hf := Lib.hid hf
  go_enter Try.func34, Try.ntmps34
  have hPl : Hid (P.length ≤ 4096) := Lib.hid (hg.out.1.pos).2
  go_wp2_with (first | (go_at_call 65; refine hrd.out.mono ?_; rintro e w2 ⟨⟨A2, n2, c2, g, k, rfl, hk, hgl, hbl, hown, hn2⟩, hb2⟩; have hsz2 := hb2.size; dsimp only at hk hbl hown hn2; simp only [World.size_alloc] at hsz2 hb2 hgl hown; have hfb2 := (hb2.block w.heap.size (by omega)).trans hfb0; have hsl2 := hbl.sl0 (n := k) (c := k) hk (Nat.le_refl _) (by have := hPl.out; omega); have hen2 := En.of_own hown hn2 (fun e he => by have := hszs.out e he; have := hlen.out; omega); replace hn2 := Lib.hid hn2; replace hk2 := Lib.hid hk; clear hk; have hol := World.ownsRow.lt hown) | (go_at_call 31; refine (Encode_yes A2 n2 c2 E W H M (some ⟨g, 0, none⟩) k k P _ (hen2.alloc _) (hsl2.alloc _) hg.out).mono ?_; rintro e w4 ⟨r4, c4, rfl, hob4, hb4⟩; have hsz4 := hb4.size; simp only [World.size_alloc] at hsz4 hb4; have hB2 := hb0.trans (hb2.mono (by omega)); have hB4 := (hB2.alloc (by omega) (.cells #[.slice A2 n2 c2, .int .i64 (W : Int), .int .i64 (H : Int), .int .i64 M, .slice (some ⟨g, 0, none⟩) k k] 27)).trans (hb4.mono (by omega)); have hsl4 := hsl.below hB4 (Nat.le_refl _); have hfb4 := (hb4.block w.heap.size (by omega)).trans ((Below.heap_alloc w2 _ w.heap.size (by omega)).trans hfb2); have hfx4 := (hb4.block w2.heap.size (by omega)).trans (heap_alloc_new w2 _); obtain ⟨z0, z1, z2, z3, z4⟩ := cell5 hfb4; obtain ⟨y0, y1, y2, y3, y4⟩ := box5f hfb4; obtain ⟨u0, u1, u2, u3, u4⟩ := cell5 hfx4) | (go_at_call 32; refine (Try.bytes_Equal_all _ _ _ _ _ _ (fileB E W H M P) l w4 rfl hlen.out.symm hob4.bytes hsl4.bytes).mono ?_; rintro e w5 ⟨he, rfl⟩; rw [heq.out] at he; subst he))
  have hq := put5 hfb4 (.slice A2 n2 c2) (.int .i64 (W : Int)) (.int .i64 (H : Int)) (.int .i64 M) (.slice (some ⟨g, 0, none⟩) k k)
  clear z0 z1 z2 z3 z4 y0 y1 y2 y3 y4
  obtain ⟨z0, z1, z2, z3, z4⟩ := cell5 hq
  refine bodyPost_ret (v := .tuple #[.agg #[.slice A2 n2 c2, .int .i64 (W : Int), .int .i64 (H : Int), .int .i64 M, .slice (some ⟨g, 0, none⟩) k k], .int .i64 0]) (by simp [results, Try.results34, go_sem, z0, z1, z2, z3, z4]) rfl ?_
  have hS : Only w5 (((((w5.setCell ⟨w.heap.size, 0, none⟩ (.slice A2 n2 c2)).setCell ⟨w.heap.size, 1, none⟩ (.int .i64 (W : Int))).setCell ⟨w.heap.size, 2, none⟩ (.int .i64 (H : Int))).setCell ⟨w.heap.size, 3, none⟩ (.int .i64 M)).setCell ⟨w.heap.size, 4, none⟩ (.slice (some ⟨g, 0, none⟩) k k)) w.heap.size :=
    (((((Only.refl w5 w.heap.size).setCell rfl _).setCell rfl _).setCell rfl _).setCell rfl _).setCell rfl _
  refine ⟨A2, n2, c2, g, k, rfl, ?_, ?_, ?_⟩
  · exact ((hsl2.alloc (.cells #[.slice A2 n2 c2, .int .i64 (W : Int), .int .i64 (H : Int), .int .i64 M, .slice (some ⟨g, 0, none⟩) k k] 27)).below hb4 (by simp)).only hS (fun h0 b off e => by cases e; omega)
  · refine ((hen2.alloc (.cells #[.slice A2 n2 c2, .int .i64 (W : Int), .int .i64 (H : Int), .int .i64 M, .slice (some ⟨g, 0, none⟩) k k] 27)).below hb4 (by simp)).keep fun h0 b i ⟨off, e⟩ hlt => World.cell?_of_block (hS.block b hlt ?_)
    intro e2
    have := (hol b (by rw [e]; rfl)).1
    injection e2 with e2
    omega
  · exact Below.trans hB4 (hS.below (Nat.le_refl _) (by omega))

end Go.Proofs.Ytfkoboljobghkaa
