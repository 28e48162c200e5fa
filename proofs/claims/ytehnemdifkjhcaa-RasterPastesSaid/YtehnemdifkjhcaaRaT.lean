/-
  copy between rows as a step of a drawn region; Crop of package raster.
-/
import Derived.Test.YtehnemdifkjhcaaRaS
set_option linter.unusedSimpArgs false
set_option linter.unusedVariables false
namespace Go.Proofs.Ytehnemdifkjhcaa
open Go.RowKit

/-- X laid over L from place k on. -/
def lay (L : List Int) (k : Nat) (X : List Int) : List Int := L.take k ++ (X ++ L.drop (k + X.length))
theorem lay_length {L X : List Int} {k : Nat} (h : k + X.length ≤ L.length) : (lay L k X).length = L.length := by simp [lay]; omega
theorem nth_lay_lt {L X : List Int} {k i : Nat} (h : k + X.length ≤ L.length) (hi : i < k) : nth (lay L k X) i = nth L i := by
  unfold nth lay
  rw [List.getD_eq_getElem?_getD, List.getD_eq_getElem?_getD, List.getElem?_append_left (by simp; omega), List.getElem?_take, if_pos hi]
theorem nth_lay_in {L X : List Int} {k i : Nat} (h : k + X.length ≤ L.length) (hi : i < X.length) : nth (lay L k X) (k + i) = nth X i := by
  unfold nth lay
  rw [List.getD_eq_getElem?_getD, List.getD_eq_getElem?_getD, List.getElem?_append_right (by simp; omega), List.getElem?_append_left (by simp; omega)]
  congr 2
  simp; omega
theorem nth_lay_ge {L X : List Int} {k i : Nat} (h : k + X.length ≤ L.length) (hi : k + X.length ≤ i) : nth (lay L k X) i = nth L i := by
  unfold nth lay
  rw [List.getD_eq_getElem?_getD, List.getD_eq_getElem?_getD, List.getElem?_append_right (by simp; omega), List.getElem?_append_right (by simp; omega), List.getElem?_drop]
  congr 2
  simp; omega
theorem Fill.lay {f : Nat → Int} {N k : Nat} {L X : List Int} (h : Fill f N k L) (hk : k + X.length ≤ N) (hX : ∀ i, i < X.length → nth X i = f (k + i)) : Fill f N (k + X.length) (lay L k X) := by
  have hL : k + X.length ≤ L.length := by rw [h.1]; exact hk
  refine ⟨by rw [lay_length hL]; exact h.1, fun i hi => ?_⟩
  by_cases hlt : i < k
  · rw [nth_lay_lt hL hlt]; exact h.2 i hlt
  · obtain ⟨j, rfl⟩ : ∃ j, i = k + j := ⟨i - k, by omega⟩
    rw [nth_lay_in hL (by omega)]; exact hX j (by omega)

theorem infoI_size : (Try.prog.info? 3).map (·.size) = some 1 := by kernel_rfl

theorem only_setRow (w : World) (g : Nat) (cs : Array Value) : Only w (w.setRow g cs) g :=
  ⟨rfl, rfl, rfl, by simp [World.setRow], fun k hk hne => setRow_other w g k cs (fun e => hne (by rw [e]))⟩

/-- copy between rows of numbers, as one step of a region that draws its order. -/
theorem step_copy_ints {ops : Array Oper} {o : Oper} {a : Act} {w : World} {K : Act → World → Prop} {Q : Exit → Act → World → Prop} {E : Prop} (hgd : o.guard = none) (d s : Operand)
    (ho : o.op = .call { callee := .builtin .copy, args := #[d, s], argTypes := #[22, 22] })
    (g off n c : Nat) (ad : Addr) (sLen sCap : Nat) (hd : a.eval d = .slice (some ⟨g, off, none⟩) n c) (hs : a.eval s = .slice (some ad) sLen sCap)
    (L X : List Int) (hg : Bl w g L) (hn : X.length = Nat.min sLen n) (hsrc : ∀ j, j < X.length → w.cell? (ad.add j) = some (.int .i64 (nth X j))) (hfit : off + X.length ≤ L.length)
    (h : ∀ w', Only w w' g → Hid (Bl w' g (lay L off X)) → K (a.put o.dst (goInt X.length)) w') :
    if Region.wanted o (yielded ops a.tmps) = true then Oper.wp Try.prog o a w K Q else E := by
  have hw : Region.wanted o (yielded ops a.tmps) = true := by simp [Region.wanted, hgd]
  rw [if_pos hw]
  obtain ⟨T, hT⟩ := hg
  have hrun := run_copy_row (P := Try.prog) w 22 22 o.type 3 g off n c ad sLen sCap _ _ (cells X) Try.underlying22 infoI_size hT (by rw [cells_length]; exact hn)
    (fun j v hj => by
      have hjn : j < X.length := by
        have := (List.getElem?_eq_some_iff.1 hj).1
        rwa [cells_length] at this
      rw [cells_at hjn] at hj
      rw [hsrc j hjn]; exact hj) (by simp [cells_length]; omega) cells_one
  unfold Oper.wp
  simp [execOp, ho, resolve, invoke, builtin, hd, hs, hrun, Result.andThen]
  have hB : Bl (w.setRow g (((cells L ++ T).toArray.toList.take off ++ cells X ++ (cells L ++ T).toArray.toList.drop (off + (cells X).length))).toArray) g (lay L off X) := by
    refine ⟨T, ?_⟩
    rw [setRow_heap w g _ _ _ _ hT]
    congr 3
    simp only [lay, cells_append, List.append_assoc, cells_length]
    rw [List.take_append_of_le_length (by rw [cells_length]; omega), List.drop_append_of_le_length (by rw [cells_length]; omega)]
    simp [cells, List.map_take, List.map_drop]
  have := h _ (only_setRow w g _) hB
  simp [cells_length] at this
  rw [cells_length]
  exact this

theorem FI.copy {w wr w1 : World} {B5 g bb off n c N c2 : Nat} {W H M W2 H2 M2 : Int} {P L X : List Int} {f : Nat → Int} {k k' q : Nat} (h : FI w wr B5 g bb off n c W H M P W2 H2 M2 N c2 f L k) (ho : Only wr w1 g) (hb : Bl w1 g (lay L q X)) (hq : q = k) (hk : k + X.length ≤ N)
    (hX : ∀ i, i < X.length → nth X i = f (k + i)) (hk' : k' = k + X.length) : FI w w1 B5 g bb off n c W H M P W2 H2 M2 N c2 f (lay L q X) k' := by
  subst hq hk'
  have h1 := h.gne
  have h2 := h.g5
  have h3 := h.bbl
  have h4 := h.size
  have h5 := ho.size
  have kp : ∀ b, b < wr.heap.size → b ≠ g → w1.heap[b]? = wr.heap[b]? := fun b hb hne => ho.block b hb (fun e => hne (by injection e))
  refine ⟨h.k0.keep (kp _ h.k0.lt (by omega)), h.k1.keep (kp _ h.k1.lt (by omega)), h.k5.keep (kp _ h.k5.lt (by omega)), hb, h.fill.lay hk hX, ?_, h.below.trans (ho.below (by omega) h.below.size), by omega, h1, h2, h3⟩
  exact h.sl.only ho fun _ b o e => by cases e; omega

end Go.Proofs.Ytehnemdifkjhcaa
