/-
  Walk: the iterator slices.Chunk, under any bargain that its boxes stay.
-/
import Derived.RangeFuncNested
import Derived.RangeFuncBound
import Derived.RangeFuncCalls
import Derived.RangeFuncLeaves
import Derived.RangeFuncBox
import Derived.Shelf.Abstract
import Derived.OwnWalkIn
import Derived.TacticsInMore
import Derived.LoopNIn
import Derived.LoopIn
import Derived.Sort.QuietIn
import Derived.Test.YtfkoboljobghkaaFrW
import Derived.Test.YtfkoboljobghkaaFrWb
set_option linter.unusedSimpArgs false
set_option linter.unusedVariables false
namespace Go.Proofs.Ytfkoboljobghkaa
open Go.RowKit Go.Shelf

attribute [local go_sem] Oper.semAt_some

abbrev Ix (n : Nat) := { x : Nat // x < n }

theorem abides_drewN {β : Type} {B : Nat} {J : β → World → Prop} (h : AbidesFrom B J) {s : β} {W : World} (hJ : J s W) (q : Nat) : J s (W.drewN q) :=
  h s W _ none hJ ⟨rfl, rfl, rfl, Nat.le_refl _, fun _ _ _ => rfl⟩ (fun r e => by cases e)

set_option maxRecDepth 100000 in
set_option maxHeartbeats 3200000 in
theorem chunk1_kp (m : Nat) (hm : 1 ≤ m) (lp B1 B2 : Nat) (Kp : World → World → Prop) (b n c a H : Nat) (hn : n = H * a) (ha : 1 ≤ a) (hn2 : n ≤ 1000000) (hnc : n ≤ c) (hc : c ≤ 9223372036854775807) (J Jx : List (Ix H) → World → Prop)
    (hY : ∀ pre (x : Ix H) W, J pre W → pre.length < H → YieldAt Fence.wide (m - 1) Try.prog lp #[.slice (some ⟨b, x.1 * a, none⟩) a a] W fun e W' =>
      (e = .returned (.bool true) ∧ J (pre ++ [x]) W' ∧ Kp W W') ∨ (e = .returned (.bool false) ∧ Jx (pre ++ [x]) W'))
    (W : World) (hA : AbidesFrom W.heap.size J) (hKr : Kp W W) (hKd : ∀ W q, Kp W (W.drewN q)) (hKt : ∀ {a b c : World}, Kp a b → Kp b c → Kp a c)
    (hKx : ∀ wr, Kp W wr → wr.cell? ⟨B1, 0, none⟩ = some (.slice (some ⟨b, 0, none⟩) n c) ∧ wr.cell? ⟨B2, 0, none⟩ = some (.int .i64 (a : Int))) (h0 : J [] W) :
    CallsIn Fence.wide m Try.prog 80 #[.func (.yield lp) #[] #[], .pointer (some ⟨B1, 0, none⟩), .pointer (some ⟨B2, 0, none⟩)] W fun e W' => (∃ v, e = .returned v) ∧
      ((∃ ys : List (Ix H), ys.map (·.1) = List.range H ∧ J ys W') ∨ (∃ pre : List (Ix H), (∃ k, k ≤ H ∧ pre.map (·.1) = List.range k) ∧ Jx pre W')) := by
  refine callsIn_of_wp Try.func80 rfl trivial ?_ rfl
  simp only [Try.ntmps80, List.size_toArray, List.length_cons, List.length_nil, Nat.reduceAdd, Nat.reduceSub, Array.replicate_succ, Array.replicate_zero, List.push_toArray, List.append_toArray, List.nil_append, List.cons_append]
  replace hA := Lib.hid hA
  replace hKd := Lib.hid hKd
  replace hn := Lib.hid hn
  gi_wp2
  gi_loopw [4] (fun i wr => ∃ (p q : Nat), p ≤ H ∧ i = .int .i64 (q : Int) ∧ Hid (q = p * a) ∧ (∃ ys : List (Ix H), ys.map (·.1) = List.range p ∧ J ys wr) ∧ Kp W wr)
    (fun i _ => n - (intOf i).toNat)
  case atStart => exact ⟨0, 0, Nat.zero_le _, rfl, Lib.hid (by simp), ⟨[], by simp, h0⟩, hKr⟩
  case round =>
    obtain ⟨p, q, hp, rfl, hq, ⟨ys, hys, hJs⟩, hK⟩ := hrel
    obtain ⟨d1, d2⟩ := hKx wr hK
    replace hys := Lib.hid hys
    by_cases hlt : p < H
    · have hqn : q + a ≤ n := by
        rw [hn.out, hq.out, ← Nat.succ_mul]
        exact Nat.mul_le_mul_right a hlt
      have hl0 : Hid (ys.length = p) := Lib.hid (by
        have := congrArg List.length hys.out
        rwa [List.length_map, List.length_range] at this)
      have hqq : Hid (q + a = (p + 1) * a) := Lib.hid (by rw [hq.out, Nat.succ_mul])
      have hpH : Hid (p < H) := Lib.hid hlt
      clear hlt
      gi_wp2
      gi_quiet (fail)
      have hJ2 := abides_drewN hA.out hJs nq
      have hK2 := hKt hK (hKd.out wr nq)
      obtain ⟨e1, e2⟩ := hKx _ hK2
      obtain ⟨fn, tmps, assign, body, hy, hR⟩ := hY ys ⟨p, hpH.out⟩ (wr.drewN nq) hJ2 (by rw [hl0.out]; exact hpH.out)
      dsimp only at hy hR
      rw [← hq.out] at hy
      gi_wp2

      refine hR.mono ?_
      rintro e W3 (⟨rfl, hJ3, hk3⟩ | ⟨rfl, hJx3⟩)
      · obtain ⟨g1, g2⟩ := hKx _ (hKt hK2 hk3)
        gi_wp2
        go_roundw
        case rel => exact ⟨p + 1, q + a, hpH.out, by go_num, hqq, ⟨ys ++ [⟨p, hpH.out⟩], by rw [List.map_append, hys.out, List.range_succ]; rfl, hJ3⟩, hKt hK2 hk3⟩
        case measure => first | (simp [intOf]; done) | (simp [intOf]; omega)
      · gi_wp2
        refine bodyPost_ret (results_none rfl _ _ _) rfl ?_
        exact ⟨⟨_, rfl⟩, .inr ⟨_, ⟨p + 1, hpH.out, by rw [List.map_append, hys.out, List.range_succ]; rfl⟩, hJx3⟩⟩
    · obtain rfl : p = H := by omega
      have hqn : ¬ q < n := by rw [hn.out, hq.out]; omega
      gi_wp2
      go_end0
      exact ⟨⟨_, rfl⟩, .inl ⟨ys, hys.out, hJs⟩⟩

theorem Chunk_any (b n c a : Nat) (w : World) (ha : 1 ≤ a) :
    Calls Try.prog 62 #[.slice (some ⟨b, 0, none⟩) n c, .int .i64 (a : Int)] w fun e w' =>
      e = .returned (.func (.func 80) #[] #[.pointer (some ⟨w.heap.size, 0, none⟩), .pointer (some ⟨w.heap.size + 1, 0, none⟩)]) ∧ w' = (w.alloc (.cells #[.slice (some ⟨b, 0, none⟩) n c] 23)).alloc (.cells #[.int .i64 (a : Int)] 3) := by
  go_enter Try.func62, Try.ntmps62
  go_wp2
  go_ret
  exact ⟨rfl, rfl⟩

/-- The relation under which the iterator's boxes stay, whatever the record of the loop does. -/
def Kc (B g n1 : Nat) (w w' : World) : Prop := Below B w w' ∧ ∀ k, k < n1 → k < w.heap.size → k ≠ g → (∀ cs fr, w.heap[k]? ≠ some (.cells cs 5 fr)) → w'.heap[k]? = w.heap[k]?
theorem Kc.refl (B g n1 : Nat) (w : World) : Kc B g n1 w w := ⟨Below.refl _ _, fun _ _ _ _ _ => rfl⟩
theorem Kc.trans {B g n1 : Nat} {a b c : World} (h : Kc B g n1 a b) (k : Kc B g n1 b c) : Kc B g n1 a c :=
  ⟨h.1.trans k.1, fun i h1 h2 h3 h4 => by
    have e := h.2 i h1 h2 h3 h4
    rw [← e]
    exact k.2 i h1 (Nat.lt_of_lt_of_le h2 h.1.size) h3 (by rw [e]; exact h4)⟩
theorem Kc.of {B g n1 : Nat} {w w' : World} (h : Kx B g w w') : Kc B g n1 w w' := ⟨h.1, fun k _ h2 h3 h4 => h.2.2 k h2 h3 h4⟩
theorem Kc.book {B g n1 : Nat} (hn : B ≤ n1) (W : World) (l : Nat) (o o' : Obj) (hl : n1 ≤ l) (h : W.heap[l]? = some o) (_ : o.isCells = false) (_ : o.isWalk = false) : Kc B g n1 W (W.putObj l o') := by
  have hg := grownBy_putObj' W l o'
  refine ⟨⟨hg.os, hg.tape, hg.output, hg.size, fun k hk => hg.block k ?_ (fun e => by cases e; omega)⟩, fun k h1 h2 _ _ => hg.block k h2 (fun e => by cases e; omega)⟩
  have := (Array.getElem?_eq_some_iff.1 h).1
  omega

/-- A body that writes keeps the loops' records. -/
theorem Kx.keeps {B g : Nat} {w w' : World} (h : Kx B g w w') {cs : Array Value} {t : TypeId} {fr : Nat × Nat} (hg : w.heap[g]? = some (.cells cs t fr)) (B' : Nat) : KeepsFrom B' w w' :=
  ⟨h.2.1, fun k o _ hk ho => by
    rw [h.2.2 k (Array.getElem?_eq_some_iff.1 hk).1 ?_ ?_]
    · exact hk
    · rintro rfl
      rw [hg] at hk
      cases hk
      cases ho
    · intro cs fr e
      rw [hk] at e
      cases e
      cases ho⟩

theorem Wb.grown {B g : Nat} {D bs : List Int} {W W' : World} {row : Option Nat} (h : Wb W B g D bs) (hg : W.grownBy W' row) (hr : ∀ r, row = some r → ∃ o : Obj, W.heap[r]? = some o ∧ o.isCells = false) : Wb W' B g D bs := by
  obtain ⟨hbs, r, c, hbox, hBg, hown, h0, hrg⟩ := h
  obtain ⟨-, hrl, -, -, cur, hcur⟩ := hown.facts
  refine ⟨hbs, r, c, ?_, hBg, hown.keep (hg.block r hrl ?_), h0, hrg⟩
  · rw [hg.block g (Array.getElem?_eq_some_iff.1 hbox).1 ?_]
    · exact hbox
    · intro e
      obtain ⟨o, ho, hc⟩ := hr g e.symm
      rw [hbox] at ho
      cases ho
      cases hc
  · intro e
    obtain ⟨o, ho, hc⟩ := hr r e.symm
    rw [hcur] at ho
    cases ho
    cases hc
theorem Kx.grownB {B g : Nat} {w0 W W' : World} {row : Option Nat} (h : Kx B g w0 W) (hB : B ≤ w0.heap.size) (hg : W.grownBy W' row) (hr : ∀ r, row = some r → w0.heap.size ≤ r) : Kx B g w0 W' :=
  ⟨h.1.trans ⟨hg.os, hg.tape, hg.output, hg.size, fun k hk => by
      by_cases hk2 : k < W.heap.size
      · exact hg.block k hk2 (fun e => by have := hr k e.symm; omega)
      · have := h.2.1; omega⟩, Nat.le_trans h.2.1 hg.size, fun k h1 h2 h3 => (hg.block k (Nat.lt_of_lt_of_le h1 h.2.1) (fun e => by have := hr k e.symm; omega)).trans (h.2.2 k h1 h2 h3)⟩

/-- A loop over an iterator of one value, whose body always goes on. -/
theorem range_own {α : Type} {g : Operand} {assign body : Code} {Q : Exit → Act → World → Prop} {a : Act} {w : World} (p q : Tmp)
    {gf : Nat} {lb : Array Value} (hg : a.eval g = .func (.func gf) #[] lb) (eg : ∀ args w, (callFunc gf args).run Try.prog w = .ok (.enter gf args) w)
    (v : α → Value) {Kp : World → World → Prop} {S Sp : List α → Prop} {N : Nat} (hseq : SeqStopsK Fence.wide 5 Try.prog gf lb (fun x => #[v x]) Kp S Sp N w)
    (hKt : ∀ {A B C : World}, Kp A B → Kp B C → Kp A C) (hKb : ∀ (W : World) (l : Nat) (o o' : Obj), w.heap.size ≤ l → W.heap[l]? = some o → o.isCells = false → o.isWalk = false → Kp W (W.putObj l o'))
    (I : List α → World → Prop) (hI : OwnFrom w.heap.size I) (h0 : I [] w)
    (hassign : ∀ (l : Nat) (x : α) (W : World) (K : Act → World → Prop), K { tmps := (a.tmps.setIfInBounds p (v x)).setIfInBounds q (v x), defers := [] } W →
      assign.wpIn (Fence.wide.inRound l) 4 Try.prog (Exit.then K (fun _ _ _ => False)) { tmps := a.tmps.setIfInBounds p (v x), defers := [] } W)
    (hbody : ∀ (l : Nat) (pre : List α) (x : α) (W : World), I pre W → pre.length < N → body.wpIn (Fence.wide.inRound l) 4 Try.prog (ownPostG w.heap.size Kp I (fun _ _ _ => False) (pre ++ [x]) W) { tmps := (a.tmps.setIfInBounds p (v x)).setIfInBounds q (v x), defers := [] } W)
    (hdone : ∀ (D : Nat) (xs : List α) (W : World), w.heap.size ≤ D → S xs → I xs W → W.heap[D]? = some (.deferred (some [])) → Q .normal { a with defers := { target := .collected D, args := #[] } :: a.defers } W) :
    (Code.rangeFunc g #[p] assign body).wpIn Fence.wide 6 Try.prog Q a w :=
  wpIn_rangeFunc_ownG rfl (by omega) hg trivial eg hseq hKt hKb (Below.refl _ _) (fun _ => rfl) I (fun _ _ _ => False) hI (fun _ _ _ _ _ hs _ _ => hs) h0
    (fun x => { tmps := (a.tmps.setIfInBounds p (v x)).setIfInBounds q (v x), defers := [] }) (fun l x W K hK => by
      have e : (#[p].zip #[v x]) = #[(p, v x)] := by simp
      rw [e]
      exact hassign l x W K hK) hbody hdone (fun _ _ _ _ _ _ h _ => h.elim)

theorem Kc.drewN (B g n1 : Nat) (w : World) (q : Nat) : Kc B g n1 w (w.drewN q) := ⟨⟨rfl, rfl, rfl, Nat.le_refl _, fun _ _ => rfl⟩, fun _ _ _ _ _ => rfl⟩

/-- The chunks of a row of integers, while what is written leaves the boxes. -/
theorem chunk_seq (B g : Nat) (b n c a H B1 B2 : Nat) (w : World) (hn : n = H * a) (ha : 1 ≤ a) (hn2 : n ≤ 1000000) (hnc : n ≤ c) (hc : c ≤ 9223372036854775807) (h1g : B1 ≠ g) (h2g : B2 ≠ g)
    (h1 : w.heap[B1]? = some (.cells #[.slice (some ⟨b, 0, none⟩) n c] 23 (0, 0))) (h2 : w.heap[B2]? = some (.cells #[.int .i64 (a : Int)] 3 (0, 0))) :
    SeqStopsK Fence.wide 5 Try.prog 80 #[.pointer (some ⟨B1, 0, none⟩), .pointer (some ⟨B2, 0, none⟩)] (fun x : Ix H => #[Value.slice (some ⟨b, x.1 * a, none⟩) a a]) (Kc B g w.heap.size) (fun ys => ys.map (·.1) = List.range H)
      (fun pre => ∃ k, k ≤ H ∧ pre.map (·.1) = List.range k) H w := fun lp J Jx W hW hA _ hY h0 => by
  have l1 := (Array.getElem?_eq_some_iff.1 h1).1
  have l2 := (Array.getElem?_eq_some_iff.1 h2).1
  have k1 := (hW.block B1 l1).trans h1
  have k2 := (hW.block B2 l2).trans h2
  refine chunk1_kp 5 (by omega) lp B1 B2 (Kc B g w.heap.size) b n c a H hn ha hn2 hnc hc J Jx hY W hA (Kc.refl _ _ _ _) (fun W q => Kc.drewN _ _ _ W q) (fun h k => h.trans k) (fun wr hk => ?_) h0
  have e1 := (hk.2 B1 l1 (Array.getElem?_eq_some_iff.1 k1).1 h1g (fun cs fr e => by rw [k1] at e; cases e)).trans k1
  have e2 := (hk.2 B2 l2 (Array.getElem?_eq_some_iff.1 k2).1 h2g (fun cs fr e => by rw [k2] at e; cases e)).trans k2
  exact ⟨by rw [cell_of_row wr B1 0 _ _ _ e1]; rfl, by rw [cell_of_row wr B2 0 _ _ _ e2]; rfl⟩

end Go.Proofs.Ytfkoboljobghkaa
