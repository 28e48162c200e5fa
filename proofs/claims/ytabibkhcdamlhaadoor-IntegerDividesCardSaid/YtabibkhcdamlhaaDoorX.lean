/-
  The iterator backwards under any bargain; the text of an integer.
-/
import Derived.Test.YtabibkhcdamlhaaDoorD
import Derived.Test.YtabibkhcdamlhaaDoorA
import Derived.Test.YtabibkhcdamlhaaDoorW
import Derived.RangeFuncBox
set_option linter.unusedSimpArgs false
set_option linter.unusedVariables false
namespace Go.Proofs.YtabibkhcdamlhaaDoor
open Go.RowKit Go.Shelf Num

set_option maxRecDepth 100000 in
set_option maxHeartbeats 2000000 in
/-- backwards's closure, for every body that keeps the box and the list. -/
theorem back1_kp (m : Nat) (hm : 1 ≤ m) (lp Bs : Nat) (Kp : World → World → Prop) (A : Option Addr) (n c : Nat) (l : List Nat) (hn : n ≤ 1000000000) (J Jx : List (Ix n) → World → Prop)
    (hY : ∀ pre (x : Ix n) W, J pre W → pre.length < n → YieldAt Fence.wide (m - 1) Tryd.prog lp #[.int .i64 ((x.1 : Nat) : Int), .int .u32 ((nth l x.1 : Nat) : Int)] W fun e W' =>
      (e = .returned (.bool true) ∧ J (pre ++ [x]) W' ∧ Kp W W') ∨ (e = .returned (.bool false) ∧ Jx (pre ++ [x]) W'))
    (W : World) (hKr : Kp W W) (hKt : ∀ {a b c : World}, Kp a b → Kp b c → Kp a c) (hKx : ∀ wr, Kp W wr → wr.cell? ⟨Bs, 0, none⟩ = some (.slice A n c) ∧ Sl wr A n c l) (h0 : J [] W) :
    CallsIn Fence.wide m Tryd.prog 83 #[.func (.yield lp) #[] #[], .pointer (some ⟨Bs, 0, none⟩)] W fun e W' => (∃ v, e = .returned v) ∧
      ((∃ ys : List (Ix n), ys.map (·.1) = down n n ∧ J ys W') ∨ (∃ pre : List (Ix n), (∃ k, k ≤ n ∧ pre.map (·.1) = down n k) ∧ Jx pre W')) := by
  refine callsIn_of_wp Tryd.func83 rfl trivial ?_ rfl
  simp only [Tryd.ntmps83, List.size_toArray, List.length_cons, List.length_nil, Nat.reduceAdd, Nat.reduceSub, Array.replicate_succ, Array.replicate_zero, List.push_toArray, List.append_toArray, List.nil_append, List.cons_append]
  obtain ⟨hBs, hs⟩ := hKx W hKr
  have hcap := hs.le_cap
  have hcl := hs.cap_le
  gi_wp2
  gi_loopw [3] (fun i wr => ∃ (p : Nat) (q : Int), p ≤ n ∧ i = .int .i64 q ∧ q = (p : Int) - 1 ∧ (∃ ys : List (Ix n), ys.map (·.1) = down n (n - p) ∧ J ys wr) ∧ Kp W wr)
    (fun i _ => (intOf i + 1).toNat)
  case atStart => exact ⟨n, _, Nat.le_refl _, rfl, rfl, ⟨[], by simp [down], h0⟩, hKr⟩
  case round =>
    obtain ⟨p, q, hp, rfl, hq, ⟨ys, hys, hJs⟩, hnx⟩ := hrel
    obtain ⟨hBr, hsr⟩ := hKx wr hnx
    replace hys := Lib.hid hys
    by_cases hp0 : p = 0
    · subst hp0
      obtain rfl : q = -1 := by omega
      clear hq
      gi_wp2
      go_end0
      exact ⟨⟨_, rfl⟩, .inl ⟨ys, hys.out, hJs⟩⟩
    · obtain ⟨x, rfl⟩ : ∃ x, p = x + 1 := ⟨p - 1, by omega⟩
      obtain rfl : q = (x : Int) := by omega
      clear hq hp0
      have hxn : x < n := by omega
      obtain ⟨b, off, rfl, _, hc⟩ := hsr.at_ (by omega)
      have hcx := hc x hxn
      clear hc
      have hl0 : ys.length = n - (x + 1) := by
        have := congrArg List.length hys.out
        rwa [List.length_map, down_length] at this
      obtain ⟨fn, tmps, assign, body, hy, hR⟩ := hY ys ⟨x, hxn⟩ wr hJs (by omega)
      replace hl0 := Lib.hid hl0
      dsimp only at hy
      gi_wp2
      refine hR.mono ?_
      rintro e W3 (⟨rfl, hJ3, hk3⟩ | ⟨rfl, hJx3⟩)
      · gi_wp2
        go_roundw
        case rel => exact ⟨x, _, by omega, rfl, by omega, ⟨ys ++ [⟨x, hxn⟩], by
          rw [List.map_append, hys.out, show n - x = (n - (x + 1)) + 1 from by omega, down_succ]
          congr 1
          simp
          omega, hJ3⟩, hKt hnx hk3⟩
        case measure => first | (simp [intOf]; done) | (simp [intOf]; omega)
      · gi_wp2
        refine bodyPost_ret (results_none rfl _ _ _) rfl ?_
        refine ⟨⟨_, rfl⟩, .inr ⟨_, ⟨n - x, by omega, ?_⟩, hJx3⟩⟩
        rw [List.map_append, hys.out, show n - x = (n - (x + 1)) + 1 from by omega, down_succ]
        congr 1
        simp
        omega


theorem back_stops_kp (m : Nat) (hm : 1 ≤ m) (Bs : Nat) (Kp : World → World → Prop) (A : Option Addr) (n c : Nat) (l : List Nat) (hn : n ≤ 1000000000) (w : World) (hKr : ∀ W, Kp W W) (hKt : ∀ {a b c : World}, Kp a b → Kp b c → Kp a c)
    (hKx : ∀ W, Below w.heap.size w W → ∀ wr, Kp W wr → wr.cell? ⟨Bs, 0, none⟩ = some (.slice A n c) ∧ Sl wr A n c l) :
    SeqStopsK Fence.wide m Tryd.prog 83 #[.pointer (some ⟨Bs, 0, none⟩)] (fun x : Ix n => #[Value.int .i64 ((x.1 : Nat) : Int), Value.int .u32 ((nth l x.1 : Nat) : Int)]) Kp (fun ys => ys.map (·.1) = down n n)
      (fun pre => ∃ k, k ≤ n ∧ pre.map (·.1) = down n k) n w := fun lp J Jx W hW _ _ hY h0 =>
  back1_kp m hm lp Bs Kp A n c l hn J Jx hY W (hKr W) hKt (hKx W hW) h0

/-- The text of one group: the top one without zeros ahead. -/
def chunk (l : List Nat) (x : Nat) : List UInt8 := if x = l.length - 1 then Lib.decDigits (nth l x) else pads (nth l x) 9

/-- The text of an integer. -/
def txt (neg : Bool) (l : List Nat) : List UInt8 := if l = [] then [48] else (if neg then [45] else []) ++ (down l.length l.length).flatMap (chunk l)

theorem nDigits_le_of : ∀ (k u : Nat), u < 10 ^ (k + 1) → Lib.nDigits u ≤ k + 1 := by
  intro k
  induction k with
  | zero => intro u h; rw [Lib.nDigits_small (by simpa using h)]; omega
  | succ k ih =>
    intro u h
    by_cases h10 : u < 10
    · rw [Lib.nDigits_small h10]; omega
    · rw [Lib.nDigits_big h10]
      have := ih (u / 10) (by rw [Nat.pow_succ] at h; omega)
      omega

theorem nDigits_le {u : Nat} (h : u < 1000000000) : Lib.nDigits u ≤ 9 := nDigits_le_of 8 u h

theorem pows_below {w w' : World} (h : Pows w) (hb : Below w.heap.size w w') : Pows w' := by
  unfold Pows Lib.TabIs World.var? at h ⊢
  cases hg : Tryd.prog.globalNamed "internal/strconv.uint64pow10" with
  | none => rw [hg] at h; cases h
  | some g =>
    rw [hg] at h
    simp only [Option.bind_some] at h ⊢
    have hlt : g < w.heap.size := by
      rcases Nat.lt_or_ge g w.heap.size with h1 | h1
      · exact h1
      · rw [Array.getElem?_eq_none h1] at h; cases h
    rw [hb.block g hlt]
    exact h

theorem chunk_length {l : List Nat} (hg : Grp l) (x : Nat) : (chunk l x).length ≤ 9 := by
  unfold chunk
  split
  · rw [Lib.decDigits_length]; exact nDigits_le (hg.get x)
  · rw [pads_length]; omega

theorem chunks_length {l : List Nat} (hg : Grp l) (xs : List Nat) : (xs.flatMap (chunk l)).length ≤ 9 * xs.length := by
  induction xs with
  | nil => simp
  | cons x xs ih =>
    have := chunk_length hg x
    simp only [List.flatMap_cons, List.length_append, List.length_cons]
    omega

end Go.Proofs.YtabibkhcdamlhaaDoor

/-
  The iterator backwards, for bodies that turn the groups themselves: each round gives what is there.
-/
namespace Go.Proofs.YtabibkhcdamlhaaDoor
open Go.RowKit Go.Shelf Num

set_option maxRecDepth 100000 in
set_option maxHeartbeats 2000000 in
/-- backwards's closure, for every body that keeps the box; the groups may turn meanwhile: each round gives what is there. -/
theorem back1_kv (m : Nat) (hm : 1 ≤ m) (lp Bs : Nat) (Kp : World → World → Prop) (A : Option Addr) (n c : Nat) (hn : n ≤ 1000000000) (J Jx : List (Ix n × Nat) → World → Prop)
    (hY : ∀ pre (x : Ix n × Nat) W, J pre W → pre.length < n → YieldAt Fence.wide (m - 1) Tryd.prog lp #[.int .i64 ((x.1.1 : Nat) : Int), .int .u32 ((x.2 : Nat) : Int)] W fun e W' =>
      (e = .returned (.bool true) ∧ J (pre ++ [x]) W' ∧ Kp W W') ∨ (e = .returned (.bool false) ∧ Jx (pre ++ [x]) W'))
    (W : World) (hKr : Kp W W) (hKt : ∀ {a b c : World}, Kp a b → Kp b c → Kp a c) (hKx : ∀ wr, Kp W wr → wr.cell? ⟨Bs, 0, none⟩ = some (.slice A n c) ∧ ∃ l, Sl wr A n c l) (h0 : J [] W) :
    CallsIn Fence.wide m Tryd.prog 83 #[.func (.yield lp) #[] #[], .pointer (some ⟨Bs, 0, none⟩)] W fun e W' => (∃ v, e = .returned v) ∧
      ((∃ ys : List (Ix n × Nat), ys.map (·.1.1) = down n n ∧ J ys W') ∨ (∃ pre : List (Ix n × Nat), (∃ k, k ≤ n ∧ pre.map (·.1.1) = down n k) ∧ Jx pre W')) := by
  refine callsIn_of_wp Tryd.func83 rfl trivial ?_ rfl
  simp only [Tryd.ntmps83, List.size_toArray, List.length_cons, List.length_nil, Nat.reduceAdd, Nat.reduceSub, Array.replicate_succ, Array.replicate_zero, List.push_toArray, List.append_toArray, List.nil_append, List.cons_append]
  obtain ⟨hBs, l0, hs⟩ := hKx W hKr
  have hcap := hs.le_cap
  have hcl := hs.cap_le
  gi_wp2
  gi_loopw [3] (fun i wr => ∃ (p : Nat) (q : Int), p ≤ n ∧ i = .int .i64 q ∧ q = (p : Int) - 1 ∧ (∃ ys : List (Ix n × Nat), ys.map (·.1.1) = down n (n - p) ∧ J ys wr) ∧ Kp W wr)
    (fun i _ => (intOf i + 1).toNat)
  case atStart => exact ⟨n, _, Nat.le_refl _, rfl, rfl, ⟨[], by simp [down], h0⟩, hKr⟩
  case round =>
    obtain ⟨p, q, hp, rfl, hq, ⟨ys, hys, hJs⟩, hnx⟩ := hrel
    obtain ⟨hBr, l, hsr⟩ := hKx wr hnx
    replace hys := Lib.hid hys
    by_cases hp0 : p = 0
    · subst hp0
      obtain rfl : q = -1 := by omega
      clear hq
      gi_wp2
      go_end0
      exact ⟨⟨_, rfl⟩, .inl ⟨ys, hys.out, hJs⟩⟩
    · obtain ⟨x, rfl⟩ : ∃ x, p = x + 1 := ⟨p - 1, by omega⟩
      obtain rfl : q = (x : Int) := by omega
      clear hq hp0
      have hxn : x < n := by omega
      obtain ⟨b, off, rfl, _, hc⟩ := hsr.at_ (by omega)
      have hcx := hc x hxn
      clear hc
      have hl0 : ys.length = n - (x + 1) := by
        have := congrArg List.length hys.out
        rwa [List.length_map, down_length] at this
      obtain ⟨fn, tmps, assign, body, hy, hR⟩ := hY ys (⟨x, hxn⟩, nth l x) wr hJs (by omega)
      replace hl0 := Lib.hid hl0
      dsimp only at hy
      gi_wp2
      refine hR.mono ?_
      rintro e W3 (⟨rfl, hJ3, hk3⟩ | ⟨rfl, hJx3⟩)
      · gi_wp2
        go_roundw
        case rel => exact ⟨x, _, by omega, rfl, by omega, ⟨ys ++ [(⟨x, hxn⟩, nth l x)], by
          rw [List.map_append, hys.out, show n - x = (n - (x + 1)) + 1 from by omega, down_succ]
          congr 1
          simp
          omega, hJ3⟩, hKt hnx hk3⟩
        case measure => first | (simp [intOf]; done) | (simp [intOf]; omega)
      · gi_wp2
        refine bodyPost_ret (results_none rfl _ _ _) rfl ?_
        refine ⟨⟨_, rfl⟩, .inr ⟨_, ⟨n - x, by omega, ?_⟩, hJx3⟩⟩
        rw [List.map_append, hys.out, show n - x = (n - (x + 1)) + 1 from by omega, down_succ]
        congr 1
        simp
        omega


theorem back_stops_kv (m : Nat) (hm : 1 ≤ m) (Bs : Nat) (Kp : World → World → Prop) (A : Option Addr) (n c : Nat) (hn : n ≤ 1000000000) (w : World) (hKr : ∀ W, Kp W W) (hKt : ∀ {a b c : World}, Kp a b → Kp b c → Kp a c)
    (hKx : ∀ W, Below w.heap.size w W → ∀ wr, Kp W wr → wr.cell? ⟨Bs, 0, none⟩ = some (.slice A n c) ∧ ∃ l, Sl wr A n c l) :
    SeqStopsK Fence.wide m Tryd.prog 83 #[.pointer (some ⟨Bs, 0, none⟩)] (fun x : Ix n × Nat => #[Value.int .i64 ((x.1.1 : Nat) : Int), Value.int .u32 ((x.2 : Nat) : Int)]) Kp (fun ys => ys.map (·.1.1) = down n n)
      (fun pre => ∃ k, k ≤ n ∧ pre.map (·.1.1) = down n k) n w := fun lp J Jx W hW _ _ hY h0 =>
  back1_kv m hm lp Bs Kp A n c hn J Jx hY W (hKr W) hKt (hKx W hW) h0

end Go.Proofs.YtabibkhcdamlhaaDoor
