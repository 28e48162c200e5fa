/-
  Walks: the closures of the law of masked words; slices.IndexFunc, ContainsFunc at []uint64.
-/
import Derived.Test.YtofoiocpopmifaaNbNe
import Derived.Test.YtofoiocpopmifaaNbBl
import Derived.Deep.RegionWith
set_option linter.unusedSimpArgs false
set_option linter.unusedVariables false
namespace Go.Proofs.Ytofoiocpopmifaa
open Go.RowKit

theorem infoU : (Try.prog.info? 23).map (fun i => (i.zero, i.size, i.bytes)) = some (some (.int .u64 0), 1, 8) := by kernel_rfl
/-- The first k words, masked. -/
def mskL (l : List Nat) (mk k : Nat) : List Nat := (l.take k).map fun x => x ^^^ mk
theorem mskL_succ {l : List Nat} {mk k : Nat} (h : k < l.length) : mskL l mk (k + 1) = mskL l mk k ++ [nw l k ^^^ mk] := by
  unfold mskL
  rw [List.take_add_one, List.map_append, List.getElem?_eq_getElem h, nw_eq h]
  rfl
theorem mskL_length {l : List Nat} {mk k : Nat} (h : k ≤ l.length) : (mskL l mk k).length = k := by unfold mskL; rw [List.length_map, List.length_take]; omega
def msk (l : List Nat) (mk : Nat) : List Nat := l.map fun x => x ^^^ mk
theorem mskL_all (l : List Nat) (mk : Nat) : mskL l mk l.length = msk l mk := by unfold mskL msk; rw [List.take_length]

set_option maxRecDepth 100000 in
set_option maxHeartbeats 1600000 in
theorem masked_any (A : Option Addr) (n c : Nat) (l : List Nat) (g mk : Nat) (w : World) (h : WS w A n c l) (hg : g < w.heap.size) (hc : w.cell? ⟨g, 0, none⟩ = some (.int .u64 (mk : Int))) (hmk : mk < 2 ^ 64) (hn : n ≤ 64) :
    Calls Try.prog 30 #[.slice A n c, .pointer (some ⟨g, 0, none⟩)] w fun e w' => (∃ A' c', e = .returned (.slice A' n c') ∧ WS w' A' n c' (msk l mk)) ∧ Below w.heap.size w w' := by
  have hcap := h.le_cap
  have hcl := h.cap_le
  have hlen := Lib.hid h.len
  have hW := Lib.hid h.2
  have hs0 := Lib.hid h
  have hc' := Lib.hid hc
  have hmkh := Lib.hid hmk
  clear h hc hmk
  go_enter Try.func30, Try.ntmps30
  go_wp2
  go_loopw [4, 9] (fun kv i wr => ∃ k : Nat, k ≤ n ∧ i = .int .i64 (k : Int) ∧ wr.ownsRow w.heap.size 23 1 kv k (ucells (mskL l mk k)) ∧ Below w.heap.size w wr) (fun _ i _ => n - (intOf i).toNat)
  case atStart => exact ⟨0, Nat.zero_le _, rfl, World.ownsRow_nil _ _ _ _, Below.refl _ _⟩
  case round =>
    obtain ⟨k, hk, rfl, hown, hB⟩ := hrel
    obtain ⟨A3, c3, rfl, -, -, -⟩ := own_form hown
    by_cases hlt : k < n
    · have hki : (k : Int) < (n : Int) := by omega
      have hs := hs0.out.below hB (Nat.le_refl _)
      obtain ⟨bb, off, rfl, hbw, hcc⟩ := hs.at_ (by omega)
      have hcm := hcc k hlt
      have gc := (hB.cell (p := ⟨g, 0, none⟩) hg).trans hc'.out
      obtain ⟨y, hy⟩ : ∃ y, nw l k = y := ⟨_, rfl⟩
      rw [hy] at hcm
      have hx := bits_xor y mk (by rw [← hy]; exact hW.out.nw k) hmkh.out
      have hsucc : mskL l mk (k + 1) = mskL l mk k ++ [y ^^^ mk] := by rw [← hy]; exact mskL_succ (by rw [← hlen.out]; exact hlt)
      obtain ⟨z, hz⟩ : ∃ z, y ^^^ mk = z := ⟨_, rfl⟩
      rw [hz] at hx hsucc
      obtain ⟨i0, hi, hz0, hz1, hz2⟩ := info_parts infoU
      have hBs := hB.size
      replace hy := Lib.hid hy
      replace hz := Lib.hid hz
      clear hcc hs
      go_wp2_with (at_builtin; refine wpList_append_own _ rfl _ _ 22 rfl w.heap.size 23 i0 (.int .u64 0) 1 8 Try.underlying22 hi hz0 hz1 hz2 rfl (by decide) _ _ _ rfl (hown.alloc _) ⟨wr.heap.size, 0, none⟩ 1 1 (ucells [z]) rfl rfl ?qc2 (ucells_one _) ?qc4 ?qc5 ?qc6 ?_)
      case qc2 =>
        intro j u hj
        rw [Addr.add_lit, Nat.zero_add, cell_of_row _ wr.heap.size j _ _ _ (heap_alloc_new wr _)]
        rw [← List.getElem?_toArray] at hj
        exact hj
      case qc4 => unfold maxLen; omega
      case qc5 => omega
      case qc6 => simp; omega
      intro v' w6 hown6 hgrow hnil
      have hown7 : w6.ownsRow w.heap.size 23 1 v' (k + 1) (ucells (mskL l mk (k + 1))) := by rw [hsucc, ucells_append]; exact hown6
      have hlt4 := (World.ownsRow.lt hown)
      have hB7 := (hB.alloc (by omega) _).grown hgrow (by simp; omega) (fun q hq => (hlt4 q hq).1)
      go_wp2
      go_roundw
      case rel => exact ⟨k + 1, hlt, by go_num, hown7, hB7⟩
      case measure => simp [intOf]; omega
    · obtain rfl : k = n := by omega
      have hki : ¬ (k : Int) < (k : Int) := by omega
      have hsr := SR.of_own hown
      replace hown := Lib.hid hown
      replace hsr := Lib.hid hsr
      go_wp2
      go_ret
      refine ⟨⟨A3, c3, rfl, ?_, ?_⟩, hB⟩
      · have e := hsr.out
        rw [hlen.out, mskL_all] at e
        rw [hlen.out]
        exact e
      · intro x hx
        obtain ⟨u, hu, rfl⟩ := List.mem_map.1 hx
        exact Nat.xor_lt_two_pow (hW.out u hu) hmkh.out
theorem enters_masked : ∀ args w, (callFunc 30 args).run Try.prog w = .ok (.enter 30 args) w := enters_of Try.func30 (by kernel_rfl) rfl
theorem enters_tie2 : ∀ args w, (callFunc 32 args).run Try.prog w = .ok (.enter 32 args) w := enters_of Try.func32 (by kernel_rfl) rfl
theorem enters_tie3 : ∀ args w, (callFunc 33 args).run Try.prog w = .ok (.enter 33 args) w := enters_of Try.func33 (by kernel_rfl) rfl

/-- Is a word as near as another? -/
def tieB (x y z : Nat) : Bool := (dst x y : Int) == (dst x z : Int)
theorem tie2_any (x y z g1 g2 : Nat) (w : World) (hx : x < 2 ^ 64) (hy : y < 2 ^ 64) (hz : z < 2 ^ 64) (h1 : w.cell? ⟨g1, 0, none⟩ = some (.int .u64 (x : Int))) (h2 : w.cell? ⟨g2, 0, none⟩ = some (.int .u64 (y : Int))) :
    Calls Try.prog 32 #[.int .u64 (z : Int), .pointer (some ⟨g1, 0, none⟩), .pointer (some ⟨g2, 0, none⟩)] w fun e w' => e = .returned (.bool (tieB x y z)) ∧ Below w.heap.size w w' := by
  obtain ⟨d1, hd1⟩ : ∃ d, dst x y = d := ⟨_, rfl⟩
  obtain ⟨d2, hd2⟩ : ∃ d, dst x z = d := ⟨_, rfl⟩
  have k1 := Lib.hid (fun W => distance_any x y hx hy W hd1)
  have k2 := Lib.hid (fun W => distance_any x z hx hz W hd2)
  have hv : Hid (tieB x y z = ((d1 : Int) == (d2 : Int))) := Lib.hid (by unfold tieB; rw [hd1, hd2])
  replace hd1 := Lib.hid hd1
  replace hd2 := Lib.hid hd2
  by_cases hyz : y = z
  · subst hyz
    clear hx hy hz
    go_enter Try.func32, Try.ntmps32
    go_wp2
    have e : Hid (d1 = d2) := Lib.hid (hd1.out.symm.trans hd2.out)
    have k2' := Lib.hid (fun W => (e.out ▸ k1.out W : Calls Try.prog 17 #[.int .u64 (x : Int), .int .u64 (y : Int)] W fun e w' => e = .returned (.int .i64 (d2 : Int)) ∧ W = w'))
    go_quiet ((go_at_call 17; exact Calls.quiet_of_same ((k2'.out _).mono fun _ _ h => ⟨h.1, h.2.symm⟩)))
    go_wp2
    go_ret
    exact ⟨ret_bool (by rw [hv.out, e.out]; simp), below_drewN (Below.refl _ _) _⟩
  · clear hx hy hz
    go_enter Try.func32, Try.ntmps32
    go_wp2
    go_quiet (first | (go_at_call_of 17 (Value.int .u64 (y : Int)); exact Calls.quiet_of_same ((k1.out _).mono fun _ _ h => ⟨h.1, h.2.symm⟩)) | (go_at_call_of 17 (Value.int .u64 (z : Int)); exact Calls.quiet_of_same ((k2.out _).mono fun _ _ h => ⟨h.1, h.2.symm⟩)))
    go_wp2
    go_ret
    exact ⟨ret_bool hv.out.symm, below_drewN (Below.refl _ _) _⟩

theorem tie3_any (x y z g1 g2 : Nat) (w : World) (hx : x < 2 ^ 64) (hy : y < 2 ^ 64) (hz : z < 2 ^ 64) (h1 : w.cell? ⟨g1, 0, none⟩ = some (.int .u64 (x : Int))) (h2 : w.cell? ⟨g2, 0, none⟩ = some (.int .u64 (y : Int))) :
    Calls Try.prog 33 #[.int .u64 (z : Int), .pointer (some ⟨g1, 0, none⟩), .pointer (some ⟨g2, 0, none⟩)] w fun e w' => e = .returned (.bool (tieB x y z)) ∧ Below w.heap.size w w' := by
  obtain ⟨d1, hd1⟩ : ∃ d, dst x y = d := ⟨_, rfl⟩
  obtain ⟨d2, hd2⟩ : ∃ d, dst x z = d := ⟨_, rfl⟩
  have k1 := Lib.hid (fun W => distance_any x y hx hy W hd1)
  have k2 := Lib.hid (fun W => distance_any x z hx hz W hd2)
  have hv : Hid (tieB x y z = ((d1 : Int) == (d2 : Int))) := Lib.hid (by unfold tieB; rw [hd1, hd2])
  replace hd1 := Lib.hid hd1
  replace hd2 := Lib.hid hd2
  by_cases hyz : y = z
  · subst hyz
    clear hx hy hz
    go_enter Try.func33, Try.ntmps33
    go_wp2
    have e : Hid (d1 = d2) := Lib.hid (hd1.out.symm.trans hd2.out)
    have k2' := Lib.hid (fun W => (e.out ▸ k1.out W : Calls Try.prog 17 #[.int .u64 (x : Int), .int .u64 (y : Int)] W fun e w' => e = .returned (.int .i64 (d2 : Int)) ∧ W = w'))
    go_quiet ((go_at_call 17; exact Calls.quiet_of_same ((k2'.out _).mono fun _ _ h => ⟨h.1, h.2.symm⟩)))
    go_wp2
    go_ret
    exact ⟨ret_bool (by rw [hv.out, e.out]; simp), below_drewN (Below.refl _ _) _⟩
  · clear hx hy hz
    go_enter Try.func33, Try.ntmps33
    go_wp2
    go_quiet (first | (go_at_call_of 17 (Value.int .u64 (y : Int)); exact Calls.quiet_of_same ((k1.out _).mono fun _ _ h => ⟨h.1, h.2.symm⟩)) | (go_at_call_of 17 (Value.int .u64 (z : Int)); exact Calls.quiet_of_same ((k2.out _).mono fun _ _ h => ⟨h.1, h.2.symm⟩)))
    go_wp2
    go_ret
    exact ⟨ret_bool hv.out.symm, below_drewN (Below.refl _ _) _⟩

/-- What is asked of a function value that takes a word: in every later world it says p, and leaves what lay. -/
def PredW (g : Nat) (lb : Array Value) (p : Nat → Bool) (w : World) : Prop :=
  ∀ (W : World) (x : Nat), x < 2 ^ 64 → Below w.heap.size w W → Calls Try.prog g (#[.int .u64 (x : Int)] ++ lb) W fun e w' => e = .returned (.bool (p x)) ∧ Below W.heap.size W w'

theorem PredW.at_ {g : Nat} {lb : Array Value} {p : Nat → Bool} {w : World} (h : PredW g lb p w) {x : Nat} (h64 : x < 2 ^ 64) {b : Bool} (hx : p x = b) (W : World) (hb : Below w.heap.size w W) :
    Calls Try.prog g (#[.int .u64 (x : Int)] ++ lb) W fun e w' => e = .returned (.bool b) ∧ Below W.heap.size W w' := hx ▸ h W x h64 hb

theorem wany_upto {l : List Nat} {p : Nat → Bool} {k : Nat} (hk : k < l.length) (h : p (nw l k) = true) : l.any p = true := by
  rw [nw_eq hk] at h
  exact List.any_eq_true.2 ⟨_, List.getElem_mem hk, h⟩
theorem wany_none {l : List Nat} {p : Nat → Bool} (h : ∀ j, j < l.length → p (nw l j) = false) : l.any p = false := by
  rw [List.any_eq_false]
  intro x hx
  obtain ⟨i, hi, rfl⟩ := List.mem_iff_getElem.1 hx
  have := h i hi
  rw [nw_eq hi] at this
  simp [this]

set_option maxHeartbeats 1600000 in
theorem IndexFunc_words (g : Nat) (lb : Array Value) (p : Nat → Bool) (eg : ∀ args w, (callFunc g args).run Try.prog w = .ok (.enter g args) w) (A : Option Addr) (n c : Nat) (l : List Nat) (w : World) (h : WS w A n c l) (hp : PredW g lb p w) :
    Calls Try.prog 50 #[.slice A n c, .func (.func g) #[] lb] w fun e w' => (∃ r : Int, e = .returned (.int .i64 r) ∧ decide (0 ≤ r) = l.any p) ∧ Below w.heap.size w w' := by
  have hcap := h.le_cap
  have hcl := h.cap_le
  have hlen := Lib.hid h.len
  have hW := Lib.hid h.2
  have hp' := Lib.hid hp
  clear hp
  go_enter Try.func50, Try.ntmps50
  go_wp2
  go_loopw [8] (fun i wr => ∃ k : Nat, k ≤ n ∧ i = .int .i64 k ∧ Below w.heap.size w wr ∧ Hid (∀ j, j < k → p (nw l j) = false)) (fun i _ => n - (intOf i).toNat)
  case atStart => exact ⟨0, Nat.zero_le _, rfl, Below.refl _ _, Lib.hid fun j hj => absurd hj (Nat.not_lt_zero _)⟩
  case round =>
    obtain ⟨k, hk, rfl, hB, HA⟩ := hrel
    by_cases hlt : k < n
    · obtain ⟨b, off, rfl, hbw, hc⟩ := (h.below hB (Nat.le_refl _)).at_ (by omega)
      have hcell := hc k hlt
      clear hc h
      obtain ⟨y, hy⟩ : ∃ y, nw l k = y := ⟨_, rfl⟩
      rw [hy] at hcell
      replace hy := Lib.hid hy
      cases hq : p y with
      | true =>
        have hcall := Lib.hid (hp'.out.at_ (by rw [← hy.out]; exact hW.out.nw k) hq)
        replace hq := Lib.hid hq
        go_wp2_with (go_at_fn g; refine (hcall.out _ hB).mono ?_; rintro e w' ⟨rfl, hb2⟩)
        go_ret
        exact ⟨⟨_, rfl, by rw [wany_upto (by rw [← hlen.out]; exact hlt) (by rw [hy.out]; exact hq.out)]; simp⟩, hB.trans (hb2.mono hB.size)⟩
      | false =>
        have hcall := Lib.hid (hp'.out.at_ (by rw [← hy.out]; exact hW.out.nw k) hq)
        replace hq := Lib.hid hq
        go_wp2_with (go_at_fn g; refine (hcall.out _ hB).mono ?_; rintro e w' ⟨rfl, hb2⟩)
        exact ⟨⟨k + 1, hlt, by go_num, hB.trans (hb2.mono hB.size), Lib.hid fun j hj => (by
          by_cases e : j = k
          · rw [e, hy.out]; exact hq.out
          · exact HA.out j (by omega))⟩, by simp [intOf]; omega⟩
    · obtain rfl : k = n := by omega
      go_wp2
      go_ret
      exact ⟨⟨_, rfl, by rw [wany_none (by rw [← hlen.out]; exact HA.out)]; simp⟩, hB⟩

theorem ContainsFunc_words (g : Nat) (lb : Array Value) (p : Nat → Bool) (eg : ∀ args w, (callFunc g args).run Try.prog w = .ok (.enter g args) w) (A : Option Addr) (n c : Nat) (l : List Nat) (w : World) (h : WS w A n c l) (hp : PredW g lb p w) {b : Bool} (hb : l.any p = b) :
    Calls Try.prog 31 #[.slice A n c, .func (.func g) #[] lb] w fun e w' => e = .returned (.bool b) ∧ Below w.heap.size w w' := by
  subst hb
  have hcon := Lib.hid (IndexFunc_words g lb p eg A n c l w h hp)
  generalize l.any p = b at hcon
  clear h hp
  go_enter Try.func31, Try.ntmps31
  go_wp2_with (go_at_call 50; refine hcon.out.mono ?_; rintro e w' ⟨⟨r, rfl, hr⟩, hb2⟩; replace hr := Lib.hid hr)
  go_ret
  exact ⟨ret_bool hr.out, hb2⟩

end Go.Proofs.Ytofoiocpopmifaa
