/-
  Walk: word of the law.
-/
import Derived.Test.YtcnlghkdhpgnmaaFrTx
set_option linter.unusedSimpArgs false
set_option linter.unusedVariables false
namespace Go.Proofs.Ytcnlghkdhpgnmaa
open Go.RowKit

theorem new_four (w : World) (t : TypeId) (l : List Int) (g : Nat) (hg : g = w.heap.size) {cs : Array Value} (hcs : cs = (cells8 l).toArray) : ∀ j u, (cells8 l)[j]? = some u → (w.alloc (.cells cs t)).cell? ((⟨g, 0, none⟩ : Addr).add j) = some u := by
  subst hg
  subst hcs
  intro j u hj
  rw [Addr.add_lit, Nat.zero_add, cell_of_row _ _ j _ _ _ (heap_alloc_new w _), List.getElem?_toArray]
  exact hj

set_option maxHeartbeats 3200000 in
set_option maxRecDepth 100000 in
theorem lword_any (B r c q : Nat) (l : List Int) (n : Int) (w : World) (h : Ob w B r c l) (hq : q = l.length) (h0 : 0 < l.length) (hl : l.length ≤ 900000) (hB : B ≤ w.heap.size) (hn : 0 ≤ n) (hn2 : n ≤ 65535) :
    Calls Try.prog 64 #[.slice (some ⟨r, 0, none⟩) q c, .int .i64 n] w fun e w' => ∃ r' c', e = .returned (.slice (some ⟨r', 0, none⟩) (q + 4) c') ∧ Ob w' B r' c' (l ++ word n) ∧ ∀ g, Kx B g w w' := by
  have e1 : n / 16777216 % 256 = n / 16777216 := by omega
  have hw : Hid (cells8 (word n) = [.int .u8 (n / 16777216), .int .u8 (n / 65536 % 256), .int .u8 (n / 256 % 256), .int .u8 (n % 256)]) := Lib.hid (by show [Value.int .u8 (n / 16777216 % 256), _, _, _] = _; rw [e1])
  have b1 : 0 ≤ n / 16777216 ∧ n / 16777216 < 256 := by omega
  have b2 : 0 ≤ n / 65536 % 256 ∧ n / 65536 % 256 < 256 := by omega
  have b3 : 0 ≤ n / 256 % 256 ∧ n / 256 % 256 < 256 := by omega
  have b4 : 0 ≤ n % 256 ∧ n % 256 < 256 := by omega
  replace h := Lib.hid h
  replace hq := Lib.hid hq
  clear e1
  go_enter Try.func64, Try.ntmps64
  go_wp2_with (at_builtin; go_loud (refine step_app_row _ rfl _ _ rfl B r c q l (word n) w.heap.size 0 4 4 rfl rfl hq.out rfl (.inl (h.out.alloc _)) h0 (by show 1 ≤ 4; omega) (by omega) (by show 4 ≤ 1000000; omega) (by simp; omega) (new_four _ _ _ _ rfl (by rw [hw.out])) ?_))
  intro r' c' w' ho hk
  go_wp2
  go_ret
  refine ⟨r', c', rfl, ho, fun g => ((Kx.refl B g w).alloc hB _).trans (hk g)⟩

end Go.Proofs.Ytcnlghkdhpgnmaa
