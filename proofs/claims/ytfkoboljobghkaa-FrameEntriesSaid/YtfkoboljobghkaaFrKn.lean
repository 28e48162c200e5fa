/-
  Walks: the law's known: the example of the chapter.
-/
import Derived.Test.YtfkoboljobghkaaFrDc
import Derived.Test.YtfkoboljobghkaaFrSm
set_option linter.unusedSimpArgs false
set_option linter.unusedVariables false
namespace Go.Proofs.Ytfkoboljobghkaa
open Go.RowKit Go.Shelf

/-- The bytes of the example. -/
def wantB : List Int := [70, 82, 65, 77, 69, 49, 10, 10, 0, 0, 0, 3, 0, 0, 0, 1, 0, 0, 0, 3, 1, 106]
theorem want_file : fileB [] 3 1 3 [1, 3, 0] = wantB := by decide +kernel
theorem want_read : readF wantB = some ⟨[], 3, 1, 3, [1, 3, 0]⟩ := by kernel_rfl
theorem want_good : Good (3 : Nat) (1 : Nat) 3 [1, 3, 0] [] := by
  refine ⟨⟨by omega, rfl, ?_⟩, rfl⟩
  intro g hg
  simp at hg
  omega
theorem want_same : sameF 3 1 3 [1, 3, 0] [] 3 1 3 [1, 3, 0] [] = true := by decide
theorem want_eq : (Lib.bytesOf wantB == Lib.bytesOf wantB) = true := by simp
theorem En.nil (w : World) : En w none 0 0 [] := ⟨rfl, Nat.le_refl _, by omega, fun h => by omega, fun i => by simp [keyAt, valAt]⟩

theorem kEncode (g : Nat) (W : World) (h : Sl W (some ⟨g, 0, none⟩) 3 3 [1, 3, 0]) :
    Calls Try.prog 31 #[.agg #[.slice none 0 0, .int .i64 3, .int .i64 1, .int .i64 3, .slice (some ⟨g, 0, none⟩) 3 3]] W fun e w' =>
      ∃ r c', e = .returned (.tuple #[.slice (some ⟨r, 0, none⟩) 22 c', .int .i64 0]) ∧ Ob w' W.heap.size r c' wantB ∧ Below W.heap.size W w' := by
  have := Encode_yes none 0 0 [] 3 1 3 (some ⟨g, 0, none⟩) 3 3 [1, 3, 0] W (En.nil W) h want_good
  rw [want_file] at this
  exact this
theorem kDecode (A : Option Addr) (c : Nat) (W : World) (h : Tl W W (.slice A 22 c) wantB) :
    Calls Try.prog 34 #[.slice A 22 c] W fun e w' => ∃ A2 n2 c2 g k, e = .returned (.tuple #[.agg #[.slice A2 n2 c2, .int .i64 3, .int .i64 1, .int .i64 3, .slice (some ⟨g, 0, none⟩) k k], .int .i64 0]) ∧ Sl w' (some ⟨g, 0, none⟩) k k [1, 3, 0] ∧ En w' A2 n2 c2 [] ∧ Below W.heap.size W w' :=
  Decode_yes A 22 c wantB W h (by unfold Byt wantB; intro x hx; simp at hx; omega) (by omega) ⟨[], 3, 1, 3, [1, 3, 0]⟩ 3 1 want_read rfl rfl want_good (by rw [want_file]; exact want_eq)

def head8 : List Int := [70, 82, 65, 77, 69, 49, 10, 10]
def tail14 : List Int := [0, 0, 0, 3, 0, 0, 0, 1, 0, 0, 0, 3, 1, 106]

theorem kHead (W : World) : FS ((W.alloc (.cells #[.int .u8 70, .int .u8 82, .int .u8 65, .int .u8 77, .int .u8 69, .int .u8 49, .int .u8 10, .int .u8 10] 5 (8, 9))).alloc (.cells #[.int .u8 0, .int .u8 0, .int .u8 0, .int .u8 3, .int .u8 0, .int .u8 0, .int .u8 0, .int .u8 1, .int .u8 0, .int .u8 0, .int .u8 0, .int .u8 3, .int .u8 1, .int .u8 106] 5)) W.heap.size W.heap.size 8 head8 :=
  FS.alloc (.inr ⟨rfl, fun j u hu => by
    rw [Addr.add_lit, Nat.zero_add, cell_of_row _ W.heap.size j _ _ _ (heap_alloc_new W _)]
    rw [← List.getElem?_toArray] at hu
    exact hu⟩) _
theorem kTail (W : World) : ∀ j u, (cells8 tail14)[j]? = some u → ((W.alloc (.cells #[.int .u8 70, .int .u8 82, .int .u8 65, .int .u8 77, .int .u8 69, .int .u8 49, .int .u8 10, .int .u8 10] 5 (8, 9))).alloc (.cells #[.int .u8 0, .int .u8 0, .int .u8 0, .int .u8 3, .int .u8 0, .int .u8 0, .int .u8 0, .int .u8 1, .int .u8 0, .int .u8 0, .int .u8 0, .int .u8 3, .int .u8 1, .int .u8 106] 5)).cell? ((⟨W.heap.size + 1, 0, none⟩ : Addr).add j) = some u := fun j u hu => by
  have hh : ((W.alloc (.cells #[.int .u8 70, .int .u8 82, .int .u8 65, .int .u8 77, .int .u8 69, .int .u8 49, .int .u8 10, .int .u8 10] 5 (8, 9))).alloc (.cells #[.int .u8 0, .int .u8 0, .int .u8 0, .int .u8 3, .int .u8 0, .int .u8 0, .int .u8 0, .int .u8 1, .int .u8 0, .int .u8 0, .int .u8 0, .int .u8 3, .int .u8 1, .int .u8 106] 5)).heap[W.heap.size + 1]? = some (.cells #[.int .u8 0, .int .u8 0, .int .u8 0, .int .u8 3, .int .u8 0, .int .u8 0, .int .u8 0, .int .u8 1, .int .u8 0, .int .u8 0, .int .u8 0, .int .u8 3, .int .u8 1, .int .u8 106] 5 (0, 0)) := by
    have := heap_alloc_new (W.alloc (.cells #[.int .u8 70, .int .u8 82, .int .u8 65, .int .u8 77, .int .u8 69, .int .u8 49, .int .u8 10, .int .u8 10] 5 (8, 9))) (.cells #[.int .u8 0, .int .u8 0, .int .u8 0, .int .u8 3, .int .u8 0, .int .u8 0, .int .u8 0, .int .u8 1, .int .u8 0, .int .u8 0, .int .u8 0, .int .u8 3, .int .u8 1, .int .u8 106] 5)
    simpa using this
  rw [Addr.add_lit, Nat.zero_add, cell_of_row _ (W.heap.size + 1) j _ _ _ hh]
  rw [← List.getElem?_toArray] at hu
  exact hu

set_option maxRecDepth 100000 in
set_option maxHeartbeats 3200000 in
theorem known_any (w : World) :
    Calls Try.prog 12 #[] w fun e w' => e = .returned (.bool true) ∧ Below w.heap.size w w' := by
  have hb0 := ((Below.refl w.heap.size w).alloc (Nat.le_refl _) (.cells #[.int .i64 1, .int .i64 3, .int .i64 0] 3)).alloc (by simp) (.cells #[.slice none 0 0, .int .i64 3, .int .i64 1, .int .i64 3, .slice (some ⟨w.heap.size, 0, none⟩) 3 3] 27)
  have hbl : Bl (w.alloc (.cells #[.int .i64 1, .int .i64 3, .int .i64 0] 3)) w.heap.size [1, 3, 0] := Bl.new w [1, 3, 0]
  have hsl := (hbl.alloc (.cells #[.slice none 0 0, .int .i64 3, .int .i64 1, .int .i64 3, .slice (some ⟨w.heap.size, 0, none⟩) 3 3] 27)).sl0 (n := 3) (c := 3) rfl (by omega) (by omega)
  have hfb0 : ((w.alloc (.cells #[.int .i64 1, .int .i64 3, .int .i64 0] 3)).alloc (.cells #[.slice none 0 0, .int .i64 3, .int .i64 1, .int .i64 3, .slice (some ⟨w.heap.size, 0, none⟩) 3 3] 27)).heap[w.heap.size + 1]? = some (.cells #[.slice none 0 0, .int .i64 3, .int .i64 1, .int .i64 3, .slice (some ⟨w.heap.size, 0, none⟩) 3 3] 27 (0, 0)) := by
    have := heap_alloc_new (w.alloc (.cells #[.int .i64 1, .int .i64 3, .int .i64 0] 3)) (.cells #[.slice none 0 0, .int .i64 3, .int .i64 1, .int .i64 3, .slice (some ⟨w.heap.size, 0, none⟩) 3 3] 27)
    simpa using this
  have hcon := Lib.hid (kEncode w.heap.size _ hsl)
  replace hsl := Lib.hid hsl
  replace hbl := Lib.hid hbl
  have hconv := fun (W : World) => Lib.run_convert_bytes_const (P := Try.prog) W 53 5 #[.int .u8 70, .int .u8 82, .int .u8 65, .int .u8 77, .int .u8 69, .int .u8 49, .int .u8 10, .int .u8 10] 8 8 Try.underlying53 Try.underlying5
  simp only [List.size_toArray, List.length_cons, List.length_nil, Nat.reduceAdd] at hconv
  go_enter Try.func12, Try.ntmps12
  go_wp2_with (first | (go_at_call 31; refine hcon.out.mono ?_; rintro e w2 ⟨r, c0, rfl, hob, hb2⟩; have hsz2 := hb2.size; simp only [World.size_alloc] at hsz2 hb2; have hfs := Lib.hid (kHead w2); have hnw := Lib.hid (kTail w2)) | (at_builtin; refine step_app_row _ rfl _ _ rfl w2.heap.size w2.heap.size 8 8 head8 tail14 (w2.heap.size + 1) 0 14 14 rfl rfl rfl rfl hfs.out (by decide) (by decide) (by decide) (by decide) (by simp; omega) hnw.out ?_))
  intro r5 c5 w5 hob5 hk5
  have hw : head8 ++ tail14 = wantB := rfl
  rw [hw] at hob5
  have hsz5 := (hk5 0).size
  simp only [World.size_alloc] at hsz5
  have hB25 : Below w2.heap.size w2 w5 := (((Below.refl w2.heap.size w2).alloc (Nat.le_refl _) (.cells #[.int .u8 70, .int .u8 82, .int .u8 65, .int .u8 77, .int .u8 69, .int .u8 49, .int .u8 10, .int .u8 10] 5 (8, 9))).alloc (by simp) (.cells #[.int .u8 0, .int .u8 0, .int .u8 0, .int .u8 3, .int .u8 0, .int .u8 0, .int .u8 0, .int .u8 1, .int .u8 0, .int .u8 0, .int .u8 0, .int .u8 3, .int .u8 1, .int .u8 106] 5)).trans (hk5 0).1
  obtain ⟨f1, f2, f3, f4, -⟩ := hob5.facts
  have hdec := Lib.hid (kDecode (some ⟨r5, 0, none⟩) c5 w5 ⟨_, _, _, rfl, ⟨rfl, f3, f4, fun _ => ⟨r5, 0, rfl, fun i hi => by rw [Nat.zero_add]; exact hob5.cell hi⟩⟩, fun e => (by cases e), fun _ b off e => (by cases e; exact f2)⟩)
  obtain ⟨q1, q2, -, -, -⟩ := hob.facts
  have hr2 : r < w2.heap.size := q2
  replace hob := Lib.hid hob
  replace hob5 := Lib.hid hob5
  replace hk5 := Lib.hid hk5
  replace hw := Lib.hid hw
  clear f3 q1 q2
  go_wp2_with (first | (go_at_call 34; refine hdec.out.mono ?_; rintro e w6 ⟨A2, n2, c2, g, k, rfl, hsl6, hen6, hb6⟩; have hsz6 := hb6.size; have hfb7 : (w6.alloc (.cells #[.slice A2 n2 c2, .int .i64 3, .int .i64 1, .int .i64 3, .slice (some ⟨g, 0, none⟩) k k] 27)).heap[w.heap.size + 1]? = _ := (Below.heap_alloc w6 (.cells #[.slice A2 n2 c2, .int .i64 3, .int .i64 1, .int .i64 3, .slice (some ⟨g, 0, none⟩) k k] 27) (w.heap.size + 1) (by omega)).trans ((hb6.block (w.heap.size + 1) (by omega)).trans ((hB25.block (w.heap.size + 1) (by omega)).trans ((hb2.block (w.heap.size + 1) (by omega)).trans hfb0))); obtain ⟨x0, x1, x2, x3, x4⟩ := cell5 hfb7; have hby1 : Lib.BytesIn (w6.alloc (.cells #[.slice A2 n2 c2, .int .i64 3, .int .i64 1, .int .i64 3, .slice (some ⟨g, 0, none⟩) k k] 27)) (some ⟨r, 0, none⟩) 22 wantB := (hob.out.keep ((Below.heap_alloc w6 (.cells #[.slice A2 n2 c2, .int .i64 3, .int .i64 1, .int .i64 3, .slice (some ⟨g, 0, none⟩) k k] 27) r (by omega)).trans ((hb6.block r (by omega)).trans (hB25.block r hr2)))).bytes; have hby2 : Lib.BytesIn (w6.alloc (.cells #[.slice A2 n2 c2, .int .i64 3, .int .i64 1, .int .i64 3, .slice (some ⟨g, 0, none⟩) k k] 27)) (some ⟨r5, 0, none⟩) 22 wantB := (hob5.out.keep ((Below.heap_alloc w6 (.cells #[.slice A2 n2 c2, .int .i64 3, .int .i64 1, .int .i64 3, .slice (some ⟨g, 0, none⟩) k k] 27) r5 (by omega)).trans (hb6.block r5 f2))).bytes; have hsm := same_any none 0 0 [] 3 1 3 (some ⟨w.heap.size, 0, none⟩) 3 3 [1, 3, 0] A2 n2 c2 [] 3 1 3 (some ⟨g, 0, none⟩) k k [1, 3, 0] (w6.alloc (.cells #[.slice A2 n2 c2, .int .i64 3, .int .i64 1, .int .i64 3, .slice (some ⟨g, 0, none⟩) k k] 27)) (En.nil _) ((((hsl.out.below hb2 (by simp)).below hB25 (Nat.le_refl _)).below hb6 (Nat.le_refl _)).alloc _) (hen6.alloc _) (hsl6.alloc _); rw [want_same] at hsm; replace hsm := Lib.hid hsm; replace hby1 := Lib.hid hby1; replace hby2 := Lib.hid hby2; replace hsl6 := Lib.hid hsl6; replace hen6 := Lib.hid hen6; replace hfb7 := Lib.hid hfb7) | (go_at_call 32; refine (Try.bytes_Equal_all _ _ _ _ _ _ wantB wantB _ rfl rfl hby1.out hby2.out).mono ?_; rintro e w8 ⟨he, rfl⟩; rw [want_eq] at he; subst he) | (go_at_call 35; refine hsm.out.mono ?_; rintro e w9 ⟨rfl, hb9⟩; simp only [World.size_alloc] at hb9))
  go_ret
  exact ⟨rfl, ((((hb0.trans (hb2.mono (by omega))).trans (hB25.mono (by omega))).trans (hb6.mono (by omega))).alloc (by omega) _).trans (hb9.mono (by omega))⟩

end Go.Proofs.Ytfkoboljobghkaa
