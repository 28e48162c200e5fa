/-
  Walks: Turn of package raster and of the reference.
-/
import Derived.Test.YtehnemdifkjhcaaRaE
import Derived.Deep.RegionHeld3
import Derived.Deep.Cut
import Derived.IntWalk
set_option linter.unusedSimpArgs false
set_option linter.unusedVariables false
namespace Go.Proofs.Ytehnemdifkjhcaa
open Go.RowKit

/-- The list of N values of a function. -/
def tab (N : Nat) (f : Nat → Int) : List Int := (List.range N).map f
theorem tab_length (N : Nat) (f : Nat → Int) : (tab N f).length = N := by simp [tab]
theorem nth_tab {N : Nat} {f : Nat → Int} {i : Nat} (h : i < N) : nth (tab N f) i = f i := by simp [nth, tab, List.getD, h]
theorem tab_congr {N : Nat} {f g : Nat → Int} (h : ∀ i, i < N → f i = g i) : tab N f = tab N g := nth_ext (by rw [tab_length, tab_length]) fun i hi => by
  rw [tab_length] at hi
  rw [nth_tab hi, nth_tab hi, h i hi]
theorem tab_nth (P : List Int) : tab P.length (nth P) = P := nth_ext (tab_length _ _) fun i hi => by
  rw [tab_length] at hi
  exact nth_tab hi

/-- The first k of N places hold the values of f. -/
def Fill (f : Nat → Int) (N k : Nat) (L : List Int) : Prop := L.length = N ∧ ∀ i, i < k → nth L i = f i
theorem Fill.start {f : Nat → Int} {N : Nat} {L : List Int} (h : L.length = N) : Fill f N 0 L := ⟨h, fun i hi => absurd hi (by omega)⟩
theorem Fill.step {f : Nat → Int} {N k : Nat} {L : List Int} (h : Fill f N k L) (hk : k < N) {v : Int} (hv : v = f k) : Fill f N (k + 1) (L.set k v) := by
  refine ⟨by rw [List.length_set]; exact h.1, fun i hi => ?_⟩
  by_cases e : i = k
  · subst e; rw [nth_set_self (by rw [h.1]; exact hk)]; exact hv
  · rw [nth_set_ne (by omega)]; exact h.2 i (by omega)
theorem Fill.done {f : Nat → Int} {N : Nat} {L : List Int} (h : Fill f N N L) : L = tab N f := nth_ext (by rw [h.1, tab_length]) fun i hi => by
  rw [h.1] at hi
  rw [h.2 i hi, nth_tab hi]
theorem Fill.at_ {f : Nat → Int} {N k k' : Nat} {L : List Int} (h : Fill f N k L) (e : k = k') : Fill f N k' L := e ▸ h

theorem row_lt {y b a x : Nat} (hy : y < a) (hx : x < b) : y * b + x < a * b := by
  have : (y + 1) * b ≤ a * b := Nat.mul_le_mul_right b hy
  rw [Nat.add_mul] at this; omega
theorem row_le {y b a : Nat} (hy : y < a) : y * b + b ≤ a * b := by
  have : (y + 1) * b ≤ a * b := Nat.mul_le_mul_right b hy
  rw [Nat.add_mul] at this; omega
theorem row_mod {y b x : Nat} (hx : x < b) : (y * b + x) % b = x := by rw [Nat.mul_comm, Nat.mul_add_mod]; exact Nat.mod_eq_of_lt hx
theorem row_div {y b x : Nat} (hx : x < b) : (y * b + x) / b = y := by
  rw [Nat.mul_comm, Nat.mul_add_div (by omega), Nat.div_eq_of_lt hx, Nat.add_zero]

/-- The pixels of a turned raster, a wide and b high: the place k of the result. -/
def turnf (a b : Nat) (P : List Int) (k : Nat) : Int := nth P ((k % b) * a + (a - 1 - k / b))
theorem turnf_at {a b y x : Nat} {P : List Int} (hx : x < b) : turnf a b P (y * b + x) = nth P (x * a + (a - 1 - y)) := by unfold turnf; rw [row_mod hx, row_div hx]
def turned (a b : Nat) (P : List Int) : List Int := tab (a * b) (turnf a b P)

theorem Ras.nat {W H M : Int} {P : List Int} (h : Ras W H M P) : ∃ a b : Nat, W = a ∧ H = b ∧ (1 ≤ a ∧ a ≤ 64) ∧ (1 ≤ b ∧ b ≤ 64) ∧ (1 ≤ M ∧ M ≤ 65535) ∧ P.length = a * b ∧ P.length ≤ 4096 ∧ 0 < P.length := by
  obtain ⟨⟨⟨h1, h2⟩, ⟨h3, h4⟩, h5, h6⟩, hl, -⟩ := h
  obtain ⟨a, rfl⟩ := Int.eq_ofNat_of_zero_le (show 0 ≤ W by omega)
  obtain ⟨b, rfl⟩ := Int.eq_ofNat_of_zero_le (show 0 ≤ H by omega)
  have hle : P.length = a * b := by have : (P.length : Int) = ((a * b : Nat) : Int) := by rw [hl]; simp
                                    omega
  have h7 : a * b ≤ 4096 := Nat.mul_le_mul (show a ≤ 64 by omega) (show b ≤ 64 by omega)
  have h8 : 1 * 1 ≤ a * b := Nat.mul_le_mul (show 1 ≤ a by omega) (show 1 ≤ b by omega)
  exact ⟨a, b, rfl, rfl, ⟨by omega, by omega⟩, ⟨by omega, by omega⟩, ⟨h5, h6⟩, hle, by omega, by omega⟩

/-- The raster's zero value and a code. -/
def RetE (w : World) (code : Int) (e : Ending) (w' : World) : Prop :=
  e = .returned (.tuple #[.agg #[.int .i64 0, .int .i64 0, .int .i64 0, .slice none 0 0], .int .i64 code]) ∧ Below w.heap.size w w'

/-- Turn, where it is no raster. -/
theorem Turn_no (W H M : Int) (A : Option Addr) (n c : Nat) (P : List Int) (w : World) (h : Sl w A n c P) (hr : ¬ Ras W H M P) :
    Calls Try.prog 30 #[.agg #[.int .i64 W, .int .i64 H, .int .i64 M, .slice A n c]] w (RetE w 1) := by
  have hb := ((Below.refl w.heap.size w).alloc (Nat.le_refl _) (.cells #[.int .i64 W, .int .i64 H, .int .i64 M, .slice A n c] 24)).alloc (by simp) (.cells #[.int .i64 0, .int .i64 0, .int .i64 0, .slice none 0 0] 24)
  have hs := (h.alloc (.cells #[.int .i64 W, .int .i64 H, .int .i64 M, .slice A n c] 24)).alloc (.cells #[.int .i64 0, .int .i64 0, .int .i64 0, .slice none 0 0] 24)
  have k1 := RB.new (w.alloc (.cells #[.int .i64 W, .int .i64 H, .int .i64 M, .slice A n c] 24)) 0 0 0 none 0 0
  simp only [World.size_alloc] at k1
  have hck := Lib.hid (Check_no hs hr)
  clear h hs hr
  go_enter Try.func30, Try.ntmps30
  go_wp2_with (go_at_call 13; refine (hck.out).mono ?_; rintro e w1 ⟨rfl, hb2⟩; simp only [World.size_alloc] at hb2; obtain ⟨⟨d4, d5, d6, d7⟩, f4, f5, f6, f7⟩ := (k1.below hb2 (by omega)).cells)
  refine bodyPost_ret (v := .tuple #[.agg #[.int .i64 0, .int .i64 0, .int .i64 0, .slice none 0 0], .int .i64 1]) (by simp [results, Try.results30, go_sem, d4, d5, d6, d7, f4, f5, f6, f7]) rfl ⟨rfl, ?_⟩
  repeat (refine Below.setCell ?_ (by simp <;> omega) _)
  exact hb.trans (hb2.mono (by omega))

/-- What holds while Turn fills its result. -/
def TurnI (w wr : World) (B5 g bb off n c a b : Nat) (M : Int) (P L : List Int) (k : Nat) : Prop :=
  RB wr w.heap.size a b M (some ⟨bb, off, none⟩) n c ∧ RB wr (w.heap.size + 1) 0 0 0 none 0 0 ∧ RB wr B5 b a M (some ⟨g, 0, none⟩) n n ∧ Bl wr g L ∧ Fill (turnf a b P) n k L ∧ Sl wr (some ⟨bb, off, none⟩) n c P ∧ Below w.heap.size w wr ∧ B5 < wr.heap.size

theorem TurnI.next {w wr w1 : World} {B5 g bb off n c a b : Nat} {M : Int} {P L : List Int} {k k' i : Nat} {v : Int} (h : TurnI w wr B5 g bb off n c a b M P L k) (hb : Below wr.heap.size wr w1)
    (h1 : w.heap.size + 1 < g) (h2 : g < B5) (h3 : bb < w.heap.size) (hk : k < n) (hv : turnf a b P k = v) (hi : i = k) (hk' : k' = k + 1) :
    TurnI w (w1.setCell ⟨g, i, none⟩ (.int .i64 v)) B5 g bb off n c a b M P (L.set i v) k' := by
  subst hi hk'
  obtain ⟨k0, k1, k5, hbl, hf, hs, hB, hz⟩ := h
  have hz2 := hb.size
  refine ⟨(k0.below hb k0.lt).far (by simp; omega) _, (k1.below hb k1.lt).far (by simp; omega) _, (k5.below hb k5.lt).far (by simp; omega) _, (hbl.below hb hbl.lt).set _ _, hf.step hk hv.symm, ?_, (hB.trans (hb.mono hB.size)).setCell (by simp; omega) _, by simp; omega⟩
  exact (hs.below hb (Nat.le_refl _)).keep fun _ b' j ⟨off', e⟩ _ => World.cell?_setCell_other _ _ _ _ (fun e2 => by cases e; cases e2; omega)

set_option maxRecDepth 100000 in
set_option maxHeartbeats 4000000 in
theorem Turn_yes (W H M : Int) (A : Option Addr) (n c : Nat) (P : List Int) (w : World) (h : Sl w A n c P) (hr : Ras W H M P) :
    Calls Try.prog 30 #[.agg #[.int .i64 W, .int .i64 H, .int .i64 M, .slice A n c]] w (RetR w H W M (turned W.toNat H.toNat P)) := by
  have hb0 := ((Below.refl w.heap.size w).alloc (Nat.le_refl _) (.cells #[.int .i64 W, .int .i64 H, .int .i64 M, .slice A n c] 24)).alloc (by simp) (.cells #[.int .i64 0, .int .i64 0, .int .i64 0, .slice none 0 0] 24)
  have hs := (h.alloc (.cells #[.int .i64 W, .int .i64 H, .int .i64 M, .slice A n c] 24)).alloc (.cells #[.int .i64 0, .int .i64 0, .int .i64 0, .slice none 0 0] 24)
  have k0 := (RB.new w W H M A n c).alloc (.cells #[.int .i64 0, .int .i64 0, .int .i64 0, .slice none 0 0] 24)
  have k1 := RB.new (w.alloc (.cells #[.int .i64 W, .int .i64 H, .int .i64 M, .slice A n c] 24)) 0 0 0 none 0 0
  simp only [World.size_alloc] at k1
  have hck := Lib.hid (Check_ok hs hr)
  obtain ⟨a, b, rfl, rfl, ⟨ha1, ha2⟩, ⟨hb1, hb2⟩, ⟨hM1, hM2⟩, hab, hl1, hl2⟩ := hr.nat
  have hnP := hs.len
  obtain ⟨bb, off, rfl, hbbw, -⟩ := h.at_ (by rw [h.len]; exact hl2)
  simp only [Int.toNat_natCast]
  have hbl := Lib.hid (fun W : World => blank_any b a M W hb1 hb2 ha1 ha2)
  have hncap := hs.le_cap
  have hccap := hs.cap_le
  have hfin : Hid (b * a = n ∧ a * b = n) := Lib.hid ⟨by rw [hnP, hab, Nat.mul_comm], by rw [hnP, hab]⟩
  have hn4 : n ≤ 4096 := by omega
  rw [hfin.out.1] at hbl
  clear hr hab hnP hl1 hl2 h
  go_enter Try.func30, Try.ntmps30
  go_wp2_with (first | (go_at_call 13; refine (hck.out).mono ?_; rintro e w1 ⟨rfl, hb3⟩; simp only [World.size_alloc] at hb3; replace k0 := k0.below hb3 (by omega); replace k1 := k1.below hb3 (by omega); replace hs := hs.below hb3 (by simp); have hsz1 := hb3.size; simp only [World.size_alloc] at hsz1; replace hb0 := hb0.trans (hb3.mono (by omega)); clear hb3; obtain ⟨⟨d0, d1, d2, d3⟩, f0, f1, f2, f3⟩ := k0.cells) | (go_at_call 51; refine (hbl.out _).mono ?_; rintro e w2 ⟨g, rfl, hg, hbz, hb4⟩; replace k0 := k0.below hb4 (by omega); replace k1 := k1.below hb4 (by omega); replace hs := hs.below hb4 (Nat.le_refl _); replace hb0 := hb0.trans (hb4.mono (by omega)); have hsz2 := hb4.size; clear hb4 d0 d1 d2 d3 f0 f1 f2 f3))
  have hgB := hbz.lt
  have k5 := RB.new w2 b a M (some ⟨g, 0, none⟩) n n
  replace k0 := k0.alloc (.cells #[.int .i64 b, .int .i64 a, .int .i64 M, .slice (some ⟨g, 0, none⟩) n n] 24)
  replace k1 := k1.alloc (.cells #[.int .i64 b, .int .i64 a, .int .i64 M, .slice (some ⟨g, 0, none⟩) n n] 24)
  replace hbz := hbz.alloc (.cells #[.int .i64 b, .int .i64 a, .int .i64 M, .slice (some ⟨g, 0, none⟩) n n] 24)
  replace hs := hs.alloc (.cells #[.int .i64 b, .int .i64 a, .int .i64 M, .slice (some ⟨g, 0, none⟩) n n] 24)
  replace hb0 := hb0.alloc hb0.size (.cells #[.int .i64 b, .int .i64 a, .int .i64 M, .slice (some ⟨g, 0, none⟩) n n] 24)
  go_loopw [23] (fun i wr => ∃ (y : Nat) (L : List Int), y ≤ a ∧ i = .int .i64 (y : Int) ∧ TurnI w wr w2.heap.size g bb off n c a b M P L (y * b)) (fun i _ => a - (intOf i).toNat)
  case atStart => exact ⟨0, _, Nat.zero_le _, rfl, k0, k1, k5, hbz, by rw [Nat.zero_mul]; exact Fill.start (by simp), hs, hb0, by simp⟩
  case round =>
    clear k0 k1 k5 hbz hs hb0 hck hbl
    obtain ⟨y, L, hy, rfl, k0, k1, k5, hbz, hfill, hs, hB, hsz5⟩ := hrel
    obtain ⟨⟨d0, d1, d2, d3⟩, f0, f1, f2, f3⟩ := k0.cells
    obtain ⟨⟨d4, d5, d6, d7⟩, f4, f5, f6, f7⟩ := k5.cells
    by_cases hlt : y < a
    · go_wp2
      go_loopw [28] (fun i wr => ∃ (x : Nat) (L : List Int), x ≤ b ∧ i = .int .i64 (x : Int) ∧ TurnI w wr w2.heap.size g bb off n c a b M P L (y * b + x)) (fun i _ => b - (intOf i).toNat)
      case atStart => exact ⟨0, _, Nat.zero_le _, rfl, k0, k1, k5, hbz, hfill, hs, hB, hsz5⟩
      case round =>
        clear k0 k1 k5 hbz hs hB hfill d0 d1 d2 d3 d4 d5 d6 d7 f0 f1 f2 f3 f4 f5 f6 f7 hsz5
        obtain ⟨wo, hwo⟩ : ∃ wo : World, wo = wr := ⟨_, rfl⟩
        clear hwo wo
        obtain ⟨x, L, hx, rfl, k0, k1, k5, hbz, hfill, hs, hB, hsz5⟩ := hrel
        obtain ⟨⟨d0, d1, d2, d3⟩, f0, f1, f2, f3⟩ := k0.cells
        obtain ⟨⟨d4, d5, d6, d7⟩, f4, f5, f6, f7⟩ := k5.cells
        by_cases hltx : x < b
        · obtain ⟨q, hq⟩ : ∃ q, y * b = q := ⟨_, rfl⟩
          obtain ⟨q2, hq2⟩ : ∃ q2, x * a = q2 := ⟨_, rfl⟩
          obtain ⟨m, hm⟩ : ∃ m : Nat, a - 1 - y = m := ⟨_, rfl⟩
          have hmi : (a : Int) - 1 - (y : Int) = (m : Int) := by omega
          have hl1 : q + x < n := by rw [← hq, ← hfin.out.2]; exact row_lt hlt hltx
          have hl1' : q + b ≤ n := by rw [← hq, ← hfin.out.2]; exact row_le hlt
          have hl2 : q2 + m < n := by rw [← hq2, ← hfin.out.1]; exact row_lt hltx (by omega)
          have hl2' : q2 + a ≤ n := by rw [← hq2, ← hfin.out.1]; exact row_le hltx
          have hval : turnf a b P (y * b + x) = nth P (q2 + m) := by rw [turnf_at hltx, hq2, hm]
          obtain ⟨v, hv⟩ : ∃ v, nth P (q2 + m) = v := ⟨_, rfl⟩
          obtain ⟨bb', off', e, hbbl, hcc⟩ := hs.at_ (by omega)
          cases e
          have hpix := hcc (q2 + m) hl2
          rw [hv, ← Nat.add_assoc] at hpix
          have htc := hbz.cell (i := q + x) (by rw [hfill.1]; exact hl1)
          have htf := hbz.frozen (q + x)
          obtain ⟨u, hu⟩ : ∃ u, nth L (q + x) = u := ⟨_, rfl⟩
          rw [hu] at htc
          have keepS : ∀ w', Only wr w' g → w'.cell? ⟨w.heap.size, 0, none⟩ = some (.int .i64 a) ∧ w'.cell? ⟨w.heap.size, 1, none⟩ = some (.int .i64 b) ∧ w'.cell? ⟨w.heap.size, 2, none⟩ = some (.int .i64 M) ∧ w'.cell? ⟨w.heap.size, 3, none⟩ = some (.slice (some ⟨bb, off, none⟩) n c) ∧ w'.cell? ⟨w2.heap.size, 0, none⟩ = some (.int .i64 b) ∧ w'.cell? ⟨w2.heap.size, 1, none⟩ = some (.int .i64 a) ∧ w'.cell? ⟨w2.heap.size, 2, none⟩ = some (.int .i64 M) ∧ w'.cell? ⟨w2.heap.size, 3, none⟩ = some (.slice (some ⟨g, 0, none⟩) n n) ∧ w'.cell? ⟨bb, off + q2 + m, none⟩ = some (.int .i64 v) := by
            intro w' ho
            have kk : ∀ b o, b < wr.heap.size → b ≠ g → w'.cell? ⟨b, o, none⟩ = wr.cell? ⟨b, o, none⟩ := fun b o h1 h2 => World.cell?_of_block (ho.block b h1 (fun e => h2 (by injection e)))
            refine ⟨(kk _ _ ?_ ?_).trans d0, (kk _ _ ?_ ?_).trans d1, (kk _ _ ?_ ?_).trans d2, (kk _ _ ?_ ?_).trans d3, (kk _ _ ?_ ?_).trans d4, (kk _ _ ?_ ?_).trans d5, (kk _ _ ?_ ?_).trans d6, (kk _ _ ?_ ?_).trans d7, (kk _ _ ?_ ?_).trans hpix⟩ <;> omega
          have keepT : ∀ w', Below wr.heap.size wr w' → w'.cell? ⟨g, q + x, none⟩ = some (.int .i64 u) ∧ w'.frozen? ⟨g, q + x, none⟩ = false ∧ wr.heap.size ≤ w'.heap.size := fun w' hb => ⟨(hb.cell (p := ⟨g, q + x, none⟩) (by simp; omega)).trans htc, (hb.frozen (p := ⟨g, q + x, none⟩) (by simp; omega)).trans htf, hb.size⟩
          replace keepS := Lib.hid keepS
          replace keepT := Lib.hid keepT
          replace hval := Lib.hid (hval.trans hv)
          replace hq := Lib.hid hq
          replace hq2 := Lib.hid hq2
          replace hm := Lib.hid hm
          replace hu := Lib.hid hu
          have hv := Lib.hid hv
          clear hcc hpix htc htf d0 d1 d2 d3 d4 d5 d6 d7 f0 f1 f2 f3 f4 f5 f6 f7
          obtain ⟨d0, d1, d2, d3, d4, d5, d6, d7, d8⟩ := keepS.out _ (Only.refl wr g)
          have hwA : IntKind.i64.wrap ((a : Int) - 1) = (a : Int) - 1 := IntWalk.i64_in _ (by omega)
          have hwB : IntKind.i64.wrap (m : Int) = (m : Int) := IntWalk.i64_in _ (by omega)
          have hb1 : (0 : Int) ≤ (m : Int) := by omega
          have hb2 : (m : Int) < (a : Int) := by omega
          have hb3 : (0 : Int) ≤ (x : Int) := by omega
          have hb4 : (x : Int) < (b : Int) := by omega
          go_wp2
          go_region_held3 (fun w' => w'.cell? ⟨w.heap.size, 0, none⟩ = some (.int .i64 a) ∧ w'.cell? ⟨w.heap.size, 1, none⟩ = some (.int .i64 b) ∧ w'.cell? ⟨w.heap.size, 2, none⟩ = some (.int .i64 M) ∧ w'.cell? ⟨w.heap.size, 3, none⟩ = some (.slice (some ⟨bb, off, none⟩) n c) ∧ w'.cell? ⟨w2.heap.size, 0, none⟩ = some (.int .i64 b) ∧ w'.cell? ⟨w2.heap.size, 1, none⟩ = some (.int .i64 a) ∧ w'.cell? ⟨w2.heap.size, 2, none⟩ = some (.int .i64 M) ∧ w'.cell? ⟨w2.heap.size, 3, none⟩ = some (.slice (some ⟨g, 0, none⟩) n n) ∧ w'.cell? ⟨bb, off + q2 + m, none⟩ = some (.int .i64 v))
            (exact keepS.out _ (by repeat (first | refine Only.drew ?_ | refine Only.setCell ?_ rfl _ | exact Only.of_below qB2 g | exact Only.of_below qB1 g | exact Only.refl wr g)))
            (first | (go_at_call_of 53 (Value.int .i64 (y : Int)); refine (row_at y q rfl (Nat.le_refl _) (by omega) hq.out.symm (by omega) hl1' (by omega) (by omega)).mono ?_; rintro e qw1 ⟨rfl, qh1⟩; have qB1 : Below wr.heap.size wr qw1 := Below.trans (by repeat (first | refine Below.drew ?_ | exact qB2 | exact Below.refl _ _)) (qh1.mono (by first | omega | (simp <;> omega))); obtain ⟨t1, t2, t3⟩ := keepT.out _ qB1) | (go_at_call_of 53 (Value.int .i64 (x : Int)); refine (row_at x q2 rfl hncap hccap hq2.out.symm (by omega) hl2' (by omega) (by omega)).mono ?_; rintro e qw2 ⟨rfl, qh2⟩; have qB2 : Below wr.heap.size wr qw2 := Below.trans (by repeat (first | refine Below.drew ?_ | exact qB1 | exact Below.refl _ _)) (qh2.mono (by first | omega | (simp <;> omega))); obtain ⟨t1, t2, t3⟩ := keepT.out _ qB2))
          go_wp2
          go_roundw
          case rel => exact ⟨x + 1, _, hltx, by go_num, TurnI.next ⟨k0, k1, k5, hbz, hfill, hs, hB, hsz5⟩ qB2 (by omega) hgB hbbw (by rw [hq.out]; exact hl1) hval.out (by rw [hq.out]) (by omega)⟩
          case measure => simp [intOf]; omega
        · obtain rfl : x = b := by omega
          go_wp2
          go_roundw
          case rel => exact ⟨y + 1, L, hlt, by go_num, k0, k1, k5, hbz, hfill.at_ (by rw [Nat.add_mul, Nat.one_mul]), hs, hB, hsz5⟩
          case measure => simp [intOf]; omega
    · obtain rfl : y = a := by omega
      obtain ⟨⟨d8, d9, d10, d11⟩, f8, f9, f10, f11⟩ := k1.cells
      have hdone := Lib.hid ((hfill.at_ hfin.out.2).done)
      have hLn := Lib.hid hfill.1
      go_wp2
      refine bodyPost_ret (v := .tuple #[.agg #[.int .i64 b, .int .i64 y, .int .i64 M, .slice (some ⟨g, 0, none⟩) n n], .int .i64 0]) (by simp [results, Try.results30, go_sem, d8, d9, d10, d11, f8, f9, f10, f11]) rfl ?_
      refine ⟨_, _, _, rfl, ?_, ?_⟩
      · refine Bl.sl0 ?_ (by rw [turned, tab_length, hfin.out.2]) (Nat.le_refl _) (by omega)
        repeat (refine Bl.far ?_ (by simp <;> omega) _)
        rw [turned, hfin.out.2, ← hdone.out]
        exact hbz
      · repeat (refine Below.setCell ?_ (by simp <;> omega) _)
        exact hB

end Go.Proofs.Ytehnemdifkjhcaa
