/-
  Walk: isNumeral of package integer; bytes of a string.
-/
import Derived.Test.YtalbdjnanmcoeaaDoorTx
import Derived.Deep.Cut
namespace Go.Proofs.YtalbdjnanmcoeaaDoor
open Go.RowKit Num

/-- The byte with an index. -/
def byt (bs : List UInt8) (i : Nat) : Nat := (bs[i]?.getD 0).toNat
theorem byt_lt (bs : List UInt8) (i : Nat) : byt bs i < 256 := UInt8.toNat_lt _
theorem byt_mem {bs : List UInt8} {i : Nat} (h : i < bs.length) : bs[i]?.getD 0 ∈ bs := by
  rw [List.getElem?_eq_getElem h]
  exact List.getElem_mem h
theorem byt_drop (bs : List UInt8) (n i : Nat) : byt (bs.drop n) i = byt bs (n + i) := by unfold byt; rw [List.getElem?_drop]

theorem run_ix (bs : List UInt8) (i : Nat) (hi : i < bs.length) (k : IntKind) (W : World) :
    (Instr.index 9 (.string ⟨bs.toArray⟩) (.int k (i : Int))).run Tryd.prog W = .ok (.int .u8 ((byt bs i : Nat) : Int)) W := by
  have hs : (ByteArray.mk bs.toArray).size = bs.length := by simp [ByteArray.size]
  have hc : (0 : Int) ≤ (i : Int) ∧ (i : Int) < ((ByteArray.mk bs.toArray).size : Int) := by rw [hs]; omega
  rw [run_index_string (P := Tryd.prog) W 9 ⟨bs.toArray⟩ k (i : Int) (by kernel_rfl), dif_pos hc]
  congr 3
  unfold byt
  rw [List.getElem?_eq_getElem hi]
  simp only [Int.toNat_natCast, Option.getD_some]
  rfl

theorem str_size (bs : List UInt8) : (ByteArray.mk bs.toArray).size = bs.length := by simp [ByteArray.size]
theorem str_list (bs : List UInt8) : (ByteArray.mk bs.toArray).toList = bs := ByteArray.toList_mk bs
theorem str_nil : (ByteArray.mk #[]).toList = [] := ByteArray.toList_mk []

theorem head_byt {bs : List UInt8} (h : bs ≠ []) {c : UInt8} : bs.head? = some c ↔ byt bs 0 = c.toNat := by
  cases bs with
  | nil => exact absurd rfl h
  | cons y ys =>
    simp [byt]
    exact ⟨fun e => by rw [e], fun e => UInt8.toNat_inj.1 e⟩
theorem dg_byt {bs : List UInt8} : (∀ b ∈ bs, isDg b) ↔ ∀ i, i < bs.length → 48 ≤ byt bs i ∧ byt bs i ≤ 57 := by
  constructor
  · intro h i hi
    exact h _ (byt_mem hi)
  · intro h b hb
    obtain ⟨i, hi, rfl⟩ := List.mem_iff_getElem.1 hb
    have := h i hi
    unfold byt at this
    rw [List.getElem?_eq_getElem hi] at this
    exact this

/-- The call tells whether p, and changes nothing. -/
def RetB (w : World) (p : Prop) (e : Ending) (w' : World) : Prop := ∃ b, e = .returned (.bool b) ∧ (b = true ↔ p) ∧ ∃ q, w' = w.drewN q
theorem RetB.yes {w : World} {p : Prop} {q : Nat} {e : Ending} (h : p) (he : e = .returned (.bool true)) : RetB w p e (w.drewN q) := ⟨true, he, by simp [h], q, rfl⟩
theorem RetB.no {w : World} {p : Prop} {q : Nat} {e : Ending} (h : ¬ p) (he : e = .returned (.bool false)) : RetB w p e (w.drewN q) := ⟨false, he, by simp [h], q, rfl⟩
theorem RetB.yes0 {w : World} {p : Prop} {e : Ending} (h : p) (he : e = .returned (.bool true)) : RetB w p e w := ⟨true, he, by simp [h], 0, rfl⟩
theorem RetB.no0 {w : World} {p : Prop} {e : Ending} (h : ¬ p) (he : e = .returned (.bool false)) : RetB w p e w := ⟨false, he, by simp [h], 0, rfl⟩

set_option maxRecDepth 100000 in
set_option maxHeartbeats 1600000 in
/-- isNumeral. -/
theorem isNumeral_any (bs : List UInt8) (w : World) (hl : bs.length ≤ 1000000000) :
    Calls Tryd.prog 76 #[.string ⟨bs.toArray⟩] w (RetB w (Numl bs)) := by
  have hix := fun i hi => run_ix bs i hi
  have hsz := str_size bs
  obtain ⟨n, hn⟩ : ∃ n, bs.length = n := ⟨_, rfl⟩
  rw [hn] at hsz hl hix
  have hli := str_list bs
  obtain ⟨s, hs⟩ : ∃ s, ByteArray.mk bs.toArray = s := ⟨_, rfl⟩
  rw [hs] at hsz hix hli ⊢
  replace hs := Lib.hid hs
  by_cases h0 : n = 0
  · subst h0
    have hbn : bs = [] := List.length_eq_zero_iff.1 hn
    have h1 : (s.toList == (ByteArray.mk #[]).toList) = true := by rw [hli, hbn, str_nil]; rfl
    replace hbn := Lib.hid hbn
    go_enter Tryd.func76, Tryd.ntmps76
    go_wp2
    go_ret
    exact RetB.no0 (by rw [hbn.out]; simp [Numl]) rfl
  · have hne : bs ≠ [] := fun e => by rw [e] at hn; exact h0 hn.symm
    have h1 : s.toList.isEmpty = false := by
      rw [hli]
      cases bs with
      | nil => exact absurd rfl hne
      | cons y ys => rfl
    obtain ⟨c0, hc0⟩ : ∃ c0, byt bs 0 = c0 := ⟨_, rfl⟩
    have hnz : ∀ k W, (Instr.index 9 (.string s) (.int k 0)).run Tryd.prog W = .ok (.int .u8 ((c0 : Nat) : Int)) W := by rw [← hc0]; exact hix 0 (by omega)
    have hhead : bs.head? = some 48 ↔ c0 = 48 := by rw [head_byt hne, hc0]; rfl
    replace hhead := Lib.hid hhead
    replace hc0 := Lib.hid hc0
    replace hli := Lib.hid hli
    replace hne := Lib.hid hne
    replace hix := Lib.hid hix
    by_cases hz : c0 = 48 ∧ 1 < n
    · obtain ⟨rfl, hn1⟩ := hz
      have hn1' : (1 : Int) < (n : Int) := by omega
      go_enter Tryd.func76, Tryd.ntmps76
      go_wp2
      go_ret
      exact RetB.no0 (fun h => by have := h.2.2 (hhead.out.2 (by trivial)); omega) rfl
    · have hnl : c0 = 48 → ¬ (1 : Int) < (n : Int) := fun e h => hz ⟨e, by omega⟩
      have hnumI : (∀ i, i < n → 48 ≤ byt bs i ∧ byt bs i ≤ 57) → Numl bs := fun h => ⟨hne.out, dg_byt.2 (by rw [hn]; exact h), fun e => by
        have e2 := hhead.out.1 e
        have := hnl e2
        omega⟩
      have hnumN : ∀ i, i < n → ¬ (48 ≤ byt bs i ∧ byt bs i ≤ 57) → ¬ Numl bs := fun i hi h hN => h (dg_byt.1 hN.2.1 i (by rw [hn]; exact hi))
      replace hnumI := Lib.hid hnumI
      replace hnumN := Lib.hid hnumN
      clear hz
      have hcc : (((c0 : Int) == 48) = false) ∨ (c0 = 48 ∧ ¬ (1 : Int) < (n : Int)) := by
        by_cases h : c0 = 48
        · exact .inr ⟨h, hnl h⟩
        · exact .inl (by rw [beq_eq_false_iff_ne]; omega)
      clear hhead hnl
      rcases hcc with hcc | ⟨rfl, hcc⟩
      all_goals
        go_enter Tryd.func76, Tryd.ntmps76
        go_wp2
        go_loopw [18, 3] (fun v _ wr => ∃ i, i ≤ n ∧ v = .int .i64 ((i : Nat) : Int) ∧ (∀ j, j < i → 48 ≤ byt bs j ∧ byt bs j ≤ 57) ∧ ∃ q, wr = w.drewN q) (fun v _ _ => n - (intOf v).toNat)
        case atStart => exact ⟨0, Nat.zero_le _, rfl, fun j hj => by omega, 0, rfl⟩
        case round =>
          obtain ⟨i, hi, rfl, hdg, q, rfl⟩ := hrel
          replace hdg := Lib.hid hdg
          by_cases hlt : i < n
          · have hb := hix.out i hlt
            have hnN := hnumN.out i hlt
            obtain ⟨d, hd⟩ : ∃ d, byt bs i = d := ⟨_, rfl⟩
            rw [hd] at hb hnN
            replace hnN := Lib.hid hnN
            replace hd := Lib.hid hd
            by_cases hlo : d < 48
            · have hlo' : (d : Int) < 48 := by omega
              go_wp2
              go_ret
              exact RetB.no (hnN.out (by have := hd.out; omega)) rfl
            · by_cases hhi : 57 < d
              · go_wp2
                go_ret
                exact RetB.no (hnN.out (by have := hd.out; omega)) rfl
              · go_wp2
                go_roundw
                case rel => exact ⟨i + 1, hlt, by go_num, fun j hj => by
                  rcases Nat.lt_or_ge j i with h | h
                  · exact hdg.out j h
                  · obtain rfl : j = i := by omega
                    have := hd.out
                    omega, q, rfl⟩
                case measure => simp [intOf]; omega
          · obtain rfl : i = n := by omega
            go_wp2
            go_ret
            exact RetB.yes (hnumI.out hdg.out) rfl

end Go.Proofs.YtalbdjnanmcoeaaDoor
