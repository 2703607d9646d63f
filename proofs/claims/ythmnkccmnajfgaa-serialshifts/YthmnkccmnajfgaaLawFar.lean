/-
  SerialFar's walk.
-/
import Derived.Test.YthmnkccmnajfgaaAlive
namespace Go.Proofs.Ythmnkccmnajfgaa
open Go.RowKit
set_option linter.unusedVariables false
def IntRow (k : IntKind) (w : World) (a : Option Addr) (len cap : Nat) (zs : List Int) : Prop :=
  (a = none ∧ len = 0 ∧ cap = 0 ∧ zs = []) ∨
  ∃ x, a = some x ∧ len ≤ cap ∧ cap ≤ maxLen ∧ zs.length = cap ∧ (∀ i, i < zs.length → w.cell? (x.add i) = some (.int k (zs.getD i 0))) ∧ ∀ n ∈ zs, (Lit.int k n).wf = true
/-- What the walks want of a slice of numbers that came in: its first len numbers are at a row of cells (of no cell, if len is 0). -/
theorem IntRow.open {k : IntKind} {w : World} {a : Option Addr} {len cap : Nat} {zs : List Int} (h : IntRow k w a len cap zs) :
    ∃ (b off : Nat), len ≤ 9223372036854775807 ∧ (0 < len → a = some ⟨b, off, none⟩) ∧ (∀ i, i < len → b < w.heap.size ∧ w.cell? ⟨b, off + i, none⟩ = some (.int k (zs.getD i 0)) ∧ (Lit.int k (zs.getD i 0)).wf = true) := by
  rcases h with ⟨rfl, rfl, rfl, rfl⟩ | ⟨⟨b, off, sp⟩, rfl, hl, hm, hz, hc, hw⟩
  · exact ⟨0, 0, by omega, fun h => by omega, fun i h => by omega⟩
  · have hsp : 0 < len → sp = none := fun h0 => by
      have := World.cell?_spot (hc 0 (by omega))
      simpa [Addr.add] using this
    refine ⟨b, off, by unfold maxLen at hm; omega, fun h0 => by rw [hsp h0], fun i hi => ?_⟩
    have hs := hsp (by omega)
    subst hs
    have h1 := hc i (by omega)
    rw [show (Addr.add ⟨b, off, none⟩ i) = ⟨b, off + i, none⟩ from by unfold Addr.add; split <;> simp_all] at h1
    refine ⟨?_, h1, ?_⟩
    · simp only [World.cell?] at h1
      by_cases hb : b < w.heap.size
      · exact hb
      · simp [Array.getElem?_eq_none (Nat.le_of_not_lt hb)] at h1
    · have : zs.getD i 0 ∈ zs := by
        rw [List.getD_eq_getElem?_getD, List.getElem?_eq_getElem (by omega)]; simp
      exact hw _ this
/-- How far the steps have come. -/
def Far.at (zs : List Int) : Nat → Int
  | 0 => 0
  | i + 1 => if zs.getD i 0 = -32768 ∨ Far.at zs i + zs.getD i 0 < -2147483648 then Far.at zs i else max (Far.at zs i) (Far.at zs i + zs.getD i 0)
theorem Far.at_bd (zs : List Int) (hz : ∀ i, -32768 ≤ zs.getD i 0 ∧ zs.getD i 0 ≤ 32767) (i : Nat) : 0 ≤ Far.at zs i ∧ Far.at zs i ≤ 32767 * i := by
  induction i with
  | zero => simp [Far.at]
  | succ i ih => have := hz i; simp only [Far.at]; split <;> omega
theorem Far.extend (f h at' s : Int) (hf : 0 ≤ f ∧ f < 65536) (hh : h = 4294967296 + f + at') (h0 : 0 ≤ at') (h1 : at' ≤ 4000000) (hs : -32767 ≤ s ∧ s ≤ 32767) :
    Ser.extend h (Ser.add f (at' + s)) = 4294967296 + f + (at' + s) := by
  unfold Ser.extend Ser.add Ser.ahead
  rw [if_neg (by omega)]
  subst hh
  omega

theorem Wd.alloc (w : World) : Wd w.heap.size 0 (w.alloc (.cells #[.int .i64 0] 34)) := ⟨by simp [go_sem], by simp [go_sem]⟩
theorem of_far (b : Nat) (h n v h' : Int) (w : World) (hw : Wd b h w) (hh : WdOk h) (hn : 0 ≤ n) (hn' : n < 65536) (hv : Hid (Ser.extend h n = v)) (hh' : Hid (Ser.high h n = h')) :
    Calls Try.prog 22 #[.pointer (some ⟨b, 0, none⟩), .int .u16 n] w (OfPost b v h' w) := by
  rw [← hv.out, ← hh'.out]; exact of_any b h n w hw hh hn hn'
set_option maxHeartbeats 1000000 in
theorem walk_SerialFar (f : Int) (a : Option Addr) (len cap : Nat) (zs : List Int) (w : World) (hf : 0 ≤ f ∧ f < 65536) (hr : IntRow .i16 w a len cap zs) :
    Calls Try.prog 7 #[.int .u16 f, .slice a len cap] w (TrueBelow w) := by
  obtain ⟨b, off, hlen, ha, hc⟩ := hr.open
  obtain ⟨hf1, hf2⟩ := hf
  by_cases h100 : 100 < len
  · have h1 : (100 : Int) < (len : Int) := by omega
    clear hc ha hr
    go_enter Try.func7, Try.ntmps7
    go_wp2_with (go_at_call 9; refine (alive_any _).mono ?_; rintro e w1 ⟨rfl, hB⟩)
    go_ret
    exact ⟨rfl, hB⟩
  · have h1 : ¬ (100 : Int) < (len : Int) := by omega
    have hbd : ∀ i, i ≤ len → 0 ≤ Far.at zs i ∧ Far.at zs i ≤ 32767 * i := by
      intro i hi
      induction i with
      | zero => simp [Far.at]
      | succ i ih => have := ih (by omega); have := wf_i16 (hc i (by omega)).2.2; simp only [Far.at]; split <;> omega
    have HC := Lib.hid hc; clear hc
    have HA := Lib.hid ha; clear ha hr
    have HB := Lib.hid hbd; clear hbd
    go_enter Try.func7, Try.ntmps7
    go_wp2_with fail
    refine (alive_any _).mono ?_
    rintro e w1 ⟨rfl, hB⟩
    have HB1 := Lib.hid hB; clear hB
    go_wp2_with fail
    refine (of_far w1.heap.size 0 f (4294967296 + f) (4294967296 + f) _ (Wd.alloc w1) (.inl rfl) hf1 hf2 (Lib.hid (by simp [Ser.extend])) (Lib.hid (by unfold Ser.high Ser.extend; simp; omega))).mono ?_
    rintro e w2 ⟨rfl, hW2, hG2, hz2⟩
    have hB2 : Below w.heap.size w w2 := (HB1.out.alloc HB1.out.size _).grown hG2 (by have := HB1.out.size; simp; omega) (fun k h => by injection h with h; have := HB1.out.size; omega)
    have hz3 : w1.heap.size < w2.heap.size := by rw [hz2]; simp
    have hle : w.heap.size ≤ w1.heap.size := HB1.out.size
    have HB2 := Lib.hid hB2; have HW2 := Lib.hid hW2
    clear hz2 hG2 hB2 hW2 HB1
    go_wp2
    go_loopw [7, 21] (fun h i wr => ∃ k : Nat, k ≤ len ∧ i = .int .i64 k ∧ h = .int .i64 (Far.at zs k) ∧ Hid (Wd w1.heap.size (4294967296 + f + Far.at zs k) wr) ∧ Hid (Below w.heap.size w wr)  ∧ w1.heap.size < wr.heap.size) (fun _ i _ => len - (intOf i).toNat)
    case atStart => exact ⟨0, Nat.zero_le _, rfl, rfl, Lib.hid (by simpa [Far.at] using HW2.out), HB2, hz3⟩
    case round =>
      clear HB2 HW2 hz3
      obtain ⟨k, hk, rfl, rfl, HWk, HBk, hzk⟩ := hrel
      have hbk := HB.out k hk
      have hs : Far.at zs (k + 1) = if zs.getD k 0 = -32768 ∨ Far.at zs k + zs.getD k 0 < -2147483648 then Far.at zs k else max (Far.at zs k) (Far.at zs k + zs.getD k 0) := rfl
      by_cases hlt : k < len
      · obtain ⟨hb, hck, hwf⟩ := HC.out k hlt
        have ck : wr.cell? ⟨b, off + k, none⟩ = some (.int .i16 (zs.getD k 0)) := (HBk.out.cell (p := ⟨b, off + k, none⟩) hb).trans hck
        have hwf := wf_i16 hwf
        obtain rfl := HA.out (by omega)
        generalize zs.getD k 0 = z at *
        have HS := Lib.hid hs; clear hs hck
        obtain ⟨hb0, hb1⟩ := hbk
        obtain ⟨hz0, hz1⟩ := hwf
        have hw := HWk.out
        generalize hA : Far.at zs k = A at *
        by_cases hm : z = -32768
        · subst hm
          go_wp2
          go_roundw
          case rel => exact ⟨k + 1, by omega, by go_num, val_int (by rw [HS.out]; simp), Lib.hid (by rw [HS.out]; simpa using hw), HBk, hzk⟩
          case measure => simp [intOf]; omega
        · have hm1 : (z == -32768) = false := beq_eq_false_iff_ne.2 hm
          have hm2 : ¬ A + z < -2147483648 := by omega
          have E := Far.extend f (4294967296 + f + A) A z ⟨hf1, hf2⟩ rfl hb0 (by omega) (by omega)
          have nb := Ser.add_bd f (A + z)
          have HE := Lib.hid E; clear E hA
          have hS : Far.at zs (k + 1) = max A (A + z) := by rw [HS.out, if_neg (by omega)]
          have HS2 := Lib.hid hS; clear hS HS hw
          go_wp2_with fail
          refine (add_any _ _ _).mono ?_
          rintro e w' ⟨rfl, rfl⟩
          go_wp2_with fail
          have Hh : Hid (Ser.high (4294967296 + f + A) (Ser.add f (A + z)) = 4294967296 + f + max A (A + z)) := by
            show _ = _
            unfold Ser.high; rw [HE.out]; split <;> omega
          refine (of_far _ _ _ _ _ _ HWk.out (.inr ⟨by omega, by omega⟩) nb.1 nb.2 HE Hh).mono ?_
          rintro e w3 ⟨rfl, hW3, hG3, hz3⟩
          have hB3 : Below w.heap.size w w3 := HBk.out.grown hG3 (by omega) (fun k h => by injection h with h; omega)
          have HW3 := Lib.hid hW3; have HB3 := Lib.hid hB3
          clear hW3 hG3 hB3 HWk HBk ck
          have he : 4294967296 + f + (A + z) - (4294967296 + f) = A + z := by omega
          go_wp2
          all_goals
            go_roundw
            case rel => exact ⟨k + 1, by omega, by go_num, val_int (by rw [HS2.out]; omega), Lib.hid (by rw [HS2.out]; exact HW3.out), HB3, by omega⟩
            case measure => simp [intOf]; omega
      · obtain rfl : k = len := by omega
        obtain ⟨hb0, hb1⟩ := hbk
        have hw := HWk.out.cell
        have he : 4294967296 + f + Far.at zs k - (4294967296 + f) = Far.at zs k := by omega
        clear hs
        go_wp2_with (go_at_call 24; refine (highest_any _ _ _ HWk.out.cell).mono ?_; rintro e w' ⟨rfl, rfl⟩)
        go_ret
        exact ⟨rfl, HBk.out⟩
end Go.Proofs.Ythmnkccmnajfgaa
