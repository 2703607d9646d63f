/-
  serial.Span.
-/
import Derived.Test.YthmnkccmnajfgaaLeaf
namespace Go.Proofs.Ythmnkccmnajfgaa
open Go.RowKit
set_option linter.unusedVariables false
def Ser.lo (d : Array Int) : Nat → Int | 0 => 0 | k + 1 => min (Ser.lo d k) (Ser.ahead d[k]! d[0]!)
def Ser.hi (d : Array Int) : Nat → Int | 0 => 0 | k + 1 => max (Ser.hi d k) (Ser.ahead d[k]! d[0]!)
theorem Ser.lo_bd (d : Array Int) (k : Nat) : -32768 ≤ Ser.lo d k ∧ Ser.lo d k ≤ 0 := by
  induction k with
  | zero => simp [Ser.lo]
  | succ k ih => have := Ser.ahead_bd d[k]! d[0]!; simp only [Ser.lo]; omega
theorem Ser.hi_bd (d : Array Int) (k : Nat) : 0 ≤ Ser.hi d k ∧ Ser.hi d k ≤ 32767 := by
  induction k with
  | zero => simp [Ser.hi]
  | succ k ih => have := Ser.ahead_bd d[k]! d[0]!; simp only [Ser.hi]; omega
theorem val_int {k : IntKind} {a b : Int} (h : a = b) : Value.int k a = .int k b := by rw [h]
theorem span_none (a : Option Addr) (cap : Nat) (w : World) :
    Calls Try.prog 25 #[.slice a 0 cap] w fun e w' => e = .returned (.tuple #[.int .u16 0, .int .i64 0]) ∧ w = w' := by
  go_enter Try.func25, Try.ntmps25
  go_wp2
  go_ret2
  exact ⟨rfl, rfl⟩
set_option maxHeartbeats 400000 in
theorem span_any (blk off cap : Nat) (d : Array Int) (w : World) (hcell : Hid (∀ j, j < d.size → w.cell? ⟨blk, off + j, none⟩ = some (.int .u16 d[j]!))) (h0 : 0 < d.size) (hsz : d.size < 4611686018427387904) :
    Calls Try.prog 25 #[.slice (some ⟨blk, off, none⟩) d.size cap] w fun e w' => e = .returned (.tuple #[.int .u16 (Ser.add d[0]! (Ser.lo d d.size)), .int .i64 (Ser.hi d d.size - Ser.lo d d.size)]) ∧ w = w' := by
  have hz : ((d.size : Int) == 0) = false := beq_eq_false_iff_ne.2 (by omega)
  have hp : (0 : Int) < (d.size : Int) := by omega
  have c0 := hcell.out 0 h0
  simp only [Nat.add_zero] at c0
  generalize hx : d[0]! = x at *
  have X := Lib.hid hx; clear hx
  go_enter Try.func25, Try.ntmps25
  go_wp2
  go_loop [4, 5, 14] (fun l h i => ∃ k : Nat, k ≤ d.size ∧ i = .int .i64 k ∧ l = .int .i64 (Ser.lo d k) ∧ h = .int .i64 (Ser.hi d k)) (fun _ _ i => d.size - (intOf i).toNat)
  case atStart => exact ⟨0, Nat.zero_le _, rfl, rfl, rfl⟩
  case round =>
    obtain ⟨k, hk, rfl, rfl, rfl⟩ := hrel
    by_cases hlt : k < d.size
    · have ck := hcell.out k hlt
      have hl : Ser.lo d (k + 1) = min (Ser.lo d k) (Ser.ahead d[k]! d[0]!) := rfl
      have hh : Ser.hi d (k + 1) = max (Ser.hi d k) (Ser.ahead d[k]! d[0]!) := rfl
      rw [X.out] at hl hh
      generalize d[k]! = y at ck hl hh
      have HL := Lib.hid hl; clear hl
      have HH := Lib.hid hh; clear hh
      go_wp2_with (go_at_call 11; refine (ahead_any _ _ _).mono ?_; rintro e w' ⟨rfl, rfl⟩)
      all_goals
        go_round
        case rel => exact ⟨k + 1, by omega, by go_num, val_int (by rw [HL.out]; split <;> omega), val_int (by rw [HH.out]; split <;> omega)⟩
        case measure => simp [intOf]; omega
    · have hb := Ser.lo_bd d d.size
      have hb' := Ser.hi_bd d d.size
      obtain rfl : k = d.size := by omega
      go_wp2_with (go_at_call 16; refine (add_any _ _ _).mono ?_; rintro e w' ⟨rfl, rfl⟩)
      go_ret2
      exact ⟨rfl, rfl⟩
end Go.Proofs.Ythmnkccmnajfgaa
