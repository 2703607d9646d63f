/-
  Plain numbers: what serial's functions come to. No Go here.
-/
import Derived.WalkKit
import Derived.Laws.BitsLemmas
import Derived.Test.YtedhmoihlfjbdaaRows
import Derived.ProofKit
import Derived.OpenShut
import Derived.Lib.Hide
namespace Go.Proofs.Ytedhmoihlfjbdaa
open Go.RowKit

theorem u16w (n : Int) : IntKind.u16.wrap n = n % 65536 := by
  simp [IntKind.wrap, IntKind.bits, IntKind.signed]
theorem u32w (n : Int) : IntKind.u32.wrap n = n % 4294967296 := by
  simp [IntKind.wrap, IntKind.bits, IntKind.signed]
theorem i16w (n : Int) : IntKind.i16.wrap n = (n + 32768) % 65536 - 32768 := by
  simp [IntKind.wrap, IntKind.bits, IntKind.signed]; split <;> omega
theorem i32w (n : Int) : IntKind.i32.wrap n = (n + 2147483648) % 4294967296 - 2147483648 := by
  simp [IntKind.wrap, IntKind.bits, IntKind.signed]; split <;> omega
theorem w64_in (n : Int) (h : -9223372036854775808 ≤ n) (h' : n ≤ 9223372036854775807) : wrap64 n = n := by
  unfold wrap64; omega

def Ser.ahead (a b : Int) : Int := (a - b + 32768) % 65536 - 32768
def Ser.ahead32 (a b : Int) : Int := (a - b + 2147483648) % 4294967296 - 2147483648
def Ser.add (a n : Int) : Int := (a + n) % 65536
def Ser.add32 (a n : Int) : Int := (a + n) % 4294967296
def Ser.newer (a b : Int) : Bool := decide (0 < Ser.ahead a b)
def Ser.later (a b : Int) : Int := if Ser.newer b a then b else a
theorem Ser.ahead_bd (a b : Int) : -32768 ≤ Ser.ahead a b ∧ Ser.ahead a b ≤ 32767 := by unfold Ser.ahead; omega
theorem Ser.ahead32_bd (a b : Int) : -2147483648 ≤ Ser.ahead32 a b ∧ Ser.ahead32 a b ≤ 2147483647 := by unfold Ser.ahead32; omega
theorem Ser.add_bd (a b : Int) : 0 ≤ Ser.add a b ∧ Ser.add a b < 65536 := by unfold Ser.add; omega
theorem Ser.add32_bd (a b : Int) : 0 ≤ Ser.add32 a b ∧ Ser.add32 a b < 4294967296 := by unfold Ser.add32; omega
/-- What a Wide tells of a number, where its highest one is h (0: none yet). -/
def Ser.extend (h n : Int) : Int := if h = 0 then 4294967296 + n else h + Ser.ahead n (h % 65536)

theorem ret_int {k : IntKind} {a b : Int} (h : a = b) : Ending.returned (.int k a) = .returned (.int k b) := by rw [h]
theorem ret_bool {a b : Bool} (h : a = b) : Ending.returned (.bool a) = .returned (.bool b) := by rw [h]
theorem tmod_cases (n m : Int) : n.tmod m = if 0 ≤ n then n % m else -((-n) % m) := by
  split
  · rename_i h; exact Int.tmod_eq_emod_of_nonneg h
  · rename_i h
    have : n = -(-n) := by omega
    rw [this, Int.neg_tmod, Int.tmod_eq_emod_of_nonneg (by omega)]; simp
theorem wf_u16 {a : Int} (h : (Lit.int .u16 a).wf = true) : 0 ≤ a ∧ a < 65536 := by
  simp [Lit.wf, IntKind.min, IntKind.max, IntKind.bits, IntKind.signed] at h; omega
theorem wf_u32 {a : Int} (h : (Lit.int .u32 a).wf = true) : 0 ≤ a ∧ a < 4294967296 := by
  simp [Lit.wf, IntKind.min, IntKind.max, IntKind.bits, IntKind.signed] at h; omega
theorem wf_i64 {a : Int} (h : (Lit.int .i64 a).wf = true) : -9223372036854775808 ≤ a ∧ a ≤ 9223372036854775807 := by
  simp [Lit.wf, IntKind.min, IntKind.max, IntKind.bits, IntKind.signed] at h; omega
theorem wf_i16 {a : Int} (h : (Lit.int .i16 a).wf = true) : -32768 ≤ a ∧ a ≤ 32767 := by
  simp [Lit.wf, IntKind.min, IntKind.max, IntKind.bits, IntKind.signed] at h; omega
theorem wf_u64 {a : Int} (h : (Lit.int .u64 a).wf = true) : 0 ≤ a ∧ a < 18446744073709551616 := by
  simp [Lit.wf, IntKind.min, IntKind.max, IntKind.bits, IntKind.signed] at h; omega
theorem i64_mask (n : Int) (k : Nat) (hk : k < 63) (m : Int) (hm : m = ((2 ^ k : Nat) : Int) - 1) : bits .and .i64 n m = n % ((2 ^ k : Nat) : Int) := by
  have hp : 0 < 2 ^ k := Nat.two_pow_pos k
  have hle : 2 ^ k ≤ 2 ^ 62 := Nat.pow_le_pow_right (by decide) (by omega)
  have hmn : (BitVec.ofInt 64 m).toNat = 2 ^ k - 1 := by
    rw [BitVec.toNat_ofInt, hm]
    have : (((2 ^ k : Nat) : Int) - 1) % ((2 ^ 64 : Nat) : Int) = ((2 ^ k : Nat) : Int) - 1 := Int.emod_eq_of_lt (by omega) (by omega)
    rw [this]; omega
  have key : (BitVec.ofInt 64 n &&& BitVec.ofInt 64 m).toNat = (n % ((2 ^ 64 : Nat) : Int)).toNat % 2 ^ k := by
    rw [BitVec.toNat_and, BitVec.toNat_ofInt, hmn, Nat.and_two_pow_sub_one_eq_mod]
  have hdvd : ((2 ^ k : Nat) : Int) ∣ ((2 ^ 64 : Nat) : Int) := by
    exact Int.natCast_dvd_natCast.2 (Nat.pow_dvd_pow 2 (by omega))
  have e1 : (((n % ((2 ^ 64 : Nat) : Int)).toNat % 2 ^ k : Nat) : Int) = n % ((2 ^ k : Nat) : Int) := by
    rw [Int.natCast_emod, Int.toNat_of_nonneg (Int.emod_nonneg _ (by omega)), Int.emod_emod_of_dvd _ hdvd]
  have b1 := Int.emod_nonneg n (show ((2 ^ k : Nat) : Int) ≠ 0 by omega)
  have b2 := Int.emod_lt_of_pos n (show (0 : Int) < ((2 ^ k : Nat) : Int) by omega)
  show IntKind.i64.wrap ((BitVec.ofInt 64 n &&& BitVec.ofInt 64 m).toNat : Nat) = _
  rw [key, e1, IntKind.wrap_i64]
  generalize n % ((2 ^ k : Nat) : Int) = r at *
  generalize 2 ^ k = q at *
  omega
theorem and16383 (n : Int) : bits .and .i64 n 16383 = n % 16384 := i64_mask n 14 (by decide) _ (by decide)
theorem and65535 (n : Int) : bits .and .i64 n 65535 = n % 65536 := i64_mask n 16 (by decide) _ (by decide)
theorem and127 (n : Int) : bits .and .i64 n 127 = n % 128 := i64_mask n 7 (by decide) _ (by decide)
theorem and63 (n : Int) : bits .and .i64 n 63 = n % 64 := i64_mask n 6 (by decide) _ (by decide)
end Go.Proofs.Ytedhmoihlfjbdaa
namespace Go.Proofs.Ytedhmoihlfjbdaa
open Go.RowKit
set_option linter.unusedVariables false

theorem ahead_any (a b : Int) (w : World) :
    Calls Try.prog 128 #[.int .u16 a, .int .u16 b] w fun e w' => e = .returned (.int .i64 (Ser.ahead a b)) ∧ w = w' := by
  go_enter Try.func128, Try.ntmps128
  go_wp2
  go_ret
  refine ⟨ret_int ?_, rfl⟩
  rw [u16w, i16w, w64_in _ (by omega) (by omega)]; unfold Ser.ahead; omega
theorem refahead_any (a b : Int) (ha : 0 ≤ a) (ha' : a < 65536) (hb : 0 ≤ b) (hb' : b < 65536) (w : World) :
    Calls Try.prog 133 #[.int .u16 a, .int .u16 b] w fun e w' => e = .returned (.int .i64 (Ser.ahead a b)) ∧ w = w' := by
  go_enter Try.func133, Try.ntmps133
  go_wp2
  all_goals go_ret
  all_goals (refine ⟨ret_int ?_, rfl⟩; unfold Ser.ahead; omega)
theorem add_any (a n : Int) (w : World) :
    Calls Try.prog 129 #[.int .u16 a, .int .i64 n] w fun e w' => e = .returned (.int .u16 (Ser.add a n)) ∧ w = w' := by
  go_enter Try.func129, Try.ntmps129
  go_wp2
  all_goals go_ret
  refine ⟨ret_int ?_, rfl⟩
  rw [u16w, u16w]; unfold Ser.add; omega
theorem refadd_any (a n : Int) (ha : 0 ≤ a) (ha' : a < 65536) (hb : -9223372036854775808 ≤ n) (hb' : n ≤ 9223372036854775807) (w : World) :
    Calls Try.prog 100 #[.int .u16 a, .int .i64 n] w fun e w' => e = .returned (.int .u16 (Ser.add a n)) ∧ w = w' := by
  have hm := tmod_cases n 65536
  go_enter Try.func100, Try.ntmps100
  go_wp2
  all_goals go_ret
  all_goals (refine ⟨ret_int ?_, rfl⟩; unfold Ser.add; omega)
end Go.Proofs.Ytedhmoihlfjbdaa
namespace Go.Proofs.Ytedhmoihlfjbdaa
open Go.RowKit
set_option linter.unusedVariables false
def Ser.lo (d : Array Int) : Nat → Int | 0 => 0 | k + 1 => min (Ser.lo d k) (Ser.ahead d[k]! d[0]!)
def Ser.hi (d : Array Int) : Nat → Int | 0 => 0 | k + 1 => max (Ser.hi d k) (Ser.ahead d[k]! d[0]!)
theorem Ser.lo_bd (d : Array Int) (k : Nat) : -32768 ≤ Ser.lo d k ∧ Ser.lo d k ≤ 0 := by
  induction k with
  | zero => simp [Ser.lo]
  | succ k ih => have := Ser.ahead_bd d[k]! d[0]!; simp only [Ser.lo]; omega
theorem Ser.hi_bd (d : Array Int) (k : Nat) : 0 ≤ Ser.hi d k ∧ Ser.hi d k ≤ 32767 := by
  induction k with
  | zero => simp [Ser.hi]
  | succ k ih => have := Ser.ahead_bd d[k]! d[0]!; simp only [Ser.hi]; omega
theorem val_int {k : IntKind} {a b : Int} (h : a = b) : Value.int k a = .int k b := by rw [h]
theorem span_none (a : Option Addr) (cap : Nat) (w : World) :
    Calls Try.prog 89 #[.slice a 0 cap] w fun e w' => e = .returned (.tuple #[.int .u16 0, .int .i64 0]) ∧ w = w' := by
  go_enter Try.func89, Try.ntmps89
  go_wp2
  go_ret2
  exact ⟨rfl, rfl⟩
set_option maxHeartbeats 400000 in
theorem span_any (blk off cap : Nat) (d : Array Int) (w : World) (hcell : Hid (∀ j, j < d.size → w.cell? ⟨blk, off + j, none⟩ = some (.int .u16 d[j]!))) (h0 : 0 < d.size) (hsz : d.size < 4611686018427387904) :
    Calls Try.prog 89 #[.slice (some ⟨blk, off, none⟩) d.size cap] w fun e w' => e = .returned (.tuple #[.int .u16 (Ser.add d[0]! (Ser.lo d d.size)), .int .i64 (Ser.hi d d.size - Ser.lo d d.size)]) ∧ w = w' := by
  have hz : ((d.size : Int) == 0) = false := beq_eq_false_iff_ne.2 (by omega)
  have hp : (0 : Int) < (d.size : Int) := by omega
  have c0 := hcell.out 0 h0
  simp only [Nat.add_zero] at c0
  generalize hx : d[0]! = x at *
  have X := Lib.hid hx; clear hx
  go_enter Try.func89, Try.ntmps89
  go_wp2
  go_loop [4, 5, 14] (fun l h i => ∃ k : Nat, k ≤ d.size ∧ i = .int .i64 k ∧ l = .int .i64 (Ser.lo d k) ∧ h = .int .i64 (Ser.hi d k)) (fun _ _ i => d.size - (intOf i).toNat)
  case atStart => exact ⟨0, Nat.zero_le _, rfl, rfl, rfl⟩
  case round =>
    obtain ⟨k, hk, rfl, rfl, rfl⟩ := hrel
    by_cases hlt : k < d.size
    · have ck := hcell.out k hlt
      have hl : Ser.lo d (k + 1) = min (Ser.lo d k) (Ser.ahead d[k]! d[0]!) := rfl
      have hh : Ser.hi d (k + 1) = max (Ser.hi d k) (Ser.ahead d[k]! d[0]!) := rfl
      rw [X.out] at hl hh
      generalize d[k]! = y at ck hl hh
      have HL := Lib.hid hl; clear hl
      have HH := Lib.hid hh; clear hh
      go_wp2_with (go_at_call 128; refine (ahead_any _ _ _).mono ?_; rintro e w' ⟨rfl, rfl⟩)
      all_goals
        go_round
        case rel => exact ⟨k + 1, by omega, by go_num, val_int (by rw [HL.out]; split <;> omega), val_int (by rw [HH.out]; split <;> omega)⟩
        case measure => simp [intOf]; omega
    · have hb := Ser.lo_bd d d.size
      have hb' := Ser.hi_bd d d.size
      obtain rfl : k = d.size := by omega
      go_wp2_with (go_at_call 129; refine (add_any _ _ _).mono ?_; rintro e w' ⟨rfl, rfl⟩)
      go_ret2
      exact ⟨rfl, rfl⟩
end Go.Proofs.Ytedhmoihlfjbdaa
