/-
  Plain numbers: what serial's functions come to. No Go here.
-/
import Derived.WalkKit
import Derived.Laws.BitsLemmas
import Derived.Test.YtfmabpddacfbcaaRows
import Derived.ProofKit
import Derived.OpenShut
import Derived.Lib.Hide
namespace Go.Proofs.Ytfmabpddacfbcaa
open Go.RowKit

theorem u16w (n : Int) : IntKind.u16.wrap n = n % 65536 := by
  simp [IntKind.wrap, IntKind.bits, IntKind.signed]
theorem u32w (n : Int) : IntKind.u32.wrap n = n % 4294967296 := by
  simp [IntKind.wrap, IntKind.bits, IntKind.signed]
theorem i16w (n : Int) : IntKind.i16.wrap n = (n + 32768) % 65536 - 32768 := by
  simp [IntKind.wrap, IntKind.bits, IntKind.signed]; split <;> omega
theorem i32w (n : Int) : IntKind.i32.wrap n = (n + 2147483648) % 4294967296 - 2147483648 := by
  simp [IntKind.wrap, IntKind.bits, IntKind.signed]; split <;> omega
theorem w64_in (n : Int) (h : -9223372036854775808 ≤ n) (h' : n ≤ 9223372036854775807) : wrap64 n = n := by
  unfold wrap64; omega

def Ser.ahead (a b : Int) : Int := (a - b + 32768) % 65536 - 32768
def Ser.ahead32 (a b : Int) : Int := (a - b + 2147483648) % 4294967296 - 2147483648
def Ser.add (a n : Int) : Int := (a + n) % 65536
def Ser.add32 (a n : Int) : Int := (a + n) % 4294967296
def Ser.newer (a b : Int) : Bool := decide (0 < Ser.ahead a b)
def Ser.later (a b : Int) : Int := if Ser.newer b a then b else a
theorem Ser.ahead_bd (a b : Int) : -32768 ≤ Ser.ahead a b ∧ Ser.ahead a b ≤ 32767 := by unfold Ser.ahead; omega
theorem Ser.ahead32_bd (a b : Int) : -2147483648 ≤ Ser.ahead32 a b ∧ Ser.ahead32 a b ≤ 2147483647 := by unfold Ser.ahead32; omega
theorem Ser.add_bd (a b : Int) : 0 ≤ Ser.add a b ∧ Ser.add a b < 65536 := by unfold Ser.add; omega
theorem Ser.add32_bd (a b : Int) : 0 ≤ Ser.add32 a b ∧ Ser.add32 a b < 4294967296 := by unfold Ser.add32; omega
/-- What a Wide tells of a number, where its highest one is h (0: none yet). -/
def Ser.extend (h n : Int) : Int := if h = 0 then 4294967296 + n else h + Ser.ahead n (h % 65536)

theorem ret_int {k : IntKind} {a b : Int} (h : a = b) : Ending.returned (.int k a) = .returned (.int k b) := by rw [h]
theorem ret_bool {a b : Bool} (h : a = b) : Ending.returned (.bool a) = .returned (.bool b) := by rw [h]
theorem tmod_cases (n m : Int) : n.tmod m = if 0 ≤ n then n % m else -((-n) % m) := by
  split
  · rename_i h; exact Int.tmod_eq_emod_of_nonneg h
  · rename_i h
    have : n = -(-n) := by omega
    rw [this, Int.neg_tmod, Int.tmod_eq_emod_of_nonneg (by omega)]; simp
theorem wf_u16 {a : Int} (h : (Lit.int .u16 a).wf = true) : 0 ≤ a ∧ a < 65536 := by
  simp [Lit.wf, IntKind.min, IntKind.max, IntKind.bits, IntKind.signed] at h; omega
theorem wf_u32 {a : Int} (h : (Lit.int .u32 a).wf = true) : 0 ≤ a ∧ a < 4294967296 := by
  simp [Lit.wf, IntKind.min, IntKind.max, IntKind.bits, IntKind.signed] at h; omega
theorem wf_i64 {a : Int} (h : (Lit.int .i64 a).wf = true) : -9223372036854775808 ≤ a ∧ a ≤ 9223372036854775807 := by
  simp [Lit.wf, IntKind.min, IntKind.max, IntKind.bits, IntKind.signed] at h; omega
theorem wf_i16 {a : Int} (h : (Lit.int .i16 a).wf = true) : -32768 ≤ a ∧ a ≤ 32767 := by
  simp [Lit.wf, IntKind.min, IntKind.max, IntKind.bits, IntKind.signed] at h; omega
theorem wf_u64 {a : Int} (h : (Lit.int .u64 a).wf = true) : 0 ≤ a ∧ a < 18446744073709551616 := by
  simp [Lit.wf, IntKind.min, IntKind.max, IntKind.bits, IntKind.signed] at h; omega
theorem i64_mask (n : Int) (k : Nat) (hk : k < 63) (m : Int) (hm : m = ((2 ^ k : Nat) : Int) - 1) : bits .and .i64 n m = n % ((2 ^ k : Nat) : Int) := by
  have hp : 0 < 2 ^ k := Nat.two_pow_pos k
  have hle : 2 ^ k ≤ 2 ^ 62 := Nat.pow_le_pow_right (by decide) (by omega)
  have hmn : (BitVec.ofInt 64 m).toNat = 2 ^ k - 1 := by
    rw [BitVec.toNat_ofInt, hm]
    have : (((2 ^ k : Nat) : Int) - 1) % ((2 ^ 64 : Nat) : Int) = ((2 ^ k : Nat) : Int) - 1 := Int.emod_eq_of_lt (by omega) (by omega)
    rw [this]; omega
  have key : (BitVec.ofInt 64 n &&& BitVec.ofInt 64 m).toNat = (n % ((2 ^ 64 : Nat) : Int)).toNat % 2 ^ k := by
    rw [BitVec.toNat_and, BitVec.toNat_ofInt, hmn, Nat.and_two_pow_sub_one_eq_mod]
  have hdvd : ((2 ^ k : Nat) : Int) ∣ ((2 ^ 64 : Nat) : Int) := by
    exact Int.natCast_dvd_natCast.2 (Nat.pow_dvd_pow 2 (by omega))
  have e1 : (((n % ((2 ^ 64 : Nat) : Int)).toNat % 2 ^ k : Nat) : Int) = n % ((2 ^ k : Nat) : Int) := by
    rw [Int.natCast_emod, Int.toNat_of_nonneg (Int.emod_nonneg _ (by omega)), Int.emod_emod_of_dvd _ hdvd]
  have b1 := Int.emod_nonneg n (show ((2 ^ k : Nat) : Int) ≠ 0 by omega)
  have b2 := Int.emod_lt_of_pos n (show (0 : Int) < ((2 ^ k : Nat) : Int) by omega)
  show IntKind.i64.wrap ((BitVec.ofInt 64 n &&& BitVec.ofInt 64 m).toNat : Nat) = _
  rw [key, e1, IntKind.wrap_i64]
  generalize n % ((2 ^ k : Nat) : Int) = r at *
  generalize 2 ^ k = q at *
  omega
theorem and16383 (n : Int) : bits .and .i64 n 16383 = n % 16384 := i64_mask n 14 (by decide) _ (by decide)
theorem and65535 (n : Int) : bits .and .i64 n 65535 = n % 65536 := i64_mask n 16 (by decide) _ (by decide)
theorem and127 (n : Int) : bits .and .i64 n 127 = n % 128 := i64_mask n 7 (by decide) _ (by decide)
theorem and63 (n : Int) : bits .and .i64 n 63 = n % 64 := i64_mask n 6 (by decide) _ (by decide)
end Go.Proofs.Ytfmabpddacfbcaa
namespace Go.Proofs.Ytfmabpddacfbcaa
open Go.RowKit
set_option linter.unusedVariables false

theorem add32_any (a n : Int) (w : World) :
    Calls Try.prog 27 #[.int .u32 a, .int .i64 n] w fun e w' => e = .returned (.int .u32 (Ser.add32 a n)) ∧ w = w' := by
  go_enter Try.func27, Try.ntmps27
  go_wp2
  all_goals go_ret
  refine ⟨ret_int ?_, rfl⟩
  unfold Ser.add32; omega
end Go.Proofs.Ytfmabpddacfbcaa
