/-
  Plain numbers: what serial's functions come to. No Go here.
-/
import Derived.WalkKit
namespace Go.Proofs.Ythmnkccmnajfgaa
open Go.RowKit

theorem u16w (n : Int) : IntKind.u16.wrap n = n % 65536 := by
  simp [IntKind.wrap, IntKind.bits, IntKind.signed]
theorem u32w (n : Int) : IntKind.u32.wrap n = n % 4294967296 := by
  simp [IntKind.wrap, IntKind.bits, IntKind.signed]
theorem i16w (n : Int) : IntKind.i16.wrap n = (n + 32768) % 65536 - 32768 := by
  simp [IntKind.wrap, IntKind.bits, IntKind.signed]; split <;> omega
theorem i32w (n : Int) : IntKind.i32.wrap n = (n + 2147483648) % 4294967296 - 2147483648 := by
  simp [IntKind.wrap, IntKind.bits, IntKind.signed]; split <;> omega
theorem w64_in (n : Int) (h : -9223372036854775808 ≤ n) (h' : n ≤ 9223372036854775807) : wrap64 n = n := by
  unfold wrap64; omega

def Ser.ahead (a b : Int) : Int := (a - b + 32768) % 65536 - 32768
def Ser.ahead32 (a b : Int) : Int := (a - b + 2147483648) % 4294967296 - 2147483648
def Ser.add (a n : Int) : Int := (a + n) % 65536
def Ser.add32 (a n : Int) : Int := (a + n) % 4294967296
def Ser.newer (a b : Int) : Bool := decide (0 < Ser.ahead a b)
def Ser.later (a b : Int) : Int := if Ser.newer b a then b else a
theorem Ser.ahead_bd (a b : Int) : -32768 ≤ Ser.ahead a b ∧ Ser.ahead a b ≤ 32767 := by unfold Ser.ahead; omega
theorem Ser.ahead32_bd (a b : Int) : -2147483648 ≤ Ser.ahead32 a b ∧ Ser.ahead32 a b ≤ 2147483647 := by unfold Ser.ahead32; omega
theorem Ser.add_bd (a b : Int) : 0 ≤ Ser.add a b ∧ Ser.add a b < 65536 := by unfold Ser.add; omega
theorem Ser.add32_bd (a b : Int) : 0 ≤ Ser.add32 a b ∧ Ser.add32 a b < 4294967296 := by unfold Ser.add32; omega
/-- What a Wide tells of a number, where its highest one is h (0: none yet). -/
def Ser.extend (h n : Int) : Int := if h = 0 then 4294967296 + n else h + Ser.ahead n (h % 65536)

theorem ret_int {k : IntKind} {a b : Int} (h : a = b) : Ending.returned (.int k a) = .returned (.int k b) := by rw [h]
theorem ret_bool {a b : Bool} (h : a = b) : Ending.returned (.bool a) = .returned (.bool b) := by rw [h]
theorem tmod_cases (n m : Int) : n.tmod m = if 0 ≤ n then n % m else -((-n) % m) := by
  split
  · rename_i h; exact Int.tmod_eq_emod_of_nonneg h
  · rename_i h
    have : n = -(-n) := by omega
    rw [this, Int.neg_tmod, Int.tmod_eq_emod_of_nonneg (by omega)]; simp
theorem wf_u16 {a : Int} (h : (Lit.int .u16 a).wf = true) : 0 ≤ a ∧ a < 65536 := by
  simp [Lit.wf, IntKind.min, IntKind.max, IntKind.bits, IntKind.signed] at h; omega
theorem wf_u32 {a : Int} (h : (Lit.int .u32 a).wf = true) : 0 ≤ a ∧ a < 4294967296 := by
  simp [Lit.wf, IntKind.min, IntKind.max, IntKind.bits, IntKind.signed] at h; omega
theorem wf_i64 {a : Int} (h : (Lit.int .i64 a).wf = true) : -9223372036854775808 ≤ a ∧ a ≤ 9223372036854775807 := by
  simp [Lit.wf, IntKind.min, IntKind.max, IntKind.bits, IntKind.signed] at h; omega
theorem wf_i16 {a : Int} (h : (Lit.int .i16 a).wf = true) : -32768 ≤ a ∧ a ≤ 32767 := by
  simp [Lit.wf, IntKind.min, IntKind.max, IntKind.bits, IntKind.signed] at h; omega
theorem wf_u64 {a : Int} (h : (Lit.int .u64 a).wf = true) : 0 ≤ a ∧ a < 18446744073709551616 := by
  simp [Lit.wf, IntKind.min, IntKind.max, IntKind.bits, IntKind.signed] at h; omega
end Go.Proofs.Ythmnkccmnajfgaa
