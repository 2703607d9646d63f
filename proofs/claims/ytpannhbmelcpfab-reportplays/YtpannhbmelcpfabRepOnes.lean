
/-
  A row of packets noted one after the other.
-/
import Derived.Test.YtpannhbmelcpfabRepParts
namespace Go.Proofs.Ytpannhbmelcpfab
open Go.RowKit
set_option linter.unusedVariables false
def Os.st (q t n : Nat → Int) : Nat → Rs
  | 0 => Rs.zero
  | k + 1 => (Os.st q t n k).note (q k) (t k) (n k)
theorem Rs.note_r (x : Rs) (q ts now : Int) : (x.note q ts now).r = x.r + 1 := rfl
theorem Os.r (q t n : Nat → Int) (k : Nat) : (Os.st q t n k).r = k := by
  induction k with
  | zero => rfl
  | succ k ih => show (Os.st q t n k).r + 1 = _; rw [ih]; omega
theorem Os.ok (q t n : Nat → Int) (len : Nat) (hq : ∀ i, i < len → 0 ≤ q i ∧ q i < 65536) (hl : len ≤ 900) (k : Nat) (hk : k ≤ len) : (Os.st q t n k).Ok := by
  induction k with
  | zero => exact Rs.zero_ok
  | succ k ih => exact (ih (by omega)).note _ _ _ (by rw [Os.r]; omega) (hq k (by omega)).1 (hq k (by omega)).2
theorem rneq_same (a b c d e : Int) (w : World) : (binOp .neq 53 (.agg #[.int .u32 a, .int .i64 b, .int .i32 c, .int .u32 d, .int .u32 e, .int .u32 0, .int .u32 0]) (.agg #[.int .u32 a, .int .i64 b, .int .i32 c, .int .u32 d, .int .u32 e, .int .u32 0, .int .u32 0])).run Try.prog w = .ok (.bool false) w := by
  first | (simp [binOp, go_sem]; done) | (simp [go_sem]; done) | (go_simp; done)
end Go.Proofs.Ytpannhbmelcpfab
