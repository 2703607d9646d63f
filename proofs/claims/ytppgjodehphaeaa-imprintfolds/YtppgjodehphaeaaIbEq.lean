
/-
  Two heads side by side.
-/
import Derived.Test.YtppgjodehphaeaaIbLen
namespace Go.Proofs.Ytppgjodehphaeaa
open Go.RowKit Go.Shelf
set_option linter.unusedVariables false
set_option linter.unusedSimpArgs false
set_option maxRecDepth 100000 in
set_option maxHeartbeats 1000000 in
theorem eq8 (h0 h1 h2 h3 h4 h5 h6 h7 k0 k1 k2 k3 k4 k5 k6 k7 : Int) (w : World) : (Op.equalIn 10000 25 (.agg #[.int .u8 h0, .int .u8 h1, .int .u8 h2, .int .u8 h3, .int .u8 h4, .int .u8 h5, .int .u8 h6, .int .u8 h7]) (.agg #[.int .u8 k0, .int .u8 k1, .int .u8 k2, .int .u8 k3, .int .u8 k4, .int .u8 k5, .int .u8 k6, .int .u8 k7])).run Try.prog w = .ok (decide ([h0, h1, h2, h3, h4, h5, h6, h7] = [k0, k1, k2, k3, k4, k5, k6, k7])) w := by
  have u3 := Try.underlying5
  have a3 := Try.isAgg5
  have z3 := Try.sizeOf5
  rw [show (10000 : Nat) = 9999 + 1 from rfl, Op.equalIn]
  simp only [Sem.run_bind, run_underlying Try.underlying25, Result.andThen_ok]
  simp only [Std.Legacy.Range.forIn_eq_forIn_range', Std.Legacy.Range.size, Nat.sub_zero, Nat.add_sub_cancel, Nat.div_one, List.range'_succ, List.range'_zero, List.forIn_cons, List.forIn_nil]
  go_simp
  by_cases e0 : h0 = k0
  case neg => simp [e0]
  by_cases e1 : h1 = k1
  case neg => simp [e0, e1]
  by_cases e2 : h2 = k2
  case neg => simp [e0, e1, e2]
  by_cases e3 : h3 = k3
  case neg => simp [e0, e1, e2, e3]
  by_cases e4 : h4 = k4
  case neg => simp [e0, e1, e2, e3, e4]
  by_cases e5 : h5 = k5
  case neg => simp [e0, e1, e2, e3, e4, e5]
  by_cases e6 : h6 = k6
  case neg => simp [e0, e1, e2, e3, e4, e5, e6]
  by_cases e7 : h7 = k7
  case neg => simp [e0, e1, e2, e3, e4, e5, e6, e7]
  simp [e0, e1, e2, e3, e4, e5, e6, e7]
end Go.Proofs.Ytppgjodehphaeaa
