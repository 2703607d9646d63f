
/-
  imprint.Same, Empty.
-/
import Derived.Test.YtppgjodehphaeaaIbEq
namespace Go.Proofs.Ytppgjodehphaeaa
open Go.RowKit Go.Shelf
set_option linter.unusedVariables false
set_option maxHeartbeats 400000 in
set_option maxRecDepth 100000 in
theorem isame_any (h0 h1 h2 h3 h4 h5 h6 h7 k0 k1 k2 k3 k4 k5 k6 k7 : Int) (a b : Option Addr) (n m c d : Nat) (la lb : List Int) (w : World) (ha : BAt w a n la) (hb : BAt w b m lb) :
    Calls Try.prog 19 #[.agg #[.int .u8 h0, .int .u8 h1, .int .u8 h2, .int .u8 h3, .int .u8 h4, .int .u8 h5, .int .u8 h6, .int .u8 h7, .slice a n c], .agg #[.int .u8 k0, .int .u8 k1, .int .u8 k2, .int .u8 k3, .int .u8 k4, .int .u8 k5, .int .u8 k6, .int .u8 k7, .slice b m d]] w (ValB (.bool (decide ([h0, h1, h2, h3, h4, h5, h6, h7] = [k0, k1, k2, k3, k4, k5, k6, k7]) && decide (Str.gap la lb < 0))) w) := by
  have he := fun w => eq8 h0 h1 h2 h3 h4 h5 h6 h7 k0 k1 k2 k3 k4 k5 k6 k7 w
  generalize decide ([h0, h1, h2, h3, h4, h5, h6, h7] = [k0, k1, k2, k3, k4, k5, k6, k7]) = q at *
  obtain ⟨w1, hw1⟩ : ∃ w1, (w.alloc (.cells #[.int .u8 h0, .int .u8 h1, .int .u8 h2, .int .u8 h3, .int .u8 h4, .int .u8 h5, .int .u8 h6, .int .u8 h7, .slice a n c] 27)).alloc (.cells #[.int .u8 k0, .int .u8 k1, .int .u8 k2, .int .u8 k3, .int .u8 k4, .int .u8 k5, .int .u8 k6, .int .u8 k7, .slice b m d] 27) = w1 := ⟨_, rfl⟩
  have hB1 : Below w.heap.size w w1 := by rw [← hw1]; exact ((Below.refl _ w).alloc (Nat.le_refl _) _).alloc (by simp) _
  have HG := Lib.hid (gap_any a b n m c d la lb w1 (ha.below hB1) (hb.below hB1))
  have HW1 := Lib.hid hw1; have HB1 := Lib.hid hB1
  clear hw1 hB1 ha hb
  generalize Str.gap la lb = g at *
  cases q
  · go_enter Try.func19, Try.ntmps19
    go_wp2_with fail
    rw [HW1.out]
    go_ret
    exact ⟨rfl, HB1.out⟩
  · have hg : (true && decide (g < 0)) = decide (g < 0) := rfl
    rw [hg]
    go_enter Try.func19, Try.ntmps19
    go_wp2_with fail
    rw [HW1.out]
    refine (HG.out).mono ?_
    rintro e w2 ⟨rfl, rfl⟩
    go_wp2_with fail
    go_ret
    exact ⟨rfl, HB1.out⟩
set_option maxHeartbeats 400000 in
set_option maxRecDepth 100000 in
theorem empty_any (h0 h1 h2 h3 h4 h5 h6 h7 : Int) (a : Option Addr) (n c : Nat) (la : List Int) (w : World) (ha : BAt w a n la) :
    Calls Try.prog 21 #[.agg #[.int .u8 h0, .int .u8 h1, .int .u8 h2, .int .u8 h3, .int .u8 h4, .int .u8 h5, .int .u8 h6, .int .u8 h7, .slice a n c]] w (ValB (.bool (decide ([h0, h1, h2, h3, h4, h5, h6, h7] = [0, 0, 0, 0, 0, 0, 0, 0]) && decide (Str.gap la [] < 0))) w) := by
  have HS := Lib.hid (fun W (h : Below w.heap.size w W) => isame_any h0 h1 h2 h3 h4 h5 h6 h7 0 0 0 0 0 0 0 0 a none n 0 c 0 la [] W (ha.below h) (BAt.none W))
  generalize (decide ([h0, h1, h2, h3, h4, h5, h6, h7] = [0, 0, 0, 0, 0, 0, 0, 0]) && decide (Str.gap la [] < 0)) = q at *
  clear ha
  go_enter Try.func21, Try.ntmps21
  go_wp2_with fail
  refine (HS.out _ ((Below.refl _ w).alloc (Nat.le_refl _) _)).mono ?_
  rintro e w2 ⟨rfl, hB⟩
  have HB : Hid (Below w.heap.size w w2) := Lib.hid (((Below.refl _ w).alloc (Nat.le_refl _) _).trans (hB.mono (by simp))); clear hB HS
  go_wp2_with fail
  go_ret
  exact ⟨rfl, HB.out⟩
end Go.Proofs.Ytppgjodehphaeaa
