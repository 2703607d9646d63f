
/-
  confluxref06.Same of the same blocks.
-/
import Derived.Test.YtfmabpddacfbcaaRedBk
import Derived.Test.YtfmabpddacfbcaaRedSmall
namespace Go.Proofs.Ytfmabpddacfbcaa
open Go.RowKit Go.Shelf
set_option linter.unusedVariables false
set_option maxHeartbeats 1000000 in
set_option maxRecDepth 100000 in
theorem rbsame_any (a b : Option Addr) (n c d : Nat) (pt of : Nat → Int) (A A' : Nat → Option Addr) (C C' : Nat → Nat) (ds : Nat → List Int) (w : World) (ha : BkAt w a n pt of A C ds) (hb : BkAt w b n pt of A' C' ds) (hn : n ≤ 1000) :
    Calls Try.prog 12 #[.slice a n c, .slice b n d] w (ValB (.bool true) w) := by
  have HA := Lib.hid ha; have HB := Lib.hid hb; clear ha hb
  have hnn : ((n : Int) != (n : Int)) = false := by simp
  go_enter Try.func12, Try.ntmps12
  go_wp2_with fail
  go_loopw [5] (fun iv wr => ∃ i : Nat, i ≤ n ∧ iv = .int .i64 i ∧ Hid (Below w.heap.size w wr)) (fun iv _ => n - (intOf iv).toNat)
  case atStart => exact ⟨0, Nat.zero_le _, rfl, Lib.hid (Below.refl _ _)⟩
  case round =>
    obtain ⟨i, hi, rfl, HW⟩ := hrel
    by_cases hlt : i < n
    · have hiz : (i : Int) < (n : Int) := by omega
      have hi0 : (0 : Int) ≤ (i : Int) := by omega
      obtain ⟨ba, oa, hra⟩ := HA.out
      obtain ⟨rfl, hbl, g0, g1, g2, gb, _⟩ := hra i hlt
      obtain ⟨bb, ob, hrb⟩ := HB.out
      obtain ⟨rfl, hbl', k0, k1, k2, kb, _⟩ := hrb i hlt
      have g0 : wr.cell? ⟨ba, oa + i * 3, none⟩ = some (.int .i64 (pt i)) := (HW.out.cell (p := ⟨ba, oa + i * 3, none⟩) hbl).trans g0
      have g1 : wr.cell? ⟨ba, oa + i * 3 + 1, none⟩ = some (.int .i64 (of i)) := (HW.out.cell (p := ⟨ba, oa + i * 3 + 1, none⟩) hbl).trans g1
      have g2 : wr.cell? ⟨ba, oa + i * 3 + 2, none⟩ = some (.slice (A i) (ds i).length (C i)) := (HW.out.cell (p := ⟨ba, oa + i * 3 + 2, none⟩) hbl).trans g2
      have k0 : wr.cell? ⟨bb, ob + i * 3, none⟩ = some (.int .i64 (pt i)) := (HW.out.cell (p := ⟨bb, ob + i * 3, none⟩) hbl').trans k0
      have k1 : wr.cell? ⟨bb, ob + i * 3 + 1, none⟩ = some (.int .i64 (of i)) := (HW.out.cell (p := ⟨bb, ob + i * 3 + 1, none⟩) hbl').trans k1
      have k2 : wr.cell? ⟨bb, ob + i * 3 + 2, none⟩ = some (.slice (A' i) (ds i).length (C' i)) := (HW.out.cell (p := ⟨bb, ob + i * 3 + 2, none⟩) hbl').trans k2
      have HSA : Hid (∀ j, Calls Try.prog 9 #[.slice (A i) (ds i).length (C i), .slice (A' i) (ds i).length (C' i)] (wr.drewN j) fun e w' => e = .returned (.bool true) ∧ ∃ m, w' = (wr.drewN j).drewN m) := Lib.hid fun j => by
        have := same_any (A i) (A' i) _ _ (C i) (C' i) _ _ _ ((gb.below HW.out).below (below_drewN wr _ j)) ((kb.below HW.out).below (below_drewN wr _ j))
        rw [decide_eq_true rfl] at this
        exact this
      clear hra hrb gb kb
      generalize pt i = vp at *
      generalize of i = vo at *
      generalize (ds i).length = z at *
      have hp1 : (vp != vp) = false := by simp
      have hp2 : (vo != vo) = false := by simp
      go_upto_region 6 with (fail)
      go_quiet ((first | (go_at_call 9; exact Calls.quiet_of (HSA.out _))))
      go_wp2_with fail
      go_roundw
      case rel => exact ⟨i + 1, by omega, by go_num, Lib.hid (HW.out.trans (below_drewN _ _ _))⟩
      case measure => simp [intOf]; omega
    · obtain rfl : i = n := by omega
      go_wp2_with fail
      go_ret
      exact ⟨rfl, HW.out⟩
end Go.Proofs.Ytfmabpddacfbcaa
