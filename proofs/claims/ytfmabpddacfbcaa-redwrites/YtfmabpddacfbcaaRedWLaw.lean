
/-
  RedWrites: the walk.
-/
import Derived.Test.YtfmabpddacfbcaaRedAl
import Derived.Test.YtfmabpddacfbcaaRedSmall
import Derived.Test.YtfmabpddacfbcaaRedRW1
namespace Go.Proofs.Ytfmabpddacfbcaa
open Go.RowKit Go.Shelf
set_option linter.unusedVariables false
def TrueW (w : World) (e : Ending) (w' : World) : Prop := e = .returned (.bool true) ∧ Below w.heap.size w w'
theorem bkin_cap {w : World} {a : Option Addr} {len cap : Nat} {P O : Nat → Int} {A : Nat → Option Addr} {L C : Nat → Nat} {Z : Nat → List Int} (h : BkIn w a len cap P O A L C Z) : len ≤ cap := by
  rcases h with ⟨_, h1, h2⟩ | ⟨x, _, h1, _⟩ <;> omega
theorem rwcode_bd (n : Nat) (pt of : Nat → Int) (ds : Nat → List Int) : 0 ≤ rwcode n pt of ds ∧ rwcode n pt of ds ≤ 4 := by
  unfold rwcode; repeat' split
  all_goals omega
set_option maxHeartbeats 1000000 in
set_option maxRecDepth 100000 in
theorem walk_RedWrites (a : Option Addr) (n c : Nat) (pt of : Nat → Int) (A : Nat → Option Addr) (C : Nat → Nat) (ds : Nat → List Int) (w : World) (hb : BkAt w a n pt of A C ds) (hn : n ≤ c) (hn2 : n ≤ 9223372036854775807) (hd : ∀ i, i < n → (ds i).length ≤ 9223372036854775807) :
    Calls Try.prog 3 #[.slice a n c] w (TrueW w) := by
  have HH := Lib.hid hb
  have HSM : Hid (∀ W, Below w.heap.size w W → Calls Try.prog 6 #[.slice a n c] W (ValB (.bool (rsmall n ds)) W)) := Lib.hid fun W hB => small6 a n c pt of A C ds W (HH.out.below hB) hn2 hd
  have HWR : Hid (rsmall n ds = true → ∀ W, Below w.heap.size w W → Calls Try.prog 7 #[.slice a n c] W (WrOut (rwcode n pt of ds) (rwbytes n pt of ds) W)) := Lib.hid fun hf W hB => by
    have h2 := rsmall_ok hf
    exact redw_any a n c pt of A C ds W (HH.out.below hB) (by omega) hn (fun i hi => by have := h2.2 i hi; omega)
  have HRW : Hid (rsmall n ds = true → ∀ W, Below w.heap.size w W → Calls Try.prog 8 #[.slice a n c] W (WrOut (rwcode n pt of ds) (rwbytes n pt of ds) W)) := Lib.hid fun hf W hB => by
    have h2 := rsmall_ok hf
    exact refw_any a n c pt of A C ds W (HH.out.below hB) (by omega) (fun i hi => by have := h2.2 i hi; omega)
  have hcb := rwcode_bd n pt of ds
  clear hb hd
  generalize hrs : rsmall n ds = rs at *
  generalize rwcode n pt of ds = f at *
  generalize rwbytes n pt of ds = R at *
  have hff : (f == f) = true := by simp
  have hwf : IntKind.i64.wrap f = f := by rw [IntKind.wrap_i64]; omega
  go_enter Try.func3, Try.ntmps3
  go_wp2_with fail
  refine (alive6 _).mono ?_
  rintro e w1 ⟨rfl, hB1⟩
  have HB1 := Lib.hid hB1
  clear hB1
  go_wp2_with fail
  refine (HSM.out _ HB1.out).mono ?_
  rintro e w2 ⟨rfl, hB2⟩
  have HB2 := Lib.hid (HB1.out.trans (hB2.mono HB1.out.size))
  clear hB2 HB1
  cases rs
  case false =>
    go_wp2_with fail
    go_ret
    exact ⟨rfl, HB2.out⟩
  case true =>
    go_wp2_with fail
    refine (HWR.out trivial _ HB2.out).mono ?_
    rintro e w3 ⟨a3, n3, c3, rfl, hO3, hB3⟩
    have HB3 := Lib.hid (HB2.out.trans (hB3.mono HB2.out.size))
    have HO3 := Lib.hid hO3
    clear hB3 hO3 HB2
    go_wp2_with fail
    refine (HRW.out trivial _ HB3.out).mono ?_
    rintro e w4 ⟨a4, n4, c4, rfl, hO4, hB4⟩
    have HB4 := Lib.hid (HB3.out.trans (hB4.mono HB3.out.size))
    have HS : Hid (∀ W, Below w4.heap.size w4 W → Calls Try.prog 9 #[.slice a3 n3 c3, .slice a4 n4 c4] W (Drawn (.bool true) W)) := Lib.hid fun W hW => by
      have := same_any a3 a4 n3 n4 c3 c4 R R W ((HO3.out.bat.below hB4).below hW) (hO4.bat.below hW)
      simpa using this
    clear hB4 hO4 HO3 HB3 HSM HWR HRW
    go_wp2_with fail
    refine (HS.out _ (Below.refl _ _)).mono ?_
    rintro e w5 ⟨rfl, k5, rfl⟩
    have HF : Hid (TrueW w (.returned (.bool true)) (w4.drewN k5)) := Lib.hid ⟨rfl, HB4.out.trans (below_drewN w4 _ k5)⟩
    clear HS HB4
    go_wp2_with fail
    go_ret
    exact HF.out
theorem writes_in (a : Option Addr) (len cap : Nat) (P O : Nat → Int) (A : Nat → Option Addr) (L C : Nat → Nat) (Z : Nat → List Int) (w : World) (w0 : BkIn w a len cap P O A L C Z) :
    Calls Try.prog 3 #[.slice a len cap] w (TrueW w) := by
  have h := w0.at
  refine walk_RedWrites _ _ _ _ _ _ _ _ w h.1 (bkin_cap w0) h.2 (fun i hi => ?_)
  obtain ⟨b, o, hr⟩ := h.1
  exact (hr i hi).2.2.2.2.2.1.lim
end Go.Proofs.Ytfmabpddacfbcaa
