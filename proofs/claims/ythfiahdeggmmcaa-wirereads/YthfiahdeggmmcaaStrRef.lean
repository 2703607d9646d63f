/-
  The reference of layer 4: at, one, Xor, Gap, Fit; confluxref02.Held; confluxref01.Copy.
-/
import Derived.Test.YthfiahdeggmmcaaStrCuts
namespace Go.Proofs.Ythfiahdeggmmcaa
open Go.RowKit Go.Shelf
set_option linter.unusedVariables false
theorem at_any (a : Option Addr) (n c : Nat) (l : List Int) (i : Nat) (w : World) (ha : BAt w a n l) (hi : i ≤ 9223372036854775807) :
    Calls Try.prog 69 #[.slice a n c, .int .i64 i] w (SameV (.int .u8 (l.getD i 0)) w) := by
  have z := ha.lim
  obtain ⟨b, o, hr⟩ := ha.row
  by_cases h : i < n
  · obtain ⟨rfl, _, d, _⟩ := hr i h
    have hz : (i : Int) < (n : Int) := by omega
    clear hr ha
    generalize l.getD i 0 = x at d ⊢
    go_enter Try.func69, Try.ntmps69
    go_wp2
    go_ret
    exact ⟨rfl, rfl⟩
  · have hz : ¬ (i : Int) < (n : Int) := by omega
    rw [getD_out (by have := ha.len; omega)]
    clear hr ha
    go_enter Try.func69, Try.ntmps69
    go_wp2
    go_ret
    exact ⟨rfl, rfl⟩
/-- The bit of an exclusive or. -/
theorem Str.bx_bit (x y : Int) (j : Nat) (hx : 0 ≤ x) (hy : 0 ≤ y) : (Str.bx x y).toNat / 2 ^ j % 2 = (x.toNat / 2 ^ j % 2 + y.toNat / 2 ^ j % 2) % 2 := by
  have h : (Str.bx x y).toNat = x.toNat ^^^ y.toNat := by unfold Str.bx; simp
  rw [h]
  have := Nat.testBit_xor x.toNat y.toNat j
  rw [Nat.testBit_eq_decide_div_mod_eq, Nat.testBit_eq_decide_div_mod_eq, Nat.testBit_eq_decide_div_mod_eq] at this
  have m1 := Nat.mod_two_eq_zero_or_one (x.toNat / 2 ^ j)
  have m2 := Nat.mod_two_eq_zero_or_one (y.toNat / 2 ^ j)
  have m3 := Nat.mod_two_eq_zero_or_one ((x.toNat ^^^ y.toNat) / 2 ^ j)
  rcases m1 with m1 | m1 <;> rcases m2 with m2 | m2 <;> rcases m3 with m3 | m3 <;> simp [m1, m2, m3] at this ⊢
def OnePow (P : Nat) : Prop := P = 128 ∨ P = 64 ∨ P = 32 ∨ P = 16 ∨ P = 8 ∨ P = 4 ∨ P = 2 ∨ P = 1
theorem OnePow.bit {P : Nat} (h : OnePow P) (x y : Int) (hx : 0 ≤ x ∧ x < 256) (hy : 0 ≤ y ∧ y < 256) : Str.bx x y / P % 2 = (x / P % 2 + y / P % 2) % 2 := by
  have hb := (Str.bx_byte hx hy).1
  have key : ∀ j, Str.bx x y / ((2 ^ j : Nat) : Int) % 2 = (x / ((2 ^ j : Nat) : Int) % 2 + y / ((2 ^ j : Nat) : Int) % 2) % 2 := fun j => by
    have h1 := Str.bx_bit x y j hx.1 hy.1
    have e1 : Str.bx x y = ((Str.bx x y).toNat : Int) := by omega
    have e2 : x = (x.toNat : Int) := by omega
    have e3 : y = (y.toNat : Int) := by omega
    generalize (Str.bx x y).toNat = a at h1 e1
    generalize x.toNat = b at h1 e2
    generalize y.toNat = c at h1 e3
    rw [e1, e2, e3, ← Int.natCast_ediv, ← Int.natCast_ediv, ← Int.natCast_ediv]
    omega
  rcases h with rfl | rfl | rfl | rfl | rfl | rfl | rfl | rfl
  · exact key 7
  · exact key 6
  · exact key 5
  · exact key 4
  · exact key 3
  · exact key 2
  · exact key 1
  · exact key 0
set_option maxHeartbeats 1000000 in
set_option maxRecDepth 100000 in
theorem one_any (x y : Int) (w : World) (hx : 0 ≤ x ∧ x < 256) (hy : 0 ≤ y ∧ y < 256) :
    Calls Try.prog 68 #[.int .u8 x, .int .u8 y] w (Drawn (.int .u8 (Str.bx x y)) w) := by
  have hz := Str.bx_byte hx hy
  have hbit : ∀ P, OnePow P → Str.bx x y / (P : Int) % 2 = (x / (P : Int) % 2 + y / (P : Int) % 2) % 2 := fun P h => h.bit x y hx hy
  generalize Str.bx x y = Z at hz hbit ⊢
  have HBIT := Lib.hid hbit; clear hbit
  obtain ⟨x1, x2⟩ := hx
  obtain ⟨y1, y2⟩ := hy
  obtain ⟨z1, z2⟩ := hz
  go_enter Try.func68, Try.ntmps68
  go_wp2
  go_loopw [5, 6] (fun o p wr => ∃ (P m : Nat), p = .int .i64 P ∧ Hid (wr = w.drewN m) ∧ ((P = 0 ∧ o = .int .u8 Z) ∨ (Hid (OnePow P) ∧ o = .int .u8 (Z / (2 * P) * (2 * P))))) (fun _ p _ => (intOf p).toNat)
  case atStart => exact ⟨128, 0, rfl, Lib.hid rfl, .inr ⟨Lib.hid (.inl rfl), by congr 1; omega⟩⟩
  case round =>
    obtain ⟨P, m, rfl, HW, hrel⟩ := hrel
    rcases hrel with ⟨rfl, rfl⟩ | ⟨HP, rfl⟩
    · go_wp2
      go_ret
      exact ⟨rfl, m, HW.out⟩
    · have hbit := HBIT.out P HP.out
      have hP : 0 < P ∧ P ≤ 128 := by have h := HP.out; unfold OnePow at h; omega
      have hPz : (0 : Int) < (P : Int) := by omega
      have hP2 : (P : Int) ≤ 128 := by omega
      have hdiv : Z / (P : Int) = 2 * (Z / (2 * P)) + Z / (P : Int) % 2 := by
        rw [show (2 * (P : Int)) = P * 2 by omega, ← Int.ediv_ediv_of_nonneg (by omega)]
        omega
      have hle : Z / (P : Int) * P ≤ Z := Int.ediv_mul_le _ (by omega)
      have hge : 0 ≤ Z / (2 * (P : Int)) := Int.ediv_nonneg z1 (by omega)
      have hnext : (P / 2 = 0 ∧ Z / (P : Int) * P = Z) ∨ (OnePow (P / 2) ∧ 2 * ((P / 2 : Nat) : Int) = P) := by
        have h := HP.out; unfold OnePow at h ⊢
        rcases h with rfl | rfl | rfl | rfl | rfl | rfl | rfl | rfl <;> first | (right; refine ⟨by decide, by decide⟩) | (left; refine ⟨by decide, by simp⟩)
      have hO1 : Z / (2 * (P : Int)) * (2 * P) = Z / (P : Int) * P - Z / (P : Int) % 2 * P := by
        clear hle hnext hbit
        generalize Z / (2 * (P : Int)) = E at hdiv ⊢
        generalize Z / (P : Int) % 2 = B at hdiv ⊢
        rw [hdiv, Int.add_mul, Int.mul_comm 2 E, Int.mul_assoc]
        omega
      have tx : (x / (P : Int)).tmod 2 = x / (P : Int) % 2 := Int.tmod_eq_emod_of_nonneg (Int.ediv_nonneg x1 (by omega))
      have ty : (y / (P : Int)).tmod 2 = y / (P : Int) % 2 := Int.tmod_eq_emod_of_nonneg (Int.ediv_nonneg y1 (by omega))
      have hge2 : 0 ≤ Z / (2 * (P : Int)) * (2 * P) := Int.mul_nonneg hge (by omega)
      by_cases hb : (x / (P : Int)).tmod 2 = (y / (P : Int)).tmod 2
      · have hbb : ((x / (P : Int)).tmod 2 != (y / (P : Int)).tmod 2) = false := by rw [hb]; simp
        have h0 : Z / (P : Int) % 2 = 0 := by rw [tx, ty] at hb; omega
        rw [h0] at hO1
        have hO2 : Z / (2 * (P : Int)) * (2 * P) = Z / (P : Int) * P := by omega
        have HO := Lib.hid hO2; have HN := Lib.hid hnext
        generalize Z / (2 * (P : Int)) * (2 * P) = O at hge2 HO ⊢
        clear hnext hdiv hbit hO1 hO2 h0 tx ty hb hle hge
        go_wp2_with fail
        go_quiet (fail)
        go_wp2
        go_roundw
        case rel =>
          refine ⟨P / 2, m + nq, by congr 1, Lib.hid (by rw [HW.out, World.drewN_drewN]), ?_⟩
          rcases HN.out with ⟨h1, h2⟩ | ⟨h1, h2⟩
          · exact .inl ⟨h1, by rw [HO.out, h2]⟩
          · exact .inr ⟨Lib.hid h1, by rw [h2, HO.out]⟩
        case measure => simp [intOf]; omega
      · have hbb : ((x / (P : Int)).tmod 2 != (y / (P : Int)).tmod 2) = true := by rw [bne_iff_ne]; exact hb
        have h1 : Z / (P : Int) % 2 = 1 := by rw [tx, ty] at hb; omega
        rw [h1] at hO1
        have hO2 : Z / (2 * (P : Int)) * (2 * P) + P = Z / (P : Int) * P := by omega
        have hO3 : Z / (2 * (P : Int)) * (2 * P) + P ≤ 255 := by omega
        have HO := Lib.hid hO2; have HN := Lib.hid hnext
        generalize Z / (2 * (P : Int)) * (2 * P) = O at hge2 HO hO3 ⊢
        clear hnext hdiv hbit hO1 hO2 h1 tx ty hb hle hge
        go_wp2_with fail
        go_quiet (fail)
        go_wp2
        go_roundw
        case rel =>
          refine ⟨P / 2, m + nq, by congr 1, Lib.hid (by rw [HW.out, World.drewN_drewN]), ?_⟩
          rcases HN.out with ⟨h1, h2⟩ | ⟨h1, h2⟩
          · exact .inl ⟨h1, by rw [HO.out, h2]⟩
          · exact .inr ⟨Lib.hid h1, by rw [h2, HO.out]⟩
        case measure => simp [intOf]; omega
end Go.Proofs.Ythfiahdeggmmcaa
