
/-
  Plain: a mask of 128 bits as one natural number (bit i of the mask is bit 127 - i of the number).
-/
import Derived.WalkKit
import Derived.Laws.BitsAllLaws
namespace Go.Proofs.Ytedhmoihlfjbdaa
set_option linter.unusedVariables false
def Mk.H (X : Nat) : Nat := X >>> 64
def Mk.L (X : Nat) : Nat := X % 2 ^ 64
def Mk.Ok (X : Nat) : Prop := X < 2 ^ 128
theorem Mk.H_lt {X : Nat} (h : Mk.Ok X) : Mk.H X < 18446744073709551616 := by
  unfold Mk.H Mk.Ok at *; rw [Nat.shiftRight_eq_div_pow]; omega
theorem Mk.L_lt (X : Nat) : Mk.L X < 18446744073709551616 := by unfold Mk.L; omega
theorem Mk.H_bit (X i : Nat) : (Mk.H X).testBit i = X.testBit (i + 64) := by unfold Mk.H; rw [Nat.testBit_shiftRight, Nat.add_comm]
theorem Mk.L_bit (X i : Nat) : (Mk.L X).testBit i = (decide (i < 64) && X.testBit i) := by unfold Mk.L; rw [Nat.testBit_mod_two_pow]
theorem Mk.ok_bit {X i : Nat} (h : Mk.Ok X) (hi : 128 ≤ i) : X.testBit i = false := Nat.testBit_lt_two_pow (Nat.lt_of_lt_of_le h (Nat.pow_le_pow_right (by decide) hi))
def Mk.mk (a b : Nat) : Nat := a <<< 64 ||| b
theorem Mk.mk_bit (a b i : Nat) : (Mk.mk a b).testBit i = (decide (64 ≤ i) && a.testBit (i - 64) || b.testBit i) := by unfold Mk.mk; rw [Nat.testBit_or, Nat.testBit_shiftLeft]
theorem Mk.H_mk {a b : Nat} (hb : b < 18446744073709551616) : Mk.H (Mk.mk a b) = a := by
  apply Nat.eq_of_testBit_eq; intro i
  rw [Mk.H_bit, Mk.mk_bit, Nat.testBit_lt_two_pow (x := b) (Nat.lt_of_lt_of_le hb (show 2 ^ 64 ≤ 2 ^ (i + 64) from Nat.pow_le_pow_right (by decide) (by omega)))]
  simp
theorem Mk.L_mk {a b : Nat} (hb : b < 18446744073709551616) : Mk.L (Mk.mk a b) = b := by
  apply Nat.eq_of_testBit_eq; intro i
  rw [Mk.L_bit, Mk.mk_bit]
  by_cases h : i < 64
  · simp [h, show ¬ 64 ≤ i by omega]
  · rw [Nat.testBit_lt_two_pow (x := b) (Nat.lt_of_lt_of_le hb (show 2 ^ 64 ≤ 2 ^ i from Nat.pow_le_pow_right (by decide) (by omega)))]; simp [h]
theorem Mk.ext {X Y : Nat} (h1 : Mk.H X = Mk.H Y) (h2 : Mk.L X = Mk.L Y) : X = Y := by
  apply Nat.eq_of_testBit_eq; intro i
  by_cases h : i < 64
  · have := congrArg (fun z => z.testBit i) h2
    simpa [Mk.L_bit, h] using this
  · have := congrArg (fun z => z.testBit (i - 64)) h1
    simp only [Mk.H_bit] at this
    rwa [Nat.sub_add_cancel (by omega)] at this
theorem Mk.mk_ok {a b : Nat} (ha : a < 18446744073709551616) (hb : b < 18446744073709551616) : Mk.Ok (Mk.mk a b) := by
  unfold Mk.Ok Mk.mk
  apply Nat.or_lt_two_pow
  · rw [Nat.shiftLeft_eq]; omega
  · omega
/-! ### shifts -/
def sh (n : Nat) (a : Nat) : Nat := (a <<< min n 64) % 2 ^ 64
def sr (n : Nat) (a : Nat) : Nat := a >>> min n 64
theorem sh_bit (n a i : Nat) : (sh n a).testBit i = (decide (i < 64) && decide (n ≤ i) && a.testBit (i - n)) := by
  unfold sh
  rw [Nat.testBit_mod_two_pow, Nat.testBit_shiftLeft]
  by_cases h : i < 64
  · by_cases h2 : n ≤ 64
    · rw [Nat.min_eq_left h2]; simp [h]
    · rw [Nat.min_eq_right (by omega)]; simp [h, show ¬ 64 ≤ i by omega, show ¬ n ≤ i by omega]
  · simp [h]
theorem sr_bit (n a i : Nat) (ha : a < 18446744073709551616) : (sr n a).testBit i = a.testBit (i + n) := by
  unfold sr
  rw [Nat.testBit_shiftRight]
  by_cases h2 : n ≤ 64
  · rw [Nat.min_eq_left h2, Nat.add_comm]
  · rw [Nat.min_eq_right (by omega), Nat.testBit_lt_two_pow (x := a) (Nat.lt_of_lt_of_le ha (show 2 ^ 64 ≤ 2 ^ (64 + i) from Nat.pow_le_pow_right (by decide) (by omega))), Nat.testBit_lt_two_pow (x := a) (Nat.lt_of_lt_of_le ha (show 2 ^ 64 ≤ 2 ^ (i + n) from Nat.pow_le_pow_right (by decide) (by omega)))]
def Mk.up (n X : Nat) : Nat := (X <<< n) % 2 ^ 128
def Mk.down (n X : Nat) : Nat := X >>> n
theorem Mk.up_bit (n X i : Nat) : (Mk.up n X).testBit i = (decide (i < 128) && decide (n ≤ i) && X.testBit (i - n)) := by
  unfold Mk.up; rw [Nat.testBit_mod_two_pow, Nat.testBit_shiftLeft, Bool.and_assoc]
theorem Mk.down_bit (n X i : Nat) : (Mk.down n X).testBit i = X.testBit (i + n) := by unfold Mk.down; rw [Nat.testBit_shiftRight, Nat.add_comm]
theorem Mk.up_ok (n X : Nat) : Mk.Ok (Mk.up n X) := by unfold Mk.Ok Mk.up; exact Nat.mod_lt _ (by decide)
theorem Mk.down_ok {n X : Nat} (h : Mk.Ok X) : Mk.Ok (Mk.down n X) := by
  unfold Mk.Ok Mk.down at *; rw [Nat.shiftRight_eq_div_pow]; exact Nat.lt_of_le_of_lt (Nat.div_le_self _ _) h
/-- 64 - n and n - 64, as unsigned words. -/
def back (n : Nat) : Nat := if n ≤ 64 then 64 - n else 18446744073709551616 + 64 - n
def fore (n : Nat) : Nat := if 64 ≤ n then n - 64 else 18446744073709551616 + n - 64
theorem up_H {n X : Nat} (h : Mk.Ok X) (hn : n < 18446744073709551616) : (sh n (Mk.H X) ||| sr (back n) (Mk.L X)) ||| sh (fore n) (Mk.L X) = Mk.H (Mk.up n X) := by
  apply Nat.eq_of_testBit_eq; intro i
  rw [Nat.testBit_or, Nat.testBit_or, sh_bit, sh_bit, sr_bit _ _ _ (Mk.L_lt X), Mk.H_bit, Mk.H_bit, Mk.up_bit, Mk.L_bit, Mk.L_bit]
  unfold back fore
  by_cases hi : i < 64
  · by_cases h1 : n ≤ i
    · rw [if_pos (show n ≤ 64 by omega), if_neg (show ¬ 64 ≤ n by omega)]
      simp [hi, h1, show i + 64 < 128 by omega, show n ≤ i + 64 by omega, show ¬ (i + (64 - n) < 64) by omega, show ¬ (18446744073709551616 + n - 64 ≤ i) by omega]
      congr 1; omega
    · by_cases h2 : n ≤ 64
      · rw [if_pos h2]
        by_cases h3 : n = 64
        · subst h3; simp [hi, h1, show i + 64 < 128 by omega]
        · rw [if_neg (show ¬ 64 ≤ n by omega)]
          simp [hi, h1, show i + 64 < 128 by omega, show n ≤ i + 64 by omega, show i + (64 - n) < 64 by omega, show ¬ (18446744073709551616 + n - 64 ≤ i) by omega]
          congr 1; omega
      · rw [if_neg h2, if_pos (by omega)]
        by_cases h4 : n - 64 ≤ i
        · simp [hi, h1, show i + 64 < 128 by omega, show n ≤ i + 64 by omega, h4, show ¬ (i + (18446744073709551616 + 64 - n) < 64) by omega, show i - (n - 64) < 64 by omega]
          congr 1; omega
        · simp [hi, h1, h4, show ¬ n ≤ i + 64 by omega, show ¬ (i + (18446744073709551616 + 64 - n) < 64) by omega]
  · have hh : ¬ (i + 64 < 128) := by omega
    simp [hi, hh]
    intro h5
    split at h5 <;> omega
theorem up_L {n X : Nat} : sh n (Mk.L X) = Mk.L (Mk.up n X) := by
  apply Nat.eq_of_testBit_eq; intro i
  rw [sh_bit, Mk.L_bit, Mk.L_bit, Mk.up_bit]
  by_cases hi : i < 64
  · simp [hi, show i < 128 by omega, show i - n < 64 by omega]
  · simp [hi]
theorem down_H {n X : Nat} (h : Mk.Ok X) : sr n (Mk.H X) = Mk.H (Mk.down n X) := by
  apply Nat.eq_of_testBit_eq; intro i
  rw [sr_bit _ _ _ (Mk.H_lt h), Mk.H_bit, Mk.H_bit, Mk.down_bit]; congr 1; omega
theorem down_L {n X : Nat} (h : Mk.Ok X) (hn : n < 18446744073709551616) : (sr n (Mk.L X) ||| sh (back n) (Mk.H X)) ||| sr (fore n) (Mk.H X) = Mk.L (Mk.down n X) := by
  apply Nat.eq_of_testBit_eq; intro i
  rw [Nat.testBit_or, Nat.testBit_or, sr_bit _ _ _ (Mk.L_lt X), sh_bit, sr_bit _ _ _ (Mk.H_lt h), Mk.L_bit, Mk.H_bit, Mk.H_bit, Mk.L_bit, Mk.down_bit]
  unfold back fore
  by_cases hi : i < 64
  · by_cases h2 : n ≤ 64
    · rw [if_pos h2]
      by_cases h1 : i + n < 64
      · rw [if_neg (show ¬ 64 ≤ n by omega), Mk.ok_bit h (show 128 ≤ i + (18446744073709551616 + n - 64) + 64 by omega)]
        simp [hi, h1, show ¬ (64 - n ≤ i) by omega]
      · by_cases h3 : n = 64
        · subst h3; simp [hi, h1]
        · rw [if_neg (show ¬ 64 ≤ n by omega), Mk.ok_bit h (show 128 ≤ i + (18446744073709551616 + n - 64) + 64 by omega)]
          simp [hi, h1, show 64 - n ≤ i by omega]
          congr 1; omega
    · rw [if_neg h2, if_pos (by omega)]
      simp [hi, show ¬ (i + n < 64) by omega, show ¬ (18446744073709551616 + 64 - n ≤ i) by omega]
      congr 1; omega
  · simp [hi, show ¬ i + n < 64 by omega]
    apply Mk.ok_bit h
    split <;> omega
/-! ### the walk's words -/
theorem u64w (n : Int) : IntKind.u64.wrap n = n % 18446744073709551616 := by simp [IntKind.wrap, IntKind.bits, IntKind.signed]
theorem w_shl (a n : Nat) : IntKind.u64.wrap ((a : Int) * 2 ^ min n 64) = ((sh n a : Nat) : Int) := by
  unfold sh
  rw [u64w, Nat.shiftLeft_eq]
  rw [Int.natCast_emod, Int.natCast_mul, Int.natCast_pow]; rfl
theorem w_shr (a n : Nat) : (a : Int) / 2 ^ min n 64 = ((sr n a : Nat) : Int) := by
  unfold sr
  rw [Nat.shiftRight_eq_div_pow, Int.natCast_ediv, Int.natCast_pow]; rfl
theorem w_back (n : Nat) (h : n < 18446744073709551616) : (IntKind.u64.wrap (64 - (n : Int))).toNat = back n := by
  rw [u64w]; unfold back; split <;> omega
theorem w_fore (n : Nat) (h : n < 18446744073709551616) : (IntKind.u64.wrap ((n : Int) - 64)).toNat = fore n := by
  rw [u64w]; unfold fore; split <;> omega
theorem sh_lt (n a : Nat) : sh n a < 18446744073709551616 := by unfold sh; omega
theorem sr_lt {n a : Nat} (h : a < 18446744073709551616) : sr n a < 18446744073709551616 := by
  unfold sr; rw [Nat.shiftRight_eq_div_pow]; exact Nat.lt_of_le_of_lt (Nat.div_le_self _ _) h
theorem or_lt {a b : Nat} (ha : a < 18446744073709551616) (hb : b < 18446744073709551616) : a ||| b < 18446744073709551616 := Nat.or_lt_two_pow (n := 64) ha hb
theorem w_or {a b : Nat} (ha : a < 18446744073709551616) (hb : b < 18446744073709551616) : bits .or .u64 (a : Int) (b : Int) = ((a ||| b : Nat) : Int) := u64_or_nat a b ha hb
theorem w_and {a b : Nat} (ha : a < 18446744073709551616) (hb : b < 18446744073709551616) : bits .and .u64 (a : Int) (b : Int) = ((a &&& b : Nat) : Int) := u64_and_nat a b ha hb
theorem w_xor {a b : Nat} (ha : a < 18446744073709551616) (hb : b < 18446744073709551616) : bits .xor .u64 (a : Int) (b : Int) = ((a ^^^ b : Nat) : Int) := u64_xor_nat a b ha hb
theorem and_H (X Y : Nat) : Mk.H (X &&& Y) = Mk.H X &&& Mk.H Y := by
  apply Nat.eq_of_testBit_eq; intro i; simp [Mk.H_bit]
theorem and_L (X Y : Nat) : Mk.L (X &&& Y) = Mk.L X &&& Mk.L Y := by
  apply Nat.eq_of_testBit_eq; intro i; simp only [Mk.L_bit, Nat.testBit_and]; cases decide (i < 64) <;> simp
theorem or_H (X Y : Nat) : Mk.H (X ||| Y) = Mk.H X ||| Mk.H Y := by
  apply Nat.eq_of_testBit_eq; intro i; simp [Mk.H_bit]
theorem or_L (X Y : Nat) : Mk.L (X ||| Y) = Mk.L X ||| Mk.L Y := by
  apply Nat.eq_of_testBit_eq; intro i; simp only [Mk.L_bit, Nat.testBit_or]; cases decide (i < 64) <;> simp
theorem xor_H (X Y : Nat) : Mk.H (X ^^^ Y) = Mk.H X ^^^ Mk.H Y := by
  apply Nat.eq_of_testBit_eq; intro i; simp [Mk.H_bit]
theorem xor_L (X Y : Nat) : Mk.L (X ^^^ Y) = Mk.L X ^^^ Mk.L Y := by
  apply Nat.eq_of_testBit_eq; intro i; simp only [Mk.L_bit, Nat.testBit_xor]; cases decide (i < 64) <;> simp
theorem Mk.and_ok {X Y : Nat} (h : Mk.Ok X) : Mk.Ok (X &&& Y) := Nat.lt_of_le_of_lt Nat.and_le_left h
theorem Mk.or_ok {X Y : Nat} (h : Mk.Ok X) (h' : Mk.Ok Y) : Mk.Ok (X ||| Y) := Nat.or_lt_two_pow h h'
theorem Mk.xor_ok {X Y : Nat} (h : Mk.Ok X) (h' : Mk.Ok Y) : Mk.Ok (X ^^^ Y) := Nat.xor_lt_two_pow h h'
end Go.Proofs.Ytedhmoihlfjbdaa
