
/-
  Plain numbers of layer 8's laws: what the states come to. No Go here.
-/
import Derived.Test.YtpannhbmelcpfabRep3
namespace Go.Proofs.Ytpannhbmelcpfab
open Go.RowKit
set_option linter.unusedVariables false
theorem Rep.next00 : Rep.next 0 0 = 0 := by decide
theorem Rep.clampT0 : Rep.clampT 0 = 0 := by decide
theorem Ser.ahead32_00 : Ser.ahead32 0 0 = 0 := by decide
/-- Numbers from f on, the last one that came m behind it; r came; all at time 0. -/
def Lo.st (f m r e c : Int) : Rs := ⟨4294967296 + f + m, 4294967296 + f, r, 0, 0, 0, e, c⟩
theorem Lo.first (f : Int) (hf : 0 ≤ f ∧ f < 65536) : Rs.zero.note f 0 0 = Lo.st f 0 1 0 0 := by
  have E : Ser.extend 0 f = 4294967296 + f := by unfold Ser.extend; simp
  have Hh : Ser.high 0 f = 4294967296 + f := by unfold Ser.high; rw [E, if_pos (by omega)]
  simp only [Rs.note, Rs.zero, Lo.st, E, Hh, if_true, Rep.clampT0]
  simp
theorem Lo.note (f m r e c j : Int) (hf : 0 ≤ f ∧ f < 65536) (hm : 0 ≤ m) (hj : m < j) (hj' : j ≤ m + 32767) (hm' : m ≤ 4000000) (hr : 0 < r) :
    (Lo.st f m r e c).note (Ser.add f j) 0 0 = Lo.st f j (r + 1) e c := by
  have E : Ser.extend (4294967296 + f + m) (Ser.add f j) = 4294967296 + f + j := by
    unfold Ser.extend Ser.add Ser.ahead
    rw [if_neg (by omega)]; omega
  have Hh : Ser.high (4294967296 + f + m) (Ser.add f j) = 4294967296 + f + j := by unfold Ser.high; rw [E, if_pos (by omega)]
  simp only [Rs.note, Lo.st, E, Hh, if_neg (show ¬ r = 0 by omega), Rep.clampT0, Ser.ahead32_00]
  simp [Rep.next00]
theorem Lo.ok (f m r e c : Int) (hf : 0 ≤ f ∧ f < 65536) (hm : 0 ≤ m) (hm' : m ≤ 32767 * r) (hr : 0 < r) (hr' : r ≤ 1000) (hc : 0 ≤ c ∧ c ≤ r) (he : 0 ≤ e ∧ e ≤ m + 1) : (Lo.st f m r e c).Ok := by
  constructor <;> simp only [Lo.st, Rs.exp, Rep.exp, if_neg (show ¬ r = 0 by omega)] <;> omega
theorem Lo.exp (f m r e c : Int) (hr : 0 < r) : (Lo.st f m r e c).exp = m + 1 := by
  simp only [Lo.st, Rs.exp, Rep.exp, if_neg (show ¬ r = 0 by omega)]; omega
theorem Lo.lost (f m r e c : Int) (hr : 0 < r) (h1 : 0 ≤ m + 1 - r) (h2 : m + 1 - r ≤ 8388607) : (Lo.st f m r e c).lost = m + 1 - r := by
  simp only [Lo.st, Rs.lost, Rep.lost, Rep.exp, if_neg (show ¬ r = 0 by omega), Rep.clampL]; omega
theorem Lo.told (f m r e c : Int) (hr : 0 < r) : (Lo.st f m r e c).told = Lo.st f m r (m + 1) r := by
  have := Lo.exp f m r e c hr
  simp only [Rs.told, this]; rfl
theorem Lo.frac (f m r e c : Int) (hr : 0 < r) : (Lo.st f m r e c).frac = Rep.frac (m + 1 - e) (r - c) := by
  simp only [Rs.frac, Lo.exp f m r e c hr]; rfl
/-- How many of the first k are missing; the last one of them that is there. -/
def Lo.gone (B : Nat → Bool) : Nat → Nat
  | 0 => 0
  | k + 1 => if B k then Lo.gone B k else Lo.gone B k + 1
def Lo.last (B : Nat → Bool) : Nat → Nat
  | 0 => 0
  | k + 1 => if B k then k + 1 else Lo.last B k
theorem Lo.gone_le (B : Nat → Bool) (k : Nat) : Lo.gone B k ≤ k := by
  induction k with
  | zero => simp [Lo.gone]
  | succ k ih => simp only [Lo.gone]; split <;> omega
theorem Lo.last_le (B : Nat → Bool) (k : Nat) : Lo.last B k ≤ k := by
  induction k with
  | zero => simp [Lo.last]
  | succ k ih => simp only [Lo.last]; split <;> omega
theorem Lo.sum_le (B : Nat → Bool) (k : Nat) : Lo.last B k + Lo.gone B k ≤ 2 * k ∧ k ≤ Lo.last B k + Lo.gone B k := by
  have := Lo.gone_le B k; have := Lo.last_le B k
  refine ⟨by omega, ?_⟩
  induction k with
  | zero => simp
  | succ k ih => have := Lo.gone_le B k; have := Lo.last_le B k; have := ih (by omega) (by omega); simp only [Lo.gone, Lo.last]; split <;> omega
/-- The greatest of 1000 and the first k numbers. -/
def Cl.top (g : Nat → Int) : Nat → Int
  | 0 => 1000
  | k + 1 => max (Cl.top g k) (g k)
theorem Cl.top_ge (g : Nat → Int) (n : Nat) : 1000 ≤ Cl.top g n ∧ ∀ i, i < n → g i ≤ Cl.top g n := by
  induction n with
  | zero => exact ⟨Int.le_refl _, fun i h => by omega⟩
  | succ n ih =>
    refine ⟨by simp only [Cl.top]; omega, fun i hi => ?_⟩
    simp only [Cl.top]
    by_cases h : i = n
    · subst h; omega
    · have := ih.2 i (by omega); omega
theorem Cl.top_le (g : Nat → Int) (M : Int) (hM : 1000 ≤ M) (n : Nat) (h : ∀ i, i < n → g i ≤ M) : Cl.top g n ≤ M := by
  induction n with
  | zero => exact hM
  | succ n ih => have := ih (fun i hi => h i (by omega)); have := h n (by omega); simp only [Cl.top]; omega
def Cl.turn (k i : Nat) : Nat := if i = k + 1 then k else if i = k then k + 1 else i
theorem Cl.turn_lt (k n i : Nat) (h : k + 1 < n) (hi : i < n) : Cl.turn k i < n := by unfold Cl.turn; split <;> (try split) <;> omega
theorem Cl.turn_turn (k i : Nat) : Cl.turn k (Cl.turn k i) = i := by
  unfold Cl.turn; split <;> (try split) <;> (try split) <;> (try split) <;> omega
theorem Cl.top_turn (g : Nat → Int) (n k : Nat) (h : k + 1 < n) : Cl.top (fun i => g (Cl.turn k i)) n = Cl.top g n := by
  apply Int.le_antisymm
  · exact Cl.top_le _ _ (Cl.top_ge g n).1 n fun i hi => (Cl.top_ge g n).2 _ (Cl.turn_lt k n i h hi)
  · refine Cl.top_le _ _ (Cl.top_ge _ n).1 n fun i hi => ?_
    have := (Cl.top_ge (fun i => g (Cl.turn k i)) n).2 _ (Cl.turn_lt k n i h hi)
    simpa [Cl.turn_turn] using this
/-- From 1000 on, none far behind. -/
def Cl.st (T r : Int) : Rs := ⟨4294967296 + T, 4294968296, r, 0, 0, 0, 0, 0⟩
theorem Cl.first : Rs.zero.note 1000 0 0 = Cl.st 1000 1 := by
  have := Lo.first 1000 (by omega); rw [this]; rfl
theorem Cl.note (T r q : Int) (hT : 1000 ≤ T ∧ T ≤ 2023) (hq : 1000 ≤ q ∧ q ≤ 2023) (hr : 0 < r) : (Cl.st T r).note q 0 0 = Cl.st (max T q) (r + 1) := by
  have E : Ser.extend (4294967296 + T) q = 4294967296 + q := by
    unfold Ser.extend Ser.ahead
    rw [if_neg (by omega)]; omega
  have Hh : Ser.high (4294967296 + T) q = 4294967296 + max T q := by unfold Ser.high; rw [E]; split <;> omega
  simp only [Rs.note, Cl.st, E, Hh, if_neg (show ¬ r = 0 by omega), Rep.clampT0, Ser.ahead32_00]
  simp [Rep.next00]
theorem Cl.ok (T r : Int) (hT : 1000 ≤ T ∧ T ≤ 2023) (hr : 0 < r) (hr' : r ≤ 1000) : (Cl.st T r).Ok := by
  constructor <;> simp only [Cl.st, Rs.exp, Rep.exp, if_neg (show ¬ r = 0 by omega)] <;> omega
theorem u16_and1023 (n : Int) : bits .and .u16 n 1023 = n % 1024 := by
  have key : (BitVec.ofInt 16 n &&& BitVec.ofInt 16 1023).toNat = (n % 65536).toNat % 1024 := by
    rw [BitVec.toNat_and, BitVec.toNat_ofInt, show (BitVec.ofInt 16 1023).toNat = 2 ^ 10 - 1 from by decide, Nat.and_two_pow_sub_one_eq_mod]; rfl
  show IntKind.u16.wrap ((BitVec.ofInt 16 n &&& BitVec.ofInt 16 1023).toNat : Nat) = _
  rw [key, u16w]; omega
end Go.Proofs.Ytpannhbmelcpfab
