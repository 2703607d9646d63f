/-
  The plain side of cover: the program's mask has the bits that the reference lists.
-/
import Derived.Test.YtedhmoihlfjbdaaRefFrom11
import Derived.Test.YtedhmoihlfjbdaaPaMake
namespace Go.Proofs.Ytedhmoihlfjbdaa
open Go.RowKit
set_option linter.unusedVariables false
theorem Mk.one_bit (d : Int) {i : Nat} (hi : i < 128) : (Mk.one d).testBit (127 - i) = decide (d = i) := by
  rw [Mk.one_eq]
  split
  · rename_i h
    rw [pow_bit]
    by_cases e : d = i
    · subst e; rw [decide_eq_true (by omega : (127 - (i : Int)).toNat = 127 - i)]; simp
    · rw [decide_eq_false (by omega : ¬ (127 - d).toNat = 127 - i), decide_eq_false e]
  · rename_i h
    rw [Nat.zero_testBit, decide_eq_false (by omega)]
theorem Cv.ds_get (b : Int) (zs : List Int) {j n : Nat} (h : j < n) : (Cv.ds b zs n).getD j 0 = Ser.ahead (zs.getD j 0) b := by
  unfold Cv.ds; rw [List.getD_eq_getElem?_getD, List.getElem?_map, List.getElem?_range h]; rfl
/-- The mask's bits are the distances. -/
theorem Cv.m_bit (b : Int) (zs : List Int) (n : Nat) {i : Nat} (hi : i < 128) : ∀ k, k ≤ n → (Cv.m b zs k).testBit (127 - i) = Cv.any (Cv.ds b zs n) i k
  | 0, _ => by rw [Cv.m, Nat.zero_testBit]; rfl
  | k + 1, h => by
    rw [Cv.m, Cv.any, Nat.testBit_or, Cv.m_bit b zs n hi k (by omega), Cv.ds_get b zs (by omega), Mk.one_bit _ hi]
end Go.Proofs.Ytedhmoihlfjbdaa
namespace Go.Proofs.Ytedhmoihlfjbdaa
open Go.RowKit
set_option linter.unusedVariables false
theorem popN_or : ∀ (n X p : Nat), p < n → popN n (X ||| 2 ^ p) = popN n X + (if X.testBit p then 0 else 1)
  | n + 1, X, 0, _ => by
    show (X ||| 1) % 2 + popN n ((X ||| 1) / 2) = X % 2 + popN n (X / 2) + _
    rw [Nat.or_div_two, show 1 / 2 = 0 from rfl, Nat.or_zero, Nat.testBit_zero]
    have h : (X ||| 1) % 2 = 1 := by simp
    rw [h]
    by_cases e : X % 2 = 1
    · simp [e]
    · simp [e]; omega
  | n + 1, X, p + 1, hp => by
    show (X ||| 2 ^ (p + 1)) % 2 + popN n ((X ||| 2 ^ (p + 1)) / 2) = X % 2 + popN n (X / 2) + _
    have h2 : 2 ^ (p + 1) / 2 = 2 ^ p := by rw [Nat.pow_succ]; omega
    have h3 : (X ||| 2 ^ (p + 1)) % 2 = X % 2 := by
      have key : (X ||| 2 ^ (p + 1)).testBit 0 = X.testBit 0 := by rw [Nat.testBit_or, pow_bit]; simp
      rw [Nat.testBit_zero, Nat.testBit_zero] at key
      have := decide_eq_decide.1 key
      omega
    rw [Nat.or_div_two, h2, popN_or n (X / 2) p (by omega), h3, Nat.testBit_succ]
    omega
theorem popN_zero : ∀ n, popN n 0 = 0
  | 0 => rfl
  | n + 1 => by show 0 % 2 + popN n (0 / 2) = 0; rw [Nat.zero_div, popN_zero n]
theorem popN_low : ∀ (n X : Nat), popN n (X % 2 ^ n) = popN n X
  | 0, _ => rfl
  | n + 1, X => by
    show X % 2 ^ (n + 1) % 2 + popN n (X % 2 ^ (n + 1) / 2) = X % 2 + popN n (X / 2)
    have h1 : X % 2 ^ (n + 1) % 2 = X % 2 := Nat.mod_mod_of_dvd X ⟨2 ^ n, by rw [Nat.pow_succ, Nat.mul_comm]⟩
    have h2 : X % 2 ^ (n + 1) / 2 = X / 2 % 2 ^ n := by rw [Nat.pow_succ, Nat.mul_comm, Nat.mod_mul_right_div_self]
    rw [h1, h2, popN_low n (X / 2)]
theorem Mk.cnt_eq (X : Nat) : Mk.cnt X = popN 128 X := by
  unfold Mk.cnt Mk.H Mk.L
  rw [show (128 : Nat) = 64 + 64 from rfl, popN_add 64 64 X, Nat.shiftRight_eq_div_pow]
  have := popN_low 64 X
  rw [show (2 : Nat) ^ 64 = 18446744073709551616 from rfl] at this ⊢
  omega
theorem Mk.cnt_one (X : Nat) (d : Int) (h0 : 0 ≤ d) (h1 : d ≤ 127) : Mk.cnt (X ||| Mk.one d) = Mk.cnt X + (if X.testBit (127 - d.toNat) then 0 else 1) := by
  rw [Mk.cnt_eq, Mk.cnt_eq, Mk.one_eq, if_pos ⟨h0, h1⟩, popN_or 128 X _ (by omega), show (127 - d).toNat = 127 - d.toNat by omega]
theorem Cv.any_z (zs : List Int) (i k : Nat) : Cv.anyZ zs i k = Cv.any zs i k := by
  induction k with
  | zero => rfl
  | succ k ih => unfold Cv.anyZ Cv.any; rw [ih]
/-- One is there twice just where the mask has fewer bits. -/
theorem Cv.tw_cnt (b : Int) (zs : List Int) : ∀ k, Cv.all b zs k = true → Mk.cnt (Cv.m b zs k) ≤ k ∧ (Cv.tw b zs k = true ↔ Mk.cnt (Cv.m b zs k) < k)
  | 0, _ => ⟨by rw [Cv.m, Mk.cnt_eq, popN_zero]; exact Nat.le_refl _, by rw [Cv.tw]; simp⟩
  | k + 1, h => by
    simp only [Cv.all, Bool.and_eq_true, decide_eq_true_eq] at h
    obtain ⟨h1, h2, h3⟩ := h
    obtain ⟨i1, i2⟩ := Cv.tw_cnt b zs k h1
    obtain ⟨i, hi⟩ : ∃ i : Nat, Ser.ahead (zs.getD k 0) b = i := ⟨(Ser.ahead (zs.getD k 0) b).toNat, by omega⟩
    have hbit := Cv.m_bit b zs k (i := i) (by omega) k (Nat.le_refl _)
    rw [Cv.m, Cv.tw, hi, Mk.cnt_one _ _ (by omega) (by omega), Cv.any_z, ← hbit, Int.toNat_natCast]
    cases (Cv.m b zs k).testBit (127 - i)
    · simp only [Bool.or_false, Bool.false_eq_true, if_false]
      exact ⟨by omega, by rw [i2]; omega⟩
    · simp only [Bool.or_true, if_true]
      exact ⟨by omega, ⟨fun _ => by omega, fun _ => trivial⟩⟩
theorem Cv.rcode_eq (b : Int) (zs : List Int) (n : Nat) : Cv.rcode b zs n = Cv.code b zs n := by
  unfold Cv.rcode Cv.code
  by_cases h0 : n = 0
  · rw [if_pos h0, if_pos h0]
  · rw [if_neg h0, if_neg h0]
    cases ha : Cv.all b zs n with
    | false => rfl
    | true =>
      have h := (Cv.tw_cnt b zs n ha).2
      rw [if_neg (show ¬ (true = false) by simp)]
      by_cases ht : Cv.tw b zs n = true
      · rw [if_pos ht, if_neg (show ¬ (true = false) by simp), if_pos (h.1 ht)]
      · rw [if_neg ht, if_neg (show ¬ (true = false) by simp), if_neg (fun e => ht (h.2 e))]
/-- The reference's From answers as the program's. -/
theorem rfrom_cv (b : Int) (hb0 : 0 ≤ b) (hb1 : b < 65536) (a : Option Addr) (len cap : Nat) (zs : List Int) (w : World) (hz : U16s a len zs w) (hzb : ∀ k, k < len → 0 ≤ zs.getD k 0 ∧ zs.getD k 0 < 65536) (hlen : len < 1000000) :
    Calls Try.prog 95 #[.int .u16 b, .slice a len cap] w fun e w' =>
      e = .returned (.tuple #[.int .u64 (Mk.H (Cv.ans b zs len)), .int .u64 (Mk.L (Cv.ans b zs len)), .int .i64 (Cv.code b zs len)]) ∧ Below w.heap.size w w' := by
  have h := rfrom11_any b hb0 hb1 a len cap zs w hz hzb hlen (Cv.m b zs len) (Cv.m_ok b zs len) (fun i hi => Cv.m_bit b zs len hi len (Nat.le_refl _))
  unfold RfPost at h
  rw [Cv.rcode_eq] at h
  exact h
end Go.Proofs.Ytedhmoihlfjbdaa
namespace Go.Proofs.Ytedhmoihlfjbdaa
open Go.RowKit
set_option linter.unusedVariables false
/-- Numbers within a span of 109 from B on. -/
def Near (zs : List Int) (n : Nat) (B : Int) : Prop := ∀ j, j < n → 0 ≤ Ser.ahead (zs.getD j 0) B ∧ Ser.ahead (zs.getD j 0) B < 109
/-- Numbers of 16 bits. -/
def U16 (zs : List Int) (n : Nat) : Prop := ∀ j, j < n → 0 ≤ zs.getD j 0 ∧ zs.getD j 0 < 65536
def Apart (zs : List Int) (n : Nat) : Prop := ∀ i j, i < j → j < n → zs.getD i 0 ≠ zs.getD j 0
theorem lo_near {zs : List Int} {n : Nat} {B : Int} (h0 : 0 < n) (hz : U16 zs n) (hB : Near zs n B) : ∀ k, k ≤ n →
    ∃ m, m < n ∧ Ser.lo (Cv.arr zs n) k = Ser.ahead (zs.getD m 0) B - Ser.ahead (zs.getD 0 0) B ∧ ∀ j, j < k → Ser.ahead (zs.getD m 0) B ≤ Ser.ahead (zs.getD j 0) B
  | 0, _ => ⟨0, h0, by unfold Ser.lo; omega, fun j hj => by omega⟩
  | k + 1, hk => by
    obtain ⟨m, hm, h1, h2⟩ := lo_near h0 hz hB k (by omega)
    have e : Ser.lo (Cv.arr zs n) (k + 1) = min (Ser.lo (Cv.arr zs n) k) (Ser.ahead (zs.getD k 0) (zs.getD 0 0)) := by
      rw [← Cv.arr_get zs (n := n) (k := k) (by omega), ← Cv.arr_get zs (n := n) (k := 0) h0]; rfl
    have a0 := hB 0 h0; have ak := hB k (by omega); have am := hB m hm
    have z0 := hz 0 h0; have zk := hz k (by omega)
    have ed : Ser.ahead (zs.getD k 0) (zs.getD 0 0) = Ser.ahead (zs.getD k 0) B - Ser.ahead (zs.getD 0 0) B := by
      unfold Ser.ahead at *; omega
    rw [e, h1, ed]
    by_cases hlt : Ser.ahead (zs.getD k 0) B < Ser.ahead (zs.getD m 0) B
    · refine ⟨k, by omega, by omega, fun j hj => ?_⟩
      by_cases ej : j = k
      · subst ej; exact Int.le_refl _
      · have := h2 j (by omega); omega
    · refine ⟨m, hm, by omega, fun j hj => ?_⟩
      by_cases ej : j = k
      · subst ej; omega
      · exact h2 j (by omega)
/-- The base of numbers that are near each other is the one that all others are ahead of. -/
theorem base_near {zs : List Int} {n : Nat} {B : Int} (h0 : 0 < n) (hz : U16 zs n) (hB : Near zs n B) :
    ∃ m, m < n ∧ Cv.base zs n = zs.getD m 0 ∧ ∀ j, j < n → 0 ≤ Ser.ahead (zs.getD j 0) (Cv.base zs n) ∧ Ser.ahead (zs.getD j 0) (Cv.base zs n) < 109 := by
  obtain ⟨m, hm, h1, h2⟩ := lo_near h0 hz hB n (Nat.le_refl _)
  have a0 := hB 0 h0; have am := hB m hm
  have z0 := hz 0 h0; have zm := hz m hm
  have e : Cv.base zs n = zs.getD m 0 := by
    unfold Cv.base; rw [if_neg (by omega), h1]
    unfold Ser.add Ser.ahead at *; omega
  refine ⟨m, hm, e, fun j hj => ?_⟩
  have aj := hB j hj; have hj2 := h2 j hj; have zj := hz j hj
  rw [e]
  unfold Ser.ahead at *; omega
theorem all_near {zs : List Int} {b : Int} : ∀ n, Near zs n b → Cv.all b zs n = true
  | 0, _ => rfl
  | n + 1, h => by
    have hn := h n (by omega)
    show (Cv.all b zs n && (decide (0 ≤ Ser.ahead (zs.getD n 0) b) && decide (Ser.ahead (zs.getD n 0) b < 109))) = true
    rw [all_near n (fun j hj => h j (by omega)), decide_eq_true hn.1, decide_eq_true hn.2]; rfl
theorem near_all {zs : List Int} {b : Int} {n : Nat} (h : Cv.all b zs n = true) : Near zs n b := fun j hj => by
  have := Cv.all_mono (k := j + 1) (by omega) h
  simp only [Cv.all, Bool.and_eq_true, decide_eq_true_eq] at this
  exact this.2
theorem anyZ_yes {zs : List Int} {x : Int} : ∀ k, Cv.anyZ zs x k = true ↔ ∃ j, j < k ∧ zs.getD j 0 = x
  | 0 => by simp [Cv.anyZ]
  | k + 1 => by
    show (Cv.anyZ zs x k || decide (zs.getD k 0 = x)) = true ↔ _
    rw [Bool.or_eq_true, anyZ_yes k, decide_eq_true_eq]
    constructor
    · rintro (⟨j, h1, h2⟩ | h)
      · exact ⟨j, by omega, h2⟩
      · exact ⟨k, by omega, h⟩
    · rintro ⟨j, h1, h2⟩
      by_cases e : j = k
      · subst e; exact .inr h2
      · exact .inl ⟨j, by omega, h2⟩
theorem tw_yes {b : Int} {zs : List Int} : ∀ k, Cv.tw b zs k = true ↔ ∃ i j, i < j ∧ j < k ∧ Ser.ahead (zs.getD i 0) b = Ser.ahead (zs.getD j 0) b
  | 0 => by simp [Cv.tw]
  | k + 1 => by
    show (Cv.tw b zs k || Cv.anyZ (Cv.ds b zs k) (Ser.ahead (zs.getD k 0) b) k) = true ↔ _
    rw [Bool.or_eq_true, tw_yes k, anyZ_yes k]
    constructor
    · rintro (⟨i, j, h1, h2, h3⟩ | ⟨j, h1, h2⟩)
      · exact ⟨i, j, h1, by omega, h3⟩
      · exact ⟨j, k, h1, by omega, by rw [Cv.ds_get b zs h1] at h2; exact h2⟩
    · rintro ⟨i, j, h1, h2, h3⟩
      by_cases e : j = k
      · subst e; exact .inr ⟨i, h1, by rw [Cv.ds_get b zs h1]; exact h3⟩
      · exact .inl ⟨i, j, h1, by omega, h3⟩
theorem apart_ahead {zs : List Int} {n : Nat} {b : Int} (hz : U16 zs n) (i j : Nat) (hi : i < n) (hj : j < n) : Ser.ahead (zs.getD i 0) b = Ser.ahead (zs.getD j 0) b ↔ zs.getD i 0 = zs.getD j 0 := by
  have h1 := hz i hi; have h2 := hz j hj
  unfold Ser.ahead
  constructor
  · intro h; omega
  · intro h; rw [h]
/-- When Of answers a mask. -/
theorem ccode_iff {zs : List Int} {n : Nat} (hz : U16 zs n) : Cv.code (Cv.base zs n) zs n = 0 ↔ 0 < n ∧ (∃ B, Near zs n B) ∧ Apart zs n := by
  constructor
  · intro h
    unfold Cv.code at h
    by_cases h0 : n = 0
    · rw [if_pos h0] at h; cases h
    rw [if_neg h0] at h
    cases ha : Cv.all (Cv.base zs n) zs n with
    | false => rw [ha, if_pos rfl] at h; cases h
    | true =>
      rw [ha, if_neg (by decide)] at h
      have ht := Cv.tw_cnt _ _ _ ha
      by_cases hc : Mk.cnt (Cv.m (Cv.base zs n) zs n) < n
      · rw [if_pos hc] at h; cases h
      · refine ⟨by omega, ⟨_, near_all ha⟩, fun i j h1 h2 h3 => hc (ht.2.1 ((tw_yes n).2 ⟨i, j, h1, h2, ?_⟩))⟩
        rw [h3]
  · rintro ⟨h0, ⟨B, hB⟩, hap⟩
    obtain ⟨m, hm, e, hn⟩ := base_near h0 hz hB
    have ha := all_near n hn
    have ht := Cv.tw_cnt _ _ _ ha
    unfold Cv.code
    rw [if_neg (by omega), ha, if_neg (by decide), if_neg (fun h => ?_)]
    obtain ⟨i, j, h1, h2, h3⟩ := (tw_yes n).1 (ht.2.2 h)
    exact hap i j h1 h2 ((apart_ahead hz i j (by omega) h2).1 h3)
theorem ccnt {zs : List Int} {n : Nat} (h : Cv.code (Cv.base zs n) zs n = 0) : Mk.cnt (Cv.m (Cv.base zs n) zs n) = n := by
  unfold Cv.code at h
  by_cases h0 : n = 0
  · rw [if_pos h0] at h; cases h
  rw [if_neg h0] at h
  cases ha : Cv.all (Cv.base zs n) zs n with
  | false => rw [ha, if_pos rfl] at h; cases h
  | true =>
    rw [ha, if_neg (by decide)] at h
    have ht := Cv.tw_cnt _ _ _ ha
    by_cases hc : Mk.cnt (Cv.m (Cv.base zs n) zs n) < n
    · rw [if_pos hc] at h; cases h
    · omega
/-- What it is to have a repair. -/
structure PaGood (ls : List (List Int)) : Prop where
  pos : 0 < ls.length
  few : ls.length ≤ 48
  pk : ∀ j, j < ls.length → pcodeF (ls.getD j []).length (ls.getD j []) = 0
  src : ∃ s, ∀ j, j < ls.length → (ppk (ls.getD j [])).ssrc = s
  near : ∃ B, ∀ j, j < ls.length → 0 ≤ Ser.ahead (ppk (ls.getD j [])).seq B ∧ Ser.ahead (ppk (ls.getD j [])).seq B < 109
  apart : ∀ i j, i < j → j < ls.length → (ppk (ls.getD i [])).seq ≠ (ppk (ls.getD j [])).seq
def PkOk (ls : List (List Int)) : Prop := ∀ j, j < ls.length → 0 ≤ (ppk (ls.getD j [])).seq ∧ (ppk (ls.getD j [])).seq < 65536
theorem Pa.err_zero {ls : List (List Int)} : ∀ k, (∀ j, j < k → pcodeF (ls.getD j []).length (ls.getD j []) = 0) → Pa.err ls k = 0
  | 0, _ => rfl
  | k + 1, h => by
    show (if Pa.err ls k ≠ 0 then Pa.err ls k else pcodeF (ls.getD k []).length (ls.getD k [])) = 0
    rw [Pa.err_zero k (fun j hj => h j (by omega)), if_neg (by simp), h k (by omega)]
theorem Pa.mix_iff {s : Int} {ls : List (List Int)} : ∀ k, Pa.mix s ls k = false ↔ ∀ j, j < k → (ppk (ls.getD j [])).ssrc = s
  | 0 => by simp [Pa.mix]
  | k + 1 => by
    show (Pa.mix s ls k || decide ((ppk (ls.getD k [])).ssrc ≠ s)) = false ↔ _
    rw [Bool.or_eq_false_iff, Pa.mix_iff k, decide_eq_false_iff_not, Decidable.not_not]
    constructor
    · rintro ⟨h1, h2⟩ j hj
      by_cases e : j = k
      · subst e; exact h2
      · exact h1 j (by omega)
    · intro h; exact ⟨fun j hj => h j (by omega), h k (by omega)⟩
theorem Pa.u16 {ls : List (List Int)} (h : PkOk ls) : U16 (Pa.seqs ls ls.length) ls.length := fun j hj => by rw [Pa.seqs_at ls hj]; exact h j hj
theorem Pa.good_iff {ls : List (List Int)} (hok : PkOk ls) : Pa.code ls = 0 ↔ PaGood ls := by
  constructor
  · intro h
    unfold Pa.code at h
    by_cases h0 : ls.length = 0
    · rw [if_pos h0] at h; cases h
    rw [if_neg h0] at h
    by_cases h48 : 48 < ls.length
    · rw [if_pos h48] at h; cases h
    rw [if_neg h48] at h
    by_cases hn : Pa.ncode ls = 0
    · rw [if_neg (by simpa using hn)] at h
      have he : Pa.err ls ls.length = 0 := by
        by_cases e : Pa.err ls ls.length = 0
        · exact e
        · unfold Pa.ncode at hn; rw [if_pos e] at hn; exact hn
      have hm : Pa.mix (Pa.src ls) ls ls.length = false := by
        unfold Pa.ncode at hn
        rw [he, if_neg (by simp)] at hn
        cases e : Pa.mix (Pa.src ls) ls ls.length with
        | false => rfl
        | true => rw [e, if_pos rfl] at hn; cases hn
      obtain ⟨_, ⟨B, hB⟩, hap⟩ := (ccode_iff (Pa.u16 hok)).1 h
      refine ⟨by omega, by omega, fun j hj => Pa.err_good he hj, ⟨_, (Pa.mix_iff _).1 hm⟩, ⟨B, fun j hj => ?_⟩, fun i j h1 h2 => ?_⟩
      · have := hB j hj; rwa [Pa.seqs_at ls hj] at this
      · have := hap i j h1 h2; rwa [Pa.seqs_at ls (by omega), Pa.seqs_at ls h2] at this
    · rw [if_pos hn] at h; exact absurd h hn
  · intro h
    have he := Pa.err_zero ls.length h.pk
    obtain ⟨s, hs⟩ := h.src
    have hsrc : Pa.src ls = s := hs 0 h.pos
    have hm : Pa.mix (Pa.src ls) ls ls.length = false := (Pa.mix_iff _).2 (by rw [hsrc]; exact hs)
    have hn : Pa.ncode ls = 0 := by unfold Pa.ncode; rw [he, if_neg (by simp), hm, if_neg (by decide)]
    unfold Pa.code
    rw [if_neg (by have := h.pos; omega), if_neg (by have := h.few; omega), hn, if_neg (by simp)]
    obtain ⟨B, hB⟩ := h.near
    refine (ccode_iff (Pa.u16 hok)).2 ⟨h.pos, ⟨B, fun j hj => ?_⟩, fun i j h1 h2 => ?_⟩
    · rw [Pa.seqs_at ls hj]; exact hB j hj
    · rw [Pa.seqs_at ls (by omega), Pa.seqs_at ls h2]; exact h.apart i j h1 h2
/-- Some of them, none twice, have a repair, too. -/
theorem PaGood.sub {ls ms : List (List Int)} (h : PaGood ls) (h0 : 0 < ms.length) (hl : ms.length ≤ ls.length) (σ : Nat → Nat) (hσ : ∀ j, j < ms.length → σ j < ls.length ∧ ms.getD j [] = ls.getD (σ j) []) (hinj : ∀ i j, i < j → j < ms.length → σ i ≠ σ j) : PaGood ms := by
  obtain ⟨s, hs⟩ := h.src
  obtain ⟨B, hB⟩ := h.near
  have hap : ∀ i j, i ≠ j → i < ls.length → j < ls.length → (ppk (ls.getD i [])).seq ≠ (ppk (ls.getD j [])).seq := fun i j hne h1 h2 => by
    rcases Nat.lt_or_gt_of_ne hne with e | e
    · exact h.apart i j e h2
    · exact fun e' => h.apart j i e h1 e'.symm
  refine ⟨h0, by have := h.few; omega, fun j hj => ?_, ⟨s, fun j hj => ?_⟩, ⟨B, fun j hj => ?_⟩, fun i j h1 h2 => ?_⟩
  · rw [(hσ j hj).2]; exact h.pk _ (hσ j hj).1
  · rw [(hσ j hj).2]; exact hs _ (hσ j hj).1
  · rw [(hσ j hj).2]; exact hB _ (hσ j hj).1
  · rw [(hσ i (by omega)).2, (hσ j h2).2]; exact hap _ _ (hinj i j h1 h2) (hσ i (by omega)).1 (hσ j h2).1
theorem PkOk.sub {ls ms : List (List Int)} (h : PkOk ls) (σ : Nat → Nat) (hσ : ∀ j, j < ms.length → σ j < ls.length ∧ ms.getD j [] = ls.getD (σ j) []) : PkOk ms := fun j hj => by rw [(hσ j hj).2]; exact h _ (hσ j hj).1
end Go.Proofs.Ytedhmoihlfjbdaa
