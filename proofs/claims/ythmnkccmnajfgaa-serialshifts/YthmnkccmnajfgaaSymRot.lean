/-
  slices.swapRangeCmpFunc and slices.rotateCmpFunc over a row of uint16.
-/
import Derived.Test.YthmnkccmnajfgaaSort0
import Derived.Test.YthmnkccmnajfgaaSymPlain
namespace Go.Proofs.Ythmnkccmnajfgaa
open Go.RowKit Go.Sort
set_option linter.unusedVariables false
theorem bang_swp (d : Array Int) (i j t : Nat) (hi : i < d.size) (hj : j < d.size) (hij : i ≠ j) : (swp d i j)[t]! = if t = i then d[j]! else if t = j then d[i]! else d[t]! := by
  by_cases h1 : t = i
  · rw [if_pos h1, h1]; exact swp_left d i j hi hij
  · rw [if_neg h1]
    by_cases h2 : t = j
    · rw [if_pos h2, h2]; exact swp_right d i j hj
    · rw [if_neg h2]; exact swp_other d i j t h1 h2
/-- One more step of the exchange. -/
theorem Swr.step {d dk : Array Int} {a b k : Nat} (h : Swr d dk a b k) (hab : a + k < b) (hs : b + k < dk.size) : Swr d (swp dk (a + k) (b + k)) a b (k + 1) := by
  intro t
  rw [bang_swp _ _ _ _ (by omega) hs (by omega)]
  by_cases c1 : t = a + k
  · rw [if_pos c1, h _, if_neg (by omega), if_neg (by omega), if_pos (by omega)]; congr 1; omega
  · rw [if_neg c1]
    by_cases c2 : t = b + k
    · rw [if_pos c2, h _, if_neg (by omega), if_neg (by omega), if_neg (by omega), if_pos (by omega)]; congr 1; omega
    · rw [if_neg c2, h t]
      by_cases c3 : a ≤ t ∧ t < a + k
      · rw [if_pos c3, if_pos (show a ≤ t ∧ t < a + (k + 1) by omega)]
      · by_cases c4 : b ≤ t ∧ t < b + k
        · rw [if_neg c3, if_pos c4, if_neg (show ¬ (a ≤ t ∧ t < a + (k + 1)) by omega), if_pos (show b ≤ t ∧ t < b + (k + 1) by omega)]
        · rw [if_neg c3, if_neg c4, if_neg (show ¬ (a ≤ t ∧ t < a + (k + 1)) by omega), if_neg (show ¬ (b ≤ t ∧ t < b + (k + 1)) by omega)]
theorem Swr.zero (d : Array Int) (a b : Nat) : Swr d d a b 0 := fun t => by rw [if_neg (by omega), if_neg (by omega)]
def RangePost (blk off lo hi : Nat) (w0 : World) (d : Array Int) (Q : Array Int → Prop) (e : Ending) (w' : World) : Prop :=
  e = .returned (.tuple #[]) ∧ ∃ d', SRow blk off w0 d' w' ∧ PermIn lo hi d d' ∧ Q d'
set_option maxHeartbeats 1000000 in
set_option maxRecDepth 100000 in
theorem swapRange_any (blk off cap a b n lo hi : Nat) (cb : Value) (d : Array Int) (w0 w : World) (S : SRow blk off w0 d w)
    (hab : a + n ≤ b) (hb : b + n ≤ hi) (hlo : lo ≤ a) (hhi : hi ≤ d.size) (hsz : d.size < 4611686018427387904) :
    Calls Try.prog 39 #[.slice (some ⟨blk, off, none⟩) d.size cap, .int .i64 a, .int .i64 b, .int .i64 n, .func (.func 32) #[] #[cb]] w (RangePost blk off lo hi w0 d (Swr d · a b n)) := by
  have HS := Lib.hid S; clear S
  go_enter Try.func39, Try.ntmps39
  go_wp2
  go_loopg [10] n (fun g1 vi wr => ∃ (k : Nat) (dk : Array Int), vi = .int .i64 k ∧ k ≤ n ∧ n - k ≤ g1 ∧ dk.size = d.size ∧ Hid (SRow blk off w0 dk wr) ∧ Hid (PermIn lo hi d dk) ∧ Hid (Swr d dk a b k))
  case atStart => exact ⟨0, d, rfl, Nat.zero_le _, by omega, rfl, HS, Lib.hid (permIn_refl d lo hi), Lib.hid (Swr.zero d a b)⟩
  case round =>
    clear HS
    obtain ⟨k, dk, rfl, hk, hg1, hsk, SK, PK, QK⟩ := hrel
    by_cases hlt : k < n
    · have hltz : (k : Int) < (n : Int) := by omega
      have c1 := SK.out.cell (a + k) (by omega)
      have c2 := SK.out.cell (b + k) (by omega)
      have f1 := SK.out.fro (a + k) (by omega)
      have f2 := SK.out.fro (b + k) (by omega)
      generalize hx1 : dk[a + k]! = x1 at c1
      generalize hx2 : dk[b + k]! = x2 at c2
      have X1 := Lib.hid hx1; have X2 := Lib.hid hx2; clear hx1 hx2
      have p1 : (0 : Int) ≤ (a : Int) + (k : Int) := by omega
      have p2 : (0 : Int) ≤ (b : Int) + (k : Int) := by omega
      have q1 : (a : Int) + (k : Int) < (d.size : Int) := by omega
      have q2 : (b : Int) + (k : Int) < (d.size : Int) := by omega
      have e1 : ((a : Int) + (k : Int)).toNat = a + k := by omega
      have e2 : ((b : Int) + (k : Int)).toNat = b + k := by omega
      obtain ⟨i1, hi1⟩ : ∃ i1, i1 = a + k := ⟨_, rfl⟩
      obtain ⟨i2, hi2⟩ : ∃ i2, i2 = b + k := ⟨_, rfl⟩
      have hne : i1 ≠ i2 := by omega
      rw [← hi1] at c1 f1 e1
      rw [← hi2] at c2 f2 e2
      have I1 := Lib.hid hi1; have I2 := Lib.hid hi2; clear hi1 hi2
      have HNE := Lib.hid hne
      go_wp2_with fail
      go_region
      all_goals go_wp2
      go_roundg (n - (k + 1))
      case measure => omega
      case rel =>
        refine ⟨k + 1, swp dk (a + k) (b + k), by go_num, by omega, by omega, by rw [swp_size]; exact hsk, (show Hid _ from ?_), (show Hid _ from ?_), (show Hid _ from ?_)⟩
        · show SRow _ _ _ _ _
          rw [I1.out, I2.out, ← X1.out, ← X2.out]
          exact (SK.out.drewN 1).swap (a + k) (b + k) (by omega) (by omega)
        · show PermIn _ _ _ _
          exact permIn_trans _ _ _ _ _ PK.out (swp_permIn dk lo hi (a + k) (b + k) (by omega) (by omega) (by omega) (by omega) (by omega))
        · exact Swr.step QK.out (by omega) (by omega)
    · have hltz : ¬ (k : Int) < (n : Int) := by omega
      obtain rfl : k = n := by omega
      go_wp2
      go_end0
      exact ⟨rfl, dk, SK.out, PK.out, QK.out⟩

set_option maxHeartbeats 1000000 in
set_option maxRecDepth 100000 in
theorem rotate_any (blk off cap a m b lo hi : Nat) (cb : Value) (d : Array Int) (w0 w : World) (S : SRow blk off w0 d w)
    (ham : a < m) (hmb : m < b) (hlo : lo ≤ a) (hbh : b ≤ hi) (hhi : hi ≤ d.size) (hsz : d.size < 4611686018427387904) :
    Calls Try.prog 38 #[.slice (some ⟨blk, off, none⟩) d.size cap, .int .i64 a, .int .i64 m, .int .i64 b, .func (.func 32) #[] #[cb]] w (RangePost blk off lo hi w0 d (Rot d · a m b)) := by
  have HS := Lib.hid S; clear S
  go_enter Try.func38, Try.ntmps38
  go_wp2
  go_loopg [10, 11] (b - a) (fun g1 vi vj wr => ∃ (i j : Nat) (dk : Array Int), vi = .int .i64 i ∧ vj = .int .i64 j ∧ 0 < i ∧ 0 < j ∧ i ≤ m ∧ a ≤ m - i ∧ m + j ≤ b ∧ i + j ≤ g1 ∧ dk.size = d.size ∧ Hid (SRow blk off w0 dk wr) ∧ Hid (PermIn lo hi d dk) ∧ Hid (∀ d2, Rot dk d2 (m - i) m (m + j) → Rot d d2 a m b))
  case atStart =>
    refine ⟨m - a, b - m, d, by first | go_num | (congr 1; omega), by first | go_num | (congr 1; omega), by omega, by omega, by omega, by omega, by omega, by omega, rfl, HS, Lib.hid (permIn_refl d lo hi), Lib.hid fun d2 h => ?_⟩
    rw [show m - (m - a) = a by omega, show m + (b - m) = b by omega] at h; exact h
  case round =>
    clear HS
    obtain ⟨i, j, dk, rfl, rfl, hi0, hj0, him, hai, hmj, hg1, hsk, SK, PK, QK⟩ := hrel
    have ec : ((m : Int) - (i : Int)) = ((m - i : Nat) : Int) := by omega
    rcases Nat.lt_trichotomy i j with hij | hij | hij
    · have t1 : ((i : Int) != (j : Int)) = true := by rw [bne_iff_ne]; omega
      have t2 : ¬ (j : Int) < (i : Int) := by omega
      have ed : ((m : Int) + (j : Int) - (i : Int)) = ((m + j - i : Nat) : Int) := by omega
      have hc := swapRange_any blk off cap (m - i) (m + j - i) i lo hi cb dk w0 _ SK.out (by omega) (by omega) (by omega) (by omega) (by omega)
      rw [← ec, ← ed, hsk] at hc
      have HC := Lib.hid hc; clear hc ec ed
      go_wp2_with (go_at_call 39; refine HC.out.mono ?_; rintro e w1 ⟨rfl, d1, S1, P1, Q1⟩)
      have hs1 : d1.size = d.size := by rw [P1.1]; exact hsk
      have S1' := Lib.hid S1; have P1' := Lib.hid P1; have Q1' := Lib.hid Q1
      clear S1 P1 Q1
      go_roundg (i + (j - i))
      case measure => omega
      case rel => exact ⟨i, j - i, d1, rfl, by first | go_num | (congr 1; omega), hi0, by omega, him, hai, by omega, Nat.le_refl _, hs1, S1', Lib.hid (permIn_trans _ _ _ _ _ PK.out P1'.out), Lib.hid fun d2 h => QK.out d2 (Rot.step2 him hij Q1'.out h)⟩
    · subst hij
      have t1 : ((i : Int) != (i : Int)) = false := by simp
      have hc := swapRange_any blk off cap (m - i) m i lo hi cb dk w0 _ SK.out (by omega) (by omega) (by omega) (by omega) (by omega)
      rw [← ec, hsk] at hc
      have HC := Lib.hid hc; clear hc ec
      go_wp2_with (go_at_call 39; refine HC.out.mono ?_; rintro e w1 ⟨rfl, d1, S1, P1, Q1⟩)
      go_end0
      exact ⟨rfl, d1, S1, permIn_trans _ _ _ _ _ PK.out P1, QK.out d1 (Rot.last him Q1)⟩
    · have t1 : ((i : Int) != (j : Int)) = true := by rw [bne_iff_ne]; omega
      have t2 : (j : Int) < (i : Int) := by omega
      have hc := swapRange_any blk off cap (m - i) m j lo hi cb dk w0 _ SK.out (by omega) (by omega) (by omega) (by omega) (by omega)
      rw [← ec, hsk] at hc
      have HC := Lib.hid hc; clear hc ec
      go_wp2_with (go_at_call 39; refine HC.out.mono ?_; rintro e w1 ⟨rfl, d1, S1, P1, Q1⟩)
      have hs1 : d1.size = d.size := by rw [P1.1]; exact hsk
      have S1' := Lib.hid S1; have P1' := Lib.hid P1; have Q1' := Lib.hid Q1
      clear S1 P1 Q1
      go_roundg (i - j + j)
      case measure => omega
      case rel => exact ⟨i - j, j, d1, by first | go_num | (congr 1; omega), rfl, by omega, hj0, by omega, by omega, hmj, Nat.le_refl _, hs1, S1', Lib.hid (permIn_trans _ _ _ _ _ PK.out P1'.out), Lib.hid fun d2 h => QK.out d2 (Rot.step1 him hij Q1'.out h)⟩
end Go.Proofs.Ythmnkccmnajfgaa
