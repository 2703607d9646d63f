/-
  Plain: numbers that are all moved on by as much.
-/
import Derived.Test.YthmnkccmnajfgaaLawSorts2
import Derived.Maps.AppendAt
namespace Go.Proofs.Ythmnkccmnajfgaa
open Go.RowKit Go.Sort
set_option linter.unusedVariables false
def Sh.as (f : Int) (zs : List Int) : Nat → List Int
  | 0 => []
  | k + 1 => Sh.as f zs k ++ [Ser.add f (zs.getD k 0 % 16000)]
def Sh.bs (f by' : Int) (zs : List Int) : Nat → List Int
  | 0 => []
  | k + 1 => Sh.bs f by' zs k ++ [Ser.add (Ser.add f (zs.getD k 0 % 16000)) by']
theorem Sh.bs_map (f by' : Int) (zs : List Int) (k : Nat) : Sh.bs f by' zs k = (Sh.as f zs k).map (Ser.add · by') := by
  induction k with
  | zero => rfl
  | succ k ih => simp [Sh.bs, Sh.as, ih]
theorem Sh.len (f : Int) (zs : List Int) (k : Nat) : (Sh.as f zs k).length = k := by
  induction k with
  | zero => rfl
  | succ k ih => simp [Sh.as, ih]
theorem Sh.mem (f : Int) (zs : List Int) (k : Nat) : ∀ x ∈ Sh.as f zs k, ∃ u, 0 ≤ u ∧ u < 16000 ∧ x = Ser.add f u := by
  induction k with
  | zero => intro x h; cases h
  | succ k ih =>
    intro x h
    simp only [Sh.as, List.mem_append, List.mem_singleton] at h
    rcases h with h | h
    · exact ih x h
    · exact ⟨_, by omega, by omega, h⟩
theorem ahead_shift (x y b : Int) : Ser.ahead (Ser.add x b) (Ser.add y b) = Ser.ahead x y := by unfold Ser.ahead Ser.add; omega
theorem ahead_near (f u v : Int) (hu : 0 ≤ u) (hu' : u < 16000) (hv : 0 ≤ v) (hv' : v < 16000) : Ser.ahead (Ser.add f u) (Ser.add f v) = u - v := by unfold Ser.ahead Ser.add; omega
theorem add_range (x b : Int) : 0 ≤ Ser.add x b ∧ Ser.add x b < 65536 := Ser.add_bd x b
theorem bang_list (L : List Int) (i : Nat) (h : i < L.length) : L.toArray[i]! = L.getD i 0 := by
  rw [getElem!_pos _ i (by simpa using h), List.getD_eq_getElem?_getD, List.getElem?_eq_getElem h]; simp
theorem map_bang (L : List Int) (g : Int → Int) (i : Nat) (h : i < L.length) : (L.map g).toArray[i]! = g L.toArray[i]! := by
  rw [getElem!_pos _ i (by simpa using h), getElem!_pos _ i (by simpa using h)]; simp
theorem lo_shift (L : List Int) (b : Int) (k : Nat) (hk : k ≤ L.length) (h0 : 0 < L.length) : Ser.lo (L.map (Ser.add · b)).toArray k = Ser.lo L.toArray k := by
  induction k with
  | zero => rfl
  | succ k ih => simp only [Ser.lo]; rw [ih (by omega), map_bang L _ k (by omega), map_bang L _ 0 h0, ahead_shift]
theorem hi_shift (L : List Int) (b : Int) (k : Nat) (hk : k ≤ L.length) (h0 : 0 < L.length) : Ser.hi (L.map (Ser.add · b)).toArray k = Ser.hi L.toArray k := by
  induction k with
  | zero => rfl
  | succ k ih => simp only [Ser.hi]; rw [ih (by omega), map_bang L _ k (by omega), map_bang L _ 0 h0, ahead_shift]
theorem add_add (x y b : Int) : Ser.add (Ser.add x b) y = Ser.add (Ser.add x y) b := by unfold Ser.add; omega
theorem perm_list {d d' : Array Int} (hP : PermIn 0 d.size d d') : d'.size = d.size ∧ d'.toList.Perm d.toList := by
  obtain ⟨h1, _, h3⟩ := hP
  refine ⟨h1, ?_⟩
  have e1 : d'.extract 0 d.size = d' := by rw [← h1]; simp
  have e2 : d.extract 0 d.size = d := by simp
  rw [e1, e2] at h3; exact h3
theorem key_sorted_of {f : Int} {n : Nat} {d' : Array Int} (hn : d'.size = n) (hO : SortedIn (ltC (Ser.by f)) 0 n d') : KeySorted f d'.toList := by
  refine List.pairwise_iff_getElem.2 fun i j hi hj hij => ?_
  have := hO i j (Nat.zero_le _) hij (by simpa [hn] using hj)
  rw [getElem!_pos d' j (by simpa using hj), getElem!_pos d' i (by simpa using hi)] at this
  unfold ltC Ser.by Ser.cmp at this
  simp only [decide_eq_false_iff_not] at this
  unfold KeyLe
  simp only [Array.getElem_toList]
  split at this <;> omega
/-- All that the law says of the two sorted lists. -/
theorem shifts_plain (f b : Int) (zs : List Int) (n : Nat) (h0 : 0 < n) (dA dB : Array Int)
    (hA : PermIn 0 n (Sh.as f zs n).toArray dA) (oA : SortedIn (ltC (Ser.by (Sh.as f zs n).toArray[0]!)) 0 n dA)
    (hB : PermIn 0 n (Sh.bs f b zs n).toArray dB) (oB : SortedIn (ltC (Ser.by (Sh.bs f b zs n).toArray[0]!)) 0 n dB) :
    dA.size = n ∧ dB.size = n ∧ (∀ i, i < n → Ser.add dA[i]! b = dB[i]!) ∧ (∀ i, 0 < i → i < n → Ser.newer dA[i - 1]! dA[i]! = false) ∧
    Ser.lo (Sh.bs f b zs n).toArray n = Ser.lo (Sh.as f zs n).toArray n ∧ Ser.hi (Sh.bs f b zs n).toArray n = Ser.hi (Sh.as f zs n).toArray n ∧
    Ser.add (Sh.bs f b zs n).toArray[0]! (Ser.lo (Sh.as f zs n).toArray n) = Ser.add (Ser.add (Sh.as f zs n).toArray[0]! (Ser.lo (Sh.as f zs n).toArray n)) b ∧
    dA[0]! = Ser.add (Sh.as f zs n).toArray[0]! (Ser.lo (Sh.as f zs n).toArray n) ∧
    Ser.ahead dA[n - 1]! (Ser.add (Sh.as f zs n).toArray[0]! (Ser.lo (Sh.as f zs n).toArray n)) = Ser.hi (Sh.as f zs n).toArray n - Ser.lo (Sh.as f zs n).toArray n := by
  have hl := Sh.len f zs n
  have hm := Sh.mem f zs n
  rw [Sh.bs_map] at *
  generalize Sh.as f zs n = L at *
  have sA : L.toArray.size = n := by simpa using hl
  have sB : (L.map (Ser.add · b)).toArray.size = n := by simpa using hl
  have pA := perm_list (d := L.toArray) (d' := dA) (by rw [sA]; exact hA)
  have pB := perm_list (d := (L.map (Ser.add · b)).toArray) (d' := dB) (by rw [sB]; exact hB)
  have nA : dA.size = n := by rw [pA.1, sA]
  have nB : dB.size = n := by rw [pB.1, sB]
  have kA := key_sorted_of nA oA
  have b0 : (L.map (Ser.add · b)).toArray[0]! = Ser.add L.toArray[0]! b := map_bang L _ 0 (by omega)
  -- the second list is the first one, moved on
  have kM : KeySorted (L.map (Ser.add · b)).toArray[0]! (dA.toList.map (Ser.add · b)) := by
    rw [b0]
    unfold KeySorted at *
    rw [List.pairwise_map]
    refine kA.imp ?_
    intro x y h
    unfold KeyLe at *
    rw [ahead_shift, ahead_shift]; exact h
  have hone := sorted_one (L.map (Ser.add · b)).toArray[0]! (dA.toList.map (Ser.add · b)) (L.map (Ser.add · b)).toArray dB
    (fun x hx => by simp only [List.mem_map] at hx; obtain ⟨y, _, rfl⟩ := hx; exact add_range _ _)
    (by simpa using pA.2.map (Ser.add · b)) kM (by rw [sB]; exact hB) (by rw [sB]; exact oB)
  have hel : ∀ i, i < n → ∃ u, 0 ≤ u ∧ u < 16000 ∧ dA[i]! = Ser.add f u := fun i hi => by
    have : dA[i]! ∈ dA.toList := by rw [getElem!_pos dA i (by omega)]; simp
    exact hm _ (by simpa using pA.2.mem_iff.1 this)
  have h00 : ∃ u, 0 ≤ u ∧ u < 16000 ∧ L.toArray[0]! = Ser.add f u := by
    have : L.toArray[0]! ∈ L := by rw [getElem!_pos _ 0 (by rw [sA]; exact h0)]; simp
    exact hm _ this
  have hkey : ∀ i j, i < j → j < n → Ser.ahead dA[i]! L.toArray[0]! ≤ Ser.ahead dA[j]! L.toArray[0]! := fun i j hij hj => by
    have := (List.pairwise_iff_getElem.1 kA) i j (by simpa using by omega) (by simpa using by omega) hij
    unfold KeyLe at this
    rw [getElem!_pos dA i (by omega), getElem!_pos dA j (by omega)]; simpa using this
  have hsp := span_of_sorted L.toArray dA.toList (by omega) (by simpa using pA.2) kA (by simpa using pA.1)
  rw [sA] at hsp
  have g0 : dA.toList.getD 0 0 = dA[0]! := by rw [← bang_list _ 0 (by simpa using by omega)]
  have gl : dA.toList.getD (n - 1) 0 = dA[n - 1]! := by rw [← bang_list _ (n - 1) (by simpa using by omega)]
  rw [g0, gl] at hsp
  obtain ⟨u0, u01, u02, e0⟩ := h00
  obtain ⟨v0, v01, v02, ev⟩ := hel 0 h0
  have first : Ser.add L.toArray[0]! (Ser.lo L.toArray n) = dA[0]! := by rw [hsp.1]; exact add_ahead _ _ (by rw [ev]; exact add_range _ _)
  refine ⟨nA, nB, fun i hi => ?_, fun i hi hi' => ?_, lo_shift L b n (by omega) (by omega), hi_shift L b n (by omega) (by omega), ?_, first.symm, ?_⟩
  · have : dB[i]! = dB.toList.toArray[i]! := by simp
    rw [this, hone, map_bang _ _ i (by rw [Array.length_toList]; omega)]
  · obtain ⟨u, u1, u2, eu⟩ := hel (i - 1) (by omega)
    obtain ⟨v, v1, v2, ev⟩ := hel i hi'
    have := hkey (i - 1) i (by omega) hi'
    rw [eu, ev, e0, ahead_near f u u0 u1 u2 u01 u02, ahead_near f v u0 v1 v2 u01 u02] at this
    unfold Ser.newer
    rw [eu, ev, ahead_near f u v u1 u2 v1 v2]
    exact decide_eq_false (by omega)
  · rw [b0]; exact add_add _ _ _
  · obtain ⟨u, u1, u2, eu⟩ := hel (n - 1) (by omega)
    rw [first, hsp.1, hsp.2, eu, ev, e0, ahead_near f u v0 u1 u2 v01 v02, ahead_near f u u0 u1 u2 u01 u02, ahead_near f v0 u0 v01 v02 u01 u02]
    omega
end Go.Proofs.Ythmnkccmnajfgaa
