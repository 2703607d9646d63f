
/-
  Byte strings as lists of numbers: their exclusive or, the first place where two differ. No Go here.
-/
import Derived.WalkKit
import Derived.Laws.BitsLemmas
import Derived.Below
import Derived.Lib.Hide
namespace Go.Proofs.Ytedhmoihlfjbdaa
open Go.RowKit
theorem getD_ext {a b : List Int} (hl : a.length = b.length) (h : ∀ i, i < a.length → a.getD i 0 = b.getD i 0) : a = b := by
  apply List.ext_getElem hl
  intro i h1 h2
  have := h i h1
  rwa [List.getD_eq_getElem?_getD, List.getD_eq_getElem?_getD, List.getElem?_eq_getElem h1, List.getElem?_eq_getElem h2] at this
theorem getD_out {a : List Int} {i : Nat} (h : a.length ≤ i) : a.getD i 0 = 0 := by
  rw [List.getD_eq_getElem?_getD, List.getElem?_eq_none h]; rfl
/-- The exclusive or of two bytes. -/
def Str.bx (x y : Int) : Int := ((x.toNat ^^^ y.toNat : Nat) : Int)
theorem Str.bx_byte {x y : Int} (hx : 0 ≤ x ∧ x < 256) (hy : 0 ≤ y ∧ y < 256) : 0 ≤ Str.bx x y ∧ Str.bx x y < 256 := by
  unfold Str.bx
  have : x.toNat ^^^ y.toNat < 2 ^ 8 := Nat.xor_lt_two_pow (by omega) (by omega)
  omega
theorem Str.bx_zero {x : Int} (hx : 0 ≤ x) : Str.bx x 0 = x := by unfold Str.bx; simp; omega
theorem Str.zero_bx {x : Int} (hx : 0 ≤ x) : Str.bx 0 x = x := by unfold Str.bx; simp; omega
theorem Str.bx_comm (x y : Int) : Str.bx x y = Str.bx y x := by unfold Str.bx; rw [Nat.xor_comm]
theorem Str.bx_self (x : Int) : Str.bx x x = 0 := by unfold Str.bx; simp
theorem Str.bx_assoc (x y z : Int) : Str.bx (Str.bx x y) z = Str.bx x (Str.bx y z) := by unfold Str.bx; simp [Nat.xor_assoc]
theorem Str.bx_eq_zero {x y : Int} (hx : 0 ≤ x) (hy : 0 ≤ y) : Str.bx x y = 0 ↔ x = y := by
  unfold Str.bx
  constructor
  · intro h
    have h' : x.toNat ^^^ y.toNat = 0 := by omega
    have h2 : x.toNat ^^^ (x.toNat ^^^ y.toNat) = x.toNat := by rw [h', Nat.xor_zero]
    rw [← Nat.xor_assoc, Nat.xor_self, Nat.zero_xor] at h2
    omega
  · rintro rfl; simp
theorem Str.bits_xor {x y : Int} (hx : 0 ≤ x ∧ x < 256) (hy : 0 ≤ y ∧ y < 256) : bits .xor .u8 x y = Str.bx x y := by
  have h := Str.bx_byte hx hy
  have ex : (BitVec.ofInt 8 x).toNat = x.toNat := by rw [BitVec.toNat_ofInt]; omega
  have ey : (BitVec.ofInt 8 y).toNat = y.toNat := by rw [BitVec.toNat_ofInt]; omega
  have key : (BitVec.ofInt 8 x ^^^ BitVec.ofInt 8 y).toNat = x.toNat ^^^ y.toNat := by rw [BitVec.toNat_xor, ex, ey]
  show IntKind.u8.wrap ((BitVec.ofInt 8 x ^^^ BitVec.ofInt 8 y).toNat : Nat) = _
  rw [key]
  unfold Str.bx at *
  have : ∀ n : Int, IntKind.u8.wrap n = n % 256 := fun n => by simp [IntKind.wrap, IntKind.bits, IntKind.signed]
  rw [this]; omega
/-- The exclusive or of two byte strings. -/
def Str.xor (a b : List Int) : List Int := (List.range (max a.length b.length)).map fun i => Str.bx (a.getD i 0) (b.getD i 0)
theorem Str.xor_len (a b : List Int) : (Str.xor a b).length = max a.length b.length := by simp [Str.xor]
theorem Str.xor_at (a b : List Int) (i : Nat) : (Str.xor a b).getD i 0 = Str.bx (a.getD i 0) (b.getD i 0) := by
  by_cases h : i < max a.length b.length
  · simp [Str.xor, List.getD_eq_getElem?_getD, h]
  · rw [getD_out (by rw [Str.xor_len]; omega), getD_out (a := a) (by omega), getD_out (a := b) (by omega)]; rfl
/-- All numbers of a list are bytes. -/
def Str.Ok (l : List Int) : Prop := ∀ i, 0 ≤ l.getD i 0 ∧ l.getD i 0 < 256
theorem Str.Ok.xor {a b : List Int} (ha : Str.Ok a) (hb : Str.Ok b) : Str.Ok (Str.xor a b) := fun i => by
  rw [Str.xor_at]; exact Str.bx_byte (ha i) (hb i)
theorem Str.ok_nil : Str.Ok [] := fun i => by simp
theorem Str.xor_nil {a : List Int} (ha : Str.Ok a) : Str.xor a [] = a :=
  getD_ext (by rw [Str.xor_len]; simp) fun i _ => by rw [Str.xor_at, getD_out (a := []) (by simp), Str.bx_zero (ha i).1]
theorem Str.nil_xor {a : List Int} (ha : Str.Ok a) : Str.xor [] a = a :=
  getD_ext (by rw [Str.xor_len]; simp) fun i _ => by rw [Str.xor_at, getD_out (a := []) (by simp), Str.zero_bx (ha i).1]
theorem Str.xor_comm (a b : List Int) : Str.xor a b = Str.xor b a :=
  getD_ext (by rw [Str.xor_len, Str.xor_len]; omega) fun i _ => by rw [Str.xor_at, Str.xor_at, Str.bx_comm]
theorem Str.xor_assoc (a b c : List Int) : Str.xor (Str.xor a b) c = Str.xor a (Str.xor b c) :=
  getD_ext (by simp only [Str.xor_len]; omega) fun i _ => by simp only [Str.xor_at, Str.bx_assoc]
/-- All strings, from one on. -/
def Str.all (s : List Int) (ls : List (List Int)) : List Int := ls.foldl Str.xor s
theorem Str.all_ok : ∀ (ls : List (List Int)) (s : List Int), Str.Ok s → (∀ l ∈ ls, Str.Ok l) → Str.Ok (Str.all s ls)
  | [], s, h, _ => h
  | l :: ls, s, h, hl => Str.all_ok ls (Str.xor s l) (h.xor (hl l (by simp))) (fun x hx => hl x (by simp [hx]))
theorem Str.all_take (ls : List (List Int)) (k : Nat) (h : k < ls.length) : Str.all [] (ls.take (k + 1)) = Str.xor (Str.all [] (ls.take k)) (ls.getD k []) := by
  have e : ls.take (k + 1) = ls.take k ++ [ls.getD k []] := by
    rw [List.take_add_one, List.getElem?_eq_getElem h, List.getD_eq_getElem?_getD, List.getElem?_eq_getElem h]; rfl
  unfold Str.all
  rw [e, List.foldl_append]; rfl
/-- The first place at which two strings differ, or -1. -/
def Str.gap (a b : List Int) : Int :=
  match (List.range (max a.length b.length)).find? (fun i => a.getD i 0 != b.getD i 0) with
  | some k => (k : Int)
  | none => -1
theorem Str.gap_at {a b : List Int} {k : Nat} (h : a.getD k 0 ≠ b.getD k 0) (hl : ∀ j, j < k → a.getD j 0 = b.getD j 0) : Str.gap a b = k := by
  have hk : k < max a.length b.length := by
    rcases Nat.lt_or_ge k (max a.length b.length) with h' | h'
    · exact h'
    · exact absurd ((getD_out (a := a) (by omega)).trans (getD_out (a := b) (by omega)).symm) h
  have : (List.range (max a.length b.length)).find? (fun i => a.getD i 0 != b.getD i 0) = some k := by
    rw [List.find?_range_eq_some]
    exact ⟨by simpa using h, by simpa using hk, fun j hj => by simpa using hl j hj⟩
  unfold Str.gap; rw [this]
theorem Str.gap_none {a b : List Int} (h : ∀ j, a.getD j 0 = b.getD j 0) : Str.gap a b = -1 := by
  have : (List.range (max a.length b.length)).find? (fun i => a.getD i 0 != b.getD i 0) = none := by
    rw [List.find?_eq_none]; intro i _; simpa using h i
  unfold Str.gap; rw [this]
theorem Str.gap_cases (a b : List Int) : (Str.gap a b = -1 ∧ ∀ j, a.getD j 0 = b.getD j 0) ∨ ∃ k : Nat, Str.gap a b = k ∧ a.getD k 0 ≠ b.getD k 0 ∧ k < max a.length b.length := by
  unfold Str.gap
  cases h : (List.range (max a.length b.length)).find? (fun i => a.getD i 0 != b.getD i 0) with
  | some k =>
    rw [List.find?_range_eq_some] at h
    exact .inr ⟨k, rfl, by simpa using h.1, by simpa using h.2.1⟩
  | none =>
    rw [List.find?_eq_none] at h
    refine .inl ⟨rfl, fun j => ?_⟩
    by_cases hj : j < max a.length b.length
    · simpa using h j (by simpa using hj)
    · rw [getD_out (a := a) (by omega), getD_out (a := b) (by omega)]
theorem Str.gap_neg (a b : List Int) : decide (Str.gap a b < 0) = decide (∀ j, j < max a.length b.length → a.getD j 0 = b.getD j 0) := by
  rcases Str.gap_cases a b with ⟨h, h'⟩ | ⟨k, h, h', hk⟩
  · rw [h, decide_eq_true (by omega : (-1 : Int) < 0), decide_eq_true (fun j _ => h' j)]
  · rw [h, decide_eq_false (by omega), decide_eq_false (fun hh => h' (hh k hk))]
theorem Str.gap_comm (a b : List Int) : Str.gap a b = Str.gap b a := by
  rcases Str.gap_cases a b with ⟨h, h'⟩ | ⟨k, h, h', hk⟩
  · rw [h, Str.gap_none fun j => (h' j).symm]
  · unfold Str.gap
    rw [show max b.length a.length = max a.length b.length from Nat.max_comm _ _]
    congr 1
    congr 1
    funext i
    exact bne_comm
end Go.Proofs.Ytedhmoihlfjbdaa
