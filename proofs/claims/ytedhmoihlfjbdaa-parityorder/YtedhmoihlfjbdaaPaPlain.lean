
/-
  The repair of packets, in plain words.
-/
import Derived.Test.YtedhmoihlfjbdaaIbFold
import Derived.Test.YtedhmoihlfjbdaaIbOf
import Derived.Test.YtedhmoihlfjbdaaCovOf
import Derived.Test.YtedhmoihlfjbdaaCovRep
namespace Go.Proofs.Ytedhmoihlfjbdaa
open Go.RowKit Go.Shelf
set_option linter.unusedVariables false
/-- The slice a of len packets' bytes reads as ls. -/
structure PksAt (W : World) (a : Option Addr) (len : Nat) (ls : List (List Int)) : Prop where
  count : ls.length = len
  row : ∃ b o, ∃ (av : Nat → Option Addr) (nv cv : Nat → Nat), ∀ k, k < len → a = some ⟨b, o, none⟩ ∧ b < W.heap.size ∧ W.cell? ⟨b, o + k, none⟩ = some (.slice (av k) (nv k) (cv k)) ∧ BAt W (av k) (nv k) (ls.getD k []) ∧ nv k ≤ cv k ∧ nv k ≤ 140737488355328
theorem PksAt.below {W W' : World} {a : Option Addr} {len : Nat} {ls : List (List Int)} (h : PksAt W a len ls) (hb : Below W.heap.size W W') : PksAt W' a len ls := by
  obtain ⟨b, o, av, nv, cv, hr⟩ := h.row
  refine ⟨h.count, b, o, av, nv, cv, fun k hk => ?_⟩
  obtain ⟨h1, h2, h3, h4, h5⟩ := hr k hk
  exact ⟨h1, by have := hb.size; omega, (hb.cell (p := ⟨b, o + k, none⟩) h2).trans h3, h4.below hb, h5⟩
theorem PksAt.noPks (W : World) (a : Option Addr) : PksAt W a 0 [] := ⟨rfl, 0, 0, fun _ => none, fun _ => 0, fun _ => 0, fun k hk => by omega⟩
/-- One packet of them. -/
theorem PksAt.get {W : World} {a : Option Addr} {len : Nat} {ls : List (List Int)} (h : PksAt W a len ls) {k : Nat} (hk : k < len) :
    ∃ b o pa pn pc, a = some ⟨b, o, none⟩ ∧ b < W.heap.size ∧ W.cell? ⟨b, o + k, none⟩ = some (.slice pa pn pc) ∧ BAt W pa pn (ls.getD k []) ∧ pn ≤ pc ∧ pn ≤ 140737488355328 := by
  obtain ⟨b, o, av, nv, cv, hr⟩ := h.row
  exact ⟨b, o, _, _, _, hr k hk⟩
/-- A part of them. -/
theorem PksAt.take {W : World} {a : Option Addr} {len : Nat} {ls : List (List Int)} (h : PksAt W a len ls) (k : Nat) (hk : k ≤ len) : PksAt W a k (ls.take k) := by
  obtain ⟨b, o, av, nv, cv, hr⟩ := h.row
  have hc := h.count
  refine ⟨by simp; omega, b, o, av, nv, cv, fun j hj => ?_⟩
  have := hr j (by omega)
  rwa [show (ls.take k).getD j [] = ls.getD j [] from by rw [List.getD_eq_getElem?_getD, List.getElem?_take, if_pos hj, ← List.getD_eq_getElem?_getD]]
/-- The first error of the first k packets. -/
def Pa.err (ls : List (List Int)) : Nat → Int | 0 => 0 | k + 1 => if Pa.err ls k ≠ 0 then Pa.err ls k else pcodeF (ls.getD k []).length (ls.getD k [])
theorem Pa.err_stay {ls : List (List Int)} {k n : Nat} (h : k ≤ n) (he : Pa.err ls k ≠ 0) : Pa.err ls n = Pa.err ls k := by
  induction n with
  | zero => obtain rfl : k = 0 := by omega
            rfl
  | succ n ih =>
    by_cases hk : k = n + 1
    · rw [hk]
    · have := ih (by omega)
      show (if Pa.err ls n ≠ 0 then Pa.err ls n else pcodeF (ls.getD n []).length (ls.getD n [])) = Pa.err ls k
      rw [this, if_pos he]
theorem Pa.err_low {ls : List (List Int)} {k n : Nat} (h : k ≤ n) (he : Pa.err ls n = 0) : Pa.err ls k = 0 := by
  by_cases hk : Pa.err ls k = 0
  · exact hk
  · rw [Pa.err_stay h hk] at he; exact absurd he hk
theorem Pa.err_good {ls : List (List Int)} {n : Nat} (he : Pa.err ls n = 0) {k : Nat} (hk : k < n) : pcodeF (ls.getD k []).length (ls.getD k []) = 0 := by
  have h := Pa.err_low (k := k + 1) (by omega) he
  have h0 := Pa.err_low (k := k) (by omega) he
  have h' : (if Pa.err ls k ≠ 0 then Pa.err ls k else pcodeF (ls.getD k []).length (ls.getD k [])) = 0 := h
  rwa [h0, if_neg (by simp)] at h'
/-- Is one of the first k packets not of source s? -/
def Pa.mix (s : Int) (ls : List (List Int)) : Nat → Bool | 0 => false | k + 1 => Pa.mix s ls k || decide ((ppk (ls.getD k [])).ssrc ≠ s)
/-- The first k packets' numbers. -/
def Pa.seqs (ls : List (List Int)) (k : Nat) : List Int := (List.range k).map fun j => (ppk (ls.getD j [])).seq
theorem Pa.seqs_succ (ls : List (List Int)) (k : Nat) : Pa.seqs ls (k + 1) = Pa.seqs ls k ++ [(ppk (ls.getD k [])).seq] := by unfold Pa.seqs; rw [List.range_succ, List.map_append]; rfl
theorem Pa.seqs_len (ls : List (List Int)) (k : Nat) : (Pa.seqs ls k).length = k := by simp [Pa.seqs]
theorem Pa.seqs_at (ls : List (List Int)) {k j : Nat} (h : j < k) : (Pa.seqs ls k).getD j 0 = (ppk (ls.getD j [])).seq := by
  rw [List.getD_eq_getElem?_getD, Pa.seqs, List.getElem?_map, List.getElem?_range h]; rfl
/-- The source of the first one. -/
def Pa.src (ls : List (List Int)) : Int := (ppk (ls.getD 0 [])).ssrc
/-- What numbersOf answers. -/
def Pa.ncode (ls : List (List Int)) : Int := if Pa.err ls ls.length ≠ 0 then Pa.err ls ls.length else if Pa.mix (Pa.src ls) ls ls.length then 61 else 0
/-- What Make answers: the error, the base, the mask, the header's and the content's bytes. -/
def Pa.base (ls : List (List Int)) : Int := Cv.base (Pa.seqs ls ls.length) ls.length
def Pa.code (ls : List (List Int)) : Int :=
  if ls.length = 0 then 4 else if 48 < ls.length then 3 else if Pa.ncode ls ≠ 0 then Pa.ncode ls else Cv.code (Pa.base ls) (Pa.seqs ls ls.length) ls.length
def Pa.X (ls : List (List Int)) : Nat := Cv.m (Pa.base ls) (Pa.seqs ls ls.length) ls.length
def Pa.head (ls : List (List Int)) : List Int := Str.all [] (ls.map ihd)
def Pa.body (ls : List (List Int)) : List Int := Str.all [] (ls.map (List.drop 12))
/-- What Make leaves. -/
def PaOut (ls : List (List Int)) (w : World) (e : Ending) (w' : World) : Prop :=
  (Pa.code ls ≠ 0 → e = .returned (.tuple #[rpc (fun _ => 0) 0 0 none 0 0, .int .i64 (Pa.code ls)]) ∧ Below w.heap.size w w') ∧
  (Pa.code ls = 0 → ∃ a c, e = .returned (.tuple #[rpc (fun j => (Pa.head ls).getD j 0) (Pa.base ls) (Pa.X ls) a (Pa.body ls).length c, .int .i64 0]) ∧ Own w' w.heap.size a (Pa.body ls).length c (Pa.body ls) ∧ Below w.heap.size w w')
end Go.Proofs.Ytedhmoihlfjbdaa
