
/-
  Bytes that a call has made; the contract of stripe.Fit.
-/
import Derived.Test.YtppgjodehphaeaaStrGap
import Derived.Laws.CopyOwn
import Derived.OwnWalk
import Derived.Maps.AppendAt
import Derived.Laws.AppendOwnNone
namespace Go.Proofs.Ytppgjodehphaeaa
open Go.RowKit
set_option linter.unusedVariables false
theorem info_u8 : (Try.prog.info? 5).map (fun i => (i.zero, i.size, i.bytes)) = some (some (Value.int .u8 0), 1, 1) := by kernel_rfl
theorem size_u8 : (Try.prog.info? 5).map (·.size) = some 1 := by kernel_rfl
theorem info_parts {t : TypeId} {z : Value} {s b : Nat} (h : (Try.prog.info? t).map (fun i => (i.zero, i.size, i.bytes)) = some (some z, s, b)) : ∃ i, Try.prog.info? t = some i ∧ i.zero = some z ∧ i.size = s ∧ i.bytes = b := by
  cases h' : Try.prog.info? t with
  | none => rw [h'] at h; cases h
  | some i => rw [h'] at h; simp at h; exact ⟨i, rfl, h.1, h.2.1, h.2.2⟩
/-- A slice of n bytes, l, in a row of its own, at block base or behind. -/
structure Own (W : World) (base : Nat) (a : Option Addr) (n c : Nat) (l : List Int) : Prop where
  row : W.ownsRow base 5 1 (.slice a n c) n (l.map (Value.int .u8))
  ok : Str.Ok l
theorem Own.len {W : World} {base : Nat} {a : Option Addr} {n c : Nat} {l : List Int} (h : Own W base a n c l) : l.length = n := by
  have := h.row.1; simpa using this
theorem Own.bat {W : World} {base : Nat} {a : Option Addr} {n c : Nat} {l : List Int} (h : Own W base a n c l) : BAt W a n l := by
  have hl := h.len
  rcases h.row.2 with ⟨hv, rfl⟩ | ⟨g, cap, cur, hv, hb, hg, h1, h2, h3, h4⟩
  · exact ⟨hl, by omega, 0, 0, fun i hi => by omega⟩
  · simp only [Value.slice.injEq, true_and] at hv
    obtain ⟨rfl, rfl⟩ := hv
    refine ⟨hl, by unfold maxLen at h2; omega, g, 0, fun i hi => ⟨rfl, (Array.getElem?_eq_some_iff.1 hg).1, ?_, h.ok i⟩⟩
    have := h.row.cellAt i (by omega)
    rw [Nat.zero_add, this, List.getElem?_map, List.getD_eq_getElem?_getD, List.getElem?_eq_getElem (by omega)]
    rfl
theorem Own.blk {W : World} {base : Nat} {a : Option Addr} {n c : Nat} {l : List Int} (h : Own W base a n c l) : ∀ x, a = some x → base ≤ x.block ∧ x.block < W.heap.size := fun x hx => by
  subst hx; exact h.row.lt x.block rfl
theorem Own.below {W W' : World} {base : Nat} {a : Option Addr} {n c : Nat} {l : List Int} (h : Own W base a n c l) (hb : Below W.heap.size W W') : Own W' base a n c l :=
  ⟨h.row.kept (row := none) ⟨hb.os, hb.tape, hb.output, hb.size, fun k hk _ => hb.block k hk⟩ (by cases a <;> simp [Value.ownBlock]), h.ok⟩
theorem Own.mono {W : World} {base base' : Nat} {a : Option Addr} {n c : Nat} {l : List Int} (h : Own W base a n c l) (hb : base' ≤ base) : Own W base' a n c l := by
  refine ⟨⟨h.row.1, ?_⟩, h.ok⟩
  rcases h.row.2 with hv | ⟨g, cap, cur, hv, hb', r⟩
  · exact .inl hv
  · exact .inr ⟨g, cap, cur, hv, by omega, r⟩
def NewB (n : Nat) (l : List Int) (w : World) (e : Ending) (w' : World) : Prop :=
  ∃ a c, e = .returned (.slice a n c) ∧ Own w' w.heap.size a n c l ∧ Below w.heap.size w w'
/-- The first m bytes, with zeros behind. -/
def Str.fit (l : List Int) (m : Nat) : List Int := (List.range m).map fun i => l.getD i 0
theorem Str.fit_len (l : List Int) (m : Nat) : (Str.fit l m).length = m := by simp [Str.fit]
theorem Str.fit_at (l : List Int) (m i : Nat) : (Str.fit l m).getD i 0 = if i < m then l.getD i 0 else 0 := by
  by_cases h : i < m
  · rw [if_pos h]; simp [Str.fit, List.getD_eq_getElem?_getD, h]
  · rw [if_neg h, getD_out (by rw [Str.fit_len]; omega)]
theorem Str.Ok.fit {l : List Int} (h : Str.Ok l) (m : Nat) : Str.Ok (Str.fit l m) := fun i => by
  rw [Str.fit_at]; split
  · exact h i
  · omega
def Str.clamp (n : Int) : Nat := (max 0 (min n 65536)).toNat
/-- The cells that copy takes, laid over zeros. -/
theorem fit_splice (l : List Int) (m : Nat) : splice (List.replicate m (Value.int .u8 0)) 0 ((l.take m).map (Value.int .u8)) = (Str.fit l m).map (Value.int .u8) := by
  apply List.ext_getElem?
  intro i
  simp only [splice, List.take_zero, List.nil_append, Nat.zero_add, List.length_map, List.length_take, List.getElem?_append, List.getElem?_map, List.getElem?_take, List.getElem?_drop, List.getElem?_replicate, Str.fit]
  by_cases h1 : i < m
  · by_cases h2 : i < l.length
    · rw [if_pos (by omega), if_pos h1, List.getElem?_range h1]
      simp [List.getElem?_eq_getElem h2]
    · rw [if_neg (by omega), if_pos (by omega), List.getElem?_range h1]
      simp [List.getElem?_eq_none (by omega : l.length ≤ i)]
  · rw [if_neg (by omega), if_neg (by omega), List.getElem?_eq_none (by simp; omega)]; rfl
theorem one_u8 (l : List Int) : ∀ v ∈ l.map (Value.int .u8), v.oneCell' = true := by
  intro v hv
  simp only [List.mem_map] at hv
  obtain ⟨x, _, rfl⟩ := hv
  rfl
theorem made_row {w' : World} {g m : Nat} {B : Nat} (h : w'.ownsRow B 5 1 (.slice (some ⟨g, 0, none⟩) m m) m (madeCells (Value.int .u8 0).cells (m * 1)).toList) : w'.heap[g]? = some (.cells (List.replicate m (Value.int .u8 0)).toArray 5 (0, 0)) := by
  rcases h.2 with ⟨hv, _⟩ | ⟨g', cap, cur, hv, hb, hg, h1, h2, h3, h4⟩
  · simp at hv
  · simp only [Value.slice.injEq, Option.some.injEq, Addr.mk.injEq, and_true, true_and] at hv
    obtain ⟨rfl, rfl⟩ := hv
    have e : (madeCells (Value.int .u8 0).cells (m * 1)).toList = List.replicate m (.int .u8 0) := by rw [Nat.mul_one]; exact toList_madeCells_one _ _
    rw [e, List.take_of_length_le (by simp [h3])] at h4
    rw [hg, ← h4]
theorem bat_src {w : World} {a : Option Addr} {n : Nat} {l : List Int} (ha : BAt w a n l) (k : Nat) (h0 : 0 < ((l.take k).map (Value.int .u8)).length) : ∃ ad, a = some ad ∧ ∀ j v, ((l.take k).map (Value.int .u8))[j]? = some v → w.cell? (ad.add j) = some v := by
  obtain ⟨b, o, hr⟩ := ha.row
  have hl := ha.len
  simp at h0
  obtain ⟨rfl, _⟩ := hr 0 (by omega)
  refine ⟨_, rfl, fun j v hv => ?_⟩
  have hj : j < min k l.length := by have := (List.getElem?_eq_some_iff.1 hv).1; simpa using this
  obtain ⟨_, _, h3, _⟩ := hr j (by omega)
  rw [show (Addr.add ⟨b, o, none⟩ j) = ⟨b, o + j, none⟩ from by unfold Addr.add; split <;> simp_all, h3]
  rw [List.getElem?_map, List.getElem?_take, if_pos (by omega), List.getElem?_eq_getElem (by omega)] at hv
  rw [List.getD_eq_getElem?_getD, List.getElem?_eq_getElem (by omega)]
  simpa using hv
end Go.Proofs.Ytppgjodehphaeaa
