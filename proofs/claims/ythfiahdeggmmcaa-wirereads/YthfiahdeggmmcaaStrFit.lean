/-
  Bytes that a call has made; the contract of stripe.Fit.
-/
import Derived.Test.YthfiahdeggmmcaaStrGap
import Derived.Laws.CopyOwn
import Derived.OwnWalk
import Derived.Maps.AppendAt
import Derived.Laws.AppendOwnNone
namespace Go.Proofs.Ythfiahdeggmmcaa
open Go.RowKit
set_option linter.unusedVariables false
theorem info_u8 : (Try.prog.info? 5).map (fun i => (i.zero, i.size, i.bytes)) = some (some (Value.int .u8 0), 1, 1) := by kernel_rfl
theorem size_u8 : (Try.prog.info? 5).map (·.size) = some 1 := by kernel_rfl
theorem info_parts {t : TypeId} {z : Value} {s b : Nat} (h : (Try.prog.info? t).map (fun i => (i.zero, i.size, i.bytes)) = some (some z, s, b)) : ∃ i, Try.prog.info? t = some i ∧ i.zero = some z ∧ i.size = s ∧ i.bytes = b := by
  cases h' : Try.prog.info? t with
  | none => rw [h'] at h; cases h
  | some i => rw [h'] at h; simp at h; exact ⟨i, rfl, h.1, h.2.1, h.2.2⟩
/-- A slice of n bytes, l, in a row of its own, at block base or behind. -/
structure Own (W : World) (base : Nat) (a : Option Addr) (n c : Nat) (l : List Int) : Prop where
  row : W.ownsRow base 5 1 (.slice a n c) n (l.map (Value.int .u8))
  ok : Str.Ok l
theorem Own.len {W : World} {base : Nat} {a : Option Addr} {n c : Nat} {l : List Int} (h : Own W base a n c l) : l.length = n := by
  have := h.row.1; simpa using this
theorem Own.bat {W : World} {base : Nat} {a : Option Addr} {n c : Nat} {l : List Int} (h : Own W base a n c l) : BAt W a n l := by
  have hl := h.len
  rcases h.row.2 with ⟨hv, rfl⟩ | ⟨g, cap, cur, hv, hb, hg, h1, h2, h3, h4⟩
  · exact ⟨hl, by omega, 0, 0, fun i hi => by omega⟩
  · simp only [Value.slice.injEq, true_and] at hv
    obtain ⟨rfl, rfl⟩ := hv
    refine ⟨hl, by unfold maxLen at h2; omega, g, 0, fun i hi => ⟨rfl, (Array.getElem?_eq_some_iff.1 hg).1, ?_, h.ok i⟩⟩
    have := h.row.cellAt i (by omega)
    rw [Nat.zero_add, this, List.getElem?_map, List.getD_eq_getElem?_getD, List.getElem?_eq_getElem (by omega)]
    rfl
theorem Own.blk {W : World} {base : Nat} {a : Option Addr} {n c : Nat} {l : List Int} (h : Own W base a n c l) : ∀ x, a = some x → base ≤ x.block ∧ x.block < W.heap.size := fun x hx => by
  subst hx; exact h.row.lt x.block rfl
theorem Own.below {W W' : World} {base : Nat} {a : Option Addr} {n c : Nat} {l : List Int} (h : Own W base a n c l) (hb : Below W.heap.size W W') : Own W' base a n c l :=
  ⟨h.row.kept (row := none) ⟨hb.os, hb.tape, hb.output, hb.size, fun k hk _ => hb.block k hk⟩ (by cases a <;> simp [Value.ownBlock]), h.ok⟩
theorem Own.mono {W : World} {base base' : Nat} {a : Option Addr} {n c : Nat} {l : List Int} (h : Own W base a n c l) (hb : base' ≤ base) : Own W base' a n c l := by
  refine ⟨⟨h.row.1, ?_⟩, h.ok⟩
  rcases h.row.2 with hv | ⟨g, cap, cur, hv, hb', r⟩
  · exact .inl hv
  · exact .inr ⟨g, cap, cur, hv, by omega, r⟩
def NewB (n : Nat) (l : List Int) (w : World) (e : Ending) (w' : World) : Prop :=
  ∃ a c, e = .returned (.slice a n c) ∧ Own w' w.heap.size a n c l ∧ Below w.heap.size w w'
/-- The first m bytes, with zeros behind. -/
def Str.fit (l : List Int) (m : Nat) : List Int := (List.range m).map fun i => l.getD i 0
theorem Str.fit_len (l : List Int) (m : Nat) : (Str.fit l m).length = m := by simp [Str.fit]
theorem Str.fit_at (l : List Int) (m i : Nat) : (Str.fit l m).getD i 0 = if i < m then l.getD i 0 else 0 := by
  by_cases h : i < m
  · rw [if_pos h]; simp [Str.fit, List.getD_eq_getElem?_getD, h]
  · rw [if_neg h, getD_out (by rw [Str.fit_len]; omega)]
theorem Str.Ok.fit {l : List Int} (h : Str.Ok l) (m : Nat) : Str.Ok (Str.fit l m) := fun i => by
  rw [Str.fit_at]; split
  · exact h i
  · omega
def Str.clamp (n : Int) : Nat := (max 0 (min n 65536)).toNat
/-- The cells that copy takes, laid over zeros. -/
theorem fit_splice (l : List Int) (m : Nat) : splice (List.replicate m (Value.int .u8 0)) 0 ((l.take m).map (Value.int .u8)) = (Str.fit l m).map (Value.int .u8) := by
  apply List.ext_getElem?
  intro i
  simp only [splice, List.take_zero, List.nil_append, Nat.zero_add, List.length_map, List.length_take, List.getElem?_append, List.getElem?_map, List.getElem?_take, List.getElem?_drop, List.getElem?_replicate, Str.fit]
  by_cases h1 : i < m
  · by_cases h2 : i < l.length
    · rw [if_pos (by omega), if_pos h1, List.getElem?_range h1]
      simp [List.getElem?_eq_getElem h2]
    · rw [if_neg (by omega), if_pos (by omega), List.getElem?_range h1]
      simp [List.getElem?_eq_none (by omega : l.length ≤ i)]
  · rw [if_neg (by omega), if_neg (by omega), List.getElem?_eq_none (by simp; omega)]; rfl
theorem one_u8 (l : List Int) : ∀ v ∈ l.map (Value.int .u8), v.oneCell' = true := by
  intro v hv
  simp only [List.mem_map] at hv
  obtain ⟨x, _, rfl⟩ := hv
  rfl
theorem made_row {w' : World} {g m : Nat} {B : Nat} (h : w'.ownsRow B 5 1 (.slice (some ⟨g, 0, none⟩) m m) m (madeCells (Value.int .u8 0).cells (m * 1)).toList) : w'.heap[g]? = some (.cells (List.replicate m (Value.int .u8 0)).toArray 5 (0, 0)) := by
  rcases h.2 with ⟨hv, _⟩ | ⟨g', cap, cur, hv, hb, hg, h1, h2, h3, h4⟩
  · simp at hv
  · simp only [Value.slice.injEq, Option.some.injEq, Addr.mk.injEq, and_true, true_and] at hv
    obtain ⟨rfl, rfl⟩ := hv
    have e : (madeCells (Value.int .u8 0).cells (m * 1)).toList = List.replicate m (.int .u8 0) := by rw [Nat.mul_one]; exact toList_madeCells_one _ _
    rw [e, List.take_of_length_le (by simp [h3])] at h4
    rw [hg, ← h4]
theorem bat_src {w : World} {a : Option Addr} {n : Nat} {l : List Int} (ha : BAt w a n l) (k : Nat) (h0 : 0 < ((l.take k).map (Value.int .u8)).length) : ∃ ad, a = some ad ∧ ∀ j v, ((l.take k).map (Value.int .u8))[j]? = some v → w.cell? (ad.add j) = some v := by
  obtain ⟨b, o, hr⟩ := ha.row
  have hl := ha.len
  simp at h0
  obtain ⟨rfl, _⟩ := hr 0 (by omega)
  refine ⟨_, rfl, fun j v hv => ?_⟩
  have hj : j < min k l.length := by have := (List.getElem?_eq_some_iff.1 hv).1; simpa using this
  obtain ⟨_, _, h3, _⟩ := hr j (by omega)
  rw [show (Addr.add ⟨b, o, none⟩ j) = ⟨b, o + j, none⟩ from by unfold Addr.add; split <;> simp_all, h3]
  rw [List.getElem?_map, List.getElem?_take, if_pos (by omega), List.getElem?_eq_getElem (by omega)] at hv
  rw [List.getD_eq_getElem?_getD, List.getElem?_eq_getElem (by omega)]
  simpa using hv
set_option maxHeartbeats 1000000 in
set_option maxRecDepth 100000 in
theorem fit_any (a : Option Addr) (n c : Nat) (l : List Int) (k : Int) (w : World) (ha : BAt w a n l) (hk1 : -9223372036854775808 ≤ k) (hk2 : k ≤ 9223372036854775807) :
    Calls Try.prog 39 #[.slice a n c, .int .i64 k] w (NewB (Str.clamp k) (Str.fit l (Str.clamp k)) w) := by
  obtain ⟨i0, hi0, hz0, hz1, hz2⟩ := info_parts info_u8
  have hm : Str.clamp k = (max 0 (min k 65536)).toNat := rfl
  generalize Str.clamp k = m at hm ⊢
  have HM := Lib.hid hm; clear hm
  have HA := Lib.hid ha; clear ha
  have hl := HA.out.len
  have hcl : ((l.take m).map (Value.int .u8)).length = Nat.min n m := by rw [List.length_map, List.length_take, hl]; exact Nat.min_comm m n
  have HCL := Lib.hid hcl
  have hcf : 0 + ((l.take m).map (Value.int .u8)).length ≤ (List.replicate m (Value.int .u8 0)).length := by simp; omega
  have HCF := Lib.hid hcf
  have HL := Lib.hid hl; clear hl hcl hcf
  go_enter Try.func39, Try.ntmps39
  go_wp2_with (first
    | (refine wpList_make_full _ rfl (.tmp 8) (.tmp 8) 22 rfl w.heap.size 5 i0 (.int .u8 0) 1 Try.underlying22 hi0 hz0 hz1 .i64 .i64 _ _ m (by rfl) (by rfl) (by have := HM.out; omega) (by have := HM.out; omega) (by have := HM.out; rw [hz2]; omega) (by have := HM.out; unfold maxLen; omega) (Nat.le_refl _) ?_
       intro w1 hown hgrow
       have hg := made_row hown
       have HG := Lib.hid hg; clear hg hown
       have hB1 : Below w.heap.size w w1 := (Below.refl _ w).grown hgrow (Nat.le_refl _) (fun k e => by cases e)
       have HB1 := Lib.hid hB1; clear hB1 hgrow
       have ha1 := HA.out.below HB1.out
       have HA1 := Lib.hid ha1; clear ha1)
    | (refine wpList_copy_splice rfl (.tmp 10) (.tmp 11) 22 22 rfl 5 Try.underlying22 size_u8 (some ⟨w.heap.size, 0, none⟩) a m m n c (by rfl) (by rfl) w.heap.size 0 _ 5 HG.out ((l.take m).map (Value.int .u8)) HCL.out (fun h0 => ⟨rfl, bat_src HA1.out m h0⟩) HCF.out (one_u8 _) w.heap.size w HB1.out (Nat.le_refl _) ?_; intro w2 HG2 hB2))
  all_goals
    go_ret
    refine ⟨_, _, rfl, ⟨⟨by simp [Str.fit_len], .inr ⟨w.heap.size, m, _, rfl, Nat.le_refl _, HG2.out, Nat.le_refl _, ?_, ?_, ?_⟩⟩, (HA.out.ok).fit m⟩, hB2⟩
    · have := HM.out; unfold maxLen; omega
    · rw [fit_splice]; simp [Str.fit_len]
    · rw [fit_splice]; exact List.take_of_length_le (by simp [Str.fit_len])
end Go.Proofs.Ythfiahdeggmmcaa
