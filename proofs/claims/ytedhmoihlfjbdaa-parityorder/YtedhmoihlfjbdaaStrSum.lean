/-
  Bytes that a call has made; the contract of stripe.Fit.
-/
import Derived.Test.YtedhmoihlfjbdaaStrGap
import Derived.Laws.CopyOwn
import Derived.OwnWalk
import Derived.Maps.AppendAt
import Derived.Laws.AppendOwnNone
import Derived.Lib.AppendZerosOnto
namespace Go.Proofs.Ytedhmoihlfjbdaa
open Go.RowKit
set_option linter.unusedVariables false
theorem info_u8 : (Try.prog.info? 5).map (fun i => (i.zero, i.size, i.bytes)) = some (some (Value.int .u8 0), 1, 1) := by kernel_rfl
theorem size_u8 : (Try.prog.info? 5).map (·.size) = some 1 := by kernel_rfl
theorem info_parts {t : TypeId} {z : Value} {s b : Nat} (h : (Try.prog.info? t).map (fun i => (i.zero, i.size, i.bytes)) = some (some z, s, b)) : ∃ i, Try.prog.info? t = some i ∧ i.zero = some z ∧ i.size = s ∧ i.bytes = b := by
  cases h' : Try.prog.info? t with
  | none => rw [h'] at h; cases h
  | some i => rw [h'] at h; simp at h; exact ⟨i, rfl, h.1, h.2.1, h.2.2⟩
/-- A slice of n bytes, l, in a row of its own, at block base or behind. -/
structure Own (W : World) (base : Nat) (a : Option Addr) (n c : Nat) (l : List Int) : Prop where
  row : W.ownsRow base 5 1 (.slice a n c) n (l.map (Value.int .u8))
  ok : Str.Ok l
theorem Own.len {W : World} {base : Nat} {a : Option Addr} {n c : Nat} {l : List Int} (h : Own W base a n c l) : l.length = n := by
  have := h.row.1; simpa using this
theorem Own.bat {W : World} {base : Nat} {a : Option Addr} {n c : Nat} {l : List Int} (h : Own W base a n c l) : BAt W a n l := by
  have hl := h.len
  rcases h.row.2 with ⟨hv, rfl⟩ | ⟨g, cap, cur, hv, hb, hg, h1, h2, h3, h4⟩
  · exact ⟨hl, by omega, 0, 0, fun i hi => by omega⟩
  · simp only [Value.slice.injEq, true_and] at hv
    obtain ⟨rfl, rfl⟩ := hv
    refine ⟨hl, by unfold maxLen at h2; omega, g, 0, fun i hi => ⟨rfl, (Array.getElem?_eq_some_iff.1 hg).1, ?_, h.ok i⟩⟩
    have := h.row.cellAt i (by omega)
    rw [Nat.zero_add, this, List.getElem?_map, List.getD_eq_getElem?_getD, List.getElem?_eq_getElem (by omega)]
    rfl
theorem Own.blk {W : World} {base : Nat} {a : Option Addr} {n c : Nat} {l : List Int} (h : Own W base a n c l) : ∀ x, a = some x → base ≤ x.block ∧ x.block < W.heap.size := fun x hx => by
  subst hx; exact h.row.lt x.block rfl
theorem Own.below {W W' : World} {base : Nat} {a : Option Addr} {n c : Nat} {l : List Int} (h : Own W base a n c l) (hb : Below W.heap.size W W') : Own W' base a n c l :=
  ⟨h.row.kept (row := none) ⟨hb.os, hb.tape, hb.output, hb.size, fun k hk _ => hb.block k hk⟩ (by cases a <;> simp [Value.ownBlock]), h.ok⟩
theorem Own.mono {W : World} {base base' : Nat} {a : Option Addr} {n c : Nat} {l : List Int} (h : Own W base a n c l) (hb : base' ≤ base) : Own W base' a n c l := by
  refine ⟨⟨h.row.1, ?_⟩, h.ok⟩
  rcases h.row.2 with hv | ⟨g, cap, cur, hv, hb', r⟩
  · exact .inl hv
  · exact .inr ⟨g, cap, cur, hv, by omega, r⟩
def NewB (n : Nat) (l : List Int) (w : World) (e : Ending) (w' : World) : Prop :=
  ∃ a c, e = .returned (.slice a n c) ∧ Own w' w.heap.size a n c l ∧ Below w.heap.size w w'
/-- The first m bytes, with zeros behind. -/
def Str.fit (l : List Int) (m : Nat) : List Int := (List.range m).map fun i => l.getD i 0
theorem Str.fit_len (l : List Int) (m : Nat) : (Str.fit l m).length = m := by simp [Str.fit]
theorem Str.fit_at (l : List Int) (m i : Nat) : (Str.fit l m).getD i 0 = if i < m then l.getD i 0 else 0 := by
  by_cases h : i < m
  · rw [if_pos h]; simp [Str.fit, List.getD_eq_getElem?_getD, h]
  · rw [if_neg h, getD_out (by rw [Str.fit_len]; omega)]
theorem Str.Ok.fit {l : List Int} (h : Str.Ok l) (m : Nat) : Str.Ok (Str.fit l m) := fun i => by
  rw [Str.fit_at]; split
  · exact h i
  · omega
def Str.clamp (n : Int) : Nat := (max 0 (min n 65536)).toNat
/-- The cells that copy takes, laid over zeros. -/
theorem fit_splice (l : List Int) (m : Nat) : splice (List.replicate m (Value.int .u8 0)) 0 ((l.take m).map (Value.int .u8)) = (Str.fit l m).map (Value.int .u8) := by
  apply List.ext_getElem?
  intro i
  simp only [splice, List.take_zero, List.nil_append, Nat.zero_add, List.length_map, List.length_take, List.getElem?_append, List.getElem?_map, List.getElem?_take, List.getElem?_drop, List.getElem?_replicate, Str.fit]
  by_cases h1 : i < m
  · by_cases h2 : i < l.length
    · rw [if_pos (by omega), if_pos h1, List.getElem?_range h1]
      simp [List.getElem?_eq_getElem h2]
    · rw [if_neg (by omega), if_pos (by omega), List.getElem?_range h1]
      simp [List.getElem?_eq_none (by omega : l.length ≤ i)]
  · rw [if_neg (by omega), if_neg (by omega), List.getElem?_eq_none (by simp; omega)]; rfl
theorem one_u8 (l : List Int) : ∀ v ∈ l.map (Value.int .u8), v.oneCell' = true := by
  intro v hv
  simp only [List.mem_map] at hv
  obtain ⟨x, _, rfl⟩ := hv
  rfl
theorem made_row {w' : World} {g m : Nat} {B : Nat} (h : w'.ownsRow B 5 1 (.slice (some ⟨g, 0, none⟩) m m) m (madeCells (Value.int .u8 0).cells (m * 1)).toList) : w'.heap[g]? = some (.cells (List.replicate m (Value.int .u8 0)).toArray 5 (0, 0)) := by
  rcases h.2 with ⟨hv, _⟩ | ⟨g', cap, cur, hv, hb, hg, h1, h2, h3, h4⟩
  · simp at hv
  · simp only [Value.slice.injEq, Option.some.injEq, Addr.mk.injEq, and_true, true_and] at hv
    obtain ⟨rfl, rfl⟩ := hv
    have e : (madeCells (Value.int .u8 0).cells (m * 1)).toList = List.replicate m (.int .u8 0) := by rw [Nat.mul_one]; exact toList_madeCells_one _ _
    rw [e, List.take_of_length_le (by simp [h3])] at h4
    rw [hg, ← h4]
theorem bat_src {w : World} {a : Option Addr} {n : Nat} {l : List Int} (ha : BAt w a n l) (k : Nat) (h0 : 0 < ((l.take k).map (Value.int .u8)).length) : ∃ ad, a = some ad ∧ ∀ j v, ((l.take k).map (Value.int .u8))[j]? = some v → w.cell? (ad.add j) = some v := by
  obtain ⟨b, o, hr⟩ := ha.row
  have hl := ha.len
  simp at h0
  obtain ⟨rfl, _⟩ := hr 0 (by omega)
  refine ⟨_, rfl, fun j v hv => ?_⟩
  have hj : j < min k l.length := by have := (List.getElem?_eq_some_iff.1 hv).1; simpa using this
  obtain ⟨_, _, h3, _⟩ := hr j (by omega)
  rw [show (Addr.add ⟨b, o, none⟩ j) = ⟨b, o + j, none⟩ from by unfold Addr.add; split <;> simp_all, h3]
  rw [List.getElem?_map, List.getElem?_take, if_pos (by omega), List.getElem?_eq_getElem (by omega)] at hv
  rw [List.getD_eq_getElem?_getD, List.getElem?_eq_getElem (by omega)]
  simpa using hv
end Go.Proofs.Ytedhmoihlfjbdaa
namespace Go.Proofs.Ytedhmoihlfjbdaa
open Go.RowKit
set_option linter.unusedVariables false
theorem zeroCells_one (z : Value) (n : Nat) : (Builtin.zeroCells #[z] n).toList = List.replicate n z := by
  apply List.ext_getElem?
  intro j
  by_cases hj : j < n
  · simp [Builtin.zeroCells, hj, Nat.mod_one]
  · simp [Builtin.zeroCells, hj]
theorem run_append_room_zeros (w : World) (t tn ty e : TypeId) (i : TypeInfo) (z : Value) (kq kn : IntKind) (ht : Try.prog.underlying t = some (.slice e)) (htn : Try.prog.underlying tn = some (.int kn)) (hi : Try.prog.info? e = some i) (hz : i.zero = some z) (hsz : i.size = 1) (hzc : z.cells = #[z]) (h1 : z.oneCell' = true)
    (g sLen sCap : Nat) (cur : Array Value) (hg : w.heap[g]? = some (.cells cur e (0, 0))) (k : Nat) (h0 : 0 < k) (hroom : sLen + k ≤ sCap) (hfit : sLen + k ≤ cur.size) (h63 : ((k : Nat) : Int) ≤ 9223372036854775807) (h48 : k * i.bytes ≤ 281474976710656) :
    (Builtin.append_ #[t, tn] ty #[.slice (some ⟨g, 0, none⟩) sLen sCap, .int kq k]).run Try.prog w =
      .ok (.slice (some ⟨g, 0, none⟩) (sLen + k) sCap) (w.setRow g (cur.toList.take sLen ++ List.replicate k z ++ cur.toList.drop (sLen + k)).toArray) := by
  have hk : k ≠ 0 := by omega
  have hw : IntKind.i64.wrap (k : Int) = k := by rw [IntKind.wrap_i64]; omega
  have h48i : ¬ (281474976710656 < (k : Int) * (i.bytes : Int)) := by
    rw [← Int.natCast_mul]
    omega
  have hneg : ¬ ((k : Int) < 0) := by omega
  have hst := run_storeCells_at Try.prog g sLen e (List.replicate k z) 0 cur w hg (by simpa using hfit) (by intro u hu; rw [List.eq_of_mem_replicate hu]; exact h1)
  simp only [Nat.add_zero, List.length_replicate] at hst
  have hzl : (Builtin.zeroCells z.cells k).toList = List.replicate k z := by rw [hzc]; exact zeroCells_one z k
  simp [Builtin.append_, run_underlying ht, run_underlying htn, sizeOf, typeInfo, zeroValue, hi, hz, hsz, asInt, asIntOf, hw, hneg, hk, h48i, hroom, Addr.add_lit, hzl, hst]
/-- Zeros behind bytes of one's own. -/
theorem append_zeros_own (w : World) (ty : TypeId) (base : Nat) (a : Option Addr) (n c : Nat) (l : List Int) (h : Own w base a n c l) (k : Nat) (h0 : 0 < k) (hlim : n + k ≤ 140737488355328) (hbase : base ≤ w.heap.size) :
    ∃ a' c' w', (Builtin.append_ #[26, 3] ty #[.slice a n c, .int .i64 k]).run Try.prog w = .ok (.slice a' (n + k) c') w' ∧
      Own w' base a' (n + k) c' (l ++ List.replicate k 0) ∧ w.grownBy w' (a.map (·.block)) ∧ (∀ x, a' = some x → (∃ y, a = some y ∧ x.block = y.block) ∨ x.block = w.heap.size) := by
  obtain ⟨i0, hi0, hz0, hz1, hz2⟩ := info_parts info_u8
  have hok : Str.Ok (l ++ List.replicate k 0) := fun j => by
    rw [List.getD_eq_getElem?_getD, List.getElem?_append]
    split
    · have := h.ok j; rwa [List.getD_eq_getElem?_getD] at this
    · rw [List.getElem?_replicate]; split <;> simp
  have hmap : (l ++ List.replicate k 0).map (Value.int .u8) = l.map (Value.int .u8) ++ List.replicate k (Value.int .u8 0) := by simp
  have hll := h.len
  have grown : ∀ (old : Nat), old < n + k →
      ∃ cc, cc = grownCap w (n + k) old 5 ∧ (w.drew.alloc (.cells ((l.map (Value.int .u8)).toArray ++ Builtin.zeroCells (Value.int .u8 0).cells k ++ Builtin.zeroCells (Value.int .u8 0).cells (cc - (n + k))) 5)).ownsRow base 5 1
        (.slice (some ⟨w.heap.size, 0, none⟩) (n + k) cc) (n + k) ((l ++ List.replicate k 0).map (Value.int .u8)) := by
    intro old ho
    have hge := grownCap_ge w (n + k) old 5
    have hcm : grownCap w (n + k) old 5 ≤ maxLen := grownCap_le_maxLen w (n + k) old 5 (by unfold maxLen; omega)
    refine ⟨_, rfl, by simp [hll], .inr ⟨w.heap.size, _, _, rfl, hbase, heap_alloc_new w.drew _, hge, hcm, ?_, ?_⟩⟩
    · simp only [Array.size_append, List.size_toArray, size_zeroCells, List.length_map, hll]
      show n + k * 1 + (_ - (n + k)) * 1 = _ * 1
      omega
    · have hz : (Builtin.zeroCells (Value.int .u8 0).cells k).toList = List.replicate k (Value.int .u8 0) := zeroCells_one _ _
      simp only [Array.toList_append, hz, hmap]
      rw [List.take_append_of_le_length (by simp [hll])]
      exact List.take_of_length_le (by simp [hll])
  rcases h.row.2 with ⟨hv, rfl⟩ | ⟨g, cap, cur, hv, hbg, hg, hnc, hcm, hcs, htake⟩
  · simp only [Value.slice.injEq, true_and] at hv
    obtain ⟨rfl, rfl⟩ := hv
    have hl0 : l = [] := List.eq_nil_of_length_eq_zero hll
    subst hl0
    obtain ⟨cc, hcc, ho⟩ := grown 0 (by omega)
    have hr := Lib.run_append_nil_zeros (P := Try.prog) w 26 3 ty 5 i0 _ .i64 .i64 Try.underlying26 Try.underlying3 hi0 hz0 k h0 (by omega) (by omega) (by rw [hz2]; omega)
    simp only [Nat.zero_add, List.map_nil, Array.empty_append, List.nil_append] at ho hcc hr ⊢
    subst hcc
    exact ⟨_, _, _, hr, ⟨by simpa using ho, by simpa using hok⟩, ⟨rfl, rfl, rfl, by simp, fun j hj _ => Below.heap_alloc w.drew _ j hj⟩, fun x hx => .inr (by cases hx; rfl)⟩
  · simp only [Value.slice.injEq, true_and] at hv
    obtain ⟨rfl, rfl⟩ := hv
    by_cases hroom : n + k ≤ c
    · have hr := run_append_room_zeros w 26 3 ty 5 i0 _ .i64 .i64 Try.underlying26 Try.underlying3 hi0 hz0 hz1 rfl rfl g n c cur hg k h0 hroom (by omega) (by omega) (by rw [hz2]; omega)
      refine ⟨_, _, _, hr, ⟨⟨by simp [hll], .inr ⟨g, c, _, rfl, hbg, setRow_heap w g cur _ 5 _ hg, hroom, hcm, ?_, ?_⟩⟩, hok⟩, ⟨rfl, rfl, rfl, by simp, fun j _ hj => setRow_other w g j _ (fun e => hj (by simp [e]))⟩, fun x hx => .inl ⟨_, rfl, by cases hx; rfl⟩⟩
      · simp only [List.size_toArray, List.length_append, List.length_take, List.length_drop, Array.length_toList, List.length_replicate]
        omega
      · rw [hmap]
        rw [Nat.mul_one] at htake
        rw [htake]
        show ((l.map (Value.int .u8) ++ List.replicate k (Value.int .u8 0)) ++ _).take _ = _
        rw [List.take_append_of_le_length (by simp [hll])]
        exact List.take_of_length_le (by simp [hll])
    · obtain ⟨cc, hcc, ho⟩ := grown c (by omega)
      have holds : ∀ j u, (l.map (Value.int .u8))[j]? = some u → w.cell? ((⟨g, 0, none⟩ : Addr).add j) = some u := h.row.cells (g := g) rfl
      have hold : (Builtin.firstCells i0.size n (.slice (some ⟨g, 0, none⟩) n c)).run Try.prog w.drew = .ok (l.map (Value.int .u8)).toArray w.drew :=
        run_firstCells_some (P := Try.prog) w.drew i0.size n _ n c _ (by simp [hll, hz1]) holds
      have hr := Lib.run_append_grow_zeros (P := Try.prog) w 26 3 ty 5 i0 _ .i64 .i64 Try.underlying26 Try.underlying3 hi0 hz0 (some ⟨g, 0, none⟩) n c _ hold k h0 (by omega) (by omega) (by omega) (by rw [hz2]; omega) (by rw [hz2]; exact growslice_fits (by omega) (by omega))
      subst hcc
      exact ⟨_, _, _, hr, ⟨ho, hok⟩, ⟨rfl, rfl, rfl, by simp, fun j hj _ => Below.heap_alloc w.drew _ j hj⟩, fun x hx => .inr (by cases hx; rfl)⟩
end Go.Proofs.Ytedhmoihlfjbdaa
namespace Go.Proofs.Ytedhmoihlfjbdaa
open Go.RowKit
set_option linter.unusedVariables false
/-- Block s holds a Sum: cnt rows were added, their exclusive or is l, in a row of its own. -/
structure SumAt (W : World) (s base : Nat) (a : Option Addr) (n c : Nat) (l : List Int) (cnt : Int) : Prop where
  heap : W.heap[s]? = some (.cells #[.slice a n c, .int .i64 cnt] 162 (0, 0))
  own : Own W base a n c l
  ne : ∀ x, a = some x → x.block ≠ s
theorem SumAt.c0 {W : World} {s base : Nat} {a : Option Addr} {n c : Nat} {l : List Int} {cnt : Int} (h : SumAt W s base a n c l cnt) : W.cell? ⟨s, 0, none⟩ = some (.slice a n c) := by
  rw [cell_of_row W s 0 _ _ _ h.heap]; rfl
theorem SumAt.c1 {W : World} {s base : Nat} {a : Option Addr} {n c : Nat} {l : List Int} {cnt : Int} (h : SumAt W s base a n c l cnt) : W.cell? ⟨s, 1, none⟩ = some (.int .i64 cnt) := by
  rw [cell_of_row W s 1 _ _ _ h.heap]; rfl
theorem SumAt.f {W : World} {s base : Nat} {a : Option Addr} {n c : Nat} {l : List Int} {cnt : Int} (h : SumAt W s base a n c l cnt) (o : Nat) : W.frozen? ⟨s, o, none⟩ = false := frozen_of_row W s o _ _ h.heap
theorem SumAt.lt {W : World} {s base : Nat} {a : Option Addr} {n c : Nat} {l : List Int} {cnt : Int} (h : SumAt W s base a n c l cnt) : s < W.heap.size := (Array.getElem?_eq_some_iff.1 h.heap).1
theorem SumAt.keep {W W' : World} {s base : Nat} {a : Option Addr} {n c : Nat} {l : List Int} {cnt : Int} (h : SumAt W s base a n c l cnt) {row : Option Nat} (hg : W.grownBy W' row) (h1 : some s ≠ row) (h2 : ∀ x, a = some x → some x.block ≠ row) : SumAt W' s base a n c l cnt :=
  ⟨(hg.block s h.lt h1).trans h.heap, ⟨h.own.row.kept hg (by cases a with | none => exact .inl rfl | some x => exact .inr (h2 x rfl)), h.own.ok⟩, h.ne⟩
/-- Two worlds that are alike but for block s, block r and new ones. -/
structure Keep2 (w w' : World) (s : Nat) (r : Option Nat) : Prop where
  os : w'.os = w.os
  tape : w'.tape = w.tape
  output : w'.output = w.output
  size : w.heap.size ≤ w'.heap.size
  block : ∀ k, k < w.heap.size → k ≠ s → some k ≠ r → w'.heap[k]? = w.heap[k]?
theorem Keep2.refl (w : World) (s : Nat) (r : Option Nat) : Keep2 w w s r := ⟨rfl, rfl, rfl, Nat.le_refl _, fun _ _ _ _ => rfl⟩
theorem Keep2.of_row {w w' : World} {r : Option Nat} (h : w.grownBy w' r) (s : Nat) : Keep2 w w' s r := ⟨h.os, h.tape, h.output, h.size, fun k hk _ hr => h.block k hk hr⟩
theorem Keep2.setS {w : World} (s o : Nat) (v : Value) (r : Option Nat) : Keep2 w (w.setCell ⟨s, o, none⟩ v) s r := ⟨rfl, rfl, rfl, by simp, fun k _ hk _ => Below.heap_setCell w _ _ k hk⟩
theorem Keep2.trans {a b c : World} {s : Nat} {r r' : Option Nat} (h : Keep2 a b s r) (k : Keep2 b c s r') (hr : ∀ x, r' = some x → r = some x ∨ a.heap.size ≤ x) : Keep2 a c s r :=
  ⟨k.os.trans h.os, k.tape.trans h.tape, k.output.trans h.output, Nat.le_trans h.size k.size, fun i hi h1 h2 => (k.block i (Nat.lt_of_lt_of_le hi h.size) h1 (fun e => by rcases hr i e.symm with h' | h' <;> first | exact h2 h'.symm | omega)).trans (h.block i hi h1 h2)⟩
theorem Keep2.bat {w w' : World} {s : Nat} {r : Option Nat} {a : Option Addr} {n : Nat} {l : List Int} (h : Keep2 w w' s r) (hb : BAt w a n l) (hne : 0 < n → ∀ x, a = some x → x.block ≠ s ∧ some x.block ≠ r) : BAt w' a n l :=
  hb.same h.size fun x h0 hx hlt => h.block x.block hlt (hne h0 x hx).1 (hne h0 x hx).2
theorem Keep2.below {w w' : World} {s B : Nat} {r : Option Nat} (h : Keep2 w w' s r) (hs : B ≤ s) (hr : ∀ x, r = some x → B ≤ x) (hB : B ≤ w.heap.size) : Below B w w' :=
  ⟨h.os, h.tape, h.output, h.size, fun k hk => h.block k (by omega) (by omega) (fun e => by have := hr k e.symm; omega)⟩
/-- The exclusive or, done for the first k bytes. -/
def Str.part (l b : List Int) (n k : Nat) : List Int := (List.range n).map fun j => if j < k then Str.bx (l.getD j 0) (b.getD j 0) else l.getD j 0
theorem Str.part_len (l b : List Int) (n k : Nat) : (Str.part l b n k).length = n := by simp [Str.part]
theorem Str.part_at (l b : List Int) (n k j : Nat) (h : j < n) : (Str.part l b n k).getD j 0 = if j < k then Str.bx (l.getD j 0) (b.getD j 0) else l.getD j 0 := by
  simp [Str.part, List.getD_eq_getElem?_getD, h]
theorem Str.part_ok {l b : List Int} (hl : Str.Ok l) (hb : Str.Ok b) (n k : Nat) : Str.Ok (Str.part l b n k) := fun j => by
  by_cases h : j < n
  · rw [Str.part_at l b n k j h]; split
    · exact Str.bx_byte (hl j) (hb j)
    · exact hl j
  · rw [getD_out (by rw [Str.part_len]; omega)]; omega
theorem Str.part_zero (l b : List Int) (n : Nat) (hn : l.length ≤ n) : l ++ List.replicate (n - l.length) 0 = Str.part l b n 0 := by
  refine getD_ext (by simp [Str.part_len]; omega) fun i hi => ?_
  rw [Str.part_at l b n 0 i (by simp at hi; omega), if_neg (by omega)]
  rw [List.getD_eq_getElem?_getD, List.getD_eq_getElem?_getD, List.getElem?_append]
  split
  · rfl
  · rename_i h; rw [List.getElem?_eq_none (l := l) (by omega), List.getElem?_replicate]; split <;> rfl
theorem Str.part_all (l b : List Int) (n : Nat) (hl : Str.Ok l) (h1 : n = max l.length b.length) : Str.part l b n b.length = Str.xor l b := by
  refine getD_ext (by rw [Str.part_len, Str.xor_len]; exact h1) fun i hi => ?_
  rw [Str.part_len] at hi
  rw [Str.part_at l b n _ i hi, Str.xor_at]
  split
  · rfl
  · rw [getD_out (a := b) (by omega), Str.bx_zero (hl i).1]
theorem Str.part_set (l b : List Int) (n k : Nat) (hk : k < n) : (Str.part l b n k).set k (Str.bx (l.getD k 0) (b.getD k 0)) = Str.part l b n (k + 1) := by
  refine getD_ext (by simp [Str.part_len]) fun i hi => ?_
  rw [List.length_set, Str.part_len] at hi
  rw [Str.part_at l b n (k + 1) i hi, List.getD_eq_getElem?_getD, List.getElem?_set]
  have h0 := Str.part_at l b n k i hi
  rw [List.getD_eq_getElem?_getD] at h0
  by_cases e : k = i
  · subst e; rw [if_pos rfl, if_pos (by rw [Str.part_len]; exact hi), if_pos (by omega)]; rfl
  · rw [if_neg e, h0]
    by_cases h1 : i < k
    · rw [if_pos h1, if_pos (by omega)]
    · rw [if_neg h1, if_neg (by omega)]
/-- A store into the row. -/
theorem Own.set {W : World} {base g n c : Nat} {l : List Int} (h : Own W base (some ⟨g, 0, none⟩) n c l) (j : Nat) (x : Int) (hx : 0 ≤ x ∧ x < 256) : Own (W.setCell ⟨g, j, none⟩ (.int .u8 x)) base (some ⟨g, 0, none⟩) n c (l.set j x) := by
  refine ⟨?_, fun i => ?_⟩
  · have := (h.row.stored j (.int .u8 x)).1
    rwa [← List.map_set] at this
  · rw [List.getD_eq_getElem?_getD, List.getElem?_set]
    have h0 := h.ok i
    rw [List.getD_eq_getElem?_getD] at h0
    split
    · split
      · exact hx
      · exact ⟨by simp, by simp⟩
    · exact h0
theorem Own.form {W : World} {base : Nat} {a : Option Addr} {n c : Nat} {l : List Int} (h : Own W base a n c l) (hn : 0 < n) : ∃ g, a = some ⟨g, 0, none⟩ := by
  rcases h.row.2 with ⟨_, h0⟩ | ⟨g, cap, cur, hv, _⟩
  · omega
  · simp only [Value.slice.injEq] at hv; exact ⟨g, hv.1⟩
theorem SumAt.count {W : World} {s base : Nat} {a : Option Addr} {n c : Nat} {l : List Int} {cnt : Int} (h : SumAt W s base a n c l cnt) (k : Int) : SumAt (W.setCell ⟨s, 1, none⟩ (.int .i64 k)) s base a n c l k :=
  ⟨heap_setCell_same W s 1 _ _ _ h.heap, ⟨h.own.row.kept (row := some s) ⟨rfl, rfl, rfl, by simp, fun j _ hj => Below.heap_setCell W _ _ j (fun e => hj (by rw [e]))⟩ (by cases a with | none => exact .inl rfl | some x => exact .inr (fun e => h.ne x rfl (by simpa [Value.ownBlock] using e))), h.own.ok⟩, h.ne⟩
theorem SumAt.point {W : World} {s base : Nat} {a : Option Addr} {n c : Nat} {cnt : Int} (hh : W.heap[s]? = some (.cells #[.slice a n c, .int .i64 cnt] 162 (0, 0))) {a' : Option Addr} {n' c' : Nat} {l' : List Int} (h : Own W base a' n' c' l') (hn : ∀ x, a' = some x → x.block ≠ s) : SumAt (W.setCell ⟨s, 0, none⟩ (.slice a' n' c')) s base a' n' c' l' cnt :=
  ⟨heap_setCell_same W s 0 _ _ _ hh, ⟨h.row.kept (row := some s) ⟨rfl, rfl, rfl, by simp, fun j _ hj => Below.heap_setCell W _ _ j (fun e => hj (by rw [e]))⟩ (by cases a' with | none => exact .inl rfl | some x => exact .inr (fun e => hn x rfl (by simpa [Value.ownBlock] using e))), h.ok⟩, hn⟩
def AddPost (s base : Nat) (l : List Int) (n : Nat) (cnt : Int) (w : World) (r : Option Nat) (e : Ending) (w' : World) : Prop :=
  e = .returned (.tuple #[]) ∧ ∃ a' c', SumAt w' s base a' n c' l cnt ∧ Keep2 w w' s r ∧ ∀ x, a' = some x → r = some x.block ∨ w.heap.size ≤ x.block
set_option maxHeartbeats 1000000 in
set_option maxRecDepth 100000 in
/-- Where the row is long enough. -/
theorem add_room (s base : Nat) (a : Option Addr) (n c : Nat) (l : List Int) (cnt : Int) (pa : Option Addr) (pn pc : Nat) (lb : List Int) (w : World)
    (hS : SumAt w s base a n c l cnt) (hb : BAt w pa pn lb) (hne : 0 < pn → ∀ x, pa = some x → x.block ≠ s ∧ some x.block ≠ a.map (·.block)) (hc0 : 0 ≤ cnt) (hc1 : cnt ≤ 4611686018427387904) (hlt : pn ≤ n) :
    Calls Try.prog 91 #[.pointer (some ⟨s, 0, none⟩), .slice pa pn pc] w (AddPost s base (Str.xor l lb) n (cnt + 1) w (a.map (·.block))) := by
  have hc := hS.c0
  have hz1 := hS.own.bat.lim; have hz2 := hb.lim
  have hl := hS.own.len; have hlb := hb.len
  have hsub : IntKind.i64.wrap ((pn : Int) - (n : Int)) = (pn : Int) - (n : Int) := by rw [IntKind.wrap_i64]; omega
  have HS := Lib.hid hS; have HB := Lib.hid hb; have HN := Lib.hid hne; have HL := Lib.hid hl; have HLB := Lib.hid hlb
  clear hS hb hne hl hlb
  have hneg : ¬ (0 : Int) < (pn : Int) - (n : Int) := by omega
  go_enter Try.func91, Try.ntmps91
  go_wp2
  go_loopw [28] (fun i wr => ∃ k : Nat, k ≤ pn ∧ i = .int .i64 k ∧ Hid (SumAt wr s base a n c (Str.part l lb n k) cnt ∧ Keep2 w wr s (a.map (·.block)))) (fun i _ => pn - (intOf i).toNat)
  case atStart => exact ⟨0, Nat.zero_le _, rfl, Lib.hid ⟨by rw [← Str.part_zero l lb n (by rw [HL.out]; exact Nat.le_refl _), HL.out, Nat.sub_self, List.replicate_zero, List.append_nil]; exact HS.out, Keep2.refl _ _ _⟩⟩
  case round =>
    obtain ⟨k, hk, rfl, HW⟩ := hrel
    by_cases hkn : k < pn
    · have hkz : (k : Int) < (pn : Int) := by omega
      have hkz2 : (k : Int) < (n : Int) := by omega
      obtain ⟨g, rfl⟩ := HW.out.1.own.form (by omega)
      obtain ⟨b, o, hr⟩ := (HW.out.2.bat HB.out HN.out).row
      obtain ⟨rfl, _, q2, q3, q4⟩ := hr k hkn
      clear hr
      have d0 := HW.out.1.c0
      have dR := HW.out.1.own.row.cellAt k (by omega)
      have dF := HW.out.1.own.row.frozenAt k
      have ex : ((Str.part l lb n k).map (Value.int .u8))[k]? = some (.int .u8 (l.getD k 0)) := by
        have := Str.part_at l lb n k k (by omega)
        rw [if_neg (by omega), List.getD_eq_getElem?_getD, List.getElem?_eq_getElem (by rw [Str.part_len]; omega)] at this
        rw [List.getElem?_map, List.getElem?_eq_getElem (by rw [Str.part_len]; omega)]
        simp only [Option.map_some, Option.some.injEq, Value.int.injEq, true_and]
        exact this
      rw [ex] at dR
      have q1 := HS.out.own.ok k
      have hx := Str.bits_xor q1 ⟨q3, q4⟩
      have hset := Str.part_set l lb n k (by omega)
      have hby := Str.bx_byte q1 ⟨q3, q4⟩
      generalize l.getD k 0 = x at dR q1 hx hset hby
      generalize lb.getD k 0 = y at q2 q3 q4 hx hset hby
      have HX := Lib.hid hx; have HSET := Lib.hid hset; have HBY := Lib.hid hby
      clear hx ex hset hby
      go_wp2
      go_roundw
      case rel =>
        refine ⟨k + 1, by omega, by go_num, Lib.hid ⟨?_, ?_⟩⟩
        · rw [HX.out, ← HSET.out]
          exact ⟨(Below.heap_setCell wr ⟨g, k, none⟩ _ s (fun e => HW.out.1.ne ⟨g, 0, none⟩ rfl e.symm)).trans HW.out.1.heap, HW.out.1.own.set k _ HBY.out, HW.out.1.ne⟩
        · exact HW.out.2.trans (Keep2.of_row (HW.out.1.own.row.stored k _).2 s) (fun x e => .inl e)
      case measure => simp [intOf]; omega
    · have hkz : ¬ (k : Int) < (pn : Int) := by omega
      obtain rfl : k = pn := by omega
      have d1 := HW.out.1.c1
      have f1 := HW.out.1.f 1
      go_wp2
      refine bodyPost_ret (v := .tuple #[]) (by simp [results, Try.results91, go_sem]) rfl ⟨rfl, a, c, ?_, HW.out.2.trans (Keep2.setS s 1 _ none) (fun x e => by cases e), fun x e => .inl (by rw [e]; rfl)⟩
      have hF := HW.out.1.count (cnt + 1)
      rwa [← HLB.out, Str.part_all l lb n HS.out.own.ok (by have := HL.out; have := HLB.out; omega)] at hF
set_option maxHeartbeats 1000000 in
set_option maxRecDepth 100000 in
/-- Where the row must grow. -/
theorem add_grow (s base : Nat) (a : Option Addr) (n c : Nat) (l : List Int) (cnt : Int) (pa : Option Addr) (pn pc : Nat) (lb : List Int) (w : World)
    (hS : SumAt w s base a n c l cnt) (hb : BAt w pa pn lb) (hne : 0 < pn → ∀ x, pa = some x → x.block ≠ s ∧ some x.block ≠ a.map (·.block)) (hc0 : 0 ≤ cnt) (hc1 : cnt ≤ 4611686018427387904) (hlt : n < pn) (hlim : pn ≤ 140737488355328) (hbase : base ≤ w.heap.size) :
    Calls Try.prog 91 #[.pointer (some ⟨s, 0, none⟩), .slice pa pn pc] w (AddPost s base (Str.xor l lb) pn (cnt + 1) w (a.map (·.block))) := by
  have hc := hS.c0
  have hl := hS.own.len; have hlb := hb.len
  obtain ⟨d, hd⟩ : ∃ d, pn = n + d := ⟨pn - n, by omega⟩
  obtain ⟨a1, c1, w1, hrun, hown, hgrow, hloc⟩ := append_zeros_own w 26 base a n c l hS.own d (by omega) (by omega) hbase
  rw [← hd] at hrun hown
  have hsub : IntKind.i64.wrap ((pn : Int) - (n : Int)) = (d : Int) := by rw [IntKind.wrap_i64]; omega
  have hh1 : w1.heap[s]? = some (.cells #[.slice a n c, .int .i64 cnt] 162 (0, 0)) := (hgrow.block s hS.lt (fun e => by cases a with | none => cases e | some x => exact hS.ne x rfl (by simpa using e.symm))).trans hS.heap
  have hc' : w1.cell? ⟨s, 0, none⟩ = some (.slice a n c) := by rw [cell_of_row w1 s 0 _ _ _ hh1]; rfl
  have hf' : w1.frozen? ⟨s, 0, none⟩ = false := frozen_of_row w1 s 0 _ _ hh1
  have hn1 : ∀ x, a1 = some x → x.block ≠ s := fun x hx => by
    rcases hloc x hx with ⟨y, hy, e⟩ | e
    · rw [e]; exact hS.ne y hy
    · rw [e]; exact fun e => by have := hS.lt; omega
  have hS2 := SumAt.point hh1 hown hn1
  rw [show l ++ List.replicate d 0 = Str.part l lb pn 0 from by rw [← Str.part_zero l lb pn (by omega)]; congr 2; omega] at hS2
  have hK2 : Keep2 w (w1.setCell ⟨s, 0, none⟩ (.slice a1 pn c1)) s (a.map (·.block)) := (Keep2.of_row hgrow s).trans (Keep2.setS s 0 _ none) (fun x e => by cases e)
  have hloc2 : ∀ x, a1 = some x → a.map (·.block) = some x.block ∨ w.heap.size ≤ x.block := fun x hx => by
    rcases hloc x hx with ⟨y, hy, e⟩ | e
    · exact .inl (by rw [hy, e]; rfl)
    · exact .inr (by omega)
  have HS := Lib.hid hS; have HB := Lib.hid hb; have HN := Lib.hid hne; have HL := Lib.hid hl; have HLB := Lib.hid hlb; have HS2 := Lib.hid hS2; have HK2 := Lib.hid hK2; have HLOC := Lib.hid hloc2; have HRUN := Lib.hid hrun
  have hpos : (0 : Int) < (d : Int) := by omega
  clear hS hb hne hl hlb hS2 hK2 hloc hloc2 hrun hown hgrow hh1 hn1 hd
  go_enter Try.func91, Try.ntmps91
  go_wp2_with (at_builtin; refine Lib.wpList_append_run _ rfl (.tmp 21) (.tmp 22) 26 3 rfl (.slice a n c) (.int .i64 d) (by rfl) (by rfl) _ _ HRUN.out ?_)
  go_loopw [28] (fun i wr => ∃ k : Nat, k ≤ pn ∧ i = .int .i64 k ∧ Hid (SumAt wr s base a1 pn c1 (Str.part l lb pn k) cnt ∧ Keep2 w wr s (a.map (·.block)))) (fun i _ => pn - (intOf i).toNat)
  case atStart => exact ⟨0, Nat.zero_le _, rfl, Lib.hid ⟨HS2.out, HK2.out⟩⟩
  case round =>
    obtain ⟨k, hk, rfl, HW⟩ := hrel
    by_cases hkn : k < pn
    · have hkz : (k : Int) < (pn : Int) := by omega
      obtain ⟨g, rfl⟩ := HW.out.1.own.form (by omega)
      obtain ⟨b, o, hr⟩ := (HW.out.2.bat HB.out HN.out).row
      obtain ⟨rfl, _, q2, q3, q4⟩ := hr k hkn
      clear hr
      have d0 := HW.out.1.c0
      have dR := HW.out.1.own.row.cellAt k (by omega)
      have dF := HW.out.1.own.row.frozenAt k
      have ex : ((Str.part l lb pn k).map (Value.int .u8))[k]? = some (.int .u8 (l.getD k 0)) := by
        have := Str.part_at l lb pn k k (by omega)
        rw [if_neg (by omega), List.getD_eq_getElem?_getD, List.getElem?_eq_getElem (by rw [Str.part_len]; omega)] at this
        rw [List.getElem?_map, List.getElem?_eq_getElem (by rw [Str.part_len]; omega)]
        simp only [Option.map_some, Option.some.injEq, Value.int.injEq, true_and]
        exact this
      rw [ex] at dR
      have q1 := HS.out.own.ok k
      have hx := Str.bits_xor q1 ⟨q3, q4⟩
      have hset := Str.part_set l lb pn k (by omega)
      have hby := Str.bx_byte q1 ⟨q3, q4⟩
      generalize l.getD k 0 = x at dR q1 hx hset hby
      generalize lb.getD k 0 = y at q2 q3 q4 hx hset hby
      have HX := Lib.hid hx; have HSET := Lib.hid hset; have HBY := Lib.hid hby
      clear hx ex hset hby
      clear hc hc' hf' HS2 HK2 HRUN
      go_wp2
      go_roundw
      case rel =>
        refine ⟨k + 1, by omega, by go_num, Lib.hid ⟨?_, ?_⟩⟩
        · rw [HX.out, ← HSET.out]
          exact ⟨(Below.heap_setCell wr ⟨g, k, none⟩ _ s (fun e => HW.out.1.ne ⟨g, 0, none⟩ rfl e.symm)).trans HW.out.1.heap, HW.out.1.own.set k _ HBY.out, HW.out.1.ne⟩
        · exact HW.out.2.trans (Keep2.of_row (HW.out.1.own.row.stored k _).2 s) (fun x e => by cases e; exact HLOC.out _ rfl)
      case measure => simp [intOf]; omega
    · have hkz : ¬ (k : Int) < (pn : Int) := by omega
      obtain rfl : k = pn := by omega
      have d1 := HW.out.1.c1
      have f1 := HW.out.1.f 1
      clear hc hc' hf' HS2 HK2 HRUN
      go_wp2
      refine bodyPost_ret (v := .tuple #[]) (by simp [results, Try.results91, go_sem]) rfl ⟨rfl, a1, c1, ?_, HW.out.2.trans (Keep2.setS s 1 _ none) (fun x e => by cases e), HLOC.out⟩
      have hF := HW.out.1.count (cnt + 1)
      have hp := Str.part_all l lb k HS.out.own.ok (by have := HL.out; have := HLB.out; omega)
      rw [HLB.out] at hp
      rwa [hp] at hF
theorem sumadd_any (s base : Nat) (a : Option Addr) (n c : Nat) (l : List Int) (cnt : Int) (pa : Option Addr) (pn pc : Nat) (lb : List Int) (w : World)
    (hS : SumAt w s base a n c l cnt) (hb : BAt w pa pn lb) (hne : 0 < pn → ∀ x, pa = some x → x.block ≠ s ∧ some x.block ≠ a.map (·.block)) (hc0 : 0 ≤ cnt) (hc1 : cnt ≤ 4611686018427387904) (hlim : pn ≤ 140737488355328) (hbase : base ≤ w.heap.size) :
    Calls Try.prog 91 #[.pointer (some ⟨s, 0, none⟩), .slice pa pn pc] w (AddPost s base (Str.xor l lb) (max n pn) (cnt + 1) w (a.map (·.block))) := by
  by_cases h : pn ≤ n
  · rw [Nat.max_eq_left h]; exact add_room s base a n c l cnt pa pn pc lb w hS hb hne hc0 hc1 h
  · rw [Nat.max_eq_right (by omega)]; exact add_grow s base a n c l cnt pa pn pc lb w hS hb hne hc0 hc1 (by omega) hlim hbase
/-- append([]byte(nil), b...): a copy of bytes, as the builtin makes it. -/
theorem append_copy (w : World) (ty : TypeId) (a : Option Addr) (n c : Nat) (l : List Int) (h : BAt w a n l) (hlim : n ≤ 140737488355328) :
    ∃ a' c' w', (Builtin.append_ #[26, 26] ty #[.slice none 0 0, .slice a n c]).run Try.prog w = .ok (.slice a' n c') w' ∧ Own w' w.heap.size a' n c' l ∧ Below w.heap.size w w' := by
  obtain ⟨i0, hi0, hz0, hz1, hz2⟩ := info_parts info_u8
  by_cases h0 : n = 0
  · subst h0
    have hl0 : l = [] := List.eq_nil_of_length_eq_zero h.len
    subst hl0
    refine ⟨none, 0, w, ?_, ⟨World.ownsRow_nil w _ _ _, Str.ok_nil⟩, Below.refl _ _⟩
    simp [Builtin.append_, run_underlying Try.underlying26, sizeOf, typeInfo, hi0, Builtin.lenOf, Builtin.firstCells]
    cases a <;> simp [loadCells, loadCellsFrom]
  · have hpos : 0 < ((l.take n).map (Value.int .u8)).length := by have := h.len; simp; omega
    obtain ⟨ad, rfl, hsrc⟩ := bat_src h n hpos
    rw [List.take_of_length_le (by have := h.len; omega)] at hsrc
    obtain ⟨v', w', hr, ho, hg, hnil, hat⟩ := run_append_own_at (P := Try.prog) w w.heap.size 26 ty 5 i0 (.int .u8 0) 1 1 Try.underlying26 hi0 hz0 hz1 hz2 rfl (by decide) (.slice none 0 0) 0 [] (World.ownsRow_nil w _ _ _) ad n c (l.map (Value.int .u8)) (by have := h.len; simp; omega) hsrc (one_u8 l) (by unfold maxLen; omega) (by omega) (Nat.le_refl _)
    simp only [Nat.zero_add, List.nil_append] at ho
    rcases ho.2 with ⟨_, e⟩ | ⟨g, cap, cur, rfl, _⟩
    · omega
    · exact ⟨_, _, w', hr, ⟨ho, h.ok⟩, (Below.refl _ w).grown hg (Nat.le_refl _) (fun k e => by cases e)⟩
theorem bytes_any (s base : Nat) (a : Option Addr) (n c : Nat) (l : List Int) (cnt : Int) (w : World) (hS : SumAt w s base a n c l cnt) (hlim : n ≤ 140737488355328) :
    Calls Try.prog 92 #[.pointer (some ⟨s, 0, none⟩)] w (NewB n l w) := by
  have hc := hS.c0
  obtain ⟨a', c', w', hrun, ho, hb⟩ := append_copy w 26 a n c l hS.own.bat hlim
  have HRUN := Lib.hid hrun; clear hrun
  go_enter Try.func92, Try.ntmps92
  go_wp2_with (at_builtin; refine Lib.wpList_append_run _ rfl _ _ 26 26 rfl (.slice none 0 0) (.slice a n c) (by rfl) (by rfl) _ _ HRUN.out ?_)
  go_ret
  exact ⟨_, _, rfl, ho, hb⟩
end Go.Proofs.Ytedhmoihlfjbdaa
