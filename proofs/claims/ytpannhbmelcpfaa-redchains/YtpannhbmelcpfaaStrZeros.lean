
/-
  append(s, make([]byte, k)...) onto a slice of bytes in a row of its own. My own law, over the kit's run_append_grow_zeros (no room) and run_storeCells_at (room).
-/
import Derived.Test.YtpannhbmelcpfaaStrFit
import Derived.Lib.AppendZerosOnto
namespace Go.Proofs.Ytpannhbmelcpfaa
open Go.RowKit
set_option linter.unusedVariables false
theorem zeroCells_one (z : Value) (n : Nat) : (Builtin.zeroCells #[z] n).toList = List.replicate n z := by
  apply List.ext_getElem?
  intro j
  by_cases hj : j < n
  · simp [Builtin.zeroCells, hj, Nat.mod_one]
  · simp [Builtin.zeroCells, hj]
theorem run_append_room_zeros (w : World) (t tn ty e : TypeId) (i : TypeInfo) (z : Value) (kq kn : IntKind) (ht : Try.prog.underlying t = some (.slice e)) (htn : Try.prog.underlying tn = some (.int kn)) (hi : Try.prog.info? e = some i) (hz : i.zero = some z) (hsz : i.size = 1) (hzc : z.cells = #[z]) (h1 : z.oneCell' = true)
    (g sLen sCap : Nat) (cur : Array Value) (hg : w.heap[g]? = some (.cells cur e (0, 0))) (k : Nat) (h0 : 0 < k) (hroom : sLen + k ≤ sCap) (hfit : sLen + k ≤ cur.size) (h63 : ((k : Nat) : Int) ≤ 9223372036854775807) (h48 : k * i.bytes ≤ 281474976710656) :
    (Builtin.append_ #[t, tn] ty #[.slice (some ⟨g, 0, none⟩) sLen sCap, .int kq k]).run Try.prog w =
      .ok (.slice (some ⟨g, 0, none⟩) (sLen + k) sCap) (w.setRow g (cur.toList.take sLen ++ List.replicate k z ++ cur.toList.drop (sLen + k)).toArray) := by
  have hk : k ≠ 0 := by omega
  have hw : IntKind.i64.wrap (k : Int) = k := by rw [IntKind.wrap_i64]; omega
  have h48i : ¬ (281474976710656 < (k : Int) * (i.bytes : Int)) := by
    rw [← Int.natCast_mul]
    omega
  have hneg : ¬ ((k : Int) < 0) := by omega
  have hst := run_storeCells_at Try.prog g sLen e (List.replicate k z) 0 cur w hg (by simpa using hfit) (by intro u hu; rw [List.eq_of_mem_replicate hu]; exact h1)
  simp only [Nat.add_zero, List.length_replicate] at hst
  have hzl : (Builtin.zeroCells z.cells k).toList = List.replicate k z := by rw [hzc]; exact zeroCells_one z k
  simp [Builtin.append_, run_underlying ht, run_underlying htn, sizeOf, typeInfo, zeroValue, hi, hz, hsz, asInt, asIntOf, hw, hneg, hk, h48i, hroom, Addr.add_lit, hzl, hst]
/-- Zeros behind bytes of one's own. -/
theorem append_zeros_own (w : World) (ty : TypeId) (base : Nat) (a : Option Addr) (n c : Nat) (l : List Int) (h : Own w base a n c l) (k : Nat) (h0 : 0 < k) (hlim : n + k ≤ 140737488355328) (hbase : base ≤ w.heap.size) :
    ∃ a' c' w', (Builtin.append_ #[25, 3] ty #[.slice a n c, .int .i64 k]).run Try.prog w = .ok (.slice a' (n + k) c') w' ∧
      Own w' base a' (n + k) c' (l ++ List.replicate k 0) ∧ w.grownBy w' (a.map (·.block)) ∧ (∀ x, a' = some x → (∃ y, a = some y ∧ x.block = y.block) ∨ x.block = w.heap.size) := by
  obtain ⟨i0, hi0, hz0, hz1, hz2⟩ := info_parts info_u8
  have hok : Str.Ok (l ++ List.replicate k 0) := fun j => by
    rw [List.getD_eq_getElem?_getD, List.getElem?_append]
    split
    · have := h.ok j; rwa [List.getD_eq_getElem?_getD] at this
    · rw [List.getElem?_replicate]; split <;> simp
  have hmap : (l ++ List.replicate k 0).map (Value.int .u8) = l.map (Value.int .u8) ++ List.replicate k (Value.int .u8 0) := by simp
  have hll := h.len
  have grown : ∀ (old : Nat), old < n + k →
      ∃ cc, cc = grownCap w (n + k) old 5 ∧ (w.drew.alloc (.cells ((l.map (Value.int .u8)).toArray ++ Builtin.zeroCells (Value.int .u8 0).cells k ++ Builtin.zeroCells (Value.int .u8 0).cells (cc - (n + k))) 5)).ownsRow base 5 1
        (.slice (some ⟨w.heap.size, 0, none⟩) (n + k) cc) (n + k) ((l ++ List.replicate k 0).map (Value.int .u8)) := by
    intro old ho
    have hge := grownCap_ge w (n + k) old 5
    have hcm : grownCap w (n + k) old 5 ≤ maxLen := grownCap_le_maxLen w (n + k) old 5 (by unfold maxLen; omega)
    refine ⟨_, rfl, by simp [hll], .inr ⟨w.heap.size, _, _, rfl, hbase, heap_alloc_new w.drew _, hge, hcm, ?_, ?_⟩⟩
    · simp only [Array.size_append, List.size_toArray, size_zeroCells, List.length_map, hll]
      show n + k * 1 + (_ - (n + k)) * 1 = _ * 1
      omega
    · have hz : (Builtin.zeroCells (Value.int .u8 0).cells k).toList = List.replicate k (Value.int .u8 0) := zeroCells_one _ _
      simp only [Array.toList_append, hz, hmap]
      rw [List.take_append_of_le_length (by simp [hll])]
      exact List.take_of_length_le (by simp [hll])
  rcases h.row.2 with ⟨hv, rfl⟩ | ⟨g, cap, cur, hv, hbg, hg, hnc, hcm, hcs, htake⟩
  · simp only [Value.slice.injEq, true_and] at hv
    obtain ⟨rfl, rfl⟩ := hv
    have hl0 : l = [] := List.eq_nil_of_length_eq_zero hll
    subst hl0
    obtain ⟨cc, hcc, ho⟩ := grown 0 (by omega)
    have hr := Lib.run_append_nil_zeros (P := Try.prog) w 25 3 ty 5 i0 _ .i64 .i64 Try.underlying25 Try.underlying3 hi0 hz0 k h0 (by omega) (by omega) (by rw [hz2]; omega)
    simp only [Nat.zero_add, List.map_nil, Array.empty_append, List.nil_append] at ho hcc hr ⊢
    subst hcc
    exact ⟨_, _, _, hr, ⟨by simpa using ho, by simpa using hok⟩, ⟨rfl, rfl, rfl, by simp, fun j hj _ => Below.heap_alloc w.drew _ j hj⟩, fun x hx => .inr (by cases hx; rfl)⟩
  · simp only [Value.slice.injEq, true_and] at hv
    obtain ⟨rfl, rfl⟩ := hv
    by_cases hroom : n + k ≤ c
    · have hr := run_append_room_zeros w 25 3 ty 5 i0 _ .i64 .i64 Try.underlying25 Try.underlying3 hi0 hz0 hz1 rfl rfl g n c cur hg k h0 hroom (by omega) (by omega) (by rw [hz2]; omega)
      refine ⟨_, _, _, hr, ⟨⟨by simp [hll], .inr ⟨g, c, _, rfl, hbg, setRow_heap w g cur _ 5 _ hg, hroom, hcm, ?_, ?_⟩⟩, hok⟩, ⟨rfl, rfl, rfl, by simp, fun j _ hj => setRow_other w g j _ (fun e => hj (by simp [e]))⟩, fun x hx => .inl ⟨_, rfl, by cases hx; rfl⟩⟩
      · simp only [List.size_toArray, List.length_append, List.length_take, List.length_drop, Array.length_toList, List.length_replicate]
        omega
      · rw [hmap]
        rw [Nat.mul_one] at htake
        rw [htake]
        show ((l.map (Value.int .u8) ++ List.replicate k (Value.int .u8 0)) ++ _).take _ = _
        rw [List.take_append_of_le_length (by simp [hll])]
        exact List.take_of_length_le (by simp [hll])
    · obtain ⟨cc, hcc, ho⟩ := grown c (by omega)
      have holds : ∀ j u, (l.map (Value.int .u8))[j]? = some u → w.cell? ((⟨g, 0, none⟩ : Addr).add j) = some u := h.row.cells (g := g) rfl
      have hold : (Builtin.firstCells i0.size n (.slice (some ⟨g, 0, none⟩) n c)).run Try.prog w.drew = .ok (l.map (Value.int .u8)).toArray w.drew :=
        run_firstCells_some (P := Try.prog) w.drew i0.size n _ n c _ (by simp [hll, hz1]) holds
      have hr := Lib.run_append_grow_zeros (P := Try.prog) w 25 3 ty 5 i0 _ .i64 .i64 Try.underlying25 Try.underlying3 hi0 hz0 (some ⟨g, 0, none⟩) n c _ hold k h0 (by omega) (by omega) (by omega) (by rw [hz2]; omega) (by rw [hz2]; exact growslice_fits (by omega) (by omega))
      subst hcc
      exact ⟨_, _, _, hr, ⟨ho, hok⟩, ⟨rfl, rfl, rfl, by simp, fun j hj _ => Below.heap_alloc w.drew _ j hj⟩, fun x hx => .inr (by cases hx; rfl)⟩
end Go.Proofs.Ytpannhbmelcpfaa
