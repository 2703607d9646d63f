
/-
  ImprintFolds: the iterator over its imprints.
-/
import Derived.Test.YtppgjodehphaeaaIbRow
import Derived.Test.YtppgjodehphaeaaIbAdd
namespace Go.Proofs.Ytppgjodehphaeaa
open Go.RowKit Go.Shelf
set_option linter.unusedVariables false
attribute [local go_sem] Oper.semAt_some
set_option maxHeartbeats 1000000 in
set_option maxRecDepth 100000 in
theorem ifolds_rel (n : Nat) (hn : 1 ≤ n) (B : Nat) (a : Option Addr) (len c b o : Nat) (hlen : len ≤ 9223372036854775807) (ha : 0 < len → a = some ⟨b, o, none⟩) (h : Nat → Nat → Int) (ad : Nat → Option Addr) (nd cd : Nat → Nat) :
    SeqRel Fence.wide n Try.prog 23 #[.pointer (some ⟨B, 0, none⟩)] (ivalsRel h ad nd cd) len 0 (ivalsPre B a len c b o h ad nd cd) := by
  rintro l J Jx W hP hJ hJx hY h0
  have c0 := (hP 0 W h0).1
  have HY := Lib.hid hY; clear hY
  have HJ := Lib.hid hJ; have HJx := Lib.hid hJx; have HP := Lib.hid hP; have HA := Lib.hid ha; clear hJ hJx hP ha
  refine callsIn_of_wp Try.func23 rfl trivial ?_ rfl
  simp only [Try.ntmps23, List.size_toArray, List.length_cons, List.length_nil, Nat.reduceAdd, Nat.reduceSub, Array.replicate_succ, Array.replicate_zero, List.push_toArray, List.append_toArray, List.nil_append, List.cons_append]
  gi_wp2
  gi_loopw [7] (fun i wr => ∃ k : Nat, k ≤ len ∧ i = .int .i64 k ∧ Hid (J k wr) ∧ W.heap.size ≤ wr.heap.size) (fun i _ => len - (intOf i).toNat)
  case atStart => exact ⟨0, Nat.zero_le _, rfl, Lib.hid h0, Nat.le_refl _⟩
  case round =>
    clear h0 c0
    obtain ⟨k, hk, rfl, HJk, hsz⟩ := hrel
    by_cases hlt : k < len
    · have hltz : (k : Int) < (len : Int) := by omega
      obtain rfl := HA.out (by omega)
      obtain ⟨c1, c2, c3, c4, c5, c6, c7, c8, c9⟩ := (HP.out k wr HJk.out).2 k hlt
      obtain ⟨fn, tmps, assign, body, hy, hR⟩ := HY.out k #[.agg #[.int .u8 (h k 0), .int .u8 (h k 1), .int .u8 (h k 2), .int .u8 (h k 3), .int .u8 (h k 4), .int .u8 (h k 5), .int .u8 (h k 6), .int .u8 (h k 7), .slice (ad k) (nd k) (cd k)]] wr (wr.alloc (.cells #[.int .u8 (h k 0), .int .u8 (h k 1), .int .u8 (h k 2), .int .u8 (h k 3), .int .u8 (h k 4), .int .u8 (h k 5), .int .u8 (h k 6), .int .u8 (h k 7), .slice (ad k) (nd k) (cd k)] 27)) hlt HJk.out (grown_alloc wr _) rfl (by omega)
      have HR := Lib.hid hR; clear hR
      gi_wp2
      refine HR.out.mono ?_
      clear hy HR
      rintro e W2 (⟨rfl, hJ2, hs2, hk2⟩ | ⟨rfl, hJx2⟩)
      · have hs2' : wr.heap.size + 1 ≤ W2.heap.size := by simpa using hs2
        have HJ2 := Lib.hid hJ2; clear hJ2 hk2 hs2
        gi_wp2
        go_roundw
        case rel => exact ⟨k + 1, by omega, by go_num, HJ2, by omega⟩
        case measure => simp [intOf]; omega
      · gi_wp2
        refine bodyPost_ret (results_none rfl _ _ _) rfl ?_
        exact ⟨⟨_, rfl⟩, .inr ⟨k + 1, by omega, hJx2⟩⟩
    · have hltz : ¬ (k : Int) < (len : Int) := by omega
      obtain rfl : k = len := by omega
      gi_wp2
      go_end0
      exact ⟨⟨_, rfl⟩, .inl HJk.out⟩
theorem if_nil (B : Nat) (w : World) : (binOp .eql 82 (.func (.func 23) #[] #[.pointer (some ⟨B, 0, none⟩)]) .nilFunc).run Try.prog w = .ok (.bool false) w := by kernel_rfl
theorem if_ent : Enters Try.prog 23 := fun args w => by
  first | kernel_rfl | simp [go_sem]
/-- A row of imprints, cell by cell. -/
theorem IRow.at {W : World} {base : Nat} {a : Option Addr} {i c : Nat} {h : Nat → Nat → Int} {A : Nat → Option Addr} {bs : Nat → List Int} {C : Nat → Nat} (hr : IRow W base a i c h A bs C) : ∃ g, (0 < i → a = some ⟨g, 0, none⟩) ∧ (0 < i → base ≤ g ∧ g < W.heap.size) ∧ ∀ k, k < i → IvAt W g 0 k h A (fun j => (bs j).length) C := by
  rcases hr.row.2 with ⟨hv, rfl⟩ | ⟨g, cap, cur, hv, hb, hg, h1, h2, h3, h4⟩
  · exact ⟨0, fun e => by omega, fun e => by omega, fun k hk => by omega⟩
  · simp only [Value.slice.injEq, true_and] at hv
    obtain ⟨rfl, rfl⟩ := hv
    refine ⟨g, fun _ => rfl, fun _ => ⟨hb, (Array.getElem?_eq_some_iff.1 hg).1⟩, fun k hk => ?_⟩
    have key : ∀ j, j < 9 → W.cell? ⟨g, 0 + k * 9 + j, none⟩ = ([.int .u8 (h k 0), .int .u8 (h k 1), .int .u8 (h k 2), .int .u8 (h k 3), .int .u8 (h k 4), .int .u8 (h k 5), .int .u8 (h k 6), .int .u8 (h k 7), .slice (A k) (bs k).length (C k)] : List Value)[j]? := fun j hj => by
      rw [cell_of_row W g _ _ _ _ hg, ← icells_at h A bs C i k hk j hj, ← h4, List.getElem?_take, if_pos (by have := icells_len h A bs C i; omega), Array.getElem?_toList, Nat.zero_add]
    exact ⟨key 0 (by omega), key 1 (by omega), key 2 (by omega), key 3 (by omega), key 4 (by omega), key 5 (by omega), key 6 (by omega), key 7 (by omega), key 8 (by omega)⟩
end Go.Proofs.Ytppgjodehphaeaa
